import PyProof.Rows.All
import Wide.All
import OpenK.AllK
import Wide.FinOn
import Lean
import PyProof.EqAt
import PyProof.EqKinds
import PyProof.TupleCall
import KE.KRevSl
import KE.KUnpack
import PyProof.SumAny
import PyProof.WalksS
import PyProof.NeKinds
import KE.BitLaws
import PySem.Challenge.RW_gatepapers_k34_values_walked
set_option Elab.async false
set_option linter.all false
set_option maxRecDepth 100000
/-! THE HAND LAYER, for ints, bools, texts, own classes, LISTS and tuples (index, slices, in, append, pop ..), calls, loops. Paste it whole ahead of your own text; what your proof does not reach may be deleted. -/
namespace L2
open PySem PySem.Spec PyProof.Rows

/-- a key: an int or a str -/
abbrev Key := Sum Int Str
def keyIs : Key → Value → Bool
  | .inl k, v => Value.isInt k v
  | .inr x, v => Value.isStrOf x v
def keyH (w : World) : Key → Int
  | .inl k => hashInt k
  | .inr x => hashStr w x
theorem keyIs_shape : ∀ {k : Key} {v : Value}, keyIs k v = true → (∃ i t, k = Sum.inl i ∧ v = Value.int i t) ∨ (∃ x t, k = Sum.inr x ∧ v = Value.str x t)
  | .inl i, v, h => by
    obtain ⟨t, e⟩ := Value.isInt_shape (k := i) (v := v) h
    exact .inl ⟨i, t, rfl, e⟩
  | .inr x, v, h => by
    obtain ⟨t, e⟩ := Value.isStrOf_shape (x := x) (v := v) h
    exact .inr ⟨x, t, rfl, e⟩
theorem keyIs_int (i : Int) (t : Tok) : keyIs (.inl i) (.int i t) = true := by simp [keyIs, Value.isInt]
theorem keyIs_str (x : Str) (t : Tok) : keyIs (.inr x) (.str x t) = true := by simp [keyIs, Value.isStrOf]
theorem key_ll (a b : Int) : decide ((Sum.inl a : Key) = Sum.inl b) = (a == b) := by
  by_cases e : a = b
  · subst e; simp
  · have h : ¬ (Sum.inl a : Key) = Sum.inl b := fun q => e (Sum.inl.inj q)
    rw [decide_eq_false h]
    exact (beq_eq_false_iff_ne.mpr e).symm
theorem key_rr (a b : Str) : decide ((Sum.inr a : Key) = Sum.inr b) = decide (a = b) := by
  by_cases e : a = b
  · subst e; simp
  · have h : ¬ (Sum.inr a : Key) = Sum.inr b := fun q => e (Sum.inr.inj q)
    rw [decide_eq_false h, decide_eq_false e]
theorem key_lr (a : Int) (b : Str) : decide ((Sum.inl a : Key) = Sum.inr b) = false := decide_eq_false (fun q => nomatch q)
theorem key_rl (a : Str) (b : Int) : decide ((Sum.inr a : Key) = Sum.inl b) = false := decide_eq_false (fun q => nomatch q)

def mixKind (prog : Program) (w : World) : PySem.KeyKind prog w Key where
  is := keyIs
  hash := keyH w
  inj := fun v a b ha hb => by
    rcases keyIs_shape ha with ⟨i, t, rfl, rfl⟩ | ⟨x, t, rfl, rfl⟩
    · rcases keyIs_shape hb with ⟨j, u, rfl, e⟩ | ⟨y, u, rfl, e⟩
      · injection e with e1 _; rw [e1]
      · exact nomatch e
    · rcases keyIs_shape hb with ⟨j, u, rfl, e⟩ | ⟨y, u, rfl, e⟩
      · exact nomatch e
      · injection e with e1 _; rw [e1]
  byValue := fun k v h => by
    rcases keyIs_shape h with ⟨i, t, rfl, rfl⟩ | ⟨x, t, rfl, rfl⟩ <;> rfl
  pyHash := fun hv h => by
    rcases keyIs_shape hv with ⟨i, t, rfl, rfl⟩ | ⟨x, t, rfl, rfl⟩
    · exact wpAny_pyHash_int h
    · exact wpAny_pyHash_str h
  eqBool := fun hu hv h => by
    rcases keyIs_shape hu with ⟨i, t, rfl, rfl⟩ | ⟨x, t, rfl, rfl⟩
    · rcases keyIs_shape hv with ⟨j, u, rfl, rfl⟩ | ⟨y, u, rfl, rfl⟩
      · rw [key_ll] at h; exact wpAny_eqBool_int h
      · rw [key_lr] at h; exact SeqAt.EqAt.int_str i t y u _ _ _ _ h
    · rcases keyIs_shape hv with ⟨j, u, rfl, rfl⟩ | ⟨y, u, rfl, rfl⟩
      · rw [key_rl] at h; exact SeqAt.EqAt.str_int x t j u _ _ _ _ h
      · rw [key_rr] at h; exact wpAny_eqBool_str h
  «strs» := fun k x t v h => by
    rcases keyIs_shape h with ⟨i, u, rfl, e⟩ | ⟨y, u, rfl, e⟩
    · exact nomatch e
    · injection e with e1 _
      subst e1
      cases v <;> rfl

theorem mixKind_is (prog : Program) (w : World) (k : Key) (v : Value) : (mixKind prog w).is k v = keyIs k v := rfl
theorem mixKind_int (prog : Program) (w : World) (i : Int) (t : Tok) : (mixKind prog w).is (.inl i) (.int i t) = true := keyIs_int i t
theorem mixKind_str (prog : Program) (w : World) (x : Str) (t : Tok) : (mixKind prog w).is (.inr x) (.str x t) = true := keyIs_str x t
end L2

namespace L2
open PySem PySem.Spec PyProof.Rows

/-- a value, without the heap -/
inductive V where
  | non | bl (b : Bool) | int (i : Int) | str (x : Str) | byt (b : Array UInt8) | flt (b : UInt64) | ref (a : Addr) | ty (n : String)
  deriving DecidableEq

def RelV : V → Value → Prop
  | .non, u => u = Value.none
  | .bl b, u => u = Value.bool b
  | .int i, u => ∃ t, u = Value.int i t
  | .str x, u => ∃ t, u = Value.str x t
  | .byt b, u => ∃ t, u = Value.bytes b t
  | .flt b, u => ∃ t, u = Value.float b t
  | .ref a, u => u = Value.ref a
  | .ty n, u => u = Value.type n

abbrev Vals : List V → List Value → Prop := Paired RelV
theorem Vals.length {xs : List V} {us : List Value} (r : Vals xs us) : xs.length = us.length := Paired.length r
theorem Vals.get : ∀ {xs : List V} {us : List Value} {i : Nat} {x : V}, Vals xs us → xs[i]? = some x → ∃ u, us[i]? = some u ∧ RelV x u
  | _, _, _, _, .nil, e => by simp at e
  | _, _, 0, _, .cons r _, e => by simp at e; subst e; exact ⟨_, rfl, r⟩
  | _, _, i + 1, x, .cons _ t, e => by
    obtain ⟨u, h1, h2⟩ := Vals.get (i := i) (x := x) t (by simpa using e)
    exact ⟨u, by simpa using h1, h2⟩
theorem Vals.set {x : V} {u : Value} (r : RelV x u) : ∀ {xs : List V} {us : List Value} (i : Nat), Vals xs us → Vals (xs.set i x) (us.set i u)
  | _, _, _, .nil => .nil
  | _, _, 0, .cons _ t => .cons r t
  | _, _, i + 1, .cons q t => .cons q (Vals.set r i t)
theorem Vals.append : ∀ {xs ys : List V} {us ws : List Value}, Vals xs us → Vals ys ws → Vals (xs ++ ys) (us ++ ws)
  | _, _, _, _, .nil, s => s
  | _, _, _, _, .cons r t, s => .cons r (Vals.append t s)
theorem Vals.take : ∀ {xs : List V} {us : List Value} (n : Nat), Vals xs us → Vals (xs.take n) (us.take n)
  | _, _, 0, _ => .nil
  | _, _, _ + 1, .nil => .nil
  | _, _, n + 1, .cons r t => .cons r (Vals.take n t)
theorem Vals.drop : ∀ {xs : List V} {us : List Value} (n : Nat), Vals xs us → Vals (xs.drop n) (us.drop n)
  | _, _, 0, r => r
  | _, _, _ + 1, .nil => .nil
  | _, _, n + 1, .cons _ t => Vals.drop n t
theorem Vals.none_of : ∀ {xs : List V} {us : List Value} {i : Nat}, Vals xs us → xs[i]? = none → us[i]? = none := fun {xs us i} r e => by
  have h1 := r.length
  have h2 : xs.length ≤ i := List.getElem?_eq_none_iff.mp e
  exact List.getElem?_eq_none_iff.mpr (by omega)

def RelO : Option V → Option Value → Prop
  | some v, some u => RelV v u
  | none, none => True
  | _, _ => False
def KV {κ : Type} : List (κ × V) → List (κ × Value) → Prop := Paired fun (p : κ × V) (q : κ × Value) => p.1 = q.1 ∧ RelV p.2 q.2

/-- a key of a dict (00_mix): an int or a text -/
def kV : Key → V
  | .inl i => .int i
  | .inr x => .str x

/-- what stands at a tracked address -/
inductive HO where
  /-- a list -/
  | lst (xs : List V)
  /-- a tuple (never changes) -/
  | tup (xs : List V)
  /-- a dict whose keys are ints and texts; one whose keys are tuples of ints and texts (the empty one is both) -/
  | dK (kvs : List (Key × V)) | dT (kvs : List (List Key × V))
  /-- a set of ints: its members, its size -/
  | set (S : Int → Bool) (n : Nat)
  /-- an instance of the class at C, its dict at dx, its attributes -/
  | ins (C dx : Addr) (fs : List (Str × V))
  /-- the dict of the instance at x -/
  | own (x : Addr)
  /-- the dict of an exception -/
  | xd (fs : List (Str × V))
  /-- a bound method, f of x -/
  | met (f x : Addr)
  /-- a range object lo, lo + 1, .. below hi -/
  | rng (lo hi : Int)
  /-- a thing that is known to the object (the script; a dict while a loop walks it): read, never written while it is so -/
  | frz (o : Obj) (u : HO)
  /-- a code object's table -/
  | tbl (ps : Array Value)
  /-- any other thing, by what is true of its one object (a def of one's own: SetO a S n := HO.ext fun h => ..) -/
  | ext (φ : Heap → Prop)

abbrev Hp := Addr → Option HO
def upd (H : Hp) (a : Addr) (o : HO) : Hp := fun b => if b = a then some o else H b
theorem upd_same {H : Hp} {a : Addr} {o : HO} : upd H a o a = some o := by unfold upd; rw [if_pos rfl]
theorem upd_ne {H : Hp} {a b : Addr} {o : HO} (h : b ≠ a) : upd H a o b = H b := by unfold upd; rw [if_neg h]
theorem upd_upd {H : Hp} {a : Addr} {o u : HO} : upd (upd H a o) a u = upd H a u := by
  funext b; unfold upd; split <;> rfl
/-- two objects of different content stand apart -/
theorem ne_of {H : Hp} {a b : Addr} {o u : HO} (h : H a = some o) (h' : H b = some u) (d : o ≠ u) : a ≠ b := by
  intro e; subst e; rw [h] at h'; exact d (Option.some.inj h')
theorem ne_of_none {H : Hp} {a b : Addr} {o : HO} (h : H a = some o) (h' : H b = none) : a ≠ b := by
  intro e; subst e; rw [h] at h'; cases h'

section
variable (P : Program) (w : World)
def ObjOk (H : Hp) (h : Heap) (a : Addr) : HO → Prop
  | .lst xs => xs.length ≤ sizeLine ∧ ∃ (its : List Value) (n : Nat), Vals xs its ∧ h.get? a = some { cls := .type "list", data := .seq its.toArray n }
  | .tup xs => xs.length ≤ sizeLine ∧ ∃ its : List Value, Vals xs its ∧ IsTup h a its.toArray
  | .dK kvs => kvs.length ≤ sizeLine ∧ (a == sysModules) = false ∧ ∃ vs, KV kvs vs ∧ h.DictOf (mixKind P w) a vs
  | .dT kvs => kvs.length ≤ sizeLine ∧ (a == sysModules) = false ∧ ∃ xs : List (List Key × Addr × Value),
      Paired (fun (p : List Key × V) (q : List Key × Addr × Value) => p.1 = q.1 ∧ H q.2.1 = some (.tup (p.1.map kV)) ∧ RelV p.2 q.2.2) kvs xs ∧
      ∃ o es ep, h.get? a = some o ∧ o.ExactDict ∧ o.data = .dict es ep ∧ es.toList = xs.map (entryOfKey (tupleKind (mixKind P w))) ∧ (xs.map (·.1)).Nodup
  | .set S n => h.SetOf (intKind P w) a S n
  | .ins C dx fs => H dx = some (.own a) ∧ fs.length ≤ 1000 ∧ dx ≠ a ∧ h.get? a = some (PySem.W.instObj C dx) ∧
      ∃ mA, h.Ns1 dx mA ∧ (∀ f, RelO (fs.lookup f) (mA f)) ∧ PySem.Within mA (fs.map (·.1))
  | .own _ => ∃ o, h.get? a = some o
  | .xd fs => ∃ mA, h.Ns1 a mA ∧ ∀ f, RelO (fs.lookup f) (mA f)
  | .rng lo hi => ∃ t u v, h.get? a = some { cls := .type "range", data := .fields #[.int lo t, .int hi u, .int 1 v] }
  | .frz o u => h.get? a = some o ∧ ObjOk H h a u
  | .tbl ps => h.get? a = some { cls := .none, data := .fields ps }
  | .met f x => h.get? a = some (PySem.W.methodObj (.ref f) (.ref x))
  | .ext φ => φ h ∧ (∃ o, h.get? a = some o) ∧ ∀ h1 h2 : Heap, φ h1 → (∀ o, h1.get? a = some o → h2.get? a = some o) → φ h2
/-- the abstract heap is held -/
def HOk (H : Hp) (h : Heap) : Prop := ∀ a o, H a = some o → ObjOk P w H h a o
end

section
variable {P : Program} {w : World} {H H' : Hp} {h h' : Heap} {a : Addr} {o : HO}
theorem ObjOk.lt (x : ObjOk P w H h a o) : a < h.objs.size := by
  cases o with
  | lst xs => obtain ⟨_, _, _, _, e⟩ := x; exact Heap.lt_size e
  | tup xs => obtain ⟨_, _, _, p⟩ := x; exact p.lt
  | dK kvs => obtain ⟨_, _, _, _, o, _, _, e, _⟩ := x; exact Heap.lt_size e
  | dT kvs => obtain ⟨_, _, _, _, o, _, _, e, _⟩ := x; exact Heap.lt_size e
  | set S n => obtain ⟨o, _, _, _, e, _⟩ := x; exact Heap.lt_size e
  | ins C dx fs => obtain ⟨_, _, _, e, _⟩ := x; exact Heap.lt_size e
  | own y => obtain ⟨_, e⟩ := x; exact Heap.lt_size e
  | xd fs => obtain ⟨_, ⟨_, _, _, e, _⟩, _⟩ := x; exact Heap.lt_size e
  | rng lo hi => obtain ⟨_, _, _, e⟩ := x; exact Heap.lt_size e
  | frz ob u => obtain ⟨e, _⟩ := x; exact Heap.lt_size e
  | tbl ps => exact Heap.lt_size (show h.get? a = some _ from x)
  | met f y => exact Heap.lt_size (show h.get? a = some _ from x)
  | ext φ => obtain ⟨_, ⟨_, e⟩, _⟩ := x; exact Heap.lt_size e
theorem Paired.mapP {α β : Type} {F G : α → β → Prop} : ∀ {l₁ : List α} {l₂ : List β}, Paired F l₁ l₂ → (∀ a b, F a b → G a b) → Paired G l₁ l₂
  | _, _, .nil, _ => .nil
  | _, _, .cons r t, f => .cons (f _ _ r) (Paired.mapP t f)
theorem Paired.imp' {α β : Type} {F G : α → β → Prop} (f : ∀ a b, F a b → G a b) {l₁ : List α} {l₂ : List β} (r : Paired F l₁ l₂) : Paired G l₁ l₂ := Paired.mapP r f
/-- what an object's description leans on: its own object, its own dict, the tuples -/
theorem ObjOk.stay (x : ObjOk P w H h a o) (k : ∀ b u, (b = a ∨ H b = some (.own a)) → h.get? b = some u → h'.get? b = some u)
    (ho : ∀ b, H b = some (.own a) → H' b = some (.own a)) (ht : ∀ b xs, H b = some (.tup xs) → H' b = some (.tup xs)) : ObjOk P w H' h' a o := by
  induction o with
  | lst xs => obtain ⟨z, its, n, r, e⟩ := x; exact ⟨z, its, n, r, k _ _ (.inl rfl) e⟩
  | tup xs => obtain ⟨z, its, r, ob, e, c⟩ := x; exact ⟨z, its, r, ob, k _ _ (.inl rfl) e, c⟩
  | dK kvs => obtain ⟨z, y, vs, r, ob, es, ep, e, c⟩ := x; exact ⟨z, y, vs, r, ob, es, ep, k _ _ (.inl rfl) e, c⟩
  | dT kvs =>
    obtain ⟨z, y, xs, r, ob, es, ep, e, c⟩ := x
    exact ⟨z, y, xs, Paired.mapP r fun p q z => ⟨z.1, ht _ _ z.2.1, z.2.2⟩, ob, es, ep, k _ _ (.inl rfl) e, c⟩
  | set S n => obtain ⟨ob, es, ep, t, e, c⟩ := x; exact ⟨ob, es, ep, t, k _ _ (.inl rfl) e, c⟩
  | ins C dx fs =>
    obtain ⟨d, z, ne, e, mA, ⟨od, es, ep, e2, c⟩, r⟩ := x
    exact ⟨ho _ d, z, ne, k _ _ (.inl rfl) e, mA, ⟨od, es, ep, k _ _ (.inr d) e2, c⟩, r⟩
  | own y => obtain ⟨ob, e⟩ := x; exact ⟨ob, k _ _ (.inl rfl) e⟩
  | xd fs => obtain ⟨mA, ⟨od, es, ep, e, c⟩, r⟩ := x; exact ⟨mA, ⟨od, es, ep, k _ _ (.inl rfl) e, c⟩, r⟩
  | rng lo hi => obtain ⟨t, u, v, e⟩ := x; exact ⟨t, u, v, k _ _ (.inl rfl) e⟩
  | frz ob u ih => obtain ⟨e, q⟩ := x; exact ⟨k _ _ (.inl rfl) e, ih q⟩
  | tbl ps =>
    have e : h.get? a = some { cls := .none, data := .fields ps } := x
    show h'.get? a = some { cls := .none, data := .fields ps }
    exact k a _ (.inl rfl) e
  | met f y =>
    have e : h.get? a = some (PySem.W.methodObj (.ref f) (.ref y)) := x
    show h'.get? a = some (PySem.W.methodObj (.ref f) (.ref y))
    exact k a _ (.inl rfl) e
  | ext φ => obtain ⟨p, ⟨o, e⟩, st⟩ := x; exact ⟨st _ _ p fun o q => k _ _ (.inl rfl) q, ⟨o, k _ _ (.inl rfl) e⟩, st⟩
theorem HOk.lt (x : HOk P w H h) (e : H a = some o) : a < h.objs.size := (x a o e).lt
theorem HOk.fresh (x : HOk P w H h) (e : h.objs.size ≤ a) : H a = none := by
  cases q : H a with
  | none => rfl
  | some u => exact absurd (Nat.lt_of_lt_of_le (x.lt q) e) (Nat.lt_irrefl _)
/-- every object of the heap is kept -/
theorem HOk.kept (x : HOk P w H h) (k : ∀ b u, h.get? b = some u → h'.get? b = some u) : HOk P w H h' := fun a o e =>
  (x a o e).stay (fun b u _ q => k b u q) (fun _ q => q) fun _ _ q => q
/-- a new object is laid and tracked -/
theorem HOk.laid (x : HOk P w H h) (k : ∀ b u, h.get? b = some u → h'.get? b = some u) (hp : h.objs.size ≤ a) (new : ObjOk P w (upd H a o) h' a o) : HOk P w (upd H a o) h' := fun b u e => by
  have hn := x.fresh hp
  by_cases hb : b = a
  · subst hb; rw [upd_same] at e; cases e; exact new
  · rw [upd_ne hb] at e
    exact (x b u e).stay (fun c v _ q => k c v q) (fun c q => by rw [upd_ne (ne_of_none q hn)]; exact q) fun c xs q => by rw [upd_ne (ne_of_none q hn)]; exact q
end

/-- what may be read as u: it is u, or a known u -/
def Rd (H : Hp) (a : Addr) (u : HO) : Prop := H a = some u ∨ ∃ o, H a = some (.frz o u)
theorem Rd.of {H : Hp} {a : Addr} {u : HO} (h : H a = some u) : Rd H a u := .inl h
theorem Rd.ok {P : Program} {w : World} {H : Hp} {h : Heap} {a : Addr} {u : HO} (r : Rd H a u) (x : HOk P w H h) : ObjOk P w H h a u := by
  rcases r with r | ⟨o, r⟩
  · exact x a u r
  · obtain ⟨_, q⟩ := x a _ r
    exact q
/-- what may be written -/
def Mut : Option HO → Prop
  | some (.lst _) => True
  | some (.dK _) => True
  | some (.dT _) => True
  | some (.set _ _) => True
  | some (.ins _ _ _) => True
  | some (.ext _) => True
  | _ => False
section
variable {P : Program} {w : World} {H : Hp} {h h' : Heap} {x e : Addr} {o' : HO}
/-- the object at e is changed: x itself, or the dict of the instance x -/
theorem HOk.write (ok : HOk P w H h) (mu : Mut (H x)) (he : e = x ∨ H e = some (.own x)) (k : ∀ b u, b ≠ e → h.get? b = some u → h'.get? b = some u) (heo : ∃ u, h'.get? e = some u)
    (new : ObjOk P w (upd H x o') h' x o') : HOk P w (upd H x o') h' := fun b u q => by
  have nown : ∀ c y, H c = some (.own y) → c ≠ x := fun c y r z => by subst z; rw [r] at mu; exact mu
  have ntup : ∀ c xs, H c = some (.tup xs) → c ≠ x := fun c xs r z => by subst z; rw [r] at mu; exact mu
  by_cases hb : b = x
  · subst hb; rw [upd_same] at q; cases q; exact new
  · rw [upd_ne hb] at q
    by_cases hbe : b = e
    · have q' : H b = some (.own x) := by
        rcases he with z | z
        · exact absurd (hbe.trans z) hb
        · rw [hbe]; exact z
      rw [q] at q'; cases q'
      obtain ⟨v, hv⟩ := heo
      exact ⟨v, by rw [hbe]; exact hv⟩
    · refine (ok b u q).stay (fun c v hc r => k c v ?_ r) (fun c r => by rw [upd_ne (nown c b r)]; exact r) fun c xs r => by rw [upd_ne (ntup c xs r)]; exact r
      rcases hc with rfl | hc
      · exact hbe
      · rintro rfl
        rcases he with z | z
        · exact nown c b hc z
        · rw [hc] at z; cases z; exact hb rfl
end

/-! ### kept unless tracked; of the frames at fs (the callers') the slots may change (an exception that passes writes there); of the records at ex (iterators) nothing is said -/
structure Un (fs ex : List Addr) (H H' : Hp) (h h' : Heap) : Prop where
  keep : ∀ b o, h.get? b = some o → H b = none → b ∉ fs → b ∉ ex → h'.get? b = some o
  slot : ∀ b o, h.get? b = some o → H b = none → b ∈ fs → b ∉ ex → ∃ sl, h'.get? b = some { o with slots := sl }
  free : ∀ b o, h.get? b = some o → H b = none → b ∉ ex → H' b = none
  there : ∀ b o, h.get? b = some o → b ∉ ex → ∃ o', h'.get? b = some o'
  tups : ∀ b xs, H b = some (.tup xs) → H' b = some (.tup xs)
  frzs : ∀ b o u, H b = some (.frz o u) → H' b = some (.frz o u)
  tbls : ∀ b ps, H b = some (.tbl ps) → ∃ more, H' b = some (.tbl (ps ++ more))
section
variable {fs fs' ex ex' : List Addr} {H H1 H2 : Hp} {h h1 h2 h' : Heap} {a x e : Addr} {o : HO}
theorem Un.any (u : Un fs ex H H1 h h1) {b : Addr} {ob : Obj} (q : h.get? b = some ob) (n : H b = none) (hx : b ∉ ex) : ∃ sl, h1.get? b = some { ob with slots := sl } := by
  by_cases hb : b ∈ fs
  · exact u.slot b ob q n hb hx
  · exact ⟨ob.slots, u.keep b ob q n hb hx⟩
theorem Un.trans (a : Un fs ex H H1 h h1) (b : Un fs ex H1 H2 h1 h2) : Un fs ex H H2 h h2 where
  keep := fun c ob q n hc hx => b.keep c ob (a.keep c ob q n hc hx) (a.free c ob q n hx) hc hx
  slot := fun c ob q n hc hx => by
    obtain ⟨sl, e1⟩ := a.slot c ob q n hc hx
    obtain ⟨sl', e2⟩ := b.slot c _ e1 (a.free c ob q n hx) hc hx
    exact ⟨sl', e2⟩
  free := fun c ob q n hx => by
    obtain ⟨o', e1⟩ := a.there c ob q hx
    exact b.free c o' e1 (a.free c ob q n hx) hx
  there := fun c ob q hx => by
    obtain ⟨o', e1⟩ := a.there c ob q hx
    exact b.there c o' e1 hx
  tups := fun c xs q => b.tups c xs (a.tups c xs q)
  frzs := fun c ob xs q => b.frzs c ob xs (a.frzs c ob xs q)
  tbls := fun c ps q => by
    obtain ⟨m1, e1⟩ := a.tbls c ps q
    obtain ⟨m2, e2⟩ := b.tbls c _ e1
    exact ⟨m1 ++ m2, by rw [e2, Array.append_assoc]⟩
theorem Un.kept (k : ∀ b u, h.get? b = some u → h'.get? b = some u) : Un fs ex H H h h' :=
  ⟨fun b ob q _ _ _ => k b ob q, fun b ob q _ _ _ => ⟨ob.slots, k b ob q⟩, fun _ _ _ n _ => n, fun b ob q _ => ⟨ob, k b ob q⟩, fun _ _ q => q, fun _ _ _ q => q, fun _ ps q => ⟨#[], by rw [q]; simp⟩⟩
theorem Un.refl : Un fs ex H H h h := Un.kept fun _ _ q => q
theorem Un.laid (k : ∀ b u, h.get? b = some u → h'.get? b = some u) (hp : h.objs.size ≤ a) (hn : H a = none) : Un fs ex H (upd H a o) h h' where
  keep := fun b u q _ _ _ => k b u q
  slot := fun b u q _ _ _ => ⟨u.slots, k b u q⟩
  free := fun b u q n _ => by rw [upd_ne (Nat.ne_of_lt (Nat.lt_of_lt_of_le (Heap.lt_size q) hp))]; exact n
  there := fun b u q _ => ⟨u, k b u q⟩
  tups := fun b xs q => by rw [upd_ne (ne_of_none q hn)]; exact q
  frzs := fun b u xs q => by rw [upd_ne (ne_of_none q hn)]; exact q
  tbls := fun b ps q => ⟨#[], by rw [upd_ne (ne_of_none q hn), q]; simp⟩
theorem Un.write (mu : Mut (H x)) (he : e = x ∨ H e = some (.own x)) (k : ∀ b u, b ≠ e → h.get? b = some u → h'.get? b = some u) (heo : ∃ u, h'.get? e = some u) : Un fs ex H (upd H x o) h h' := by
  have hx : ∀ b, H b = none → b ≠ x := fun b n z => by subst z; rw [n] at mu; exact mu
  have hb : ∀ b, H b = none → b ≠ e := fun b n z => by
    subst z
    rcases he with r | r
    · exact hx b n r
    · rw [n] at r; cases r
  have hm : ∀ b u, H b = some u → ¬ Mut (some u) → b ≠ x := fun b u q nm z => by subst z; rw [q] at mu; exact nm mu
  refine ⟨fun b u q n _ _ => k b u (hb b n) q, fun b u q n _ _ => ⟨u.slots, k b u (hb b n) q⟩, fun b u q n _ => by rw [upd_ne (hx b n)]; exact n, fun b u q _ => ?_,
    fun b xs q => by rw [upd_ne (hm b _ q fun z => z)]; exact q, fun b u xs q => by rw [upd_ne (hm b _ q fun z => z)]; exact q, fun b ps q => ⟨#[], by rw [upd_ne (hm b _ q fun z => z), q]; simp⟩⟩
  by_cases hbe : b = e
  · subst hbe; exact heo
  · exact ⟨u, k b u hbe q⟩
theorem Un.mono (u : Un fs ex H H1 h h1) (hs : ∀ b ∈ fs, b ∈ fs') (hx : ∀ b ∈ ex, b ∈ ex') : Un fs' ex' H H1 h h1 :=
  ⟨fun b ob q n hb he => u.keep b ob q n (fun z => hb (hs b z)) fun z => he (hx b z), fun _ _ q n _ he => u.any q n fun z => he (hx _ z), fun b ob q n he => u.free b ob q n fun z => he (hx b z), fun b ob q he => u.there b ob q fun z => he (hx b z), u.tups, u.frzs, u.tbls⟩
end

/-! ### the heap without what is tracked -/
def trk (h : Heap) (H : Hp) : List Addr := (List.range h.objs.size).filter fun a => (H a).isSome
def hidT (h : Heap) (H : Hp) : Heap := PySem.W.hideAll h (trk h H)
theorem hidT_size (h : Heap) (H : Hp) : (hidT h H).objs.size = h.objs.size := PySem.W.hideAll_size _ _
theorem hidT_get {h : Heap} {H : Hp} {b : Addr} {o : Obj} (e : h.get? b = some o) (n : H b = none) : (hidT h H).get? b = some o :=
  PySem.W.hideAll_get _ e fun hm => by
    have q : (H b).isSome = true := (List.mem_filter.mp hm).2
    rw [n] at q; simp at q
theorem of_hidT {h : Heap} {H : Hp} {b : Addr} {o : Obj} (e : (hidT h H).get? b = some o) : h.get? b = some o ∧ H b = none := by
  have e' : h.get? b = some o := PySem.W.of_hideAll (trk h H) e
  refine ⟨e', ?_⟩
  cases q : H b with
  | none => rfl
  | some x =>
    have hm : b ∈ trk h H := List.mem_filter.mpr ⟨List.mem_range.mpr (Heap.lt_size e'), by simp [q]⟩
    have z : (hidT h H).get? b = none := PySem.W.hideAll_none (trk h H) hm
    rw [z] at e; cases e

/-! ### OpenK's ledger, filled with every new object but one -/
def allNews (g h : Heap) (L : Addr) : List (Addr × Obj) := (List.range h.objs.size).filterMap fun a => if a = L ∨ (g.get? a).isSome = true then none else (h.get? a).map fun o => (a, o)
theorem mem_allNews {g h : Heap} {L a : Addr} {o : Obj} (h1 : a ≠ L) (h2 : g.get? a = none) (h3 : h.get? a = some o) : (a, o) ∈ allNews g h L :=
  List.mem_filterMap.mpr ⟨a, List.mem_range.mpr (Heap.lt_size h3), by simp [h1, h2, h3]⟩
theorem of_mem_allNews {g h : Heap} {L : Addr} {p : Addr × Obj} (hp : p ∈ allNews g h L) : p.1 ≠ L ∧ g.get? p.1 = none ∧ h.get? p.1 = some p.2 := by
  obtain ⟨b, _, e⟩ := List.mem_filterMap.mp hp
  split at e
  · cases e
  · rename_i hn
    cases q : h.get? b with
    | none => rw [q] at e; simp at e
    | some u =>
      rw [q] at e
      simp only [Option.map_some, Option.some.injEq] at e
      subst e
      refine ⟨fun z => hn (.inl z), ?_, q⟩
      show g.get? b = none
      cases r : g.get? b with
      | none => rfl
      | some v => exact (hn (.inr (by simp [r]))).elim
def rest (g h : Heap) (L d : Addr) : List (Addr × Obj) := (allNews g h L).filter fun p => decide (p.1 ≠ d)
theorem rest_ne {g h : Heap} {L d : Addr} : ∀ p ∈ rest g h L d, p.1 ≠ d := fun p hp => of_decide_eq_true (List.mem_filter.mp hp).2
theorem mem_rest {g h : Heap} {L d a : Addr} {o : Obj} (h1 : a ≠ L) (h2 : g.get? a = none) (h3 : h.get? a = some o) (h4 : a ≠ d) : (a, o) ∈ rest g h L d :=
  List.mem_filter.mpr ⟨mem_allNews h1 h2 h3, decide_eq_true h4⟩
theorem news_all {g h : Heap} {L : Addr} : News g L h (allNews g h L) := fun p hp => let ⟨a, b, c⟩ := of_mem_allNews hp; ⟨c, a, b⟩
theorem news_at {g h : Heap} {L d : Addr} {o : Obj} (h1 : d ≠ L) (h2 : g.get? d = none) (h3 : h.get? d = some o) : News g L h ((d, o) :: rest g h L d) := fun p hp => by
  rcases List.mem_cons.mp hp with rfl | hp
  · exact ⟨h3, h1, h2⟩
  · exact news_all p (List.mem_filter.mp hp).1
/-- behind a rule that changed d alone: all else but the frame is kept -/
theorem kept_of_news {g h h' : Heap} {L d : Addr} {m : Str → Option Value} (k : ∀ b o, g.get? b = some o → h.get? b = some o) (F : Fr g L h' m) (N : News g L h' (rest g h L d)) :
    ∀ b o, b ≠ L → b ≠ d → h.get? b = some o → h'.get? b = some o := fun b o h1 h2 e => by
  cases q : g.get? b with
  | some u =>
    have := k b u q
    rw [e] at this; cases this
    exact F.keep b _ q
  | none => exact (N (b, o) (mem_rest h1 q e h2)).1
end L2

namespace L2
open PySem PySem.Spec PyProof.Rows

/-- the module's facts, over the base: the heap at the law's entry without what is tracked there -/
structure Mod (K : PySem.W.Frag) (mg : Str → Option Value) (base : Heap) : Prop where
  kin : K.In base
  glob : base.Ns mainGlobals mg
  blt : ∃ mb, base.Ns builtinsNs mb ∧ ∀ x : Str, x ≠ "__name__" → mb x = bootBuiltins x
  nolimit : base.NoLimit

/-- the context: a def's body (or a comprehension's block) running. base: fixed through the whole law; s₀, H₀: the entry; outer: the frames whose slots others may change (a def's callers); stack: all frames that run;
   ex: iterators that were made ahead of the entry and are walked here (a comprehension's); fn: the names whose cells were made at the entry (a def: all; a comprehension's block: its own); calm: not within an except suite; pn: pins that every state bears; xe: what is wanted of an exception that leaves the code -/
structure Cx where
  prog : Program
  w : World
  K : PySem.W.Frag
  mg : Str → Option Value
  base : Heap
  A : Around
  N : List Str
  s₀ : Shared
  H₀ : Hp
  env : Env
  outer : List Env
  stack : List Env
  ex : List Addr
  fn : Str → Bool
  calm : Bool
  pn : List (Addr × Obj)
  xe : Value → Shared → Prop
/-- the callers' frames -/
def frs (l : List Env) : List Addr := l.filterMap (·.frame)
abbrev Cx.fs (X : Cx) : List Addr := frs X.outer

def Vis (sc : Scope) (x : Str) : Prop := sc.names.lookup x = some .local ∨ sc.names.lookup x = some .cell ∨ sc.names.lookup x = some .free
def Loc (sc : Scope) (x : Str) : Prop := sc.names.lookup x = some .local ∨ sc.names.lookup x = some .cell
def Look (env : Env) (h : Heap) (m : Str → Option Value) (x : Str) (u : Value) : Prop :=
  (env.kindOf x = some .local ∧ m x = some u) ∨ ((env.kindOf x = some .cell ∨ env.kindOf x = some .free) ∧ ∃ c, env.cells.lookup x = some c ∧ h.IsCell c (some u))

structure Cx.Ok (X : Cx) : Prop where
  mod : Mod X.K X.mg X.base
  kind : X.env.scope.kind = .function
  glob : X.env.globals = mainGlobals
  blt : X.env.builtins = builtinsNs
  above : X.s₀.heap.objs.size ≤ X.env.locals
  inj : ∀ x y c, X.env.cells.lookup x = some c → X.env.cells.lookup y = some c → x = y
  has : ∀ x, (X.env.kindOf x = some .cell ∨ X.env.kindOf x = some .free) → ∃ c, X.env.cells.lookup x = some c
  cab : ∀ x c, X.fn x = true → X.env.cells.lookup x = some c → X.s₀.heap.objs.size ≤ c
  hd : X.calm = true → X.A.handled = none
  frames : X.A.frames = some X.stack
  stk : X.stack = X.outer ∨ (X.stack = X.env :: X.outer ∧ X.env.frame = some X.env.locals)
  exf : ∀ b ∈ X.ex, b ≠ X.env.locals ∧ ∀ x c, X.env.cells.lookup x = some c → c ≠ b
  bs : ∀ b o, X.base.get? b = some o → X.s₀.heap.get? b = some o ∧ X.H₀ b = none
  bsz : X.base.objs.size ≤ X.s₀.heap.objs.size
  noex : ∀ b o, X.base.get? b = some o → b ∉ X.ex
  exfs : ∀ b ∈ X.ex, b ∉ X.fs
  funs : X.s₀.heap.FunFrames X.base X.outer
  frf : ∀ b ∈ X.fs, X.H₀ b = none

structure Inv (X : Cx) (pins : List (Addr × Obj)) (σ : List (Option V)) (H : Hp) (s : Shared) : Prop where
  ok : X.Ok
  os : s.os = X.s₀.os
  bare : AllBare s.gens
  base : Un X.fs X.ex X.H₀ H X.s₀.heap s.heap
  loc : ∃ m, s.heap.Ns X.env.locals m ∧ ∀ (i : Nat) (x : Str) (v : V), X.N[i]? = some x → σ[i]? = some (some v) → Vis X.env.scope x → ∃ u, RelV v u ∧ Look X.env s.heap m x u
  cell : ∀ x c, X.env.cells.lookup x = some c → ∃ v, s.heap.IsCell c v
  free : H X.env.locals = none
  freeC : ∀ x c, X.env.cells.lookup x = some c → H c = none
  pin : ∀ p ∈ X.pn ++ pins, s.heap.get? p.1 = some p.2 ∧ H p.1 = none ∧ p.1 ≠ X.env.locals ∧ p.1 ∉ X.fs ∧ ∀ v, p.2.data ≠ .cell v
  hok : HOk X.prog X.w H s.heap
  len : σ.length = X.N.length

section
variable {X : Cx} {pins : List (Addr × Obj)} {σ : List (Option V)} {H H' : Hp} {s : Shared} {h' : Heap}

theorem Cx.Ok.nofr (ok : X.Ok) {b : Addr} {o : Obj} (e : X.base.get? b = some o) : b ∉ X.fs := fun hb => by
  have := (ok.funs.mem hb).1
  rw [e] at this; cases this
theorem Inv.bs (I : Inv X pins σ H s) : ∀ b o, X.base.get? b = some o → s.heap.get? b = some o ∧ H b = none := fun b o e =>
  ⟨I.base.keep b o (I.ok.bs b o e).1 (I.ok.bs b o e).2 (I.ok.nofr e) (I.ok.noex b o e), I.base.free b o (I.ok.bs b o e).1 (I.ok.bs b o e).2 (I.ok.noex b o e)⟩
theorem Inv.bk (I : Inv X pins σ H s) : ∀ b o, X.base.get? b = some o → s.heap.get? b = some o := fun b o e => (I.bs b o e).1
theorem Inv.mod (I : Inv X pins σ H s) : Mod X.K X.mg X.base := I.ok.mod
theorem Inv.kIn (I : Inv X pins σ H s) : X.K.In s.heap := I.ok.mod.kin.keeps I.bk
theorem Inv.nolimit (I : Inv X pins σ H s) : s.heap.NoLimit := I.ok.mod.nolimit.keeps I.bk
/-- the frame over the base: for OpenK's rules (K.In X.base is I.mod.kin) -/
theorem Inv.fr (I : Inv X pins σ H s) : ∃ m, Fr X.base X.env.locals s.heap m :=
  let ⟨m, hn, _⟩ := I.loc
  ⟨m, hn, I.bk, Nat.le_trans I.ok.bsz I.ok.above⟩
theorem Inv.lt (I : Inv X pins σ H s) : X.env.locals < s.heap.objs.size := let ⟨_, hn, _⟩ := I.loc; hn.lt
theorem Inv.sz (I : Inv X pins σ H s) : X.s₀.heap.objs.size ≤ s.heap.objs.size := Nat.le_trans I.ok.above (Nat.le_of_lt I.lt)
theorem Inv.nofs (I : Inv X pins σ H s) {a : Addr} (h : s.heap.objs.size ≤ a) : a ∉ X.fs := fun hb => by
  obtain ⟨_, o, ho, _⟩ := I.ok.funs.mem hb
  exact absurd (Nat.lt_of_lt_of_le (Heap.lt_size ho) (Nat.le_trans I.sz h)) (Nat.lt_irrefl _)
theorem Inv.cne (I : Inv X pins σ H s) : ∀ x c, X.env.cells.lookup x = some c → c ≠ X.env.locals := fun x c e z => by
  obtain ⟨v, o, ho, hd⟩ := I.cell x c e
  obtain ⟨m, ⟨o', es, ep, ho', hd', _⟩, _⟩ := I.loc
  rw [z, ho'] at ho; cases ho; rw [hd'] at hd; cases hd
theorem Inv.funs (I : Inv X pins σ H s) : s.heap.FunFrames X.base X.outer := by
  have all : ∀ (l : List Env), (∀ b ∈ frs l, b ∈ X.fs) → X.s₀.heap.FunFrames X.base l → s.heap.FunFrames X.base l := by
    intro l
    induction l with
    | nil => intro _ _; trivial
    | cons env r ih =>
      intro hs hl
      obtain ⟨hk, ⟨L, o, hf, hn, ho, hd⟩, hr⟩ := hl
      have hL : L ∈ X.fs := hs L (by unfold frs; rw [List.filterMap_cons, hf]; exact List.mem_cons_self)
      obtain ⟨sl, e⟩ := I.base.slot L o ho (I.ok.frf L hL) hL fun z => I.ok.exfs L z hL
      exact ⟨hk, ⟨L, _, hf, hn, e, hd⟩, ih (fun b hb => hs b (by unfold frs; rw [List.filterMap_cons, hf]; exact List.mem_cons_of_mem _ hb)) hr⟩
  exact all X.outer (fun _ hb => hb) I.ok.funs

/-- the frames that run, for a call -/
theorem Inv.stack (I : Inv X pins σ H s) : s.heap.FunFrames X.base X.stack := by
  rcases I.ok.stk with e | ⟨e, hf⟩
  · rw [e]; exact I.funs
  · rw [e]
    obtain ⟨m, hn, _⟩ := I.loc
    refine .cons (by rw [I.ok.kind]; decide) hf hn ?_ I.funs
    exact Heap.get?_none_of_le (Nat.le_trans I.ok.bsz I.ok.above)
theorem Inv.stkSub (I : Inv X pins σ H s) : ∀ b ∈ frs X.stack, b ∈ X.env.locals :: X.fs := fun b hb => by
  rcases I.ok.stk with e | ⟨e, hf⟩
  · rw [e] at hb; exact List.mem_cons_of_mem _ hb
  · rw [e] at hb
    unfold frs at hb
    rw [List.filterMap_cons, hf] at hb
    exact hb
theorem Inv.stkFree (I : Inv X pins σ H s) : ∀ b ∈ frs X.stack, H b = none := fun b hb => by
  rcases List.mem_cons.mp (I.stkSub b hb) with e | hb
  · rw [e]; exact I.free
  · obtain ⟨_, o, ho, _⟩ := I.ok.funs.mem hb
    exact I.base.free b o ho (I.ok.frf b hb) fun z => I.ok.exfs b z hb

/-- THE STEP: the untracked objects but the frame and the records at ch are kept (the callers' frames up to slots), the frame's map is kept, the new abstract heap is held -/
theorem Inv.step {g' : Array GenState} {t' : Nat} {d' : Drawn} {ch : List Addr} (I : Inv X pins σ H s)
    (hch : ∀ b ∈ ch, (b ∈ X.ex ∨ X.s₀.heap.objs.size ≤ b) ∧ b ≠ X.env.locals ∧ (∀ x c, X.env.cells.lookup x = some c → c ≠ b) ∧ ∀ p ∈ X.pn ++ pins, p.1 ≠ b)
    (keep : ∀ b o, b ≠ X.env.locals → b ∉ X.fs → b ∉ ch → s.heap.get? b = some o → H b = none → h'.get? b = some o)
    (slot : ∀ b o, b ≠ X.env.locals → b ∈ X.fs → b ∉ ch → s.heap.get? b = some o → H b = none → ∃ sl, h'.get? b = some { o with slots := sl }) (free : ∀ b o, b ∉ ch → s.heap.get? b = some o → H b = none → H' b = none)
    (there : ∀ b o, b ∉ ch → s.heap.get? b = some o → ∃ o', h'.get? b = some o')
    (tups : ∀ b xs, H b = some (.tup xs) → H' b = some (.tup xs)) (frzs : ∀ b o u, H b = some (.frz o u) → H' b = some (.frz o u)) (tbls : ∀ b ps, H b = some (.tbl ps) → ∃ more, H' b = some (.tbl (ps ++ more)))
    (ns : ∀ m, s.heap.Ns X.env.locals m → h'.Ns X.env.locals m) (hok : HOk X.prog X.w H' h') (hg : AllBare g') :
    Inv X pins σ H' { s with heap := h', gens := g', drawn := d', toks := t' } := by
  have neL : ∀ b o, X.s₀.heap.get? b = some o → b ≠ X.env.locals := fun b o e => Nat.ne_of_lt (Nat.lt_of_lt_of_le (Heap.lt_size e) I.ok.above)
  have neC : ∀ b o, X.s₀.heap.get? b = some o → b ∉ X.ex → b ∉ ch := fun b o e hx hb => by
    rcases (hch b hb).1 with z | z
    · exact hx z
    · exact absurd (Nat.lt_of_lt_of_le (Heap.lt_size e) z) (Nat.lt_irrefl _)
  have cellK : ∀ x c, X.env.cells.lookup x = some c → ∀ v, s.heap.IsCell c v → h'.IsCell c v := fun x c e v ⟨o, ho, hd⟩ => by
    have nch : c ∉ ch := fun z => (hch c z).2.2.1 x c e rfl
    by_cases hc : c ∈ X.fs
    · obtain ⟨sl, q⟩ := slot c o (I.cne x c e) hc nch ho (I.freeC x c e)
      exact ⟨_, q, hd⟩
    · exact ⟨o, keep c o (I.cne x c e) hc nch ho (I.freeC x c e), hd⟩
  refine ⟨I.ok, I.os, hg, ⟨fun b o e n hb hx => ?_, fun b o e n hb hx => ?_, fun b o e n hx => ?_, fun b o e hx => ?_, fun b xs e => tups b xs (I.base.tups b xs e), fun b o xs e => frzs b o xs (I.base.frzs b o xs e), fun b ps e => ?_⟩, ?_, fun x c e => ?_, ?_, fun x c e => ?_, fun p hp => ?_, hok, I.len⟩
  · exact keep b o (neL b o e) hb (neC b o e hx) (I.base.keep b o e n hb hx) (I.base.free b o e n hx)
  · obtain ⟨sl, e1⟩ := I.base.slot b o e n hb hx
    obtain ⟨sl', e2⟩ := slot b _ (neL b o e) hb (neC b o e hx) e1 (I.base.free b o e n hx)
    exact ⟨sl', e2⟩
  · obtain ⟨o', e1⟩ := I.base.there b o e hx
    exact free b o' (neC b o e hx) e1 (I.base.free b o e n hx)
  · obtain ⟨o', e1⟩ := I.base.there b o e hx
    exact there b o' (neC b o e hx) e1
  · obtain ⟨m1, e1⟩ := I.base.tbls b ps e
    obtain ⟨m2, e2⟩ := tbls b _ e1
    exact ⟨m1 ++ m2, by rw [e2, Array.append_assoc]⟩
  · obtain ⟨m, hn, hl⟩ := I.loc
    refine ⟨m, ns m hn, fun i x v e1 e2 e3 => ?_⟩
    obtain ⟨u, r, l⟩ := hl i x v e1 e2 e3
    refine ⟨u, r, ?_⟩
    rcases l with l | ⟨k, c, e, z⟩
    · exact .inl l
    · exact .inr ⟨k, c, e, cellK x c e _ z⟩
  · obtain ⟨v, z⟩ := I.cell x c e
    exact ⟨v, cellK x c e v z⟩
  · obtain ⟨m, ⟨o, _, _, ho, _⟩, _⟩ := I.loc
    exact free _ o (fun z => (hch _ z).2.1 rfl) ho I.free
  · obtain ⟨v, o, ho, hd⟩ := I.cell x c e
    exact free c o (fun z => (hch c z).2.2.1 x c e rfl) ho (I.freeC x c e)
  · obtain ⟨e, n, ne, nf, d⟩ := I.pin p hp
    have nch : p.1 ∉ ch := fun z => (hch p.1 z).2.2.2 p hp rfl
    exact ⟨keep p.1 p.2 ne nf nch e n, free p.1 p.2 nch e n, ne, nf, d⟩
/-- .. where the frame's own object is kept too -/
theorem Inv.un {t' : Nat} (I : Inv X pins σ H s) (u : Un X.fs [] H H' s.heap h') (hok : HOk X.prog X.w H' h') : Inv X pins σ H' { s with heap := h', toks := t' } := by
  obtain ⟨m, ⟨o, es, ep, ho, r⟩, _⟩ := id I.loc
  obtain ⟨sl, hL⟩ := u.any ho I.free (by simp)
  exact I.step (g' := s.gens) (d' := s.drawn) (ch := []) (fun _ z => nomatch z) (fun b o _ hb _ e n => u.keep b o e n hb (by simp)) (fun b o _ hb _ e n => u.slot b o e n hb (by simp)) (fun b o _ e n => u.free b o e n (by simp)) (fun b o _ e => u.there b o e (by simp)) u.tups u.frzs u.tbls (fun m' hm => by
    obtain ⟨o', es', ep', ho', r'⟩ := hm
    rw [ho] at ho'; cases ho'
    exact ⟨_, es', ep', hL, r'⟩) hok I.bare
/-- behind a call (or a comprehension's block): the slots of this frame may have changed too, the records at ch may have turned -/
theorem Inv.call {g' : Array GenState} {t' : Nat} {d' : Drawn} {ch : List Addr} (I : Inv X pins σ H s) (u : Un (frs X.stack) ch H H' s.heap h') (hok : HOk X.prog X.w H' h') (hg : AllBare g')
    (hch : ∀ b ∈ ch, (b ∈ X.ex ∨ X.s₀.heap.objs.size ≤ b) ∧ b ≠ X.env.locals ∧ (∀ x c, X.env.cells.lookup x = some c → c ≠ b) ∧ ∀ p ∈ X.pn ++ pins, p.1 ≠ b) :
    Inv X pins σ H' { s with heap := h', gens := g', drawn := d', toks := t' } := by
  obtain ⟨m, ⟨o, es, ep, ho, r⟩, _⟩ := id I.loc
  obtain ⟨sl, hL⟩ := u.any ho I.free fun z => (hch _ z).2.1 rfl
  exact I.step (ch := ch) hch (fun b o hL hb hc e n => u.keep b o e n (fun z => (List.mem_cons.mp (I.stkSub b z)).elim hL hb) hc) (fun b o _ _ hc e n => u.any e n hc) (fun b o hc e n => u.free b o e n hc) (fun b o hc e => u.there b o e hc) u.tups u.frzs u.tbls (fun m' hm => by
    obtain ⟨o', es', ep', ho', r'⟩ := hm
    rw [ho] at ho'; cases ho'
    exact ⟨_, es', ep', hL, r'⟩) hok hg
/-- an untracked record of ours (an iterator) has turned -/
theorem Inv.turned {t' : Nat} {it : Addr} (I : Inv X pins σ H s) (k : ∀ b o, b ≠ it → s.heap.get? b = some o → h'.get? b = some o) (hn : H it = none) (hL : it ≠ X.env.locals)
    (h1 : it ∈ X.ex ∨ X.s₀.heap.objs.size ≤ it) (h2 : ∀ x c, X.env.cells.lookup x = some c → c ≠ it) (h3 : ∀ p ∈ X.pn ++ pins, p.1 ≠ it) : Inv X pins σ H { s with heap := h', toks := t' } := by
  have nit : ∀ b u, H b = some u → b ≠ it := fun b u e z => by rw [z, hn] at e; cases e
  refine I.step (g' := s.gens) (d' := s.drawn) (ch := [it]) (fun b hb => ?_) (fun b o _ _ hc e _ => k b o (fun z => hc (by simp [z])) e) (fun b o _ _ hc e _ => ⟨o.slots, k b o (fun z => hc (by simp [z])) e⟩) (fun _ _ _ _ n => n)
    (fun b o hc e => ⟨o, k b o (fun z => hc (by simp [z])) e⟩) (fun _ _ e => e) (fun _ _ _ e => e) (fun b ps e => ⟨#[], by rw [e]; simp⟩) (fun m hm => ?_) (fun b u e => ?_) I.bare
  · have e : b = it := by simpa using hb
    subst e
    exact ⟨h1, hL, h2, h3⟩
  · obtain ⟨o, es, ep, ho, r⟩ := hm
    exact ⟨o, es, ep, k _ o (Ne.symm hL) ho, r⟩
  · refine (I.hok b u e).stay (fun c v hc q => k c v ?_ q) (fun _ q => q) fun _ _ q => q
    rcases hc with z | z
    · rw [z]; exact nit b u e
    · exact nit c _ z
theorem Inv.tok (I : Inv X pins σ H s) (t : Nat) : Inv X pins σ H { s with toks := t } := I.un (h' := s.heap) (t' := t) Un.refl I.hok
/-- all objects kept -/
theorem Inv.kept {t' : Nat} (I : Inv X pins σ H s) (k : ∀ b u, s.heap.get? b = some u → h'.get? b = some u) : Inv X pins σ H { s with heap := h', toks := t' } := I.un (Un.kept k) (I.hok.kept k)
/-- a new object laid and tracked -/
theorem Inv.laid {a : Addr} {o : HO} {t' : Nat} (I : Inv X pins σ H s) (k : ∀ b u, s.heap.get? b = some u → h'.get? b = some u) (hp : s.heap.objs.size ≤ a) (new : ObjOk X.prog X.w (upd H a o) h' a o) :
    Inv X pins σ (upd H a o) { s with heap := h', toks := t' } := I.un (Un.laid k hp (I.hok.fresh hp)) (I.hok.laid k hp new)
/-- an object written -/
theorem Inv.write {x e : Addr} {o : HO} {t' : Nat} (I : Inv X pins σ H s) (mu : Mut (H x)) (he : e = x ∨ H e = some (.own x)) (k : ∀ b u, b ≠ e → s.heap.get? b = some u → h'.get? b = some u) (heo : ∃ u, h'.get? e = some u)
    (new : ObjOk X.prog X.w (upd H x o) h' x o) : Inv X pins σ (upd H x o) { s with heap := h', toks := t' } := I.un (Un.write mu he k heo) (I.hok.write mu he k heo new)
/-- forgetting slots, pins -/
theorem Inv.weak {σ' : List (Option V)} (I : Inv X pins σ H s) (hl : σ'.length = σ.length) (w : ∀ (i : Nat) v, σ'[i]? = some (some v) → σ[i]? = some (some v)) : Inv X pins σ' H s :=
  ⟨I.ok, I.os, I.bare, I.base, let ⟨m, hn, hl'⟩ := I.loc; ⟨m, hn, fun i x v e1 e2 e3 => hl' i x v e1 (w i v e2) e3⟩, I.cell, I.free, I.freeC, I.pin, I.hok, hl.trans I.len⟩
theorem Inv.pins_of {pins' : List (Addr × Obj)} (I : Inv X pins σ H s) (h : ∀ p ∈ pins', s.heap.get? p.1 = some p.2 ∧ H p.1 = none ∧ p.1 ≠ X.env.locals ∧ p.1 ∉ X.fs ∧ ∀ v, p.2.data ≠ .cell v) : Inv X pins' σ H s :=
  ⟨I.ok, I.os, I.bare, I.base, I.loc, I.cell, I.free, I.freeC, fun p hp => (List.mem_append.mp hp).elim (fun z => I.pin p (List.mem_append_left _ z)) (h p), I.hok, I.len⟩

theorem nodup_ix {N : List Str} (hN : N.Nodup) {i j : Nat} {x : Str} (a : N[i]? = some x) (b : N[j]? = some x) : i = j := by
  obtain ⟨h1, e1⟩ := List.getElem?_eq_some_iff.mp a
  obtain ⟨h2, e2⟩ := List.getElem?_eq_some_iff.mp b
  exact (List.getElem_inj hN).mp (e1.trans e2.symm)

/-- a name is stored; what changed -/
theorem store_ok2 {M : Model} {A : Around} {E : Value → Shared → Prop} {i : Nat} {x : Str} {v : V} {u : Value} {Q : Unit → Shared → Prop} (I : Inv X pins σ H s) (hN : X.N.Nodup) (hi : X.N[i]? = some x) (hx : Loc X.env.scope x) (r : RelV v u)
    (h : ∀ s', Inv X pins (σ.set i (some v)) H s' → (∃ a, Heap.SameBut a s.heap s'.heap ∧ (a = X.env.locals ∨ X.env.cells.lookup x = some a)) → Q () s') (hf : X.fn x = true ∨ X.env.scope.names.lookup x = some .local := by first | exact .inl rfl | exact .inr rfl | assumption) : wpAny M A (storeName X.env x u) Q E s := by
  obtain ⟨m, hn, hl⟩ := id I.loc
  have hcls : (X.env.scope.kind == .class || (X.env.scope.kind == .module && X.env.locals != X.env.globals)) = false := by rw [I.ok.kind]; rfl
  have hiσ : i < σ.length := by rw [I.len]; exact (List.getElem?_eq_some_iff.mp hi).1
  have cne := I.cne
  have tracked : ∀ {a : Addr} {h' : Heap}, (∃ o, s.heap.get? a = some o ∧ H a = none) → Heap.SameBut a s.heap h' → HOk X.prog X.w H h' := fun {a h'} ha hs b ob e => by
    obtain ⟨_, _, hfree⟩ := ha
    refine (I.hok b ob e).stay (fun c w' hc q => (hs.2 c ?_).trans q) (fun _ q => q) fun _ _ q => q
    rintro rfl
    rcases hc with rfl | hc
    · rw [hfree] at e; cases e
    · rw [hfree] at hc; cases hc
  rcases hx with hk | hk
  · refine wpAny_storeName_local hk hn (fun h' hn' hs => ?_) hcls
    obtain ⟨oL, _, _, hoL, _⟩ := id hn
    refine h _ ⟨I.ok, I.os, I.bare, ⟨fun b o e n hb hx => ?_, fun b o e n hb hx => ?_, I.base.free, fun b o e hx => ?_, I.base.tups, I.base.frzs, I.base.tbls⟩, ⟨_, hn', fun j y v' e1 e2 e3 => ?_⟩, fun y c e => ?_, I.free, I.freeC, fun p hp => ?_, tracked ⟨oL, hoL, I.free⟩ hs, by simpa using I.len⟩ ⟨_, hs, .inl rfl⟩
    · exact (hs.2 b (Nat.ne_of_lt (Nat.lt_of_lt_of_le (Heap.lt_size e) I.ok.above))).trans (I.base.keep b o e n hb hx)
    · obtain ⟨sl, e1⟩ := I.base.slot b o e n hb hx
      exact ⟨sl, (hs.2 b (Nat.ne_of_lt (Nat.lt_of_lt_of_le (Heap.lt_size e) I.ok.above))).trans e1⟩
    · obtain ⟨o', e1⟩ := I.base.there b o e hx
      exact ⟨o', (hs.2 b (Nat.ne_of_lt (Nat.lt_of_lt_of_le (Heap.lt_size e) I.ok.above))).trans e1⟩
    · by_cases hj : j = i
      · subst hj
        rw [hi] at e1; cases e1
        rw [List.getElem?_set_self hiσ] at e2
        cases e2
        exact ⟨u, r, .inl ⟨hk, by simp⟩⟩
      · rw [List.getElem?_set_ne (Ne.symm hj)] at e2
        obtain ⟨u', r', q⟩ := hl j y v' e1 e2 e3
        refine ⟨u', r', ?_⟩
        rcases q with ⟨k, e⟩ | ⟨k, c, e, z⟩
        · refine .inl ⟨k, ?_⟩
          have : y ≠ x := fun e => hj (nodup_ix hN e1 (e ▸ hi))
          simp [this, e]
        · exact .inr ⟨k, c, e, z.sameBut hs (cne y c e)⟩
    · obtain ⟨w', z⟩ := I.cell y c e
      exact ⟨w', z.sameBut hs (cne y c e)⟩
    · obtain ⟨e, n, ne, nf, d⟩ := I.pin p hp
      exact ⟨(hs.2 p.1 ne).trans e, n, ne, nf, d⟩
  · have hfn : X.fn x = true := by
      rcases hf with z | z
      · exact z
      · rw [z] at hk; cases hk
    obtain ⟨c, hc⟩ := I.ok.has x (.inl hk)
    obtain ⟨w', z⟩ := I.cell x c hc
    refine wpAny_storeName_cell I.ok.kind hk hc z (fun h' hc' hs => ?_)
    obtain ⟨oc, hoc, hocd⟩ := id z
    refine h { s with heap := h' } ⟨I.ok, I.os, I.bare, ⟨fun b o e n hb hx => ?_, fun b o e n hb hx => ?_, I.base.free, fun b o e hx => ?_, I.base.tups, I.base.frzs, I.base.tbls⟩, ⟨m, hn.sameBut hs (Ne.symm (cne x c hc)), fun j y v' e1 e2 e3 => ?_⟩, fun y c' e => ?_, I.free, I.freeC, fun p hp => ?_, tracked ⟨oc, hoc, I.freeC x c hc⟩ hs, by simpa using I.len⟩ ⟨c, hs, .inr hc⟩
    · exact (hs.2 b (Nat.ne_of_lt (Nat.lt_of_lt_of_le (Heap.lt_size e) (I.ok.cab x c hfn hc)))).trans (I.base.keep b o e n hb hx)
    · obtain ⟨sl, e1⟩ := I.base.slot b o e n hb hx
      exact ⟨sl, (hs.2 b (Nat.ne_of_lt (Nat.lt_of_lt_of_le (Heap.lt_size e) (I.ok.cab x c hfn hc)))).trans e1⟩
    · obtain ⟨o', e1⟩ := I.base.there b o e hx
      exact ⟨o', (hs.2 b (Nat.ne_of_lt (Nat.lt_of_lt_of_le (Heap.lt_size e) (I.ok.cab x c hfn hc)))).trans e1⟩
    · by_cases hj : j = i
      · subst hj
        rw [hi] at e1; cases e1
        rw [List.getElem?_set_self hiσ] at e2
        cases e2
        exact ⟨u, r, .inr ⟨.inl hk, c, hc, hc'⟩⟩
      · rw [List.getElem?_set_ne (Ne.symm hj)] at e2
        obtain ⟨u', r', q⟩ := hl j y v' e1 e2 e3
        refine ⟨u', r', ?_⟩
        rcases q with q | ⟨k, c', e, z'⟩
        · exact .inl q
        · refine .inr ⟨k, c', e, z'.sameBut hs ?_⟩
          rintro rfl
          exact hj (nodup_ix hN e1 (I.ok.inj _ _ _ e hc ▸ hi))
    · by_cases hcc : c' = c
      · subst hcc; exact ⟨_, hc'⟩
      · obtain ⟨w2, z2⟩ := I.cell y c' e
        exact ⟨w2, z2.sameBut hs hcc⟩
    · obtain ⟨e, n, ne, nf, d⟩ := I.pin p hp
      refine ⟨(hs.2 p.1 ?_).trans e, n, ne, nf, d⟩
      intro q
      rw [q, hoc] at e
      have q' : oc = p.2 := Option.some.inj e
      exact d w' (by rw [← q']; exact hocd)
theorem store_ok {M : Model} {A : Around} {E : Value → Shared → Prop} {i : Nat} {x : Str} {v : V} {u : Value} {Q : Unit → Shared → Prop} (I : Inv X pins σ H s) (hN : X.N.Nodup) (hi : X.N[i]? = some x) (hx : Loc X.env.scope x) (r : RelV v u)
    (h : ∀ s', Inv X pins (σ.set i (some v)) H s' → Q () s') (hf : X.fn x = true ∨ X.env.scope.names.lookup x = some .local := by first | exact .inl rfl | exact .inr rfl | assumption) : wpAny M A (storeName X.env x u) Q E s :=
  store_ok2 I hN hi hx r (fun s' I' _ => h s' I') hf
/-- behind a call or a block, the state as it is -/
theorem Inv.call' {s' : Shared} {ch : List Addr} (I : Inv X pins σ H s) (ho : s'.os = s.os) (u : Un (frs X.stack) ch H H' s.heap s'.heap) (hok : HOk X.prog X.w H' s'.heap) (hg : AllBare s'.gens)
    (hch : ∀ b ∈ ch, (b ∈ X.ex ∨ X.s₀.heap.objs.size ≤ b) ∧ b ≠ X.env.locals ∧ (∀ x c, X.env.cells.lookup x = some c → c ≠ b) ∧ ∀ p ∈ X.pn ++ pins, p.1 ≠ b) : Inv X pins σ H' s' := by
  obtain ⟨h', g', d', t', o'⟩ := s'
  have e : o' = s.os := ho
  subst e
  exact I.call (g' := g') (t' := t') (d' := d') u hok hg hch
end

/-! ### the judgements -/
/-- an exception: its class, its own dict's address (where it has one), the abstract heap behind it -/
abbrev XK := Value → Option Addr → Hp → Prop
abbrev St := List (Option V)
abbrev VK := V → Hp → Prop
/-- an expression's reading; a test's; an argument list's -/
abbrev TE := St → Hp → VK → Prop
abbrev TT := St → Hp → (Bool → Hp → Prop) → Prop
abbrev TA := St → Hp → (List V → Hp → Prop) → Prop
/-- what is wanted behind a statement -/
structure Ends where
  nx : St → Hp → Prop
  rt : VK
  bk : St → Hp → Prop := fun _ _ => False
  ct : St → Hp → Prop := fun _ _ => False
abbrev TS := Ends → St → Hp → Prop

def EP (X : Cx) (pins : List (Addr × Obj)) (σ : St) (Q : VK) (u : Value) (s' : Shared) : Prop := ∃ v H', Inv X pins σ H' s' ∧ RelV v u ∧ Q v H'
def TP (X : Cx) (pins : List (Addr × Obj)) (σ : St) (Q : Bool → Hp → Prop) (b : Bool) (s' : Shared) : Prop := ∃ H', Inv X pins σ H' s' ∧ Q b H'
def AP (X : Cx) (pins : List (Addr × Obj)) (σ : St) (Q : List V → Hp → Prop) (us : List Value) (s' : Shared) : Prop := ∃ vs H', Inv X pins σ H' s' ∧ Vals vs us ∧ Q vs H'
def SP (X : Cx) (pins : List (Addr × Obj)) (D : Ends) (f : Flow) (s' : Shared) : Prop :=
  match f with
  | .next => ∃ σ' H', Inv X pins σ' H' s' ∧ D.nx σ' H'
  | .brk => ∃ σ' H', Inv X pins σ' H' s' ∧ D.bk σ' H'
  | .cont => ∃ σ' H', Inv X pins σ' H' s' ∧ D.ct σ' H'
  | .ret u => ∃ v σ' H', Inv X pins σ' H' s' ∧ RelV v u ∧ D.rt v H'

def PE (X : Cx) (e : Expr) (t : TE) : Prop :=
  ∀ (pins : List (Addr × Obj)) (s : Shared) (σ : St) (H : Hp) (Q : VK), Inv X pins σ H s → t σ H Q → wpAny (model X.prog X.w) X.A (eval e X.env) (EP X pins σ Q) X.xe s
def PT (X : Cx) (e : Expr) (t : TT) : Prop :=
  ∀ (pins : List (Addr × Obj)) (s : Shared) (σ : St) (H : Hp) (Q : Bool → Hp → Prop), Inv X pins σ H s → t σ H Q → wpAny (model X.prog X.w) X.A (isTrue e X.env (eval e X.env)) (TP X pins σ Q) X.xe s
/-- a test whatever its 'whole' is (and, or) -/
def PW (X : Cx) (e : Expr) (t : TT) : Prop :=
  ∀ (whole : Sem Value) (pins : List (Addr × Obj)) (s : Shared) (σ : St) (H : Hp) (Q : Bool → Hp → Prop), Inv X pins σ H s → t σ H Q → wpAny (model X.prog X.w) X.A (isTrue e X.env whole) (TP X pins σ Q) X.xe s
theorem PW.pt {X : Cx} {e : Expr} {t : TT} (h : PW X e t) : PT X e t := h _
/-- an argument list (no star), from the left -/
def PA (X : Cx) (es : List Expr) (t : TA) : Prop :=
  ∀ (pos : Pos) (pins : List (Addr × Obj)) (s : Shared) (σ : St) (H : Hp) (Q : List V → Hp → Prop), Inv X pins σ H s → t σ H Q → wpAny (model X.prog X.w) X.A (spliced (backTo pos (starEach es X.env))) (AP X pins σ Q) X.xe s
def PS (X : Cx) (st : Stmt) (t : TS) : Prop :=
  ∀ (pins : List (Addr × Obj)) (s : Shared) (σ : St) (H : Hp) (D : Ends), Inv X pins σ H s → t D σ H → wpAny (model X.prog X.w) X.A (exec st X.env) (SP X pins D) X.xe s
def PSs (X : Cx) (st : List Stmt) (t : TS) : Prop :=
  ∀ (pins : List (Addr × Obj)) (s : Shared) (σ : St) (H : Hp) (D : Ends), Inv X pins σ H s → t D σ H → wpAny (model X.prog X.w) X.A (execs st X.env) (SP X pins D) X.xe s
/-- weaken the end -/
theorem thn {α : Type} {t : Sem α} {Q Q' : α → Shared → Prop} {M : Model} {A : Around} {E : Value → Shared → Prop} {s : Shared} (h : wpAny M A t Q E s) (hQ : ∀ a s, Q a s → Q' a s) : wpAny M A t Q' E s := wpAny_mono h hQ fun _ _ x => x
end L2

namespace L2
open PySem PySem.Spec PyProof.Rows
section
variable {X : Cx}

/-- two expressions in a row -/
theorem bin {a b : Expr} {ta tb : TE} (ha : PE X a ta) (hb : PE X b tb) {pins : List (Addr × Obj)} {s : Shared} {σ : St} {H : Hp} {R : V → V → Hp → Prop} (I : Inv X pins σ H s) (h : ta σ H fun x H1 => tb σ H1 fun y H2 => R x y H2)
    {α : Type} {Q : α → Shared → Prop} {f : Value → Value → Sem α}
    (hf : ∀ v u s2 x y H2, Inv X pins σ H2 s2 → RelV x v → RelV y u → R x y H2 → wpAny (model X.prog X.w) X.A (f v u) Q X.xe s2) :
    wpAny (model X.prog X.w) X.A (eval a X.env) (fun v s₁ => wpAny (model X.prog X.w) X.A (eval b X.env) (fun u s₂ => wpAny (model X.prog X.w) X.A (f v u) Q X.xe s₂) X.xe s₁) X.xe s := by
  refine thn (ha pins s σ H _ I h) fun v s1 ⟨x, H1, I1, r1, q1⟩ => ?_
  refine thn (hb pins s1 σ H1 _ I1 q1) fun u s2 ⟨y, H2, I2, r2, q2⟩ => ?_
  exact hf v u s2 x y H2 I2 r1 r2 q2

/-! ### names and constants -/
def tVar (i : Nat) : TE := fun σ H Q => ∃ v, σ[i]? = some (some v) ∧ Q v H
def tC (v : V) : TE := fun _ H Q => Q v H
theorem pe_var {i : Nat} {x : Str} {pos : Pos} (hN : X.N[i]? = some x) (hv : Vis X.env.scope x) (hd : (x == ("__debug__" : Str)) = false := by decide) (hcd : (x == ("__classdict__" : Str)) = false := by decide) : PE X (.Name x pos) (tVar i) := by
  intro pins s σ H Q I h
  obtain ⟨v, e, h⟩ := h
  obtain ⟨m, hn, hl⟩ := I.loc
  obtain ⟨u, r, l⟩ := hl i x v hN e hv
  have fin : EP X pins σ Q u s := ⟨v, H, I, r, h⟩
  rcases l with ⟨hk, hm⟩ | ⟨hk, c, hc, hcell⟩
  · exact wpAny_Name (wpAny_loadName_local I.ok.kind hk hn hm fin) hd
  · rcases hk with hk | hk
    · exact wpAny_Name (wpAny_loadName_cell I.ok.kind hk hc hcell fin) hd
    · exact wpAny_Name (wpAny_loadName_free I.ok.kind hk hc hcell fin hcd) hd
theorem pe_int {i j pos} : PE X (.Constant (.int i) j pos) (tC (.int i)) := fun _ _ _ H _ I h => wpAny_Constant_int ⟨.int i, H, I.tok _, ⟨_, rfl⟩, h⟩
theorem pe_bl {b j pos} : PE X (.Constant (.bool b) j pos) (tC (.bl b)) := fun _ _ _ H _ I h => Constant_bool ⟨.bl b, H, I, rfl, h⟩
theorem pe_non {j pos} : PE X (.Constant .none j pos) (tC .non) := fun _ _ _ H _ I h => Constant_none ⟨.non, H, I, rfl, h⟩
theorem pe_str {x j pos} : PE X (.Constant (.str x) j pos) (tC (.str x)) := fun _ _ _ H _ I h => Calls.Constant_str ⟨.str x, H, I.tok _, ⟨_, rfl⟩, h⟩

/-- a global name of the def -/
def Gl (X : Cx) (x : Str) : Prop := X.env.kindOf x = some .globalImplicit
theorem ld_glob {E : Value → Shared → Prop} {pins : List (Addr × Obj)} {s : Shared} {σ : St} {H : Hp} {x : Str} {u : Value} {pos : Pos} {Q : Value → Shared → Prop} (I : Inv X pins σ H s) (hg : Gl X x) (hm : X.mg x = some u) (h : Q u s)
    (hd : (x == ("__debug__" : Str)) = false := by decide) : wpAny (model X.prog X.w) X.A (eval (.Name x pos) X.env) Q E s :=
  Calls.Name_function_global I.ok.kind hg (Calls.loadGlobal_global (by rw [I.ok.glob]; exact I.mod.glob.keeps I.bk) hm h) hd
theorem ld_blt {E : Value → Shared → Prop} {pins : List (Addr × Obj)} {s : Shared} {σ : St} {H : Hp} {x : Str} {u : Value} {pos : Pos} {Q : Value → Shared → Prop} (I : Inv X pins σ H s) (hg : Gl X x) (hm : X.mg x = none) (hv : bootBuiltins x = some u) (h : Q u s)
    (hn : x ≠ "__name__" := by decide) (hd : (x == ("__debug__" : Str)) = false := by decide) : wpAny (model X.prog X.w) X.A (eval (.Name x pos) X.env) Q E s := by
  obtain ⟨mb, h1, h2⟩ := I.mod.blt
  exact Calls.Name_function_global I.ok.kind hg (Calls.loadGlobal_builtin (by rw [I.ok.glob]; exact I.mod.glob.keeps I.bk) hm (by rw [I.ok.blt]; exact h1.keeps I.bk) ((h2 x hn).trans hv) h) hd
/-- a module's constant, a class, a function, as a value -/
theorem pe_glob {x : Str} {v : V} {u : Value} {pos : Pos} (hg : Gl X x) (hm : X.mg x = some u) (r : RelV v u) (hd : (x == ("__debug__" : Str)) = false := by decide) : PE X (.Name x pos) (tC v) :=
  fun _ _ _ H _ I h => ld_glob I hg hm ⟨v, H, I, r, h⟩ hd
theorem pe_bltn {x : Str} {v : V} {u : Value} {pos : Pos} (hg : Gl X x) (hm : X.mg x = none) (hv : bootBuiltins x = some u) (r : RelV v u) (hn : x ≠ "__name__" := by decide) (hd : (x == ("__debug__" : Str)) = false := by decide) : PE X (.Name x pos) (tC v) :=
  fun _ _ _ H _ I h => ld_blt I hg hm hv ⟨v, H, I, r, h⟩ hn hd

/-! ### arithmetic -/
/-- two ints -/
def t2I (ta tb : TE) (k : Int → Int → Hp → Prop) : St → Hp → Prop := fun σ H => ta σ H fun x H1 => tb σ H1 fun y H2 => ∃ i j, x = .int i ∧ y = .int j ∧ k i j H2
def tAdd (ta tb : TE) : TE := fun σ H Q => t2I ta tb (fun i j H2 => Q (.int (i + j)) H2) σ H
def tSub (ta tb : TE) : TE := fun σ H Q => t2I ta tb (fun i j H2 => Q (.int (i - j)) H2) σ H
/-- the left factor below 2^64 -/
def tMul (ta tb : TE) : TE := fun σ H Q => t2I ta tb (fun i j H2 => (-(2 ^ 64) < i ∧ i < 2 ^ 64) ∧ Q (.int (i * j)) H2) σ H
variable {a b : Expr} {ta tb : TE} {pos : Pos}
theorem pe_add (ha : PE X a ta) (hb : PE X b tb) : PE X (.BinOp a .Add b pos) (tAdd ta tb) := by
  intro pins s σ H Q I h
  refine wpAny_BinOp (bin ha hb I h fun v u s2 x y H2 I2 rx ry q => ?_)
  obtain ⟨i, j, rfl, rfl, q⟩ := q
  obtain ⟨t, rfl⟩ := rx
  obtain ⟨t', rfl⟩ := ry
  exact add_int ⟨.int _, H2, I2.tok _, ⟨_, rfl⟩, q⟩
theorem pe_sub (ha : PE X a ta) (hb : PE X b tb) : PE X (.BinOp a .Sub b pos) (tSub ta tb) := by
  intro pins s σ H Q I h
  refine wpAny_BinOp (bin ha hb I h fun v u s2 x y H2 I2 rx ry q => ?_)
  obtain ⟨i, j, rfl, rfl, q⟩ := q
  obtain ⟨t, rfl⟩ := rx
  obtain ⟨t', rfl⟩ := ry
  exact sub_int ⟨.int _, H2, I2.tok _, ⟨_, rfl⟩, q⟩
theorem pe_mul (ha : PE X a ta) (hb : PE X b tb) : PE X (.BinOp a .Mult b pos) (tMul ta tb) := by
  intro pins s σ H Q I h
  refine wpAny_BinOp (bin ha hb I h fun v u s2 x y H2 I2 rx ry q => ?_)
  obtain ⟨i, j, rfl, rfl, ⟨q1, q2⟩, q⟩ := q
  obtain ⟨t, rfl⟩ := rx
  obtain ⟨t', rfl⟩ := ry
  exact mul_int ⟨.int _, H2, I2.tok _, ⟨_, rfl⟩, q⟩ (.of_left (intBits_le_64 q1 q2))

/-! ### comparisons -/
def PC (X : Cx) (op : CmpOp) (a b : Expr) (t : TE) : Prop :=
  ∀ (pins : List (Addr × Obj)) (s : Shared) (σ : St) (H : Hp) (Q : VK), Inv X pins σ H s → t σ H Q →
    wpAny (model X.prog X.w) X.A (eval a X.env) (fun v s₁ => wpAny (model X.prog X.w) X.A (eval b X.env) (fun u s₂ => wpAny (model X.prog X.w) X.A (compareOp op v u) (EP X pins σ Q) X.xe s₂) X.xe s₁) X.xe s
theorem nobehind (b : Expr) {op : CmpOp} (h : op ≠ .In) (h2 : op ≠ .NotIn) : behindInMarks op b = false := by
  have e1 : (op == CmpOp.In) = false := by cases op <;> first | rfl | exact absurd rfl h
  have e2 : (op == CmpOp.NotIn) = false := by cases op <;> first | rfl | exact absurd rfl h2
  cases b <;> simp [behindInMarks, e1, e2]
def tCmp (p : Int → Int → Bool) (ta tb : TE) : TE := fun σ H Q => t2I ta tb (fun i j H2 => Q (.bl (p i j)) H2) σ H
abbrev tLt : TE → TE → TE := tCmp fun i j => decide (i < j)
abbrev tLe : TE → TE → TE := tCmp fun i j => decide (i ≤ j)
abbrev tGt : TE → TE → TE := tCmp fun i j => decide (j < i)
abbrev tGe : TE → TE → TE := tCmp fun i j => decide (j ≤ i)
abbrev tEqI : TE → TE → TE := tCmp fun i j => decide (i = j)
abbrev tNeI : TE → TE → TE := tCmp fun i j => !decide (i = j)
/-- a comparison of two ints, by its rule -/
theorem pc_int {op : CmpOp} {p : Int → Int → Bool} (ha : PE X a ta) (hb : PE X b tb)
    (rule : ∀ (i j : Int) (t u : Tok) (Q : Value → Shared → Prop) (s : Shared), Q (.bool (p i j)) s → wpAny (model X.prog X.w) X.A (compareOp op (.int i t) (.int j u)) Q X.xe s) : PC X op a b (tCmp p ta tb) := by
  intro pins s σ H Q I h
  refine bin ha hb I h fun v u s2 x y H2 I2 rx ry q => ?_
  obtain ⟨i, j, rfl, rfl, q⟩ := q
  obtain ⟨t, rfl⟩ := rx
  obtain ⟨t', rfl⟩ := ry
  exact rule i j t t' _ s2 ⟨.bl _, H2, I2, rfl, q⟩
theorem pc_lt (ha : PE X a ta) (hb : PE X b tb) : PC X .Lt a b (tLt ta tb) := pc_int ha hb fun _ _ _ _ _ _ h => lt_int h
theorem pc_le (ha : PE X a ta) (hb : PE X b tb) : PC X .LtE a b (tLe ta tb) := pc_int ha hb fun _ _ _ _ _ _ h => le_int h
theorem pc_gt (ha : PE X a ta) (hb : PE X b tb) : PC X .Gt a b (tGt ta tb) := pc_int ha hb fun _ _ _ _ _ _ h => gt_int h
theorem pc_ge (ha : PE X a ta) (hb : PE X b tb) : PC X .GtE a b (tGe ta tb) := pc_int ha hb fun _ _ _ _ _ _ h => ge_int h
theorem pc_eqI (ha : PE X a ta) (hb : PE X b tb) : PC X .Eq a b (tEqI ta tb) := pc_int ha hb fun _ _ _ _ _ _ h => eq_int (by rw [Bool.beq_eq_decide_eq]; exact h)
theorem pc_neI (ha : PE X a ta) (hb : PE X b tb) : PC X .NotEq a b (tNeI ta tb) := pc_int ha hb fun _ _ _ _ _ _ h => ne_int (by rw [bne, Bool.beq_eq_decide_eq]; exact h)
/-- is None -/
def tIsN (ta : TE) : TE := fun σ H Q => ta σ H fun x H1 => Q (.bl (decide (x = .non))) H1
def tNotN (ta : TE) : TE := fun σ H Q => ta σ H fun x H1 => Q (.bl (!decide (x = .non))) H1
theorem RelV.none_iff {x : V} {v : Value} (r : RelV x v) : (v == Value.none) = decide (x = .non) := by
  cases x with
  | non => cases r; rfl
  | bl _ => cases r; rfl
  | int _ => obtain ⟨t, rfl⟩ := r; rfl
  | str _ => obtain ⟨t, rfl⟩ := r; rfl
  | byt _ => obtain ⟨t, rfl⟩ := r; rfl
  | flt _ => obtain ⟨t, rfl⟩ := r; rfl
  | ref _ => cases r; rfl
  | ty _ => cases r; rfl
theorem pc_isN {j pos'} (ha : PE X a ta) : PC X .Is a (.Constant .none j pos') (tIsN ta) := by
  intro pins s σ H Q I h
  refine thn (ha pins s σ H _ I h) fun v s1 ⟨x, H1, I1, r1, q1⟩ => ?_
  exact Constant_none (is_none_gen ⟨.bl _, H1, I1, by rw [r1.none_iff]; rfl, q1⟩)
theorem pc_notN {j pos'} (ha : PE X a ta) : PC X .IsNot a (.Constant .none j pos') (tNotN ta) := by
  intro pins s σ H Q I h
  refine thn (ha pins s σ H _ I h) fun v s1 ⟨x, H1, I1, r1, q1⟩ => ?_
  exact Constant_none (isnot_none_gen ⟨.bl _, H1, I1, by rw [r1.none_iff]; rfl, q1⟩)
/-- a comparison as a value, as a test -/
def tB (t : TE) : TT := fun σ H Q => t σ H fun x H1 => ∃ c, x = .bl c ∧ Q c H1
theorem pe_cmp {op : CmpOp} {t : TE} (h : PC X op a b t) (h1 : behindInMarks op b = false := by first | exact nobehind _ (by decide) (by decide) | rfl) : PE X (.Compare a [op] [b] pos) t := fun pins s σ H Q I hw => wpAny_Compare1 (h pins s σ H Q I hw) h1
theorem pt_cmp {op : CmpOp} {t : TE} (h : PC X op a b t) (h1 : behindInMarks op b = false := by first | exact nobehind _ (by decide) (by decide) | rfl) : PT X (.Compare a [op] [b] pos) (tB t) := by
  intro pins s σ H Q I hw
  refine wpAny_isTrue_Compare1 (thn (h pins s σ H _ I hw) fun v s1 h1 => thn h1 fun u s2 h2 => thn h2 fun c s3 ⟨x, H1, I1, r1, q1⟩ => ?_) h1
  obtain ⟨d, rfl, q⟩ := q1
  cases r1
  exact wpAny_truthy_bool ⟨H1, I1, q⟩
/-- an expression whose value is a bool, as a test -/
theorem pt_val {e : Expr} {t : TE} (h : PE X e t) (he : ∀ whole, isTrue e X.env whole = (do let v ← whole; standAt e.pos; holding [v] (truthy v)) := by intro _; rfl) : PT X e (tB t) := by
  intro pins s σ H Q I hw
  refine isTrue_plain (thn (h pins s σ H _ I hw) fun v s1 ⟨x, H1, I1, r1, q1⟩ => ?_) (he _)
  obtain ⟨d, rfl, q⟩ := q1
  cases r1
  exact wpAny_truthy_bool ⟨H1, I1, q⟩

/-! ### and, or, not -/
variable {tA tB' : TT} {rest : List Expr}
def tAnd (t u : TT) : TT := fun σ H Q => t σ H fun c H1 => if c = true then u σ H1 Q else Q false H1
def tOr (t u : TT) : TT := fun σ H Q => t σ H fun c H1 => if c = true then Q true H1 else u σ H1 Q
def tNot (t : TT) : TT := fun σ H Q => t σ H fun c H1 => Q (!c) H1
theorem pw_and1 (ha : PT X a tA) : PW X (.BoolOp .And [a] pos) tA := by
  intro wh pins s σ H Q I h
  refine isTrue_and (thn (ha pins s σ H Q I h) fun c s1 e => ?_)
  cases c with
  | true => exact isTrue_and_nil e
  | false => exact e
theorem pw_or1 (ha : PT X a tA) : PW X (.BoolOp .Or [a] pos) tA := by
  intro wh pins s σ H Q I h
  refine isTrue_or (thn (ha pins s σ H Q I h) fun c s1 e => ?_)
  cases c with
  | false => exact isTrue_or_nil e
  | true => exact e
theorem pw_and (ha : PT X a tA) (hb : PW X (.BoolOp .And (b :: rest) pos) tB') : PW X (.BoolOp .And (a :: b :: rest) pos) (tAnd tA tB') := by
  intro wh pins s σ H Q I h
  refine isTrue_and (thn (ha pins s σ H _ I h) fun c s1 ⟨H1, I1, q1⟩ => ?_)
  cases c with
  | true => exact hb wh pins s1 σ H1 Q I1 q1
  | false => exact ⟨H1, I1, q1⟩
theorem pw_or (ha : PT X a tA) (hb : PW X (.BoolOp .Or (b :: rest) pos) tB') : PW X (.BoolOp .Or (a :: b :: rest) pos) (tOr tA tB') := by
  intro wh pins s σ H Q I h
  refine isTrue_or (thn (ha pins s σ H _ I h) fun c s1 ⟨H1, I1, q1⟩ => ?_)
  cases c with
  | true => exact ⟨H1, I1, q1⟩
  | false => exact hb wh pins s1 σ H1 Q I1 q1
theorem pt_not (ha : PT X a tA) : PT X (.UnaryOp .Not a pos) (tNot tA) := by
  intro pins s σ H Q I h
  exact isTrue_not (ha pins s σ H (fun c H1 => Q (!c) H1) I h)
/-- .. as values (bools) -/
def tAndV (ta tb : TE) : TE := fun σ H Q => ta σ H fun x H1 => ∃ c, x = .bl c ∧ if c = true then tb σ H1 Q else Q (.bl false) H1
def tOrV (ta tb : TE) : TE := fun σ H Q => ta σ H fun x H1 => ∃ c, x = .bl c ∧ if c = true then Q (.bl true) H1 else tb σ H1 Q
def tNotV (ta : TE) : TE := fun σ H Q => ta σ H fun x H1 => ∃ c, x = .bl c ∧ Q (.bl (!c)) H1
theorem pe_one {op} {t : TE} (h : PE X a t) : PE X (.BoolOp op [a] pos) t := fun pins s σ H Q I hw => BoolOp_one (h pins s σ H Q I hw)
theorem pe_and (ha : PE X a ta) (hb : PE X (.BoolOp .And (b :: rest) pos) tb) : PE X (.BoolOp .And (a :: b :: rest) pos) (tAndV ta tb) := by
  intro pins s σ H Q I h
  refine BoolOp_and (thn (ha pins s σ H _ I h) fun v s1 ⟨x, H1, I1, r1, q1⟩ => ?_)
  obtain ⟨c, rfl, q1⟩ := q1
  cases r1
  refine wpAny_truthy_bool ?_
  cases c with
  | true => exact hb pins s1 σ H1 Q I1 q1
  | false => exact ⟨.bl false, H1, I1, rfl, q1⟩
theorem pe_or (ha : PE X a ta) (hb : PE X (.BoolOp .Or (b :: rest) pos) tb) : PE X (.BoolOp .Or (a :: b :: rest) pos) (tOrV ta tb) := by
  intro pins s σ H Q I h
  refine BoolOp_or (thn (ha pins s σ H _ I h) fun v s1 ⟨x, H1, I1, r1, q1⟩ => ?_)
  obtain ⟨c, rfl, q1⟩ := q1
  cases r1
  refine wpAny_truthy_bool ?_
  cases c with
  | false => exact hb pins s1 σ H1 Q I1 q1
  | true => exact ⟨.bl true, H1, I1, rfl, q1⟩
theorem pe_not (ha : PE X a ta) : PE X (.UnaryOp .Not a pos) (tNotV ta) := by
  intro pins s σ H Q I h
  refine UnaryOp_ (thn (ha pins s σ H _ I h) fun v s1 ⟨x, H1, I1, r1, q1⟩ => ?_)
  obtain ⟨c, rfl, q1⟩ := q1
  cases r1
  exact not_of (wpAny_truthy_bool ⟨.bl (!c), H1, I1, rfl, q1⟩)
/-- a if t else b -/
def tIf (t : TT) (ta tb : TE) : TE := fun σ H Q => t σ H fun c H1 => if c = true then ta σ H1 Q else tb σ H1 Q
theorem pe_ifExp {c : Expr} (hc : PT X c tA) (ha : PE X a ta) (hb : PE X b tb) : PE X (.IfExp c a b pos) (tIf tA ta tb) := by
  intro pins s σ H Q I h
  refine wpAny_IfExp (thn (hc pins s σ H _ I h) fun d s1 ⟨H1, I1, q1⟩ => ?_)
  cases d with
  | true => exact ha pins s1 σ H1 Q I1 q1
  | false => exact hb pins s1 σ H1 Q I1 q1
end
end L2

namespace L2
open PySem PySem.Spec PyProof.Rows

/-! ### a list, a tuple that is read: tracked, frozen, or an object of the module -/
def SqL (K : PySem.W.Frag) (H : Hp) (a : Addr) (xs : List V) : Prop :=
  Rd H a (.lst xs) ∨
    ∃ (o : Obj) (its : Array Value) (n : Nat), K.lookup a = some o ∧ o.cls = .type "list" ∧ o.dict = none ∧ o.data = .seq its n ∧ its.size ≤ sizeLine ∧ Vals xs its.toList
def SqT (K : PySem.W.Frag) (H : Hp) (a : Addr) (xs : List V) : Prop :=
  Rd H a (.tup xs) ∨
    ∃ (o : Obj) (its : Array Value) (n : Nat), K.lookup a = some o ∧ o.cls = .type "tuple" ∧ o.data = .seq its n ∧ its.size ≤ sizeLine ∧ Vals xs its.toList
def absV : Value → Option V
  | .none => some .non
  | .bool b => some (.bl b)
  | .int i _ => some (.int i)
  | .str x _ => some (.str x)
  | .bytes b _ => some (.byt b)
  | .float b _ => some (.flt b)
  | .ref a => some (.ref a)
  | .type n => some (.ty n)
  | _ => none
theorem RelV.abs {x : V} {u : Value} (r : RelV x u) : absV u = some x := by
  cases x with
  | non => cases r; rfl
  | bl _ => cases r; rfl
  | int _ => obtain ⟨t, rfl⟩ := r; rfl
  | str _ => obtain ⟨t, rfl⟩ := r; rfl
  | byt _ => obtain ⟨t, rfl⟩ := r; rfl
  | flt _ => obtain ⟨t, rfl⟩ := r; rfl
  | ref _ => cases r; rfl
  | ty _ => cases r; rfl
theorem RelV.inj {x y : V} {u : Value} (r : RelV x u) (q : RelV y u) : x = y := Option.some.inj (r.abs.symm.trans q.abs)
theorem Vals.inj : ∀ {xs ys : List V} {us : List Value}, Vals xs us → Vals ys us → xs = ys
  | _, _, _, .nil, .nil => rfl
  | _, _, _, .cons r t, .cons r' t' => by rw [r.inj r', Vals.inj t t']
section
variable {X : Cx} {pins : List (Addr × Obj)} {σ : St} {H : Hp} {s : Shared} {a : Addr} {xs ys : List V}
theorem SqL.of {K : PySem.W.Frag} (h : H a = some (.lst xs)) : SqL K H a xs := .inl (.inl h)
theorem SqT.of {K : PySem.W.Frag} (h : H a = some (.tup xs)) : SqT K H a xs := .inl (.inl h)
theorem Inv.list (I : Inv X pins σ H s) (h : SqL X.K H a xs) : ∃ its : List Value, Vals xs its ∧ PlainL s.heap a its.toArray ∧ xs.length ≤ sizeLine := by
  rcases h with h | ⟨o, its, n, hk, hc, hd, hs, hz, r⟩
  · obtain ⟨z, its, n, r, e⟩ := h.ok I.hok
    exact ⟨its, r, ⟨_, n, e, rfl, rfl, rfl⟩, z⟩
  · refine ⟨its.toList, r, ⟨o, n, I.kIn a o hk, hc, hd, by simpa using hs⟩, ?_⟩
    have e := r.length
    simp only [Array.length_toList] at e
    omega
theorem Inv.tuple (I : Inv X pins σ H s) (h : SqT X.K H a xs) : ∃ its : List Value, Vals xs its ∧ IsTup s.heap a its.toArray ∧ xs.length ≤ sizeLine := by
  rcases h with h | ⟨o, its, n, hk, hc, hs, hz, r⟩
  · obtain ⟨z, its, r, p⟩ := h.ok I.hok
    exact ⟨its, r, p, z⟩
  · refine ⟨its.toList, r, ⟨o, I.kIn a o hk, hc, n, by simpa using hs⟩, ?_⟩
    have e := r.length
    simp only [Array.length_toList] at e
    omega
theorem Inv.list_inj (I : Inv X pins σ H s) (h : SqL X.K H a xs) (h' : SqL X.K H a ys) : xs = ys := by
  obtain ⟨its, r, ⟨o, n, e, _, _, d⟩, _⟩ := I.list h
  obtain ⟨its', r', ⟨o', n', e', _, _, d'⟩, _⟩ := I.list h'
  rw [e] at e'; cases e'
  rw [d] at d'
  injection d' with d1 _
  have : its = its' := by simpa using congrArg Array.toList d1
  subst this
  exact r.inj r'
theorem Inv.tuple_inj (I : Inv X pins σ H s) (h : SqT X.K H a xs) (h' : SqT X.K H a ys) : xs = ys := by
  obtain ⟨its, r, ⟨o, e, _, n, d⟩, _⟩ := I.tuple h
  obtain ⟨its', r', ⟨o', e', _, n', d'⟩, _⟩ := I.tuple h'
  rw [e] at e'; cases e'
  rw [d] at d'
  injection d' with d1 _
  have : its = its' := by simpa using congrArg Array.toList d1
  subst this
  exact r.inj r'
end

/-! ### another wish about exceptions -/
abbrev Cx.wish (X : Cx) (E : Value → Shared → Prop) : Cx := { X with xe := E }
/-- no exception leaves -/
abbrev Cx.nox (X : Cx) : Cx := X.wish fun _ _ => False
theorem Cx.Ok.wish {X : Cx} (ok : X.Ok) (E : Value → Shared → Prop) : (X.wish E).Ok :=
  ⟨ok.mod, ok.kind, ok.glob, ok.blt, ok.above, ok.inj, ok.has, ok.cab, ok.hd, ok.frames, ok.stk, ok.exf, ok.bs, ok.bsz, ok.noex, ok.exfs, ok.funs, ok.frf⟩
theorem Cx.Ok.unwish {X : Cx} {E : Value → Shared → Prop} (ok : (X.wish E).Ok) : X.Ok :=
  ⟨ok.mod, ok.kind, ok.glob, ok.blt, ok.above, ok.inj, ok.has, ok.cab, ok.hd, ok.frames, ok.stk, ok.exf, ok.bs, ok.bsz, ok.noex, ok.exfs, ok.funs, ok.frf⟩
section
variable {X : Cx} {pins : List (Addr × Obj)} {σ : St} {H : Hp} {s : Shared} {E : Value → Shared → Prop}
theorem Inv.wish (I : Inv X pins σ H s) (E : Value → Shared → Prop) : Inv (X.wish E) pins σ H s := ⟨I.ok.wish E, I.os, I.bare, I.base, I.loc, I.cell, I.free, I.freeC, I.pin, I.hok, I.len⟩
theorem Inv.unwish (I : Inv (X.wish E) pins σ H s) : Inv X pins σ H s := ⟨I.ok.unwish, I.os, I.bare, I.base, I.loc, I.cell, I.free, I.freeC, I.pin, I.hok, I.len⟩
theorem SP.unwish {D : Ends} {f : Flow} {s' : Shared} (h : SP (X.wish E) pins D f s') : SP X pins D f s' := by
  cases f with
  | next => obtain ⟨σ', H', I, q⟩ := h; exact ⟨σ', H', I.unwish, q⟩
  | brk => obtain ⟨σ', H', I, q⟩ := h; exact ⟨σ', H', I.unwish, q⟩
  | cont => obtain ⟨σ', H', I, q⟩ := h; exact ⟨σ', H', I.unwish, q⟩
  | ret u => obtain ⟨v, σ', H', I, r, q⟩ := h; exact ⟨v, σ', H', I.unwish, r, q⟩
theorem PE.nox {e : Expr} {t : TE} (h : PE X.nox e t) : PE X e t := fun pins s σ H Q I hw =>
  wpAny_mono (h pins s σ H Q (I.wish _) hw) (fun _ _ ⟨v, H', I', r, q⟩ => ⟨v, H', I'.unwish, r, q⟩) fun _ _ z => False.elim z
theorem PT.nox {e : Expr} {t : TT} (h : PT X.nox e t) : PT X e t := fun pins s σ H Q I hw =>
  wpAny_mono (h pins s σ H Q (I.wish _) hw) (fun _ _ ⟨H', I', q⟩ => ⟨H', I'.unwish, q⟩) fun _ _ z => False.elim z
theorem PSs.nox {st : List Stmt} {t : TS} (h : PSs X.nox st t) : PSs X st t := fun pins s σ H D I hw =>
  wpAny_mono (h pins s σ H D (I.wish _) hw) (fun _ _ q => q.unwish) fun _ _ z => False.elim z
end

/-! ### blocks and small statements -/
section
variable {X : Cx} {st : Stmt} {rest : List Stmt} {t u : TS} {e : Expr} {te : TE} {pos : Pos}
def tNext : TS := fun D σ H => D.nx σ H
def tSeq (t u : TS) : TS := fun D σ H => t { D with nx := u D } σ H
theorem pss_nil : PSs X [] tNext := fun _ _ σ H _ I h => wpAny_execs_nil ⟨σ, H, I, h⟩
theorem pss_cons (h1 : PS X st t) (h2 : PSs X rest u) : PSs X (st :: rest) (tSeq t u) := by
  intro pins s σ H D I h
  refine wpAny_execs_cons (thn (h1 pins s σ H { D with nx := u D } I h) fun f s1 q => ?_)
  cases f with
  | next =>
    obtain ⟨σ', H', I', q⟩ := q
    exact h2 pins s1 σ' H' D I' q
  | ret v => exact q
  | brk => exact q
  | cont => exact q
theorem pss_one (h1 : PS X st t) : PSs X [st] t := by
  intro pins s σ H D I h
  refine wpAny_execs_cons (thn (h1 pins s σ H D I h) fun f s1 q => ?_)
  cases f with
  | next => exact wpAny_execs_nil q
  | ret v => exact q
  | brk => exact q
  | cont => exact q
def tBreak : TS := fun D σ H => D.bk σ H
def tCont : TS := fun D σ H => D.ct σ H
theorem ps_pass : PS X (.Pass pos) tNext := fun _ _ σ H _ I h => wpAny_Pass ⟨σ, H, I, h⟩
theorem ps_break : PS X (.Break pos) tBreak := fun _ _ σ H _ I h => wpAny_Break ⟨σ, H, I, h⟩
theorem ps_continue : PS X (.Continue pos) tCont := fun _ _ σ H _ I h => wpAny_Continue ⟨σ, H, I, h⟩
/-- in a def's body nothing is shown -/
theorem Inv.quiet {pins : List (Addr × Obj)} {σ : St} {H : Hp} {s : Shared} (I : Inv X pins σ H s) : interactive X.env = false := by simp [interactive, I.ok.kind]
/-- a docstring -/
theorem ps_doc {x j pos pos'} : PS X (.Expr (.Constant (.str x) j pos) pos') tNext := fun _ s σ H _ I h => wpAny_Expr (Calls.Constant_str (show SP X _ _ .next { s with toks := s.toks + 1 } from ⟨σ, H, I.tok _, h⟩)) I.quiet
/-- an expression whose value is dropped -/
def tDrop (te : TE) : TS := fun D σ H => te σ H fun _ H1 => D.nx σ H1
theorem ps_expr (he : PE X e te) (hs : swapsWith e none pos.line X.env = pure false := by rfl) : PS X (.Expr e pos) (tDrop te) := by
  intro pins s σ H D I h
  exact wpAny_Expr_any (thn (he pins s σ H _ I h) fun v s1 ⟨x, H1, I1, r1, q1⟩ => ⟨σ, H1, I1, q1⟩) I.quiet hs
def tRet (te : TE) : TS := fun D σ H => te σ H D.rt
theorem ps_ret (he : PE X e te) : PS X (.Return (some e) pos) (tRet te) := by
  intro pins s σ H D I h
  exact wpAny_Return_some (thn (he pins s σ H _ I h) fun v s1 ⟨x, H1, I1, r1, q1⟩ => ⟨x, σ, H1, I1, r1, q1⟩)
def tRetN : TS := fun D _ H => D.rt .non H
theorem ps_retN : PS X (.Return none pos) tRetN := fun _ _ σ H _ I h => wpAny_Return_none ⟨.non, σ, H, I, rfl, h⟩
def tIfS (c : TT) (t u : TS) : TS := fun D σ H => c σ H fun b H1 => if b = true then t D σ H1 else u D σ H1
theorem ps_if {c : Expr} {a b : List Stmt} {tc : TT} (hc : PT X c tc) (ha : PSs X a t) (hb : PSs X b u) : PS X (.If c a b pos) (tIfS tc t u) := by
  intro pins s σ H D I h
  refine wpAny_If (thn (hc pins s σ H _ I h) fun d s1 ⟨H1, I1, q1⟩ => ?_)
  cases d with
  | true => exact ha pins s1 σ H1 D I1 q1
  | false => exact hb pins s1 σ H1 D I1 q1
/-- code that the proof never comes to -/
def tNever : TS := fun _ _ _ => False
theorem ps_never : PS X st tNever := fun _ _ _ _ _ _ h => h.elim
theorem pss_never {sts : List Stmt} : PSs X sts tNever := fun _ _ _ _ _ _ h => h.elim
end

/-! ### targets -/
abbrev TG := V → St → Hp → (St → Hp → Prop) → Prop
abbrev TGs := List V → St → Hp → (St → Hp → Prop) → Prop
def PG (X : Cx) (target : Expr) (t : TG) : Prop :=
  ∀ (pins : List (Addr × Obj)) (s : Shared) (σ : St) (H : Hp) (v : V) (u : Value) (Q : St → Hp → Prop), Inv X pins σ H s → RelV v u → t v σ H Q →
    wpAny (model X.prog X.w) X.A (assign target X.env u) (fun _ s' => ∃ σ' H', Inv X pins σ' H' s' ∧ Q σ' H') X.xe s
/-- several targets, one after another -/
def PGs (X : Cx) (ts : List Expr) (t : TGs) : Prop :=
  ∀ (pins : List (Addr × Obj)) (s : Shared) (σ : St) (H : Hp) (vs : List V) (us : List Value) (Q : St → Hp → Prop), Inv X pins σ H s → Vals vs us → t vs σ H Q →
    wpAny (model X.prog X.w) X.A (assignInOrder ((assignEach ts X.env).map (·.2)) us) (fun _ s' => ∃ σ' H', Inv X pins σ' H' s' ∧ Q σ' H') X.xe s
/-- o[i] = v, by values -/
abbrev TSet := V → V → V → Hp → (Hp → Prop) → Prop
def PSet (X : Cx) (t : TSet) : Prop :=
  ∀ (pins : List (Addr × Obj)) (s : Shared) (σ : St) (H : Hp) (o i v : V) (ov iv u : Value) (Q : Hp → Prop), Inv X pins σ H s → RelV o ov → RelV i iv → RelV v u → t o i v H Q →
    wpAny (model X.prog X.w) X.A (setItem ov iv u) (fun _ s' => ∃ H', Inv X pins σ H' s' ∧ Q H') X.xe s
/-- a op= b, by values -/
abbrev TIp := V → V → Hp → VK → Prop
def PIp (X : Cx) (op : Operator) (t : TIp) : Prop :=
  ∀ (pins : List (Addr × Obj)) (s : Shared) (σ : St) (H : Hp) (x y : V) (v u : Value) (Q : VK), Inv X pins σ H s → RelV x v → RelV y u → t x y H Q →
    wpAny (model X.prog X.w) X.A (inplaceOp op v u) (EP X pins σ Q) X.xe s
section
variable {X : Cx} {pos : Pos}
def gName (i : Nat) : TG := fun v σ H Q => Q (σ.set i (some v)) H
theorem pg_name {i : Nat} {x : Str} (hN : X.N.Nodup) (hi : X.N[i]? = some x) (hx : Loc X.env.scope x) (hf : X.fn x = true ∨ X.env.scope.names.lookup x = some .local := by first | exact .inl rfl | exact .inr rfl | assumption) : PG X (.Name x pos) (gName i) := by
  intro pins s σ H v u Q I r h
  exact wpAny_assign_Name (store_ok I hN hi hx r (fun s' I' => ⟨_, H, I', h⟩) hf)
def gNil : TGs := fun vs σ H Q => vs = [] ∧ Q σ H
def gCons (t : TG) (u : TGs) : TGs := fun vs σ H Q => ∃ v r, vs = v :: r ∧ t v σ H fun σ' H' => u r σ' H' Q
theorem pgs_nil : PGs X [] gNil := by
  intro pins s σ H vs us Q I r h
  obtain ⟨e, h⟩ := h
  subst e
  cases r
  exact assignInOrder_nil ⟨σ, H, I, h⟩
theorem pgs_cons {e : Expr} {es : List Expr} {t : TG} {u : TGs} (h1 : PG X e t) (h2 : PGs X es u)
    (hs : (assignEach (e :: es) X.env).map (·.2) = assign e X.env :: (assignEach es X.env).map (·.2) := by rfl) : PGs X (e :: es) (gCons t u) := by
  intro pins s σ H vs us Q I r h
  obtain ⟨v, vr, e1, h⟩ := h
  subst e1
  cases r with
  | cons r rr =>
    rw [hs]
    refine assignInOrder_cons (thn (h1 pins s σ H _ _ _ I r h) fun _ s1 ⟨σ1, H1, I1, q1⟩ => ?_)
    exact h2 pins s1 σ1 H1 _ _ Q I1 rr q1
/-- (a, b, ..) = a tuple of that length -/
def gTup (K : PySem.W.Frag) (n : Nat) (t : TGs) : TG := fun v σ H Q => ∃ a xs, v = .ref a ∧ SqT K H a xs ∧ xs.length = n ∧ t xs σ H Q
theorem pg_tup {es : List Expr} {k : Nat} {t : TGs} {n : Nat} (hc : X.calm = true) (h : PGs X es t)
    (hn : (assignEach es X.env).length = n := by rfl) (hst : (assignEach es X.env).findIdx? (·.1) = none := by rfl) : PG X (.Tuple es k pos) (gTup X.K n t) := by
  intro pins s σ H v u Q I r hw
  obtain ⟨a, xs, e1, hq, hl, hw⟩ := hw
  subst e1
  cases r
  obtain ⟨its, rv, ht, hz⟩ := I.tuple hq
  refine assign_Tuple_tuple (I.ok.hd hc) ht (by simp [hn, ← hl, rv.length]) hst fun h' hx => ?_
  have I1 : Inv X pins σ H { s with heap := h' } := I.kept (t' := s.toks) fun b o e => hx b o (Nat.ne_of_lt (Heap.lt_size e)) e
  exact h pins _ σ H xs _ Q I1 (by simpa using rv) hw
/-- o[i] = .. -/
def gSub (to ti : TE) (t : TSet) : TG := fun v σ H Q => to σ H fun o H1 => ti σ H1 fun i H2 => t o i v H2 fun H3 => Q σ H3
theorem pg_sub {o i : Expr} {to ti : TE} {t : TSet} (ho : PE X o to) (hi : PE X i ti) (hs : PSet X t)
    (ha : ∀ v, assign (.Subscript o i pos) X.env v = (do
      let ov ← holding [v] (eval o X.env)
      let iv ← holding [v, ov] (eval i X.env)
      standAt pos
      holding [v, ov, iv] (setItem ov iv v)
      release [v, ov, iv] []) := by intro _; rfl) : PG X (.Subscript o i pos) (gSub to ti t) := by
  intro pins s σ H v u Q I r h
  rw [ha]
  refine wpAny_bind (wpAny_holding (thn (ho pins s σ H _ I h) fun ov s1 ⟨x, H1, I1, r1, q1⟩ => ?_))
  refine wpAny_bind (wpAny_holding (thn (hi pins s1 σ H1 _ I1 q1) fun iv s2 ⟨y, H2, I2, r2, q2⟩ => ?_))
  refine wpAny_bind (wpAny_standAt (wpAny_bind (wpAny_holding (thn (hs pins s2 σ H2 x y v ov iv u _ I2 r1 r2 r q2) fun _ s3 ⟨H3, I3, q3⟩ => ?_))))
  exact wpAny_release ⟨σ, H3, I3, q3⟩
/-- target = value -/
def tAsg (te : TE) (g : TG) : TS := fun D σ H => te σ H fun x H1 => g x σ H1 D.nx
theorem ps_asg {tg e : Expr} {te : TE} {g : TG} (he : PE X e te) (hg : PG X tg g) (hs : swapsWithSole [tg] e pos.line X.env = pure false := by rfl) (hw : swappedStores [tg] e X.env = pure none := by rfl)
    (h1 : (assignEach [tg] X.env).map (·.2) = [assign tg X.env] := by rfl) : PS X (.Assign [tg] e pos) (tAsg te g) := by
  intro pins s σ H D I h
  refine wpAny_Assign_stores (thn (he pins s σ H _ I h) fun v s1 ⟨x, H1, I1, r1, q1⟩ => ?_) hs hw
  rw [h1]
  exact thn (hg pins s1 σ H1 x v _ I1 r1 q1) fun _ s2 q => q
/-- name = value -/
theorem ps_set {i : Nat} {x : Str} {e : Expr} {te : TE} {pos' : Pos} (hN : X.N.Nodup) (hi : X.N[i]? = some x) (hx : Loc X.env.scope x) (he : PE X e te) (hs : swapsWith e (some (.Name x pos')) pos.line X.env = pure false := by rfl) (hf : X.fn x = true ∨ X.env.scope.names.lookup x = some .local := by first | exact .inl rfl | exact .inr rfl | assumption) :
    PS X (.Assign [.Name x pos'] e pos) (tAsg te (gName i)) := by
  intro pins s σ H D I h
  refine wpAny_Assign_Name (thn (he pins s σ H _ I h) fun v s1 ⟨y, H1, I1, r1, q1⟩ => ?_) hs
  exact store_ok I1 hN hi hx r1 (fun s2 I2 => ⟨_, H1, I2, q1⟩) hf
/-- a, b = x, y with plain local names: stored from the right; the pair itself is not tracked (the opening rows as in PyProof/Rows/TupAssign.lean:23) -/
def tPar (i j : Nat) (ta : TA) : TS := fun D σ H => ta σ H fun vs H1 => ∃ v w, vs = [v, w] ∧ D.nx ((σ.set i (some v)).set j (some w)) H1
theorem ps_par {i j : Nat} {x y : Str} {a b : Expr} {ta : TA} {px py pt : Pos} {kt k2 pt2} (hc : X.calm = true) (hN : X.N.Nodup) (hi : X.N[i]? = some x) (hj : X.N[j]? = some y) (hij : i ≠ j)
    (hx : X.env.scope.names.lookup x = some .local) (hy : X.env.scope.names.lookup y = some .local) (ha : PA X [a, b] ta)
    (hw : swappedStores [.Tuple [.Name x px, .Name y py] kt pt] (.Tuple [a, b] k2 pt2) X.env = pure (some [x, y]))
    (hs : swapsWithSole [.Tuple [.Name x px, .Name y py] kt pt] (.Tuple [a, b] k2 pt2) pos.line X.env = pure false := by rfl) :
    PS X (.Assign [.Tuple [.Name x px, .Name y py] kt pt] (.Tuple [a, b] k2 pt2) pos) (tPar i j ta) := by
  intro pins s σ H D I h
  rw [exec_Assign_arm]
  refine wpAny_bind (wpAny_standAt ?_)
  rw [hs]
  refine wpAny_bind (wpAny_pure ?_)
  rw [if_neg (by decide)]
  refine wpAny_bind (Tuple_ (thn (ha _ pins s σ H _ I h) fun us s1 ⟨vs, H1, I1, r1, q1⟩ => ?_))
  obtain ⟨v, w, e1, q1⟩ := q1
  subst e1
  obtain ⟨u1, u2, rfl, rv, rw'⟩ : ∃ u1 u2, us = [u1, u2] ∧ RelV v u1 ∧ RelV w u2 := by
    cases r1 with
    | cons p q =>
      cases q with
      | cons p' q' =>
        cases q'
        exact ⟨_, _, rfl, p, p'⟩
  refine wpAny_newObj_type ?_ (by show 2 ≤ sizeLine; decide)
  have I2 : Inv X pins σ H1 { s1 with heap := s1.heap.push { cls := .type "tuple", data := .seq [u1, u2].toArray } } := I1.kept (t' := s1.toks) fun b o e => Heap.get?_push_of_some _ e
  rw [hw]
  refine wpAny_bind (wpAny_pure ?_)
  show wpAny (model X.prog X.w) X.A (do rule "assign.swapped-stores"; let items ← unpackItems (.ref s1.heap.objs.size) 2 none; assignInOrder [fun v => bindName X.env y v, fun v => bindName X.env x v] items.reverse; pure Flow.next) _ _ _
  refine wpAny_bind (wpAny_rule (wpAny_bind (unpackItems_tuple (items := #[u1, u2]) (I.ok.hd hc) (IsTup.new s1.heap _) fun h' hx' => ?_)))
  have I3 := I2.kept (h' := h') (t' := s1.toks) fun b o e => hx' b o (Nat.ne_of_lt (Heap.lt_size e)) e
  show wpAny _ _ (assignInOrder [fun v => bindName X.env y v, fun v => bindName X.env x v] [u2, u1] >>= fun _ => pure Flow.next) _ _ _
  refine wpAny_bind (assignInOrder_cons (wpAny_bindName (store_ok I3 hN hj (.inl hy) rw' (fun s2 I4 => ?_) (.inr hy))))
  refine assignInOrder_cons (wpAny_bindName (store_ok I4 hN hi (.inl hx) rv (fun s3 I5 => assignInOrder_nil (wpAny_pure ?_)) (.inr hx)))
  rw [List.set_comm _ _ (Ne.symm hij)] at I5
  exact ⟨_, H1, I5, q1⟩
/-- name op= e -/
def tAug (i : Nat) (te : TE) (ti : TIp) : TS := fun D σ H => ∃ x, σ[i]? = some (some x) ∧ te σ H fun y H1 => ti x y H1 fun z H2 => D.nx (σ.set i (some z)) H2
theorem ps_aug {i : Nat} {x : Str} {e : Expr} {te : TE} {op : Operator} {ti : TIp} {pos' : Pos} (hN : X.N.Nodup) (hi : X.N[i]? = some x) (hx : Loc X.env.scope x) (he : PE X e te) (ho : PIp X op ti) (hf : X.fn x = true ∨ X.env.scope.names.lookup x = some .local := by first | exact .inl rfl | exact .inr rfl | assumption) :
    PS X (.AugAssign (.Name x pos') op e pos) (tAug i te ti) := by
  intro pins s σ H D I h
  obtain ⟨v, e1, h⟩ := h
  obtain ⟨m, hn, hl⟩ := I.loc
  have vis : Vis X.env.scope x := by rcases hx with k | k; exact .inl k; exact .inr (.inl k)
  obtain ⟨u, r, l⟩ := hl i x v hi e1 vis
  refine wpAny_AugAssign_Name ?_
  have go : wpAny (model X.prog X.w) X.A (eval e X.env) (fun w s₂ => wpAny (model X.prog X.w) X.A (inplaceOp op u w) (fun r s₃ => wpAny (model X.prog X.w) X.A (storeName X.env x r) (fun _ => SP X pins D .next) X.xe s₃) X.xe s₂) X.xe s := by
    refine thn (he pins s σ H _ I h) fun w s1 ⟨y, H1, I1, r1, q1⟩ => ?_
    refine thn (ho pins s1 σ H1 v y u w _ I1 r r1 q1) fun z s2 ⟨zv, H2, I2, r2, q2⟩ => ?_
    exact store_ok I2 hN hi hx r2 (fun s3 I3 => ⟨_, H2, I3, q2⟩) hf
  rcases l with ⟨hk, hm⟩ | ⟨hk, c, hc, hcell⟩
  · exact wpAny_loadName_local I.ok.kind hk hn hm go
  · rcases hk with hk | hk
    · exact wpAny_loadName_cell I.ok.kind hk hc hcell go
    · rcases hx with k | k
      · have : X.env.scope.names.lookup x = some .free := hk
        rw [k] at this; cases this
      · have : X.env.scope.names.lookup x = some .free := hk
        rw [k] at this; cases this
/-- o[i] op= e -/
def tAugS (to ti te : TE) (tget : V → V → Hp → VK → Prop) (tip : TIp) (tset : TSet) : TS := fun D σ H => to σ H fun o H1 => ti σ H1 fun i H2 => tget o i H2 fun x H3 => te σ H3 fun y H4 => tip x y H4 fun z H5 => tset o i z H5 fun H6 => D.nx σ H6
/-- o[i], by values -/
def PGet (X : Cx) (t : V → V → Hp → VK → Prop) : Prop :=
  ∀ (pins : List (Addr × Obj)) (s : Shared) (σ : St) (H : Hp) (o i : V) (ov iv : Value) (Q : VK), Inv X pins σ H s → RelV o ov → RelV i iv → t o i H Q →
    wpAny (model X.prog X.w) X.A (getItem ov iv) (EP X pins σ Q) X.xe s
theorem ps_augS {o i e : Expr} {to ti te : TE} {tget : V → V → Hp → VK → Prop} {tip : TIp} {tset : TSet} {op : Operator} {tpos : Pos} (ho : PE X o to) (hi : PE X i ti) (hg : PGet X tget) (he : PE X e te) (hp : PIp X op tip) (hs : PSet X tset)
    (ha : ∀ ov iv new, augStore i ov iv new = (do holding [new, ov, iv] (setItem ov iv new); release [new, ov, iv] []; pure .next) := by intros; rfl) : PS X (.AugAssign (.Subscript o i tpos) op e pos) (tAugS to ti te tget tip tset) := by
  intro pins s σ H D I h
  refine wpAny_AugAssign_SubscriptAny (thn (ho pins s σ H _ I h) fun ov s1 ⟨x1, H1, I1, r1, q1⟩ => ?_) ha
  refine thn (hi pins s1 σ H1 _ I1 q1) fun iv s2 ⟨x2, H2, I2, r2, q2⟩ => ?_
  refine thn (hg pins s2 σ H2 x1 x2 ov iv _ I2 r1 r2 q2) fun old s3 ⟨x3, H3, I3, r3, q3⟩ => ?_
  refine thn (he pins s3 σ H3 _ I3 q3) fun v s4 ⟨x4, H4, I4, r4, q4⟩ => ?_
  refine thn (hp pins s4 σ H4 x3 x4 old v _ I4 r3 r4 q4) fun new s5 ⟨x5, H5, I5, r5, q5⟩ => ?_
  exact thn (hs pins s5 σ H5 x1 x2 x5 ov iv new _ I5 r1 r2 r5 q5) fun _ s6 ⟨H6, I6, q6⟩ => ⟨σ, H6, I6, q6⟩
/-- ints -/
def ipI (f : Int → Int → Int) : TIp := fun x y H Q => ∃ i j, x = .int i ∧ y = .int j ∧ Q (.int (f i j)) H
theorem ip_add : PIp X .Add (ipI fun i j => i + j) := by
  intro pins s σ H x y v u Q I r1 r2 h
  obtain ⟨i, j, e1, e2, q⟩ := h
  subst e1; subst e2
  obtain ⟨t, rfl⟩ := r1
  obtain ⟨t', rfl⟩ := r2
  exact iadd_int ⟨.int _, H, I.tok _, ⟨_, rfl⟩, q⟩
theorem ip_sub : PIp X .Sub (ipI fun i j => i - j) := by
  intro pins s σ H x y v u Q I r1 r2 h
  obtain ⟨i, j, e1, e2, q⟩ := h
  subst e1; subst e2
  obtain ⟨t, rfl⟩ := r1
  obtain ⟨t', rfl⟩ := r2
  exact isub_int ⟨.int _, H, I.tok _, ⟨_, rfl⟩, q⟩
end

/-! ### while -/
section
variable {X : Cx} {pos : Pos}
/-- the invariant W with its measure -/
def tWhile (c : TT) (tb : TS) : TS := fun D σ H => ∃ W : Nat → St → Hp → Prop, (∃ m, W m σ H) ∧ ∀ m σ H, W m σ H →
  c σ H fun b H1 => if b = true then ∃ N : St → Hp → Prop, (∀ σ' H', N σ' H' → ∃ m', m' < m ∧ W m' σ' H') ∧ tb { D with nx := N, ct := N, bk := D.nx } σ H1 else D.nx σ H1
theorem ps_while {c : Expr} {body : List Stmt} {tc : TT} {tb : TS} (hp : PassesOwn (model X.prog X.w) X.A X.env X.xe) (hc : PT X c tc) (hb : PSs X body tb) : PS X (.While c body [] pos) (tWhile tc tb) := by
  intro pins s σ H D I h
  obtain ⟨W, ⟨m0, w0⟩, turn⟩ := h
  refine wpAny_While (codeAny_whileLoop (fun n s' => ∃ σ' H', Inv X pins σ' H' s' ∧ W n σ' H') ?_ m0 ⟨σ, H, I, w0⟩)
  rintro n s1 ⟨σ1, H1, I1, w1⟩
  refine wpAny_passesOwn hp (thn (hc pins s1 σ1 H1 _ I1 (turn n σ1 H1 w1)) fun b s2 ⟨H2, I2, q2⟩ => ?_)
  cases b with
  | true =>
    obtain ⟨N, hN, q2⟩ := q2
    rw [if_pos rfl]
    refine wpAny_passesOwn hp (thn (hb pins s2 σ1 H2 _ I2 q2) fun f s3 q3 => ?_)
    cases f with
    | next =>
      obtain ⟨σ3, H3, I3, n3⟩ := q3
      obtain ⟨m', hm, w3⟩ := hN σ3 H3 n3
      exact ⟨m', hm, σ3, H3, I3, w3⟩
    | cont =>
      obtain ⟨σ3, H3, I3, n3⟩ := q3
      obtain ⟨m', hm, w3⟩ := hN σ3 H3 n3
      exact ⟨m', hm, σ3, H3, I3, w3⟩
    | brk => exact q3
    | ret v => exact q3
  | false =>
    rw [if_neg Bool.false_ne_true]
    exact wpAny_execs_nil ⟨σ1, H2, I2, q2⟩
end

/-! ### what a loop or a comprehension walks -/
/-- at turn i: it yields x (the heap may grow), or it stops -/
structure It where
  go : Nat → Hp → Prop
  yld : Nat → Hp → V → Hp → Prop
  stop : Nat → Hp → Prop
/-- the iterator's own objects may turn: they are not the frame's, not pinned, younger than the entry (or a comprehension's own) -/
def FpOk (X : Cx) (pins : List (Addr × Obj)) (H : Hp) (b : Addr) : Prop :=
  H b = none ∧ b ≠ X.env.locals ∧ b ∉ X.fs ∧ (b ∈ X.ex ∨ X.s₀.heap.objs.size ≤ b) ∧ (∀ x c, X.env.cells.lookup x = some c → c ≠ b) ∧ ∀ p ∈ X.pn ++ pins, p.1 ≠ b
theorem Inv.fpOk {X : Cx} {pins : List (Addr × Obj)} {σ : St} {H H' : Hp} {s : Shared} {b : Addr} (I : Inv X pins σ H s) (hb : s.heap.objs.size ≤ b) (hn : H' b = none) : FpOk X pins H' b := by
  refine ⟨hn, Nat.ne_of_gt (Nat.lt_of_lt_of_le I.lt hb), I.nofs hb, .inr (Nat.le_trans I.sz hb), fun x c e z => ?_, fun p hp z => ?_⟩
  · obtain ⟨v, q⟩ := I.cell x c e
    exact absurd (Nat.lt_of_lt_of_le q.lt (by rw [z]; exact hb)) (Nat.lt_irrefl _)
  · exact absurd (Nat.lt_of_lt_of_le (Heap.lt_size (I.pin p hp).1) (by rw [z]; exact hb)) (Nat.lt_irrefl _)
structure Turn (P : Program) (w : World) (K : PySem.W.Frag) (tg : Expr) (J : It) (fp : List Addr) (it : Addr) (tn : Nat → Heap → Prop) : Prop where
  mem : it ∈ fp
  obj : ∀ i h, tn i h → ∀ b ∈ fp, ∃ o, h.get? b = some o ∧ ∀ v, o.data ≠ .cell v
  keep : ∀ i h h', tn i h → (∀ b ∈ fp, ∀ o, h.get? b = some o → h'.get? b = some o) → tn i h'
  item : ∀ (X : Cx), X.prog = P → X.w = w → X.K = K → X.calm = true → ∀ (i : Nat) (pins : List (Addr × Obj)) (s : Shared) (σ : St) (H : Hp) (E : Value → Shared → Prop), Inv X pins σ H s → (∀ b ∈ fp, FpOk X pins H b) → tn i s.heap → J.go i H →
    wpAny (model P w) X.A (pyNext (.ref it)) (fun r s1 => ∃ u, r = some u ∧
      wpAny (model P w) X.A (letOwnedTupleGo tg (.ref it) u) (fun _ s2 => ∃ x H', Inv X pins σ H' s2 ∧ RelV x u ∧ J.yld i H x H' ∧ tn (i + 1) s2.heap ∧ ∀ b ∈ fp, H' b = none) E s1) E s
  done : ∀ (X : Cx), X.prog = P → X.w = w → X.K = K → X.calm = true → ∀ (i : Nat) (pins : List (Addr × Obj)) (s : Shared) (σ : St) (H : Hp) (E : Value → Shared → Prop), Inv X pins σ H s → (∀ b ∈ fp, FpOk X pins H b) → tn i s.heap → J.stop i H →
    wpAny (model P w) X.A (pyNext (.ref it)) (fun r s1 => r = none ∧ Inv X pins σ H s1) E s
  self : ∀ (A : Around) (i : Nat) (s : Shared) (Q : Value → Shared → Prop) (E : Value → Shared → Prop), tn i s.heap → Q (.ref it) s → wpAny (model P w) A (pyIter (.ref it)) Q E s
abbrev TI := St → Hp → (It → Hp → Prop) → Prop
/-- an iterator has come -/
def PIE (X : Cx) (pins : List (Addr × Obj)) (σ : St) (tg : Expr) (R : It → Hp → Prop) (itv : Value) (s2 : Shared) : Prop :=
  ∃ (it : Addr) (fp : List Addr) (tn : Nat → Heap → Prop) (J : It) (H' : Hp), itv = .ref it ∧ Inv X pins σ H' s2 ∧ Turn X.prog X.w X.K tg J fp it tn ∧ tn 0 s2.heap ∧ (∀ b ∈ fp, FpOk X pins H' b) ∧ R J H'
def PI (X : Cx) (tg iter : Expr) (wi : TI) : Prop :=
  ∀ (pins : List (Addr × Obj)) (s : Shared) (σ : St) (H : Hp) (R : It → Hp → Prop), Inv X pins σ H s → wi σ H R →
    wpAny (model X.prog X.w) X.A (eval iter X.env) (fun v s1 => wpAny (model X.prog X.w) X.A (pyIter v) (PIE X pins σ tg R) X.xe s1) X.xe s

/-- the step ahead of the store is nothing for an iterator that keeps no tuple -/
theorem go_of {M : Model} {A : Around} {E : Value → Shared → Prop} {s : Shared} {tg : Expr} {it : Addr} {u : Value} {o : Obj} {n : String} {vs : Array Value} {Q : Unit → Shared → Prop} (ho : s.heap.get? it = some o) (hc : o.cls = .type n) (hd : o.data = .fields vs)
    (hn : ["enumerate", "zip", "dict_itemiterator", "dict_reverseitemiterator", "odict_iterator", "itertools.zip_longest", "itertools.pairwise"].contains n = false) (hQ : Q () s) : wpAny M A (letOwnedTupleGo tg (.ref it) u) Q E s := by
  unfold letOwnedTupleGo
  cases tg <;> first
    | exact wpAny_pure hQ
    | (cases u <;> first
        | exact wpAny_pure hQ
        | (refine wpAny_bind (wpAny_load ho ?_)
           rw [hc, hd]
           show wpAny M A (if (["enumerate", "zip", "dict_itemiterator", "dict_reverseitemiterator", "odict_iterator", "itertools.zip_longest", "itertools.pairwise"].contains n && vs[0]? == some (rawInt _)) = true then _ else _) Q E s
           rw [if_neg (by intro h; rw [hn, Bool.false_and] at h; cases h)]
           exact wpAny_pure hQ))

/-- the list at a, as it stands at each turn (a loop may append to it) -/
def Itl (K : PySem.W.Frag) (a : Addr) : It :=
  ⟨fun i H => ∃ xs x, SqL K H a xs ∧ xs[i]? = some x, fun i H x H' => H' = H ∧ ∀ xs, SqL K H a xs → xs[i]? = some x, fun i H => ∃ xs, SqL K H a xs ∧ xs.length ≤ i⟩
def Itt (K : PySem.W.Frag) (a : Addr) : It :=
  ⟨fun i H => ∃ xs x, SqT K H a xs ∧ xs[i]? = some x, fun i H x H' => H' = H ∧ ∀ xs, SqT K H a xs → xs[i]? = some x, fun i H => ∃ xs, SqT K H a xs ∧ xs.length ≤ i⟩
/-- lo, lo + 1, .. (n of them) -/
def Itr (lo : Int) (n : Nat) : It := ⟨fun i _ => i < n, fun i H x H' => H' = H ∧ x = .int (lo + i), fun i _ => n ≤ i⟩
theorem turn_list {P : Program} {w : World} {K : PySem.W.Frag} {tg : Expr} (a it : Addr) : Turn P w K tg (Itl K a) [it] it (fun i h => h.IsListIter it a i) where
  mem := by simp
  obj := fun i h st b hb => by
    have e : b = it := by simpa using hb
    subst e
    obtain ⟨o, e, c, d⟩ := st
    exact ⟨o, e, fun v z => by rw [d] at z; cases z⟩
  keep := fun i h h' st k => st.at fun o e => k it (by simp) o e
  item := by
    intro X hP hw hK hc i pins s σ H E I hf st hg
    subst hP hw hK
    obtain ⟨xs, x, hq, hx⟩ := hg
    obtain ⟨its, rv, p, hz⟩ := I.list hq
    obtain ⟨u, hu, ru⟩ := rv.get hx
    obtain ⟨f0, f1, f2, f3, f4, f5⟩ := hf it (by simp)
    refine wpAny_pyNext_list_item st p.isList (x := u) (by simpa using hu) fun h' st' sb => ?_
    have I1 : Inv X pins σ H { s with heap := h' } := I.turned (t' := s.toks) (fun b o hb e => (sb.2 b hb).trans e) f0 f1 f3 f4 f5
    obtain ⟨o, e, c, d⟩ := id st'
    exact ⟨u, rfl, go_of (s := { s with heap := h' }) e c d (by decide) ⟨x, H, I1, ru, ⟨rfl, fun ys hy => by rw [I.list_inj hy hq]; exact hx⟩, st', fun b hb => (hf b hb).1⟩⟩
  done := by
    intro X hP hw hK hc i pins s σ H E I hf st hg
    subst hP hw hK
    obtain ⟨xs, hq, hx⟩ := hg
    obtain ⟨its, rv, p, hz⟩ := I.list hq
    obtain ⟨f0, f1, f2, f3, f4, f5⟩ := hf it (by simp)
    have hl := rv.length
    exact wpAny_pyNext_list_end (I.ok.hd hc) st p.isList (by simp; omega) fun h' eb => ⟨rfl, I.turned (t' := s.toks) (fun b o hb e => eb b o hb e) f0 f1 f3 f4 f5⟩
  self := fun _ _ _ _ _ st h => wpAny_pyIter_listiter st h
theorem turn_tuple {P : Program} {w : World} {K : PySem.W.Frag} {tg : Expr} (a it : Addr) : Turn P w K tg (Itt K a) [it] it (fun i h => h.IsTupleIter it a i) where
  mem := by simp
  obj := fun i h st b hb => by
    have e : b = it := by simpa using hb
    subst e
    obtain ⟨o, e, c, d⟩ := st
    exact ⟨o, e, fun v z => by rw [d] at z; cases z⟩
  keep := fun i h h' st k => st.at fun o e => k it (by simp) o e
  item := by
    intro X hP hw hK hc i pins s σ H E I hf st hg
    subst hP hw hK
    obtain ⟨xs, x, hq, hx⟩ := hg
    obtain ⟨its, rv, p, hz⟩ := I.tuple hq
    obtain ⟨u, hu, ru⟩ := rv.get hx
    obtain ⟨f0, f1, f2, f3, f4, f5⟩ := hf it (by simp)
    refine wpAny_pyNext_tuple_item st (show s.heap.IsTuple a its.toArray from p) (x := u) (by simpa using hu) fun h' st' sb => ?_
    have I1 : Inv X pins σ H { s with heap := h' } := I.turned (t' := s.toks) (fun b o hb e => (sb.2 b hb).trans e) f0 f1 f3 f4 f5
    obtain ⟨o, e, c, d⟩ := id st'
    exact ⟨u, rfl, go_of (s := { s with heap := h' }) e c d (by decide) ⟨x, H, I1, ru, ⟨rfl, fun ys hy => by rw [I.tuple_inj hy hq]; exact hx⟩, st', fun b hb => (hf b hb).1⟩⟩
  done := by
    intro X hP hw hK hc i pins s σ H E I hf st hg
    subst hP hw hK
    obtain ⟨xs, hq, hx⟩ := hg
    obtain ⟨its, rv, p, hz⟩ := I.tuple hq
    obtain ⟨f0, f1, f2, f3, f4, f5⟩ := hf it (by simp)
    have hl := rv.length
    exact wpAny_pyNext_tuple_end (I.ok.hd hc) st (show s.heap.IsTuple a its.toArray from p) (by simp; omega) fun h' eb => ⟨rfl, I.turned (t' := s.toks) (fun b o hb e => eb b o hb e) f0 f1 f3 f4 f5⟩
  self := fun _ _ _ _ _ st h => wpAny_pyIter_tupleiter st h
theorem turn_range {P : Program} {w : World} {K : PySem.W.Frag} {tg : Expr} (it : Addr) (lo : Int) (n : Nat) : Turn P w K tg (Itr lo n) [it] it (fun i h => IsRangeIter h it (lo + (i : Nat) * 1) ((n : Int) - (i : Nat)) 1) where
  mem := by simp
  obj := fun i h st b hb => by
    have e : b = it := by simpa using hb
    subst e
    exact ⟨_, st, fun v z => by
      have z' : Data.fields _ = Data.cell v := z
      cases z'⟩
  keep := fun i h h' st k => k it (by simp) _ st
  item := by
    intro X hP hw hK hc i pins s σ H E I hf st hg
    subst hP hw hK
    obtain ⟨f0, f1, f2, f3, f4, f5⟩ := hf it (by simp)
    have W := Walks.range (prog := X.prog) (w := X.w) (I.ok.hd hc) it lo 1 n
    refine W.item i s _ _ hg st fun v h' tk hv st' kk => ?_
    obtain ⟨t, rfl⟩ := hv
    have I1 : Inv X pins σ H { s with heap := h', toks := tk } := I.turned (fun b o hb e => kk b o (by simpa using hb) e) f0 f1 f3 f4 f5
    refine ⟨_, rfl, go_of (s := { s with heap := h', toks := tk }) (n := "range_iterator") st' rfl rfl (by decide) ⟨.int (lo + i), H, I1, ⟨t, ?_⟩, ⟨rfl, rfl⟩, st', fun b hb => (hf b hb).1⟩⟩
    rw [Int.mul_one]
  done := by
    intro X hP hw hK hc i pins s σ H E I hf st hg
    subst hP hw hK
    obtain ⟨f0, f1, f2, f3, f4, f5⟩ := hf it (by simp)
    exact wpAny_pyNext_range_end (I.ok.hd hc) st (by have : n ≤ i := hg; omega) fun h' eb => ⟨rfl, I.turned (t' := s.toks) (fun b o hb e => eb b o hb e) f0 f1 f3 f4 f5⟩
  self := fun _ _ _ _ _ st h => wpAny_pyIter_rangeiter st h
end L2

namespace L2
open PySem PySem.Spec PyProof.Rows
section
variable {X : Cx} {tg : Expr}
def iList (K : PySem.W.Frag) (tl : TE) : TI := fun σ H R => tl σ H fun x H1 => ∃ a, x = .ref a ∧ (∃ xs, SqL K H1 a xs) ∧ R (Itl K a) H1
def iTup (K : PySem.W.Frag) (tl : TE) : TI := fun σ H R => tl σ H fun x H1 => ∃ a, x = .ref a ∧ (∃ xs, SqT K H1 a xs) ∧ R (Itt K a) H1
theorem pi_list {l : Expr} {tl : TE} (hl : PE X l tl) : PI X tg l (iList X.K tl) := by
  intro pins s σ H R I h
  refine thn (hl pins s σ H _ I h) fun v s1 ⟨x, H1, I1, r1, q1⟩ => ?_
  obtain ⟨a, e, ⟨xs, hq⟩, q⟩ := q1
  subst e
  cases r1
  obtain ⟨its, rv, p, hz⟩ := I1.list hq
  refine wpAny_pyIter_list p.isList ?_
  refine ⟨s1.heap.objs.size, [s1.heap.objs.size], _, _, H1, rfl, I1.kept (t' := s1.toks) fun b o e => Heap.get?_push_of_some _ e, turn_list a _, ⟨_, Heap.get?_push_size _ rfl, rfl, rfl⟩, fun b hb => ?_, q⟩
  have e : b = s1.heap.objs.size := by simpa using hb
  subst e
  exact I1.fpOk (Nat.le_refl _) (I1.hok.fresh (Nat.le_refl _))
theorem pi_tup {l : Expr} {tl : TE} (hl : PE X l tl) : PI X tg l (iTup X.K tl) := by
  intro pins s σ H R I h
  refine thn (hl pins s σ H _ I h) fun v s1 ⟨x, H1, I1, r1, q1⟩ => ?_
  obtain ⟨a, e, ⟨xs, hq⟩, q⟩ := q1
  subst e
  cases r1
  obtain ⟨its, rv, p, hz⟩ := I1.tuple hq
  refine wpAny_pyIter_tuple (show s1.heap.IsTuple a its.toArray from p) ?_
  refine ⟨s1.heap.objs.size, [s1.heap.objs.size], _, _, H1, rfl, I1.kept (t' := s1.toks) fun b o e => Heap.get?_push_of_some _ e, turn_tuple a _, ⟨_, Heap.get?_push_size _ rfl, rfl, rfl⟩, fun b hb => ?_, q⟩
  have e : b = s1.heap.objs.size := by simpa using hb
  subst e
  exact I1.fpOk (Nat.le_refl _) (I1.hok.fresh (Nat.le_refl _))
/-- a range object just made, walked -/
theorem range_it {pins : List (Addr × Obj)} {σ : St} {H : Hp} {s : Shared} {R : It → Hp → Prop} {E : Value → Shared → Prop} {lo hi : Int} {t u v : Tok} {tk : Nat} (I : Inv X pins σ H s) (h1 : -(2 ^ 62) ≤ lo) (h2 : lo < 2 ^ 62) (h3 : -(2 ^ 62) ≤ hi) (h4 : hi < 2 ^ 62)
    (q : R (Itr lo (hi - lo).toNat) H) : wpAny (model X.prog X.w) X.A (pyIter (.ref s.heap.objs.size)) (PIE X pins σ tg R) E { s with heap := s.heap.push { cls := .type "range", data := .fields #[.int lo t, .int hi u, .int 1 v] }, toks := tk } := by
  refine wpAny_pyIter_range (IsRange.new ..) (small_one h1 h2 h3 h4) ?_
  have I1 : Inv X pins σ H { s with heap := s.heap.push { cls := .type "range", data := .fields #[.int lo t, .int hi u, .int 1 v] }, toks := tk } := I.kept fun b o e => Heap.get?_push_of_some _ e
  refine ⟨(s.heap.push { cls := .type "range", data := .fields #[.int lo t, .int hi u, .int 1 v] }).objs.size, [(s.heap.push { cls := .type "range", data := .fields #[.int lo t, .int hi u, .int 1 v] }).objs.size], _, _, H, rfl,
    I1.kept (t' := tk) fun b o e => Heap.get?_push_of_some _ e, turn_range _ lo (hi - lo).toNat, ?_, fun b hb => ?_, q⟩
  · have e1 : lo + ((0 : Nat) : Int) * 1 = lo := by simp
    have e2 : (((hi - lo).toNat : Nat) : Int) - ((0 : Nat) : Int) = Builtin.Range.rangeSize lo hi 1 := by rw [rangeSize_one]; split <;> omega
    show IsRangeIter _ _ (lo + ((0 : Nat) : Int) * 1) ((((hi - lo).toNat : Nat) : Int) - ((0 : Nat) : Int)) 1
    rw [e1, e2]
    exact Heap.get?_push_size _ rfl
  · have e : b = (s.heap.push { cls := .type "range", data := .fields #[.int lo t, .int hi u, .int 1 v] }).objs.size := by simpa using hb
    subst e
    exact I1.fpOk (Nat.le_refl _) (I1.hok.fresh (Nat.le_refl _))
def iRng1 (ta : TA) : TI := fun σ H R => ta σ H fun vs H1 => ∃ j : Int, vs = [.int j] ∧ -(2 ^ 62) ≤ j ∧ j < 2 ^ 62 ∧ R (Itr 0 j.toNat) H1
def iRng2 (ta : TA) : TI := fun σ H R => ta σ H fun vs H1 => ∃ i j : Int, vs = [.int i, .int j] ∧ (-(2 ^ 62) ≤ i ∧ i < 2 ^ 62 ∧ -(2 ^ 62) ≤ j ∧ j < 2 ^ 62) ∧ R (Itr i (j - i).toNat) H1
theorem pi_range1 {a : Expr} {ta : TA} {p pos : Pos} (hg : Gl X "range") (hm : X.mg "range" = none) (ha : PA X [a] ta) (hs : starEach [a] X.env = [(false, eval a X.env)] := by rfl) : PI X tg (.Call (.Name "range" p) [a] [] pos) (iRng1 ta) := by
  intro pins s σ H R I h
  refine Call_ (ld_blt I hg hm boot_range (PyProof.Rows.callWith_type1 (thn (ha pos pins s σ H _ I h) fun us s1 ⟨vs, H1, I1, r1, q1⟩ => ?_) hs rfl))
  obtain ⟨j, e, q1, q2, q⟩ := q1
  subst e
  cases r1 with
  | cons r rr =>
    cases rr
    obtain ⟨t, rfl⟩ := r
    exact call_range_1 (range_it I1 (by omega) (by omega) q1 q2 (by simpa using q))
theorem pi_range2 {a b : Expr} {ta : TA} {p pos : Pos} (hg : Gl X "range") (hm : X.mg "range" = none) (ha : PA X [a, b] ta) (hs : starEach [a, b] X.env = [(false, eval a X.env), (false, eval b X.env)] := by rfl) (hs2 : starEach [b] X.env = [(false, eval b X.env)] := by rfl) :
    PI X tg (.Call (.Name "range" p) [a, b] [] pos) (iRng2 ta) := by
  intro pins s σ H R I h
  refine Call_ (ld_blt I hg hm boot_range (PyProof.Rows.callWith_type1 (thn (ha pos pins s σ H _ I h) fun us s1 ⟨vs, H1, I1, r1, q1⟩ => ?_) (by rw [hs, hs2]) (by rw [hs2]; rfl)))
  obtain ⟨i, j, e, ⟨q1, q2, q3, q4⟩, q⟩ := q1
  subst e
  cases r1 with
  | cons r rr =>
    cases rr with
    | cons r' rr =>
      cases rr
      obtain ⟨t, rfl⟩ := r
      obtain ⟨t', rfl⟩ := r'
      exact call_range_2 (range_it I1 q1 q2 q3 q4 q)

/-! ### for -/
/-- W: the invariant by the turn and a measure; N: what the body is to reach -/
def tFor (wi : TI) (g : TG) (tb : TS) : TS := fun D σ H => wi σ H fun J H1 => ∃ W : Nat → Nat → St → Hp → Prop, (∃ m, W 0 m σ H1) ∧ ∀ i m σ H, W i m σ H →
  (J.stop i H ∧ D.nx σ H) ∨ (J.go i H ∧ ∃ N : St → Hp → Prop, (∀ σ' H', N σ' H' → ∃ m', m' < m ∧ W (i + 1) m' σ' H') ∧ ∀ x H', J.yld i H x H' → g x σ H' fun σ2 H2 => tb { D with nx := N, ct := N, bk := D.nx } σ2 H2)
/-- the records at fp as they stand -/
def pinsAt (fp : List Addr) (h : Heap) : List (Addr × Obj) := fp.filterMap fun b => (h.get? b).map fun o => (b, o)
theorem mem_pinsAt {fp : List Addr} {h : Heap} {b : Addr} {o : Obj} (hb : b ∈ fp) (e : h.get? b = some o) : (b, o) ∈ pinsAt fp h := List.mem_filterMap.mpr ⟨b, hb, by rw [e]; rfl⟩
theorem of_pinsAt {fp : List Addr} {h : Heap} {p : Addr × Obj} (hp : p ∈ pinsAt fp h) : p.1 ∈ fp ∧ h.get? p.1 = some p.2 := by
  obtain ⟨b, hb, e⟩ := List.mem_filterMap.mp hp
  cases q : h.get? b with
  | none => rw [q] at e; cases e
  | some o =>
    rw [q] at e
    have e' : (b, o) = p := Option.some.inj e
    subst e'
    exact ⟨hb, q⟩
theorem Inv.pinned {pins : List (Addr × Obj)} {σ : St} {H : Hp} {s : Shared} {fp : List Addr} (I : Inv X pins σ H s) (hf : ∀ b ∈ fp, FpOk X pins H b) (ho : ∀ b ∈ fp, ∃ o, s.heap.get? b = some o ∧ ∀ v, o.data ≠ .cell v) : Inv X (pins ++ pinsAt fp s.heap) σ H s :=
  I.pins_of fun p hp => (List.mem_append.mp hp).elim (fun z => I.pin p (List.mem_append_right _ z)) fun z => by
    obtain ⟨hb, e⟩ := of_pinsAt z
    obtain ⟨f0, f1, f2, _⟩ := hf p.1 hb
    obtain ⟨o, e', d⟩ := ho p.1 hb
    rw [e] at e'; cases e'
    exact ⟨e, f0, f1, f2, d⟩
theorem Inv.unpinned {pins pl : List (Addr × Obj)} {σ : St} {H : Hp} {s : Shared} (I : Inv X (pins ++ pl) σ H s) : Inv X pins σ H s := I.pins_of fun p hp => I.pin p (List.mem_append_right _ (List.mem_append_left _ hp))
theorem ps_for {iter : Expr} {body : List Stmt} {wi : TI} {g : TG} {tb : TS} {pos : Pos} (hp : PassesOwn (model X.prog X.w) X.A X.env X.xe) (hc : X.calm = true) (hi : PI X tg iter wi) (hg : PG X tg g) (hb : PSs X body tb)
    (hs : ∀ x, foldedSetIterable iter X.env x = pure x := by intro _; rfl) : PS X (.For tg iter body [] pos) (tFor wi g tb) := by
  intro pins s σ H D I h
  refine wpAny_For (thn (hi pins s σ H _ I h) fun v s1 h1 => thn h1 fun itv s2 h2 => ?_) hs
  obtain ⟨it, fp, tn, J, H2, e, I2, T, st2, f2, W, ⟨m0, w0⟩, turn⟩ := h2
  subst e
  -- what stays true of the iterator's objects through the loop
  have stat : ∀ {H' : Hp}, (∀ b ∈ fp, H' b = none) → ∀ b ∈ fp, FpOk X pins H' b := fun hn b hb => ⟨hn b hb, (f2 b hb).2⟩
  refine codeAny_forLoop_any (fun n s' => ∃ i σ' H', Inv X pins σ' H' s' ∧ tn i s'.heap ∧ (∀ b ∈ fp, H' b = none) ∧ W i n σ' H') ?_ m0 ⟨0, σ, H2, I2, st2, fun b hb => (f2 b hb).1, w0⟩
  rintro n s3 ⟨i, σ3, H3, I3, st3, fr3, w3⟩
  rcases turn i n σ3 H3 w3 with ⟨stop, qn⟩ | ⟨go, N, hN, step⟩
  · refine wpAny_passesOwn hp (thn (T.done X rfl rfl rfl hc i pins s3 σ3 H3 X.xe I3 (stat fr3) st3 stop) fun r s4 ⟨hr, I4⟩ => ?_)
    subst hr
    exact wpAny_execs_nil ⟨σ3, H3, I4, qn⟩
  · refine wpAny_passesOwn hp (thn (T.item X rfl rfl rfl hc i pins s3 σ3 H3 X.xe I3 (stat fr3) st3 go) fun r s4 ⟨u, hr, h4⟩ => ?_)
    subst hr
    refine wpAny_passesOwn hp (thn h4 fun _ s5 ⟨x, H5, I5, r5, y5, st5, fr5⟩ => ?_)
    have I5' := I5.pinned (stat fr5) (T.obj _ _ st5)
    refine wpAny_passesOwn hp (thn (hg _ s5 σ3 H5 x u _ I5' r5 (step x H5 y5)) fun _ s6 ⟨σ6, H6, I6, q6⟩ => ?_)
    refine wpAny_passesOwn hp (thn (hb _ s6 σ6 H6 _ I6 q6) fun f s7 q7 => ?_)
    have again : ∀ {σ7 : St} {H7 : Hp}, Inv X (pins ++ pinsAt fp s5.heap) σ7 H7 s7 → N σ7 H7 → ∃ m, m < n ∧ ∃ i σ' H', Inv X pins σ' H' s7 ∧ tn i s7.heap ∧ (∀ b ∈ fp, H' b = none) ∧ W i m σ' H' := fun {σ7 H7} I7 n7 => by
      obtain ⟨m', hm, w7⟩ := hN σ7 H7 n7
      refine ⟨m', hm, i + 1, σ7, H7, I7.unpinned, T.keep _ _ _ st5 fun b hb o e => (I7.pin (b, o) (List.mem_append_right _ (List.mem_append_right _ (mem_pinsAt hb e)))).1, fun b hb => ?_, w7⟩
      obtain ⟨o, e, d⟩ := T.obj _ _ st5 b hb
      exact (I7.pin (b, o) (List.mem_append_right _ (List.mem_append_right _ (mem_pinsAt hb e)))).2.1
    cases f with
    | next => obtain ⟨σ7, H7, I7, n7⟩ := q7; exact again I7 n7
    | cont => obtain ⟨σ7, H7, I7, n7⟩ := q7; exact again I7 n7
    | brk => obtain ⟨σ7, H7, I7, q7⟩ := q7; exact ⟨σ7, H7, I7.unpinned, q7⟩
    | ret v => obtain ⟨x7, σ7, H7, I7, r7, q7⟩ := q7; exact ⟨x7, σ7, H7, I7.unpinned, r7, q7⟩
end

/-! ### the forms one uses -/
/-- over a list that the body leaves as it is -/
theorem for_list {K : PySem.W.Frag} {a : Addr} {xs : List V} {g : TG} {tb : TS} {D : Ends} {σ : St} {H : Hp} (Pv : Nat → St → Hp → Prop) (h0 : Pv 0 σ H) (hl : ∀ i σ H, i ≤ xs.length → Pv i σ H → SqL K H a xs)
    (hs : ∀ i x σ H, xs[i]? = some x → Pv i σ H → g x σ H fun σ2 H2 => tb { D with nx := Pv (i + 1), ct := Pv (i + 1), bk := D.nx } σ2 H2) (hd : ∀ σ H, Pv xs.length σ H → D.nx σ H) :
    ∃ W : Nat → Nat → St → Hp → Prop, (∃ m, W 0 m σ H) ∧ ∀ i m σ H, W i m σ H →
      ((Itl K a).stop i H ∧ D.nx σ H) ∨ ((Itl K a).go i H ∧ ∃ N : St → Hp → Prop, (∀ σ' H', N σ' H' → ∃ m', m' < m ∧ W (i + 1) m' σ' H') ∧ ∀ x H', (Itl K a).yld i H x H' → g x σ H' fun σ2 H2 => tb { D with nx := N, ct := N, bk := D.nx } σ2 H2) := by
  refine ⟨fun i m σ H => m = xs.length - i ∧ i ≤ xs.length ∧ Pv i σ H, ⟨xs.length, by simp, Nat.zero_le _, h0⟩, ?_⟩
  rintro i m σ H ⟨rfl, hi, p⟩
  have q := hl i σ H hi p
  by_cases hlt : i < xs.length
  · refine .inr ⟨⟨xs, xs[i], q, by simp [hlt]⟩, Pv (i + 1), fun σ' H' p' => ⟨xs.length - (i + 1), by omega, rfl, hlt, p'⟩, fun x H' y => ?_⟩
    obtain ⟨e, y⟩ := y
    subst e
    exact hs i x σ _ (y xs q) p
  · have e : i = xs.length := by omega
    subst e
    exact .inl ⟨⟨xs, q, Nat.le_refl _⟩, hd σ H p⟩
theorem for_tup {K : PySem.W.Frag} {a : Addr} {xs : List V} {g : TG} {tb : TS} {D : Ends} {σ : St} {H : Hp} (Pv : Nat → St → Hp → Prop) (h0 : Pv 0 σ H) (hl : ∀ i σ H, i ≤ xs.length → Pv i σ H → SqT K H a xs)
    (hs : ∀ i x σ H, xs[i]? = some x → Pv i σ H → g x σ H fun σ2 H2 => tb { D with nx := Pv (i + 1), ct := Pv (i + 1), bk := D.nx } σ2 H2) (hd : ∀ σ H, Pv xs.length σ H → D.nx σ H) :
    ∃ W : Nat → Nat → St → Hp → Prop, (∃ m, W 0 m σ H) ∧ ∀ i m σ H, W i m σ H →
      ((Itt K a).stop i H ∧ D.nx σ H) ∨ ((Itt K a).go i H ∧ ∃ N : St → Hp → Prop, (∀ σ' H', N σ' H' → ∃ m', m' < m ∧ W (i + 1) m' σ' H') ∧ ∀ x H', (Itt K a).yld i H x H' → g x σ H' fun σ2 H2 => tb { D with nx := N, ct := N, bk := D.nx } σ2 H2) := by
  refine ⟨fun i m σ H => m = xs.length - i ∧ i ≤ xs.length ∧ Pv i σ H, ⟨xs.length, by simp, Nat.zero_le _, h0⟩, ?_⟩
  rintro i m σ H ⟨rfl, hi, p⟩
  have q := hl i σ H hi p
  by_cases hlt : i < xs.length
  · refine .inr ⟨⟨xs, xs[i], q, by simp [hlt]⟩, Pv (i + 1), fun σ' H' p' => ⟨xs.length - (i + 1), by omega, rfl, hlt, p'⟩, fun x H' y => ?_⟩
    obtain ⟨e, y⟩ := y
    subst e
    exact hs i x σ _ (y xs q) p
  · have e : i = xs.length := by omega
    subst e
    exact .inl ⟨⟨xs, q, Nat.le_refl _⟩, hd σ H p⟩
theorem for_range {lo : Int} {n : Nat} {g : TG} {tb : TS} {D : Ends} {σ : St} {H : Hp} (Pv : Nat → St → Hp → Prop) (h0 : Pv 0 σ H)
    (hs : ∀ i σ H, i < n → Pv i σ H → g (.int (lo + i)) σ H fun σ2 H2 => tb { D with nx := Pv (i + 1), ct := Pv (i + 1), bk := D.nx } σ2 H2) (hd : ∀ σ H, Pv n σ H → D.nx σ H) :
    ∃ W : Nat → Nat → St → Hp → Prop, (∃ m, W 0 m σ H) ∧ ∀ i m σ H, W i m σ H →
      ((Itr lo n).stop i H ∧ D.nx σ H) ∨ ((Itr lo n).go i H ∧ ∃ N : St → Hp → Prop, (∀ σ' H', N σ' H' → ∃ m', m' < m ∧ W (i + 1) m' σ' H') ∧ ∀ x H', (Itr lo n).yld i H x H' → g x σ H' fun σ2 H2 => tb { D with nx := N, ct := N, bk := D.nx } σ2 H2) := by
  refine ⟨fun i m σ H => m = n - i ∧ i ≤ n ∧ Pv i σ H, ⟨n, by simp, Nat.zero_le _, h0⟩, ?_⟩
  rintro i m σ H ⟨rfl, hi, p⟩
  by_cases hlt : i < n
  · refine .inr ⟨hlt, Pv (i + 1), fun σ' H' p' => ⟨n - (i + 1), by omega, rfl, hlt, p'⟩, fun x H' y => ?_⟩
    obtain ⟨e, y⟩ := y
    subst e y
    exact hs i σ _ hlt p
  · have e : i = n := by omega
    subst e
    exact .inl ⟨Nat.le_refl _, hd σ H p⟩
/-- while, by a word and a measure of the state -/
theorem while_by {c : TT} {tb : TS} {D : Ends} {σ : St} {H : Hp} (Pv : St → Hp → Prop) (μ : St → Hp → Nat) (h0 : Pv σ H)
    (hs : ∀ σ H, Pv σ H → c σ H fun b H1 => if b = true then tb { D with nx := fun σ' H' => Pv σ' H' ∧ μ σ' H' < μ σ H, ct := fun σ' H' => Pv σ' H' ∧ μ σ' H' < μ σ H, bk := D.nx } σ H1 else D.nx σ H1)
    (mono : ∀ σ H Q Q', (∀ b H1, Q b H1 → Q' b H1) → c σ H Q → c σ H Q') : tWhile c tb D σ H := by
  refine ⟨fun m σ H => m = μ σ H ∧ Pv σ H, ⟨_, rfl, h0⟩, ?_⟩
  rintro m σ H ⟨rfl, p⟩
  refine mono σ H _ _ (fun b H1 q => ?_) (hs σ H p)
  cases b with
  | true => exact ⟨_, fun σ' H' ⟨p', l⟩ => ⟨_, l, rfl, p'⟩, q⟩
  | false => exact q
end L2

namespace L2
open PySem PySem.Spec PyProof.Rows

abbrev R2 := V → V → Hp → VK → Prop
/-- a two-place operation on values: f is binaryOp op, inplaceOp op or compareOp op -/
def OpR (X : Cx) (f : Value → Value → Sem Value) (r : R2) : Prop :=
  ∀ (pins : List (Addr × Obj)) (s : Shared) (σ : St) (H : Hp) (x y : V) (v u : Value) (Q : VK), Inv X pins σ H s → RelV x v → RelV y u → r x y H Q →
    wpAny (model X.prog X.w) X.A (f v u) (EP X pins σ Q) X.xe s
/-- a one-place operation -/
def UnR (X : Cx) (f : Value → Sem Value) (r : V → Hp → VK → Prop) : Prop :=
  ∀ (pins : List (Addr × Obj)) (s : Shared) (σ : St) (H : Hp) (x : V) (v : Value) (Q : VK), Inv X pins σ H s → RelV x v → r x H Q →
    wpAny (model X.prog X.w) X.A (f v) (EP X pins σ Q) X.xe s
/-- a call of a value that is known (a builtin, a type) with values -/
def CallR (X : Cx) (f : Value) (r : List V → Hp → VK → Prop) : Prop :=
  ∀ (pins : List (Addr × Obj)) (s : Shared) (σ : St) (H : Hp) (xs : List V) (us : List Value) (Q : VK), Inv X pins σ H s → Vals xs us → r xs H Q →
    wpAny (model X.prog X.w) X.A (call f us) (EP X pins σ Q) X.xe s
/-- a value's truth -/
def TruR (X : Cx) (r : V → Hp → (Bool → Hp → Prop) → Prop) : Prop :=
  ∀ (pins : List (Addr × Obj)) (s : Shared) (σ : St) (H : Hp) (x : V) (v : Value) (Q : Bool → Hp → Prop), Inv X pins σ H s → RelV x v → r x H Q →
    wpAny (model X.prog X.w) X.A (truthy v) (TP X pins σ Q) X.xe s

def tOp (r : R2) (ta tb : TE) : TE := fun σ H Q => ta σ H fun x H1 => tb σ H1 fun y H2 => r x y H2 Q
def tUn (r : V → Hp → VK → Prop) (ta : TE) : TE := fun σ H Q => ta σ H fun x H1 => r x H1 Q
/-- ints in, under C, and a value out -/
def rI (C : Int → Int → Prop) (g : Int → Int → V) : R2 := fun x y H Q => ∃ i j, x = .int i ∧ y = .int j ∧ C i j ∧ Q (g i j) H
def rI0 (g : Int → Int → V) : R2 := fun x y H Q => ∃ i j, x = .int i ∧ y = .int j ∧ Q (g i j) H
def rU (g : Int → V) : V → Hp → VK → Prop := fun x H Q => ∃ i, x = .int i ∧ Q (g i) H

section
variable {X : Cx} {a b c : Expr} {ta tb tc : TE} {pos : Pos}

theorem binT (ha : PE X a ta) (hb : PE X b tb) {pins : List (Addr × Obj)} {s : Shared} {σ : St} {H : Hp} {R : V → V → Hp → Prop} (I : Inv X pins σ H s)
    (h : ta σ H fun x H1 => tb σ H1 fun y H2 => R x y H2) {Q : Value → Shared → Prop} {f : Value → Value → Sem Value}
    (hf : ∀ v u s2 x y H2, Inv X pins σ H2 s2 → RelV x v → RelV y u → R x y H2 → wpAny (model X.prog X.w) X.A (f v u) Q X.xe s2) :
    wpAny (model X.prog X.w) X.A (eval a X.env) (fun v s₁ => wpAny (model X.prog X.w) X.A (eval b X.env) (fun u s₂ => wpAny (model X.prog X.w) X.A (f v u) Q X.xe s₂) X.xe s₁) X.xe s := by
  refine thn (ha pins s σ H _ I h) fun v s1 ⟨x, H1, I1, r1, q1⟩ => ?_
  refine thn (hb pins s1 σ H1 _ I1 q1) fun u s2 ⟨y, H2, I2, r2, q2⟩ => ?_
  exact hf v u s2 x y H2 I2 r1 r2 q2

theorem pe_op {op : Operator} {r : R2} (ho : OpR X (binaryOp op) r) (ha : PE X a ta) (hb : PE X b tb) : PE X (.BinOp a op b pos) (tOp r ta tb) := by
  intro pins s σ H Q I h
  exact wpAny_BinOp (binT ha hb I h fun v u s2 x y H2 I2 rx ry q => ho pins s2 σ H2 x y v u Q I2 rx ry q)
theorem pe_un {op : UnaryOp} {r : V → Hp → VK → Prop} (ho : UnR X (unaryOp op) r) (ha : PE X a ta) : PE X (.UnaryOp op a pos) (tUn r ta) := by
  intro pins s σ H Q I h
  exact UnaryOp_ (thn (ha pins s σ H _ I h) fun v s1 ⟨x, H1, I1, r1, q1⟩ => ho pins s1 σ H1 x v Q I1 r1 q1)
/-- a op= e at a name: the name's slot i -/
theorem augR {op : Operator} {r : R2} (ho : OpR X (inplaceOp op) r) {pins : List (Addr × Obj)} {s : Shared} {σ : St} {H : Hp} {x y : V} {v u : Value} {Q : VK} (I : Inv X pins σ H s)
    (rx : RelV x v) (ry : RelV y u) (q : r x y H Q) : wpAny (model X.prog X.w) X.A (inplaceOp op v u) (EP X pins σ Q) X.xe s := ho pins s σ H x y v u Q I rx ry q

/-! ### ints -/
theorem opI {f : Value → Value → Sem Value} {C : Int → Int → Prop} {g : Int → Int → Int}
    (rule : ∀ (i j : Int) (t u : Tok) (s : Shared) (Q : Value → Shared → Prop) (E : Value → Shared → Prop), C i j → Q (.int (g i j) s.toks) { s with toks := s.toks + 1 } → wpAny (model X.prog X.w) X.A (f (.int i t) (.int j u)) Q E s) :
    OpR X f (rI C fun i j => .int (g i j)) := by
  intro pins s σ H x y v u Q I rx ry h
  obtain ⟨i, j, rfl, rfl, hc, q⟩ := h
  obtain ⟨t, rfl⟩ := rx
  obtain ⟨t', rfl⟩ := ry
  exact rule i j t t' s _ _ hc ⟨.int (g i j), H, I.tok _, ⟨_, rfl⟩, q⟩
theorem opI0 {f : Value → Value → Sem Value} {g : Int → Int → Int}
    (rule : ∀ (i j : Int) (t u : Tok) (s : Shared) (Q : Value → Shared → Prop) (E : Value → Shared → Prop), Q (.int (g i j) s.toks) { s with toks := s.toks + 1 } → wpAny (model X.prog X.w) X.A (f (.int i t) (.int j u)) Q E s) :
    OpR X f (rI0 fun i j => .int (g i j)) := by
  intro pins s σ H x y v u Q I rx ry h
  obtain ⟨i, j, rfl, rfl, q⟩ := h
  obtain ⟨t, rfl⟩ := rx
  obtain ⟨t', rfl⟩ := ry
  exact rule i j t t' s _ _ ⟨.int (g i j), H, I.tok _, ⟨_, rfl⟩, q⟩
theorem opB0 {f : Value → Value → Sem Value} {g : Int → Int → Bool}
    (rule : ∀ (i j : Int) (t u : Tok) (s : Shared) (Q : Value → Shared → Prop) (E : Value → Shared → Prop), Q (.bool (g i j)) s → wpAny (model X.prog X.w) X.A (f (.int i t) (.int j u)) Q E s) :
    OpR X f (rI0 fun i j => .bl (g i j)) := by
  intro pins s σ H x y v u Q I rx ry h
  obtain ⟨i, j, rfl, rfl, q⟩ := h
  obtain ⟨t, rfl⟩ := rx
  obtain ⟨t', rfl⟩ := ry
  exact rule i j t t' s _ _ ⟨.bl (g i j), H, I, rfl, q⟩

def CDiv (i j : Int) : Prop := 0 < j ∧ j < 1073741824
def CDivN (i j : Int) : Prop := j ≠ 0 ∧ j.natAbs < 1073741824
def CPow (i j : Int) : Prop := 0 ≤ j ∧ j ≤ 1000000 ∧ i.natAbs < 2 ^ 64
def CMul (i j : Int) : Prop := (-(2 ^ 64) < i ∧ i < 2 ^ 64) ∨ (-(2 ^ 64) < j ∧ j < 2 ^ 64)
theorem CMul.ok {i j : Int} (h : CMul i j) : IntMulOk i j := by
  rcases h with ⟨h1, h2⟩ | ⟨h1, h2⟩
  · exact .of_left (intBits_le_64 h1 h2)
  · exact .of_right (intBits_le_64 h1 h2)
theorem two_pow_nn (k : Nat) : (0 : Int) ≤ 2 ^ k := by
  rw [two_pow_cast]
  exact Int.natCast_nonneg _

theorem op_add : OpR X (binaryOp .Add) (rI0 fun i j => .int (i + j)) := opI0 fun _ _ _ _ _ _ _ q => add_int q
theorem op_sub : OpR X (binaryOp .Sub) (rI0 fun i j => .int (i - j)) := opI0 fun _ _ _ _ _ _ _ q => sub_int q
theorem op_mul : OpR X (binaryOp .Mult) (rI CMul fun i j => .int (i * j)) := opI fun _ _ _ _ _ _ _ hc q => mul_int q hc.ok
/-- // by a positive divisor -/
theorem op_fdiv : OpR X (binaryOp .FloorDiv) (rI CDiv fun i j => .int (i / j)) := opI fun i j _ _ _ _ _ hc q => by
  have h1 : (0 : Int) < j := hc.1
  have h2 : j < 1073741824 := hc.2
  exact floordiv_int (by omega) (by rw [Int.fdiv_eq_ediv_of_nonneg i (by omega)]; exact q) (.inl (PyProof.noPylong_small (by omega)))
theorem op_fdivN : OpR X (binaryOp .FloorDiv) (rI CDivN fun i j => .int (i.fdiv j)) := opI fun _ _ _ _ _ _ _ hc q => floordiv_int hc.1 q (.inl (PyProof.noPylong_small hc.2))
/-- % by a positive divisor of any size -/
theorem op_mod : OpR X (binaryOp .Mod) (rI (fun _ j => 0 < j) fun i j => .int (i % j)) := opI fun i j _ _ _ _ _ hc q => by
  have h1 : (0 : Int) < j := hc
  exact mod_int' (by omega) (by rw [Int.fmod_eq_emod_of_nonneg i (by omega)]; exact q)
theorem op_modN : OpR X (binaryOp .Mod) (rI (fun _ j => j ≠ 0) fun i j => .int (i.fmod j)) := opI fun _ _ _ _ _ _ _ hc q => mod_int' hc q
theorem op_pow : OpR X (binaryOp .Pow) (rI CPow fun i j => .int (i ^ j.toNat)) := opI fun _ _ _ _ _ _ _ hc q => pow_int_small hc.1 hc.2.1 hc.2.2 q
theorem op_shl : OpR X (binaryOp .LShift) (rI CPow fun i j => .int (i * 2 ^ j.toNat)) := opI fun _ _ _ _ _ _ _ hc q => lshift_int_small hc.1 hc.2.1 hc.2.2 q
theorem op_shr : OpR X (binaryOp .RShift) (rI (fun _ j => 0 ≤ j) fun i j => .int (i / 2 ^ j.toNat)) := opI fun i j _ _ _ _ _ hc q =>
  rshift_int hc (by rw [Int.fdiv_eq_ediv_of_nonneg i (two_pow_nn _)]; exact q)
theorem op_and : OpR X (binaryOp .BitAnd) (rI0 fun i j => .int (Builtin.bitAnd i j)) := opI0 fun _ _ _ _ _ _ _ q => and_int q
theorem op_or : OpR X (binaryOp .BitOr) (rI0 fun i j => .int (Builtin.bitOr i j)) := opI0 fun _ _ _ _ _ _ _ q => or_int q
theorem op_xor : OpR X (binaryOp .BitXor) (rI0 fun i j => .int (Builtin.bitXor i j)) := opI0 fun _ _ _ _ _ _ _ q => xor_int q

theorem iop_add : OpR X (inplaceOp .Add) (rI0 fun i j => .int (i + j)) := opI0 fun _ _ _ _ _ _ _ q => iadd_int q
theorem iop_sub : OpR X (inplaceOp .Sub) (rI0 fun i j => .int (i - j)) := opI0 fun _ _ _ _ _ _ _ q => isub_int q
theorem iop_mul : OpR X (inplaceOp .Mult) (rI CMul fun i j => .int (i * j)) := opI fun _ _ _ _ _ _ _ hc q => imul_int q hc.ok
theorem iop_fdiv : OpR X (inplaceOp .FloorDiv) (rI CDiv fun i j => .int (i / j)) := opI fun i j _ _ _ _ _ hc q => by
  have h1 : (0 : Int) < j := hc.1
  have h2 : j < 1073741824 := hc.2
  exact ifloordiv_int (by omega) (by rw [Int.fdiv_eq_ediv_of_nonneg i (by omega)]; exact q) (.inl (PyProof.noPylong_small (by omega)))
theorem iop_mod : OpR X (inplaceOp .Mod) (rI (fun _ j => 0 < j) fun i j => .int (i % j)) := opI fun i j _ _ _ _ _ hc q => by
  have h1 : (0 : Int) < j := hc
  exact imod_int (by omega) (by rw [Int.fmod_eq_emod_of_nonneg i (by omega)]; exact q)
theorem iop_shl : OpR X (inplaceOp .LShift) (rI CPow fun i j => .int (i * 2 ^ j.toNat)) := opI fun _ _ _ _ _ _ _ hc q => ilshift_int_small hc.1 hc.2.1 hc.2.2 q
theorem iop_shr : OpR X (inplaceOp .RShift) (rI (fun _ j => 0 ≤ j) fun i j => .int (i / 2 ^ j.toNat)) := opI fun i j _ _ _ _ _ hc q =>
  irshift_int hc (by rw [Int.fdiv_eq_ediv_of_nonneg i (two_pow_nn _)]; exact q)
theorem iop_and : OpR X (inplaceOp .BitAnd) (rI0 fun i j => .int (Builtin.bitAnd i j)) := opI0 fun _ _ _ _ _ _ _ q => iand_int q
theorem iop_or : OpR X (inplaceOp .BitOr) (rI0 fun i j => .int (Builtin.bitOr i j)) := opI0 fun _ _ _ _ _ _ _ q => ior_int q
theorem iop_xor : OpR X (inplaceOp .BitXor) (rI0 fun i j => .int (Builtin.bitXor i j)) := opI0 fun _ _ _ _ _ _ _ q => ixor_int q

theorem unI {f : Value → Sem Value} {g : Int → Int}
    (rule : ∀ (i : Int) (t : Tok) (s : Shared) (Q : Value → Shared → Prop) (E : Value → Shared → Prop), Q (.int (g i) s.toks) { s with toks := s.toks + 1 } → wpAny (model X.prog X.w) X.A (f (.int i t)) Q E s) :
    UnR X f (rU fun i => .int (g i)) := by
  intro pins s σ H x v Q I rx h
  obtain ⟨i, rfl, q⟩ := h
  obtain ⟨t, rfl⟩ := rx
  exact rule i t s _ _ ⟨.int (g i), H, I.tok _, ⟨_, rfl⟩, q⟩
theorem un_neg : UnR X (unaryOp .USub) (rU fun i => .int (-i)) := unI fun _ _ _ _ _ q => neg_int q
theorem un_inv : UnR X (unaryOp .Invert) (rU fun i => .int (Builtin.bitNot i)) := unI fun _ _ _ _ _ q => invert_int q

/-! ### bools among ints: n += (a < b) -/
theorem op_add_ib : OpR X (binaryOp .Add) (fun x y H Q => ∃ i k, x = .int i ∧ y = .bl k ∧ Q (.int (i + b2i k)) H) := by
  intro pins s σ H x y v u Q I rx ry h
  obtain ⟨i, k, rfl, rfl, q⟩ := h
  obtain ⟨t, rfl⟩ := rx
  cases ry
  exact add_int_bool ⟨.int (i + b2i k), H, I.tok _, ⟨_, rfl⟩, q⟩
end

/-! ### comparisons -/
/-- the scalars that == tells apart as data does -/
def scal : V → V → Bool
  | .non, .non => true | .non, .int _ => true | .int _, .non => true | .non, .bl _ => true | .bl _, .non => true | .non, .str _ => true | .str _, .non => true
  | .int _, .int _ => true | .bl _, .bl _ => true | .str _, .str _ => true | .byt _, .byt _ => true
  | .int _, .str _ => true | .str _, .int _ => true | .bl _, .str _ => true | .str _, .bl _ => true
  | _, _ => false
def rEq : R2 := fun x y H Q => scal x y = true ∧ Q (.bl (decide (x = y))) H
def rNe : R2 := fun x y H Q => scal x y = true ∧ Q (.bl (!decide (x = y))) H

theorem dec_int {i j : Int} : decide (V.int i = V.int j) = (i == j) := by
  rw [Bool.eq_iff_iff]
  simp
theorem dec_bl {i j : Bool} : decide (V.bl i = V.bl j) = (i == j) := by
  rw [Bool.eq_iff_iff]
  simp
theorem dec_str {i j : Str} : decide (V.str i = V.str j) = (i == j) := by
  rw [Bool.eq_iff_iff]
  simp
theorem dec_byt {i j : Array UInt8} : decide (V.byt i = V.byt j) = (i.toList == j.toList) := by
  rw [Bool.eq_iff_iff]
  cases i
  cases j
  simp

section
variable {X : Cx} {a b c : Expr} {ta tb tc : TE} {pos : Pos}
theorem fin_bl {pins : List (Addr × Obj)} {σ : St} {H : Hp} {s : Shared} {Q : VK} {k k' : Bool} (I : Inv X pins σ H s) (q : Q (.bl k) H) (e : k = k') : EP X pins σ Q (.bool k') s := by
  subst e
  exact ⟨.bl k, H, I, rfl, q⟩
theorem op_eq : OpR X (compareOp .Eq) rEq := by
  intro pins s σ H x y v u Q I rx ry h
  obtain ⟨hs, q⟩ := h
  cases x with
  | non =>
    cases rx
    cases y with
    | non => cases ry; exact PySem.EqNone.eq_none_none (fin_bl I q (by simp))
    | bl j => cases ry; exact PySem.EqNone.eq_none_bool (fin_bl I q (by simp))
    | int j => obtain ⟨t', rfl⟩ := ry; exact PySem.EqNone.eq_none_int (fin_bl I q (by simp))
    | str j => obtain ⟨t', rfl⟩ := ry; exact PySem.EqNone.eq_none_str (fin_bl I q (by simp))
    | _ => exact absurd (show false = true from hs) Bool.false_ne_true
  | bl i =>
    cases rx
    cases y with
    | non => cases ry; exact PySem.EqNone.eq_bool_none (fin_bl I q (by simp))
    | bl j => cases ry; exact eq_bool (fin_bl I q dec_bl)
    | str j => obtain ⟨t', rfl⟩ := ry; exact PySem.EqMixed.eq_bool_str (fin_bl I q (by simp))
    | _ => exact absurd (show false = true from hs) Bool.false_ne_true
  | int i =>
    obtain ⟨t, rfl⟩ := rx
    cases y with
    | non => cases ry; exact PySem.EqNone.eq_int_none (fin_bl I q (by simp))
    | int j => obtain ⟨t', rfl⟩ := ry; exact eq_int (fin_bl I q dec_int)
    | str j => obtain ⟨t', rfl⟩ := ry; exact PySem.EqMixed.eq_int_str (fin_bl I q (by simp))
    | _ => exact absurd (show false = true from hs) Bool.false_ne_true
  | str i =>
    obtain ⟨t, rfl⟩ := rx
    cases y with
    | non => cases ry; exact PySem.EqNone.eq_str_none (fin_bl I q (by simp))
    | bl j => cases ry; exact PySem.EqMixed.eq_str_bool (fin_bl I q (by simp))
    | int j => obtain ⟨t', rfl⟩ := ry; exact PySem.EqMixed.eq_str_int (fin_bl I q (by simp))
    | str j => obtain ⟨t', rfl⟩ := ry; exact eq_str (fin_bl I q dec_str)
    | _ => exact absurd (show false = true from hs) Bool.false_ne_true
  | byt i =>
    obtain ⟨t, rfl⟩ := rx
    cases y with
    | byt j => obtain ⟨t', rfl⟩ := ry; exact PySem.W.eq_bytes (fin_bl I q dec_byt)
    | _ => exact absurd (show false = true from hs) Bool.false_ne_true
  | _ => cases y <;> exact absurd (show false = true from hs) Bool.false_ne_true
theorem op_ne : OpR X (compareOp .NotEq) rNe := by
  intro pins s σ H x y v u Q I rx ry h
  obtain ⟨hs, q⟩ := h
  cases x with
  | non =>
    cases rx
    cases y with
    | non => cases ry; exact PySem.EqNone.ne_none_none (fin_bl I q (by simp))
    | bl j => cases ry; exact PySem.EqNone.ne_none_bool (fin_bl I q (by simp))
    | int j => obtain ⟨t', rfl⟩ := ry; exact PySem.EqNone.ne_none_int (fin_bl I q (by simp))
    | str j => obtain ⟨t', rfl⟩ := ry; exact PySem.EqNone.ne_none_str (fin_bl I q (by simp))
    | _ => exact absurd (show false = true from hs) Bool.false_ne_true
  | bl i =>
    cases rx
    cases y with
    | non => cases ry; exact PySem.EqNone.ne_bool_none (fin_bl I q (by simp))
    | bl j => cases ry; exact ne_bool (fin_bl I q (congrArg not dec_bl))
    | str j => obtain ⟨t', rfl⟩ := ry; exact PySem.EqMixed.ne_bool_str (fin_bl I q (by simp))
    | _ => exact absurd (show false = true from hs) Bool.false_ne_true
  | int i =>
    obtain ⟨t, rfl⟩ := rx
    cases y with
    | non => cases ry; exact PySem.EqNone.ne_int_none (fin_bl I q (by simp))
    | int j => obtain ⟨t', rfl⟩ := ry; exact ne_int (fin_bl I q (congrArg not dec_int))
    | str j => obtain ⟨t', rfl⟩ := ry; exact PySem.EqMixed.ne_int_str (fin_bl I q (by simp))
    | _ => exact absurd (show false = true from hs) Bool.false_ne_true
  | str i =>
    obtain ⟨t, rfl⟩ := rx
    cases y with
    | non => cases ry; exact PySem.EqNone.ne_str_none (fin_bl I q (by simp))
    | bl j => cases ry; exact PySem.EqMixed.ne_str_bool (fin_bl I q (by simp))
    | int j => obtain ⟨t', rfl⟩ := ry; exact PySem.EqMixed.ne_str_int (fin_bl I q (by simp))
    | str j => obtain ⟨t', rfl⟩ := ry; exact ne_str (fin_bl I q (congrArg not dec_str))
    | _ => exact absurd (show false = true from hs) Bool.false_ne_true
  | byt i =>
    obtain ⟨t, rfl⟩ := rx
    cases y with
    | byt j => obtain ⟨t', rfl⟩ := ry; exact PySem.W.ne_bytes (fin_bl I q (congrArg not dec_byt))
    | _ => exact absurd (show false = true from hs) Bool.false_ne_true
  | _ => cases y <;> exact absurd (show false = true from hs) Bool.false_ne_true

theorem op_lt : OpR X (compareOp .Lt) (rI0 fun i j => .bl (decide (i < j))) := opB0 fun _ _ _ _ _ _ _ q => lt_int q
theorem op_le : OpR X (compareOp .LtE) (rI0 fun i j => .bl (decide (i ≤ j))) := opB0 fun _ _ _ _ _ _ _ q => le_int q
theorem op_gt : OpR X (compareOp .Gt) (rI0 fun i j => .bl (decide (j < i))) := opB0 fun _ _ _ _ _ _ _ q => gt_int q
theorem op_ge : OpR X (compareOp .GtE) (rI0 fun i j => .bl (decide (j ≤ i))) := opB0 fun _ _ _ _ _ _ _ q => ge_int q
theorem op_lt_str : OpR X (compareOp .Lt) (fun x y H Q => ∃ i j, x = .str i ∧ y = .str j ∧ Q (.bl (decide (i.cps.toList < j.cps.toList))) H) := by
  intro pins s σ H x y v u Q I rx ry h
  obtain ⟨i, j, rfl, rfl, q⟩ := h
  obtain ⟨t, rfl⟩ := rx
  obtain ⟨t', rfl⟩ := ry
  exact lt_str (fin_bl I q rfl)
/-- the one string within the other -/
theorem op_in_str : OpR X (compareOp .In) (fun x y H Q => ∃ i j, x = .str i ∧ y = .str j ∧ Q (.bl (!(Builtin.Str.occurrences j i 0 j.length 1).isEmpty)) H) := by
  intro pins s σ H x y v u Q I rx ry h
  obtain ⟨i, j, rfl, rfl, q⟩ := h
  obtain ⟨t, rfl⟩ := rx
  obtain ⟨t', rfl⟩ := ry
  exact in_str (fin_bl I q rfl)

/-- is None, is not None: the right side a value none -/
theorem op_isN : OpR X (compareOp .Is) (fun x y H Q => y = .non ∧ Q (.bl (decide (x = .non))) H) := by
  intro pins s σ H x y v u Q I rx ry h
  obtain ⟨rfl, q⟩ := h
  cases ry
  refine is_none_gen (fin_bl I q ?_)
  cases x <;> first
    | (cases rx; rfl)
    | (obtain ⟨t, rfl⟩ := rx; rfl)
theorem op_notN : OpR X (compareOp .IsNot) (fun x y H Q => y = .non ∧ Q (.bl (!decide (x = .non))) H) := by
  intro pins s σ H x y v u Q I rx ry h
  obtain ⟨rfl, q⟩ := h
  cases ry
  refine isnot_none_gen (fin_bl I q ?_)
  cases x <;> first
    | (cases rx; rfl)
    | (obtain ⟨t, rfl⟩ := rx; rfl)

theorem op_notin_str : OpR X (compareOp .NotIn) (fun x y H Q => ∃ i j, x = .str i ∧ y = .str j ∧ Q (.bl (!(!(Builtin.Str.occurrences j i 0 j.length 1).isEmpty))) H) := by
  intro pins s σ H x y v u Q I rx ry h
  obtain ⟨i, j, rfl, rfl, q⟩ := h
  obtain ⟨t, rfl⟩ := rx
  obtain ⟨t', rfl⟩ := ry
  exact notIn_str (fin_bl I q rfl)
/-- is, is not of two objects that are tracked lists or instances -/
def isObj : HO → Bool
  | .lst _ => true
  | .ins _ _ _ => true
  | _ => false
theorem obj_there {pins : List (Addr × Obj)} {s : Shared} {σ : St} {H : Hp} {a : Addr} {o : HO} (I : Inv X pins σ H s) (h : H a = some o) (p : isObj o = true) : ∃ ob, s.heap.get? a = some ob ∧ ob.cls ≠ .type "tuple" := by
  cases o with
  | lst xs =>
    obtain ⟨_, its, n, _, e⟩ : xs.length ≤ sizeLine ∧ ∃ (its : List Value) (n : Nat), Vals xs its ∧ s.heap.get? a = some { cls := .type "list", data := .seq its.toArray n } := I.hok a _ h
    exact ⟨_, e, (by show Value.type "list" ≠ .type "tuple"; decide +kernel)⟩
  | ins C dx fs =>
    have x := I.hok a _ h
    obtain ⟨_, _, _, e, _⟩ := x
    exact ⟨_, e, (by show Value.ref C ≠ .type "tuple"; exact fun z => by cases z)⟩
  | _ => exact absurd (show false = true from p) Bool.false_ne_true
theorem op_is_ref : OpR X (compareOp .Is) (fun x y H Q => ∃ a b oa ob, x = .ref a ∧ y = .ref b ∧ H a = some oa ∧ isObj oa = true ∧ H b = some ob ∧ isObj ob = true ∧ Q (.bl (decide (a = b))) H) := by
  intro pins s σ H x y v u Q I rx ry h
  obtain ⟨a, b, oa, ob, rfl, rfl, ha, pa, hb, pb, q⟩ := h
  cases rx
  cases ry
  obtain ⟨o1, e1, n1⟩ := obj_there I ha pa
  obtain ⟨o2, e2, _⟩ := obj_there I hb pb
  by_cases z : a = b
  · subst z
    exact wpAny_is_ref_self (fin_bl I q (by simp))
  · exact wpAny_is_ref_other z e1 e2 n1 (fin_bl I q (by simp [z]))
theorem op_isnot_ref : OpR X (compareOp .IsNot) (fun x y H Q => ∃ a b oa ob, x = .ref a ∧ y = .ref b ∧ H a = some oa ∧ isObj oa = true ∧ H b = some ob ∧ isObj ob = true ∧ Q (.bl (!decide (a = b))) H) := by
  intro pins s σ H x y v u Q I rx ry h
  obtain ⟨a, b, oa, ob, rfl, rfl, ha, pa, hb, pb, q⟩ := h
  cases rx
  cases ry
  obtain ⟨o1, e1, n1⟩ := obj_there I ha pa
  obtain ⟨o2, e2, _⟩ := obj_there I hb pb
  by_cases z : a = b
  · subst z
    exact wpAny_isNot_ref_self (fin_bl I q (by simp))
  · exact wpAny_isNot_ref_other z e1 e2 n1 (fin_bl I q (by simp [z]))

/-- two rules for one operation: by cases -/
theorem OpR.or {f : Value → Value → Sem Value} {r r' : R2} (h : OpR X f r) (h' : OpR X f r') : OpR X f (fun x y H Q => r x y H Q ∨ r' x y H Q) := by
  intro pins s σ H x y v u Q I rx ry q
  rcases q with q | q
  · exact h pins s σ H x y v u Q I rx ry q
  · exact h' pins s σ H x y v u Q I rx ry q

theorem nomark (b : Expr) {op : CmpOp} (h : op ≠ .In := by decide) (h2 : op ≠ .NotIn := by decide) : behindInMarks op b = false := by
  have e1 : (op == CmpOp.In) = false := by cases op <;> first | rfl | exact absurd rfl h
  have e2 : (op == CmpOp.NotIn) = false := by cases op <;> first | rfl | exact absurd rfl h2
  cases b <;> simp [behindInMarks, e1, e2]
/-- a comparison as a value; hm: nomark b, or (for in, not in) by with_unfolding_all rfl -/
theorem pe_cmpR {op : CmpOp} {r : R2} (ho : OpR X (compareOp op) r) (ha : PE X a ta) (hb : PE X b tb) (hm : behindInMarks op b = false) : PE X (.Compare a [op] [b] pos) (tOp r ta tb) := by
  intro pins s σ H Q I h
  exact wpAny_Compare1 (binT ha hb I h fun v u s2 x y H2 I2 rx ry q => ho pins s2 σ H2 x y v u Q I2 rx ry q) hm
/-- a reading of a value as a test -/
def tTest (t : TE) : TT := fun σ H Q => t σ H fun x H' => ∃ k, x = .bl k ∧ Q k H'
theorem pt_cmpR {op : CmpOp} {r : R2} (ho : OpR X (compareOp op) r) (ha : PE X a ta) (hb : PE X b tb) (hm : behindInMarks op b = false) : PT X (.Compare a [op] [b] pos) (tTest (tOp r ta tb)) := by
  intro pins s σ H Q I h
  refine wpAny_isTrue_Compare1 (thn (ha pins s σ H _ I h) fun v s1 ⟨x, H1, I1, r1, q1⟩ => thn (hb pins s1 σ H1 _ I1 q1) fun u s2 ⟨y, H2, I2, r2, q2⟩ =>
    thn (ho pins s2 σ H2 x y v u _ I2 r1 r2 q2) fun c s3 ⟨z, H3, I3, r3, k, e, q3⟩ => ?_) hm
  subst e
  cases r3
  exact wpAny_truthy_bool ⟨H3, I3, q3⟩
/-- a op1 b op2 c -/
def tChain (r r' : R2) (ta tb tc : TE) : TE := fun σ H Q => ta σ H fun x H1 => tb σ H1 fun y H2 => r x y H2 fun z H3 => ∃ k, z = .bl k ∧
  (if k = true then tc σ H3 fun w' H4 => r' y w' H4 Q else Q (.bl false) H3)
theorem pe_chain {op op' : CmpOp} {r r' : R2} (ho : OpR X (compareOp op) r) (ho' : OpR X (compareOp op') r') (ha : PE X a ta) (hb : PE X b tb) (hc : PE X c tc)
    (hm : lastMarks [op, op'] [b, c] = false := by with_unfolding_all rfl) : PE X (.Compare a [op, op'] [b, c] pos) (tChain r r' ta tb tc) := by
  intro pins s σ H Q I h
  refine Compare_chain (thn (ha pins s σ H _ I h) fun v s1 ⟨x, H1, I1, r1, q1⟩ => chain_link (thn (hb pins s1 σ H1 _ I1 q1) fun u s2 ⟨y, H2, I2, r2, q2⟩ =>
    thn (ho pins s2 σ H2 x y v u _ I2 r1 r2 q2) fun d s3 ⟨z, H3, I3, r3, k, e, q3⟩ => ?_)) hm
  subst e
  cases r3
  refine wpAny_truthy_bool ?_
  cases k with
  | false => exact ite_ff ⟨.bl false, H3, I3, rfl, q3⟩
  | true => exact ite_tt (chain_last (thn (hc pins s3 σ H3 _ I3 q3) fun w' s4 ⟨z', H4, I4, r4, q4⟩ => ho' pins s4 σ H4 y z' u w' Q I4 r2 r4 q4))
theorem pt_chain {op op' : CmpOp} {r r' : R2} (ho : OpR X (compareOp op) r) (ho' : OpR X (compareOp op') r') (ha : PE X a ta) (hb : PE X b tb) (hc : PE X c tc)
    (hm : lastMarks [op, op'] [b, c] = false := by with_unfolding_all rfl) : PT X (.Compare a [op, op'] [b, c] pos) (tTest (tChain r r' ta tb tc)) := by
  intro pins s σ H Q I h
  refine isTrue_chain (thn (ha pins s σ H _ I h) fun v s1 ⟨x, H1, I1, r1, q1⟩ => test_link (thn (hb pins s1 σ H1 _ I1 q1) fun u s2 ⟨y, H2, I2, r2, q2⟩ =>
    thn (ho pins s2 σ H2 x y v u _ I2 r1 r2 q2) fun d s3 ⟨z, H3, I3, r3, k, e, q3⟩ => ?_)) hm
  subst e
  cases r3
  refine wpAny_truthy_bool ?_
  cases k with
  | false =>
    obtain ⟨k', e', q'⟩ := q3
    cases e'
    exact ite_ff ⟨H3, I3, q'⟩
  | true =>
    refine ite_tt (test_last (thn (hc pins s3 σ H3 _ I3 q3) fun w' s4 ⟨z', H4, I4, r4, q4⟩ => thn (ho' pins s4 σ H4 y z' u w' _ I4 r2 r4 q4) fun d' s5 ⟨z2, H5, I5, r5, k2, e2, q5⟩ => ?_))
    subst e2
    cases r5
    exact wpAny_truthy_bool ⟨H5, I5, q5⟩

/-! ### truth -/
/-- a value's truth by the abstract heap -/
def TruV (K : PySem.W.Frag) (x : V) (H : Hp) (k : Bool) : Prop :=
  match x with
  | .non => k = false
  | .bl b => k = b
  | .int i => k = (i != 0)
  | .str y => y.length ≤ sizeLine ∧ k = ((y.length : Int) != 0)
  | .byt y => y.size ≤ sizeLine ∧ k = ((y.size : Int) != 0)
  | .ref p => (∃ xs, SqL K H p xs ∧ k = !xs.isEmpty) ∨ (∃ xs, SqT K H p xs ∧ k = !xs.isEmpty) ∨ ∃ kvs, H p = some (.dK kvs) ∧ k = !kvs.isEmpty
  | _ => False
theorem isEmpty_kv {κ : Type} {kvs : List (κ × V)} {vs : List (κ × Value)} (r : KV kvs vs) : (!vs.isEmpty) = !kvs.isEmpty := by
  cases r <;> rfl
theorem isEmpty_of {xs : List V} {its : List Value} (r : Vals xs its) : (!its.toArray.isEmpty) = !xs.isEmpty := by
  cases r <;> simp
theorem line63 : (sizeLine : Nat) < 2 ^ 63 := by rw [sizeLine_eq]; decide
theorem tru_ok : TruR X (fun x H Q => ∃ k, TruV X.K x H k ∧ Q k H) := by
  intro pins s σ H x v Q I rx h
  obtain ⟨k, e, q⟩ := h
  have hl := line63
  have hs : sizeLine = 16777216 := sizeLine_eq
  cases x with
  | non =>
    cases rx
    have e' : k = false := e
    subst e'
    exact truthy_none ⟨H, I, q⟩
  | bl b =>
    cases rx
    have e' : k = b := e
    subst e'
    exact wpAny_truthy_bool ⟨H, I, q⟩
  | int i =>
    obtain ⟨t, rfl⟩ := rx
    have e' : k = (i != 0) := e
    subst e'
    exact PySem.P.truthy_int ⟨H, I, q⟩
  | str y =>
    obtain ⟨t, rfl⟩ := rx
    obtain ⟨hy, e'⟩ : y.length ≤ sizeLine ∧ k = ((y.length : Int) != 0) := e
    subst e'
    exact PySem.P.truthy_str (by omega) ⟨H, I.tok _, q⟩
  | byt y =>
    obtain ⟨t, rfl⟩ := rx
    obtain ⟨hy, e'⟩ : y.size ≤ sizeLine ∧ k = ((y.size : Int) != 0) := e
    subst e'
    exact PySem.W.truthy_bytes (by omega) ⟨H, I.tok _, q⟩
  | ref p =>
    cases rx
    have e' : (∃ xs, SqL X.K H p xs ∧ k = !xs.isEmpty) ∨ (∃ xs, SqT X.K H p xs ∧ k = !xs.isEmpty) ∨ ∃ kvs, H p = some (.dK kvs) ∧ k = !kvs.isEmpty := e
    rcases e' with ⟨xs, hx, e'⟩ | ⟨xs, hx, e'⟩ | ⟨kvs, hx, e'⟩
    · subst e'
      obtain ⟨its, r, pl, hz⟩ := I.list hx
      have hlen := r.length
      exact wpAny_truthy_list pl.isList (by simp only [List.size_toArray]; omega) ⟨H, I.tok _, by rw [isEmpty_of r]; exact q⟩
    · subst e'
      obtain ⟨its, r, pl, hz⟩ := I.tuple hx
      have hlen := r.length
      exact truthy_tuple pl (by simp only [List.size_toArray]; omega) ⟨H, I.tok _, by rw [isEmpty_of r]; exact q⟩
    · subst e'
      obtain ⟨hz, hS, vs, r, m⟩ : kvs.length ≤ sizeLine ∧ (p == sysModules) = false ∧ ∃ vs, KV kvs vs ∧ s.heap.DictOf (mixKind X.prog X.w) p vs := I.hok p _ hx
      have hlen : kvs.length = vs.length := Paired.length r
      exact wpAny_truthy_dict hS m (by omega) ⟨H, I.tok _, by rw [isEmpty_kv r]; exact q⟩
  | _ => exact (show False from e).elim
/-- any expression whose test is its value's truth (a name, a call, a subscript, a field ..: he by fun _ => rfl) -/
theorem pt_truth (ha : PE X a ta) (he : ∀ whole, isTrue a X.env whole = (do let v ← whole; standAt a.pos; holding [v] (truthy v))) :
    PT X a (fun σ H Q => ta σ H fun x H' => ∃ k, TruV X.K x H' k ∧ Q k H') := by
  intro pins s σ H Q I h
  exact isTrue_plain (thn (ha pins s σ H _ I h) fun v s1 ⟨x, H1, I1, r1, q1⟩ => tru_ok pins s1 σ H1 x v Q I1 r1 q1) (he _)

/-! ### strs and bytes -/
theorem pe_byt {x : List UInt8} {k : Nat} : PE X (.Constant (.bytes x) k pos) (fun _ H Q => Q (.byt x.toArray) H) := fun _ _ _ H _ I h => PySem.W.Constant_bytes ⟨.byt x.toArray, H, I.tok _, ⟨_, rfl⟩, h⟩
theorem op_add_str : OpR X (binaryOp .Add) (fun x y H Q => ∃ i j, x = .str i ∧ y = .str j ∧ i.length + j.length ≤ sizeLine ∧ Q (.str (i ++ j)) H) := by
  intro pins s σ H x y v u Q I rx ry h
  obtain ⟨i, j, rfl, rfl, hz, q⟩ := h
  obtain ⟨t, rfl⟩ := rx
  obtain ⟨t', rfl⟩ := ry
  exact add_str (fun t' tk => ⟨.str (i ++ j), H, I.tok _, ⟨_, rfl⟩, q⟩) hz
theorem iop_add_str : OpR X (inplaceOp .Add) (fun x y H Q => ∃ i j, x = .str i ∧ y = .str j ∧ i.length + j.length ≤ sizeLine ∧ Q (.str (i ++ j)) H) := by
  intro pins s σ H x y v u Q I rx ry h
  obtain ⟨i, j, rfl, rfl, hz, q⟩ := h
  obtain ⟨t, rfl⟩ := rx
  obtain ⟨t', rfl⟩ := ry
  exact iadd_str (fun t' tk => ⟨.str (i ++ j), H, I.tok _, ⟨_, rfl⟩, q⟩) hz
theorem op_add_byt : OpR X (binaryOp .Add) (fun x y H Q => ∃ i j, x = .byt i ∧ y = .byt j ∧ i.size + j.size ≤ 16777216 ∧ Q (.byt (i ++ j)) H) := by
  intro pins s σ H x y v u Q I rx ry h
  obtain ⟨i, j, rfl, rfl, hz, q⟩ := h
  obtain ⟨t, rfl⟩ := rx
  obtain ⟨t', rfl⟩ := ry
  exact PySem.W.KBy.add_bytes hz (fun t' tk => ⟨.byt (i ++ j), H, I.tok _, ⟨_, rfl⟩, q⟩)

def PlainIxT (b : Expr) : Prop := ∀ o i, subscripted b false o i = operate [o, i] (getItem o i)
/-- s[i], 0 ≤ i < len -/
theorem pe_item_str (ha : PE X a ta) (hb : PE X b tb) (hs : PlainIxT b) :
    PE X (.Subscript a b pos) (tOp (fun x y H Q => ∃ z i c, x = .str z ∧ y = .int i ∧ 0 ≤ i ∧ i < 2 ^ 63 ∧ i < z.length ∧ z.cps[i.toNat]? = some c ∧ Q (.str ⟨#[c]⟩) H) ta tb) := by
  intro pins s σ H Q I h
  refine Subscript_ (binT ha hb I h fun v u s2 x y H2 I2 rx ry q => ?_)
  obtain ⟨z, i, c, rfl, rfl, h0, h63, h1, hc, q⟩ := q
  obtain ⟨t, rfl⟩ := rx
  obtain ⟨t', rfl⟩ := ry
  have e : seqIndex? i z.length = some i.toNat := PySem.StrLaws.seqIndex_nonneg h0 h1
  exact tail_any (typeIs_str s2 z t) slot_str_getitem.lookup (getItem_str (c := c) (by
    have e1 : decide (i < -(2 ^ 63 : Int)) = false := decide_eq_false (by omega)
    have e2 : decide (i ≥ 2 ^ 63) = false := decide_eq_false (by omega)
    rw [e1, e2] <;> rfl) (by rw [e]; exact hc) ⟨.str ⟨#[c]⟩, H2, I2.tok _, ⟨_, rfl⟩, q⟩) (hs _ _)
/-- b[i], 0 ≤ i < len -/
theorem pe_item_byt (ha : PE X a ta) (hb : PE X b tb) (hs : PlainIxT b) :
    PE X (.Subscript a b pos) (tOp (fun x y H Q => ∃ (z : List UInt8) (i : Int), x = .byt z.toArray ∧ y = .int i ∧ z.length ≤ sizeLine ∧ 0 ≤ i ∧ i < z.length ∧ Q (.int ((z.getD i.toNat 0).toNat : Nat)) H) ta tb) := by
  intro pins s σ H Q I h
  refine Subscript_ (binT ha hb I h fun v u s2 x y H2 I2 rx ry q => ?_)
  obtain ⟨z, i, rfl, rfl, hz, h0, h1, q⟩ := q
  obtain ⟨t, rfl⟩ := rx
  obtain ⟨t', rfl⟩ := ry
  have hl : sizeLine = 16777216 := sizeLine_eq
  exact tail_any (PySem.W.typeIs_bytes s2 z.toArray t) PySem.W.FB.slot_bytes_getitem.lookup (PySem.W.getItem_bytes (by omega) h0 h1 ⟨.int ((z.getD i.toNat 0).toNat : Nat), H2, I2.tok _, ⟨_, rfl⟩, q⟩) (hs _ _)

/-! ### scalar builtins, by CallR -/
theorem vals1 {x : V} {us : List Value} (r : Vals [x] us) : ∃ u, us = [u] ∧ RelV x u := by
  cases r with
  | cons r1 r2 => cases r2; exact ⟨_, rfl, r1⟩
theorem vals2 {x y : V} {us : List Value} (r : Vals [x, y] us) : ∃ u w', us = [u, w'] ∧ RelV x u ∧ RelV y w' := by
  cases r with
  | cons r1 r2 =>
    cases r2 with
    | cons r3 r4 => cases r4; exact ⟨_, _, rfl, r1, r3⟩
theorem call_abs : CallR X (.builtin "abs") (fun xs H Q => ∃ i, xs = [.int i] ∧ Q (.int (if i < 0 then -i else i)) H) := by
  intro pins s σ H xs us Q I r h
  obtain ⟨i, rfl, q⟩ := h
  obtain ⟨u, rfl, t, rfl⟩ := vals1 r
  exact call_abs_int fun u tk => ⟨.int (if i < 0 then -i else i), H, I.tok _, ⟨_, rfl⟩, q⟩
theorem call_max2 (hc : X.calm = true) : CallR X (.builtin "max") (fun xs H Q => ∃ i j, xs = [.int i, .int j] ∧ Q (.int (if j > i then j else i)) H) := by
  intro pins s σ H xs us Q I r h
  obtain ⟨i, j, rfl, q⟩ := h
  obtain ⟨u, w', rfl, ⟨t, rfl⟩, ⟨t', rfl⟩⟩ := vals2 r
  refine max_two_ints (I.ok.hd hc) fun h' tk k => ⟨_, H, I.kept k, ?_, q⟩
  by_cases hj : j > i
  · rw [if_pos hj, if_pos hj]; exact ⟨_, rfl⟩
  · rw [if_neg hj, if_neg hj]; exact ⟨_, rfl⟩
theorem call_min2 (hc : X.calm = true) : CallR X (.builtin "min") (fun xs H Q => ∃ i j, xs = [.int i, .int j] ∧ Q (.int (if j < i then j else i)) H) := by
  intro pins s σ H xs us Q I r h
  obtain ⟨i, j, rfl, q⟩ := h
  obtain ⟨u, w', rfl, ⟨t, rfl⟩, ⟨t', rfl⟩⟩ := vals2 r
  refine min_two_ints (I.ok.hd hc) fun h' tk k => ⟨_, H, I.kept k, ?_, q⟩
  by_cases hj : j < i
  · rw [if_pos hj, if_pos hj]; exact ⟨_, rfl⟩
  · rw [if_neg hj, if_neg hj]; exact ⟨_, rfl⟩
theorem call_int1 : CallR X (.type "int") (fun xs H Q => (∃ i, xs = [.int i] ∧ Q (.int i) H) ∨ ∃ k, xs = [.bl k] ∧ Q (.int (if k then 1 else 0)) H) := by
  intro pins s σ H xs us Q I r h
  rcases h with ⟨i, rfl, q⟩ | ⟨k, rfl, q⟩
  · obtain ⟨u, rfl, t, rfl⟩ := vals1 r
    exact call_int_int ⟨.int i, H, I, ⟨_, rfl⟩, q⟩
  · obtain ⟨u, rfl, r1⟩ := vals1 r
    cases r1
    exact call_int_bool ⟨.int (if k then 1 else 0), H, I.tok _, ⟨_, rfl⟩, q⟩
theorem call_bool1 : CallR X (.type "bool") (fun xs H Q => (∃ i, xs = [.int i] ∧ Q (.bl (i != 0)) H) ∨ ∃ k, xs = [.bl k] ∧ Q (.bl k) H) := by
  intro pins s σ H xs us Q I r h
  rcases h with ⟨i, rfl, q⟩ | ⟨k, rfl, q⟩
  · obtain ⟨u, rfl, t, rfl⟩ := vals1 r
    exact call_bool_int ⟨.bl (i != 0), H, I, rfl, q⟩
  · obtain ⟨u, rfl, r1⟩ := vals1 r
    cases r1
    exact call_bool_bool ⟨.bl k, H, I, rfl, q⟩
theorem call_str_int : CallR X (.type "str") (fun xs H Q => ∃ i, xs = [.int i] ∧ i.natAbs.log2 < 1920 ∧ Q (.str (toString i)) H) := by
  intro pins s σ H xs us Q I r h
  obtain ⟨i, rfl, hz, q⟩ := h
  obtain ⟨u, rfl, t, rfl⟩ := vals1 r
  exact PySem.P.str_of_int hz ⟨.str _, H, I.tok _, ⟨_, rfl⟩, q⟩
theorem call_ord : CallR X (.builtin "ord") (fun xs H Q => ∃ x, xs = [.str x] ∧ x.length = 1 ∧ Q (.int (x.cps.getD 0 0 : Nat)) H) := by
  intro pins s σ H xs us Q I r h
  obtain ⟨x, rfl, hz, q⟩ := h
  obtain ⟨u, rfl, t, rfl⟩ := vals1 r
  exact ord_of_one hz ⟨.int _, H, I.tok _, ⟨_, rfl⟩, q⟩
theorem call_chr : CallR X (.builtin "chr") (fun xs H Q => ∃ i, xs = [.int i] ∧ 0 ≤ i ∧ i ≤ 1114111 ∧ Q (.str ⟨#[i.toNat]⟩) H) := by
  intro pins s σ H xs us Q I r h
  obtain ⟨i, rfl, h0, h1, q⟩ := h
  obtain ⟨u, rfl, t, rfl⟩ := vals1 r
  exact chr_of_range h0 h1 ⟨.str _, H, I.tok _, ⟨_, rfl⟩, q⟩
/-- len of a str, a bytes, a list, a tuple -/
def LenV (K : PySem.W.Frag) (x : V) (H : Hp) (n : Nat) : Prop :=
  match x with
  | .str y => y.length ≤ sizeLine ∧ n = y.length
  | .byt y => y.size ≤ sizeLine ∧ n = y.size
  | .ref p => (∃ xs, SqL K H p xs ∧ n = xs.length) ∨ ∃ xs, SqT K H p xs ∧ n = xs.length
  | _ => False
theorem call_len : CallR X (.builtin "len") (fun xs H Q => ∃ x n, xs = [x] ∧ LenV X.K x H n ∧ Q (.int n) H) := by
  intro pins s σ H xs us Q I r h
  obtain ⟨x, n, rfl, e, q⟩ := h
  obtain ⟨u, rfl, rx⟩ := vals1 r
  have hl := line63
  have hs : sizeLine = 16777216 := sizeLine_eq
  cases x with
  | str y =>
    obtain ⟨t, rfl⟩ := rx
    obtain ⟨hy, e'⟩ : y.length ≤ sizeLine ∧ n = y.length := e
    subst e'
    exact len_str (by omega) ⟨.int _, H, I.tok _, ⟨_, rfl⟩, q⟩
  | byt y =>
    obtain ⟨t, rfl⟩ := rx
    obtain ⟨hy, e'⟩ : y.size ≤ sizeLine ∧ n = y.size := e
    subst e'
    exact PySem.W.len_bytes (by omega) ⟨.int _, H, I.tok _, ⟨_, rfl⟩, q⟩
  | ref p =>
    cases rx
    have e' : (∃ xs, SqL X.K H p xs ∧ n = xs.length) ∨ ∃ xs, SqT X.K H p xs ∧ n = xs.length := e
    rcases e' with ⟨xs, hx, e'⟩ | ⟨xs, hx, e'⟩
    · subst e'
      obtain ⟨its, r', pl, hz⟩ := I.list hx
      have hlen := r'.length
      exact Calls.call_len_list pl.isList (by simp only [List.size_toArray]; omega) ⟨.int xs.length, H, I.tok _, ⟨_, by simp only [List.size_toArray]; rw [hlen]⟩, q⟩
    · subst e'
      obtain ⟨its, r', pl, hz⟩ := I.tuple hx
      have hlen := r'.length
      exact len_tuple pl (by simp only [List.size_toArray]; omega) ⟨.int xs.length, H, I.tok _, ⟨_, by simp only [List.size_toArray]; rw [hlen]⟩, q⟩
  | _ => exact (show False from e).elim
/-- divmod: a new tuple -/
theorem call_divmod : CallR X (.builtin "divmod") (fun xs H Q => ∃ i j, xs = [.int i, .int j] ∧ CDiv i j ∧ ∀ p, H p = none → Q (.ref p) (upd H p (.tup [.int (i / j), .int (i % j)]))) := by
  intro pins s σ H xs us Q I r h
  obtain ⟨i, j, rfl, ⟨h1, h2⟩, q⟩ := h
  obtain ⟨u, w', rfl, ⟨t, rfl⟩, ⟨t', rfl⟩⟩ := vals2 r
  refine divmod_int (by omega) ?_ (.inl (PyProof.noPylong_small (by omega)))
  rw [Int.fdiv_eq_ediv_of_nonneg i (by omega), Int.fmod_eq_emod_of_nonneg i (by omega)]
  have hn : H s.heap.objs.size = none := I.hok.fresh (Nat.le_refl _)
  refine ⟨.ref s.heap.objs.size, _, ?_, rfl, q _ hn⟩
  refine I.laid (fun b o e => Heap.get?_push_of_some _ e) (Nat.le_refl _) ⟨by simp only [List.length_cons, List.length_nil]; rw [sizeLine_eq]; decide, [.int (i / j) s.toks, .int (i % j) (s.toks + 1)], .cons ⟨_, rfl⟩ (.cons ⟨_, rfl⟩ .nil), ?_⟩
  exact ⟨_, Heap.get?_push_size s.heap rfl, rfl, 0, rfl⟩
end
end L2

namespace L2
open PySem PySem.Spec PyProof.Rows

/-! ### an instance, its attributes a map -/
structure ObjM (h : Heap) (x dx C : Addr) (mA : Str → Option Value) : Prop where
  obj : h.get? x = some (PySem.W.instObj C dx)
  ns : h.Ns1 dx mA
  ne : dx ≠ x

theorem lookIn_ns {h : Heap} {dx : Addr} {mA : Str → Option Value} (n : h.Ns1 dx mA) : ∃ od, h.get? dx = some od ∧ ∀ name, PySem.W.lookIn name od = some (mA name) := by
  obtain ⟨o, es, ep, ho, hd, hk, _, hm⟩ := n
  refine ⟨o, ho, fun name => ?_⟩
  have e := hm name
  unfold nsFind findBy at e
  rw [← Array.find?_toList] at e
  unfold PySem.W.lookIn
  rw [hd]
  dsimp only
  split
  · rename_i y q
    rw [q] at e
    exact congrArg some e
  · rename_i q
    rw [q] at e
    have a : es.toList.any (·.refKey) = false := by
      rw [List.any_eq_false]
      intro y hy
      obtain ⟨z, t, hkey⟩ := hk y (Array.mem_toList_iff.mp hy)
      simp [DictEntry.refKey, hkey]
    have a' : ¬ es.toList.any (·.refKey) = true := by rw [a]; exact Bool.false_ne_true
    rw [if_neg a']
    exact congrArg some e

theorem ObjM.look {h : Heap} {x dx C : Addr} {mA : Str → Option Value} (I : ObjM h x dx C mA) : ∃ od, PySem.W.InstAt h x (PySem.W.instObj C dx) C (some od) ∧ ∀ name, PySem.W.lookIn name od = some (mA name) :=
  let ⟨od, ho, hl⟩ := lookIn_ns I.ns
  ⟨od, ⟨I.obj, rfl, rfl, ho⟩, hl⟩

section
variable {prog : Program} {w : World} {A : Around} {E : Value → Shared → Prop} {s : Shared} {K : PySem.W.Frag} {x dx C f : Addr} {mA : Str → Option Value} {name : Str} {v : Value}

theorem get_map {expr : Bool} {Q : Value → Shared → Prop} (X : K.In s.heap) (I : ObjM s.heap x dx C mA) (hg : PySem.W.plainGet K C name = true) (hh : PySem.W.hasDictIn K C = true)
    (ha : PySem.W.findIn K (.ref C) name = some none) (hv : mA name = some v) (hv' : PySem.W.handedIn v = true) (h : Q v { s with toks := s.toks + 1 }) :
    wpAny (model prog w) A (getAttr (.ref x) name expr) Q E s := by
  obtain ⟨od, J, hl⟩ := I.look
  exact PySem.W.get_value X J (PySem.W.plainGet_of hg).1 (PySem.W.findObj_own hh ha rfl (by rw [hl, hv])) hv' h

theorem get_const {expr : Bool} {a : Value} {Q : Value → Shared → Prop} (X : K.In s.heap) (I : ObjM s.heap x dx C mA) (hg : PySem.W.plainGet K C name = true) (hh : PySem.W.hasDictIn K C = true)
    (ha : PySem.W.findIn K (.ref C) name = some (some a)) (hn : PySem.W.specialIn K a "__get__" = some none) (hc : PySem.W.copiedNames.contains name = false) (hv : mA name = none) (hv' : PySem.W.handedIn a = true)
    (h : Q a { s with toks := s.toks + 1 }) : wpAny (model prog w) A (getAttr (.ref x) name expr) Q E s := by
  obtain ⟨od, J, hl⟩ := I.look
  exact PySem.W.get_value X J (PySem.W.plainGet_of hg).1 (PySem.W.findObj_cls hh ha hn hv' hc (by rw [hl, hv])) hv' h

theorem get_meth {pl : Sem Bool} {Q : Value × List Value → Shared → Prop} (X : K.In s.heap) (I : ObjM s.heap x dx C mA) (hg : PySem.W.plainGet K C name = true)
    (hf : PySem.W.findIn K (.ref C) name = some (some (.ref f))) (ht : PySem.W.isFn K (.ref f) = true) (hv : mA name = none) (h : Q (.ref f, [.ref x]) s) :
    wpAny (model prog w) A (getMethod (.ref x) name pl) Q E s := by
  obtain ⟨od, J, hl⟩ := I.look
  exact PySem.W.method_fn X J (PySem.W.plainGet_of hg).1 (PySem.W.plainGet_of hg).2 hf (beq_iff_eq.mp ht) (by show (PySem.W.lookIn name od).map (·.isSome) = some false; rw [hl, hv]; rfl) h

theorem set_map {ns : List Str} {Q : Unit → Shared → Prop} (X : K.In s.heap) (I : ObjM s.heap x dx C mA)
    (hs : PySem.W.findIn K (.ref C) "__setattr__" = some (some (.builtin "object.__setattr__"))) (hp : PySem.W.plainOver K C = true) (ht : PySem.W.takerIn K C name = some none) (hh : PySem.W.hasDictIn K C = true)
    (hw : PySem.Within mA ns) (hsz : ns.length ≤ sizeLine)
    (h : ∀ h', ObjM h' x dx C (fun y => if y = name then some v else mA y) → Heap.SameBut dx s.heap h' → Q () { s with heap := h', toks := s.toks + 2 }) :
    wpAny (model prog w) A (setAttr (.ref x) name v) Q E s := by
  obtain ⟨od, J, hl⟩ := I.look
  refine PySem.W.set_plain X J hs (PySem.W.osa_open (s := { s with toks := s.toks + 1 }) (r := none) X J hp ht fun b => ?_)
  obtain ⟨cd, hc, hd'⟩ := PySem.W.any_some hh
  have hx : s.heap.get? x = some ⟨.ref C, some dx, .plain, #[]⟩ := I.obj
  refine wpAny_bind (wpAny_pure (wpAny_bind (wpAny_bind (wpAny_loadPart hx (wpAny_bind (PySem.W.Looks.here (s := { s with toks := s.toks + 1 }) (PySem.W.looks_clsIn X hc) ?_))))))
  rw [hd']
  refine wpAny_pure (a := some dx) (wpAny_bind (wpAny_pure (wpAny_bind ?_)))
  refine wpAny_nsSet1 (s := { s with toks := s.toks + 1 }) I.ns fun h' hn2 hs2 => ?_
  obtain ⟨oD, esD, epD, hoD, hdD, hcD⟩ := hn2.count (PySem.Within.cons name v hw)
  refine wpAny_bind (wpAny_lookBehind hoD (by rw [hdD]; exact pastItsLine_dict (Nat.le_trans hcD (by rw [List.length_cons]; omega))) ?_)
  exact wpAny_pure (h _ ⟨(hs2.2 _ (Ne.symm I.ne)).trans I.obj, hn2, I.ne⟩ hs2)

/-- C(..): the dict at the heap's end, the instance behind it; then its __init__ -/
theorem make_map {R : Result → Shared → Prop} {vs : List Value} {kw : List (Str × Value)} (X : K.In s.heap) (hm : PySem.W.makesIn K C = true)
    (hi : PySem.W.findIn K (.ref C) "__init__" = some (some (.ref f))) (hf : PySem.W.typeIn K (.ref f) = some (.type "function"))
    (h : codeAny (model prog w) (A.under (.builtin "type.__call__" ⟨.ref C :: vs, kw⟩)) (.call (.ref f) ⟨.ref (s.heap.objs.size + 1) :: vs, kw⟩) (PySem.W.InitBack (s.heap.objs.size + 1) R)
      { s with heap := (s.heap.push PySem.W.emptyDict).push (PySem.W.instObj C s.heap.objs.size) }) :
    codeAny (model prog w) A (.call (.ref C) ⟨vs, kw⟩) R s := by
  obtain ⟨hh, g, d, t, os⟩ := s
  exact PySem.W.make_core (PySem.W.makes_of X hm) (PySem.W.looks_findIn X hi) (fun self => PySem.W.bind_fn X self hf) (.inl rfl) h
/-- C() where there is no __init__ but object's -/
theorem make_map0 {R : Result → Shared → Prop} (X : K.In s.heap) (hm : PySem.W.makesIn K C = true)
    (hi : PySem.W.findIn K (.ref C) "__init__" = some (some (.builtin "object.__init__")))
    (hb : ∀ self, PySem.W.Looks (model prog w) s.heap (bindSpecial (.builtin "object.__init__") self) (.builtin "object.__init__", [self]))
    (h : codeAny (model prog w) (A.under (.builtin "type.__call__" ⟨[.ref C], []⟩)) (.call (.builtin "object.__init__") ⟨[.ref (s.heap.objs.size + 1)], []⟩) (PySem.W.InitBack (s.heap.objs.size + 1) R)
      { s with heap := (s.heap.push PySem.W.emptyDict).push (PySem.W.instObj C s.heap.objs.size) }) :
    codeAny (model prog w) A (.call (.ref C) ⟨[], []⟩) R s := by
  obtain ⟨hh, g, d, t, os⟩ := s
  exact PySem.W.make_core (PySem.W.makes_of X hm) (PySem.W.looks_findIn X hi) hb (.inr ⟨rfl, rfl⟩) h
end

/-! ### the attributes as a list of pairs -/
def putF (f : Str) (v : V) : List (Str × V) → List (Str × V)
  | [] => [(f, v)]
  | (g, x) :: r => if g = f then (g, v) :: r else (g, x) :: putF f v r
theorem lookup_putF (f g : Str) (v : V) : ∀ fs : List (Str × V), (putF f v fs).lookup g = if g = f then some v else fs.lookup g
  | [] => by
    show List.lookup g [(f, v)] = _
    by_cases h : g = f
    · have hb : (g == f) = true := beq_iff_eq.mpr h
      simp only [List.lookup, hb, if_pos h]
    · have hb : (g == f) = false := beq_eq_false_iff_ne.mpr h
      simp only [List.lookup, hb, if_neg h]
  | (k, x) :: r => by
    have ih := lookup_putF f g v r
    rw [show putF f v ((k, x) :: r) = (if k = f then (k, v) :: r else (k, x) :: putF f v r) from rfl]
    by_cases hk : k = f
    · rw [if_pos hk]
      by_cases h : g = k
      · have hb : (g == k) = true := beq_iff_eq.mpr h
        simp only [List.lookup, hb, if_pos (h.trans hk)]
      · have hb : (g == k) = false := beq_eq_false_iff_ne.mpr h
        simp only [List.lookup, hb, if_neg (fun e : g = f => h (e.trans hk.symm))]
    · rw [if_neg hk]
      by_cases h : g = k
      · have hb : (g == k) = true := beq_iff_eq.mpr h
        simp only [List.lookup, hb, if_neg (fun e : g = f => hk (h.symm.trans e))]
      · have hb : (g == k) = false := beq_eq_false_iff_ne.mpr h
        simp only [List.lookup, hb]
        exact ih
theorem keys_putF (f : Str) (v : V) : ∀ fs : List (Str × V), f ∈ (putF f v fs).map (·.1) ∧ ∀ g, g ∈ fs.map (·.1) → g ∈ (putF f v fs).map (·.1)
  | [] => ⟨by simp [putF], fun g h => by simp at h⟩
  | (k, x) :: r => by
    obtain ⟨i1, i2⟩ := keys_putF f v r
    rw [show putF f v ((k, x) :: r) = (if k = f then (k, v) :: r else (k, x) :: putF f v r) from rfl]
    by_cases hk : k = f
    · rw [if_pos hk]
      subst hk
      exact ⟨by simp, fun g h => by simpa using h⟩
    · rw [if_neg hk]
      refine ⟨?_, fun g h => ?_⟩
      · rw [List.map_cons]
        exact List.mem_cons_of_mem _ i1
      · rw [List.map_cons] at h ⊢
        rcases List.mem_cons.mp h with e | e
        · exact List.mem_cons.mpr (.inl e)
        · exact List.mem_cons_of_mem _ (i2 g e)
theorem length_putF (f : Str) (v : V) : ∀ fs : List (Str × V), (putF f v fs).length ≤ fs.length + 1
  | [] => by simp [putF]
  | (k, x) :: r => by
    have ih := length_putF f v r
    rw [show putF f v ((k, x) :: r) = (if k = f then (k, v) :: r else (k, x) :: putF f v r) from rfl]
    by_cases hk : k = f
    · rw [if_pos hk, List.length_cons, List.length_cons]; omega
    · rw [if_neg hk, List.length_cons, List.length_cons]; omega

theorem RelO.some_of {v : V} {o : Option Value} (r : RelO (some v) o) : ∃ u, o = some u ∧ RelV v u := by
  cases o with
  | none => exact (show False from r).elim
  | some u => exact ⟨u, rfl, r⟩
theorem RelO.none_of {o : Option Value} (r : RelO none o) : o = none := by
  cases o with
  | none => rfl
  | some u => exact (show False from r).elim
theorem handed_of {v : V} {u : Value} (r : RelV v u) : PySem.W.handedIn u = true := by
  cases v with
  | non => cases (show u = Value.none from r); rfl
  | bl b => cases (show u = Value.bool b from r); rfl
  | int i => obtain ⟨t, e⟩ := (show ∃ t, u = Value.int i t from r); cases e; rfl
  | str x => obtain ⟨t, e⟩ := (show ∃ t, u = Value.str x t from r); cases e; rfl
  | byt b => obtain ⟨t, e⟩ := (show ∃ t, u = Value.bytes b t from r); cases e; rfl
  | flt b => obtain ⟨t, e⟩ := (show ∃ t, u = Value.float b t from r); cases e; rfl
  | ref a => cases (show u = Value.ref a from r); rfl
  | ty n => cases (show u = Value.type n from r); rfl

section
variable {P : Program} {w : World} {H H' : Hp} {h h' : Heap} {a C dx : Addr} {fs fs' : List (Str × V)}
theorem ins_get (hok : HOk P w H h) (e : H a = some (.ins C dx fs)) : ∃ mA, ObjM h a dx C mA ∧ (∀ f, RelO (fs.lookup f) (mA f)) ∧ PySem.Within mA (fs.map (·.1)) ∧ fs.length ≤ 1000 ∧ H dx = some (.own a) := by
  obtain ⟨d, z, ne, ob, mA, n, r, q⟩ := (show ObjOk P w H h a (.ins C dx fs) from hok a _ e)
  exact ⟨mA, ⟨ob, n, ne⟩, r, q, z, d⟩
end

/-! ### what of the text a class must have -/
structure Cls (K : PySem.W.Frag) (C : Addr) : Prop where
  pg : PySem.W.plainGet K C Str.empty = true
  hd : PySem.W.hasDictIn K C = true
  po : PySem.W.plainOver K C = true
  sa : PySem.W.findIn K (.ref C) "__setattr__" = some (some (.builtin "object.__setattr__"))
theorem Cls.get {K : PySem.W.Frag} {C : Addr} (c : Cls K C) (f : Str) : PySem.W.plainGet K C f = true := c.pg
/-- no class of it has the name -/
def NoAttr (K : PySem.W.Frag) (C : Addr) (f : Str) : Prop := PySem.W.findIn K (.ref C) f = some none
theorem NoAttr.taker {K : PySem.W.Frag} {C : Addr} {f : Str} (n : NoAttr K C f) : PySem.W.takerIn K C f = some none := by
  unfold PySem.W.takerIn
  rw [show PySem.W.findIn K (.ref C) f = some none from n]
  rfl
/-- a constant of the class -/
structure Con (K : PySem.W.Frag) (C : Addr) (f : Str) (v : V) (u : Value) : Prop where
  at_ : PySem.W.findIn K (.ref C) f = some (some u)
  rel : RelV v u
  get : PySem.W.specialIn K u "__get__" = some none
  cp : PySem.W.copiedNames.contains f = false
/-- a method: a plain def of the class or of one above it -/
structure Meth (K : PySem.W.Frag) (C : Addr) (m : Str) (f : Addr) : Prop where
  at_ : PySem.W.findIn K (.ref C) m = some (some (.ref f))
  fn : PySem.W.isFn K (.ref f) = true
  kp : PySem.W.keepIn K (.ref f) = true

section
variable {X : Cx} {pins : List (Addr × Obj)} {σ : St} {H : Hp} {s : Shared} {a C dx : Addr} {fs : List (Str × V)} {f : Str} {v : V} {A : Around} {E : Value → Shared → Prop}

theorem getattr_ok {b : Bool} {Q : Value → Shared → Prop} (I : Inv X pins σ H s) (e : H a = some (.ins C dx fs)) (c : Cls X.K C) (n : NoAttr X.K C f) (l : fs.lookup f = some v)
    (h : ∀ u s', Inv X pins σ H s' → RelV v u → Q u s') : wpAny (model X.prog X.w) A (getAttr (.ref a) f b) Q E s := by
  obtain ⟨mA, O, r, _, _, _⟩ := ins_get I.hok e
  obtain ⟨u, hu, ru⟩ := RelO.some_of (v := v) (o := mA f) (by rw [← l]; exact r f)
  exact get_map I.kIn O (c.get f) c.hd n hu (handed_of ru) (h u _ (I.tok _) ru)

theorem getcon_ok {b : Bool} {u : Value} {Q : Value → Shared → Prop} (I : Inv X pins σ H s) (e : H a = some (.ins C dx fs)) (c : Cls X.K C) (k : Con X.K C f v u) (l : fs.lookup f = none)
    (h : ∀ s', Inv X pins σ H s' → Q u s') : wpAny (model X.prog X.w) A (getAttr (.ref a) f b) Q E s := by
  obtain ⟨mA, O, r, _, _, _⟩ := ins_get I.hok e
  have hn : mA f = none := RelO.none_of (by rw [← l]; exact r f)
  exact get_const I.kIn O (c.get f) c.hd k.at_ k.get k.cp hn (handed_of k.rel) (h _ (I.tok _))

theorem getmeth_ok {m : Str} {g : Addr} {pl : Sem Bool} {Q : Value × List Value → Shared → Prop} (I : Inv X pins σ H s) (e : H a = some (.ins C dx fs)) (c : Cls X.K C) (k : Meth X.K C m g) (l : fs.lookup m = none)
    (h : Q (.ref g, [.ref a]) s) : wpAny (model X.prog X.w) A (getMethod (.ref a) m pl) Q E s := by
  obtain ⟨mA, O, r, _, _, _⟩ := ins_get I.hok e
  have hn : mA m = none := RelO.none_of (by rw [← l]; exact r m)
  exact get_meth I.kIn O (c.get m) k.at_ k.fn hn h

theorem setattr_ok {y : V} {u : Value} {Q : Unit → Shared → Prop} (I : Inv X pins σ H s) (e : H a = some (.ins C dx fs)) (c : Cls X.K C) (n : NoAttr X.K C f) (hl : fs.length < 1000) (ry : RelV y u)
    (h : ∀ s', Inv X pins σ (upd H a (.ins C dx (putF f y fs))) s' → Q () s') : wpAny (model X.prog X.w) A (setAttr (.ref a) f u) Q E s := by
  obtain ⟨mA, O, r, wi, _, ho⟩ := ins_get I.hok e
  have hz : (fs.map (·.1)).length ≤ sizeLine := by rw [List.length_map, sizeLine_eq]; omega
  refine set_map I.kIn O c.sa c.po n.taker c.hd wi hz fun h' O' sb => h _ ?_
  have hd : ∃ o, h'.get? dx = some o := let ⟨o, _, _, e', _⟩ := O'.ns; ⟨o, e'⟩
  refine I.write (x := a) (e := dx) (by rw [e]; exact True.intro) (.inr ho) (fun b q hb z => (sb.2 b hb).trans z) hd ?_
  refine ⟨by rw [upd_ne O.ne]; exact ho, ?_, O.ne, O'.obj, _, O'.ns, fun g => ?_, fun g hg => ?_⟩
  · have := length_putF f y fs; omega
  · show RelO ((putF f y fs).lookup g) (if g = f then some u else mA g)
    rw [lookup_putF]
    by_cases q : g = f
    · rw [if_pos q, if_pos q]; exact ry
    · rw [if_neg q, if_neg q]; exact r g
  · by_cases q : g = f
    · rw [q]; exact (keys_putF f y fs).1
    · refine (keys_putF f y fs).2 g (wi g fun z => hg ?_)
      show (if g = f then some u else mA g) = none
      rw [if_neg q]; exact z

/-- a new instance, tracked, without attributes -/
theorem Inv.made (I : Inv X pins σ H s) : Inv X pins σ (upd (upd H s.heap.objs.size (.own (s.heap.objs.size + 1))) (s.heap.objs.size + 1) (.ins C s.heap.objs.size []))
    { s with heap := (s.heap.push PySem.W.emptyDict).push (PySem.W.instObj C s.heap.objs.size) } := by
  have e1 : (s.heap.push PySem.W.emptyDict).get? s.heap.objs.size = some PySem.W.emptyDict := Heap.get?_push_size s.heap rfl
  have e2 : ((s.heap.push PySem.W.emptyDict).push (PySem.W.instObj C s.heap.objs.size)).get? (s.heap.objs.size + 1) = some (PySem.W.instObj C s.heap.objs.size) := by
    have := Heap.get?_push_size (s.heap.push PySem.W.emptyDict) (o := PySem.W.instObj C s.heap.objs.size) rfl
    rwa [Heap.size_push] at this
  have e3 : (s.heap.push PySem.W.emptyDict).Ns s.heap.objs.size (fun _ => none) := ⟨PySem.W.emptyDict, #[], _, e1, rfl, (fun e he => absurd he (by simp)), fun _ => rfl⟩
  have I1 := I.laid (a := s.heap.objs.size) (o := .own (s.heap.objs.size + 1)) (h' := s.heap.push PySem.W.emptyDict) (t' := s.toks) (fun b u q => Heap.get?_push_of_some _ q) (Nat.le_refl _) ⟨_, e1⟩
  refine I1.laid (a := s.heap.objs.size + 1) (o := .ins C s.heap.objs.size []) (t' := s.toks) (fun b u q => Heap.get?_push_of_some _ q) (Nat.le_of_eq (Heap.size_push _ _)) ?_
  have ne : s.heap.objs.size ≠ s.heap.objs.size + 1 := Nat.ne_of_lt (Nat.lt_succ_self _)
  refine ⟨by rw [upd_ne ne, upd_same], Nat.zero_le _, ne, e2, fun _ => none, (Heap.Ns1.of_empty e3).at fun o q => Heap.get?_push_of_some _ q, fun _ => True.intro, fun y hy => absurd rfl hy⟩

/-- e.f where nothing but the object is asked: through attributeBase (super) and the last hold -/
theorem attr_of {prog : Program} {w : World} {env : Env} {e : Expr} {f : Str} {pos : Pos} {s : Shared} {Q : Value → Shared → Prop} (hb : attributeBase e f env (eval e env) = eval e env)
    (h : wpAny (model prog w) A (eval e env) (fun o s₁ => wpAny (model prog w) A (getAttr o f true) Q E s₁) E s) : wpAny (model prog w) A (eval (.Attribute e f pos) env) Q E s :=
  Attribute_any_ h (by rw [arm_eval_Attribute, hb])
end

/-! ### readings and rules -/
/-- e.f, an attribute of the instance -/
def tFld (K : PySem.W.Frag) (ta : TE) (f : Str) : TE := fun σ H Q => ta σ H fun x H1 => ∃ a C dx fs v, x = .ref a ∧ H1 a = some (.ins C dx fs) ∧ Cls K C ∧ NoAttr K C f ∧ fs.lookup f = some v ∧ Q v H1
/-- e.f, a constant of the class -/
def tCon (K : PySem.W.Frag) (ta : TE) (f : Str) : TE := fun σ H Q => ta σ H fun x H1 => ∃ a C dx fs v u, x = .ref a ∧ H1 a = some (.ins C dx fs) ∧ Cls K C ∧ Con K C f v u ∧ fs.lookup f = none ∧ Q v H1
/-- e.f = value -/
def sFld (K : PySem.W.Frag) (ta tv : TE) (f : Str) : TS := fun D σ H => tv σ H fun y H1 => ta σ H1 fun x H2 => ∃ a C dx fs, x = .ref a ∧ H2 a = some (.ins C dx fs) ∧ Cls K C ∧ NoAttr K C f ∧ fs.length < 1000 ∧
  D.nx σ (upd H2 a (.ins C dx (putF f y fs)))
/-- an augmented operator on two values -/
def InOp (X : Cx) (op : Operator) (rd : V → V → Hp → VK → Prop) : Prop :=
  ∀ (pins : List (Addr × Obj)) (s : Shared) (σ : St) (H : Hp) (x y : V) (u v : Value) (Q : VK), Inv X pins σ H s → RelV x u → RelV y v → rd x y H Q → wpAny (model X.prog X.w) X.A (inplaceOp op u v) (EP X pins σ Q) X.xe s
/-- e.f op= value -/
def sFldAug (K : PySem.W.Frag) (ta tv : TE) (rd : V → V → Hp → VK → Prop) (f : Str) : TS := fun D σ H => ta σ H fun x H1 => ∃ a C dx fs v, x = .ref a ∧ H1 a = some (.ins C dx fs) ∧ Cls K C ∧ NoAttr K C f ∧ fs.lookup f = some v ∧
  tv σ H1 fun y H2 => rd v y H2 fun z H3 => ∃ dx' fs', H3 a = some (.ins C dx' fs') ∧ fs'.length < 1000 ∧ D.nx σ (upd H3 a (.ins C dx' (putF f z fs')))

section
variable {X : Cx} {o e value : Expr} {f : Str} {pos pos' tpos : Pos} {ta tv : TE}
theorem pe_fld (he : PE X e ta) (hb : attributeBase e f X.env (eval e X.env) = eval e X.env) : PE X (.Attribute e f pos) (tFld X.K ta f) := by
  intro pins s σ H Q I h
  refine attr_of hb (thn (he pins s σ H _ I h) fun u s1 ⟨x, H1, I1, rx, a, C, dx, fs, v, ex, ea, c, n, l, q⟩ => ?_)
  subst ex
  obtain rfl : u = Value.ref a := rx
  exact getattr_ok I1 ea c n l fun u' s2 I2 ru => ⟨v, H1, I2, ru, q⟩
theorem pe_con (he : PE X e ta) (hb : attributeBase e f X.env (eval e X.env) = eval e X.env) : PE X (.Attribute e f pos) (tCon X.K ta f) := by
  intro pins s σ H Q I h
  refine attr_of hb (thn (he pins s σ H _ I h) fun u s1 ⟨x, H1, I1, rx, a, C, dx, fs, v, u0, ex, ea, c, k, l, q⟩ => ?_)
  subst ex
  obtain rfl : u = Value.ref a := rx
  exact getcon_ok I1 ea c k l fun s2 I2 => ⟨v, H1, I2, k.rel, q⟩
theorem ps_fld (ha : PE X o ta) (hv : PE X value tv) (hs : swapsWith value (some (.Attribute o f pos')) pos.line X.env = pure false) : PS X (.Assign [.Attribute o f pos'] value pos) (sFld X.K ta tv f) := by
  intro pins s σ H D I h
  refine plainObj_wpAny_Assign_Attribute (thn (hv pins s σ H _ I h) fun u s1 ⟨y, H1, I1, ry, q⟩ => thn (ha pins s1 σ H1 _ I1 q) fun ov s2 ⟨x, H2, I2, rx, a, C, dx, fs, ex, ea, c, n, l, q2⟩ => ?_) hs
  subst ex
  obtain rfl : ov = Value.ref a := rx
  exact setattr_ok I2 ea c n l ry fun s3 I3 => ⟨σ, _, I3, q2⟩
theorem ps_fldaug {op : Operator} {rd : V → V → Hp → VK → Prop} (ha : PE X o ta) (hv : PE X value tv) (hop : InOp X op rd) : PS X (.AugAssign (.Attribute o f tpos) op value pos) (sFldAug X.K ta tv rd f) := by
  intro pins s σ H D I h
  refine wpAny_AugAssign_AttributeAny (thn (ha pins s σ H _ I h) fun ov s1 ⟨x, H1, I1, rx, a, C, dx, fs, v, ex, ea, c, n, l, q⟩ => ?_)
  subst ex
  obtain rfl : ov = Value.ref a := rx
  refine getattr_ok I1 ea c n l fun u s2 I2 ru => thn (hv pins s2 σ H1 _ I2 q) fun w3 s3 ⟨y, H2, I3, ry, q3⟩ => thn (hop pins s3 σ H2 v y u w3 _ I3 ru ry q3) fun w4 s4 ⟨z, H3, I4, rz, dx', fs', ea', l', q4⟩ => ?_
  exact setattr_ok I4 ea' c n l' rz fun s5 I5 => ⟨σ, _, I5, q4⟩
def rAdd : V → V → Hp → VK → Prop := fun x y H Q => ∃ i j, x = .int i ∧ y = .int j ∧ Q (.int (i + j)) H
def rSub : V → V → Hp → VK → Prop := fun x y H Q => ∃ i j, x = .int i ∧ y = .int j ∧ Q (.int (i - j)) H
theorem in_add : InOp X .Add rAdd := by
  rintro pins s σ H x y u v Q I rx ry ⟨i, j, rfl, rfl, q⟩
  obtain ⟨t, rfl⟩ := (show ∃ t, u = Value.int i t from rx)
  obtain ⟨t', rfl⟩ := (show ∃ t', v = Value.int j t' from ry)
  exact PyProof.Rows.iadd_int ⟨.int (i + j), H, I.tok _, ⟨_, rfl⟩, q⟩
theorem in_sub : InOp X .Sub rSub := by
  rintro pins s σ H x y u v Q I rx ry ⟨i, j, rfl, rfl, q⟩
  obtain ⟨t, rfl⟩ := (show ∃ t, u = Value.int i t from rx)
  obtain ⟨t', rfl⟩ := (show ∃ t', v = Value.int j t' from ry)
  exact PyProof.Rows.isub_int ⟨.int (i - j), H, I.tok _, ⟨_, rfl⟩, q⟩

/-- what is between an instance and its method: the tree of a method call -/
theorem methcall_of {pl : Sem Bool} {m : Str} {apos : Pos} {args : List Expr} {pins : List (Addr × Obj)} {s : Shared} {σ : St} {H : Hp} {Q : Value → Shared → Prop} {te : TE} (he : PE X e te) (I : Inv X pins σ H s)
    (h : te σ H fun x H1 => ∃ a C dx fs g, x = .ref a ∧ H1 a = some (.ins C dx fs) ∧ Cls X.K C ∧ Meth X.K C m g ∧ fs.lookup m = none ∧
      ∀ s1, Inv X pins σ H1 s1 → wpAny (model X.prog X.w) X.A (callWith pos (.ref g) [.ref a] (backTo pos (starEach args X.env)) (backToKw pos (keywordEach [] X.env))) Q X.xe s1)
    (ht : eval (.Call (.Attribute e m apos) args [] pos) X.env = (do
      let ov ← eval e X.env
      standAt apos.atName
      let (f, first) ← holding [ov] (getMethod ov m pl)
      callWith pos f first (backTo pos (starEach args X.env)) (backToKw pos (keywordEach [] X.env)))) :
    wpAny (model X.prog X.w) X.A (eval (.Call (.Attribute e m apos) args [] pos) X.env) Q X.xe s := by
  refine PySem.W.methodCall_KW (pl := pl) (thn (he pins s σ H _ I h) fun u s1 ⟨x, H1, I1, rx, a, C, dx, fs, g, ex, ea, c, k, l, q⟩ => ?_) ht
  subst ex
  obtain rfl : u = Value.ref a := rx
  exact getmeth_ok I1 ea c k l (q s1 I1)
end

/-! ### isinstance -/
section
variable {X : Cx} {pins : List (Addr × Obj)} {σ : St} {H : Hp} {s : Shared} {A : Around} {E : Value → Shared → Prop} {Q : Value → Shared → Prop} {c : Value} {b : Bool}
/-- the type of a value, as the fragment's deciders take it; for an instance its class -/
inductive TyOf (K : PySem.W.Frag) (H : Hp) : V → Value → Prop where
  | non : TyOf K H .non (.type "NoneType")
  | bl (x : Bool) : TyOf K H (.bl x) (.type "bool")
  | int (i : Int) : TyOf K H (.int i) (.type "int")
  | str (x : Str) : TyOf K H (.str x) (.type "str")
  | flt (x : UInt64) : TyOf K H (.flt x) (.type "float")
  | lst {a : Addr} {xs : List V} (e : H a = some (.lst xs)) : TyOf K H (.ref a) (.type "list")
  | frz {a : Addr} {o : Obj} {xs : List V} (e : H a = some (.frz o (.lst xs))) : TyOf K H (.ref a) (.type "list")
  | tup {a : Addr} {xs : List V} (e : H a = some (.tup xs)) : TyOf K H (.ref a) (.type "tuple")
  | dK {a : Addr} {kvs : List (Key × V)} (e : H a = some (.dK kvs)) : TyOf K H (.ref a) (.type "dict")
  | dT {a : Addr} {kvs : List (List Key × V)} (e : H a = some (.dT kvs)) : TyOf K H (.ref a) (.type "dict")
  | ins {a C dx : Addr} {fs : List (Str × V)} (e : H a = some (.ins C dx fs)) (cl : Cls K C) (ha : PySem.W.findIn K (.ref C) "__class__" = some (some (.builtin "object.__class__")))
      (hn : PySem.W.specialIn K (.builtin "object.__class__") "__get__" = some (some (.builtin "getset_descriptor.__get__"))) (htk : PySem.W.takesIn K (.builtin "object.__class__") = some true)
      (hm : PySem.W.mroIn K C (.type "object") = some true) : TyOf K H (.ref a) (.ref C)
/-- isinstance(x, c) for one class c, a built-in or an own one: kitOne's answer -/
theorem isinst_ok {x : V} {u t : Value} (I : Inv X pins σ H s) (rx : RelV x u) (ty : TyOf X.K H x t) (e : PySem.W.kitOne X.K t c = some b) (h : ∀ tk, Q (.bool b) { s with toks := tk }) :
    wpAny (model X.prog X.w) A (call (.builtin "isinstance") [u, c]) Q E s := by
  cases ty with
  | non => cases (show u = Value.none from rx); exact PySem.W.kia_one PySem.W.kitx_none I.kIn True.intro e (fun z => nomatch z) h
  | bl y => cases (show u = Value.bool y from rx); exact PySem.W.kia_one PySem.W.kitx_bool I.kIn True.intro e (fun z => nomatch z) h
  | int i => obtain ⟨t, q⟩ := (show ∃ t, u = Value.int i t from rx); cases q; exact PySem.W.kia_one PySem.W.kitx_int I.kIn True.intro e (fun z => nomatch z) h
  | str y => obtain ⟨t, q⟩ := (show ∃ t, u = Value.str y t from rx); cases q; exact PySem.W.kia_one PySem.W.kitx_str I.kIn True.intro e (fun z => nomatch z) h
  | flt y => obtain ⟨t, q⟩ := (show ∃ t, u = Value.float y t from rx); cases q; exact PySem.W.kia_one PySem.W.kitx_float I.kIn True.intro e (fun z => nomatch z) h
  | @lst a xs ea =>
    cases (show u = Value.ref a from rx)
    obtain ⟨_, _, n, _, h1⟩ := (show ObjOk X.prog X.w H s.heap a (.lst xs) from I.hok a _ ea)
    exact PySem.W.kia_one PySem.W.kitx_list I.kIn ⟨_, h1, rfl⟩ e (fun z => nomatch z) h
  | @frz a ob xs ea =>
    cases (show u = Value.ref a from rx)
    obtain ⟨_, _, _, n, _, h1⟩ := (show ObjOk X.prog X.w H s.heap a (.frz ob (.lst xs)) from I.hok a _ ea)
    exact PySem.W.kia_one PySem.W.kitx_list I.kIn ⟨_, h1, rfl⟩ e (fun z => nomatch z) h
  | @tup a xs ea =>
    cases (show u = Value.ref a from rx)
    obtain ⟨_, _, _, p⟩ := (show ObjOk X.prog X.w H s.heap a (.tup xs) from I.hok a _ ea)
    obtain ⟨o, h1, h2, _⟩ := p
    exact PySem.W.kia_one PySem.W.kitx_tuple I.kIn ⟨o, h1, h2⟩ e (fun z => nomatch z) h
  | @dK a kvs ea =>
    cases (show u = Value.ref a from rx)
    obtain ⟨_, _, vs, _, p⟩ := (show ObjOk X.prog X.w H s.heap a (.dK kvs) from I.hok a _ ea)
    obtain ⟨o, es, ep, h1, h2, _⟩ := p
    exact PySem.W.kia_one PySem.W.kitx_dict I.kIn ⟨o, h1, h2.1⟩ e (fun z => nomatch z) h
  | @dT a kvs ea =>
    cases (show u = Value.ref a from rx)
    obtain ⟨_, _, xs, _, o, es, ep, h1, h2, _⟩ := (show ObjOk X.prog X.w H s.heap a (.dT kvs) from I.hok a _ ea)
    exact PySem.W.kia_one PySem.W.kitx_dict I.kIn ⟨o, h1, h2.1⟩ e (fun z => nomatch z) h
  | @ins a C dx fs ea cl ha hn htk hm =>
    cases (show u = Value.ref a from rx)
    obtain ⟨mA, O, _⟩ := ins_get I.hok ea
    obtain ⟨od, J, _⟩ := O.look
    exact PySem.W.kia_one (PySem.W.kitx_own (cl.get _) cl.hd ha hn htk hm) I.kIn J e (fun z => nomatch z) h
end
end L2

namespace L2
open PySem PySem.Spec PyProof.Rows

/-! ### room -/
structure Room (k : Nat) (A : Around) : Prop where
  hd : A.handled = none
  dp : A.depth + 3 * k + 5 < recursionLimit
  un : A.units + 16 * k + 200 < cLine
theorem Room.mono {j k : Nat} {A : Around} (r : Room k A) (h : j ≤ k) : Room j A := ⟨r.hd, by have := r.dp; omega, by have := r.un; omega⟩
theorem Room.deeper {k : Nat} {A : Around} (r : Room (k + 1) A) (env : Env) : Room k (A.deeper env) :=
  ⟨r.hd, by have := r.dp; show A.depth + 1 + 3 * k + 5 < _; omega, by have := r.un; show A.units + 3 + 16 * k + 200 < _; omega⟩
theorem Room.in1 {k : Nat} {A : Around} (r : Room (k + 1) A) : Room k A.in1 :=
  ⟨r.hd, by have := r.dp; show A.depth + 3 * k + 5 < _; omega, by have := r.un; show A.units + 1 + 16 * k + 200 < _; omega⟩
theorem make_depth {A : Around} {C : Addr} {us : List Value} {kw : List (Str × Value)} : (A.under (.builtin "type.__call__" ⟨.ref C :: us, kw⟩)).depth = A.depth + 1 := by
  first | rfl | simp [Around.under, Code.weight, Code.isCreation, Code.isGuard, Code.isCaller, Code.frames, Code.isFrame, guardIds]
theorem make_units {A : Around} {C : Addr} {us : List Value} {kw : List (Str × Value)} : (A.under (.builtin "type.__call__" ⟨.ref C :: us, kw⟩)).units = A.units + 1 := by
  first | rfl | simp [Around.under, Code.cUnits, Code.frames, Code.isFrame]
theorem Room.make {k : Nat} {A : Around} (r : Room (k + 1) A) (C : Addr) (us : List Value) (kw : List (Str × Value)) : Room k (A.under (.builtin "type.__call__" ⟨.ref C :: us, kw⟩)) :=
  ⟨r.hd, by have := r.dp; rw [make_depth]; omega, by have := r.un; rw [make_units]; omega⟩
theorem Room.depth {k : Nat} {A : Around} (r : Room k A) : A.depth < recursionLimit := by have := r.dp; omega
theorem Room.units {k : Nat} {A : Around} (r : Room k A) : A.units + 64 < cLine := by have := r.un; omega
theorem Room.units0 {k : Nat} {A : Around} (r : Room k A) : A.units < cLine := by have := r.un; omega

/-! ### argument lists and displays -/
def tNil : TA := fun _ H Q => Q [] H
def tCons (ta : TE) (tr : TA) : TA := fun σ H Q => ta σ H fun x H1 => tr σ H1 fun xs H2 => Q (x :: xs) H2
section
variable {X : Cx} {e : Expr} {es : List Expr} {te : TE} {t : TA} {pos : Pos}
theorem pa_nil : PA X [] tNil := fun _ _ _ _ H Q I h => Calls.spliced_nil ⟨[], H, I, .nil, h⟩
theorem pa_cons (ha : PE X e te) (hr : PA X es t) (hs : starEach (e :: es) X.env = (false, eval e X.env) :: starEach es X.env := by rfl) : PA X (e :: es) (tCons te t) := by
  intro pos pins s σ H Q I h
  rw [hs]
  show wpAny _ _ (spliced ((false, eval e X.env) :: backTo pos (starEach es X.env))) _ _ s
  refine Calls.spliced_cons (thn (ha pins s σ H _ I h) fun u s1 ⟨x, H1, I1, r1, q1⟩ => ?_)
  exact thn (hr pos pins s1 σ H1 _ I1 q1) fun us s2 ⟨xs, H2, I2, r2, q2⟩ => ⟨x :: xs, H2, I2, .cons r1 r2, q2⟩

/-- a tuple, a list of written items -/
def tTup (t : TA) : TE := fun σ H Q => t σ H fun xs H1 => xs.length ≤ sizeLine ∧ ∀ p, H1 p = none → Q (.ref p) (upd H1 p (.tup xs))
def tLst (t : TA) : TE := fun σ H Q => t σ H fun xs H1 => xs.length ≤ sizeLine ∧ ∀ p, H1 p = none → Q (.ref p) (upd H1 p (.lst xs))
theorem pe_tup {x1} (h : PA X es t) : PE X (.Tuple es x1 pos) (tTup t) := by
  intro pins s σ H Q I hq
  refine wpAny_Tuple_spliced (thn (h pos pins s σ H _ I hq) fun us s1 ⟨xs, H1, I1, r, z, q⟩ => ⟨by rw [← r.length]; exact z, ?_⟩)
  have hf : H1 s1.heap.objs.size = none := I1.hok.fresh (Nat.le_refl _)
  refine ⟨.ref s1.heap.objs.size, upd H1 s1.heap.objs.size (.tup xs), I1.laid (t' := s1.toks) (fun b u e => Heap.get?_push_of_some _ e) (Nat.le_refl _) ?_, rfl, q _ hf⟩
  exact ⟨z, us, r, ⟨_, Heap.get?_push_size _ rfl, rfl, _, rfl⟩⟩
theorem pe_lst (h : PA X es t) : PE X (.List es pos) (tLst t) := by
  intro pins s σ H Q I hq
  refine wpAny_List_spliced (thn (h pos pins s σ H _ I hq) fun us s1 ⟨xs, H1, I1, r, z, q⟩ => ⟨by rw [← r.length]; exact z, ?_⟩)
  have hf : H1 s1.heap.objs.size = none := I1.hok.fresh (Nat.le_refl _)
  refine ⟨.ref s1.heap.objs.size, upd H1 s1.heap.objs.size (.lst xs), I1.laid (t' := s1.toks) (fun b u e => Heap.get?_push_of_some _ e) (Nat.le_refl _) ?_, rfl, q _ hf⟩
  exact ⟨z, us, 0, r, Heap.get?_push_size _ rfl⟩
end

/-! ### what a def promises -/
/-- a def's promise: the bound arguments in the parameters' order, the heap, the wanted end, the wanted exception -/
abbrev Sp := List V → Hp → VK → XK → Prop
/-- how an exception lies behind a call (file 08 gives it): the callers' frames, abstract heap and state ahead of the call, the wish, the exception, the state -/
abbrev CXT := List Env → Hp → Shared → XK → Value → Shared → Prop

/-- the state at a call -/
structure Env0 (P : Program) (w : World) (K : PySem.W.Frag) (mg : Str → Option Value) (base : Heap) (A : Around) (outer : List Env) (s : Shared) (H : Hp) : Prop where
  frames : A.frames = some outer
  mod : Mod K mg base
  bs : ∀ b o, base.get? b = some o → s.heap.get? b = some o ∧ H b = none
  bsz : base.objs.size ≤ s.heap.objs.size
  funs : s.heap.FunFrames base outer
  frf : ∀ b ∈ frs outer, H b = none
  hok : HOk P w H s.heap
  bare : AllBare s.gens
/-- a call's end -/
def CE (outer : List Env) (P : Program) (w : World) (H : Hp) (s : Shared) (Q : VK) (u : Value) (s' : Shared) : Prop :=
  ∃ v H', s'.os = s.os ∧ AllBare s'.gens ∧ Un (frs outer) [] H H' s.heap s'.heap ∧ HOk P w H' s'.heap ∧ RelV v u ∧ Q v H'
def CR (CX : CXT) (outer : List Env) (P : Program) (w : World) (H : Hp) (s : Shared) (Q : VK) (E : XK) (r : Result) (s' : Shared) : Prop :=
  match r with
  | .ok (.ret u) => CE outer P w H s Q u s'
  | .ok _ => False
  | .error e => CX outer H s E e s'
structure FnOk (P : Program) (w : World) (K : PySem.W.Frag) (mg : Str → Option Value) (base : Heap) (CX : CXT) (k : Nat) (f : Addr) (fd : FuncData) (ps : List Str) (sp : Sp) : Prop where
  len : ∀ vs H Q E, sp vs H Q E → vs.length = ps.length
  run : ∀ (A : Around) (outer : List Env) (s : Shared) (H : Hp) (args : Args) (us : List Value) (vs : List V) (Q : VK) (E : XK), Room k A → Env0 P w K mg base A outer s H → BindsTo s fd args (ps.zip us) → Vals vs us → sp vs H Q E →
    codeAny (model P w) A (.call (.ref f) args) (CR CX outer P w H s Q E) s
theorem FnOk.mono {P : Program} {w : World} {K : PySem.W.Frag} {mg : Str → Option Value} {base : Heap} {CX : CXT} {j k : Nat} {f : Addr} {fd : FuncData} {ps : List Str} {sp : Sp} (F : FnOk P w K mg base CX j f fd ps sp) (h : j ≤ k) :
    FnOk P w K mg base CX k f fd ps sp := ⟨F.len, fun A outer s H args us vs Q E hr => F.run A outer s H args us vs Q E (hr.mono h)⟩
/-- a weaker promise -/
theorem FnOk.imp {P : Program} {w : World} {K : PySem.W.Frag} {mg : Str → Option Value} {base : Heap} {CX : CXT} {k : Nat} {f : Addr} {fd : FuncData} {ps : List Str} {sp sp' : Sp} (F : FnOk P w K mg base CX k f fd ps sp)
    (h : ∀ vs H Q E, sp' vs H Q E → sp vs H Q E) : FnOk P w K mg base CX k f fd ps sp' :=
  ⟨fun vs H Q E q => F.len vs H Q E (h _ _ _ _ q), fun A outer s H args us vs Q E hr he hb hv hs => F.run A outer s H args us vs Q E hr he hb hv (h _ _ _ _ hs)⟩

theorem Env0.make {P : Program} {w : World} {K : PySem.W.Frag} {mg : Str → Option Value} {base : Heap} {A : Around} {outer : List Env} {s : Shared} {H : Hp} (e : Env0 P w K mg base A outer s H) (C : Addr) (us : List Value) (kw : List (Str × Value)) :
    Env0 P w K mg base (A.under (.builtin "type.__call__" ⟨.ref C :: us, kw⟩)) outer s H := ⟨by first | exact e.frames | (simpa [Around.under, Code.envs, Code.isFrame, pushEnvs] using e.frames), e.mod, e.bs, e.bsz, e.funs, e.frf, e.hok, e.bare⟩
theorem Env0.in1 {P : Program} {w : World} {K : PySem.W.Frag} {mg : Str → Option Value} {base : Heap} {A : Around} {outer : List Env} {s : Shared} {H : Hp} (e : Env0 P w K mg base A outer s H) :
    Env0 P w K mg base A.in1 outer s H := ⟨e.frames, e.mod, e.bs, e.bsz, e.funs, e.frf, e.hok, e.bare⟩

section
variable {X : Cx} {pins : List (Addr × Obj)} {σ : St} {H : Hp} {s s' : Shared}
/-- from a body: what a callee wants -/
theorem Inv.env0 (I : Inv X pins σ H s) : Env0 X.prog X.w X.K X.mg X.base X.A X.stack s H :=
  ⟨I.ok.frames, I.ok.mod, I.bs, Nat.le_trans I.ok.bsz I.sz, I.stack, I.stkFree, I.hok, I.bare⟩
/-- behind a call -/
theorem Inv.after {Q : VK} {u : Value} (I : Inv X pins σ H s) (h : CE X.stack X.prog X.w H s Q u s') : EP X pins σ Q u s' := by
  obtain ⟨v, H', os, bare, un, hok, r, q⟩ := h
  obtain ⟨hh, g, d, t, os'⟩ := s'
  obtain rfl : os' = s.os := os
  exact ⟨v, H', I.call (h' := hh) (g' := g) (d' := d) (t' := t) (ch := []) un hok bare (fun b z => absurd z (by simp)), r, q⟩
end

/-! ### calls -/
/-- f(..): the written arguments, then the defaults dvs; E: what is wanted of an exception -/
def tCall (sp : Sp) (dvs : List V) (E : XK) (t : TA) : TE := fun σ H Q => t σ H fun vs H1 => sp (vs ++ dvs) H1 Q E
/-- o.m(..) of an instance of the class at C -/
def tMeth (C : Addr) (m : Str) (sp : Sp) (dvs : List V) (E : XK) (ta : TE) (t : TA) : TE := fun σ H Q => ta σ H fun x H1 => ∃ a dx fs, x = .ref a ∧ H1 a = some (.ins C dx fs) ∧ fs.lookup m = none ∧
  t σ H1 fun vs H2 => sp (x :: (vs ++ dvs)) H2 Q E
/-- C(..): a new instance and its dict, then __init__ -/
def tMake (C : Addr) (sp : Sp) (dvs : List V) (E : XK) (t : TA) : TE := fun σ H Q => t σ H fun vs H1 => ∀ x dx, H1 x = none → H1 dx = none → dx ≠ x →
  sp (.ref x :: (vs ++ dvs)) (upd (upd H1 dx (.own x)) x (.ins C dx [])) (fun v H2 => v = .non ∧ Q (.ref x) H2) E

/-- how the parameters are bound: us the positional arguments, kw the keywords' values by name, ds the defaults that fill up -/
def Binds (K : PySem.W.Frag) (fd : FuncData) (ps : List Str) (ds : List Value) : Prop :=
  ∀ (s : Shared) (us : List Value), K.In s.heap → (us ++ ds).length = ps.length → BindsTo s fd ⟨us, []⟩ (ps.zip (us ++ ds))
/-- every parameter is given -/
theorem Binds.all {K : PySem.W.Frag} {fd : FuncData} {ps : List Str} (h : ∀ us : List Value, us.length = ps.length → bindArgs fd ⟨us, []⟩ = pure (ps.zip us)) : Binds K fd ps [] := fun s us _ hl => by
  rw [List.append_nil] at hl ⊢
  exact .of_eq (h us hl)

/-- an exception of a callee reaches what this body wants of exceptions -/
def Passes (CX : CXT) (X : Cx) (E : XK) : Prop := ∀ (pins : List (Addr × Obj)) (σ : St) (H : Hp) (s : Shared) (e : Value) (s' : Shared), Inv X pins σ H s → CX X.stack H s E e s' → X.xe e s'

section
variable {X : Cx} {CX : CXT} {k : Nat} {f C : Addr} {fd : FuncData} {ps : List Str} {sp : Sp} {dvs : List V} {ds : List Value} {E : XK} {x m : Str} {p pos apos : Pos} {e o : Expr} {es : List Expr} {ta : TE} {t : TA}

/-- the callee runs -/
theorem run_fn {pins : List (Addr × Obj)} {σ : St} {H : Hp} {s : Shared} {Q : VK} {us : List Value} {vs : List V} (F : FnOk X.prog X.w X.K X.mg X.base CX k f fd ps sp) (hr : Room k X.A) (hb : Binds X.K fd ps ds) (hd : Vals dvs ds) (hx : Passes CX X E)
    (I : Inv X pins σ H s) (r : Vals vs us) (h : sp (vs ++ dvs) H Q E) : wpAny (model X.prog X.w) X.A (call (.ref f) us) (EP X pins σ Q) X.xe s := by
  have r2 : Vals (vs ++ dvs) (us ++ ds) := r.append hd
  have hl : (us ++ ds).length = ps.length := by rw [← r2.length]; exact F.len _ _ _ _ h
  refine wpAny_call (codeAny_mono (F.run X.A X.stack s H ⟨us, []⟩ (us ++ ds) (vs ++ dvs) Q E hr I.env0 (hb s us I.kIn hl) r2 h) fun r s' hq => ?_)
  cases r with
  | error e => exact hx pins σ H s e s' I hq
  | ok fl =>
    cases fl with
    | ret u => exact I.after hq
    | next => exact False.elim hq
    | brk => exact False.elim hq
    | cont => exact False.elim hq

theorem pe_call (F : FnOk X.prog X.w X.K X.mg X.base CX k f fd ps sp) (hr : Room k X.A) (hg : Gl X x) (hm : X.mg x = some (.ref f)) (hk : PySem.W.keepIn X.K (.ref f) = true) (hb : Binds X.K fd ps ds) (hd : Vals dvs ds) (hx : Passes CX X E)
    (ha : PA X (e :: es) t) (hdb : (x == ("__debug__" : Str)) = false := by decide) (he : starEach (e :: es) X.env = (false, eval e X.env) :: starEach es X.env := by rfl) (hpl : (backTo pos (starEach es X.env)).any (·.1) = false := by rfl) :
    PE X (.Call (.Name x p) (e :: es) [] pos) (tCall sp dvs E t) := by
  intro pins s σ H Q I h
  refine wpAny_Call_Name_kw (ld_glob I hg hm ?_ hdb)
  refine PySem.W.callWith_K (h₀ := X.base) I.ok.mod.kin hk (thn (ha pos pins s σ H _ I h) fun us s1 ⟨vs, H1, I1, r, q⟩ => ⟨I1.kIn, ?_⟩) he hpl
  exact run_fn F hr hb hd hx I1 r q
theorem pe_call0 (F : FnOk X.prog X.w X.K X.mg X.base CX k f fd ps sp) (hr : Room k X.A) (hg : Gl X x) (hm : X.mg x = some (.ref f)) (hk : PySem.W.keepIn X.K (.ref f) = true) (hb : Binds X.K fd ps ds) (hd : Vals dvs ds) (hx : Passes CX X E)
    (hdb : (x == ("__debug__" : Str)) = false := by decide) : PE X (.Call (.Name x p) [] [] pos) (tCall sp dvs E tNil) := by
  intro pins s σ H Q I h
  refine wpAny_Call_Name_kw (ld_glob I hg hm ?_ hdb)
  exact PySem.W.callWith_K0 I.kIn hk (run_fn (us := []) F hr hb hd hx I .nil h)

/-- o.m(e, ..) -/
theorem pe_meth {pl : Sem Bool} (he : PE X o ta) (c : Cls X.K C) (hm : Meth X.K C m f) (F : FnOk X.prog X.w X.K X.mg X.base CX k f fd ps sp) (hr : Room k X.A) (hb : Binds X.K fd ps ds) (hd : Vals dvs ds) (hx : Passes CX X E) (ha : PA X (e :: es) t)
    (hst : starEach (e :: es) X.env = (false, eval e X.env) :: starEach es X.env := by rfl) (hpl : (backTo pos (starEach es X.env)).any (·.1) = false := by rfl)
    (ht : eval (.Call (.Attribute o m apos) (e :: es) [] pos) X.env = (do
      let ov ← eval o X.env
      standAt apos.atName
      let (f, first) ← holding [ov] (getMethod ov m pl)
      callWith pos f first (backTo pos (starEach (e :: es) X.env)) (backToKw pos (keywordEach [] X.env))) := by rfl) :
    PE X (.Call (.Attribute o m apos) (e :: es) [] pos) (tMeth C m sp dvs E ta t) := by
  intro pins s σ H Q I h
  refine PySem.W.methodCall_KW (pl := pl) (thn (he pins s σ H _ I h) fun u s1 ⟨x, H1, I1, rx, a, dx, fs, ex, ea, l, q⟩ => ?_) ht
  subst ex
  obtain rfl : u = Value.ref a := rx
  refine getmeth_ok I1 ea c hm l ?_
  refine PySem.W.callWith_K (first := [.ref a]) (h₀ := X.base) I.ok.mod.kin hm.kp (thn (ha pos pins s1 σ H1 _ I1 q) fun us s2 ⟨vs, H2, I2, r, q2⟩ => ⟨I2.kIn, ?_⟩) hst hpl
  exact run_fn (us := .ref a :: us) (vs := .ref a :: vs) F hr hb hd hx I2 (.cons rfl r) q2
/-- o.m() -/
theorem pe_meth0 {pl : Sem Bool} (he : PE X o ta) (c : Cls X.K C) (hm : Meth X.K C m f) (F : FnOk X.prog X.w X.K X.mg X.base CX k f fd ps sp) (hr : Room k X.A) (hb : Binds X.K fd ps ds) (hd : Vals dvs ds) (hx : Passes CX X E)
    (ht : eval (.Call (.Attribute o m apos) [] [] pos) X.env = (do
      let ov ← eval o X.env
      standAt apos.atName
      let (f, first) ← holding [ov] (getMethod ov m pl)
      callWith pos f first (backTo pos (starEach [] X.env)) (backToKw pos (keywordEach [] X.env))) := by rfl) :
    PE X (.Call (.Attribute o m apos) [] [] pos) (tMeth C m sp dvs E ta tNil) := by
  intro pins s σ H Q I h
  refine PySem.W.methodCall_KW (pl := pl) (thn (he pins s σ H _ I h) fun u s1 ⟨x, H1, I1, rx, a, dx, fs, ex, ea, l, q⟩ => ?_) ht
  subst ex
  obtain rfl : u = Value.ref a := rx
  refine getmeth_ok I1 ea c hm l ?_
  exact PySem.W.callWith_K0 (first := [.ref a]) I1.kIn hm.kp (run_fn (us := [.ref a]) (vs := [.ref a]) F hr hb hd hx I1 (.cons rfl .nil) q)

/-- what a class must have to be made -/
structure Mk (K : PySem.W.Frag) (C f : Addr) : Prop where
  makes : PySem.W.makesIn K C = true
  init : PySem.W.findIn K (.ref C) "__init__" = some (some (.ref f))
  fn : PySem.W.isFn K (.ref f) = true
  kp : PySem.W.keepIn K (.ref C) = true

theorem run_make {pins : List (Addr × Obj)} {σ : St} {H : Hp} {s : Shared} {Q : VK} {us : List Value} {vs : List V} (M : Mk X.K C f) (F : FnOk X.prog X.w X.K X.mg X.base CX k f fd ps sp) (hr : Room (k + 1) X.A) (hb : Binds X.K fd ps ds) (hd : Vals dvs ds)
    (hx : Passes CX X E) (I : Inv X pins σ H s) (r : Vals vs us)
    (h : ∀ x dx, H x = none → H dx = none → dx ≠ x → sp (.ref x :: (vs ++ dvs)) (upd (upd H dx (.own x)) x (.ins C dx [])) (fun v H2 => v = .non ∧ Q (.ref x) H2) E) :
    wpAny (model X.prog X.w) X.A (call (.ref C) us) (EP X pins σ Q) X.xe s := by
  have hq := h (s.heap.objs.size + 1) s.heap.objs.size (I.hok.fresh (Nat.le_succ _)) (I.hok.fresh (Nat.le_refl _)) (Nat.ne_of_lt (Nat.lt_succ_self _))
  have I2 := Inv.made (C := C) I
  have r2 : Vals (V.ref (s.heap.objs.size + 1) :: (vs ++ dvs)) (Value.ref (s.heap.objs.size + 1) :: (us ++ ds)) := .cons rfl (r.append hd)
  have hl : (Value.ref (s.heap.objs.size + 1) :: us ++ ds).length = ps.length := by
    have e := r2.length
    rw [F.len _ _ _ _ hq] at e
    exact e.symm
  refine wpAny_call (make_map (f := f) I.kIn M.makes M.init (beq_iff_eq.mp M.fn) (codeAny_mono (F.run _ X.stack _ _ ⟨Value.ref (s.heap.objs.size + 1) :: us, []⟩ (Value.ref (s.heap.objs.size + 1) :: (us ++ ds)) _ _ E (hr.make C us [])
    (I2.env0.make C us []) (hb _ (Value.ref (s.heap.objs.size + 1) :: us) I2.kIn hl) r2 hq) fun r s' hq' => ?_))
  cases r with
  | error e => exact hx pins σ _ _ e s' I2 hq'
  | ok fl =>
    cases fl with
    | ret u =>
      obtain ⟨v, H', I3, rv, ev, q3⟩ := I2.after hq'
      subst ev
      exact ⟨rv, ⟨V.ref (s.heap.objs.size + 1), H', I3, rfl, q3⟩⟩
    | next => exact False.elim hq'
    | brk => exact False.elim hq'
    | cont => exact False.elim hq'
theorem pe_make (M : Mk X.K C f) (F : FnOk X.prog X.w X.K X.mg X.base CX k f fd ps sp) (hr : Room (k + 1) X.A) (hg : Gl X x) (hm : X.mg x = some (.ref C)) (hb : Binds X.K fd ps ds) (hd : Vals dvs ds) (hx : Passes CX X E)
    (ha : PA X (e :: es) t) (hdb : (x == ("__debug__" : Str)) = false := by decide) (he : starEach (e :: es) X.env = (false, eval e X.env) :: starEach es X.env := by rfl) (hpl : (backTo pos (starEach es X.env)).any (·.1) = false := by rfl) :
    PE X (.Call (.Name x p) (e :: es) [] pos) (tMake C sp dvs E t) := by
  intro pins s σ H Q I h
  refine wpAny_Call_Name_kw (ld_glob I hg hm ?_ hdb)
  refine PySem.W.callWith_K (h₀ := X.base) I.ok.mod.kin M.kp (thn (ha pos pins s σ H _ I h) fun us s1 ⟨vs, H1, I1, r, q⟩ => ⟨I1.kIn, ?_⟩) he hpl
  exact run_make M F hr hb hd hx I1 r q
theorem pe_make0 (M : Mk X.K C f) (F : FnOk X.prog X.w X.K X.mg X.base CX k f fd ps sp) (hr : Room (k + 1) X.A) (hg : Gl X x) (hm : X.mg x = some (.ref C)) (hb : Binds X.K fd ps ds) (hd : Vals dvs ds) (hx : Passes CX X E)
    (hdb : (x == ("__debug__" : Str)) = false := by decide) : PE X (.Call (.Name x p) [] [] pos) (tMake C sp dvs E tNil) := by
  intro pins s σ H Q I h
  refine wpAny_Call_Name_kw (ld_glob I hg hm ?_ hdb)
  exact PySem.W.callWith_K0 I.kIn M.kp (run_make (us := []) M F hr hb hd hx I .nil h)
end

/-! ### keywords -/
/-- the values of the keywords, from the left -/
def PK (X : Cx) (kws : List Keyword) (t : TA) : Prop :=
  ∀ (pos : Pos) (pins : List (Addr × Obj)) (s : Shared) (σ : St) (H : Hp) (Q : List V → Hp → Prop), Inv X pins σ H s → t σ H Q → wpAny (model X.prog X.w) X.A (evalAll ((backToKw pos (keywordEach kws X.env)).map (·.2))) (AP X pins σ Q) X.xe s
section
variable {X : Cx} {CX : CXT} {k : Nat} {f C : Addr} {fd : FuncData} {ps ks : List Str} {sp : Sp} {E : XK} {x m : Str} {p pos apos kpos : Pos} {e o : Expr} {es : List Expr} {kws : List Keyword} {te ta : TE} {t tk : TA} {nm : Option Str}
theorem pk_nil : PK X [] tNil := fun _ _ _ _ H Q I h => wpAny_evalAll_nil ⟨[], H, I, .nil, h⟩
theorem pk_cons (ha : PE X e te) (hr : PK X kws t) : PK X (⟨nm, e, kpos⟩ :: kws) (tCons te t) := by
  intro pos pins s σ H Q I h
  show wpAny _ _ (evalAll ((do let v ← eval e X.env; standAt pos; pure v) :: (backToKw pos (keywordEach kws X.env)).map (·.2))) _ _ s
  refine wpAny_evalAll_cons (wpAny_bind (thn (ha pins s σ H _ I h) fun u s1 ⟨x, H1, I1, r1, q1⟩ => wpAny_bind (wpAny_standAt (wpAny_pure ?_))))
  exact thn (hr pos pins s1 σ H1 _ I1 q1) fun us s2 ⟨xs, H2, I2, r2, q2⟩ => ⟨x :: xs, H2, I2, .cons r1 r2, q2⟩

/-- how a call with keywords binds: g puts the positional values us and the keywords' values ws (names ks) in the parameters' order, defaults among them -/
structure KBinds (K : PySem.W.Frag) (fd : FuncData) (ps ks : List Str) (g : List Value → List Value → List Value) (gV : List V → List V → List V) : Prop where
  to : ∀ (s : Shared) (us ws : List Value), K.In s.heap → (g us ws).length = ps.length → BindsTo s fd ⟨us, ks.zip ws⟩ (ps.zip (g us ws))
  rel : ∀ {vs : List V} {us : List Value} {zs : List V} {ws : List Value}, Vals vs us → Vals zs ws → Vals (gV vs zs) (g us ws)
def tCallK (sp : Sp) (gV : List V → List V → List V) (E : XK) (t tk : TA) : TE := fun σ H Q => t σ H fun vs H1 => tk σ H1 fun zs H2 => sp (gV vs zs) H2 Q E
variable {g : List Value → List Value → List Value} {gV : List V → List V → List V}
theorem run_fnk {pins : List (Addr × Obj)} {σ : St} {H : Hp} {s : Shared} {Q : VK} {us ws : List Value} {vs zs : List V} (F : FnOk X.prog X.w X.K X.mg X.base CX k f fd ps sp) (hr : Room k X.A) (hb : KBinds X.K fd ps ks g gV) (hx : Passes CX X E)
    (I : Inv X pins σ H s) (r : Vals vs us) (rz : Vals zs ws) (h : sp (gV vs zs) H Q E) : wpAny (model X.prog X.w) X.A (call (.ref f) us (ks.zip ws)) (EP X pins σ Q) X.xe s := by
  have r2 := hb.rel r rz
  have hl : (g us ws).length = ps.length := by rw [← r2.length]; exact F.len _ _ _ _ h
  refine wpAny_call (codeAny_mono (F.run X.A X.stack s H ⟨us, ks.zip ws⟩ (g us ws) (gV vs zs) Q E hr I.env0 (hb.to s us ws I.kIn hl) r2 h) fun r s' hq => ?_)
  cases r with
  | error e => exact hx pins σ H s e s' I hq
  | ok fl =>
    cases fl with
    | ret u => exact I.after hq
    | next => exact False.elim hq
    | brk => exact False.elim hq
    | cont => exact False.elim hq
/-- f(e, .., k = v, ..) -/
theorem pe_callK (F : FnOk X.prog X.w X.K X.mg X.base CX k f fd ps sp) (hr : Room k X.A) (hg : Gl X x) (hm : X.mg x = some (.ref f)) (hk : PySem.W.keepIn X.K (.ref f) = true) (hb : KBinds X.K fd ps ks g gV) (hx : Passes CX X E)
    (ha : PA X (e :: es) t) (hkw : PK X kws tk) (hall : (backToKw pos (keywordEach kws X.env)).all (·.1.isSome) = true := by rfl) (hks : (backToKw pos (keywordEach kws X.env)).filterMap (·.1) = ks := by rfl)
    (hdb : (x == ("__debug__" : Str)) = false := by decide) (he : starEach (e :: es) X.env = (false, eval e X.env) :: starEach es X.env := by rfl)
    (hpl : ((backTo pos (starEach (e :: es) X.env)).any (·.1) || (backToKw pos (keywordEach kws X.env)).any (·.1.isNone)) = false := by rfl) :
    PE X (.Call (.Name x p) (e :: es) kws pos) (tCallK sp gV E t tk) := by
  intro pins s σ H Q I h
  refine wpAny_Call_Name_kw (ld_glob I hg hm ?_ hdb)
  refine PySem.W.callWith_KW (h₀ := X.base) I.ok.mod.kin hk hall (thn (ha pos pins s σ H _ I h) fun us s1 ⟨vs, H1, I1, r, q⟩ => ?_) hpl he
  refine thn (hkw pos pins s1 σ H1 _ I1 q) fun ws s2 ⟨zs, H2, I2, rz, q2⟩ => ⟨I2.kIn, ?_⟩
  rw [hks]
  exact run_fnk F hr hb hx I2 r rz q2
end

/-! ### a def's body keeps its promise -/
/-- names: the parameters first -/
structure FnScope (N P : List Str) (sc : Scope) : Prop where
  kind : sc.kind = .function
  co : sc.isCoroutine = false
  gen : sc.isGenerator = false
  nd : N.Nodup
  pre : N.take P.length = P
  par : ∀ x ∈ P, sc.names.lookup x = some .local ∨ sc.names.lookup x = some .cell
  nofree : ∀ y ∈ sc.names, y.2 ≠ .free

theorem bindL_out {kindOf : Str → Option NameKind} {x : Str} : ∀ {binds : List (Str × Value)} {m : Str → Option Value}, (∀ v, (x, v) ∉ binds) → bindL kindOf binds m x = m x
  | [], _, _ => rfl
  | (n, v) :: r, m, h => by
    unfold bindL
    rw [bindL_out fun w hw => h w (List.mem_cons_of_mem _ hw)]
    split
    · have : x ≠ n := by rintro rfl; exact h v List.mem_cons_self
      simp [this]
    · rfl
theorem bindC_out {kindOf : Str → Option NameKind} {x : Str} : ∀ {binds : List (Str × Value)} {m : Str → Option Value}, (∀ v, (x, v) ∉ binds) → bindC kindOf binds m x = m x
  | [], _, _ => rfl
  | (n, v) :: r, m, h => by
    unfold bindC
    rw [bindC_out fun w hw => h w (List.mem_cons_of_mem _ hw)]
    split
    · rfl
    · have : x ≠ n := by rintro rfl; exact h v List.mem_cons_self
      simp [this]
theorem bindL_get {kindOf : Str → Option NameKind} {x : Str} {v : Value} : ∀ {P : List Str} {vs : List Value} {i : Nat} {m : Str → Option Value}, P.Nodup → P[i]? = some x → vs[i]? = some v → kindOf x = some .local →
    bindL kindOf (P.zip vs) m x = some v
  | [], _, _, _, _, h, _, _ => by simp at h
  | _ :: _, [], _, _, _, _, h, _ => by simp at h
  | p :: P, w :: vs, 0, m, nd, h1, h2, hk => by
    simp at h1 h2; subst h1; subst h2
    show bindL kindOf ((p, w) :: P.zip vs) m p = _
    unfold bindL
    rw [bindL_out fun v hv => (List.nodup_cons.mp nd).1 (List.of_mem_zip hv).1, if_pos hk]
    simp
  | p :: P, w :: vs, i + 1, m, nd, h1, h2, hk => by
    show bindL kindOf ((p, w) :: P.zip vs) m x = _
    unfold bindL
    exact bindL_get (i := i) (List.nodup_cons.mp nd).2 (by simpa using h1) (by simpa using h2) hk
theorem bindC_get {kindOf : Str → Option NameKind} {x : Str} {v : Value} : ∀ {P : List Str} {vs : List Value} {i : Nat} {m : Str → Option Value}, P.Nodup → P[i]? = some x → vs[i]? = some v → kindOf x ≠ some .local →
    bindC kindOf (P.zip vs) m x = some v
  | [], _, _, _, _, h, _, _ => by simp at h
  | _ :: _, [], _, _, _, _, h, _ => by simp at h
  | p :: P, w :: vs, 0, m, nd, h1, h2, hk => by
    simp at h1 h2; subst h1; subst h2
    show bindC kindOf ((p, w) :: P.zip vs) m p = _
    unfold bindC
    rw [bindC_out fun v hv => (List.nodup_cons.mp nd).1 (List.of_mem_zip hv).1, if_neg hk]
    simp
  | p :: P, w :: vs, i + 1, m, nd, h1, h2, hk => by
    show bindC kindOf ((p, w) :: P.zip vs) m x = _
    unfold bindC
    exact bindC_get (i := i) (List.nodup_cons.mp nd).2 (by simpa using h1) (by simpa using h2) hk

/-- the names' values at the entry -/
def start (N : List Str) (vs : List V) : St := vs.map some ++ List.replicate (N.length - vs.length) none

/-- the context of a def's body, at its entry; an exception leaves the frame, then lies as CX says -/
def cxOf (CX : CXT) (P : Program) (w : World) (K : PySem.W.Frag) (mg : Str → Option Value) (base : Heap) (N : List Str) (qual : Str) (scope : Scope) (f : Addr) (cd : Value) (A : Around) (outer : List Env) (s : Shared) (H : Hp) (E : XK) : Cx where
  prog := P
  w := w
  K := K
  mg := mg
  base := base
  A := A.deeper (envOfC qual scope s.heap.objs.size f cd)
  N := N
  s₀ := s
  H₀ := H
  env := envOfC qual scope s.heap.objs.size f cd
  outer := outer
  stack := envOfC qual scope s.heap.objs.size f cd :: outer
  ex := []
  calm := true
  fn := fun _ => true
  pn := []
  xe := fun e s' => wpAny (model P w) (A.deeper (envOfC qual scope s.heap.objs.size f cd)) (leaving (envOfC qual scope s.heap.objs.size f cd) e) (fun _ s'' => CX outer H s E e s'') (fun e' s'' => CX outer H s E e' s'') s'

theorem cell_has {sc : Scope} {n : Nat} {x : Str} (h : sc.names.lookup x = some .cell) : ∃ c, (cellsFrom n sc.names []).lookup x = some c := by
  have q := PySem.W.cellsFrom_some sc.names n [] (.inl h)
  exact Option.isSome_iff_exists.mp q

theorem inv_start {CX : CXT} {P : Program} {w : World} {K : PySem.W.Frag} {mg : Str → Option Value} {base : Heap} {N ps : List Str} {qual : Str} {scope : Scope} {f : Addr} {cd : Value} {A : Around} {outer : List Env} {s s1 : Shared} {H : Hp} {E : XK} {us : List Value} {vs : List V}
    (S : FnScope N ps scope) (hd : A.handled = none) (e0 : Env0 P w K mg base A outer s H) (hl : vs.length = ps.length) (r : Vals vs us)
    (x : InCallC s s.heap.objs.size (bindL (envOfC qual scope s.heap.objs.size f cd).kindOf (ps.zip us) fun _ => none) (cellsFrom (s.heap.objs.size + 1) scope.names []) (bindC (envOfC qual scope s.heap.objs.size f cd).kindOf (ps.zip us) fun _ => none) s1) :
    Inv (cxOf CX P w K mg base N qual scope f cd A outer s H E) [] (start N vs) H s1 := by
  have hpl : ps.length ≤ N.length := by have := congrArg List.length S.pre; rw [List.length_take] at this; omega
  obtain ⟨h1, tk, rfl, hk⟩ := x.done
  have noA : ∀ b : Addr, b ∉ (cxOf CX P w K mg base N qual scope f cd A outer s H E).ex := fun b z => absurd (show b ∈ ([] : List Addr) from z) (by simp)
  refine ⟨⟨e0.mod, S.kind, rfl, rfl, Nat.le_refl _, fun y z c h1 h2 => ?_, fun y hy => ?_, fun y c _ h => ?_, fun _ => hd, Around.frames_deeper e0.frames, .inr ⟨rfl, rfl⟩, fun b z => absurd z (noA b), e0.bs, e0.bsz, fun b _ _ => noA b, fun b z => absurd z (noA b), e0.funs, e0.frf⟩,
    rfl, e0.bare, Un.kept hk, ⟨_, x.toInCall.ns, fun i y v h1 h2 h3 => ?_⟩, fun y c h => ⟨_, x.cell y c h⟩, e0.hok.fresh (Nat.le_refl _), fun y c h => ?_, fun p hp => absurd (show p ∈ ([] : List (Addr × Obj)) from hp) (by simp), e0.hok.kept hk, ?_⟩
  · exact name_of_addr x.apart (PySem.mem_of_lookup h1) (PySem.mem_of_lookup h2)
  · have hy : scope.names.lookup y = some .cell ∨ scope.names.lookup y = some .free := hy
    rcases hy with hy | hy
    · exact cell_has hy
    · exact absurd rfl (S.nofree _ (PySem.mem_of_lookup hy))
  · exact Nat.le_of_lt (x.above y c (PySem.mem_of_lookup h))
  · have hi : i < vs.length := by
      unfold start at h2
      by_cases hi : i < vs.length
      · exact hi
      · rw [List.getElem?_append_right (by simpa using hi)] at h2
        rw [List.getElem?_replicate] at h2
        split at h2 <;> cases h2
    have ha : vs[i]? = some v := by
      unfold start at h2
      rw [List.getElem?_append_left (by simpa using hi), List.getElem?_map] at h2
      cases e : vs[i]? with
      | none => rw [e] at h2; cases h2
      | some a => rw [e] at h2; cases h2; rfl
    obtain ⟨u, hu, rv⟩ := r.get ha
    have hp : ps[i]? = some y := by
      rw [← S.pre, List.getElem?_take_of_lt (by omega)]; exact h1
    have ndP : ps.Nodup := by rw [← S.pre]; exact S.nd.sublist (List.take_sublist _ _)
    refine ⟨u, rv, ?_⟩
    rcases S.par y (List.mem_of_getElem? hp) with k | k
    · exact .inl ⟨k, bindL_get ndP hp hu k⟩
    · obtain ⟨c, e⟩ := cell_has (n := s.heap.objs.size + 1) k
      refine .inr ⟨.inl k, c, e, ?_⟩
      have q := x.cell y c e
      rw [bindC_get ndP hp hu (by show scope.names.lookup y ≠ _; rw [k]; decide)] at q
      exact q
  · exact e0.hok.fresh (Nat.le_of_lt (x.above y c (PySem.mem_of_lookup h)))
  · unfold start
    show _ = N.length
    rw [List.length_append, List.length_map, List.length_replicate]
    omega

/-- THE RULE: a def (or a method) of the text, by its body. The body's reading t is chosen for each entry; it is run at the parameters' values -/
theorem fn_of {CX : CXT} {P : Program} {w : World} {K : PySem.W.Frag} {mg : Str → Option Value} {base : Heap} {k : Nat} {f : Addr} {name qual : Str} {params : Arguments} {body : List Stmt} {scope : Scope} {dV kV doc pm cdv ct oc : Value} {an od : Option Addr}
    {osl : Array (Option Value)} {N ps : List Str} {sp : Sp} (lk : K.lookup f = some ⟨oc, od, .func (PySem.W.fnOf name qual params body scope dV kV doc pm an cdv ct), osl⟩) (hcd : PySem.W.codeIn K cdv qual = true) (S : FnScope N ps scope)
    (len : ∀ vs H Q E, sp vs H Q E → vs.length = ps.length)
    (hbody : ∀ (A : Around) (outer : List Env) (s : Shared) (H : Hp) (vs : List V) (Q : VK) (E : XK), Room k (A.deeper (envOfC qual scope s.heap.objs.size f cdv)) → sp vs H Q E →
      ∃ t, PSs (cxOf CX P w K mg base N qual scope f cdv A outer s H E) body t ∧ t { nx := fun _ H' => Q .non H', rt := Q } (start N vs) H) :
    FnOk P w K mg base CX (k + 1) f (PySem.W.fnOf name qual params body scope dV kV doc pm an cdv ct) ps sp := by
  refine ⟨len, fun A outer s H args us vs Q E hr e0 hb r hsp => ?_⟩
  have hl := len _ _ _ _ hsp
  have KX : K.In s.heap := e0.mod.kin.keeps fun b o e => (e0.bs b o e).1
  have lim : s.heap.NoLimit := e0.mod.nolimit.keeps fun b o e => (e0.bs b o e).1
  have hkind : ∀ y ∈ ps.zip us, scope.names.lookup y.1 = some .local ∨ (scope.names.lookup y.1 = some .cell ∧ ((cellsFrom (s.heap.objs.size + 1) scope.names []).lookup y.1).isSome = true) := fun ⟨n, v⟩ hy => by
    rcases S.par n (List.of_mem_zip hy).1 with q | q
    · exact .inl q
    · exact .inr ⟨q, PySem.W.cellsFrom_some _ _ _ (.inl q)⟩
  refine codeAny_call_function hr.depth (KX _ _ lk) rfl S.co S.gen rfl (PySem.W.codeRec_of KX hcd) (hb _ _ _ _ ?_)
  refine wpAny_newFunctionEnv_cells S.kind hkind fun env he s1 x => ?_
  subst he
  refine ⟨lim.keeps x.toInCall.keep, codeAny_func ?_⟩
  obtain ⟨t, ht, hq⟩ := hbody A outer s H vs Q E (hr.deeper _) hsp
  have I : Inv (cxOf CX P w K mg base N qual scope f cdv A outer s H E) [] (start N vs) H s1 := inv_start S hr.hd e0 hl r x
  refine wpAny_mono (ht [] s1 (start N vs) H _ I hq) (fun fl s' hs => ?_) fun e s' hs => hs
  have fin : ∀ {σ' : St} {H' : Hp} {v : V} {u : Value}, Inv (cxOf CX P w K mg base N qual scope f cdv A outer s H E) [] σ' H' s' → RelV v u → Q v H' → CE outer P w H s Q u s' :=
    fun {σ' H' v u} J rv q => ⟨v, H', J.os, J.bare, J.base, J.hok, rv, q⟩
  cases fl with
  | ret u =>
    obtain ⟨v, σ', H', J, rv, q⟩ := hs
    exact fin J rv q
  | next =>
    obtain ⟨σ', H', J, q⟩ := hs
    exact fin (v := V.non) (u := Value.none) J rfl q
  | brk =>
    obtain ⟨_, _, _, q⟩ := hs
    exact False.elim q
  | cont =>
    obtain ⟨_, _, _, q⟩ := hs
    exact False.elim q
end L2

namespace L2
open PySem PySem.Spec PyProof.Rows
section
variable {X : Cx} {x : Str} {p pos : Pos} {e : Expr} {es : List Expr} {t : TA} {id T : String} {r : List V → Hp → VK → Prop}

def tCB (r : List V → Hp → VK → Prop) (t : TA) : TE := fun σ H Q => t σ H fun vs H1 => r vs H1 Q
/-- f(e, ..), f a built-in function -/
theorem pe_callB (hc : CallR X (.builtin id) r) (hg : Gl X x) (hm : X.mg x = none) (hv : bootBuiltins x = some (.builtin id)) (ha : PA X (e :: es) t) (hn : x ≠ "__name__" := by decide) (hdb : (x == ("__debug__" : Str)) = false := by decide)
    (he : starEach (e :: es) X.env = (false, eval e X.env) :: starEach es X.env := by rfl) (hpl : (backTo pos (starEach es X.env)).any (·.1) = false := by rfl) : PE X (.Call (.Name x p) (e :: es) [] pos) (tCB r t) := by
  intro pins s σ H Q I h
  refine wpAny_Call_Name_kw (ld_blt I hg hm hv ?_ hn hdb)
  exact PyProof.Rows.callWith_builtin1 (thn (ha pos pins s σ H _ I h) fun us s1 ⟨vs, H1, I1, r1, q1⟩ => hc pins s1 σ H1 vs us Q I1 r1 q1) he hpl
/-- T(e, ..), T a built-in type -/
theorem pe_callTy (hc : CallR X (.type T) r) (hg : Gl X x) (hm : X.mg x = none) (hv : bootBuiltins x = some (.type T)) (ha : PA X (e :: es) t) (hn : x ≠ "__name__" := by decide) (hdb : (x == ("__debug__" : Str)) = false := by decide)
    (he : starEach (e :: es) X.env = (false, eval e X.env) :: starEach es X.env := by rfl) (hpl : (backTo pos (starEach es X.env)).any (·.1) = false := by rfl) : PE X (.Call (.Name x p) (e :: es) [] pos) (tCB r t) := by
  intro pins s σ H Q I h
  refine wpAny_Call_Name_kw (ld_blt I hg hm hv ?_ hn hdb)
  exact PyProof.Rows.callWith_type1 (thn (ha pos pins s σ H _ I h) fun us s1 ⟨vs, H1, I1, r1, q1⟩ => hc pins s1 σ H1 vs us Q I1 r1 q1) he hpl
/-- T() -/
theorem pe_callTy0 (hc : CallR X (.type T) r) (hg : Gl X x) (hm : X.mg x = none) (hv : bootBuiltins x = some (.type T)) (hn : x ≠ "__name__" := by decide) (hdb : (x == ("__debug__" : Str)) = false := by decide) :
    PE X (.Call (.Name x p) [] [] pos) (tCB r tNil) := by
  intro pins s σ H Q I h
  refine wpAny_Call_Name_kw (ld_blt I hg hm hv ?_ hn hdb)
  exact PyProof.Rows.callWith_type0 (hc pins s σ H [] [] Q I .nil h)
end
end L2

namespace HT
open PySem PyProof.Rows

/-- t < u of tuples of ints -/
def lexLt : List Int → List Int → Bool
  | [], [] => false
  | [], _ :: _ => true
  | _ :: _, [] => false
  | x :: xs, y :: ys => if x = y then lexLt xs ys else decide (x < y)
theorem lexLt_cons (x y : Int) (xs ys : List Int) : lexLt (x :: xs) (y :: ys) = if x = y then lexLt xs ys else decide (x < y) := rfl
theorem lexLt_nil_nil : lexLt [] [] = false := rfl
theorem lexLt_nil_cons (y : Int) (ys : List Int) : lexLt [] (y :: ys) = true := rfl
theorem lexLt_cons_nil (x : Int) (xs : List Int) : lexLt (x :: xs) [] = false := rfl

theorem eqAt_int (A : Around) (s : Shared) (a : Int) (t : Tok) (c : Int) (u : Tok) : ∃ e, SeqAt.EqAt A s (.int a t) (.int c u) e ∧ (e = true ↔ a = c) :=
  ⟨(a == c), SeqAt.EqAt.int_int a t c u, by simp⟩
theorem rcLt_int (A : Around) (s : Shared) (a : Int) (t : Tok) (c : Int) (u : Tok) (prog : Program) (w : World) (E : Value → Shared → Prop) (Q : Value → Shared → Prop) (h : Q (.bool (decide (a < c))) s) :
    wpAny (model prog w) A (richCompare .Lt (.int a t) (.int c u)) Q E s :=
  (PyProof.Rows.lt_int h : wpAny (model prog w) A (compareOp .Lt (.int a t) (.int c u)) Q E s)

section
open PySem.SeqAt
open PySem.AutoSeq1 (wpAny_loadPart')
open PySem.MeetsSeq PySem.MeetsSeq2 PySem.MeetsSeq3

theorem tuple_lt_ints (l b : Addr) (items items2 : Array Value) (n n2 : Nat) (dd dd2 : Option Addr) (sl sl2 : Array (Option Value)) (ns ms : List Int) (hi : IntsAre items.toList ns) (hj : IntsAre items2.toList ms) :
    Meets (Builtin.«tuple.__lt__» ⟨[.ref l, .ref b], []⟩)
      (fun _ R s => s.heap.get? l = some { cls := .type "tuple", dict := dd, data := .seq items n, slots := sl } ∧ s.heap.get? b = some { cls := .type "tuple", dict := dd2, data := .seq items2 n2, slots := sl2 } ∧
        R (.ok (.ret (.bool (lexLt ns ms)))) s) :=
  .of_wp fun prog w A R s h => by
    obtain ⟨hp, g, d, tk, os⟩ := s; obtain ⟨hl, hb, h⟩ := h
    have f2 := AutoSeq1.sub_tuple_tuple
    have z1 : items.size = ns.length := by rw [← hi.length]; simp
    have z2 : items2.size = ms.length := by rw [← hj.length]; simp
    wp_walk using wpAny_loadPart' hl, wpAny_loadPart' hb, wpAny_forIn_list _ (fun rest b s' => b.1 = none ∧ s' = ⟨hp, g, d, tk, os⟩ ∧ ∃ (vs ws : List Value) (ns' ms' : List Int), rest = vs.zip ws ∧
      IntsAre vs ns' ∧ IntsAre ws ms' ∧ ns'.length + items2.size = ms'.length + items.size ∧ R (.ok (.ret (.bool (lexLt ns' ms')))) ⟨hp, g, d, tk, os⟩) _
    case turn =>
      rintro ⟨y, x⟩ rest b s' ⟨hb', rfl, vs, ws, ns', ms', hz, hvi, hwi, hlen, hR⟩
      cases hvi with
      | nil => rw [List.zip_nil_left] at hz; cases hz
      | cons a t hvi' =>
        cases hwi with
        | nil => rw [List.zip_nil_right] at hz; cases hz
        | cons c u hwi' =>
          rw [List.zip_cons_cons] at hz
          injection hz with hyx hrest
          injection hyx with hy hx
          subst hy hx
          rw [lexLt_cons] at hR
          simp only [List.length_cons] at hlen
          obtain ⟨e, he, hiff⟩ := eqAt_int A.in1 ⟨hp, g, d, tk, os⟩ a t c u
          refine wpAny_bind (he prog w _ _ ?_)
          cases e with
          | true =>
            rw [if_pos (hiff.mp rfl)] at hR
            wp_walk
            exact ⟨rfl, rfl, _, _, _, _, hrest, hvi', hwi', by omega, hR⟩
          | false =>
            rw [if_neg (fun q => absurd (hiff.mpr q) Bool.false_ne_true)] at hR
            have hri := rcLt_int A.in1 ⟨hp, g, d, tk, os⟩ a t c u prog w
            wp_walk using hri
            exact ⟨_, rfl, by simpa using hR⟩
    case fin =>
      rintro ⟨b1, b2⟩ s' ⟨hb', rfl, vs, ws, ns', ms', hz, hvi, hwi, hlen, hR⟩
      simp only at hb'
      subst hb'
      have hv : lexLt ns' ms' = decide (items.size < items2.size) := by
        cases hvi with
        | nil =>
          cases hwi with
          | nil =>
            simp only [List.length_nil] at hlen
            rw [lexLt_nil_nil]
            exact (decide_eq_false (by omega)).symm
          | cons c u hw =>
            simp only [List.length_nil, List.length_cons] at hlen
            rw [lexLt_nil_cons]
            exact (decide_eq_true (by omega)).symm
        | cons a t hv =>
          cases hwi with
          | nil =>
            simp only [List.length_nil, List.length_cons] at hlen
            rw [lexLt_cons_nil]
            exact (decide_eq_false (by omega)).symm
          | cons c u hw =>
            rw [List.zip_cons_cons] at hz
            cases hz
      rw [hv] at hR
      wp_walk
      exact ⟨_, rfl, by simpa [Builtin.Tuple.tupleCompareSizes] using hR⟩
    case h =>
      exact ⟨rfl, rfl, items.toList, items2.toList, ns, ms, rfl, hi, hj, by omega, h⟩
end

section
variable {prog : Program} {w : World} {A : Around} {E : Value → Shared → Prop} {s : Shared}

theorem lt_tupInts {l b : Addr} {items items2 : Array Value} {ns ms : List Int} {Q : Value → Shared → Prop} (hl : IsTup s.heap l items) (hb : IsTup s.heap b items2) (hi : IntsAre items.toList ns) (hj : IntsAre items2.toList ms)
    (hu : A.units < cLine) (h : Q (.bool (lexLt ns ms)) s) : wpAny (model prog w) A (compareOp .Lt (.ref l) (.ref b)) Q E s := by
  obtain ⟨⟨cls, dd, data, sl⟩, ho, hc, n, hd⟩ := id hl
  obtain ⟨⟨cls2, dd2, data2, sl2⟩, ho2, hc2, n2, hd2⟩ := id hb
  simp only at hc hd hc2 hd2
  subst hc hd hc2 hd2
  exact richCompare_meets_room (op := .Lt) ⟨_, ho, rfl⟩ ⟨_, ho2, rfl⟩ PySem.F.slot_tuple_lt PySem.F.entry_tuple_lt (PySem.F.args_tuple_lt_2 _ _) (tuple_lt_ints l b items items2 n n2 dd dd2 sl sl2 ns ms hi hj)
    ⟨ho, ho2, show Value.bool (lexLt ns ms) ≠ Value.notImplemented ∧ Q (.bool (lexLt ns ms)) s from ⟨(fun x => nomatch x), h⟩⟩ hu

/-- t + u, t not empty -/
theorem cat_tup {t b : Addr} {vs ws : List Value} {Q : Value → Shared → Prop} (ht : IsTup s.heap t vs.toArray) (hb : IsTup s.heap b ws.toArray) (hv : vs ≠ [])
    (h1 : ws = [] → Q (.ref t) s) (h2 : ws ≠ [] → Q (.ref s.heap.objs.size) { s with heap := s.heap.push { cls := .type "tuple", data := .seq (vs ++ ws).toArray } })
    (hsz : vs.length + ws.length ≤ sizeLine) : wpAny (model prog w) A (binaryOp .Add (.ref t) (.ref b)) Q E s := by
  obtain ⟨⟨cls, dd, data, sl⟩, ho, hc, n, hd⟩ := id ht
  obtain ⟨⟨cls2, dd2, data2, sl2⟩, ho2, hc2, n2, hd2⟩ := id hb
  simp only at hc hd hc2 hd2
  subst hc hd hc2 hd2
  have e : vs.toArray ++ ws.toArray = (vs ++ ws).toArray := by simp
  by_cases hw : ws = []
  · exact concat_meets ⟨_, ho, rfl⟩ ⟨_, ho2, rfl⟩ noFill_tuple_add seq_tuple_add PySem.F.slot_tuple_add PySem.F.entry_tuple_add (PySem.F.args_tuple_add_2 _ _)
      (tuple_addW1 t b vs.toArray ws.toArray n n2 dd dd2 sl sl2 (by simpa using hv) (by simp [hw])) ⟨ho, ho2, h1 hw⟩
  · refine concat_meets ⟨_, ho, rfl⟩ ⟨_, ho2, rfl⟩ noFill_tuple_add seq_tuple_add PySem.F.slot_tuple_add PySem.F.entry_tuple_add (PySem.F.args_tuple_add_2 _ _)
      (tuple_addW2 t b vs.toArray ws.toArray n n2 dd dd2 sl sl2 (by simpa using hv) (by simpa using hw) (by rw [List.size_toArray, List.size_toArray]; exact hsz)) ⟨ho, ho2, ?_⟩
    rw [e]
    exact h2 hw

/-! ### t[a:b], not the whole -/
/-- a slice's bound as a place among n (d where it is left out) -/
def sIx (n d : Nat) : Option Int → Nat
  | none => d
  | some v => if v < 0 then (v + (n : Int)).toNat else min v.toNat n
theorem sIx_none (n d : Nat) : sIx n d none = d := rfl
theorem sIx_nat (n d k : Nat) : sIx n d (some (k : Int)) = min k n := by
  show (if (k : Int) < 0 then ((k : Int) + (n : Int)).toNat else min (k : Int).toNat n) = min k n
  rw [if_neg (by omega), Int.toNat_natCast]
theorem sIx_le (n d : Nat) (hd : d ≤ n) (o : Option Int) : sIx n d o ≤ n := by
  cases o with
  | none => exact hd
  | some v =>
    show (if v < 0 then (v + (n : Int)).toNat else min v.toNat n) ≤ n
    by_cases hv : v < 0
    · rw [if_pos hv]; omega
    · rw [if_neg hv]; exact Nat.min_le_right _ _
theorem clip_eq (v : Int) (n d : Nat) : (if v < 0 then max (v + (n : Int)) 0 else min v (n : Int)) = ((sIx n d (some v) : Nat) : Int) := by
  show (if v < 0 then max (v + (n : Int)) 0 else min v (n : Int)) = (((if v < 0 then (v + (n : Int)).toNat else min v.toNat n) : Nat) : Int)
  by_cases hv : v < 0
  · simp only [if_pos hv]; omega
  · simp only [if_neg hv]; omega
theorem adjust_gen (lo hi : Option Int) (n : Nat) : Builtin.Slice.sliceAdjust lo hi 1 (n : Int) = (((sIx n 0 lo : Nat) : Int), ((sIx n n hi : Nat) : Int)) := by
  have h1 : ¬ ((1 : Int) < 0) := by omega
  unfold Builtin.Slice.sliceAdjust
  simp only [h1, if_false]
  refine Prod.ext ?_ ?_
  · cases lo with
    | none => rfl
    | some v => exact clip_eq v n 0
  · cases hi with
    | none => rfl
    | some v => exact clip_eq v n n
theorem places_gen (i j : Nat) : Builtin.Slice.slicePlaces (i : Int) (j : Int) 1 = j - i := by
  unfold Builtin.Slice.slicePlaces
  have h1 : (1 : Int) > 0 := by omega
  simp only [h1, if_true, Int.ediv_one]
  split <;> omega
theorem slicePart_ {v : Value} {o : Option Int} {Q : Option Int → Shared → Prop} (p : IsPart v o) (h : Q o s) : wpAny (model prog w) A (Builtin.Slice.slicePartIndex v) Q E s := by
  cases p with
  | none => exact slicePart_none h
  | int i t => exact slicePart_int h
theorem sliceApplied_gen {sl : Addr} {vl vu : Value} {lo hi : Option Int} {n : Nat} {Q : Int × Int × Nat → Shared → Prop} (hs : s.heap.IsSliceOf sl vl vu .none) (pl : IsPart vl lo) (pu : IsPart vu hi)
    (h : Q (((sIx n 0 lo : Nat) : Int), 1, sIx n n hi - sIx n 0 lo) s) : wpAny (model prog w) A (Builtin.Slice.sliceApplied (.ref sl) (pure (n : Int))) Q E s := by
  obtain ⟨os, hos, hcs, hds⟩ := id hs
  unfold Builtin.Slice.sliceApplied Builtin.Slice.sliceFields
  refine wpAny_bind (wpAny_bind (wpAny_field hos hds (x := vl) rfl (wpAny_bind (wpAny_field hos hds (x := vu) rfl (wpAny_bind (wpAny_field hos hds (x := .none) rfl (wpAny_pure ?_)))))))
  refine wpAny_bind (slicePart_none ?_)
  show wpAny _ _ (if ((1 : Int) == 0) = true then _ else _) _ _ s
  rw [if_neg (by decide)]
  refine wpAny_bind (slicePart_ pl (wpAny_bind (slicePart_ pu (wpAny_bind (wpAny_pure ?_)))))
  show wpAny _ _ (match Builtin.Slice.sliceAdjust lo hi 1 (n : Int) with | (lo, hi) => pure (lo, (1 : Int), Builtin.Slice.slicePlaces lo hi 1)) _ _ s
  rw [adjust_gen lo hi n]
  show wpAny _ _ (pure (((sIx n 0 lo : Nat) : Int), (1 : Int), Builtin.Slice.slicePlaces ((sIx n 0 lo : Nat) : Int) ((sIx n n hi : Nat) : Int) 1)) _ _ s
  rw [places_gen]
  exact wpAny_pure h
theorem pick_gen (xs : Array Value) (i k : Nat) : ((List.range k).filterMap fun (m : Nat) => xs[((i : Int) + (m : Int) * 1).toNat]?).toArray = ((xs.toList.drop i).take k).toArray := by
  have e : (fun (m : Nat) => xs[((i : Int) + (m : Int) * 1).toNat]?) = fun m => xs[i + m]? := by
    funext m
    have : ((i : Int) + (m : Int) * 1).toNat = i + m := by omega
    rw [this]
  rw [e]
  have := pick_run xs i k
  rw [List.filterMap_map] at this
  have e2 : ((fun x => xs[x]?) ∘ fun x => i + x) = fun m => xs[i + m]? := rfl
  rw [e2] at this
  rw [this]

theorem getItem_tuple_cut {t sl : Addr} {items : Array Value} {vl vu : Value} {lo hi : Option Int} {Q : Value → Shared → Prop} (ht : IsTup s.heap t items) (hs : s.heap.IsSliceOf sl vl vu .none) (pl : IsPart vl lo) (pu : IsPart vu hi)
    (hw : ¬ (sIx items.size 0 lo = 0 ∧ sIx items.size items.size hi = items.size))
    (h : Q (.ref s.heap.objs.size) { s with heap := s.heap.push { cls := .type "tuple", data := .seq ((items.toList.drop (sIx items.size 0 lo)).take (sIx items.size items.size hi - sIx items.size 0 lo)).toArray } })
    (hsz : items.size ≤ sizeLine) : wpAny (model prog w) A (getItem (.ref t) (.ref sl)) Q E s := by
  have htake : sizeOk (.seq ((items.toList.drop (sIx items.size 0 lo)).take (sIx items.size items.size hi - sIx items.size 0 lo)).toArray) := by
    show ((items.toList.drop (sIx items.size 0 lo)).take (sIx items.size items.size hi - sIx items.size 0 lo)).toArray.size ≤ sizeLine
    rw [List.size_toArray, List.length_take, List.length_drop, Array.length_toList]
    omega
  have hj : sIx items.size items.size hi ≤ items.size := sIx_le _ _ (Nat.le_refl _) hi
  obtain ⟨os, hos, hcs, hds⟩ := id hs
  have hTs : s.TypeIs (.ref sl) "slice" := ⟨os, hos, hcs⟩
  unfold getItem
  try with_reducible refine wpAny_holding ?_
  first | refine wpAny_bind (wpAny_pure ?_) | skip
  refine wpAny_bind (wpAny_sequenceKey ht.typeIs (by decide) ?_)
  refine wpAny_bind (wpAny_callSpecial?_slot (name := Str.ofString "__getitem__") ht.typeIs PyProof.Rows.slot_tuple_getitem
    (wpAny_call_entry PyProof.Rows.slot_tuple_getitem ht.typeIs entry_tuple_getitem ?_ (args_tuple_getitem _ _)))
  show wpAny _ _ (Builtin.Tuple.tupleItemsOf (.ref t) >>= _) _ _ s
  refine wpAny_bind (tupleItemsOf_ ht ?_)
  refine wpAny_bind (wpAny_typeOf hTs ?_)
  rw [if_pos (by decide)]
  refine wpAny_bind (sliceApplied_gen hs pl pu ?_)
  have hno : ¬ ((((sIx items.size 0 lo : Nat) : Int) == 0 && (1 : Int) == 1 && (sIx items.size items.size hi - sIx items.size 0 lo) == items.size) = true) := by
    intro q
    rw [Bool.and_eq_true, Bool.and_eq_true] at q
    have q1 : ((sIx items.size 0 lo : Nat) : Int) = 0 := eq_of_beq q.1.1
    have q2 : sIx items.size items.size hi - sIx items.size 0 lo = items.size := eq_of_beq q.2
    exact hw ⟨by omega, by omega⟩
  show wpAny _ _ (if (((sIx items.size 0 lo : Nat) : Int) == 0 && (1 : Int) == 1 && (sIx items.size items.size hi - sIx items.size 0 lo) == items.size) = true then _ else _) _ _ s
  rw [if_neg hno, pick_gen]
  first
    | exact wpAny_bind (m := Builtin.Tuple.tupleExact _) (wpAny_newObj_type (wpAny_pure ⟨_, rfl, wpAny_pure h⟩) htake)
    | exact wpAny_bind (m := Builtin.Tuple.tupleExact _) (wpAny_newObj_type (wpAny_bind (wpAny_pure (wpAny_pure ⟨_, rfl, wpAny_pure h⟩))) htake)
    | exact wpAny_bind (wpAny_bind (m := Builtin.Tuple.tupleExact _) (wpAny_newObj_type (wpAny_pure (wpAny_pure ⟨_, rfl, wpAny_pure h⟩)) htake))
    | exact wpAny_bind (wpAny_bind (m := Builtin.Tuple.tupleExact _) (wpAny_newObj_type (wpAny_pure ⟨_, rfl, wpAny_pure h⟩) htake))
end
end HT

namespace L2
open PySem PySem.Spec PyProof.Rows

/-! ### the parts of a slice -/
abbrev TO := St → Hp → (Option Int → Hp → Prop) → Prop
/-- a slice's part (left out, or an int) -/
def PO (X : Cx) (e : Option Expr) (t : TO) : Prop :=
  ∀ (pins : List (Addr × Obj)) (s : Shared) (σ : St) (H : Hp) (Q : Option Int → Hp → Prop), Inv X pins σ H s → t σ H Q →
    wpAny (model X.prog X.w) X.A (evalPart e X.env) (fun u s' => ∃ o H', Inv X pins σ H' s' ∧ IsPart u o ∧ Q o H') X.xe s
def tNoPart : TO := fun _ H Q => Q none H
def tPart (t : TE) : TO := fun σ H Q => t σ H fun x H1 => ∃ i, x = .int i ∧ Q (some i) H1

theorem intsAre_of {ns : List Int} : ∀ {us : List Value}, Vals (ns.map V.int) us → IntsAre us ns := by
  induction ns with
  | nil => intro us r; rw [List.map_nil] at r; cases r; exact .nil
  | cons n ns ih =>
    intro us r
    rw [List.map_cons] at r
    cases r with
    | cons r1 r2 =>
      obtain ⟨t, e⟩ := r1
      subst e
      exact .cons n t (ih r2)

section
variable {X : Cx} {e : Expr} {te : TE} {lo hi : Option Expr} {tl th : TO} {pos p2 : Pos}

theorem po_none : PO X none tNoPart := by
  intro pins s σ H Q I h
  rw [evalPart_none]
  exact wpAny_pure ⟨none, H, I, .none, h⟩
theorem po_some (h : PE X e te) : PO X (some e) (tPart te) := by
  intro pins s σ H Q I hw
  rw [evalPart_some]
  refine thn (h pins s σ H _ I hw) fun u s1 ⟨x, H1, I1, r1, q1⟩ => ?_
  obtain ⟨i, rfl, q⟩ := q1
  obtain ⟨t, rfl⟩ := r1
  exact ⟨some i, H1, I1, .int i t, q⟩

/-- what a slice of a value is, by values: the slice object stands at sl -/
def SlR (X : Cx) (r : V → Option Int → Option Int → Hp → VK → Prop) : Prop :=
  ∀ (pins : List (Addr × Obj)) (s : Shared) (σ : St) (H : Hp) (x : V) (v vl vu : Value) (lo hi : Option Int) (sl : Addr) (Q : VK), Inv X pins σ H s → RelV x v → s.heap.IsSliceOf sl vl vu .none → IsPart vl lo → IsPart vu hi → r x lo hi H Q →
    ∃ T id, typeLookup (.type T) "__getitem__" = pure (some (.builtin id)) ∧ s.TypeIs v T ∧ wpAny (model X.prog X.w) X.A (getItem v (.ref sl)) (EP X pins σ Q) X.xe s
theorem SlR.or {r r' : V → Option Int → Option Int → Hp → VK → Prop} (h : SlR X r) (h' : SlR X r') : SlR X (fun x lo hi H Q => r x lo hi H Q ∨ r' x lo hi H Q) := by
  intro pins s σ H x v vl vu lo hi sl Q I rx hs pl pu q
  rcases q with q | q
  · exact h pins s σ H x v vl vu lo hi sl Q I rx hs pl pu q
  · exact h' pins s σ H x v vl vu lo hi sl Q I rx hs pl pu q
def tSl (r : V → Option Int → Option Int → Hp → VK → Prop) (te : TE) (tl th : TO) : TE := fun σ H Q => te σ H fun x H1 => tl σ H1 fun l H2 => th σ H2 fun u H3 => r x l u H3 Q
/-- a[lo:hi], any a -/
theorem pe_slice {r : V → Option Int → Option Int → Hp → VK → Prop} (hr : SlR X r) (he : PE X e te) (hl : PO X lo tl) (hu : PO X hi th) : PE X (.Subscript e (.Slice lo hi none p2) pos) (tSl r te tl th) := by
  intro pins s σ H Q I h
  refine Subscript_ (thn (he pins s σ H _ I h) fun v s1 ⟨x, H1, I1, r1, q1⟩ => ?_)
  refine wpAny_Slice (thn (hl pins s1 σ H1 _ I1 q1) fun vl s2 ⟨l, H2, I2, pl, q2⟩ => thn (hu pins s2 σ H2 _ I2 q2) fun vu s3 ⟨u, H3, I3, pu, q3⟩ => ?_)
  rw [evalPart_none]
  refine wpAny_pure ?_
  have I4 : Inv X pins σ H3 { s3 with heap := s3.heap.push { cls := .type "slice", data := .fields #[vl, vu, .none] } } := I3.kept (t' := s3.toks) fun b ob q => Heap.get?_push_of_some _ q
  obtain ⟨T, id, hT, ht, hg⟩ := hr pins { s3 with heap := s3.heap.push { cls := .type "slice", data := .fields #[vl, vu, .none] } } σ H3 x v vl vu l u s3.heap.objs.size Q I4 r1 (Heap.IsSliceOf.new ..) pl pu q3
  show wpAny (model X.prog X.w) X.A (subscriptTail e (.Slice lo hi none p2) v (.ref s3.heap.objs.size)) (EP X pins σ Q) X.xe { s3 with heap := s3.heap.push { cls := .type "slice", data := .fields #[vl, vu, .none] } }
  exact tail_any (ops := [.ref s3.heap.objs.size, v]) ht hT hg (by with_unfolding_all rfl)

/-- the items of xs[lo:hi] -/
def cutV (xs : List V) (lo hi : Option Int) : List V := (xs.drop (HT.sIx xs.length 0 lo)).take (HT.sIx xs.length xs.length hi - HT.sIx xs.length 0 lo)
theorem cutV_length (xs : List V) (lo hi : Option Int) : (cutV xs lo hi).length ≤ xs.length := by
  unfold cutV
  rw [List.length_take, List.length_drop]
  omega
/-- t[lo:hi], not the whole of it (the whole would be t itself) -/
def rSlT (K : PySem.W.Frag) : V → Option Int → Option Int → Hp → VK → Prop := fun x lo hi H Q => ∃ a xs, x = .ref a ∧ SqT K H a xs ∧
  ¬ (HT.sIx xs.length 0 lo = 0 ∧ HT.sIx xs.length xs.length hi = xs.length) ∧ ∀ p, H p = none → Q (.ref p) (upd H p (.tup (cutV xs lo hi)))
theorem sl_tup : SlR X (rSlT X.K) := by
  intro pins s σ H x v vl vu lo hi sl Q I rx hs pl pu h
  obtain ⟨a, xs, rfl, hx, hw, q⟩ := h
  cases rx
  obtain ⟨its, r, ht, hz⟩ := I.tuple hx
  have hlen : its.toArray.size = xs.length := by rw [List.size_toArray]; exact r.length.symm
  refine ⟨"tuple", _, PyProof.Rows.slot_tuple_getitem.lookup, ht.typeIs, ?_⟩
  refine HT.getItem_tuple_cut ht hs pl pu (by rw [hlen]; exact hw) ?_ (by rw [hlen]; exact hz)
  rw [hlen]
  refine ⟨.ref s.heap.objs.size, _, I.laid (t' := s.toks) (o := .tup (cutV xs lo hi)) (fun b ob q => Heap.get?_push_of_some _ q) (Nat.le_refl _) ?_, rfl, q _ (I.hok.fresh (Nat.le_refl _))⟩
  exact ⟨Nat.le_trans (cutV_length xs lo hi) hz, _, (r.drop (HT.sIx xs.length 0 lo)).take (HT.sIx xs.length xs.length hi - HT.sIx xs.length 0 lo), IsTup.new _ _⟩

/-! ### t < u, t + u -/
def rLtT (K : PySem.W.Frag) : R2 := fun x y H Q => ∃ a b ns ms, x = .ref a ∧ y = .ref b ∧ SqT K H a (ns.map V.int) ∧ SqT K H b (ms.map V.int) ∧ Q (.bl (HT.lexLt ns ms)) H
theorem op_ltT (hu : X.A.units < cLine) : OpR X (compareOp .Lt) (rLtT X.K) := by
  intro pins s σ H x y v u Q I rx ry h
  obtain ⟨a, b, ns, ms, rfl, rfl, ha, hb, q⟩ := h
  cases rx
  cases ry
  obtain ⟨its, r1, p1, _⟩ := I.tuple ha
  obtain ⟨its2, r2, p2, _⟩ := I.tuple hb
  have i1 : IntsAre its.toArray.toList ns := intsAre_of r1
  have i2 : IntsAre its2.toArray.toList ms := intsAre_of r2
  exact HT.lt_tupInts p1 p2 i1 i2 hu ⟨.bl (HT.lexLt ns ms), H, I, rfl, q⟩
/-- t + u, t not empty: u empty gives t itself -/
def rCatT (K : PySem.W.Frag) : R2 := fun x y H Q => ∃ a b xs ys, x = .ref a ∧ y = .ref b ∧ SqT K H a xs ∧ SqT K H b ys ∧ xs ≠ [] ∧ xs.length + ys.length ≤ sizeLine ∧
  (ys = [] → Q (.ref a) H) ∧ (ys ≠ [] → ∀ p, H p = none → Q (.ref p) (upd H p (.tup (xs ++ ys))))
theorem Vals.nil_iff {xs : List V} {us : List Value} (r : Vals xs us) : us = [] ↔ xs = [] := by
  cases r with
  | nil => simp
  | cons _ _ => simp
theorem op_catT : OpR X (binaryOp .Add) (rCatT X.K) := by
  intro pins s σ H x y v u Q I rx ry h
  obtain ⟨a, b, xs, ys, rfl, rfl, ha, hb, hx, hz, q1, q2⟩ := h
  cases rx
  cases ry
  obtain ⟨its, r1, p1, _⟩ := I.tuple ha
  obtain ⟨its2, r2, p2, _⟩ := I.tuple hb
  refine HT.cat_tup p1 p2 (fun z => hx (r1.nil_iff.mp z)) (fun z => ⟨.ref a, H, I, rfl, q1 (r2.nil_iff.mp z)⟩) (fun z => ?_) (by rw [← r1.length, ← r2.length]; exact hz)
  refine ⟨.ref s.heap.objs.size, _, I.laid (t' := s.toks) (o := .tup (xs ++ ys)) (fun b ob q => Heap.get?_push_of_some _ q) (Nat.le_refl _) ?_, rfl, q2 (fun w => z (r2.nil_iff.mpr w)) _ (I.hok.fresh (Nat.le_refl _))⟩
  exact ⟨by rw [List.length_append]; exact hz, _, r1.append r2, IsTup.new _ _⟩
/-- tuple(t) -/
theorem call_tupleT : CallR X (.type "tuple") (fun xs H Q => ∃ a ys, xs = [.ref a] ∧ SqT X.K H a ys ∧ Q (.ref a) H) := by
  intro pins s σ H xs us Q I r h
  obtain ⟨a, ys, rfl, ha, q⟩ := h
  obtain ⟨u, rfl, ru⟩ := vals1 r
  cases ru
  obtain ⟨its, _, p1, _⟩ := I.tuple ha
  exact call_tuple_same (items := its.toArray) p1 ⟨.ref a, H, I, rfl, q⟩
end
end L2

namespace L2
open PySem PySem.Spec PyProof.Rows

/-! ### places -/
/-- the place that an index of any sign means -/
def ixN (n : Nat) (i : Int) : Option Nat := if 0 ≤ i then (if i < n then some i.toNat else none) else if -(n : Int) ≤ i then some (i + n).toNat else none
def atI {α : Type} (xs : List α) (i : Int) : Option α := (ixN xs.length i).bind fun j => xs[j]?
theorem ixN_seq {n : Nat} {i : Int} {j : Nat} (h : ixN n i = some j) : seqIndex? i n = some j ∧ j < n ∧ -(n : Int) ≤ i ∧ i < n := by
  unfold ixN at h
  by_cases h0 : 0 ≤ i
  · rw [if_pos h0] at h
    by_cases h1 : i < n
    · rw [if_pos h1] at h
      have e : i.toNat = j := Option.some.inj h
      exact ⟨by rw [seqIndex_of h0 h1, e], by omega, by omega, h1⟩
    · rw [if_neg h1] at h; cases h
  · rw [if_neg h0] at h
    by_cases h1 : -(n : Int) ≤ i
    · rw [if_pos h1] at h
      have e : (i + n).toNat = j := Option.some.inj h
      exact ⟨by rw [seqIndex_neg (by omega) h1, e], by omega, h1, by omega⟩
    · rw [if_neg h1] at h; cases h
theorem atI_get {α : Type} {xs : List α} {i : Int} {v : α} (h : atI xs i = some v) : ∃ j, seqIndex? i xs.length = some j ∧ xs[j]? = some v ∧ j < xs.length ∧ -(xs.length : Int) ≤ i ∧ i < xs.length := by
  unfold atI at h
  cases e : ixN xs.length i with
  | none => rw [e] at h; cases h
  | some j =>
    rw [e] at h
    obtain ⟨h1, h2, h3, h4⟩ := ixN_seq e
    exact ⟨j, h1, h, h2, h3, h4⟩
theorem atI_nat {α : Type} {xs : List α} {j : Nat} {v : α} (h : xs[j]? = some v) : atI xs (j : Int) = some v := by
  have hj : j < xs.length := (List.getElem?_eq_some_iff.mp h).1
  have e : ixN xs.length (j : Int) = some j := by
    unfold ixN
    rw [if_pos (by omega), if_pos (by omega)]; simp
  unfold atI; rw [e]; exact h
theorem atI_last {α : Type} (xs : List α) (v : α) : atI (xs ++ [v]) (-1) = some v := by
  have hl : (xs ++ [v]).length = xs.length + 1 := by simp
  have e : ixN (xs ++ [v]).length (-1) = some xs.length := by
    unfold ixN
    rw [hl, if_neg (by decide), if_pos (by omega)]
    congr 1
    omega
  unfold atI
  rw [e]
  show (xs ++ [v])[xs.length]? = some v
  simp

/-! ### what may be subscripted -/
/-- what stands as an index of a plain subscript -/
def PlainIx (b : Expr) : Prop := ∀ o i, subscripted b false o i = operate [o, i] (getItem o i)
/-- a subscript by values -/
def IxR (X : Cx) (r : R2) : Prop :=
  ∀ (value slice : Expr) (pins : List (Addr × Obj)) (s : Shared) (σ : St) (H : Hp) (x y : V) (v u : Value) (Q : VK), Inv X pins σ H s → RelV x v → RelV y u → r x y H Q →
    subscripted slice false v u = operate [v, u] (getItem v u) → wpAny (model X.prog X.w) X.A (subscriptTail value slice v u) (EP X pins σ Q) X.xe s
/-- a call of a builtin's method by values: the receiver, the arguments -/
def MtR (X : Cx) (id : String) (r : V → List V → Hp → VK → Prop) : Prop :=
  ∀ (pins : List (Addr × Obj)) (s : Shared) (σ : St) (H : Hp) (x : V) (xs : List V) (v : Value) (us : List Value) (Q : VK), Inv X pins σ H s → RelV x v → Vals xs us → r x xs H Q →
    wpAny (model X.prog X.w) X.A (call (.builtin id) (v :: us)) (EP X pins σ Q) X.xe s
section
variable {X : Cx} {a b : Expr} {ta tb : TE} {pos : Pos}
theorem IxR.or {r r' : R2} (h : IxR X r) (h' : IxR X r') : IxR X (fun x y H Q => r x y H Q ∨ r' x y H Q) := by
  intro value slice pins s σ H x y v u Q I rx ry q hs
  rcases q with q | q
  · exact h value slice pins s σ H x y v u Q I rx ry q hs
  · exact h' value slice pins s σ H x y v u Q I rx ry q hs
theorem MtR.or {id : String} {r r' : V → List V → Hp → VK → Prop} (h : MtR X id r) (h' : MtR X id r') : MtR X id (fun x xs H Q => r x xs H Q ∨ r' x xs H Q) := by
  intro pins s σ H x xs v us Q I rx rs q
  rcases q with q | q
  · exact h pins s σ H x xs v us Q I rx rs q
  · exact h' pins s σ H x xs v us Q I rx rs q
/-- a[b] -/
theorem pe_ix {r : R2} (hr : IxR X r) (ha : PE X a ta) (hb : PE X b tb) (hs : PlainIx b) : PE X (.Subscript a b pos) (tOp r ta tb) := by
  intro pins s σ H Q I h
  exact Subscript_ (binT ha hb I h fun v u s2 x y H2 I2 rx ry q => hr a b pins s2 σ H2 x y v u Q I2 rx ry q (hs _ _))

def rIxL (K : PySem.W.Frag) : R2 := fun x y H Q => ∃ p xs i v, x = .ref p ∧ y = .int i ∧ SqL K H p xs ∧ atI xs i = some v ∧ Q v H
def rIxT (K : PySem.W.Frag) : R2 := fun x y H Q => ∃ p xs i v, x = .ref p ∧ y = .int i ∧ SqT K H p xs ∧ atI xs i = some v ∧ Q v H
def rIxS : R2 := fun x y H Q => ∃ z i c, x = .str z ∧ y = .int i ∧ z.length ≤ sizeLine ∧ atI z.cps.toList i = some c ∧ Q (.str ⟨#[c]⟩) H
theorem ix_list : IxR X (rIxL X.K) := by
  intro value slice pins s σ H x y v u Q I rx ry h hs
  obtain ⟨p, xs, i, z, rfl, rfl, hq, he, q⟩ := h
  cases rx
  obtain ⟨t, rfl⟩ := ry
  obtain ⟨its, r, pl, hz⟩ := I.list hq
  obtain ⟨j, h1, h2, h3, h4, h5⟩ := atI_get he
  obtain ⟨w, ew, rw'⟩ := r.get h2
  have hl := r.length
  have hn := line63
  have fin : EP X pins σ Q w s := ⟨z, H, I, rw', q⟩
  by_cases h0 : 0 ≤ i
  · have hj : i.toNat = j := by
      rw [seqIndex_of h0 h5] at h1
      exact Option.some.inj h1
    exact item_listR pl.isList h0 (by omega) (by rw [hj]; simpa using ew) fin hs
  · have hj : (i + (its.toArray.size : Int)).toNat = j := by
      rw [seqIndex_neg (by omega) h4] at h1
      rw [List.size_toArray, ← hl]
      exact Option.some.inj h1
    exact subscriptTail_builtinR (x := w) pl.isList.typeIs slot_list_getitem.lookup
      (wpAny_getItem_list_neg (Q := fun r s' => r = w ∧ EP X pins σ Q r s') pl.isList (by omega) (by rw [List.size_toArray] <;> omega) (by omega) (by rw [hj]; simpa using ew) ⟨rfl, fin⟩) hs
theorem ix_tup : IxR X (rIxT X.K) := by
  intro value slice pins s σ H x y v u Q I rx ry h hs
  obtain ⟨p, xs, i, z, rfl, rfl, hq, he, q⟩ := h
  cases rx
  obtain ⟨t, rfl⟩ := ry
  obtain ⟨its, r, pl, hz⟩ := I.tuple hq
  obtain ⟨j, h1, h2, h3, h4, h5⟩ := atI_get he
  obtain ⟨w, ew, rw'⟩ := r.get h2
  have hl := r.length
  have hn := line63
  have fin : EP X pins σ Q w s := ⟨z, H, I, rw', q⟩
  exact subscriptTail_builtinR (x := w) pl.typeIs slot_tuple_getitem.lookup
    (getItem_tuple (j := j) (Q := fun r s' => r = w ∧ EP X pins σ Q r s') pl (by omega) (by omega) (by rw [List.size_toArray, ← hl]; exact h1) (by simpa using ew) ⟨rfl, fin⟩) hs
theorem ix_str : IxR X rIxS := by
  intro value slice pins s σ H x y v u Q I rx ry h hs
  obtain ⟨z, i, c, rfl, rfl, hz, he, q⟩ := h
  obtain ⟨t, rfl⟩ := rx
  obtain ⟨t', rfl⟩ := ry
  obtain ⟨j, h1, h2, h3, h4, h5⟩ := atI_get he
  have hl : z.cps.toList.length = z.length := by simp [Str.length]
  rw [hl] at h1 h4 h5
  have hn := line63
  exact tail_any (typeIs_str s z t) slot_str_getitem.lookup (getItem_str (c := c) (by
    have e1 : decide (i < -(2 ^ 63 : Int)) = false := decide_eq_false (by omega)
    have e2 : decide (i ≥ 2 ^ 63) = false := decide_eq_false (by omega)
    rw [e1, e2, Bool.or_false]) (by rw [h1]; simpa using h2) ⟨.str ⟨#[c]⟩, H, I.tok _, ⟨_, rfl⟩, q⟩) hs
/-- list, tuple or str -/
def rIx (K : PySem.W.Frag) : R2 := fun x y H Q => rIxL K x y H Q ∨ rIxT K x y H Q ∨ rIxS x y H Q
theorem ix_seq : IxR X (rIx X.K) := ix_list.or (ix_tup.or ix_str)

/-! ### xs[i] = v, any sign -/
/-- the list's object behind a store -/
theorem mapSeq_set (its : List Value) (n j : Nat) (u : Value) : Obj.mapSeq (·.setIfInBounds j u) { cls := .type "list", data := .seq its.toArray n } = { cls := .type "list", data := .seq (its.set j u).toArray n } := by
  simp [Obj.mapSeq]
theorem Inv.lst {pins : List (Addr × Obj)} {σ : St} {H : Hp} {s : Shared} {p : Addr} {xs : List V} (I : Inv X pins σ H s) (h : H p = some (.lst xs)) :
    ∃ (its : List Value) (n : Nat), Vals xs its ∧ s.heap.get? p = some { cls := .type "list", data := .seq its.toArray n } ∧ xs.length ≤ sizeLine := by
  obtain ⟨z, its, n, r, e⟩ := I.hok p _ h
  exact ⟨its, n, r, e, z⟩
/-- the list at p is written by an update of its object -/
theorem Inv.lstUpd {pins : List (Addr × Obj)} {σ : St} {H : Hp} {s : Shared} {p : Addr} {xs ys : List V} {its its' : List Value} {n n' : Nat} {f : Obj → Obj} (I : Inv X pins σ H s) (h : H p = some (.lst xs))
    (ho : s.heap.get? p = some { cls := .type "list", data := .seq its.toArray n }) (hf : f { cls := .type "list", data := .seq its.toArray n } = { cls := .type "list", data := .seq its'.toArray n' }) (r : Vals ys its') (hz : ys.length ≤ sizeLine) (t : Nat) :
    Inv X pins σ (upd H p (.lst ys)) { s with heap := s.heap.update p f, toks := t } := by
  have e : (s.heap.update p f).get? p = some { cls := .type "list", data := .seq its'.toArray n' } := by
    rw [Heap.get?_update_self f ho (by rw [hf] <;> rfl), hf]
  refine I.write (x := p) (e := p) (by rw [h]; trivial) (.inl rfl) (fun b u hb q => (Heap.get?_update_other _ _ (Ne.symm hb)).trans q) ⟨_, e⟩ ?_
  exact ⟨hz, its', n', r, e⟩
def rSetL : V → V → V → Hp → (Hp → Prop) → Prop := fun o i v H Q => ∃ p xs k j, o = .ref p ∧ i = .int k ∧ H p = some (.lst xs) ∧ ixN xs.length k = some j ∧ Q (upd H p (.lst (xs.set j v)))
theorem set_list : PSet X rSetL := by
  intro pins s σ H o i v ov iv u Q I ro ri rv h
  obtain ⟨p, xs, k, j, rfl, rfl, hp, hj, q⟩ := h
  cases ro
  obtain ⟨t, rfl⟩ := ri
  obtain ⟨its, n, r, ho, hz⟩ := I.lst hp
  obtain ⟨h1, h2, h3, h4⟩ := ixN_seq hj
  have hl := r.length
  have hn := line63
  have I' : Inv X pins σ (upd H p (.lst (xs.set j v))) { s with heap := s.heap.update p (Obj.mapSeq (·.setIfInBounds j u)) } :=
    I.lstUpd hp ho (mapSeq_set its n j u) (r.set rv j) (by rw [List.length_set]; exact hz) s.toks
  by_cases h0 : 0 ≤ k
  · have hk : k.toNat = j := by
      rw [seqIndex_of h0 h4] at h1
      exact Option.some.inj h1
    exact PySem.W.ki_setAt ho h0 (by omega) (by rw [List.size_toArray, ← hl]; exact h4) (by rw [hk]; exact ⟨_, I', q⟩)
  · have hk : (k + (its.toArray.size : Int)).toNat = j := by
      rw [seqIndex_neg (by omega) h3] at h1
      rw [List.size_toArray, ← hl]
      exact Option.some.inj h1
    exact PySem.W.ki_setBack ho (by omega) (by rw [List.size_toArray, ← hl]; exact h3) (by omega) (by rw [hk]; exact ⟨_, I', q⟩)

/-! ### slices -/
theorem slice_bounds (lo hi : Option Int) (n : Nat) : (sliceBounds lo hi none n).1 = ((HT.sIx n 0 lo : Nat) : Int) ∧ (sliceBounds lo hi none n).2.1 = ((HT.sIx n n hi : Nat) : Int) ∧ (sliceBounds lo hi none n).2.2 = 1 := by
  refine ⟨?_, ?_, rfl⟩
  · cases lo with
    | none => simp [sliceBounds, HT.sIx]
    | some i =>
      simp only [sliceBounds, HT.sIx, Option.getD_none, show (1 : Int) > 0 by decide, if_true]
      by_cases h : i < 0
      · simp only [h, if_true] <;> omega
      · simp only [h, if_false] <;> omega
  · cases hi with
    | none => simp [sliceBounds, HT.sIx]
    | some i =>
      simp only [sliceBounds, HT.sIx, Option.getD_none, show (1 : Int) > 0 by decide, if_true]
      by_cases h : i < 0
      · simp only [h, if_true] <;> omega
      · simp only [h, if_false] <;> omega
theorem slicePick_cut (its : List Value) (lo hi : Option Int) : slicePick its.toArray lo hi none = ((its.drop (HT.sIx its.length 0 lo)).take (HT.sIx its.length its.length hi - HT.sIx its.length 0 lo)).toArray := by
  obtain ⟨h1, h2, h3⟩ := slice_bounds lo hi its.toArray.size
  unfold slicePick
  rw [h1, h2, h3]
  simp only [sliceRange_one, pick_run, List.size_toArray] <;> rfl
/-- xs[lo:hi] of a list: a new list -/
def rSlL (K : PySem.W.Frag) : V → Option Int → Option Int → Hp → VK → Prop := fun x lo hi H Q => ∃ a xs, x = .ref a ∧ SqL K H a xs ∧ ∀ p, H p = none → Q (.ref p) (upd H p (.lst (cutV xs lo hi)))
theorem sl_list : SlR X (rSlL X.K) := by
  intro pins s σ H x v vl vu lo hi sl Q I rx hs pl pu h
  obtain ⟨a, xs, rfl, hx, q⟩ := h
  cases rx
  obtain ⟨its, r, ht, hz⟩ := I.list hx
  have hlen := r.length
  refine ⟨"list", _, slot_list_getitem.lookup, ht.isList.typeIs, ?_⟩
  refine wpAny_getItem_list_slice ht.isList hs pl pu .none (by simp) ?_ (by rw [List.size_toArray] <;> omega)
  rw [slicePick_cut, ← hlen]
  refine ⟨.ref s.heap.objs.size, _, I.laid (t' := s.toks) (o := .lst (cutV xs lo hi)) (fun b ob q => Heap.get?_push_of_some _ q) (Nat.le_refl _) ?_, rfl, q _ (I.hok.fresh (Nat.le_refl _))⟩
  exact ⟨Nat.le_trans (cutV_length xs lo hi) hz, _, 0, (r.drop (HT.sIx xs.length 0 lo)).take (HT.sIx xs.length xs.length hi - HT.sIx xs.length 0 lo), Heap.get?_push_size _ rfl⟩

/-! ### in, not in: flat items -/
def flatV : V → Bool
  | .non => true
  | .bl _ => true
  | .int _ => true
  | .str _ => true
  | _ => false
/-- == of flat values -/
def eqV : V → V → Bool
  | .non, .non => true
  | .bl a, .bl b => a == b
  | .bl a, .int b => (if a then 1 else 0) == b
  | .int a, .bl b => a == (if b then 1 else 0)
  | .int a, .int b => a == b
  | .str a, .str b => a == b
  | _, _ => false
theorem eqAt_V {A : Around} {s : Shared} {y x : V} {u v : Value} (ry : RelV y u) (rx : RelV x v) (fy : flatV y = true) (fx : flatV x = true) : SeqAt.EqAt A s u v (eqV y x) := by
  cases y with
  | non =>
    cases ry
    cases x with
    | non => cases rx; exact SeqAt.EqAt.same _
    | bl b => cases rx; exact SeqAt.EqAt.none_bool b
    | int b => obtain ⟨t, rfl⟩ := rx; exact SeqAt.EqAt.none_int b t
    | str b => obtain ⟨t, rfl⟩ := rx; exact SeqAt.EqAt.none_str b t
    | _ => exact absurd (show false = true from fx) Bool.false_ne_true
  | bl a =>
    cases ry
    cases x with
    | non => cases rx; exact SeqAt.EqAt.bool_none a
    | bl b => cases rx; exact SeqAt.EqAt.bool_bool a b
    | int b => obtain ⟨t, rfl⟩ := rx; exact SeqAt.EqAt.bool_int a b t
    | str b => obtain ⟨t, rfl⟩ := rx; exact SeqAt.EqAt.bool_str a b t
    | _ => exact absurd (show false = true from fx) Bool.false_ne_true
  | int a =>
    obtain ⟨t', rfl⟩ := ry
    cases x with
    | non => cases rx; exact SeqAt.EqAt.int_none a t'
    | bl b => cases rx; exact SeqAt.EqAt.int_bool a t' b
    | int b => obtain ⟨t, rfl⟩ := rx; exact SeqAt.EqAt.int_int a t' b t
    | str b => obtain ⟨t, rfl⟩ := rx; exact SeqAt.EqAt.int_str a t' b t
    | _ => exact absurd (show false = true from fx) Bool.false_ne_true
  | str a =>
    obtain ⟨t', rfl⟩ := ry
    cases x with
    | non => cases rx; exact SeqAt.EqAt.str_none a t'
    | bl b => cases rx; exact SeqAt.EqAt.str_bool a t' b
    | int b => obtain ⟨t, rfl⟩ := rx; exact SeqAt.EqAt.str_int a t' b t
    | str b => obtain ⟨t, rfl⟩ := rx; exact SeqAt.EqAt.str_str a t' b t
    | _ => exact absurd (show false = true from fx) Bool.false_ne_true
  | _ => exact absurd (show false = true from fy) Bool.false_ne_true
/-- the items' answers, read off the values (a value's own answer does not lean on its token) -/
def eqU (x : V) (u : Value) : Bool := match u with
  | .none => eqV .non x
  | .bool b => eqV (.bl b) x
  | .int i _ => eqV (.int i) x
  | .str z _ => eqV (.str z) x
  | _ => false
theorem eqU_of {x y : V} {u : Value} (r : RelV y u) (f : flatV y = true) : eqU x u = eqV y x := by
  cases y with
  | non => cases r; rfl
  | bl b => cases r; rfl
  | int i => obtain ⟨t, rfl⟩ := r; rfl
  | str z => obtain ⟨t, rfl⟩ := r; rfl
  | _ => exact absurd (show false = true from f) Bool.false_ne_true
theorem any_eqU {x : V} : ∀ {xs : List V} {us : List Value}, Vals xs us → xs.all flatV = true → us.any (eqU x) = xs.any fun y => eqV y x
  | _, _, .nil, _ => rfl
  | y :: xs, u :: us, .cons r t, f => by
    rw [List.all_cons, Bool.and_eq_true] at f
    rw [List.any_cons, List.any_cons, eqU_of r f.1, any_eqU t f.2]
theorem mem_eqAt {A : Around} {s : Shared} {x : V} {v : Value} (rx : RelV x v) (fx : flatV x = true) : ∀ {xs : List V} {us : List Value}, Vals xs us → xs.all flatV = true → ∀ u ∈ us, SeqAt.EqAt A s u v (eqU x u)
  | _, _, .nil, _ => fun u hu => by cases hu
  | y :: xs, u :: us, .cons r t, f => fun u' hu => by
    rw [List.all_cons, Bool.and_eq_true] at f
    rcases List.mem_cons.mp hu with rfl | hu
    · rw [eqU_of r f.1]; exact eqAt_V r rx f.1 fx
    · exact mem_eqAt rx fx t f.2 u' hu
def inV (x : V) (xs : List V) : Bool := xs.any fun y => eqV y x
/-- x in a list or tuple of flat items -/
def rIn (K : PySem.W.Frag) (neg : Bool) : R2 := fun x y H Q => ∃ p xs, y = .ref p ∧ (SqL K H p xs ∨ SqT K H p xs) ∧ flatV x = true ∧ xs.all flatV = true ∧ Q (.bl (if neg then !inV x xs else inV x xs)) H
theorem op_in_seq : OpR X (compareOp .In) (rIn X.K false) := by
  intro pins s σ H x y v u Q I rx ry h
  obtain ⟨p, xs, rfl, hq, fx, fs, q⟩ := h
  cases ry
  rcases hq with hq | hq
  · obtain ⟨its, r, pl, hz⟩ := I.list hq
    refine SeqAt.in_listAt (eqU x) pl.isList (fun w hw => mem_eqAt rx fx r fs w (by simpa using hw)) ⟨.bl _, H, I, rfl, ?_⟩
    rw [show its.toArray.any (eqU x) = its.any (eqU x) by simp, any_eqU r fs]
    exact q
  · obtain ⟨its, r, pl, hz⟩ := I.tuple hq
    refine SeqAt.in_tupleAt (eqU x) pl (fun w hw => mem_eqAt rx fx r fs w (by simpa using hw)) ⟨.bl _, H, I, rfl, ?_⟩
    rw [show its.toArray.any (eqU x) = its.any (eqU x) by simp, any_eqU r fs]
    exact q
theorem op_notIn_seq : OpR X (compareOp .NotIn) (rIn X.K true) := by
  intro pins s σ H x y v u Q I rx ry h
  obtain ⟨p, xs, rfl, hq, fx, fs, q⟩ := h
  cases ry
  rcases hq with hq | hq
  · obtain ⟨its, r, pl, hz⟩ := I.list hq
    refine SeqAt.notIn_listAt (eqU x) pl.isList (fun w hw => mem_eqAt rx fx r fs w (by simpa using hw)) ⟨.bl _, H, I, rfl, ?_⟩
    rw [show its.toArray.any (eqU x) = its.any (eqU x) by simp, any_eqU r fs]
    exact q
  · obtain ⟨its, r, pl, hz⟩ := I.tuple hq
    refine SeqAt.notIn_tupleAt (eqU x) pl (fun w hw => mem_eqAt rx fx r fs w (by simpa using hw)) ⟨.bl _, H, I, rfl, ?_⟩
    rw [show its.toArray.any (eqU x) = its.any (eqU x) by simp, any_eqU r fs]
    exact q
theorem op_notIn_str : OpR X (compareOp .NotIn) (fun x y H Q => ∃ i j, x = .str i ∧ y = .str j ∧ Q (.bl (!(!(Builtin.Str.occurrences j i 0 j.length 1).isEmpty))) H) := by
  intro pins s σ H x y v u Q I rx ry h
  obtain ⟨i, j, rfl, rfl, q⟩ := h
  obtain ⟨t, rfl⟩ := rx
  obtain ⟨t', rfl⟩ := ry
  exact notIn_str ⟨.bl _, H, I, rfl, q⟩

/-! ### len, list(x), tuple(x) of any list or tuple that is read -/
theorem call_len_seq : CallR X (.builtin "len") (fun xs H Q => ∃ p ys, xs = [.ref p] ∧ (SqL X.K H p ys ∨ SqT X.K H p ys) ∧ Q (.int ys.length) H) := by
  intro pins s σ H xs us Q I r h
  obtain ⟨p, ys, rfl, hq, q⟩ := h
  obtain ⟨u, rfl, rx⟩ := vals1 r
  cases rx
  have hn := line63
  rcases hq with hq | hq
  · obtain ⟨its, r', pl, hz⟩ := I.list hq
    have hlen := r'.length
    exact Calls.call_len_list pl.isList (by simp only [List.size_toArray] <;> omega) ⟨.int ys.length, H, I.tok _, ⟨s.toks + 1, by rw [List.size_toArray, hlen]⟩, q⟩
  · obtain ⟨its, r', pl, hz⟩ := I.tuple hq
    have hlen := r'.length
    exact len_tuple pl (by simp only [List.size_toArray] <;> omega) ⟨.int ys.length, H, I.tok _, ⟨s.toks + 1, by rw [List.size_toArray, hlen]⟩, q⟩
theorem call_len_str : CallR X (.builtin "len") (fun xs H Q => ∃ z, xs = [.str z] ∧ z.length ≤ sizeLine ∧ Q (.int z.length) H) := by
  intro pins s σ H xs us Q I r h
  obtain ⟨z, rfl, hz, q⟩ := h
  obtain ⟨u, rfl, t, rfl⟩ := vals1 r
  have hn := line63
  exact len_str (by omega) ⟨.int z.length, H, I.tok _, ⟨_, rfl⟩, q⟩
theorem CallR.or {f : Value} {r r' : List V → Hp → VK → Prop} (h : CallR X f r) (h' : CallR X f r') : CallR X f (fun xs H Q => r xs H Q ∨ r' xs H Q) := by
  intro pins s σ H xs us Q I rs q
  rcases q with q | q
  · exact h pins s σ H xs us Q I rs q
  · exact h' pins s σ H xs us Q I rs q
theorem call_list_of : CallR X (.type "list") (fun xs H Q => ∃ p ys, xs = [.ref p] ∧ (SqL X.K H p ys ∨ SqT X.K H p ys) ∧ ∀ l, H l = none → Q (.ref l) (upd H l (.lst ys))) := by
  intro pins s σ H xs us Q I r h
  obtain ⟨p, ys, rfl, hq, q⟩ := h
  obtain ⟨u, rfl, rx⟩ := vals1 r
  cases rx
  have fin : ∀ (its : List Value), Vals ys its → ys.length ≤ sizeLine → ∀ (h' : Heap) (c' : Nat), (∀ b o', s.heap.get? b = some o' → h'.get? b = some o') →
      h'.get? s.heap.objs.size = some { cls := .type "list", dict := none, data := .seq its.toArray c', slots := #[] } → EP X pins σ Q (.ref s.heap.objs.size) { s with heap := h' } := fun its r' hz h' c' kp e =>
    ⟨.ref s.heap.objs.size, _, I.laid (t' := s.toks) kp (Nat.le_refl _) (show ObjOk X.prog X.w _ h' _ (.lst ys) from ⟨hz, its, c', r', e⟩), rfl, q _ (I.hok.fresh (Nat.le_refl _))⟩
  rcases hq with hq | hq
  · obtain ⟨its, r', pl, hz⟩ := I.list hq
    have hlen := r'.length
    obtain ⟨o, ho, hc, n, hd⟩ := pl.isList
    exact call_list_seq p (.inl rfl) ho hc hd (fun h' c' kp e => fin its r' hz h' c' kp e) (by simp only [List.size_toArray] <;> omega)
  · obtain ⟨its, r', pl, hz⟩ := I.tuple hq
    have hlen := r'.length
    obtain ⟨o, ho, hc, n, hd⟩ := pl
    exact call_list_seq p (.inr rfl) ho hc hd (fun h' c' kp e => fin its r' hz h' c' kp e) (by simp only [List.size_toArray] <;> omega)
theorem call_tuple_of : CallR X (.type "tuple") (fun xs H Q => ∃ p ys, xs = [.ref p] ∧ ((SqL X.K H p ys ∧ ∀ l, H l = none → Q (.ref l) (upd H l (.tup ys))) ∨ (SqT X.K H p ys ∧ Q (.ref p) H))) := by
  intro pins s σ H xs us Q I r h
  obtain ⟨p, ys, rfl, h⟩ := h
  obtain ⟨u, rfl, rx⟩ := vals1 r
  cases rx
  rcases h with ⟨hq, q⟩ | ⟨hq, q⟩
  · obtain ⟨its, r', pl, hz⟩ := I.list hq
    have hlen := r'.length
    refine call_tuple_list pl.isList (fun h' kp => ?_) (by simp only [List.size_toArray] <;> omega)
    have I1 : Inv X pins σ H { s with heap := h' } := I.kept (t' := s.toks) kp
    have I2 : Inv X pins σ (upd H h'.objs.size (.tup ys)) { s with heap := h'.push { cls := .type "tuple", data := .seq its.toArray } } :=
      I1.laid (t' := s.toks) (fun b o e => Heap.get?_push_of_some _ e) (Nat.le_refl _) (show ObjOk X.prog X.w _ _ _ (.tup ys) from ⟨hz, its, r', IsTup.new _ _⟩)
    exact ⟨.ref h'.objs.size, _, I2, rfl, q _ (I1.hok.fresh (Nat.le_refl _))⟩
  · obtain ⟨its, r', pl, hz⟩ := I.tuple hq
    exact call_tuple_same pl ⟨.ref p, H, I, rfl, q⟩

/-! ### the call of a builtin's method: o.m(..) -/
/-- the value is of that builtin type -/
def tyV (K : PySem.W.Frag) (T : String) (x : V) (H : Hp) : Prop := match x with
  | .str _ => T = "str"
  | .int _ => T = "int"
  | .ref p => (T = "list" ∧ ∃ xs, SqL K H p xs) ∨ (T = "tuple" ∧ ∃ o, K.lookup p = some o ∧ o.cls = .type "tuple" ∧ o.dict = none) ∨
      (T = "dict" ∧ ((∃ kvs, H p = some (.dK kvs)) ∨ ∃ kvs, H p = some (.dT kvs))) ∨ (T = "set" ∧ ∃ S n, H p = some (.set S n))
  | _ => False
theorem tyV_is {pins : List (Addr × Obj)} {σ : St} {H : Hp} {s : Shared} {T : String} {x : V} {v : Value} (I : Inv X pins σ H s) (r : RelV x v) (ty : tyV X.K T x H) :
    s.TypeIs v T ∧ ∀ a, v = .ref a → ∃ ob, s.heap.get? a = some ob ∧ ob.dict = none := by
  cases x with
  | str z =>
    obtain ⟨t, rfl⟩ := r
    cases (show T = "str" from ty)
    exact ⟨typeIs_str s z t, fun _ e => nomatch e⟩
  | int i =>
    obtain ⟨t, rfl⟩ := r
    cases (show T = "int" from ty)
    exact ⟨typeIs_int s i t, fun _ e => nomatch e⟩
  | ref p =>
    cases r
    rcases ty with ⟨rfl, xs, hq⟩ | ⟨rfl, o, hk, hc, hd⟩ | ⟨rfl, hk⟩ | ⟨rfl, S, n, hk⟩
    · obtain ⟨its, _, pl, _⟩ := I.list hq
      refine ⟨pl.isList.typeIs, fun a e => ?_⟩
      cases e
      obtain ⟨o, n, e, c, hd, _⟩ := pl
      exact ⟨o, e, hd⟩
    · refine ⟨⟨o, I.kIn p o hk, hc⟩, fun a e => ?_⟩
      cases e
      exact ⟨o, I.kIn _ o hk, hd⟩
    · have z : ∃ o, s.heap.get? p = some o ∧ o.ExactDict := by
        rcases hk with ⟨kvs, hk⟩ | ⟨kvs, hk⟩
        · obtain ⟨_, _, _, _, o, _, _, e, ex, _⟩ := I.hok p _ hk
          exact ⟨o, e, ex⟩
        · obtain ⟨_, _, _, _, o, _, _, e, ex, _⟩ := I.hok p _ hk
          exact ⟨o, e, ex⟩
      obtain ⟨o, e, ex⟩ := z
      refine ⟨⟨o, e, ex.1⟩, fun a e2 => ?_⟩
      cases e2
      exact ⟨o, e, ex.2.1⟩
    · obtain ⟨o, _, _, _, e, ex, _⟩ := I.hok p _ hk
      refine ⟨⟨o, e, ex.1⟩, fun a e2 => ?_⟩
      cases e2
      exact ⟨o, e, ex.2.1⟩
  | _ => exact False.elim ty
def tBM0 (K : PySem.W.Frag) (T : String) (r : V → List V → Hp → VK → Prop) (to : TE) : TE := fun σ H Q => to σ H fun x H1 => tyV K T x H1 ∧ r x [] H1 Q
def tBM (K : PySem.W.Frag) (T : String) (r : V → List V → Hp → VK → Prop) (to : TE) (t : TA) : TE := fun σ H Q => to σ H fun x H1 => tyV K T x H1 ∧ t σ H1 fun xs H2 => r x xs H2 Q
variable {o e : Expr} {es : List Expr} {to : TE} {t : TA} {name : Str} {apos cpos : Pos} {T id : String} {r : V → List V → Hp → VK → Prop}
theorem pe_bm0 (pa : PlainAttrs T) (slot : Slot T name id) (hty : typeOf (.builtin id) = pure (.type "method_descriptor")) (hm : MtR X id r) (ho : PE X o to)
    (hbase : attributeBase o name X.env (eval o X.env) = eval o X.env := by rfl) (hline : (apos.endLine == cpos.line) = true := by rfl) : PE X (.Call (.Attribute o name apos) [] [] cpos) (tBM0 X.K T r to) := by
  intro pins s σ H Q I h
  refine wpAny_Call_method0_late hbase hline (thn (ho pins s σ H _ I h) fun v s1 ⟨x, H1, I1, r1, ty, q1⟩ => ?_)
  obtain ⟨h1, h2⟩ := tyV_is I1 r1 ty
  exact ⟨T, id, pa, slot, hty, h1, h2, Calls.callWith_builtin rfl (PySem.evalArgs_none (hm pins s1 σ H1 x [] v [] Q I1 r1 .nil q1))⟩
theorem pe_bm (pa : PlainAttrs T) (slot : Slot T name id) (hty : typeOf (.builtin id) = pure (.type "method_descriptor")) (hm : MtR X id r) (ho : PE X o to) (ha : PA X (e :: es) t)
    (hbase : attributeBase o name X.env (eval o X.env) = eval o X.env := by rfl)
    (hfew : ((backTo cpos (starEach (e :: es) X.env)).all (fun x => !x.1) && (backToKw cpos (keywordEach [] X.env)).all (fun x => x.1.isSome)
      && decide ((e :: es).length + ([] : List Keyword).length + (if ([] : List Keyword).isEmpty then 0 else 1) < 30)) = true := by rfl)
    (hline : (apos.endLine == cpos.line) = true := by rfl) (hs : starEach (e :: es) X.env = (false, eval e X.env) :: starEach es X.env := by rfl) (hplain : (backTo cpos (starEach es X.env)).any (·.1) = false := by rfl) :
    PE X (.Call (.Attribute o name apos) (e :: es) [] cpos) (tBM X.K T r to t) := by
  intro pins s σ H Q I h
  refine wpAny_Call_method_late hbase hfew hline rfl (thn (ho pins s σ H _ I h) fun v s1 ⟨x, H1, I1, r1, ty, q1⟩ => ?_)
  obtain ⟨h1, h2⟩ := tyV_is I1 r1 ty
  refine ⟨T, id, pa, slot, hty, h1, h2, ?_⟩
  have hA := ha cpos pins s1 σ H1 _ I1 q1
  rw [hs] at hA ⊢
  refine Calls.callWith_builtin (by show (false || (backTo cpos (starEach es X.env)).any (·.1)) = false; rw [hplain] <;> rfl) (Calls.evalArgs_plain ?_)
  exact thn hA fun us s2 ⟨vs, H2, I2, r2, q2⟩ => hm pins s2 σ H2 x vs v us Q I2 r1 r2 q2
/- xs.append(e), list.index on a module's tuple .. are MtR facts of 06m -/
end
end L2

namespace L2
open PySem PySem.Spec PyProof.Rows

def MtM (X : Cx) (id : String) (r : V → List V → Hp → VK → Prop) : Prop :=
  ∀ (pins : List (Addr × Obj)) (s : Shared) (σ : St) (H : Hp) (x : V) (xs : List V) (v : Value) (us : List Value) (Q : VK), Inv X pins σ H s → RelV x v → Vals xs us → r x xs H Q →
    wpAny (model X.prog X.w) X.A (call (.builtin id) (v :: us)) (EP X pins σ Q) X.xe s

/-! ### lists of values -/
theorem Vals.one : ∀ {x : V} {us : List Value}, Vals [x] us → ∃ u, us = [u] ∧ RelV x u
  | _, _, .cons r .nil => ⟨_, rfl, r⟩
theorem Vals.two : ∀ {x y : V} {us : List Value}, Vals [x, y] us → ∃ u v, us = [u, v] ∧ RelV x u ∧ RelV y v
  | _, _, _, .cons r (.cons q .nil) => ⟨_, _, rfl, r, q⟩
theorem Vals.zero : ∀ {us : List Value}, Vals [] us → us = []
  | _, .nil => rfl
theorem Vals.dropLast {xs : List V} {us : List Value} (h : Vals xs us) : Vals xs.dropLast us.dropLast := by
  induction h with
  | nil => exact .nil
  | cons r t ih =>
    cases t with
    | nil => exact .nil
    | cons q t' => exact .cons r ih
theorem Vals.eraseIdx : ∀ {xs : List V} {us : List Value} (i : Nat), Vals xs us → Vals (xs.eraseIdx i) (us.eraseIdx i)
  | _, _, _, .nil => .nil
  | _, _, 0, .cons _ t => t
  | _, _, i + 1, .cons r t => .cons r (Vals.eraseIdx i t)
theorem Vals.reverse {xs : List V} {us : List Value} (h : Vals xs us) : Vals xs.reverse us.reverse := by
  induction h with
  | nil => exact .nil
  | cons r t ih => rw [List.reverse_cons, List.reverse_cons]; exact Vals.append ih (.cons r .nil)
theorem Vals.rep {xs : List V} {us : List Value} (h : Vals xs us) : ∀ k : Nat, Vals (List.replicate k xs).flatten (List.replicate k us).flatten
  | 0 => .nil
  | k + 1 => by
    rw [List.replicate_succ, List.replicate_succ, List.flatten_cons, List.flatten_cons]
    exact Vals.append h (Vals.rep h k)
theorem erase_last {α : Type} (l : List α) : l.eraseIdx (l.length - 1) = l.dropLast := by
  induction l with
  | nil => rfl
  | cons a r ih =>
    cases r with
    | nil => rfl
    | cons b r =>
      have e : (a :: b :: r).length - 1 = ((b :: r).length - 1) + 1 := by
        have h1 : (a :: b :: r).length = r.length + 2 := rfl
        have h2 : (b :: r).length = r.length + 1 := rfl
        omega
      rw [e, List.eraseIdx_cons_succ, ih]
      all_goals rfl
theorem len_erase {α : Type} : ∀ (l : List α) (i : Nat), (l.eraseIdx i).length ≤ l.length
  | [], _ => Nat.le_refl _
  | _ :: _, 0 => Nat.le_succ _
  | _ :: r, i + 1 => Nat.succ_le_succ (len_erase r i)
theorem foldl_rep (its : List Value) : ∀ (k : Nat) (acc : List Value),
    List.foldl (fun x1 x2 => x1 ++ x2) acc.toArray (List.replicate k its.toArray) = (acc ++ (List.replicate k its).flatten).toArray
  | 0, acc => by simp
  | k + 1, acc => by
    have e : acc.toArray ++ its.toArray = (acc ++ its).toArray := by simp
    have e2 : (acc ++ its) ++ (List.replicate k its).flatten = acc ++ (List.replicate (k + 1) its).flatten := by
      rw [List.replicate_succ, List.flatten_cons, List.append_assoc]
    rw [← e2, ← foldl_rep its k (acc ++ its), ← e, List.replicate_succ, List.foldl_cons]

section
variable {X : Cx} {pins : List (Addr × Obj)} {σ : St} {H : Hp} {s : Shared} {l b : Addr} {xs ys zs : List V}

/-! ### the two steps: a tracked list is rewritten, a new list is laid -/
theorem Inv.lset {its its' : List Value} {n : Nat} {f : Array Value → Array Value} {t' : Nat} (I : Inv X pins σ H s) (hH : H l = some (.lst xs))
    (e : s.heap.get? l = some { cls := .type "list", data := .seq its.toArray n }) (hf : f its.toArray = its'.toArray) (hv : Vals ys its') (hz : ys.length ≤ sizeLine) :
    Inv X pins σ (upd H l (.lst ys)) { s with heap := s.heap.update l (Obj.mapSeq f), toks := t' } := by
  have q := PySem.IsL.update e f
  rw [hf] at q
  refine I.write (x := l) (e := l) (by rw [hH]; exact trivial) (.inl rfl) (fun b' u hb hu => (Heap.get?_update_other s.heap (Obj.mapSeq f) (Ne.symm hb)).trans hu) ⟨_, q⟩ ?_
  exact ⟨hz, its', _, hv, q⟩
theorem Inv.lnew {its : List Value} {t' : Nat} (I : Inv X pins σ H s) (hv : Vals ys its) (hz : ys.length ≤ sizeLine) :
    Inv X pins σ (upd H s.heap.objs.size (.lst ys)) { s with heap := s.heap.push { cls := .type "list", data := .seq its.toArray }, toks := t' } :=
  I.laid (fun _ _ q => Heap.get?_push_of_some _ q) (Nat.le_refl _) ⟨hz, its, 0, hv, Heap.get?_push_size _ rfl⟩
theorem Inv.fresh (I : Inv X pins σ H s) : H s.heap.objs.size = none := I.hok.fresh (Nat.le_refl _)
theorem Inv.lstM (I : Inv X pins σ H s) (hH : H l = some (.lst xs)) : xs.length ≤ sizeLine ∧ ∃ (its : List Value) (n : Nat), Vals xs its ∧ xs.length = its.length ∧ s.heap.get? l = some { cls := .type "list", data := .seq its.toArray n } := by
  obtain ⟨z, its, n, r, e⟩ := I.hok l _ hH
  exact ⟨z, its, n, r, r.length, e⟩

theorem notLongL {n : Nat} (h : n ≤ sizeLine) : Builtin.List.listTooLong n = false := by
  unfold Builtin.List.listTooLong
  exact decide_eq_false (by omega)
end

section
variable {X : Cx}

/-! ### methods -/
def rAppend : V → List V → Hp → VK → Prop := fun x vs H Q => ∃ l xs y, x = .ref l ∧ vs = [y] ∧ H l = some (.lst xs) ∧ xs.length < sizeLine ∧ Q .non (upd H l (.lst (xs ++ [y])))
theorem mt_append : MtM X "list.append" rAppend := by
  intro pins s σ H x vs v us Q I rx rv h
  obtain ⟨l, xs, y, rfl, rfl, hH, hz, q⟩ := h
  cases rx
  obtain ⟨u, rfl, ru⟩ := rv.one
  obtain ⟨z, its, n, r, hl, e⟩ := I.lstM hH
  refine call_meets F.slot_list_append ⟨_, e, rfl⟩ F.entry_list_append (F.args_list_append_2 _ _) (PySem.list_append l its.toArray n u (by rw [List.size_toArray]; omega)) ⟨e, ?_⟩
  refine ⟨.non, _, I.lset (its' := its ++ [u]) hH e (by simp) (r.append (.cons ru .nil)) ?_, rfl, q⟩
  rw [List.length_append, List.length_singleton]
  omega

def rExtend : V → List V → Hp → VK → Prop := fun x vs H Q => ∃ l b xs zs, x = .ref l ∧ vs = [.ref b] ∧ H l = some (.lst xs) ∧ H b = some (.lst zs) ∧ xs.length + zs.length ≤ sizeLine ∧ Q .non (upd H l (.lst (xs ++ zs)))
theorem mt_extend : MtM X "list.extend" rExtend := by
  intro pins s σ H x vs v us Q I rx rv h
  obtain ⟨l, b, xs, zs, rfl, rfl, hH, hB, hz, q⟩ := h
  cases rx
  obtain ⟨u, rfl, ru⟩ := rv.one
  cases ru
  obtain ⟨z, its, n, r, hl, e⟩ := I.lstM hH
  obtain ⟨z2, its2, n2, r2, hl2, e2⟩ := I.lstM hB
  have hsz : its.toArray.size + its2.toArray.size ≤ sizeLine := by rw [List.size_toArray, List.size_toArray]; omega
  have hlong : ¬ (!its.toArray.isEmpty && Builtin.List.listTooLong (its.toArray.size + its2.toArray.size)) = true := by
    rw [notLongL hsz, Bool.and_false]
    exact Bool.false_ne_true
  refine call_meets F.slot_list_extend ⟨_, e, rfl⟩ F.entry_list_extend (F.args_list_extend_2 _ _)
    (AutoSeq1.list_extend_list_list_0 l its.toArray n b its2.toArray n2 hlong (by rw [List.size_toArray]; omega) (by omega)) ⟨e, e2, ?_⟩
  refine ⟨.non, _, I.lset (its' := its ++ its2) hH e (by simp) (r.append r2) ?_, rfl, q⟩
  rw [List.length_append]
  omega

def rPop : V → List V → Hp → VK → Prop := fun x vs H Q => ∃ l xs y, x = .ref l ∧ vs = [] ∧ H l = some (.lst xs) ∧ xs[xs.length - 1]? = some y ∧ Q y (upd H l (.lst xs.dropLast))
theorem mt_pop : MtM X "list.pop" rPop := by
  intro pins s σ H x vs v us Q I rx rv h
  obtain ⟨l, xs, y, rfl, rfl, hH, hy, q⟩ := h
  cases rx
  have hus := rv.zero
  subst hus
  obtain ⟨z, its, n, r, hl, e⟩ := I.lstM hH
  obtain ⟨u, hu, ru⟩ := r.get hy
  have hy' : its.toArray[its.toArray.size - 1]? = some u := by
    show its.toArray[its.length - 1]? = some u
    rw [← Array.getElem?_toList, ← hl]
    exact hu
  refine call_meets F.slot_list_pop ⟨_, e, rfl⟩ F.entry_list_pop (F.args_list_pop_1 _) (MeetsSeq.list_pop_last l its.toArray n u hy' (by rw [List.size_toArray]; omega)) ⟨e, ?_⟩
  refine ⟨y, _, I.lset (its' := its.dropLast) hH e ?_ r.dropLast ?_, ru, q⟩
  · show its.toArray.eraseIdxIfInBounds (its.toArray.size - 1) = its.dropLast.toArray
    rw [List.size_toArray, List.eraseIdxIfInBounds_toArray, erase_last]
  · rw [List.length_dropLast]
    omega

def rPopAt : V → List V → Hp → VK → Prop := fun x vs H Q => ∃ l xs i k y, x = .ref l ∧ vs = [.int i] ∧ H l = some (.lst xs) ∧ -(2 ^ 63) ≤ i ∧ i < 2 ^ 63 ∧ seqIndex? i xs.length = some k ∧ xs[k]? = some y ∧ Q y (upd H l (.lst (xs.eraseIdx k)))
theorem mt_popAt : MtM X "list.pop" rPopAt := by
  intro pins s σ H x vs v us Q I rx rv h
  obtain ⟨l, xs, i, k, y, rfl, rfl, hH, h1, h2, hk, hy, q⟩ := h
  cases rx
  obtain ⟨u, rfl, ru⟩ := rv.one
  obtain ⟨t, rfl⟩ := ru
  obtain ⟨z, its, n, r, hl, e⟩ := I.lstM hH
  obtain ⟨w, hw, rw'⟩ := r.get hy
  refine call_meets F.slot_list_pop ⟨_, e, rfl⟩ F.entry_list_pop (F.args_list_pop_2 _ _)
    (MeetsSeq.list_pop_at l its.toArray n i t k w (fitsIndex_both h1 h2) (by rw [List.size_toArray, ← hl]; exact hk) (by rw [← Array.getElem?_toList]; exact hw) (by rw [List.size_toArray]; omega)) ⟨e, ?_⟩
  refine ⟨y, _, I.lset (its' := its.eraseIdx k) hH e ?_ (r.eraseIdx k) ?_, rw', q⟩
  · show its.toArray.eraseIdxIfInBounds k = (its.eraseIdx k).toArray
    rw [List.eraseIdxIfInBounds_toArray]
  · have := len_erase xs k
    omega

def rReverse : V → List V → Hp → VK → Prop := fun x vs H Q => ∃ l xs, x = .ref l ∧ vs = [] ∧ H l = some (.lst xs) ∧ Q .non (upd H l (.lst xs.reverse))
theorem mt_reverse : MtM X "list.reverse" rReverse := by
  intro pins s σ H x vs v us Q I rx rv h
  obtain ⟨l, xs, rfl, rfl, hH, q⟩ := h
  cases rx
  have hus := rv.zero
  subst hus
  obtain ⟨z, its, n, r, hl, e⟩ := I.lstM hH
  refine call_meets F.slot_list_reverse ⟨_, e, rfl⟩ F.entry_list_reverse (F.args_list_reverse_1 _) (AutoSeq1.list_reverse_list_0 l its.toArray n (by rw [List.size_toArray]; omega)) ⟨e, ?_⟩
  refine ⟨.non, _, I.lset (its' := its.reverse) hH e (by simp) r.reverse ?_, rfl, q⟩
  rw [List.length_reverse]
  omega

def rClear : V → List V → Hp → VK → Prop := fun x vs H Q => ∃ l xs, x = .ref l ∧ vs = [] ∧ H l = some (.lst xs) ∧ Q .non (upd H l (.lst []))
theorem mt_clear : MtM X "list.clear" rClear := by
  intro pins s σ H x vs v us Q I rx rv h
  obtain ⟨l, xs, rfl, rfl, hH, q⟩ := h
  cases rx
  have hus := rv.zero
  subst hus
  obtain ⟨z, its, n, r, hl, e⟩ := I.lstM hH
  refine call_meets F.slot_list_clear ⟨_, e, rfl⟩ F.entry_list_clear (F.args_list_clear_1 _) (AutoSeq1.list_clear_list_0 l its.toArray n (by rw [List.size_toArray]; omega)) ⟨e, ?_⟩
  exact ⟨.non, _, I.lset (its' := []) (ys := []) hH e rfl .nil (Nat.zero_le _), rfl, q⟩

/-! ### list + list, list += list, list * int -/
def rCat : R2 := fun x y H Q => ∃ l b xs zs, x = .ref l ∧ y = .ref b ∧ H l = some (.lst xs) ∧ H b = some (.lst zs) ∧ xs.length + zs.length ≤ sizeLine ∧ ∀ p, H p = none → Q (.ref p) (upd H p (.lst (xs ++ zs)))
theorem op_cat : OpR X (binaryOp .Add) rCat := by
  intro pins s σ H x y v u Q I rx ry h
  obtain ⟨l, b, xs, zs, rfl, rfl, hH, hB, hz, q⟩ := h
  cases rx
  cases ry
  obtain ⟨z, its, n, r, hl, e⟩ := I.lstM hH
  obtain ⟨z2, its2, n2, r2, hl2, e2⟩ := I.lstM hB
  refine PySem.P.add_list e e2 ?_ (by rw [List.size_toArray, List.size_toArray]; omega)
  have ea : its.toArray ++ its2.toArray = (its ++ its2).toArray := by simp
  rw [ea]
  exact ⟨.ref _, _, I.lnew (t' := s.toks) (r.append r2) (by rw [List.length_append]; omega), rfl, q _ I.fresh⟩
/-- a list times an int (a negative one is nothing) -/
def rRep : R2 := fun x y H Q => ∃ l k xs, x = .ref l ∧ y = .int k ∧ H l = some (.lst xs) ∧ -(2 ^ 63) ≤ k ∧ k < 2 ^ 63 ∧ xs.length * k.toNat ≤ sizeLine ∧
  ∀ p, H p = none → Q (.ref p) (upd H p (.lst (List.replicate k.toNat xs).flatten))
theorem len_rep {α : Type} (xs : List α) (k : Nat) : (List.replicate k xs).flatten.length = k * xs.length := by
  induction k with
  | zero => simp
  | succ k ih => rw [List.replicate_succ, List.flatten_cons, List.length_append, ih, Nat.succ_mul, Nat.add_comm]
theorem op_rep : OpR X (binaryOp .Mult) rRep := by
  intro pins s σ H x y v u Q I rx ry h
  obtain ⟨l, k, xs, rfl, rfl, hH, h1, h2, hz, q⟩ := h
  cases rx
  obtain ⟨t, rfl⟩ := ry
  obtain ⟨z, its, n, r, hl, e⟩ := I.lstM hH
  have hlen : its.toArray.size * k.toNat ≤ sizeLine := by rw [List.size_toArray, ← hl]; exact hz
  have hcap : ¬ its.toArray.size * k.toNat > (2 ^ 63 - 1) / 8 := by
    have : (sizeLine : Nat) ≤ (2 ^ 63 - 1) / 8 := by decide
    omega
  have hfit : ¬ (!Builtin.List.listFitsIndex k) = true := by
    rw [fitsIndex_both h1 h2]
    exact Bool.false_ne_true
  have hlong : ¬ Builtin.List.listTooLong (its.toArray.size * k.toNat) = true := by
    rw [notLongL hlen]
    exact Bool.false_ne_true
  have hnew : List.foldl (fun x1 x2 => x1 ++ x2) #[] (List.replicate (if its.toArray.isEmpty = true then 0 else k.toNat) its.toArray) = (List.replicate k.toNat its).flatten.toArray := by
    have f0 : ∀ m : Nat, List.foldl (fun x1 x2 => x1 ++ x2) #[] (List.replicate m its.toArray) = (List.replicate m its).flatten.toArray := fun m => by
      have := foldl_rep its m []
      rw [List.nil_append] at this
      exact this
    rw [f0]
    cases its with
    | nil => simp
    | cons a r' => rw [if_neg (by simp)]
  refine wpAny_binaryOp_repeat_ref (T := "list") (U := "int") (by decide) ⟨_, e, rfl⟩ (fun s' => typeIs_int s' k t) noFill_list_mul F.fills_int_mul F.slot_int_rmul repeat_list F.slot_int_index.lookup
    (call_meets F.slot_int_rmul (typeIs_int s k t) F.entry_int_rmul (F.args_int_rmul_2 _ _) (int___rmul___int_list k t l its.toArray n)
      ⟨e, rfl, ⟨_, e, rfl⟩, call_meets F.slot_list_mul ⟨_, e, rfl⟩ F.entry_list_mul (F.args_list_mul_2 _ _) (AutoListH.list___mul___list_int_3 l its.toArray n k t hfit hcap hlong) ⟨e, ?_⟩⟩)
  rw [hnew]
  exact ⟨.ref _, _, I.lnew (t' := s.toks) (r.rep k.toNat) (by rw [len_rep, Nat.mul_comm]; exact hz), rfl, q _ I.fresh⟩

/-! ### del xs[i] -/
theorem del_list {pins : List (Addr × Obj)} {s : Shared} {σ : St} {H : Hp} {l : Addr} {xs : List V} {i : Int} {t : Tok} {k : Nat} {Q : Unit → Shared → Prop} (I : Inv X pins σ H s) (hH : H l = some (.lst xs))
    (h1 : -(2 ^ 63) ≤ i) (h2 : i < 2 ^ 63) (hk : seqIndex? i xs.length = some k) (h : ∀ s', Inv X pins σ (upd H l (.lst (xs.eraseIdx k))) s' → Q () s') :
    wpAny (model X.prog X.w) X.A (delItem (.ref l) (.int i t)) Q X.xe s := by
  obtain ⟨z, its, n, r, hl, e⟩ := I.lstM hH
  refine PySem.P.delItem_list (k := k) e (fitsIndex_both h1 h2) (by rw [List.size_toArray, ← hl]; exact hk) (h _ ?_) (by rw [List.size_toArray]; omega)
  refine I.lset (its' := its.eraseIdx k) (t' := s.toks) hH e ?_ (r.eraseIdx k) ?_
  · show its.toArray.eraseIdxIfInBounds k = (its.eraseIdx k).toArray
    rw [List.eraseIdxIfInBounds_toArray]
  · have := len_erase xs k
    omega
end

/-! ### xs[a:b] = ys -/
section
variable {prog : Program} {w : World} {A : Around} {E : Value → Shared → Prop} {s : Shared}
theorem splice_eq (its its2 : List Value) (a c : Nat) : its.toArray.extract 0 a ++ its2.toArray ++ its.toArray.extract c its.toArray.size = (its.take a ++ its2 ++ its.drop c).toArray := by
  apply Array.toList_inj.mp
  first
    | (simp
       exact List.take_of_length_le (by simp))
    | simp [List.take_of_length_le]
    | simp
theorem bounds_run {a c n : Nat} (hac : a ≤ c) (hc : c ≤ n) : sliceBounds (some (a : Int)) (some (c : Int)) none n = ((a : Int), (c : Int), 1) := by
  simp only [sliceBounds, Option.getD_none]
  have h1 : ¬ ((a : Int) < 0) := by omega
  have h2 : ¬ ((c : Int) < 0) := by omega
  simp only [h1, h2, if_false, show (1 : Int) > 0 by decide, if_true]
  congr 1
  · omega
  · congr 1; omega
set_option maxRecDepth 100000 in
/-- list.__setitem__ with a slice of step one and another list -/
theorem setItem_slice {l b sl : Addr} {items new : Array Value} {n n2 : Nat} {vl vu : Value} {a c : Nat} {Q : Unit → Shared → Prop}
    (e : s.heap.get? l = some { cls := .type "list", data := .seq items n }) (e2 : s.heap.get? b = some { cls := .type "list", data := .seq new n2 }) (hne : l ≠ b)
    (hs : s.heap.IsSliceOf sl vl vu .none) (pl : IsPart vl (some (a : Int))) (pu : IsPart vu (some (c : Int))) (hac : a ≤ c) (hc : c ≤ items.size)
    (hsz : items.size + new.size ≤ sizeLine) (h : Q () { s with heap := s.heap.update l (Obj.mapSeq fun xs => xs.extract 0 a ++ new ++ xs.extract c xs.size) }) :
    wpAny (model prog w) A (setItem (.ref l) (.ref sl) (.ref b)) Q E s := by
  have hl : s.heap.IsList l items := PySem.IsL.isList e
  have hb : s.heap.IsList b new := PySem.IsL.isList e2
  obtain ⟨os, hos, hcs, hds⟩ := id hs
  have hTs : s.TypeIs (.ref sl) "slice" := ⟨os, hos, hcs⟩
  have hstep : ¬ ((rawPart none == rawInt 0) = true) := Bool.false_ne_true
  have hsame : Builtin.List.listSameRef (.ref l) (.ref b) = false := by
    unfold Builtin.List.listSameRef
    exact beq_eq_false_iff_ne.mpr hne
  have hmax : (max (a : Int) (c : Int)).toNat = c := by omega
  have hz' : ((fun xs : Array Value => xs.extract 0 a ++ new ++ xs.extract c xs.size) items).size ≤ sizeLine + 1 := by
    simp only [Array.size_append, Array.size_extract]
    omega
  unfold setItem
  try with_reducible refine wpAny_holding ?_
  first | refine wpAny_bind (wpAny_pure ?_) | skip
  refine wpAny_bind (wpAny_sequenceKey hl.typeIs (by decide) ?_)
  refine wpAny_bind (wpAny_callSpecial?_slot (name := Str.ofString "__setitem__") hl.typeIs slot_list_setitem
    (wpAny_call_entry slot_list_setitem hl.typeIs entry_list_setitem ?_ (args_list_setitem _ _ _)))
  show wpAny _ _ (Builtin.List.listSubscript? (.ref sl) >>= _) _ _ s
  refine wpAny_bind ?_
  unfold Builtin.List.listSubscript?
  refine wpAny_bind (wpAny_specialOf hTs slice_no_index ?_)
  simp only [Option.isNone_none, if_true]
  refine wpAny_pure ?_
  show wpAny _ _ (typeOf (.ref sl) >>= _) _ _ s
  refine wpAny_bind (wpAny_typeOf hTs ?_)
  first
    | rw [if_neg (by decide)]
    | refine PySem.W.KFB.if_not (by decide) ?_
  rw [listSliceParts_eq]
  refine wpAny_bind (wpAny_bind (wpAny_field hos hds (x := .none) rfl (wpAny_bind (wpAny_listPart .none ?_))))
  rw [if_neg hstep]
  refine wpAny_bind (wpAny_field hos hds (x := vl) rfl (wpAny_bind (wpAny_listPart pl ?_)))
  refine wpAny_bind (wpAny_field hos hds (x := vu) rfl (wpAny_bind (wpAny_listPart pu (wpAny_pure ?_))))
  first
    | simp only [hsame, Bool.false_eq_true, if_false]
    | refine PySem.W.KFB.if_not hsame ?_
    | (dsimp only
       rw [if_neg (by rw [hsame]; exact Bool.false_ne_true)])
  refine wpAny_bind (m := Builtin.List.listAllItems (.ref b) "must assign iterable to extended slice") ?_
  unfold Builtin.List.listAllItems
  refine wpAny_bind (wpAny_typeOf hb.typeIs ?_)
  first
    | refine PySem.W.KFB.if_so (by decide) ?_
    | rw [if_pos (by decide)]
    | simp only [beq_self_eq_true, Bool.true_or, if_true]
  unfold Builtin.List.listItems
  refine wpAny_bind (wpAny_seqItems e2 rfl (wpAny_pure ?_))
  refine wpAny_bind (wpAny_bind (wpAny_seqItems e rfl (wpAny_pure ?_)))
  refine wpAny_bind (wpAny_of_eq ((sliceIndices_raw (some (a : Int)) (some (c : Int)) none items.size (by simp)).trans (congrArg (pure : Int × Int × Int → Sem (Int × Int × Int)) (bounds_run hac hc))) ?_)
  show wpAny _ _ (if ((1 : Int) == 1) = true then _ else _) _ _ s
  rw [if_pos (by decide)]
  refine wpAny_bind (wpAny_rule ?_)
  first
    | simp only [notLongL hsz, Bool.false_eq_true, if_false]
    | refine PySem.W.KFB.if_not (notLongL hsz) ?_
  first | refine wpAny_bind (wpAny_pure ?_) | skip
  show wpAny _ _ (updateSeq l (fun xs => xs.extract 0 ((a : Int)).toNat ++ new ++ xs.extract (max (a : Int) (c : Int)).toNat xs.size) >>= _) _ _ s
  rw [hmax, Int.toNat_natCast]
  refine wpAny_bind (wpAny_updateSeq (hz := Nat.le_trans (Nat.le_add_right _ _) hsz) (_hz' := hz') e rfl ?_)
  refine wpAny_bind (wpAny_letGo ?_)
  first
    | exact wpAny_bind (wpAny_pure (wpAny_pure ⟨.none, rfl, wpAny_pure h⟩))
    | exact wpAny_pure ⟨.none, rfl, wpAny_pure h⟩
end

section
variable {X : Cx}
/-- xs[a:c] = ys of another list, at the value level: sl is the slice object that was just made -/
theorem set_slice {pins : List (Addr × Obj)} {s : Shared} {σ : St} {H : Hp} {l b sl : Addr} {xs ys : List V} {a c : Int} {vl vu : Value} {Q : Unit → Shared → Prop} (I : Inv X pins σ H s)
    (hH : H l = some (.lst xs)) (hB : H b = some (.lst ys)) (hne : l ≠ b) (hs : s.heap.IsSliceOf sl vl vu .none) (ra : RelV (.int a) vl) (rc : RelV (.int c) vu) (h0 : 0 ≤ a) (hac : a ≤ c) (hc : c ≤ xs.length)
    (hz : xs.length + ys.length ≤ sizeLine) (h : ∀ s', Inv X pins σ (upd H l (.lst (xs.take a.toNat ++ ys ++ xs.drop c.toNat))) s' → Q () s') :
    wpAny (model X.prog X.w) X.A (setItem (.ref l) (.ref sl) (.ref b)) Q X.xe s := by
  obtain ⟨ta, rfl⟩ := ra
  obtain ⟨tc, rfl⟩ := rc
  obtain ⟨z, its, n, r, hl, e⟩ := I.lstM hH
  obtain ⟨z2, its2, n2, r2, hl2, e2⟩ := I.lstM hB
  obtain ⟨a', rfl⟩ := Int.eq_ofNat_of_zero_le h0
  obtain ⟨c', rfl⟩ := Int.eq_ofNat_of_zero_le (Int.le_trans h0 hac)
  simp only [Int.toNat_natCast] at h
  refine setItem_slice (a := a') (c := c') e e2 hne hs (.int _ _) (.int _ _) (by omega) (by rw [List.size_toArray]; omega) (by rw [List.size_toArray, List.size_toArray]; omega) (h _ ?_)
  refine I.lset (its' := its.take a' ++ its2 ++ its.drop c') (t' := s.toks) hH e ?_ (Vals.append (Vals.append (r.take _) r2) (r.drop _)) ?_
  · exact splice_eq its its2 a' c'
  · rw [List.length_append, List.length_append, List.length_take, List.length_drop]
    omega
end
end L2

namespace Att
open PySem PySem.W PySem.Calls PyProof.Rows

/-! ### the script -/
theorem ints_of_wellAll {P : Params} {h : Heap} : ∀ (ns : List Int) (vs : List Value), WellAll P h vs (ns.map WData.int) → IntsAre vs ns := by
  intro ns
  induction ns with
  | nil =>
    intro vs w
    rw [List.map_nil] at w
    cases w
    exact .nil
  | cons n ns ih =>
    intro vs w
    rw [List.map_cons] at w
    cases w with
    | cons a b =>
      cases a
      exact .cons _ _ (ih _ b)

theorem script_of {l : OpenLaw} {n : Nat} (hn : l.most = some n) {P : Params} {h : Heap} {args : List WData} {vals : List Value}
    (hpre : l.row.toRowW.claim.pre args = true) (hwl : WellAll P h vals args) :
    ∃ a vs ns, vals = [Value.ref a] ∧ args = [WData.list (ns.map WData.int)] ∧ h.get? a = some { cls := .type "list", data := .seq vs.toArray } ∧ IntsAre vs ns ∧ ns.length ≤ n := by
  have hsh : WShape.hasAll [] args [.list .int] = true := (pre_splitW hpre).1
  have hc : l.pre.holds [] { args := args } = true := (pre_splitW hpre).2
  obtain ⟨d, r, rfl, h1, h2⟩ := hasAllW_cons hsh
  obtain rfl := hasAllW_nil h2
  obtain ⟨xs, rfl, h3⟩ := hasW_list h1
  obtain ⟨ns, rfl⟩ := items_int h3
  have hlen : ns.length ≤ n := by
    unfold OpenLaw.pre at hc
    have h4 : (WTm.not (.lt (.lit (.int (n : Int))) (.len (.arg 0)))).holds [] { args := [.list (ns.map .int)] } = true := by
      have h4 := (holds_andW hc).1
      rw [hn] at h4
      exact h4
    have h5 := condW_of h4 (w_not (w_lt w_lit (w_len_list (w_arg rfl))))
    rw [List.length_map] at h5
    refine Nat.le_of_not_lt fun q => ?_
    have q' : (n : Int) < ((ns.length : Nat) : Int) := by omega
    first
      | (rw [decide_eq_true q'] at h5; exact absurd h5 (by decide))
      | (simp at h5; omega)
  cases hwl with
  | cons w1 w2 =>
    cases w2
    cases w1 with
    | list ho hall => exact ⟨_, _, ns, rfl, rfl, ho, ints_of_wellAll ns _ hall, hlen⟩

theorem post_true (l : OpenLaw) (args : List WData) : l.row.toRowW.claim.post args (.bool true) args = true :=
  postW_of (r := l.row.toRowW) (X := (true == true))
    (show WShape.has [] (.bool true) .bool = true by first | rfl | decide | simp [WShape.has, WShape.arms, WShape.armsAll])
    (show (WTm.eq .res (.lit (.bool true))).value [] { args := args, res := some (.bool true), after := args } = some (.bool (true == true)) from w_eq_bool (w_res rfl) w_lit) rfl

/-! ### the attachment: holds_open's last premise (the goal 'hc' behind k_head) from a wpAny of the law's body -/
theorem attach {l : OpenLaw} {n : Nat} {q : Program} {loose : List Str} {XP : (Str → Option Value) → Heap → Prop} {YP : World → Heap → Prop} {d : DefRec} {x : Str}
    (hn : l.most = some n) (hdf : d.params.defaults = [])
    (hbind : ∀ pm cd doc v : Value, bindArgs (docDef d.name d.params d.body d.scope pm cd doc) ⟨[v], []⟩ = pure [(x, v)])
    (hx : d.scope.names.lookup x = some .local ∨ d.scope.names.lookup x = some .cell)
    (hk : d.scope.kind = .function) (hco : d.scope.isCoroutine = false) (hgen : d.scope.isGenerator = false)
    (body : ∀ (w : World) (s₀ s₁ s : Shared) (mg mb : Str → Option Value) (fa : Addr) (o : Obj) (pm cd doc : Value) (a : Addr) (vs : List Value) (ns : List Int),
      Ground q loose [] XP w s₀ mg mb s₁.heap → YP w s₁.heap →
      s₁.heap.get? fa = some o → o.data = .func (docDef d.name d.params d.body d.scope pm cd doc) → s₁.heap.CodeRec cd d.name → mg d.name = some (.ref fa) →
      s₁.heap.get? a = some { cls := .type "list", data := .seq vs.toArray } → IntsAre vs ns → ns.length ≤ n →
      s.gens = #[] → s.os = s₁.os →
      Fr s₁.heap s₁.heap.objs.size s.heap (bindL (envOfC d.name d.scope s₁.heap.objs.size fa cd).kindOf [(x, .ref a)] fun _ => none) →
      Cl s₁.heap.objs.size (cellsFrom (s₁.heap.objs.size + 1) d.scope.names []) s.heap (bindC (envOfC d.name d.scope s₁.heap.objs.size fa cd).kindOf [(x, .ref a)] fun _ => none) →
      wpAny (model l.prog w) (callerA.deeper (envOfC d.name d.scope s₁.heap.objs.size fa cd)) (execs d.body (envOfC d.name d.scope s₁.heap.objs.size fa cd))
        (fun f s' => f = .ret (.bool true) ∧ OldK s₁.heap s'.heap ∧ s'.os = s₁.os ∧ AllBare s'.gens) (fun _ _ => False) s) :
    WalkO q loose XP YP l.row.toRowW d [] (fun f vs => PySem.call f vs) := by
  intro w s₀ s₁ mg mb G Y fa o pm cd doc dV kV ho hd hcd hD hmg hg args vals as hpre hlay hrd hwl hlo
  obtain rfl : dV = .none := Dflts.none hD hdf
  obtain rfl : kV = .none := Dflts.noKw hD
  obtain ⟨a, vs, ns, rfl, rfl, hobj, hints, hlen⟩ := script_of hn hpre hwl
  refine enter_call ?_
  refine call_cells_ret (o := o) (by rw [depth_caller]; decide) ho (fd_plain hd) G.T.nolimit hcd (hbind pm cd doc (.ref a)) (fun y hy => ?_) (fun h₁ tk F X => ?_) hco hgen hk
  · obtain rfl : y = (x, Value.ref a) := List.mem_singleton.mp hy
    rcases hx with e | e
    · exact .inl e
    · exact .inr ⟨e, cellsFrom_some _ _ _ (.inl e)⟩
  · refine wpAny_mono (body w s₀ s₁ { s₁ with heap := h₁, toks := tk } mg mb fa o pm cd doc a vs ns G Y ho (fd_plain hd) hcd hmg hobj hints hlen hg rfl F X) (fun f s' hq => ?_) (fun _ _ hq => hq)
    obtain ⟨rfl, h2, h3, h4⟩ := hq
    exact ⟨.inl ⟨.bool true, .bool true, [], rfl, fun _ => rfl, .bool true, post_true l _, fun _ => ⟨List.Pairwise.nil, fun _ hm => (nomatch hm)⟩⟩, h2, h3, h4⟩

/-- the same from a codeAny of the CALL (for a layer whose function contracts speak of calls) -/
theorem attach_call {l : OpenLaw} {n : Nat} {q : Program} {loose : List Str} {XP : (Str → Option Value) → Heap → Prop} {YP : World → Heap → Prop} {d : DefRec}
    (hn : l.most = some n) (hdf : d.params.defaults = [])
    (call : ∀ (w : World) (s₀ s₁ : Shared) (mg mb : Str → Option Value) (fa : Addr) (o : Obj) (pm cd doc : Value) (a : Addr) (vs : List Value) (ns : List Int),
      Ground q loose [] XP w s₀ mg mb s₁.heap → YP w s₁.heap →
      s₁.heap.get? fa = some o → o.data = .func (docDef d.name d.params d.body d.scope pm cd doc) → s₁.heap.CodeRec cd d.name → mg d.name = some (.ref fa) →
      s₁.heap.get? a = some { cls := .type "list", data := .seq vs.toArray } → IntsAre vs ns → ns.length ≤ n → s₁.gens = #[] →
      codeAny (model l.prog w) callerA (.call (.ref fa) ⟨[.ref a], []⟩) (fun r s' => r = .ok (.ret (.bool true)) ∧ OldK s₁.heap s'.heap ∧ s'.os = s₁.os ∧ AllBare s'.gens) s₁) :
    WalkO q loose XP YP l.row.toRowW d [] (fun f vs => PySem.call f vs) := by
  intro w s₀ s₁ mg mb G Y fa o pm cd doc dV kV ho hd hcd hD hmg hg args vals as hpre hlay hrd hwl hlo
  obtain rfl : dV = .none := Dflts.none hD hdf
  obtain rfl : kV = .none := Dflts.noKw hD
  obtain ⟨a, vs, ns, rfl, rfl, hobj, hints, hlen⟩ := script_of hn hpre hwl
  refine enter_call (codeAny_mono (call w s₀ s₁ mg mb fa o pm cd doc a vs ns G Y ho (fd_plain hd) hcd hmg hobj hints hlen hg) fun r s' hq => ?_)
  obtain ⟨rfl, h2, h3, h4⟩ := hq
  exact ⟨.inl ⟨.bool true, .bool true, [], rfl, fun _ => rfl, .bool true, post_true l _, fun _ => ⟨List.Pairwise.nil, fun _ hm => (nomatch hm)⟩⟩, h2, h3, h4⟩

/-- the same where the top left finished generators (o_head chose holds_openN): nothing may have changed at all and no generator may be left -/
theorem attachN {l : OpenLaw} {n : Nat} {q : Program} {loose : List Str} {XP : (Str → Option Value) → Heap → Prop} {YP : World → Heap → Prop} {d : DefRec} {x : Str}
    (hn : l.most = some n) (hdf : d.params.defaults = [])
    (hbind : ∀ pm cd doc v : Value, bindArgs (docDef d.name d.params d.body d.scope pm cd doc) ⟨[v], []⟩ = pure [(x, v)])
    (hx : d.scope.names.lookup x = some .local ∨ d.scope.names.lookup x = some .cell)
    (hk : d.scope.kind = .function) (hco : d.scope.isCoroutine = false) (hgen : d.scope.isGenerator = false)
    (body : ∀ (w : World) (s₀ s₁ s : Shared) (mg mb : Str → Option Value) (fa : Addr) (o : Obj) (pm cd doc : Value) (a : Addr) (vs : List Value) (ns : List Int),
      Ground q loose [] XP w s₀ mg mb s₁.heap → YP w s₁.heap →
      s₁.heap.get? fa = some o → o.data = .func (docDef d.name d.params d.body d.scope pm cd doc) → s₁.heap.CodeRec cd d.name → mg d.name = some (.ref fa) →
      s₁.heap.get? a = some { cls := .type "list", data := .seq vs.toArray } → IntsAre vs ns → ns.length ≤ n →
      s.gens = #[] → s.os = s₁.os →
      Fr s₁.heap s₁.heap.objs.size s.heap (bindL (envOfC d.name d.scope s₁.heap.objs.size fa cd).kindOf [(x, .ref a)] fun _ => none) →
      Cl s₁.heap.objs.size (cellsFrom (s₁.heap.objs.size + 1) d.scope.names []) s.heap (bindC (envOfC d.name d.scope s₁.heap.objs.size fa cd).kindOf [(x, .ref a)] fun _ => none) →
      wpAny (model l.prog w) (callerA.deeper (envOfC d.name d.scope s₁.heap.objs.size fa cd)) (execs d.body (envOfC d.name d.scope s₁.heap.objs.size fa cd))
        (fun f s' => f = .ret (.bool true) ∧ (∀ b o, s₁.heap.get? b = some o → s'.heap.get? b = some o) ∧ s'.os = s₁.os ∧ s'.gens = #[]) (fun _ _ => False) s) :
    WalkN q loose XP YP l.row.toRowW d [] (fun f vs => PySem.call f vs) := by
  intro w s₀ s₁ mg mb G Y fa o pm cd doc dV kV ho hd hcd hD hmg hg args vals as hpre hlay hrd hwl hlo
  obtain rfl : dV = .none := Dflts.none hD hdf
  obtain rfl : kV = .none := Dflts.noKw hD
  obtain ⟨a, vs, ns, rfl, rfl, hobj, hints, hlen⟩ := script_of hn hpre hwl
  refine enter_callW ?_
  refine call_cells_ret (o := o) (by rw [depth_caller]; decide) ho (fd_plain hd) G.T.nolimit hcd (hbind pm cd doc (.ref a)) (fun y hy => ?_) (fun h₁ tk F X => ?_) hco hgen hk
  · obtain rfl : y = (x, Value.ref a) := List.mem_singleton.mp hy
    rcases hx with e | e
    · exact .inl e
    · exact .inr ⟨e, cellsFrom_some _ _ _ (.inl e)⟩
  · refine wpAny_mono (body w s₀ s₁ { s₁ with heap := h₁, toks := tk } mg mb fa o pm cd doc a vs ns G Y ho (fd_plain hd) hcd hmg hobj hints hlen hg rfl F X) (fun f s' hq => ?_) (fun _ _ hq => hq)
    obtain ⟨rfl, h2, h3, h4⟩ := hq
    exact ⟨.inl ⟨.bool true, .bool true, [], rfl, fun _ => rfl, .bool true, post_true l _, fun _ => ⟨List.Pairwise.nil, fun _ hm => (nomatch hm)⟩⟩, h2, h3, h4⟩

/-! ### rules over ANY heap (no ledger) from facts about the written part K: the library's own take a ledger (News) for what they write -/
section
variable {prog : Program} {w : World} {A : Around} {E : Value → Shared → Prop} {s : Shared} {K : Frag}

/-- a def of the module, or a method (qual 'C.m'), entered: the frame is the next address; cells behind it -/
theorem call_fn {R : Result → Shared → Prop} {name qual : Str} {params : Arguments} {body : List Stmt} {scope : Scope} {dV kV doc pm cdv ct oc : Value} {an od : Option Addr} {osl : Array (Option Value)} {f : Addr} {args : Args} {binds : List (Str × Value)}
    (X : K.In s.heap) (hlim : s.heap.NoLimit) (ho : K.lookup f = some ⟨oc, od, .func (fnOf name qual params body scope dV kV doc pm an cdv ct), osl⟩) (hcd : codeIn K cdv qual = true) (hroom : A.depth < recursionLimit)
    (hbind : BindsTo s (fnOf name qual params body scope dV kV doc pm an cdv ct) args binds)
    (hkind : (binds.all fun y => scope.names.lookup y.1 == some .local || scope.names.lookup y.1 == some .cell) = true)
    (h : ∀ s₁, InCallC s s.heap.objs.size (bindL (envOfC qual scope s.heap.objs.size f cdv).kindOf binds fun _ => none) (cellsFrom (s.heap.objs.size + 1) scope.names [])
        (bindC (envOfC qual scope s.heap.objs.size f cdv).kindOf binds fun _ => none) s₁ →
      wpAny (model prog w) (A.deeper (envOfC qual scope s.heap.objs.size f cdv)) (execs body (envOfC qual scope s.heap.objs.size f cdv))
        (fun fl s' => R (.ok (.ret (match fl with | .ret v => v | _ => .none))) s')
        (fun e s' => wpAny (model prog w) (A.deeper (envOfC qual scope s.heap.objs.size f cdv)) (leaving (envOfC qual scope s.heap.objs.size f cdv) e) (fun _ s'' => R (.error e) s'') (fun e' s'' => R (.error e') s'') s') s₁)
    (hco : scope.isCoroutine = false) (hgen : scope.isGenerator = false) (hk : scope.kind = .function) : codeAny (model prog w) A (.call (.ref f) args) R s := by
  refine codeAny_call_function hroom (X _ _ ho) rfl hco hgen rfl (codeRec_of X hcd) (hbind _ _ _ _ ?_)
  refine wpAny_newFunctionEnv_cells hk (kindsX hkind _) fun env he s₁ x => ?_
  subst he
  exact ⟨hlim.keeps x.toInCall.keep, codeAny_func (h s₁ x)⟩

/-- C(..): dict at size, instance at size + 1, then __init__ -/
theorem make_obj {R : Result → Shared → Prop} {C fI : Addr} {rest : List Value} {kw : List (Str × Value)}
    (X : K.In s.heap) (hm : makesIn K C = true) (hi : findIn K (.ref C) "__init__" = some (some (.ref fI))) (hf : isFn K (.ref fI) = true)
    (h : codeAny (model prog w) (A.under (.builtin "type.__call__" ⟨.ref C :: rest, kw⟩)) (.call (.ref fI) ⟨.ref (s.heap.objs.size + 1) :: rest, kw⟩) (InitBack (s.heap.objs.size + 1) R)
      { s with heap := (s.heap.push emptyDict).push (instObj C s.heap.objs.size) }) : codeAny (model prog w) A (.call (.ref C) ⟨rest, kw⟩) R s := by
  obtain ⟨hh, g, d, t, os⟩ := s
  exact make_core (makes_of X hm) (looks_findIn X hi) (fun self => bind_fn X self (beq_iff_eq.mp hf)) (.inl rfl) h

/-- x.name where the instance's dict holds the name and the class does not -/
theorem get_field {x C : Addr} {ox : Obj} {es : List DictEntry} {n : Nat} {name : Str} {expr : Bool} {v : Value} {Q : Value → Shared → Prop}
    (X : K.In s.heap) (I : PySem.W.InstAt s.heap x ox C (some (dictOf es n))) (hg : plainGet K C name = true) (hh : hasDictIn K C = true) (ha : findIn K (.ref C) name = some none)
    (hl : getL name es = some (some v)) (hv : handedIn v = true) (h : Q v { s with toks := s.toks + 1 }) : wpAny (model prog w) A (getAttr (.ref x) name expr) Q E s :=
  get_value X I (plainGet_of hg).1 (findObj_own hh ha rfl hl) hv h

/-- x.m(..): the method found in the class -/
theorem get_method {x C f : Addr} {ox : Obj} {es : List DictEntry} {n : Nat} {name : Str} {pl : Sem Bool} {Q : Value × List Value → Shared → Prop}
    (X : K.In s.heap) (I : PySem.W.InstAt s.heap x ox C (some (dictOf es n))) (hg : plainGet K C name = true) (hf : findIn K (.ref C) name = some (some (.ref f))) (ht : isFn K (.ref f) = true)
    (hl : getL name es = some none) (h : Q (.ref f, [.ref x]) s) : wpAny (model prog w) A (getMethod (.ref x) name pl) Q E s :=
  method_fn X I (plainGet_of hg).1 (plainGet_of hg).2 hf (beq_iff_eq.mp ht) (by show (lookIn name (dictOf es n)).map _ = _; rw [lookIn_dict, hl]; rfl) h

/-! the whole heap as the ledger: makes every rule that writes through a ledger a rule over any heap -/
def noObjs (h : Heap) : Heap := { h with objs := #[] }
theorem noObjs_get (h : Heap) (b : Addr) : (noObjs h).get? b = none := by
  cases e : (noObjs h).get? b with
  | none => rfl
  | some o => exact absurd (Heap.lt_size e) (Nat.not_lt_zero _)
def ledger (h : Heap) (L d : Addr) : List (Addr × Obj) := (List.range h.objs.size).filterMap fun a => if a = L ∨ a = d then none else (h.get? a).map fun o => (a, o)
theorem mem_ledger {h : Heap} {L d a : Addr} {o : Obj} : (a, o) ∈ ledger h L d ↔ a ≠ L ∧ a ≠ d ∧ h.get? a = some o := by
  unfold ledger
  rw [List.mem_filterMap]
  constructor
  · rintro ⟨b, _, e⟩
    split at e
    · cases e
    · rename_i hb
      obtain ⟨o', ho, e'⟩ := Option.map_eq_some_iff.mp e
      cases e'
      exact ⟨fun q => hb (.inl q), fun q => hb (.inr q), ho⟩
  · rintro ⟨n1, n2, ho⟩
    refine ⟨a, List.mem_range.mpr (Heap.lt_size ho), ?_⟩
    rw [if_neg (show ¬ (a = L ∨ a = d) from fun q => q.elim n1 n2), ho] <;> rfl
theorem news_ledger {h : Heap} {L d : Addr} {od : Obj} (hne : d ≠ L) (ho : h.get? d = some od) : News (noObjs h) L h ([] ++ (d, od) :: ledger h L d) := by
  rintro ⟨a, o⟩ hp
  rcases List.mem_cons.mp hp with e | hp
  · cases e
    exact ⟨ho, hne, noObjs_get _ _⟩
  · obtain ⟨n1, n2, e⟩ := mem_ledger.mp hp
    exact ⟨e, n1, noObjs_get _ _⟩
theorem fr_all {h : Heap} {L : Addr} {m : Str → Option Value} (n : h.Ns L m) : Fr (noObjs h) L h m :=
  ⟨n, fun b o e => (by rw [noObjs_get] at e; cases e), Nat.zero_le _⟩
/-- Upd of the head entry (for append_K, setItem_K ..) -/
theorem upd_ledger {h : Heap} {L d : Addr} {o o' : Obj} : Upd d o o' ((d, o) :: ledger h L d) ((d, o') :: ledger h L d) :=
  .head fun ⟨_, _⟩ hp => (mem_ledger.mp hp).2.1

/-- x.name = v over any heap: L is any namespace of the heap (the frame's, say): its map stays, its object is not told; all else but the dict stays -/
theorem set_field {x C dx L : Addr} {ox : Obj} {m : Str → Option Value} {es es' : List DictEntry} {n n' : Nat} {name : Str} {v : Value} {Q : Unit → Shared → Prop}
    (X : K.In s.heap) (I : PySem.W.InstAt s.heap x ox C (some (dictOf es n))) (hd : ox.dict = some dx) (hL : s.heap.Ns L m) (hne : dx ≠ L)
    (hs : findIn K (.ref C) "__setattr__" = some (some (.builtin "object.__setattr__"))) (hp : plainOver K C = true) (ht : takerIn K C name = some none) (hh : hasDictIn K C = true) (hl : (getL name es).isSome = true)
    (e : (putL name (PyData.keyHash w.params name) (.str name (s.toks + 1)) v es, putN name es n) = (es', n')) (hz : es'.length ≤ 1000)
    (h : ∀ h' : Heap, h'.Ns L m → h'.get? dx = some (dictOf es' n') → (∀ b o, b ≠ dx → b ≠ L → s.heap.get? b = some o → h'.get? b = some o) → Q () { s with heap := h', toks := s.toks + 2 }) :
    wpAny (model prog w) A (setAttr (.ref x) name v) Q E s := by
  obtain ⟨e1, e2⟩ := Prod.mk.inj e
  have hdx : s.heap.get? dx = some (dictOf es n) := by
    have := I.dict
    rw [hd] at this
    exact this
  refine set_plain X I hs (osa_dict (s := { s with toks := s.toks + 1 }) (h₀ := noObjs s.heap) (L := L) (m := m) (od := dictOf es n) (od' := dictOf es' n') (es := es') (n := n') (pre := []) (post := ledger s.heap L dx)
    (fr_all hL) (news_ledger hne hdx) X I hd hp ht hh hl (fun _ q => nomatch q) (fun ⟨_, _⟩ q => (mem_ledger.mp q).2.1) (by rw [putName_dict, e1, e2]) rfl hz fun h' F' N' => ?_)
  exact h h' F'.ns (N'.get (List.Mem.head _)) fun b o n1 n2 ho => N'.get (List.Mem.tail _ (mem_ledger.mpr ⟨n2, n1, ho⟩))
end
end Att

namespace L2
open PySem PySem.Spec PyProof.Rows

theorem vals_ints : ∀ {vs : List Value} {ns : List Int}, IntsAre vs ns → Vals (ns.map V.int) vs
  | _, _, .nil => .nil
  | _, _, .cons n t h => .cons ⟨t, rfl⟩ (vals_ints h)

/-- nothing is tracked but the script, known to the object (or it is an object of the module) -/
def Only (H : Hp) : Prop := ∀ b, H b = none ∨ ∃ o xs, H b = some (.frz o (.lst xs))

/-- THE HEAD: the law's promise, at the heap behind the top. F, the promise of the law's def, may use that base is part of the heap (so K.In base, base.Ns mainGlobals mg stand in Mod) -/
theorem law_call {P : Program} {w : World} {K : PySem.W.Frag} {mg mb : Str → Option Value} {CX : CXT} {k : Nat} {fa a : Addr} {fd : FuncData} {x : Str} {sp : Sp} {s₁ : Shared} {vs : List Value} {ns : List Int}
    (KX : K.In s₁.heap) (hns : s₁.heap.Ns mainGlobals mg) (hb : s₁.heap.Ns builtinsNs mb) (hbb : ∀ x : Str, x ≠ "__name__" → mb x = bootBuiltins x) (hlim : s₁.heap.NoLimit) (hg : s₁.gens = #[])
    (ha : s₁.heap.get? a = some { cls := .type "list", data := .seq vs.toArray }) (hi : IntsAre vs ns) (hl : ns.length ≤ sizeLine) (hr : Room k callerA)
    (F : ∀ base : Heap, K.In base → base.Ns mainGlobals mg → FnOk P w K mg base CX k fa fd [x] sp) (hbind : ∀ (s : Shared) (u : Value), BindsTo s fd ⟨[u], []⟩ [(x, u)])
    (hsp : ∀ H : Hp, Only H → SqL K H a (ns.map V.int) → sp [.ref a] H (fun v _ => v = .bl true) fun _ _ _ => False)
    (hCX : ∀ H e s', CX [] H s₁ (fun _ _ _ => False) e s' → False) :
    codeAny (model P w) callerA (.call (.ref fa) ⟨[.ref a], []⟩) (fun r s' => r = .ok (.ret (.bool true)) ∧ OldK s₁.heap s'.heap ∧ s'.os = s₁.os ∧ AllBare s'.gens) s₁ := by
  have rv := vals_ints hi
  have lenV := hi.length
  -- from an abstract heap in which nothing but the script may be tracked
  have core : ∀ H : Hp, Only H → SqL K H a (ns.map V.int) → HOk P w H s₁.heap → (∀ b, H b ≠ none → b = a) → (H a ≠ none → K.lookup a = none) →
      codeAny (model P w) callerA (.call (.ref fa) ⟨[.ref a], []⟩) (fun r s' => r = .ok (.ret (.bool true)) ∧ OldK s₁.heap s'.heap ∧ s'.os = s₁.os ∧ AllBare s'.gens) s₁ := by
    intro H hO hS hok hA hK
    have base_of : ∀ {b : Addr} {o : Obj}, s₁.heap.get? b = some o → H b = none → (hidT s₁.heap H).get? b = some o := fun e n => hidT_get e n
    have noA : ∀ {b : Addr} {o : Obj} {es : Array DictEntry} {ep : Nat}, s₁.heap.get? b = some o → o.data = .dict es ep → H b = none := fun {b o es ep} e d => by
      cases q : H b with
      | none => rfl
      | some u =>
        have e' : b = a := hA b (by rw [q]; simp)
        subst e'
        rw [ha] at e; cases e
        have d' : Data.seq vs.toArray _ = Data.dict es ep := d
        cases d'
    have nsK : ∀ {b : Addr} {m : Str → Option Value}, s₁.heap.Ns b m → (hidT s₁.heap H).Ns b m := fun {b m} ⟨o, es, ep, e, d, r⟩ => ⟨o, es, ep, base_of e (noA e d), d, r⟩
    have hKb : K.In (hidT s₁.heap H) := fun b o e => base_of (KX b o e) (by
      cases q : H b with
      | none => rfl
      | some u =>
        have e' : b = a := hA b (by rw [q]; simp)
        subst e'
        rw [hK (by rw [q]; simp)] at e; cases e)
    have hM : Mod K mg (hidT s₁.heap H) := ⟨hKb, nsK hns, ⟨mb, nsK hb, hbb⟩, let ⟨mc, h1, h2⟩ := hlim; ⟨mc, nsK h1, h2⟩⟩
    have e0 : Env0 P w K mg (hidT s₁.heap H) callerA [] s₁ H := ⟨rfl, hM, fun b o e => of_hidT e, Nat.le_of_eq (hidT_size _ _), trivial, fun b hb => absurd (show b ∈ ([] : List Addr) from hb) (by simp), hok, .of_eq hg⟩
    refine codeAny_mono ((F _ hKb (nsK hns)).run callerA [] s₁ H ⟨[.ref a], []⟩ [.ref a] [.ref a] _ _ hr e0 (hbind s₁ (.ref a)) (.cons rfl .nil) (hsp H hO hS)) fun r s' h => ?_
    cases r with
    | error e => exact (hCX H e s' h).elim
    | ok fl =>
      cases fl with
      | next => exact False.elim h
      | brk => exact False.elim h
      | cont => exact False.elim h
      | ret u =>
        obtain ⟨v, H', os, bare, un, hok', r', q⟩ := h
        have q' : v = .bl true := q
        subst q'
        obtain rfl : u = Value.bool true := r'
        refine ⟨rfl, OldK.of_keep fun b o e => ?_, os, bare⟩
        cases q : H b with
        | none => exact un.keep b o e q (by intro z; exact absurd (show b ∈ ([] : List Addr) from z) (by simp)) (by simp)
        | some u =>
          rcases hO b with z | ⟨ob, xs, z⟩
          · rw [q] at z; cases z
          · have z2 := un.frzs b ob _ z
            obtain ⟨e1, _⟩ := hok b _ z
            obtain ⟨e2, _⟩ := hok' b _ z2
            rw [e] at e1; cases e1
            exact e2
  cases hk : K.lookup a with
  | some o =>
    -- the script is one of the module's own objects
    have e := KX a o hk
    rw [ha] at e
    cases e
    refine core (fun _ => none) (fun _ => .inl rfl) (.inr ⟨_, vs.toArray, _, hk, rfl, rfl, rfl, by rw [List.size_toArray, lenV]; exact hl, by simpa using rv⟩) (fun b u z => by have z' : (none : Option HO) = some u := z; cases z') (fun b z => absurd rfl z) fun z => absurd rfl z
  | none =>
    refine core (fun b => if b = a then some (.frz { cls := .type "list", data := .seq vs.toArray } (.lst (ns.map V.int))) else none) (fun b => ?_) (.inl (.inr ⟨{ cls := .type "list", data := .seq vs.toArray }, if_pos rfl⟩)) (fun b u z => ?_) (fun b z => ?_) fun _ => hk
    · by_cases hb : b = a
      · exact .inr ⟨_, _, if_pos hb⟩
      · exact .inl (if_neg hb)
    · by_cases hb : b = a
      · have z' := (if_pos hb).symm.trans z
        cases z'
        subst hb
        exact ⟨ha, by rw [List.length_map]; exact hl, vs, _, rv, ha⟩
      · have z' := (if_neg hb).symm.trans z
        cases z'
    · by_cases hb : b = a
      · exact hb
      · exact absurd (if_neg hb) z
end L2

namespace L2
open PySem PySem.Spec PyProof.Rows

abbrev KOf {K : PySem.W.Frag} {h : Heap} (_ : K.In h) : PySem.W.Frag := K

/-- the goal that k_head leaves (case hc), from the law's promise. F gives the function object fd (K's own) once, then the promise over every base -/
theorem walk_of {l : PySem.W.OpenLaw} {n k : Nat} {q : Program} {loose : List Str} {XP : (Str → Option Value) → Heap → Prop} {YP : World → Heap → Prop} {d : DefRec} {K : Params → PySem.W.Frag} {CX : World → CXT} {sp : World → Sp} {x : Str}
    (hn : l.most = some n) (hn2 : n ≤ sizeLine) (hdf : d.params.defaults = []) (hr : Room k callerA)
    (hY : ∀ (w : World) (h : Heap), YP w h → (K w.params).In h)
    (F : ∀ (w : World) (mg : Str → Option Value) (fa : Addr) (h : Heap), (K w.params).In h → h.Ns mainGlobals mg → mg d.name = some (.ref fa) →
      ∃ fd : FuncData, (∀ (s : Shared) (u : Value), BindsTo s fd ⟨[u], []⟩ [(x, u)]) ∧
        ∀ base : Heap, (K w.params).In base → base.Ns mainGlobals mg → FnOk l.prog w (K w.params) mg base (CX w) k fa fd [x] (sp w))
    (hsp : ∀ (w : World) (H : Hp) (a : Addr) (ns : List Int), ns.length ≤ n → Only H → SqL (K w.params) H a (ns.map V.int) → sp w [.ref a] H (fun v _ => v = .bl true) fun _ _ _ => False)
    (hCX : ∀ (w : World) (H : Hp) (s : Shared) (e : Value) (s' : Shared), CX w [] H s (fun _ _ _ => False) e s' → False) :
    PySem.W.WalkO q loose XP YP l.row.toRowW d [] (fun f vs => PySem.call f vs) := by
  refine Att.attach_call hn hdf fun w s₀ s₁ mg mb fa o pm cd doc a vs ns G Y ho hd hcd hmg hobj hints hlen hg => ?_
  have KX := hY w _ Y
  obtain ⟨fd, hb, hF⟩ := F w mg fa _ KX G.T.g hmg
  exact law_call KX G.T.g G.T.b G.T.builtins G.T.nolimit hg hobj hints (Nat.le_trans hlen hn2) hr hF hb (fun H hO hS => hsp w H a ns hlen hO hS) fun H e s' => hCX w H s₁ e s'
/-- the same where the promise hangs on the written part alone: (sp := My.sp_law), no hole under a binder -/
theorem walk_ofK {l : PySem.W.OpenLaw} {n k : Nat} {q : Program} {loose : List Str} {XP : (Str → Option Value) → Heap → Prop} {YP : World → Heap → Prop} {d : DefRec} {K : Params → PySem.W.Frag} {CX : CXT} {sp : PySem.W.Frag → Sp} {x : Str}
    (hn : l.most = some n) (hn2 : n ≤ sizeLine) (hdf : d.params.defaults = []) (hr : Room k callerA)
    (hY : ∀ (w : World) (h : Heap), YP w h → (K w.params).In h)
    (F : ∀ (w : World) (mg : Str → Option Value) (fa : Addr) (h : Heap), (K w.params).In h → h.Ns mainGlobals mg → mg d.name = some (.ref fa) →
      ∃ fd : FuncData, (∀ (s : Shared) (u : Value), BindsTo s fd ⟨[u], []⟩ [(x, u)]) ∧
        ∀ base : Heap, (K w.params).In base → base.Ns mainGlobals mg → FnOk l.prog w (K w.params) mg base CX k fa fd [x] (sp (K w.params)))
    (hsp : ∀ (K : PySem.W.Frag) (H : Hp) (a : Addr) (ns : List Int), ns.length ≤ n → Only H → SqL K H a (ns.map V.int) → sp K [.ref a] H (fun v _ => v = .bl true) fun _ _ _ => False)
    (hCX : ∀ (H : Hp) (s : Shared) (e : Value) (s' : Shared), CX [] H s (fun _ _ _ => False) e s' → False) :
    PySem.W.WalkO q loose XP YP l.row.toRowW d [] (fun f vs => PySem.call f vs) :=
  walk_of (K := K) (CX := fun _ => CX) (sp := fun w => sp (K w.params)) hn hn2 hdf hr hY F (fun w H a ns h1 h2 h3 => hsp (K w.params) H a ns h1 h2 h3) fun _ H s e s' => hCX H s e s'
end L2

/- THE LAST THEOREM (shape; LID, My.* are yours):
   My.Adr: a structure of the addresses that your layer names (classes, functions); My.Txt K t: a structure (Prop) of the equations over K;
   My.txt_mk : {K} {implicit addresses ..} (e1 : nsIn K mainGlobals "law" = some (some (.ref f))) (e2 : K.lookup f = some ⟨oc, od, .func (fnOf "law" "law" params body scope dV kV doc pm an cdv ct), sl⟩) (e3 : codeIn K cdv "law" = true) .. : ∃ t, My.Txt K t

set_option maxRecDepth 100000 in
set_option maxHeartbeats 0 in
theorem PySem.Challenge.cw_LID_holds : PySem.Challenge.rw_LID.Holds := by
  w_on; o_law; k_head; (case hw => w_witness2)
  k_fill
  refine L2.walk_of (l := PySem.Challenge.rw_LID) (n := 63) (k := 40) (x := "script") (CX := fun w => ..) (sp := fun _ => My.sp_law) rfl (by decide) rfl ⟨rfl, by decide, by decide⟩ (fun w h Y => PySem.W.kIn_of Y) ?F ?S ?C
  case F =>
    intro w mg fa h KX G hmg
    have T : ∃ t, My.Txt (L2.KOf KX) t := by
      dsimp only [L2.KOf]                          -- K must stand as «<heap const> w.params» for k_is
      refine' My.txt_mk ?e1 ?e2 ?e3 ..
      (case e1 => PySem.W.k_is)                    -- in the order: a name -> its address -> its object -> its parts
      (case e2 => PySem.W.k_is)
      ..
    obtain ⟨t, T⟩ := T
    have e0 := hmg.symm.trans (PySem.W.mg_of KX G T.law)
    cases e0                                       -- fa is the law's own address
    exact ⟨_, fun s u => .of_eq rfl, fun base kb nb => My.law_fn T kb nb⟩     -- if «.of_eq rfl» comes too early: refine' ⟨_, ?b, fun base kb nb => My.law_fn T kb nb⟩; exact fun s u => .of_eq rfl
  case S => exact fun w H a ns hl hO hS => ..
  case C => exact ..
(the tactic k_is has no namespace: write k_is) -/

/-! SHORT WORDS over the layer: a def of the text, its body, what a loop and a test want. -/
namespace L2
open PySem PySem.Spec PyProof.Rows

/-! ### the text by places -/
/-- the j-th statement of a class's body -/
def inClass (s : Stmt) (j : Nat) : Stmt := match s with
  | .ClassDef _ _ _ body _ _ _ _ _ _ _ => body.getD j (.Pass ⟨0, 0, 0, 0⟩)
  | _ => .Pass ⟨0, 0, 0, 0⟩
def defArgs (s : Stmt) : Arguments := match s with
  | .FunctionDef _ a _ _ _ _ _ _ _ _ => a
  | _ => { posonlyargs := [], args := [], vararg := none, kwonlyargs := [], kw_defaults := [], kwarg := none, defaults := [] }
def defBody (s : Stmt) : List Stmt := match s with
  | .FunctionDef _ _ b _ _ _ _ _ _ _ => b
  | _ => []
def defScope (s : Stmt) : Scope := match s with
  | .FunctionDef _ _ _ _ _ _ sc _ _ _ => sc
  | _ => { kind := .function, names := [], isGenerator := false, isCoroutine := false }

/-! ### no exception leaves a def -/
abbrev CX0 : CXT := fun _ _ _ _ _ _ => False
abbrev E0 : XK := fun _ _ _ => False
theorem pass0 {X : Cx} : Passes CX0 X E0 := fun _ _ _ _ _ _ _ h => h.elim

/-! ### a def (or method) of the text as it stands behind the top -/
structure Fun (K : PySem.W.Frag) (x qual : Str) (st : Stmt) (f : Addr) (fd : FuncData) : Prop where
  ex : ∃ (oc : Value) (od : Option Addr) (kV doc pm : Value) (an : Option Addr) (cdv ct : Value) (osl : Array (Option Value)),
    fd = PySem.W.fnOf x qual (defArgs st) (defBody st) (defScope st) .none kV doc pm an cdv ct ∧ K.lookup f = some ⟨oc, od, .func fd, osl⟩ ∧ PySem.W.codeIn K cdv qual = true
  kp : PySem.W.keepIn K (.ref f) = true
section
variable {P : Program} {w : World} {K : PySem.W.Frag} {mg : Str → Option Value} {base : Heap}
/-- THE RULE for a def: its body as a term of rules, and the reading of that term -/
theorem Fun.ok {x qual : Str} {st : Stmt} {f : Addr} {fd : FuncData} {N ps : List Str} {k : Nat} {sp : Sp} (F : Fun K x qual st f fd) (S : FnScope N ps (defScope st)) (len : ∀ vs H Q E, sp vs H Q E → vs.length = ps.length)
    (hbody : ∀ (cdv : Value) (A : Around) (outer : List Env) (s : Shared) (H : Hp) (vs : List V) (Q : VK) (E : XK), Room k (A.deeper (envOfC qual (defScope st) s.heap.objs.size f cdv)) → sp vs H Q E →
      ∃ t, PSs (cxOf CX0 P w K mg base N qual (defScope st) f cdv A outer s H E).nox (defBody st) t ∧ t { nx := fun _ H' => Q .non H', rt := Q } (start N vs) H) : FnOk P w K mg base CX0 (k + 1) f fd ps sp := by
  obtain ⟨oc, od, kV, doc, pm, an, cdv, ct, osl, rfl, lk, hcd⟩ := F.ex
  refine fn_of lk hcd S len fun A outer s H vs Q E hr hsp => ?_
  obtain ⟨t, h, q⟩ := hbody cdv A outer s H vs Q E hr hsp
  exact ⟨t, h.nox, q⟩
/-- how its arguments bind (no defaults): h is «fun _ _ _ _ _ _ us hl => match us, hl with | [_, _], _ => rfl», one _ a parameter -/
theorem Fun.binds {x qual : Str} {st : Stmt} {f : Addr} {fd : FuncData} {ps : List Str} (F : Fun K x qual st f fd)
    (h : ∀ (kV doc pm : Value) (an : Option Addr) (cdv ct : Value) (us : List Value), us.length = ps.length → bindArgs (PySem.W.fnOf x qual (defArgs st) (defBody st) (defScope st) .none kV doc pm an cdv ct) ⟨us, []⟩ = pure (ps.zip us)) : Binds K fd ps [] := by
  obtain ⟨oc, od, kV, doc, pm, an, cdv, ct, osl, rfl, lk, hcd⟩ := F.ex
  exact .all (h kV doc pm an cdv ct)
theorem fun_mk {x qual : Str} {st : Stmt} {f : Addr} {oc : Value} {od an : Option Addr} {osl : Array (Option Value)} {kV doc pm cdv ct : Value} (l : K.lookup f = some ⟨oc, od, .func (PySem.W.fnOf x qual (defArgs st) (defBody st) (defScope st) .none kV doc pm an cdv ct), osl⟩)
    (c : PySem.W.codeIn K cdv qual = true) (k : PySem.W.keepIn K (.ref f) = true) : Fun K x qual st f (PySem.W.fnOf x qual (defArgs st) (defBody st) (defScope st) .none kV doc pm an cdv ct) := ⟨⟨oc, od, kV, doc, pm, an, cdv, ct, osl, rfl, l, c⟩, k⟩
end
theorem hu_of {A : Around} {k : Nat} (hr : Room k A) : A.units + 1 < cLine := Nat.lt_of_le_of_lt (Nat.add_le_add_left (by decide : 1 ≤ 64) _) hr.units
theorem small1000 {n : Nat} (h : n ≤ 1000) : n < sizeLine := Nat.lt_of_le_of_lt h (by decide)

/-! ### expressions in short: the name that stands in the i-th slot -/
section
variable {X : Cx}
theorem pv (i : Nat) {x : Str} {pos : Pos} (hN : X.N[i]? = some x := by rfl) (hv : Vis X.env.scope x := by first | exact Or.inl rfl | exact Or.inr (Or.inl rfl) | exact Or.inr (Or.inr rfl)) (hd : (x == ("__debug__" : Str)) = false := by decide)
    (hcd : (x == ("__classdict__" : Str)) = false := by decide) : PE X (.Name x pos) (tVar i) := pe_var hN hv hd hcd
end

/-! ### tests -/
theorem iteF {A B : Prop} (h : B) : if false = true then A else B := by
  rw [if_neg Bool.false_ne_true]
  exact h
theorem iteT {A B : Prop} (h : A) : if true = true then A else B := by
  rw [if_pos rfl]
  exact h
theorem ite2 {c A B : Prop} [Decidable c] (h1 : c → A) (h2 : ¬ c → B) : if c then A else B := by
  by_cases h : c
  · rw [if_pos h]
    exact h1 h
  · rw [if_neg h]
    exact h2 h
theorem iteNS {c A B : Prop} [Decidable c] (hc : c) (h : B) : if (!decide c) = true then A else B := by
  rw [decide_eq_true hc]
  exact iteF h

/-! ### heaps -/
/-- all that was tracked is as it was -/
def Same (H H' : Hp) : Prop := ∀ b o, H b = some o → H' b = some o
theorem Same.refl (H : Hp) : Same H H := fun _ _ h => h
theorem Same.trans {H H1 H2 : Hp} (a : Same H H1) (b : Same H1 H2) : Same H H2 := fun c o h => b c o (a c o h)
theorem Same.free {H H' : Hp} (e : Same H H') {l : Addr} (h : H' l = Option.none) : H l = Option.none := by
  cases q : H l with
  | none => rfl
  | some o =>
    rw [e l o q] at h
    cases h
theorem Same.seq {K : PySem.W.Frag} {H H' : Hp} {a : Addr} {xs : List V} (e : Same H H') (h : SqL K H a xs) : SqL K H' a xs := by
  rcases h with (h | ⟨o, h⟩) | h
  · exact .inl (.inl (e _ _ h))
  · exact .inl (.inr ⟨o, e _ _ h⟩)
  · exact .inr h

end L2
set_option Elab.async false
set_option linter.all false
set_option maxRecDepth 100000
namespace L2
open PySem PySem.Spec PyProof.Rows

/-! ### lists of pairs as tables -/
section
variable {κ : Type} [DecidableEq κ]
def valV (kvs : List (κ × V)) (k : κ) : Option V := (kvs.find? fun kv => decide (kv.1 = k)).map (·.2)
/-- in its place, or at the end -/
def putK (kvs : List (κ × V)) (k : κ) (v : V) : List (κ × V) :=
  if (kvs.any fun kv => decide (kv.1 = k)) = true then kvs.map (fun kv => if kv.1 = k then (kv.1, v) else kv) else kvs ++ [(k, v)]
def dropK (kvs : List (κ × V)) (k : κ) : List (κ × V) := kvs.filter fun kv => decide (kv.1 ≠ k)

theorem valV_nil {k : κ} : valV ([] : List (κ × V)) k = none := rfl
theorem valV_pos {p : κ × V} {r : List (κ × V)} {k : κ} (e : p.1 = k) : valV (p :: r) k = some p.2 := by simp [valV, List.find?_cons, e]
theorem valV_neg {p : κ × V} {r : List (κ × V)} {k : κ} (e : ¬ p.1 = k) : valV (p :: r) k = valV r k := by simp [valV, List.find?_cons, e]
theorem valV_any (k : κ) : ∀ kvs : List (κ × V), (kvs.any fun kv => decide (kv.1 = k)) = (valV kvs k).isSome
  | [] => rfl
  | p :: r => by
    rw [List.any_cons]
    by_cases e : p.1 = k
    · simp only [valV_pos e, decide_eq_true e, Bool.true_or, Option.isSome_some]
    · rw [valV_neg e, decide_eq_false e, Bool.false_or]; exact valV_any k r
theorem valV_map (k j : κ) (y : V) : ∀ kvs : List (κ × V), valV (kvs.map fun kv => if kv.1 = k then (kv.1, y) else kv) j = (valV kvs j).map fun x => if j = k then y else x
  | [] => rfl
  | p :: r => by
    have ih := valV_map k j y r
    rw [List.map_cons]
    by_cases h : p.1 = k
    · rw [if_pos h]
      by_cases e : p.1 = j
      · rw [valV_pos (p := (p.1, y)) e, valV_pos e, Option.map_some, if_pos (e.symm.trans h)]
      · rw [valV_neg (p := (p.1, y)) e, valV_neg e, ih]
    · rw [if_neg h]
      by_cases e : p.1 = j
      · rw [valV_pos (p := p) e, valV_pos e, Option.map_some, if_neg (fun z => h (e.trans z))]
      · rw [valV_neg (p := p) e, valV_neg e, ih]
theorem valV_snoc (k j : κ) (y : V) : ∀ kvs : List (κ × V), valV kvs k = none → valV (kvs ++ [(k, y)]) j = if j = k then some y else valV kvs j
  | [], _ => by
    by_cases e : k = j
    · rw [if_pos e.symm]; exact valV_pos (p := (k, y)) e
    · rw [if_neg (fun z => e z.symm)]; exact valV_neg (p := (k, y)) e
  | p :: r, hn => by
    rw [List.cons_append]
    have hk : ¬ p.1 = k := fun z => by rw [valV_pos z] at hn; cases hn
    rw [valV_neg hk] at hn
    have ih := valV_snoc k j y r hn
    by_cases e : p.1 = j
    · rw [valV_pos e, valV_pos e, if_neg (fun z => hk (e.trans z))]
    · rw [valV_neg e, valV_neg e, ih]
theorem valV_put (kvs : List (κ × V)) (k j : κ) (y : V) : valV (putK kvs k y) j = if j = k then some y else valV kvs j := by
  unfold putK
  by_cases a : (kvs.any fun kv => decide (kv.1 = k)) = true
  · rw [if_pos a, valV_map]
    rw [valV_any] at a
    by_cases e : j = k
    · obtain ⟨x, hx⟩ := Option.isSome_iff_exists.mp a
      rw [if_pos e, e, hx, Option.map_some, if_pos rfl]
    · rw [if_neg e]
      cases valV kvs j with
      | none => rfl
      | some x => rw [Option.map_some, if_neg e]
  · rw [if_neg a]
    refine valV_snoc k j y kvs ?_
    rw [valV_any] at a
    cases q : valV kvs k with
    | none => rfl
    | some x => rw [q] at a; exact (a rfl).elim
theorem length_putK (kvs : List (κ × V)) (k : κ) (v : V) : (putK kvs k v).length ≤ kvs.length + 1 := by
  unfold putK
  split
  · rw [List.length_map]; omega
  · rw [List.length_append, List.length_cons, List.length_nil]; omega
theorem putK_new {kvs : List (κ × V)} {k : κ} (v : V) (h : valV kvs k = none) : putK kvs k v = kvs ++ [(k, v)] := by
  unfold putK
  rw [valV_any, h]
  exact if_neg (by decide)

theorem RelO.isSome_eq {o : Option V} {u : Option Value} (r : RelO o u) : o.isSome = u.isSome := by
  cases o with
  | none => cases u with
    | none => rfl
    | some _ => exact (show False from r).elim
  | some _ => cases u with
    | none => exact (show False from r).elim
    | some _ => rfl
theorem RelO.getD {o : Option V} {u : Option Value} {d : V} {d' : Value} (r : RelO o u) (rd : RelV d d') : RelV (o.getD d) (u.getD d') := by
  cases o with
  | none => cases u with
    | none => exact rd
    | some _ => exact (show False from r).elim
  | some _ => cases u with
    | none => exact (show False from r).elim
    | some _ => exact r

/-- raw tables of the same keys -/
theorem KV.val {kvs : List (κ × V)} {vs : List (κ × Value)} (r : KV kvs vs) (k : κ) : RelO (valV kvs k) (valueAt vs k) := by
  unfold KV at r
  induction r with
  | nil => exact True.intro
  | @cons p q ps qs h t ih =>
    obtain ⟨h1, h2⟩ := h
    by_cases e : p.1 = k
    · have e' : q.1 = k := h1.symm.trans e
      have b : valueAt (q :: qs) k = some q.2 := by simp [valueAt, List.find?_cons, e']
      rw [valV_pos e, b]; exact h2
    · have e' : ¬ q.1 = k := fun z => e (h1.trans z)
      have b : valueAt (q :: qs) k = valueAt qs k := by simp [valueAt, List.find?_cons, e']
      rw [valV_neg e, b]; exact ih
theorem KV.any {kvs : List (κ × V)} {vs : List (κ × Value)} (r : KV kvs vs) (k : κ) : (kvs.any fun kv => decide (kv.1 = k)) = vs.any fun kv => decide (kv.1 = k) := by
  unfold KV at r
  induction r with
  | nil => rfl
  | cons h t ih => rw [List.any_cons, List.any_cons, ih, h.1]
theorem KV.repl {kvs : List (κ × V)} {vs : List (κ × Value)} (r : KV kvs vs) (k : κ) {y : V} {u : Value} (ry : RelV y u) :
    KV (kvs.map fun kv => if kv.1 = k then (kv.1, y) else kv) (vs.map fun kv => if kv.1 = k then (kv.1, u) else kv) := by
  unfold KV at r ⊢
  induction r with
  | nil => exact .nil
  | @cons p q ps qs h t ih =>
    rw [List.map_cons, List.map_cons]
    refine .cons ?_ ih
    obtain ⟨h1, h2⟩ := h
    by_cases e : p.1 = k
    · rw [if_pos e, if_pos (h1.symm.trans e)]; exact ⟨h1, ry⟩
    · rw [if_neg e, if_neg (fun z => e (h1.trans z))]; exact ⟨h1, h2⟩
theorem KV.put {kvs : List (κ × V)} {vs : List (κ × Value)} (r : KV kvs vs) (k : κ) {y : V} {u : Value} (ry : RelV y u) : KV (putK kvs k y) (stored vs k u) := by
  unfold putK stored
  rw [r.any k]
  by_cases e : (vs.any fun kv => decide (kv.1 = k)) = true
  · rw [if_pos e, if_pos e]; exact r.repl k ry
  · rw [if_neg e, if_neg e]; exact Paired.snoc r ⟨rfl, ry⟩
theorem KV.drop {kvs : List (κ × V)} {vs : List (κ × Value)} (r : KV kvs vs) (k : κ) : KV (dropK kvs k) (without vs k) := by
  unfold KV at r ⊢
  unfold dropK without
  induction r with
  | nil => exact .nil
  | @cons p q ps qs h t ih =>
    obtain ⟨h1, h2⟩ := h
    rw [List.filter_cons, List.filter_cons]
    by_cases e : p.1 = k
    · have a : ¬ decide (p.1 ≠ k) = true := by simp [e]
      have b : ¬ decide (q.1 ≠ k) = true := by simp [h1.symm.trans e]
      rw [if_neg a, if_neg b]; exact ih
    · have e' : ¬ q.1 = k := fun z => e (h1.trans z)
      have a : decide (p.1 ≠ k) = true := by simp [e]
      have b : decide (q.1 ≠ k) = true := by simp [e']
      rw [if_pos a, if_pos b]; exact .cons ⟨h1, h2⟩ ih
theorem KV.keys {kvs : List (κ × V)} {vs : List (κ × Value)} (r : KV kvs vs) : kvs.map (·.1) = vs.map (·.1) := by
  unfold KV at r
  induction r with
  | nil => rfl
  | cons h t ih => rw [List.map_cons, List.map_cons, ih, h.1]
theorem KV.length {kvs : List (κ × V)} {vs : List (κ × Value)} (r : KV kvs vs) : kvs.length = vs.length := Paired.length r
theorem dropK_le (kvs : List (κ × V)) (k : κ) : (dropK kvs k).length ≤ kvs.length := List.length_filter_le _ _
end


/-! ### a tracked dict, its keys ints and texts or tuples of these -/
theorem kV_is {P : Program} {w : World} {k : Key} {u : Value} (r : RelV (kV k) u) : (mixKind P w).is k u = true := by
  cases k with
  | inl i => obtain ⟨t, e⟩ := (show ∃ t, u = Value.int i t from r); subst e; exact mixKind_int P w i t
  | inr x => obtain ⟨t, e⟩ := (show ∃ t, u = Value.str x t from r); subst e; exact mixKind_str P w x t
theorem kV_inj {a b : Key} (e : kV a = kV b) : a = b := by
  cases a with
  | inl i => cases b with
    | inl j => have e' : V.int i = V.int j := e; injection e' with e'; rw [e']
    | inr y => exact nomatch (show V.int i = V.str y from e)
  | inr x => cases b with
    | inl j => exact nomatch (show V.str x = V.int j from e)
    | inr y => have e' : V.str x = V.str y := e; injection e' with e'; rw [e']
theorem kVs_inj : ∀ {a b : List Key}, a.map kV = b.map kV → a = b
  | [], [], _ => rfl
  | [], _ :: _, e => by simp at e
  | _ :: _, [], e => by simp at e
  | x :: xs, y :: ys, e => by
    rw [List.map_cons, List.map_cons] at e
    injection e with e1 e2
    rw [kV_inj e1, kVs_inj e2]
theorem items_are {P : Program} {w : World} : ∀ {ks : List Key} {us : List Value}, Vals (ks.map kV) us → ItemsAre (mixKind P w) ks us
  | [], _, r => by rw [List.map_nil] at r; cases r; exact .nil
  | k :: ks, _, r => by
    rw [List.map_cons] at r
    cases r with
    | cons h t => exact .cons (kV_is h) (items_are t)

/-- raw entries of a dict with tuple keys -/
abbrev KT (H : Hp) : List (List Key × V) → List (List Key × Addr × Value) → Prop := Paired fun p q => p.1 = q.1 ∧ H q.2.1 = some (.tup (p.1.map kV)) ∧ RelV p.2 q.2.2
theorem KT.val {H : Hp} {kvs : List (List Key × V)} {xs : List (List Key × Addr × Value)} (r : KT H kvs xs) (k : List Key) : RelO (valV kvs k) ((atKey xs k).map (·.2)) := by
  induction r with
  | nil => exact True.intro
  | @cons p q ps qs h t ih =>
    obtain ⟨h1, _, h2⟩ := h
    by_cases e : p.1 = k
    · have e' : q.1 = k := h1.symm.trans e
      have b : atKey (q :: qs) k = some q.2 := by simp [atKey, List.find?_cons, e']
      rw [valV_pos e, b]; exact h2
    · have e' : ¬ q.1 = k := fun z => e (h1.trans z)
      have b : atKey (q :: qs) k = atKey qs k := by simp [atKey, List.find?_cons, e']
      rw [valV_neg e, b]; exact ih
theorem KT.repl {H : Hp} {kvs : List (List Key × V)} {xs : List (List Key × Addr × Value)} (r : KT H kvs xs) (k : List Key) {y : V} {u : Value} (ry : RelV y u) :
    KT H (kvs.map fun kv => if kv.1 = k then (kv.1, y) else kv) (xs.map (putAt k u)) := by
  induction r with
  | nil => exact .nil
  | @cons p q ps qs h t ih =>
    rw [List.map_cons, List.map_cons]
    refine .cons ?_ ih
    obtain ⟨h1, h2, h3⟩ := h
    unfold putAt
    by_cases e : p.1 = k
    · rw [if_pos e, if_pos (h1.symm.trans e)]; exact ⟨h1, h2, ry⟩
    · rw [if_neg e, if_neg (fun z => e (h1.trans z))]; exact ⟨h1, h2, h3⟩
theorem KT.put {H : Hp} {kvs : List (List Key × V)} {xs : List (List Key × Addr × Value)} (r : KT H kvs xs) (k : List Key) {b : Addr} {y : V} {u : Value} (hb : H b = some (.tup (k.map kV))) (ry : RelV y u) :
    KT H (putK kvs k y) (storedH xs k b u) := by
  have e : (kvs.any fun kv => decide (kv.1 = k)) = (atKey xs k).isSome := by
    rw [valV_any, (r.val k).isSome_eq, Option.isSome_map]
  unfold putK storedH
  rw [e]
  by_cases q : (atKey xs k).isSome = true
  · rw [if_pos q, if_pos q]; exact r.repl k ry
  · rw [if_neg q, if_neg q]; exact Paired.snoc r ⟨rfl, hb, ry⟩
theorem KT.keeps {H H' : Hp} {kvs : List (List Key × V)} {xs : List (List Key × Addr × Value)} (r : KT H kvs xs) (ht : ∀ b ys, H b = some (.tup ys) → H' b = some (.tup ys)) : KT H' kvs xs :=
  Paired.mapP r fun _ _ z => ⟨z.1, ht _ _ z.2.1, z.2.2⟩

section
variable {P : Program} {w : World} {H : Hp} {h : Heap} {a : Addr}
theorem rd_of {u : HO} (ok : HOk P w H h) (e : Rd H a u) : ObjOk P w H h a u := e.ok ok
theorem dk_rd {kvs : List (Key × V)} (ok : HOk P w H h) (e : Rd H a (.dK kvs)) : kvs.length ≤ sizeLine ∧ (a == sysModules) = false ∧ ∃ vs, KV kvs vs ∧ h.DictOf (mixKind P w) a vs :=
  show ObjOk P w H h a (.dK kvs) from rd_of ok e
theorem dk_of {kvs : List (Key × V)} (ok : HOk P w H h) (e : H a = some (.dK kvs)) : kvs.length ≤ sizeLine ∧ (a == sysModules) = false ∧ ∃ vs, KV kvs vs ∧ h.DictOf (mixKind P w) a vs := dk_rd ok (.inl e)
/-- a tracked tuple of ints and texts is a key -/
theorem key_of {ks : List Key} (ok : HOk P w H h) (e : H a = some (.tup (ks.map kV))) : (tupleKind (mixKind P w)).is h ks a := by
  obtain ⟨_, its, r, o, h1, h2, n, h3⟩ := (show ObjOk P w H h a (.tup (ks.map kV)) from ok a _ e)
  exact ⟨o, its.toArray, n, h1, h2, h3, by simpa using items_are r⟩
theorem dt_rd {kvs : List (List Key × V)} (ok : HOk P w H h) (e : Rd H a (.dT kvs)) : kvs.length ≤ sizeLine ∧ (a == sysModules) = false ∧
    ∃ xs, KT H kvs xs ∧ h.DictOfH (tupleKind (mixKind P w)) a xs := by
  obtain ⟨z, y, xs, r, o, es, ep, h1, h2, h3, h4, h5⟩ := (show ObjOk P w H h a (.dT kvs) from rd_of ok e)
  refine ⟨z, y, xs, r, o, es, ep, h1, h2, h3, h4, fun x hx => ?_, h5⟩
  have all : ∀ {l : List (List Key × V)} {m : List (List Key × Addr × Value)}, KT H l m → ∀ x ∈ m, (tupleKind (mixKind P w)).is h x.1 x.2.1 := by
    intro l m q
    induction q with
    | nil => intro x hx; exact nomatch hx
    | @cons p q ps qs hq t ih =>
      intro x hx
      rcases List.mem_cons.mp hx with e | hx
      · subst e
        exact key_of ok (by rw [← hq.1]; exact hq.2.1)
      · exact ih x hx
  exact all r x hx
theorem dt_of {kvs : List (List Key × V)} (ok : HOk P w H h) (e : H a = some (.dT kvs)) : kvs.length ≤ sizeLine ∧ (a == sysModules) = false ∧
    ∃ xs, KT H kvs xs ∧ h.DictOfH (tupleKind (mixKind P w)) a xs := dt_rd ok (.inl e)
end

/-- what the dict at a holds at the key y -/
def DGet (H : Hp) (a : Addr) (y : V) (r : Option V) : Prop :=
  (∃ kvs k, Rd H a (.dK kvs) ∧ y = kV k ∧ r = valV kvs k) ∨ ∃ kvs k b, Rd H a (.dT kvs) ∧ y = .ref b ∧ H b = some (.tup (k.map kV)) ∧ r = valV kvs k
/-- the heap behind a[y] = v -/
def DPut (H : Hp) (a : Addr) (y v : V) (H' : Hp) : Prop :=
  (∃ kvs k, H a = some (.dK kvs) ∧ y = kV k ∧ kvs.length < sizeLine ∧ H' = upd H a (.dK (putK kvs k v))) ∨
  ∃ kvs k b, H a = some (.dT kvs) ∧ y = .ref b ∧ H b = some (.tup (k.map kV)) ∧ kvs.length < sizeLine ∧ H' = upd H a (.dT (putK kvs k v))
theorem DGet.k {H : Hp} {a : Addr} {kvs : List (Key × V)} {k : Key} (e : H a = some (.dK kvs)) : DGet H a (kV k) (valV kvs k) := .inl ⟨kvs, k, .inl e, rfl, rfl⟩
theorem DGet.t {H : Hp} {a b : Addr} {kvs : List (List Key × V)} {k : List Key} (e : H a = some (.dT kvs)) (eb : H b = some (.tup (k.map kV))) : DGet H a (.ref b) (valV kvs k) := .inr ⟨kvs, k, b, .inl e, rfl, eb, rfl⟩
theorem DPut.k {H : Hp} {a : Addr} {kvs : List (Key × V)} {k : Key} {v : V} (e : H a = some (.dK kvs)) (hl : kvs.length < sizeLine) : DPut H a (kV k) v (upd H a (.dK (putK kvs k v))) := .inl ⟨kvs, k, e, rfl, hl, rfl⟩
theorem DPut.t {H : Hp} {a b : Addr} {kvs : List (List Key × V)} {k : List Key} {v : V} (e : H a = some (.dT kvs)) (eb : H b = some (.tup (k.map kV))) (hl : kvs.length < sizeLine) :
    DPut H a (.ref b) v (upd H a (.dT (putK kvs k v))) := .inr ⟨kvs, k, b, e, rfl, eb, hl, rfl⟩


section
variable {X : Cx} {pins : List (Addr × Obj)} {σ : St} {H : Hp} {s : Shared} {a : Addr} {y v : V} {u r : Value} {o : Option V} {A : Around} {E : Value → Shared → Prop}

theorem Inv.big (I : Inv X pins σ H s) : sysModules < s.heap.objs.size := by
  have h : mainGlobals < s.heap.objs.size := (I.mod.glob.keeps I.bk).lt
  exact Nat.lt_trans (by decide) h

/-- d[y], there -/
theorem d_getItem {Q : Value → Shared → Prop} (hu : A.units + 1 < cLine) (I : Inv X pins σ H s) (g : DGet H a y (some v)) (ry : RelV y u) (h : ∀ w' s', Inv X pins σ H s' → RelV v w' → Q w' s') :
    wpAny (model X.prog X.w) A (getItem (.ref a) u) Q E s := by
  rcases g with ⟨kvs, k, e, ey, l⟩ | ⟨kvs, k, b, e, ey, eb, l⟩
  · subst ey
    obtain ⟨z, hd, vs, rel, dd⟩ := dk_rd I.hok e
    obtain ⟨w', hw, rw'⟩ := RelO.some_of (v := v) (o := valueAt vs k) (by rw [l]; exact rel.val k)
    exact wpAny_getItem_of (kV_is ry) dd.mapOf hw (h w' _ (I.tok _) rw')
  · subst ey
    cases (show u = Value.ref b from ry)
    obtain ⟨z, hd, xs, rel, dd⟩ := dt_rd I.hok e
    obtain ⟨w', hw, rw'⟩ := RelO.some_of (v := v) (o := (atKey xs k).map (·.2)) (by rw [l]; exact rel.val k)
    obtain ⟨p, hp, hp2⟩ := Option.map_eq_some_iff.mp hw
    refine wpAny_getItem_heap (tupleKind_room_in1 hu) (key_of I.hok eb) dd hp ?_
    rw [hp2]
    exact h w' _ (I.tok _) rw'
/-- y in d -/
theorem d_in {Q : Value → Shared → Prop} (hu : A.units + 1 < cLine) (I : Inv X pins σ H s) (g : DGet H a y o) (ry : RelV y u) (h : ∀ s', Inv X pins σ H s' → Q (.bool o.isSome) s') :
    wpAny (model X.prog X.w) A (compareOp .In u (.ref a)) Q E s := by
  rcases g with ⟨kvs, k, e, ey, l⟩ | ⟨kvs, k, b, e, ey, eb, l⟩
  · subst ey
    obtain ⟨z, hd, vs, rel, dd⟩ := dk_rd I.hok e
    refine wpAny_in_of (kV_is ry) hd dd.mapOf ?_
    rw [← (rel.val k).isSome_eq, ← l]
    exact h _ (I.tok _)
  · subst ey
    cases (show u = Value.ref b from ry)
    obtain ⟨z, hd, xs, rel, dd⟩ := dt_rd I.hok e
    refine wpAny_in_heap (tupleKind_room_in1 hu) (key_of I.hok eb) hd dd ?_
    have q := (rel.val k).isSome_eq
    rw [Option.isSome_map] at q
    rw [← q, ← l]
    exact h _ (I.tok _)
theorem d_notIn {Q : Value → Shared → Prop} (hu : A.units + 1 < cLine) (I : Inv X pins σ H s) (g : DGet H a y o) (ry : RelV y u) (h : ∀ s', Inv X pins σ H s' → Q (.bool (!o.isSome)) s') :
    wpAny (model X.prog X.w) A (compareOp .NotIn u (.ref a)) Q E s := by
  rcases g with ⟨kvs, k, e, ey, l⟩ | ⟨kvs, k, b, e, ey, eb, l⟩
  · subst ey
    obtain ⟨z, hd, vs, rel, dd⟩ := dk_rd I.hok e
    refine wpAny_notIn_of (kV_is ry) hd dd.mapOf ?_
    rw [← (rel.val k).isSome_eq, ← l]
    exact h _ (I.tok _)
  · subst ey
    cases (show u = Value.ref b from ry)
    obtain ⟨z, hd, xs, rel, dd⟩ := dt_rd I.hok e
    refine wpAny_notIn_heap (tupleKind_room_in1 hu) (key_of I.hok eb) hd dd ?_
    have q := (rel.val k).isSome_eq
    rw [Option.isSome_map] at q
    rw [← q, ← l]
    exact h _ (I.tok _)
/-- a dict's object is replaced -/
theorem d_write {h' : Heap} {t' : Nat} {ob : HO} (I : Inv X pins σ H s) (mu : Mut (H a)) (hs : Heap.SameBut a s.heap h') (he : ∃ q, h'.get? a = some q) (new : ObjOk X.prog X.w (upd H a ob) h' a ob) :
    Inv X pins σ (upd H a ob) { s with heap := h', toks := t' } :=
  I.write (x := a) (e := a) mu (.inl rfl) (fun b q hb z => (hs.2 b hb).trans z) he new
theorem dk_new {P : Program} {w : World} {H' : Hp} {h' : Heap} {kvs : List (Key × V)} {vs : List (Key × Value)} (z : kvs.length ≤ sizeLine) (hd : (a == sysModules) = false) (rel : KV kvs vs) (dd : h'.DictOf (mixKind P w) a vs) :
    ObjOk P w H' h' a (.dK kvs) := ⟨z, hd, vs, rel, dd⟩
/-- d[y] = v -/
theorem d_setItem {H' : Hp} {Q : Unit → Shared → Prop} (hu : A.units + 1 < cLine) (I : Inv X pins σ H s) (g : DPut H a y v H') (ry : RelV y u) (rv : RelV v r) (h : ∀ s', Inv X pins σ H' s' → Q () s') :
    wpAny (model X.prog X.w) A (setItem (.ref a) u r) Q E s := by
  rcases g with ⟨kvs, k, e, ey, l, eH⟩ | ⟨kvs, k, b, e, ey, eb, l, eH⟩
  · subst ey eH
    obtain ⟨z, hd, vs, rel, dd⟩ := dk_of I.hok e
    have hz : vs.length ≤ sizeLine := by rw [← rel.length]; exact z
    have hl : (putK kvs k v).length ≤ sizeLine := by have := length_putK kvs k v; omega
    refine wpAny_setItem_pairs (hsz := hz) (kV_is ry) dd fun h' dd' hs => h _ ?_
    have he : ∃ q, h'.get? a = some q := let ⟨q, _, _, hq, _⟩ := dd'; ⟨q, hq⟩
    exact d_write I (by rw [e]; exact True.intro) hs he (dk_new hl hd (rel.put k rv) dd')
  · subst ey eH
    cases (show u = Value.ref b from ry)
    obtain ⟨z, hd, xs, rel, dd⟩ := dt_of I.hok e
    have hz : xs.length ≤ sizeLine := by rw [← Paired.length rel]; exact z
    have hl : (putK kvs k v).length ≤ sizeLine := by have := length_putK kvs k v; omega
    refine wpAny_setItem_heap (hsz := hz) (tupleKind_room_in1 hu) (key_of I.hok eb) dd fun h' dd' hs => h _ ?_
    obtain ⟨q, es, ep, hq, h2, h3, h4, _, h5⟩ := dd'
    refine d_write I (by rw [e]; exact True.intro) hs ⟨q, hq⟩ ⟨hl, hd, _, (rel.put k eb rv).keeps fun c ys ec => ?_, q, es, ep, hq, h2, h3, h4, h5⟩
    rw [upd_ne (ne_of ec e (fun z => nomatch z))]
    exact ec
end

section
variable {X : Cx} {pins : List (Addr × Obj)} {σ : St} {H : Hp} {s : Shared} {a : Addr} {kvs : List (Key × V)} {k : Key} {u : Value} {A : Around} {E : Value → Shared → Prop}
/-- del d[k] -/
theorem d_delItem {Q : Unit → Shared → Prop} (I : Inv X pins σ H s) (e : H a = some (.dK kvs)) (ry : RelV (kV k) u) (l : (valV kvs k).isSome = true) (h : ∀ s', Inv X pins σ (upd H a (.dK (dropK kvs k))) s' → Q () s') :
    wpAny (model X.prog X.w) A (delItem (.ref a) u) Q E s := by
  obtain ⟨z, hd, vs, rel, dd⟩ := dk_of I.hok e
  refine wpAny_delItem_slot dd.typeIs (by decide) PySem.F.slot_dict_delitem
    (call_meetsIn PySem.F.slot_dict_delitem dd.typeIs PySem.F.entry_dict_delitem (PySem.F.args_dict_delitem_2 _ _) (meets_dict_delitem_pairs (mixKind X.prog X.w) a (kV_is ry)) ⟨vs, dd, by rw [← rel.length]; exact z, by rw [← (rel.val k).isSome_eq]; exact l, fun h' dd' hs => h _ ?_⟩)
  have he : ∃ q, h'.get? a = some q := let ⟨q, _, _, hq, _⟩ := dd'; ⟨q, hq⟩
  exact d_write I (by rw [e]; exact True.intro) hs he (dk_new (Nat.le_trans (dropK_le kvs k) z) hd (rel.drop k) dd')
/-- d.pop(k[, x]), there -/
theorem d_pop {v : V} {more : List Value} {Q : Value → Shared → Prop} (I : Inv X pins σ H s) (e : H a = some (.dK kvs)) (ry : RelV (kV k) u) (l : valV kvs k = some v) (hm : more = [] ∨ ∃ x, more = [x])
    (h : ∀ w' s', Inv X pins σ (upd H a (.dK (dropK kvs k))) s' → RelV v w' → Q w' s') : wpAny (model X.prog X.w) A (call (.builtin "dict.pop") (.ref a :: u :: more)) Q E s := by
  obtain ⟨z, hd, vs, rel, dd⟩ := dk_of I.hok e
  obtain ⟨w', hw, rw'⟩ := RelO.some_of (v := v) (o := valueAt vs k) (by rw [← l]; exact rel.val k)
  have hp : (keyPart u).isSome = true := by
    cases k with
    | inl i => obtain ⟨t, q⟩ := (show ∃ t, u = Value.int i t from ry); subst q; rfl
    | inr x => obtain ⟨t, q⟩ := (show ∃ t, u = Value.str x t from ry); subst q; rfl
  have ha : argsOk "dict.pop" ⟨.ref a :: u :: more, []⟩ := by
    rcases hm with q | ⟨x, q⟩
    · subst q; exact PySem.F.args_dict_pop_2 _ _
    · subst q; exact PySem.F.args_dict_pop_3 _ _ _
  refine call_meetsIn PySem.F.slot_dict_pop dd.typeIs PySem.F.entry_dict_pop ha (meets_dict_pop_there (mixKind X.prog X.w) a (kV_is ry) more hm hp)
    ⟨vs, w', dd, by rw [← rel.length]; exact z, hw, fun h' dd' hs => h w' _ ?_ rw'⟩
  have he : ∃ q, h'.get? a = some q := let ⟨q, _, _, hq, _⟩ := dd'; ⟨q, hq⟩
  exact d_write I (by rw [e]; exact True.intro) hs he (dk_new (Nat.le_trans (dropK_le kvs k) z) hd (rel.drop k) dd')
/-- d.pop(k, x), not there -/
theorem d_popD {r : Value} {Q : Value → Shared → Prop} (I : Inv X pins σ H s) (e : H a = some (.dK kvs)) (ry : RelV (kV k) u) (l : valV kvs k = none) (h : ∀ s', Inv X pins σ H s' → Q r s') :
    wpAny (model X.prog X.w) A (call (.builtin "dict.pop") [.ref a, u, r]) Q E s := by
  obtain ⟨z, hd, vs, rel, dd⟩ := dk_of I.hok e
  have hn : valueAt vs k = none := RelO.none_of (by rw [← l]; exact rel.val k)
  have hp : (keyPart u).isSome = true := by
    cases k with
    | inl i => obtain ⟨t, q⟩ := (show ∃ t, u = Value.int i t from ry); subst q; rfl
    | inr x => obtain ⟨t, q⟩ := (show ∃ t, u = Value.str x t from ry); subst q; rfl
  exact call_meetsIn PySem.F.slot_dict_pop dd.typeIs PySem.F.entry_dict_pop (PySem.F.args_dict_pop_3 _ _ _) (meets_dict_pop_default (mixKind X.prog X.w) a (kV_is ry) hd hp r) ⟨vs, dd, hn, h _ (I.tok _)⟩
/-- d.clear() -/
theorem d_clear {Q : Value → Shared → Prop} (I : Inv X pins σ H s) (e : H a = some (.dK kvs)) (h : ∀ s', Inv X pins σ (upd H a (.dK [])) s' → Q .none s') : wpAny (model X.prog X.w) A (call (.builtin "dict.clear") [.ref a]) Q E s := by
  obtain ⟨z, hd, vs, rel, dd⟩ := dk_of I.hok e
  refine call_meetsIn PySem.F.slot_dict_clear dd.typeIs PySem.F.entry_dict_clear (PySem.F.args_dict_clear_1 _) (meets_dict_clear (mixKind X.prog X.w) a) ⟨vs, dd, by rw [← rel.length]; exact z, fun h' dd' hs => h _ ?_⟩
  have he : ∃ q, h'.get? a = some q := let ⟨q, _, _, hq, _⟩ := dd'; ⟨q, hq⟩
  exact d_write (t' := s.toks) I (by rw [e]; exact True.intro) hs he (dk_new (Nat.zero_le _) hd .nil dd')
/-- len(d) -/
theorem d_len {Q : Value → Shared → Prop} (I : Inv X pins σ H s) (e : Rd H a (.dK kvs)) (h : ∀ t s', Inv X pins σ H s' → Q (.int kvs.length t) s') : wpAny (model X.prog X.w) A (call (.builtin "len") [.ref a]) Q E s := by
  obtain ⟨z, hd, vs, rel, dd⟩ := dk_rd I.hok e
  refine call_len_dict hd dd (by rw [← rel.length]; rw [sizeLine_eq] at z; omega) ?_
  rw [← rel.length]
  exact h _ _ (I.tok _)
/-- if d -/
theorem d_truth {Q : Bool → Shared → Prop} (I : Inv X pins σ H s) (e : Rd H a (.dK kvs)) (h : ∀ s', Inv X pins σ H s' → Q (!kvs.isEmpty) s') : wpAny (model X.prog X.w) A (truthy (.ref a)) Q E s := by
  obtain ⟨z, hd, vs, rel, dd⟩ := dk_rd I.hok e
  refine wpAny_truthy_dict hd dd (by rw [← rel.length]; rw [sizeLine_eq] at z; omega) ?_
  have q : kvs.isEmpty = vs.isEmpty := by cases rel <;> rfl
  rw [← q]
  exact h _ (I.tok _)
end


/-! ### readings and rules -/
/-- the element of a subscription, not a slice -/
def NoSl (i : Expr) : Prop := ∀ ov iv, subscripted i false ov iv = operate [ov, iv] (getItem ov iv)
theorem subD_of {prog : Program} {w : World} {A : Around} {E : Value → Shared → Prop} {s : Shared} {env : Env} {value slice : Expr} {pos : Pos} {T id : String} {Q : Value → Shared → Prop}
    (hl : typeLookup (.type T) "__getitem__" = pure (some (.builtin id))) (hs : NoSl slice)
    (h : wpAny (model prog w) A (eval value env) (fun o s₁ => wpAny (model prog w) A (eval slice env) (fun i s₂ => s₂.TypeIs o T ∧ wpAny (model prog w) A (getItem o i) Q E s₂) E s₁) E s) :
    wpAny (model prog w) A (eval (.Subscript value slice pos) env) Q E s := by
  refine Subscript_ (wpAny_mono h (fun o s₁ h₁ => wpAny_mono h₁ (fun i s₂ h₂ => ?_) fun _ _ x => x) fun _ _ x => x)
  obtain ⟨hT, h₂⟩ := h₂
  unfold subscriptTail
  refine wpAny_bind ?_
  rw [getitemInPython_of_ne hT.not_modules]
  refine wpAny_bind (wpAny_specialOf hT hl ?_)
  have fin : wpAny (model prog w) A (subscripted slice false o i) (fun r s₃ => wpAny (model prog w) A (letTemporaryGo value o r >>= fun _ => pure r) Q E s₃) E s₂ := by
    rw [hs o i]
    exact wpAny_operating (wpAny_mono h₂ (fun r s₃ h₃ => wpAny_bind (wpAny_letTemporaryGo (wpAny_pure h₃))) fun _ _ x => x)
  first
    | exact wpAny_pure (wpAny_bind fin)
    | exact wpAny_bind (wpAny_pure (wpAny_bind fin))
    | exact wpAny_bind fin

theorem dict_typeIs {X : Cx} {pins : List (Addr × Obj)} {σ : St} {H : Hp} {s : Shared} {a : Addr} {y : V} {o : Option V} (I : Inv X pins σ H s) (g : DGet H a y o) : s.TypeIs (.ref a) "dict" := by
  rcases g with ⟨kvs, k, e, _, _⟩ | ⟨kvs, k, b, e, _, _, _⟩
  · obtain ⟨_, _, vs, _, dd⟩ := dk_rd I.hok e
    exact dd.typeIs
  · obtain ⟨_, _, xs, _, dd⟩ := dt_rd I.hok e
    exact dd.typeIs
theorem dict_noDict {X : Cx} {pins : List (Addr × Obj)} {σ : St} {H : Hp} {s : Shared} {a : Addr} {y : V} {o : Option V} (I : Inv X pins σ H s) (g : DGet H a y o) :
    ∀ b, Value.ref a = .ref b → ∃ ob, s.heap.get? b = some ob ∧ ob.dict = none := fun b q => by
  cases q
  rcases g with ⟨kvs, k, e, _, _⟩ | ⟨kvs, k, b, e, _, _, _⟩
  · obtain ⟨_, _, vs, _, ob, _, _, h1, h2, _⟩ := dk_rd I.hok e
    exact ⟨ob, h1, h2.2.1⟩
  · obtain ⟨_, _, xs, _, ob, _, _, h1, h2, _⟩ := dt_rd I.hok e
    exact ⟨ob, h1, h2.2.1⟩

/-- d[y] -/
def tDGet (td ty : TE) : TE := fun σ H Q => td σ H fun x H1 => ty σ H1 fun y H2 => ∃ a v, x = .ref a ∧ DGet H2 a y (some v) ∧ Q v H2
/-- y in d, y not in d -/
def tDIn (ty td : TE) : TE := fun σ H Q => ty σ H fun y H1 => td σ H1 fun x H2 => ∃ a o, x = .ref a ∧ DGet H2 a y o ∧ Q (.bl o.isSome) H2
def tDNotIn (ty td : TE) : TE := fun σ H Q => ty σ H fun y H1 => td σ H1 fun x H2 => ∃ a o, x = .ref a ∧ DGet H2 a y o ∧ Q (.bl (!o.isSome)) H2
/-- d[y] = v -/
def sDPut (td ty tv : TE) : TS := fun D σ H => tv σ H fun v H1 => td σ H1 fun x H2 => ty σ H2 fun y H3 => ∃ a H4, x = .ref a ∧ DPut H3 a y v H4 ∧ D.nx σ H4
/-- d[y] op= v -/
def sDAug (td ty tv : TE) (rd : V → V → Hp → VK → Prop) : TS := fun D σ H => td σ H fun x H1 => ty σ H1 fun y H2 => ∃ a v, x = .ref a ∧ DGet H2 a y (some v) ∧
  tv σ H2 fun y2 H3 => rd v y2 H3 fun z H4 => ∃ H5, DPut H4 a y z H5 ∧ D.nx σ H5
/-- del d[y] -/
def sDDel (td ty : TE) : TS := fun D σ H => td σ H fun x H1 => ty σ H1 fun y H2 => ∃ a kvs k, x = .ref a ∧ H2 a = some (.dK kvs) ∧ y = kV k ∧ (valV kvs k).isSome = true ∧ D.nx σ (upd H2 a (.dK (dropK kvs k)))

section
variable {X : Cx} {o i e value : Expr} {pos pos' tpos : Pos} {td ty tv : TE}
theorem pe_dget (hu : X.A.units + 1 < cLine) (ho : PE X o td) (hi : PE X i ty) (hs : NoSl i) : PE X (.Subscript o i pos) (tDGet td ty) := by
  intro pins s σ H Q I h
  refine subD_of PySem.F.slot_dict_getitem.lookup hs (thn (ho pins s σ H _ I h) fun u s1 ⟨x, H1, I1, rx, q1⟩ => thn (hi pins s1 σ H1 _ I1 q1) fun iv s2 ⟨y, H2, I2, ry, a, v, ex, g, q2⟩ => ?_)
  subst ex
  obtain rfl : u = Value.ref a := rx
  exact ⟨dict_typeIs I2 g, d_getItem hu I2 g ry fun w' s3 I3 rw' => ⟨v, H2, I3, rw', q2⟩⟩
theorem pc_din (hu : X.A.units + 1 < cLine) (hi : PE X i ty) (ho : PE X o td) : PC X .In i o (tDIn ty td) := by
  intro pins s σ H Q I h
  refine thn (hi pins s σ H _ I h) fun iv s1 ⟨y, H1, I1, ry, q1⟩ => thn (ho pins s1 σ H1 _ I1 q1) fun u s2 ⟨x, H2, I2, rx, a, ov, ex, g, q2⟩ => ?_
  subst ex
  obtain rfl : u = Value.ref a := rx
  exact d_in hu I2 g ry fun s3 I3 => ⟨.bl ov.isSome, H2, I3, rfl, q2⟩
theorem pc_dnotin (hu : X.A.units + 1 < cLine) (hi : PE X i ty) (ho : PE X o td) : PC X .NotIn i o (tDNotIn ty td) := by
  intro pins s σ H Q I h
  refine thn (hi pins s σ H _ I h) fun iv s1 ⟨y, H1, I1, ry, q1⟩ => thn (ho pins s1 σ H1 _ I1 q1) fun u s2 ⟨x, H2, I2, rx, a, ov, ex, g, q2⟩ => ?_
  subst ex
  obtain rfl : u = Value.ref a := rx
  exact d_notIn hu I2 g ry fun s3 I3 => ⟨.bl (!ov.isSome), H2, I3, rfl, q2⟩
theorem ps_dput (hu : X.A.units + 1 < cLine) (ho : PE X o td) (hi : PE X i ty) (hv : PE X value tv) (hs : swapsWith value (some (.Subscript o i pos')) pos.line X.env = pure false) :
    PS X (.Assign [.Subscript o i pos'] value pos) (sDPut td ty tv) := by
  intro pins s σ H D I h
  refine wpAny_Assign_Subscript (thn (hv pins s σ H _ I h) fun r s1 ⟨v, H1, I1, rv, q1⟩ => thn (ho pins s1 σ H1 _ I1 q1) fun u s2 ⟨x, H2, I2, rx, q2⟩ => thn (hi pins s2 σ H2 _ I2 q2) fun iv s3 ⟨y, H3, I3, ry, a, H4, ex, g, q3⟩ => ?_) hs
  subst ex
  obtain rfl : u = Value.ref a := rx
  exact d_setItem hu I3 g ry rv fun s4 I4 => ⟨σ, H4, I4, q3⟩
theorem ps_daug {op : Operator} {rd : V → V → Hp → VK → Prop} (hu : X.A.units + 1 < cLine) (ho : PE X o td) (hi : PE X i ty) (hv : PE X value tv) (hop : InOp X op rd)
    (ha : ∀ ov iv new, augStore i ov iv new = (do holding [new, ov, iv] (setItem ov iv new); release [new, ov, iv] []; pure .next)) : PS X (.AugAssign (.Subscript o i tpos) op value pos) (sDAug td ty tv rd) := by
  intro pins s σ H D I h
  refine wpAny_AugAssign_SubscriptAny (thn (ho pins s σ H _ I h) fun u s1 ⟨x, H1, I1, rx, q1⟩ => thn (hi pins s1 σ H1 _ I1 q1) fun iv s2 ⟨y, H2, I2, ry, a, v, ex, g, q2⟩ => ?_) ha
  subst ex
  obtain rfl : u = Value.ref a := rx
  refine d_getItem hu I2 g ry fun w' s3 I3 rw' => thn (hv pins s3 σ H2 _ I3 q2) fun w2 s4 ⟨y2, H3, I4, ry2, q3⟩ => thn (hop pins s4 σ H3 v y2 w' w2 _ I4 rw' ry2 q3) fun w3 s5 ⟨z, H4, I5, rz, H5, g5, q4⟩ => ?_
  exact d_setItem hu I5 g5 ry rz fun s6 I6 => ⟨σ, H5, I6, q4⟩
theorem ps_ddel (ho : PE X o td) (hi : PE X i ty) : PS X (.Delete [.Subscript o i tpos] pos) (sDDel td ty) := by
  intro pins s σ H D I h
  refine wpAny_Delete (wpAny_deleteEach_cons (wpAny_delete_Subscript (thn (ho pins s σ H _ I h) fun u s1 ⟨x, H1, I1, rx, q1⟩ => thn (hi pins s1 σ H1 _ I1 q1) fun iv s2 ⟨y, H2, I2, ry, a, kvs, k, ex, e, ey, l, q2⟩ => ?_)))
  subst ex ey
  obtain rfl : u = Value.ref a := rx
  exact d_delItem I2 e ry l fun s3 I3 => wpAny_deleteEach_nil ⟨σ, _, I3, q2⟩
end


/-! ### displays -/
theorem dk_empty {P : Program} {w : World} {H : Hp} (h : Heap) (hb : sysModules < h.objs.size) : ObjOk P w H (h.push { cls := .type "dict", data := .dict #[] }) h.objs.size (.dK []) :=
  ⟨Nat.zero_le _, beq_eq_false_iff_ne.mpr (Ne.symm (Nat.ne_of_lt hb)), [], .nil, Heap.DictOf.new h⟩
theorem dt_empty {P : Program} {w : World} {H : Hp} (h : Heap) (hb : sysModules < h.objs.size) : ObjOk P w H (h.push { cls := .type "dict", data := .dict #[] }) h.objs.size (.dT []) :=
  ⟨Nat.zero_le _, beq_eq_false_iff_ne.mpr (Ne.symm (Nat.ne_of_lt hb)), [], .nil, _, #[], 0, Heap.get?_push_size _ rfl, ⟨rfl, rfl, rfl⟩, rfl, rfl, List.nodup_nil⟩
/-- {}, to be a dict of the kind that is wanted -/
def tDNewK : TE := fun _ H Q => ∀ p, H p = none → Q (.ref p) (upd H p (.dK []))
def tDNewT : TE := fun _ H Q => ∀ p, H p = none → Q (.ref p) (upd H p (.dT []))
section
variable {X : Cx} {pos : Pos}
theorem pe_dnewK : PE X (.Dict [] [] pos) tDNewK := fun pins s σ H Q I h =>
  wpAny_Dict_empty ⟨.ref s.heap.objs.size, _, I.laid (a := s.heap.objs.size) (o := .dK []) (t' := s.toks) (fun _ _ q => Heap.get?_push_of_some _ q) (Nat.le_refl _) (dk_empty s.heap I.big), rfl, h _ (I.hok.fresh (Nat.le_refl _))⟩
theorem pe_dnewT : PE X (.Dict [] [] pos) tDNewT := fun pins s σ H Q I h =>
  wpAny_Dict_empty ⟨.ref s.heap.objs.size, _, I.laid (a := s.heap.objs.size) (o := .dT []) (t' := s.toks) (fun _ _ q => Heap.get?_push_of_some _ q) (Nat.le_refl _) (dt_empty s.heap I.big), rfl, h _ (I.hok.fresh (Nat.le_refl _))⟩
end

/-- the pairs of a display, from the left -/
def tPairs : List (TE × TE) → St → Hp → (List (V × V) → Hp → Prop) → Prop
  | [], _, H, Q => Q [] H
  | (tk, tv) :: r, σ, H, Q => tk σ H fun x H1 => tv σ H1 fun y H2 => tPairs r σ H2 fun ps H3 => Q ((x, y) :: ps) H3
abbrev VV : List (V × V) → List (Value × Value) → Prop := Paired fun p q => RelV p.1 q.1 ∧ RelV p.2 q.2
def PPs (X : Cx) (pos : Pos) (keys : List (Option Expr)) (values : List Expr) (trs : List (TE × TE)) : Prop :=
  ∀ (pins : List (Addr × Obj)) (s : Shared) (σ : St) (H : Hp) (Q : List (V × V) → Hp → Prop), Inv X pins σ H s → tPairs trs σ H Q →
    wpAny (model X.prog X.w) X.A (evalPairs (pairTrees keys values X.env pos)) (fun vs s' => ∃ ps H', Inv X pins σ H' s' ∧ VV ps vs ∧ Q ps H') X.xe s
theorem pps_nil {X : Cx} {pos : Pos} : PPs X pos [] [] [] := fun pins s σ H Q I h => pairTrees_nil_walk ⟨[], H, I, .nil, h⟩
theorem pps_cons {X : Cx} {pos : Pos} {k v : Expr} {ks : List (Option Expr)} {vs : List Expr} {tk tv : TE} {trs : List (TE × TE)} (hk : PE X k tk) (hv : PE X v tv) (hr : PPs X pos ks vs trs) :
    PPs X pos (some k :: ks) (v :: vs) ((tk, tv) :: trs) := fun pins s σ H Q I h =>
  pairTrees_cons_walk (thn (hk pins s σ H _ I h) fun u s1 ⟨x, H1, I1, rx, q1⟩ => thn (hv pins s1 σ H1 _ I1 q1) fun w2 s2 ⟨y, H2, I2, ry, q2⟩ =>
    thn (hr pins s2 σ H2 _ I2 q2) fun ws s3 ⟨ps, H3, I3, rel, q3⟩ => ⟨(x, y) :: ps, H3, I3, .cons ⟨rx, ry⟩ rel, q3⟩)

def mergeK (kvs more : List (Key × V)) : List (Key × V) := more.foldl (fun acc kv => putK acc kv.1 kv.2) kvs
theorem KV.merge : ∀ {more : List (Key × V)} {rs : List (Key × Value)} {kvs : List (Key × V)} {vs : List (Key × Value)}, KV more rs → KV kvs vs → KV (mergeK kvs more) (merged vs rs) := by
  intro more rs kvs vs r
  unfold KV at r
  induction r generalizing kvs vs with
  | nil => intro q; exact q
  | @cons p q ps qs h t ih =>
    intro r0
    have e : KV (putK kvs p.1 p.2) (stored vs q.1 q.2) := by
      have := r0.put p.1 h.2
      rw [← h.1]; exact this
    exact ih e
theorem length_mergeK : ∀ (more kvs : List (Key × V)), (mergeK kvs more).length ≤ kvs.length + more.length
  | [], kvs => by show kvs.length ≤ kvs.length + 0; omega
  | p :: r, kvs => by
    have h1 := length_mergeK r (putK kvs p.1 p.2)
    have h2 := length_putK kvs p.1 p.2
    show (mergeK (putK kvs p.1 p.2) r).length ≤ _
    rw [List.length_cons]; omega
theorem carries_of {P : Program} {w : World} : ∀ {kvs : List (Key × V)} {ws : List (Value × Value)}, VV (kvs.map fun kv => (kV kv.1, kv.2)) ws → ∃ rs, Carries (mixKind P w) ws rs ∧ KV kvs rs
  | [], _, r => by rw [List.map_nil] at r; cases r; exact ⟨[], True.intro, .nil⟩
  | p :: kvs, _, r => by
    rw [List.map_cons] at r
    cases r with
    | @cons a b as bs h t =>
      obtain ⟨rs, c, q⟩ := carries_of (P := P) (w := w) t
      obtain ⟨b1, b2⟩ := b
      exact ⟨(p.1, b2) :: rs, ⟨kV_is h.1, rfl, c⟩, .cons ⟨rfl, h.2⟩ q⟩
/-- {k: v, ..} with keys ints and texts; the new dict stands empty while the pairs are made -/
def tDisp (trs : List (TE × TE)) : TE := fun σ H Q => ∀ p, H p = none → tPairs trs σ (upd H p (.dK [])) fun ps H2 => H2 p = some (.dK []) ∧ ∃ kvs : List (Key × V), ps = kvs.map (fun kv => (kV kv.1, kv.2)) ∧ kvs.length ≤ 15 ∧ Q (.ref p) (upd H2 p (.dK (mergeK [] kvs)))
theorem pe_disp {X : Cx} {pos : Pos} {keys : List (Option Expr)} {values : List Expr} {trs : List (TE × TE)} (h : PPs X pos keys values trs) (hall : keys.all (·.isSome) = true) (hl : keys.length = values.length) (h0 : keys ≠ [])
    (h15 : keys.length ≤ 15) : PE X (.Dict keys values pos) (tDisp trs) := by
  intro pins s σ H Q I q
  have hn := I.hok.fresh (Nat.le_refl s.heap.objs.size)
  have I1 := I.laid (a := s.heap.objs.size) (o := .dK []) (h' := s.heap.push { cls := .type "dict", data := .dict #[] }) (t' := s.toks) (fun _ _ q => Heap.get?_push_of_some _ q) (Nat.le_refl _) (dk_empty s.heap I.big)
  refine wpAny_Dict_walk (knd := mixKind X.prog X.w) hall hl h0 h15 (thn (h pins _ σ _ _ I1 (q _ hn)) fun ws s2 ⟨ps, H2, I2, rel, e, kvs, ep, lk, q2⟩ => ?_)
  subst ep
  obtain ⟨rs, c, rk⟩ := carries_of (P := X.prog) (w := X.w) rel
  obtain ⟨z, hd, vs0, r0, dd⟩ := dk_of I2.hok e
  cases r0
  refine ⟨rs, c, dd, fun h' dd' hs => ⟨.ref s.heap.objs.size, _, ?_, rfl, q2⟩⟩
  have hz : (mergeK [] kvs).length ≤ sizeLine := by
    have h1 := length_mergeK kvs []
    rw [List.length_nil] at h1
    rw [sizeLine_eq]; omega
  have he : ∃ q, h'.get? s.heap.objs.size = some q := let ⟨q, _, _, hq, _⟩ := dd'; ⟨q, hq⟩
  exact d_write I2 (by rw [e]; exact True.intro) hs he (dk_new hz hd (rk.merge .nil) dd')


/-! ### methods -/
/-- a method call o.m(e) of a built-in, with one argument: what must be seen of the text -/
structure M1 (X : Cx) (o : Expr) (m : Str) (apos : Pos) (e : Expr) (cpos : Pos) : Prop where
  base : attributeBase o m X.env (eval o X.env) = eval o X.env
  few : ((backTo cpos (starEach [e] X.env)).all (fun x => !x.1) && (backToKw cpos (keywordEach [] X.env)).all (fun x => x.1.isSome)
    && decide (([e] : List Expr).length + ([] : List Keyword).length + (if ([] : List Keyword).isEmpty then 0 else 1) < 30)) = true
  line : (apos.endLine == cpos.line) = true
  trees : backTo cpos (starEach [e] X.env) = [(false, eval e X.env)]
structure M2 (X : Cx) (o : Expr) (m : Str) (apos : Pos) (e f : Expr) (cpos : Pos) : Prop where
  base : attributeBase o m X.env (eval o X.env) = eval o X.env
  few : ((backTo cpos (starEach [e, f] X.env)).all (fun x => !x.1) && (backToKw cpos (keywordEach [] X.env)).all (fun x => x.1.isSome)
    && decide (([e, f] : List Expr).length + ([] : List Keyword).length + (if ([] : List Keyword).isEmpty then 0 else 1) < 30)) = true
  line : (apos.endLine == cpos.line) = true
  trees : backTo cpos (starEach [e, f] X.env) = [(false, eval e X.env), (false, eval f X.env)]

/-- a is a dict, whatever its keys -/
def IsD (H : Hp) (a : Addr) : Prop := (∃ kvs, Rd H a (.dK kvs)) ∨ ∃ kvs, Rd H a (.dT kvs)
theorem isD_at {X : Cx} {pins : List (Addr × Obj)} {σ : St} {H : Hp} {s : Shared} {a : Addr} (I : Inv X pins σ H s) (d : IsD H a) :
    s.TypeIs (.ref a) "dict" ∧ (∀ b, Value.ref a = .ref b → ∃ ob, s.heap.get? b = some ob ∧ ob.dict = none) ∧ (a == sysModules) = false := by
  rcases d with ⟨kvs, e⟩ | ⟨kvs, e⟩
  · obtain ⟨_, hd, vs, _, dd⟩ := dk_rd I.hok e
    refine ⟨dd.typeIs, fun b q => ?_, hd⟩
    cases q
    obtain ⟨ob, _, _, h1, h2, _⟩ := dd
    exact ⟨ob, h1, h2.2.1⟩
  · obtain ⟨_, hd, xs, _, dd⟩ := dt_rd I.hok e
    refine ⟨dd.typeIs, fun b q => ?_, hd⟩
    cases q
    obtain ⟨ob, _, _, h1, h2, _⟩ := dd
    exact ⟨ob, h1, h2.2.1⟩

section
variable {X : Cx} {pins : List (Addr × Obj)} {σ : St} {H : Hp} {s : Shared} {a : Addr} {y d : V} {u r : Value} {o : Option V} {A : Around} {E : Value → Shared → Prop}
/-- d.get(y) -/
theorem d_get1 {Q : Value → Shared → Prop} (hu : A.units + 1 < cLine) (I : Inv X pins σ H s) (g : DGet H a y o) (ry : RelV y u) (h : ∀ w' s', Inv X pins σ H s' → RelV (o.getD .non) w' → Q w' s') :
    wpAny (model X.prog X.w) A (call (.builtin "dict.get") [.ref a, u]) Q E s := by
  rcases g with ⟨kvs, k, e, ey, l⟩ | ⟨kvs, k, b, e, ey, eb, l⟩
  · subst ey
    obtain ⟨z, hd, vs, rel, dd⟩ := dk_rd I.hok e
    refine call_meetsIn PySem.F.slot_dict_get dd.typeIs PySem.F.entry_dict_get (PySem.F.args_dict_get_2 _ _) (meets_dict_get (mixKind X.prog X.w) a (kV_is ry) hd) ⟨_, dd.mapOf, h _ _ (I.tok _) ?_⟩
    rw [l]
    exact (rel.val k).getD rfl
  · subst ey
    cases (show u = Value.ref b from ry)
    obtain ⟨z, hd, xs, rel, dd⟩ := dt_rd I.hok e
    refine call_meetsIn PySem.F.slot_dict_get dd.typeIs PySem.F.entry_dict_get (PySem.F.args_dict_get_2 _ _) (meetsH_dict_get (tupleKind (mixKind X.prog X.w)) a b hd) ⟨tupleKind_room_in1 hu, k, xs, key_of I.hok eb, dd, h _ _ (I.tok _) ?_⟩
    rw [l]
    exact (rel.val k).getD rfl
/-- d.get(y, x) -/
theorem d_get2 {Q : Value → Shared → Prop} (hu : A.units + 1 < cLine) (I : Inv X pins σ H s) (g : DGet H a y o) (ry : RelV y u) (rd : RelV d r) (h : ∀ w' s', Inv X pins σ H s' → RelV (o.getD d) w' → Q w' s') :
    wpAny (model X.prog X.w) A (call (.builtin "dict.get") [.ref a, u, r]) Q E s := by
  rcases g with ⟨kvs, k, e, ey, l⟩ | ⟨kvs, k, b, e, ey, eb, l⟩
  · subst ey
    obtain ⟨z, hd, vs, rel, dd⟩ := dk_rd I.hok e
    refine call_meetsIn PySem.F.slot_dict_get dd.typeIs PySem.F.entry_dict_get (PySem.F.args_dict_get_3 _ _ _) (meets_dict_get_default (mixKind X.prog X.w) a (kV_is ry) hd r) ⟨_, dd.mapOf, h _ _ (I.tok _) ?_⟩
    rw [l]
    exact (rel.val k).getD rd
  · subst ey
    cases (show u = Value.ref b from ry)
    obtain ⟨z, hd, xs, rel, dd⟩ := dt_rd I.hok e
    refine call_meetsIn PySem.F.slot_dict_get dd.typeIs PySem.F.entry_dict_get (PySem.F.args_dict_get_3 _ _ _) (meetsH_dict_get_default (tupleKind (mixKind X.prog X.w)) a b hd r) ⟨tupleKind_room_in1 hu, k, xs, key_of I.hok eb, dd, h _ _ (I.tok _) ?_⟩
    rw [l]
    exact (rel.val k).getD rd
end

def tDGet1 (td ty : TE) : TE := fun σ H Q => td σ H fun x H1 => ∃ a, x = .ref a ∧ IsD H1 a ∧ ty σ H1 fun y H2 => ∃ o, DGet H2 a y o ∧ Q (o.getD .non) H2
def tDGet2 (td ty tx : TE) : TE := fun σ H Q => td σ H fun x H1 => ∃ a, x = .ref a ∧ IsD H1 a ∧ ty σ H1 fun y H2 => tx σ H2 fun z H3 => ∃ o, DGet H3 a y o ∧ Q (o.getD z) H3
/-- d.pop(k): there; d.pop(k, x): there or not -/
def tDPop1 (td ty : TE) : TE := fun σ H Q => td σ H fun x H1 => ∃ a, x = .ref a ∧ IsD H1 a ∧ ty σ H1 fun y H2 => ∃ kvs k v, H2 a = some (.dK kvs) ∧ y = kV k ∧ valV kvs k = some v ∧ Q v (upd H2 a (.dK (dropK kvs k)))
def tDPop2 (td ty tx : TE) : TE := fun σ H Q => td σ H fun x H1 => ∃ a, x = .ref a ∧ IsD H1 a ∧ ty σ H1 fun y H2 => tx σ H2 fun z H3 => ∃ kvs k, H3 a = some (.dK kvs) ∧ y = kV k ∧
  (∀ v, valV kvs k = some v → Q v (upd H3 a (.dK (dropK kvs k)))) ∧ (valV kvs k = none → Q z H3)
section
variable {X : Cx} {o e f : Expr} {apos cpos : Pos} {td ty tx : TE}
theorem pe_dget1 (hu : X.A.units + 1 < cLine) (ho : PE X o td) (he : PE X e ty) (m : M1 X o "get" apos e cpos) : PE X (.Call (.Attribute o "get" apos) [e] [] cpos) (tDGet1 td ty) := by
  intro pins s σ H Q I h
  refine wpAny_Call_method m.base m.few m.line PySem.F.plainAttrs_dict PySem.F.slot_dict_get PySem.F.type_dict_get (thn (ho pins s σ H _ I h) fun u s1 ⟨x, H1, I1, rx, a, ex, d, q1⟩ => ?_)
  subst ex
  obtain rfl : u = Value.ref a := rx
  obtain ⟨t1, t2, _⟩ := isD_at I1 d
  refine ⟨t1, t2, ?_⟩
  rw [m.trees]
  refine Calls.callWith_builtin rfl (Calls.evalArgs_plain (Calls.spliced_cons (thn (he pins s1 σ H1 _ I1 q1) fun iv s2 ⟨y, H2, I2, ry, ov, g, q2⟩ => Calls.spliced_nil ?_)))
  exact d_get1 hu I2 g ry fun w' s3 I3 rw' => ⟨_, H2, I3, rw', q2⟩
theorem pe_dget2 (hu : X.A.units + 1 < cLine) (ho : PE X o td) (he : PE X e ty) (hf : PE X f tx) (m : M2 X o "get" apos e f cpos) : PE X (.Call (.Attribute o "get" apos) [e, f] [] cpos) (tDGet2 td ty tx) := by
  intro pins s σ H Q I h
  refine wpAny_Call_method m.base m.few m.line PySem.F.plainAttrs_dict PySem.F.slot_dict_get PySem.F.type_dict_get (thn (ho pins s σ H _ I h) fun u s1 ⟨x, H1, I1, rx, a, ex, d, q1⟩ => ?_)
  subst ex
  obtain rfl : u = Value.ref a := rx
  obtain ⟨t1, t2, _⟩ := isD_at I1 d
  refine ⟨t1, t2, ?_⟩
  rw [m.trees]
  refine Calls.callWith_builtin rfl (Calls.evalArgs_plain (Calls.spliced_cons (thn (he pins s1 σ H1 _ I1 q1) fun iv s2 ⟨y, H2, I2, ry, q2⟩ =>
    Calls.spliced_cons (thn (hf pins s2 σ H2 _ I2 q2) fun fv s3 ⟨z, H3, I3, rz, ov, g, q3⟩ => Calls.spliced_nil ?_))))
  exact d_get2 hu I3 g ry rz fun w' s4 I4 rw' => ⟨_, H3, I4, rw', q3⟩
theorem pe_dpop1 (ho : PE X o td) (he : PE X e ty) (m : M1 X o "pop" apos e cpos) : PE X (.Call (.Attribute o "pop" apos) [e] [] cpos) (tDPop1 td ty) := by
  intro pins s σ H Q I h
  refine wpAny_Call_method m.base m.few m.line PySem.F.plainAttrs_dict PySem.F.slot_dict_pop PySem.F.type_dict_pop (thn (ho pins s σ H _ I h) fun u s1 ⟨x, H1, I1, rx, a, ex, d, q1⟩ => ?_)
  subst ex
  obtain rfl : u = Value.ref a := rx
  obtain ⟨t1, t2, _⟩ := isD_at I1 d
  refine ⟨t1, t2, ?_⟩
  rw [m.trees]
  refine Calls.callWith_builtin rfl (Calls.evalArgs_plain (Calls.spliced_cons (thn (he pins s1 σ H1 _ I1 q1) fun iv s2 ⟨y, H2, I2, ry, kvs, k, v, ea, ey, l, q2⟩ => Calls.spliced_nil ?_)))
  subst ey
  exact d_pop I2 ea ry l (.inl rfl) fun w' s3 I3 rw' => ⟨v, _, I3, rw', q2⟩
theorem pe_dpop2 (ho : PE X o td) (he : PE X e ty) (hf : PE X f tx) (m : M2 X o "pop" apos e f cpos) : PE X (.Call (.Attribute o "pop" apos) [e, f] [] cpos) (tDPop2 td ty tx) := by
  intro pins s σ H Q I h
  refine wpAny_Call_method m.base m.few m.line PySem.F.plainAttrs_dict PySem.F.slot_dict_pop PySem.F.type_dict_pop (thn (ho pins s σ H _ I h) fun u s1 ⟨x, H1, I1, rx, a, ex, d, q1⟩ => ?_)
  subst ex
  obtain rfl : u = Value.ref a := rx
  obtain ⟨t1, t2, _⟩ := isD_at I1 d
  refine ⟨t1, t2, ?_⟩
  rw [m.trees]
  refine Calls.callWith_builtin rfl (Calls.evalArgs_plain (Calls.spliced_cons (thn (he pins s1 σ H1 _ I1 q1) fun iv s2 ⟨y, H2, I2, ry, q2⟩ =>
    Calls.spliced_cons (thn (hf pins s2 σ H2 _ I2 q2) fun fv s3 ⟨z, H3, I3, rz, kvs, k, ea, ey, q3, q4⟩ => Calls.spliced_nil ?_))))
  subst ey
  cases l : valV kvs k with
  | some v => exact d_pop I3 ea ry l (.inr ⟨fv, rfl⟩) fun w' s4 I4 rw' => ⟨v, _, I4, rw', q3 v l⟩
  | none => exact d_popD I3 ea ry l fun s4 I4 => ⟨z, H3, I4, rz, q4 l⟩
end

/-! ### dict(d): a copy -/
section
variable {X : Cx} {pins : List (Addr × Obj)} {σ : St} {H : Hp} {s : Shared} {a : Addr} {kvs : List (Key × V)} {A : Around} {E : Value → Shared → Prop}
theorem d_copyOf {Q : Value → Shared → Prop} (I : Inv X pins σ H s) (e : Rd H a (.dK kvs)) (h : ∀ p s', H p = none → Inv X pins σ (upd H p (.dK kvs)) s' → Q (.ref p) s') : wpAny (model X.prog X.w) A (call (.type "dict") [.ref a]) Q E s := by
  obtain ⟨z, hd, vs, rel, dd⟩ := dk_rd I.hok e
  refine kt_call_dict hd dd (by rw [← rel.length]; exact z) fun h' dd' hs => ?_
  refine h _ _ (I.hok.fresh (Nat.le_refl _)) (I.laid (a := s.heap.objs.size) (o := .dK kvs) (t' := s.toks) (fun b q hq => ?_) (Nat.le_refl _) (dk_new z (beq_eq_false_iff_ne.mpr (Ne.symm (Nat.ne_of_lt I.big))) rel dd'))
  exact (hs.2 b (Nat.ne_of_lt (Heap.lt_size hq))).trans (Heap.get?_push_of_some _ hq)
end


section
variable {X : Cx} {pins : List (Addr × Obj)} {σ : St} {H : Hp} {s : Shared} {a : Addr} {y : V} {u : Value} {A : Around} {E : Value → Shared → Prop}
/-- d[y], not there: a KeyError -/
theorem d_missing {Q : Value → Shared → Prop} (hu : A.units + 1 < cLine) (hh : A.handled = none) (I : Inv X pins σ H s) (g : DGet H a y none) (ry : RelV y u)
    (h : ∀ h' e t', Heap.NewExc s.heap h' e "KeyError" → E (.ref e) { s with heap := h', toks := t' }) : wpAny (model X.prog X.w) A (getItem (.ref a) u) Q E s := by
  rcases g with ⟨kvs, k, e, ey, l⟩ | ⟨kvs, k, b, e, ey, eb, l⟩
  · subst ey
    obtain ⟨z, hd, vs, rel, dd⟩ := dk_rd I.hok e
    have hn : valueAt vs k = none := RelO.none_of (by rw [l]; exact rel.val k)
    exact wpAny_getItem_missing_of (kV_is ry) hd hh dd.mapOf hn fun h' ex ne => h h' ex _ ne
  · subst ey
    cases (show u = Value.ref b from ry)
    obtain ⟨z, hd, xs, rel, dd⟩ := dt_rd I.hok e
    have hn : (atKey xs k).map (·.2) = none := RelO.none_of (by rw [l]; exact rel.val k)
    exact wpAny_getItem_missing_heap (tupleKind_room_in1 hu) (key_of I.hok eb) hd hh dd (Option.map_eq_none_iff.mp hn) fun h' ex ne => h h' ex _ ne
end
end L2

set_option Elab.async false
set_option linter.all false
set_option maxRecDepth 100000
set_option maxHeartbeats 4000000
namespace L2
open PySem PySem.Spec PyProof.Rows

/-! ### the cells that a comprehension's block takes over -/
def clOf (cells : List (Str × Addr)) : List (Str × NameKind) → List (Str × Addr) → List (Str × Addr)
  | [], acc => acc
  | (n, k) :: r, acc => clOf cells r (if k = .free then (match cells.lookup n with | some c => (n, c) :: acc | none => acc) else acc)
theorem clOf_sub {cells : List (Str × Addr)} : ∀ {names : List (Str × NameKind)} {acc : List (Str × Addr)}, (∀ x c, acc.lookup x = some c → cells.lookup x = some c) →
    ∀ x c, (clOf cells names acc).lookup x = some c → cells.lookup x = some c
  | [], _, h => h
  | (n, k) :: r, acc, h => by
    unfold clOf
    refine clOf_sub (names := r) fun x c => ?_
    split
    · cases e : cells.lookup n with
      | none => exact h x c
      | some d =>
        dsimp only
        intro q
        rw [List.lookup_cons] at q
        cases hx : x == n with
        | true =>
          rw [hx] at q
          have : x = n := by simpa using hx
          subst this
          cases q
          exact e
        | false =>
          rw [hx] at q
          exact h x c q
    · exact h x c
theorem clOf_keep {cells : List (Str × Addr)} : ∀ {names : List (Str × NameKind)} {acc : List (Str × Addr)} {x : Str}, (∃ c, acc.lookup x = some c) → ∃ c, (clOf cells names acc).lookup x = some c
  | [], _, _, h => h
  | (n, k) :: r, acc, x, h => by
    unfold clOf
    refine clOf_keep (names := r) ?_
    split
    · cases e : cells.lookup n with
      | none => exact h
      | some d =>
        dsimp only
        rw [List.lookup_cons]
        cases x == n with
        | true => exact ⟨d, rfl⟩
        | false => exact h
    · exact h
theorem clOf_has {cells : List (Str × Addr)} : ∀ {names : List (Str × NameKind)} {acc : List (Str × Addr)} {x : Str}, (x, NameKind.free) ∈ names → (∃ c, cells.lookup x = some c) → ∃ c, (clOf cells names acc).lookup x = some c
  | (n, k) :: r, acc, x, h, hc => by
    unfold clOf
    rcases List.mem_cons.mp h with e | h
    · cases e
      obtain ⟨c, hc⟩ := hc
      refine clOf_keep ⟨c, ?_⟩
      rw [if_pos rfl, hc]
      simp
    · exact clOf_has h hc
theorem closureFor_is {scope : Scope} {env : Env} (h : ∀ y ∈ scope.names, y.2 = .free → ∃ c, env.cells.lookup y.1 = some c) : closureFor scope env = pure (clOf env.cells scope.names []) := by
  have key : ∀ (names : List (Str × NameKind)) (acc : List (Str × Addr)), (∀ y ∈ names, y.2 = .free → ∃ c, env.cells.lookup y.1 = some c) →
      (forIn names acc fun (x : Str × NameKind) (r : List (Str × Addr)) => (match x with | (name, kind) => if (kind == .free) = true then do let a ← cellOf env name; pure (ForInStep.yield ((name, a) :: r)) else pure (ForInStep.yield r) : Sem (ForInStep (List (Str × Addr))))) = pure (clOf env.cells names acc) := by
    intro names
    induction names with
    | nil => intro acc _; rfl
    | cons y r ih =>
      intro acc hh
      obtain ⟨n, k⟩ := y
      rw [List.forIn_cons]
      dsimp only
      by_cases hk : k = .free
      · obtain ⟨c, hc⟩ := hh (n, k) List.mem_cons_self hk
        subst hk
        have e : cellOf env n = pure c := by unfold cellOf; rw [hc]
        rw [e]
        simp only [beq_self_eq_true, if_true, pure_bind]
        rw [ih _ fun y hy => hh y (List.mem_cons_of_mem _ hy)]
        conv => rhs; unfold clOf
        rw [if_pos rfl]
        have hc' : env.cells.lookup n = some c := hc
        rw [hc']
      · have e : (k == NameKind.free) = false := by simpa using hk
        rw [e]
        simp only [Bool.false_eq_true, if_false, pure_bind]
        rw [ih _ fun y hy => hh y (List.mem_cons_of_mem _ hy)]
        conv => rhs; unfold clOf
        rw [if_neg hk]
  unfold closureFor
  exact (congrArg (fun m => m >>= fun r => pure r) (key scope.names [] h)).trans (by simp)

/-! ### the block's context -/
def compX (X : Cx) (N' : List Str) (scope : Scope) (C : Addr) (s : Shared) (H : Hp) (ex : List Addr) : Cx where
  prog := X.prog
  w := X.w
  K := X.K
  mg := X.mg
  base := X.base
  A := X.A
  N := N'
  s₀ := s
  H₀ := H
  env := compEnvC scope (clOf X.env.cells scope.names []) C X.env
  outer := X.stack
  stack := X.stack
  ex := ex
  fn := fun _ => false
  calm := X.calm
  pn := []
  xe := fun _ _ => False

theorem lookup_mem {α β : Type} [BEq α] [LawfulBEq α] : ∀ {l : List (α × β)} {x : α} {y : β}, l.lookup x = some y → (x, y) ∈ l
  | (a, b) :: r, x, y, h => by
    rw [List.lookup_cons] at h
    cases e : x == a with
    | true =>
      rw [e] at h
      have : x = a := by simpa using e
      subst this
      cases h
      exact List.mem_cons_self
    | false =>
      rw [e] at h
      exact List.mem_cons_of_mem _ (lookup_mem h)
theorem lookup_relabel {scope : Scope} {env : Env} {x : Str} (hc : ∀ y ∈ scope.names, y.2 ≠ .cell) (h : (relabel scope env).names.lookup x = some .cell ∨ (relabel scope env).names.lookup x = some .free) : (x, NameKind.free) ∈ scope.names := by
  have key : ∀ k, (k = NameKind.cell ∨ k = NameKind.free) → (x, k) ∈ (relabel scope env).names → (x, NameKind.free) ∈ scope.names := fun k hk hm => by
    obtain ⟨⟨n, k'⟩, hy, e⟩ := List.mem_map.mp hm
    dsimp only at e
    split at e
    · rename_i q
      have : k' = NameKind.free := by
        simp only [Bool.and_eq_true, beq_iff_eq] at q
        exact q.1.1
      subst this
      cases e
      exact hy
    · cases e
      rcases hk with rfl | rfl
      · exact absurd rfl (hc _ hy)
      · exact hy
  rcases h with h | h
  · exact key _ (.inl rfl) (lookup_mem h)
  · exact key _ (.inr rfl) (lookup_mem h)

section
variable {X : Cx} {pins : List (Addr × Obj)} {σ : St} {H : Hp} {s : Shared}
theorem compX_ok (I : Inv X pins σ H s) {fp : List Addr} {N' : List Str} {scope : Scope} {C : Addr} (hf : ∀ b ∈ fp, FpOk X pins H b) (hfo : ∀ b ∈ fp, b < s.heap.objs.size) (hkind : scope.kind = .function) (hC : s.heap.objs.size ≤ C)
    (hcell : ∀ y ∈ scope.names, y.2 ≠ .cell) (hfree : ∀ y ∈ scope.names, y.2 = .free → X.env.kindOf y.1 = some .cell ∨ X.env.kindOf y.1 = some .free) : (compX X N' scope C s H fp).Ok where
  mod := I.ok.mod
  kind := hkind
  glob := I.ok.glob
  blt := I.ok.blt
  above := hC
  inj := fun x y c h1 h2 => I.ok.inj x y c (clOf_sub (fun _ _ z => by cases z) x c h1) (clOf_sub (fun _ _ z => by cases z) y c h2)
  has := fun x hx => by
    have m := lookup_relabel hcell hx
    exact clOf_has m (I.ok.has x (hfree _ m rfl))
  cab := fun _ _ h _ => nomatch h
  hd := I.ok.hd
  frames := I.ok.frames
  stk := .inl rfl
  exf := fun b hb => ⟨Nat.ne_of_lt (Nat.lt_of_lt_of_le (hfo b hb) hC), fun x c h => (hf b hb).2.2.2.2.1 x c (clOf_sub (fun _ _ z => by cases z) x c h)⟩
  bs := I.bs
  bsz := Nat.le_trans I.ok.bsz I.sz
  noex := fun b o e hb => by
    obtain ⟨_, _, _, h, _⟩ := hf b hb
    rcases h with h | h
    · exact I.ok.noex b o e h
    · exact absurd (Nat.lt_of_lt_of_le (Heap.lt_size e) (Nat.le_trans I.ok.bsz h)) (Nat.lt_irrefl _)
  exfs := fun b hb hz => by
    obtain ⟨_, h1, h2, _⟩ := hf b hb
    rcases List.mem_cons.mp (I.stkSub b hz) with e | e
    · exact h1 e
    · exact h2 e
  funs := I.stack
  frf := I.stkFree

/-! ### at the block's entry -/
/-- the values that the block's names have at its start: cap says in which slot of the outer frame a free name stands -/
def capSt (σ : St) (cap : List (Option Nat)) : St := cap.map fun o => o.bind fun i => (σ[i]?).join
structure CompOk (X : Cx) (N' : List Str) (scope : Scope) (cap : List (Option Nat)) : Prop where
  kind : scope.kind = .function
  cell : ∀ y ∈ scope.names, y.2 ≠ .cell
  names : ∀ y ∈ scope.names, y.2 = .local → scope.names.lookup y.1 = some .local
  free : ∀ y ∈ scope.names, y.2 = .free → X.env.kindOf y.1 = some .cell ∨ X.env.kindOf y.1 = some .free
  len : cap.length = N'.length
  cap : ∀ (j i : Nat) (x : Str), N'[j]? = some x → cap[j]? = some (some i) → X.N[i]? = some x ∧ scope.names.lookup x = some .free ∧ (X.env.kindOf x = some .cell ∨ X.env.kindOf x = some .free)

theorem relabel_free {scope : Scope} {env : Env} {x : Str} : ∀ {names : List (Str × NameKind)}, names.lookup x = some .free →
    (names.map fun (n, k) => if (k == NameKind.free && env.scope.kind == .function && env.kindOf n == some .cell) then (n, NameKind.cell) else (n, k)).lookup x = some .cell ∨
    (names.map fun (n, k) => if (k == NameKind.free && env.scope.kind == .function && env.kindOf n == some .cell) then (n, NameKind.cell) else (n, k)).lookup x = some .free
  | (n, k) :: r, h => by
    have ih := @relabel_free scope env x r
    show List.lookup x ((if (k == NameKind.free && env.scope.kind == .function && env.kindOf n == some .cell) = true then (n, NameKind.cell) else (n, k)) :: _) = _ ∨ List.lookup x ((if (k == NameKind.free && env.scope.kind == .function && env.kindOf n == some .cell) = true then (n, NameKind.cell) else (n, k)) :: _) = _
    cases hx : x == n with
    | true =>
      simp only [List.lookup_cons, hx] at h
      cases h
      by_cases hc : (NameKind.free == NameKind.free && env.scope.kind == .function && env.kindOf n == some .cell) = true
      · rw [if_pos hc]; left; simp only [List.lookup_cons, hx]
      · rw [if_neg hc]; right; simp only [List.lookup_cons, hx]
    | false =>
      simp only [List.lookup_cons, hx] at h
      by_cases hc : (k == NameKind.free && env.scope.kind == .function && env.kindOf n == some .cell) = true
      · rw [if_pos hc]; simp only [List.lookup_cons, hx]; exact ih h
      · rw [if_neg hc]; simp only [List.lookup_cons, hx]; exact ih h

theorem inv_comp (I : Inv X pins σ H s) {fp : List Addr} {N' : List Str} {scope : Scope} {cap : List (Option Nat)} {C D : Addr} {h₁ : Heap} {tk n : Nat} {m : Str → Option Value} (O : CompOk X N' scope cap) (hf : ∀ b ∈ fp, FpOk X pins H b) (hfo : ∀ b ∈ fp, b < s.heap.objs.size)
    (hC : s.heap.objs.size ≤ C) (hD : s.heap.objs.size ≤ D) (hDC : D ≠ C) (hn : h₁.Ns C m) (old : ∀ b o, s.heap.get? b = some o → h₁.get? b = some o)
    (new : h₁.get? D = some { cls := .type "list", data := .seq ([] : List Value).toArray n }) :
    Inv (compX X N' scope C s H fp) [] (capSt σ cap) (upd H D (.lst [])) { s with heap := h₁, toks := tk } := by
  have sub : ∀ x c, (clOf X.env.cells scope.names []).lookup x = some c → X.env.cells.lookup x = some c := clOf_sub (fun _ _ z => by cases z)
  refine ⟨compX_ok I hf hfo O.kind hC O.cell O.free, rfl, I.bare, Un.laid old hD (I.hok.fresh hD), ⟨m, hn, fun j x v h1 h2 h3 => ?_⟩, fun x c e => ?_, ?_, fun x c e => ?_, fun p hp => absurd hp (by simp [compX]), I.hok.laid old hD ⟨Nat.zero_le _, [], n, .nil, new⟩, ?_⟩
  · have h2' : (capSt σ cap)[j]? = some (some v) := h2
    unfold capSt at h2'
    rw [List.getElem?_map] at h2'
    cases hc : cap[j]? with
    | none => rw [hc] at h2'; cases h2'
    | some o =>
      rw [hc] at h2'
      cases o with
      | none => cases h2'
      | some i =>
        have hv : (σ[i]?).join = some v := by simpa using h2'
        have hv2 : σ[i]? = some (some v) := by
          cases q : σ[i]? with
          | none => rw [q] at hv; cases hv
          | some z => rw [q] at hv; have : z = some v := hv; rw [this]
        obtain ⟨c1, c2, c3⟩ := O.cap j i x h1 hc
        obtain ⟨mo, hno, hl⟩ := I.loc
        have vis : Vis X.env.scope x := c3.elim (fun z => .inr (.inl z)) fun z => .inr (.inr z)
        obtain ⟨u, ru, l⟩ := hl i x v c1 hv2 vis
        refine ⟨u, ru, ?_⟩
        rcases l with ⟨k, _⟩ | ⟨_, c, ec, ic⟩
        · rcases c3 with z | z
          · rw [z] at k; cases k
          · rw [z] at k; cases k
        · obtain ⟨c', ec'⟩ := clOf_has (cells := X.env.cells) (acc := []) (lookup_mem c2) ⟨c, ec⟩
          have e2 := sub x c' ec'
          rw [ec] at e2
          cases e2
          obtain ⟨oc, hoc, hdc⟩ := ic
          exact .inr ⟨relabel_free (scope := scope) c2, c, ec', oc, old _ _ hoc, hdc⟩
  · obtain ⟨v, oc, hoc, hdc⟩ := I.cell x c (sub x c e)
    exact ⟨v, oc, old _ _ hoc, hdc⟩
  · rw [show (compX X N' scope C s H fp).env.locals = C from rfl, upd_ne (Ne.symm hDC)]
    exact I.hok.fresh hC
  · have e' := sub x c e
    obtain ⟨v, oc, hoc, hdc⟩ := I.cell x c e'
    rw [upd_ne (Nat.ne_of_lt (Nat.lt_of_lt_of_le (Heap.lt_size hoc) hD))]
    exact I.freeC x c e'
  · show (capSt σ cap).length = N'.length
    unfold capSt
    rw [List.length_map, O.len]

/-- behind the block -/
theorem inv_back (I : Inv X pins σ H s) {fp : List Addr} {N' : List Str} {scope : Scope} {C : Addr} {σ' : St} {H' : Hp} {s' : Shared} {h' : Heap} (hf : ∀ b ∈ fp, FpOk X pins H b) (J : Inv (compX X N' scope C s H fp) [] σ' H' s') (hsb : Heap.SameBut C s'.heap h') :
    Inv X pins σ H' { s' with heap := h' } := by
  have hC : s.heap.objs.size ≤ C := J.ok.above
  have neC : ∀ b o, s.heap.get? b = some o → b ≠ C := fun b o e => Nat.ne_of_lt (Nat.lt_of_lt_of_le (Heap.lt_size e) hC)
  have U : Un (frs X.stack) fp H H' s.heap s'.heap := J.base
  refine I.call' (s' := { s' with heap := h' }) (ch := fp) (J.os) ⟨fun b o e n h1 h2 => ?_, fun b o e n h1 h2 => ?_, U.free, fun b o e h2 => ?_, U.tups, U.frzs, U.tbls⟩ (fun b o e => ?_) J.bare fun b hb => ?_
  · exact (hsb.2 b (neC b o e)).trans (U.keep b o e n h1 h2)
  · obtain ⟨sl, q⟩ := U.slot b o e n h1 h2
    exact ⟨sl, (hsb.2 b (neC b o e)).trans q⟩
  · obtain ⟨o', q⟩ := U.there b o e h2
    exact ⟨o', (hsb.2 b (neC b o e)).trans q⟩
  · have fr : H' C = none := J.free
    refine (J.hok b o e).stay (fun c v hc q => (hsb.2 c ?_).trans q) (fun _ q => q) fun _ _ q => q
    rintro rfl
    rcases hc with rfl | hc
    · rw [fr] at e; cases e
    · rw [fr] at hc; cases hc
  · obtain ⟨h0, h1, h2, h3, h4, h5⟩ := hf b hb
    exact ⟨h3, h1, h4, h5⟩

theorem compLoop_any {prog : Program} {w : World} {A : Around} {R : Result → Shared → Prop} {s : Shared} {elt target iter : Expr} {ifs : List Expr} {scope : Scope} {pos : Pos} {it acc : Value} {env : Env} (I : Nat → Shared → Prop)
    (turn : ∀ n s, I n s → wpAny (model prog w) A (pyNext it) (fun r s₁ => match r with
      | none => R (.ok .next) s₁
      | some v => wpAny (model prog w) A (letOwnedTupleGo target it v) (fun _ s₁' => wpAny (model prog w) A (assign target env v) (fun _ s₂ =>
          wpAny (model prog w) A (forIn ifs true fun c r => if r = true then do let ok ← isTrue c env (eval c env); pure (ForInStep.yield ok) else pure (ForInStep.yield r)) (fun ok s₃ =>
            if ok = true then wpAny (model prog w) A (eval elt env) (fun x s₄ =>
              wpAny (model prog w) A (call (.builtin "list.append") [acc, x]) (fun _ s₅ => ∃ m, m < n ∧ I m s₅) (fun _ _ => False) s₄) (fun _ _ => False) s₃
            else ∃ m, m < n ∧ I m s₃) (fun _ _ => False) s₂) (fun _ _ => False) s₁') (fun _ _ => False) s₁) (fun _ _ => False) s)
    (n : Nat) (h : I n s) :
    codeAny (model prog w) A (.compLoop (.ListComp elt [⟨target, iter, ifs, 0⟩] scope pos) 0 it acc env) R s := by
  refine codeAny_loop rfl I (fun n s hI => ?_) n h
  show wpAny _ A ((compTurn (.ListComp elt [⟨target, iter, ifs, 0⟩] scope pos) 0 it acc env).onRaise (fun x => do noteFrame x env; theTreesLotGoes x)) _ _ s
  refine wpAny_noted ?_
  rw [compTurn_list]
  refine wpAny_bind (wpAny_standAt (wpAny_bind (wpAny_mono (turn n s hI) (fun r s₁ h₁ => ?_) fun _ _ h' => h'.elim)))
  cases r with
  | none => exact wpAny_pure h₁
  | some v =>
    refine wpAny_bind (wpAny_mono h₁ (fun _ s₁' h₁' => ?_) fun _ _ h' => h'.elim)
    refine wpAny_bind (wpAny_mono h₁' (fun _ s₂ h₂ => wpAny_bind (wpAny_mono h₂ (fun ok s₃ h₃ => ?_) fun _ _ h' => h'.elim)) fun _ _ h' => h'.elim)
    cases ok with
    | false => exact wpAny_pure ⟨rfl, h₃⟩
    | true =>
      exact wpAny_bind (wpAny_bind (wpAny_mono h₃ (fun x s₄ h₄ => wpAny_bind (wpAny_mono h₄ (fun _ s₅ h₅ => wpAny_pure (wpAny_pure ⟨rfl, h₅⟩)) fun _ _ h' => h'.elim)) fun _ _ h' => h'.elim))

/-! ### the rule -/
/-- what a comprehension wants: for the new list D an invariant W by the turn and a measure -/
def tComp (wi : TI) (g : TG) (te : TE) (cap : List (Option Nat)) : TE := fun σ H Q => wi σ H fun J H1 => ∀ D, H1 D = none → ∃ W : Nat → Nat → St → Hp → Prop, (∃ m, W 0 m (capSt σ cap) (upd H1 D (.lst []))) ∧ ∀ i m σ' H', W i m σ' H' →
  (J.stop i H' ∧ Q (.ref D) H') ∨ (J.go i H' ∧ ∀ x H2, J.yld i H' x H2 → g x σ' H2 fun σ2 H3 => te σ2 H3 fun y H4 => ∃ ys, H4 D = some (.lst ys) ∧ ys.length < sizeLine ∧ ∃ m', m' < m ∧ W (i + 1) m' σ2 (upd H4 D (.lst (ys ++ [y]))))

theorem comp_run {tg elt iter : Expr} {scope : Scope} {pos cpos : Pos} {N' : List Str} {cap : List (Option Nat)} {wi : TI} {g : TG} {te : TE} {use : Option (Value → Sem Unit)} {E : Value → Shared → Prop} {Q' : Value → Shared → Prop} (hc : X.calm = true) (O : CompOk X N' scope cap)
    (hi : PI X tg iter wi) (hg : ∀ C s H ex, PG (compX X N' scope C s H ex) tg g) (he : ∀ C s H ex, PE (compX X N' scope C s H ex) elt te) {Q : VK} (I : Inv X pins σ H s) (h : tComp wi g te cap σ H Q)
    (hs : ∀ x, foldedSetIterable iter X.env x = pure x) (hX : X.xe = E)
    (hQ : ∀ (C D : Addr) (s1 : Shared) (H1 : Hp) (fp : List Addr) (σ' : St) (H' : Hp) (s' : Shared), Inv X pins σ H1 s1 → (∀ b ∈ fp, FpOk X pins H1 b) → Inv (compX X N' scope C s1 H1 fp) [] σ' H' s' → Q (.ref D) H' →
      compPost (model X.prog X.w) X.A E use Q' (.ref D) C (.ok .next) s') :
    wpAny (model X.prog X.w) X.A (comprehension (.ListComp elt [⟨tg, iter, [], 0⟩] scope pos) scope X.env cpos (newList []) false (eval iter X.env) use) Q' E s := by
  have hcl : closureFor scope X.env = pure (clOf X.env.cells scope.names []) := closureFor_is fun y hy e => I.ok.has _ (O.free y hy e)
  refine wpAny_comprehension_free (g := ⟨tg, iter, [], 0⟩) (gs := []) rfl hs hcl O.kind O.names ?_
  subst hX
  refine thn (hi pins s σ H _ I h) fun v s1 h1 => thn h1 fun itv s2 h2 => ?_
  obtain ⟨it, fp, tn, J, H2, e, I2, T, st2, f2, hW⟩ := h2
  subst e
  refine wpAny_newObj_type (wpAny_newFunctionEnv O.cell (by intro y hy; simp at hy) (fun h₁ hns₁ hsb₁ => ?_) O.kind)
  dsimp only at hns₁ hsb₁ ⊢
  generalize hH2 : s2.heap.push { cls := .type "list", dict := none, data := .seq ([] : List Value).toArray } = HH at hns₁ hsb₁ ⊢
  have hCs : HH.objs.size = s2.heap.objs.size + 1 := by rw [← hH2, Heap.size_push]
  have hDC : s2.heap.objs.size ≠ HH.objs.size := by rw [hCs]; exact Nat.ne_of_lt (Nat.lt_succ_self _)
  have old : ∀ b o, s2.heap.get? b = some o → h₁.get? b = some o := fun b o e =>
    hsb₁.extBut b o (by rw [hCs]; exact Nat.ne_of_lt (Nat.lt_succ_of_lt (Heap.lt_size e))) (Heap.get?_push_of_some _ (hH2 ▸ Heap.get?_push_of_some _ e))
  have new : h₁.get? s2.heap.objs.size = some { cls := .type "list", data := .seq ([] : List Value).toArray } := hsb₁.extBut _ _ hDC (Heap.get?_push_of_some _ (hH2 ▸ Heap.get?_push_size _ rfl))
  have hfo : ∀ b ∈ fp, b < s2.heap.objs.size := fun b hb => let ⟨o, e, _⟩ := T.obj 0 _ st2 b hb; Heap.lt_size e
  have hfree := I2.hok.fresh (Nat.le_refl s2.heap.objs.size)
  obtain ⟨W, ⟨m0, w0⟩, turn⟩ := hW s2.heap.objs.size hfree
  have J0 := inv_comp (tk := s2.toks + ([] : List (Str × Value)).length) I2 O f2 hfo (C := HH.objs.size) (D := s2.heap.objs.size) (by rw [hCs]; exact Nat.le_succ _) (Nat.le_refl _) hDC hns₁ old new
  have st0 : tn 0 h₁ := T.keep 0 _ _ st2 fun b _ o e => old b o e
  have fr0 : ∀ b ∈ fp, (upd H2 s2.heap.objs.size (.lst [])) b = none := fun b hb => by
    rw [upd_ne (Nat.ne_of_lt (hfo b hb))]
    exact (f2 b hb).1
  have stat : ∀ {H' : Hp}, (∀ b ∈ fp, H' b = none) → ∀ b ∈ fp, FpOk (compX X N' scope HH.objs.size s2 H2 fp) [] H' b := fun hn b hb =>
    ⟨hn b hb, (J0.ok.exf b hb).1, J0.ok.exfs b hb, .inl hb, (J0.ok.exf b hb).2, fun p hp => absurd hp (by simp [compX])⟩
  have loop : codeAny (model X.prog X.w) X.A (.compLoop (.ListComp elt [⟨tg, iter, [], 0⟩] scope pos) 0 (.ref it) (.ref s2.heap.objs.size) (compEnvC scope (clOf X.env.cells scope.names []) HH.objs.size X.env))
      (compPost (model X.prog X.w) X.A X.xe use Q' (.ref s2.heap.objs.size) HH.objs.size) { s2 with heap := h₁, toks := s2.toks + ([] : List (Str × Value)).length } := by
    refine compLoop_any (fun n s' => ∃ i σ' H', Inv (compX X N' scope HH.objs.size s2 H2 fp) [] σ' H' s' ∧ tn i s'.heap ∧ (∀ b ∈ fp, H' b = none) ∧ W i n σ' H') ?_ m0 ⟨0, _, _, J0, st0, fr0, w0⟩
    rintro n s3 ⟨i, σ3, H3, I3, st3, fr3, w3⟩
    rcases turn i n σ3 H3 w3 with ⟨stop, qn⟩ | ⟨go, step⟩
    · refine thn (T.done (compX X N' scope HH.objs.size s2 H2 fp) rfl rfl rfl hc i [] s3 σ3 H3 _ I3 (stat fr3) st3 stop) fun r s4 ⟨hr, I4⟩ => ?_
      subst hr
      exact hQ _ _ s2 H2 fp σ3 H3 s4 I2 f2 I4 qn
    · refine thn (T.item (compX X N' scope HH.objs.size s2 H2 fp) rfl rfl rfl hc i [] s3 σ3 H3 _ I3 (stat fr3) st3 go) fun r s4 ⟨u, hr, h4⟩ => ?_
      subst hr
      refine thn h4 fun _ s5 ⟨x, H5, I5, r5, y5, st5, fr5⟩ => ?_
      have I5' := I5.pinned (stat fr5) (T.obj _ _ st5)
      refine thn (hg _ _ _ _ _ s5 σ3 H5 x u _ I5' r5 (step x H5 y5)) fun _ s6 ⟨σ6, H6, I6, q6⟩ => ?_
      refine wpAny_tests_nil ?_
      rw [if_pos rfl]
      refine thn (he _ _ _ _ _ s6 σ6 H6 _ I6 q6) fun yv s7 ⟨y, H7, I7, r7, ys, hD, hz, m', hm, w7⟩ => ?_
      refine thn (mt_append _ s7 σ6 H7 (.ref s2.heap.objs.size) [y] (.ref s2.heap.objs.size) [yv] (fun v H' => v = .non ∧ H' = upd H7 s2.heap.objs.size (.lst (ys ++ [y]))) I7 rfl (.cons r7 .nil) ⟨_, ys, y, rfl, rfl, hD, hz, rfl, rfl⟩) fun _ s8 ⟨_, H8, I8, _, _, e8⟩ => ?_
      subst e8
      refine ⟨m', hm, i + 1, σ6, _, I8.unpinned, T.keep _ _ _ st5 fun b hb o e => (I8.pin (b, o) (List.mem_append_right _ (List.mem_append_right _ (mem_pinsAt hb e)))).1, fun b hb => ?_, w7⟩
      obtain ⟨o, e, d⟩ := T.obj _ _ st5 b hb
      exact (I8.pin (b, o) (List.mem_append_right _ (List.mem_append_right _ (mem_pinsAt hb e)))).2.1
  exact codeAny_compStart_list loop (T.self _ 0 _ _ _ st0 loop)

theorem pe_comp {tg elt iter : Expr} {scope : Scope} {pos : Pos} {N' : List Str} {cap : List (Option Nat)} {wi : TI} {g : TG} {te : TE} (hc : X.calm = true) (O : CompOk X N' scope cap)
    (hi : PI X tg iter wi) (hg : ∀ C s H ex, PG (compX X N' scope C s H ex) tg g) (he : ∀ C s H ex, PE (compX X N' scope C s H ex) elt te)
    (hs : ∀ x, foldedSetIterable iter X.env x = pure x := by intro _; rfl) : PE X (.ListComp elt [⟨tg, iter, [], 0⟩] scope pos) (tComp wi g te cap) := by
  intro pins s σ H Q I h
  rw [eval_ListComp]
  refine comp_run (use := none) (Q' := EP X pins σ Q) hc O hi hg he I h hs rfl fun C D s1 H1 fp σ' H' s' I1 f1 J q => ?_
  obtain ⟨m, hn, _⟩ := J.loc
  exact ⟨m, hn, fun h' hsb => ⟨.ref D, H', inv_back I1 f1 J hsb, rfl, q⟩⟩
end
end L2
set_option Elab.async false
set_option linter.all false
set_option maxRecDepth 100000
set_option maxHeartbeats 4000000
namespace L2
open PySem PySem.Spec PyProof.Rows
section
variable {X : Cx} {pins : List (Addr × Obj)} {σ : List (Option V)} {H : Hp} {s : Shared} {h' : Heap}
/-- an object that nothing asks for changes -/
theorem Inv.junk {C : Addr} (I : Inv X pins σ H s) (hs : Heap.SameBut C s.heap h') (h0 : X.s₀.heap.objs.size ≤ C) (hL : X.env.locals ≠ C) (hc : ∀ x c, X.env.cells.lookup x = some c → c ≠ C) (hp : ∀ p ∈ X.pn ++ pins, p.1 ≠ C) (hH : H C = none) : Inv X pins σ H { s with heap := h' } := by
  have ne : ∀ b o, X.s₀.heap.get? b = some o → b ≠ C := fun b o e => Nat.ne_of_lt (Nat.lt_of_lt_of_le (Heap.lt_size e) h0)
  obtain ⟨m, hn, hl⟩ := id I.loc
  refine ⟨I.ok, I.os, I.bare, ⟨fun b o e n hb hx => ?_, fun b o e n hb hx => ?_, I.base.free, fun b o e hx => ?_, I.base.tups, I.base.frzs, I.base.tbls⟩, ⟨m, hn.sameBut hs hL, fun j y v' e1 e2 e3 => ?_⟩, fun y c e => ?_, I.free, I.freeC, fun p hpp => ?_, fun b ob e => ?_, I.len⟩
  · exact (hs.2 b (ne b o e)).trans (I.base.keep b o e n hb hx)
  · obtain ⟨sl, e1⟩ := I.base.slot b o e n hb hx
    exact ⟨sl, (hs.2 b (ne b o e)).trans e1⟩
  · obtain ⟨o', e1⟩ := I.base.there b o e hx
    exact ⟨o', (hs.2 b (ne b o e)).trans e1⟩
  · obtain ⟨u', r', q⟩ := hl j y v' e1 e2 e3
    refine ⟨u', r', ?_⟩
    rcases q with ⟨k, e⟩ | ⟨k, c, e, z⟩
    · exact .inl ⟨k, e⟩
    · refine .inr ⟨k, c, e, ?_⟩
      obtain ⟨o, g, d⟩ := z
      exact ⟨o, (hs.2 c (hc y c e)).trans g, d⟩
  · obtain ⟨v, o, g, d⟩ := I.cell y c e
    exact ⟨v, o, (hs.2 c (hc y c e)).trans g, d⟩
  · obtain ⟨g, r⟩ := I.pin p hpp
    exact ⟨(hs.2 _ (hp p hpp)).trans g, r⟩
  · refine (I.hok b ob e).stay (fun c w' hcc q => (hs.2 c ?_).trans q) (fun _ q => q) fun _ _ q => q
    rintro rfl
    rcases hcc with rfl | hcc
    · rw [hH] at e; cases e
    · rw [hH] at hcc; cases hcc
/-- x = [.. for ..] where the name is stored ahead of the block's end -/
theorem ps_setC {tg elt iter : Expr} {scope : Scope} {cpos pos' pos : Pos} {N' : List Str} {cap : List (Option Nat)} {wi : TI} {g : TG} {te : TE} {i : Nat} {x : Str} (hc : X.calm = true) (O : CompOk X N' scope cap)
    (hi : PI X tg iter wi) (hg : ∀ C s H ex, PG (compX X N' scope C s H ex) tg g) (he : ∀ C s H ex, PE (compX X N' scope C s H ex) elt te) (hs : ∀ x, foldedSetIterable iter X.env x = pure x)
    (hN : X.N.Nodup) (hix : X.N[i]? = some x) (hx : Loc X.env.scope x) (hf : X.fn x = true ∨ X.env.scope.names.lookup x = some .local)
    (hsw : swapsWith (.ListComp elt [⟨tg, iter, [], 0⟩] scope cpos) (some (.Name x pos')) pos.line X.env = pure true) :
    PS X (.Assign [.Name x pos'] (.ListComp elt [⟨tg, iter, [], 0⟩] scope cpos) pos) (tAsg (tComp wi g te cap) (gName i)) := by
  intro pins s σ H D I h
  rw [exec_Assign_Name_used _ _ _ _ hsw]
  refine wpAny_bind (wpAny_standAt (wpAny_bind ?_))
  show wpAny _ _ (do let _ ← comprehension (.ListComp elt [⟨tg, iter, [], 0⟩] scope cpos) scope X.env _ (newList []) false (eval iter X.env) (some (assign (.Name x pos') X.env))) _ _ s
  refine wpAny_bind (wpAny_mono (comp_run (use := some (assign (.Name x pos') X.env)) (Q' := fun _ s' => ∃ σ' H', Inv X pins σ' H' s' ∧ D.nx σ' H') hc O hi hg he I h hs rfl fun C D1 s1 H1 fp σ' H' s' I1 f1 J q => ?_) (fun _ s' hq => wpAny_pure (wpAny_pure hq)) fun _ _ e => e)
  show wpAny _ _ (assign (.Name x pos') X.env (.ref D1)) _ _ s'
  have I2 : Inv X pins σ H' s' := inv_back I1 f1 J (Heap.SameBut.refl C s'.heap)
  have hC : s1.heap.objs.size ≤ C := J.ok.above
  have old : ∀ b o, s1.heap.get? b = some o → b ≠ C := fun b o e => Nat.ne_of_lt (Nat.lt_of_lt_of_le (Heap.lt_size e) hC)
  obtain ⟨m1, ⟨oL, _, _, gL, _⟩, _⟩ := id I1.loc
  have hL : X.env.locals ≠ C := old _ _ gL
  have hcl : ∀ x c, X.env.cells.lookup x = some c → c ≠ C := fun x c e => by
    obtain ⟨v, o, g, _⟩ := I1.cell x c e
    exact old _ _ g
  have hpn : ∀ p ∈ X.pn ++ pins, p.1 ≠ C := fun p hp => old _ _ (I1.pin p hp).1
  have h0 : X.s₀.heap.objs.size ≤ C := by
    refine Nat.le_trans ?_ hC
    exact Nat.le_of_lt (Nat.lt_of_le_of_lt I1.ok.above (Heap.lt_size gL))
  obtain ⟨m, hn, _⟩ := J.loc
  refine wpAny_assign_Name (store_ok2 I2 hN hix hx (v := .ref D1) rfl (fun s3 I3 hsb => ?_) hf)
  obtain ⟨a, hsb, ha⟩ := hsb
  have hCa : C ≠ a := by
    rcases ha with rfl | ha
    · exact Ne.symm hL
    · exact Ne.symm (hcl _ _ ha)
  exact ⟨m, hn.sameBut hsb hCa, fun h' hs' => ⟨_, H', I3.junk hs' h0 hL hcl hpn J.free, q⟩⟩
/-- xs[::-1] of a list: a new list -/
def tRev (te tst : TE) : TE := fun σ H Q => te σ H fun x H1 => tst σ H1 fun y H2 => ∃ a xs, x = .ref a ∧ y = .int (-1) ∧ SqL X.K H2 a xs ∧ ∀ p, H2 p = none → Q (.ref p) (upd H2 p (.lst xs.reverse))
theorem pe_rev {e st : Expr} {te tst : TE} {p2 pos : Pos} (he : PE X e te) (hst : PE X st tst) : PE X (.Subscript e (.Slice none none (some st) p2) pos) (tRev (X := X) te tst) := by
  intro pins s σ H Q I h
  refine Subscript_ (thn (he pins s σ H _ I h) fun v s1 ⟨x, H1, I1, r1, q1⟩ => ?_)
  refine wpAny_Slice ?_
  rw [evalPart_none]
  refine wpAny_pure (wpAny_pure ?_)
  refine thn (hst pins s1 σ H1 _ I1 q1) fun vst s3 ⟨y, H3, I3, r3, q3⟩ => ?_
  obtain ⟨a, xs, rfl, rfl, hx, q⟩ := q3
  obtain ⟨t, rfl⟩ := r3
  cases r1
  have I4 : Inv X pins σ H3 { s3 with heap := s3.heap.push { cls := .type "slice", data := .fields #[.none, .none, .int (-1) t] } } := I3.kept (t' := s3.toks) fun b ob q => Heap.get?_push_of_some _ q
  obtain ⟨its, r, ht, hz⟩ := I4.list hx
  show wpAny (model X.prog X.w) X.A (subscriptTail e (.Slice none none (some st) p2) (.ref a) (.ref s3.heap.objs.size)) (EP X pins σ Q) X.xe { s3 with heap := s3.heap.push { cls := .type "slice", data := .fields #[.none, .none, .int (-1) t] } }
  refine tail_any (ops := [.ref a, .ref s3.heap.objs.size]) ht.isList.typeIs slot_list_getitem.lookup ?_ (by with_unfolding_all rfl)
  refine wpAny_getItem_list_slice ht.isList (Heap.IsSliceOf.new ..) .none .none (.int _ _) (by simp) ?_ (by rw [List.size_toArray, ← r.length]; exact hz)
  rw [PySem.W.krv_pick]
  refine ⟨.ref _, _, I4.laid (t' := s3.toks) (o := .lst xs.reverse) (fun b ob q => Heap.get?_push_of_some _ q) (Nat.le_refl _) ?_, rfl, q _ (I4.hok.fresh (Nat.le_refl _))⟩
  exact ⟨by rw [List.length_reverse]; exact hz, _, 0, r.reverse, Heap.get?_push_size _ rfl⟩
/-- (a, b, ..) = a list of that length -/
def gLst (K : PySem.W.Frag) (n : Nat) (t : TGs) : TG := fun v σ H Q => ∃ a xs, v = .ref a ∧ SqL K H a xs ∧ xs.length = n ∧ t xs σ H Q
theorem pg_lst {es : List Expr} {k : Nat} {t : TGs} {n : Nat} {pos : Pos} (hc : X.calm = true) (h : PGs X es t)
    (hn : (assignEach es X.env).length = n) (hst : (assignEach es X.env).findIdx? (·.1) = none) : PG X (.Tuple es k pos) (gLst X.K n t) := by
  intro pins s σ H v u Q I r hw
  obtain ⟨a, xs, e1, hq, hl, hw⟩ := hw
  subst e1
  cases r
  obtain ⟨its, rv, ht, hz⟩ := I.list hq
  rw [assign_Tuple]
  refine wpAny_bind (wpAny_standAt ?_)
  unfold unpack
  rw [hst, show (assignEach es X.env).length = its.toArray.size by rw [hn, ← hl, rv.length, List.size_toArray]]
  refine wpAny_bind (wpAny_holding (PySem.W.kun_itemsOf (I.ok.hd hc) ht.isList fun h' hx => ?_))
  have I1 : Inv X pins σ H { s with heap := h' } := I.kept (t' := s.toks) fun b o e => hx b o (Nat.ne_of_lt (Heap.lt_size e)) e
  exact h pins _ σ H xs _ Q I1 (by simpa using rv) hw
theorem preSum_take (ns : List Int) : ∀ j, j ≤ ns.length → PySem.preSum (fun i => (ns[i]?).getD 0) j = (ns.take j).sum
  | 0, _ => by simp [PySem.preSum]
  | j + 1, h => by
    have ih := preSum_take ns j (by omega)
    show PySem.preSum (fun i => (ns[i]?).getD 0) j + (ns[j]?).getD 0 = _
    have e : ns.take (j + 1) = ns.take j ++ [ns[j]] := by rw [List.take_add_one, List.getElem?_eq_getElem (by omega)]; rfl
    rw [ih, e, List.sum_append, List.getElem?_eq_getElem (by omega)]
    simp
theorem call_sum_list (hc : X.calm = true) : CallR X (.builtin "sum") (fun xs H Q => ∃ (p : Addr) (ns : List Int), xs = [.ref p] ∧ SqL X.K H p (ns.map V.int) ∧ Q (.int ns.sum) H) := by
  intro pins s σ H xs us Q I r h
  obtain ⟨p, ns, rfl, hq, q⟩ := h
  obtain ⟨u, rfl, rx⟩ := vals1 r
  cases rx
  obtain ⟨its, rv, pl, hz⟩ := I.list hq
  have hlen := rv.length
  have hh : X.A.in1.handled = none := I.ok.hd hc
  have hnz : p ≠ s.heap.objs.size := by
    obtain ⟨o, n, e, _⟩ := pl
    exact Nat.ne_of_lt (Heap.lt_size e)
  refine PySem.call_sum_walkAnyS (wpAny_pyIter_list pl.isList ?_)
  have hp : (s.heap.push { cls := .type "list_iterator", data := .fields #[.ref p, .int 0 0] }).IsList p its.toArray := by
    obtain ⟨o, e, r⟩ := pl.isList
    exact ⟨o, Heap.get?_push_of_some _ e, r⟩
  refine ⟨s.heap.objs.size, _, _, _, _, _, _, fun i => (ns[i]?).getD 0, rfl, (Walks.list hh s.heap.objs.size p hnz its.toArray).toS, ⟨⟨_, Heap.get?_push_size _ rfl, rfl, rfl⟩, hp⟩, fun b hb => ?_, fun i v hP => ?_, fun s' t' mv => ?_⟩
  · show b < (s.heap.push _).objs.size
    rw [Heap.size_push]
    rcases List.mem_cons.mp hb with rfl | hb
    · exact Nat.lt_succ_self _
    · rw [List.mem_singleton.mp hb]
      obtain ⟨o, n, e, _⟩ := pl
      exact Nat.lt_succ_of_lt (Heap.lt_size e)
  · have hP' : its[i]? = some v := by simpa using hP
    cases hb : ns[i]? with
    | none =>
      have h1 : (ns.map V.int)[i]? = none := by rw [List.getElem?_map, hb]; rfl
      rw [rv.none_of h1] at hP'
      cases hP'
    | some b =>
      have h1 : (ns.map V.int)[i]? = some (.int b) := by rw [List.getElem?_map, hb]; rfl
      obtain ⟨u, e1, e2⟩ := rv.get h1
      rw [hP'] at e1
      cases e1
      obtain ⟨t, rfl⟩ := e2
      refine ⟨t, ?_⟩
      simp only [hb, Option.getD_some]
  · obtain ⟨h', g', d', t2, o'⟩ := s'
    obtain ⟨m1, m2, m3, m4, m5⟩ := mv
    have m2' : g' = s.gens := m2
    have m3' : d' = s.drawn := m3
    have m4' : o' = s.os := m4
    subst m2' m3' m4'
    have hl : its.toArray.size = ns.length := by rw [List.size_toArray, ← hlen, List.length_map]
    have e : PySem.preSum (fun i => (ns[i]?).getD 0) its.toArray.size = ns.sum := by
      rw [hl, preSum_take ns _ (Nat.le_refl _), List.take_length]
    rw [e]
    refine ⟨.int ns.sum, H, I.kept (h' := h') (t' := t2) fun b o eb => m1 b o (fun z => ?_) (Heap.get?_push_of_some _ eb), ⟨t', rfl⟩, q⟩
    have := Heap.lt_size eb
    rw [List.mem_singleton.mp z] at this
    exact Nat.lt_irrefl _ this
end
end L2
set_option Elab.async false
set_option linter.all false
set_option maxRecDepth 100000
set_option maxHeartbeats 4000000
namespace G
open PySem PySem.Spec PyProof.Rows L2

/-! ### data without a heap -/
inductive D where
  | non | bl (b : Bool) | int (i : Int) | str (x : Str) | lst (xs : List D) | tup (xs : List D) | scr (ns : List Int) | dic (ks : List Key) (vs : List D)

def KnL (K : PySem.W.Frag) (a : Addr) (xs : List V) : Prop :=
  ∃ (o : Obj) (its : Array Value) (n : Nat), K.lookup a = some o ∧ o.cls = .type "list" ∧ o.dict = none ∧ o.data = .seq its n ∧ its.size ≤ sizeLine ∧ Vals xs its.toList

mutual
/-- v is d in the heap H, by no object of S -/
def Rp (K : PySem.W.Frag) (H : Hp) (S : List Addr) : D → V → Prop
  | .non, v => v = .non
  | .bl b, v => v = .bl b
  | .int i, v => v = .int i
  | .str x, v => v = .str x
  | .lst ds, v => ∃ a xs, v = .ref a ∧ a ∉ S ∧ H a = some (.lst xs) ∧ RpL K H S ds xs
  | .tup ds, v => ∃ a xs, v = .ref a ∧ a ∉ S ∧ H a = some (.tup xs) ∧ RpL K H S ds xs
  | .scr ns, v => ∃ a, v = .ref a ∧ ((a ∉ S ∧ Rd H a (.lst (ns.map V.int))) ∨ KnL K a (ns.map V.int))
  | .dic ks vs, v => ∃ a kvs, v = .ref a ∧ a ∉ S ∧ H a = some (.dK kvs) ∧ kvs.map (·.1) = ks ∧ RpL K H S vs (kvs.map (·.2))
def RpL (K : PySem.W.Frag) (H : Hp) (S : List Addr) : List D → List V → Prop
  | [], xs => xs = []
  | d :: ds, xs => ∃ y ys, xs = y :: ys ∧ Rp K H S d y ∧ RpL K H S ds ys
end

section
variable {K : PySem.W.Frag} {H H' : Hp} {S S' : List Addr}
mutual
theorem Rp.keep (k : ∀ b o, b ∉ S → H b = some o → H' b = some o) : ∀ {d : D} {v : V}, Rp K H S d v → Rp K H' S d v
  | .non, _, h => h
  | .bl _, _, h => h
  | .int _, _, h => h
  | .str _, _, h => h
  | .lst ds, v, h => by
    unfold Rp at h ⊢
    obtain ⟨a, xs, e, n, g, r⟩ := h
    exact ⟨a, xs, e, n, k _ _ n g, RpL.keep k r⟩
  | .tup ds, v, h => by
    unfold Rp at h ⊢
    obtain ⟨a, xs, e, n, g, r⟩ := h
    exact ⟨a, xs, e, n, k _ _ n g, RpL.keep k r⟩
  | .scr ns, v, h => by
    unfold Rp at h ⊢
    obtain ⟨a, e, h⟩ := h
    refine ⟨a, e, ?_⟩
    rcases h with ⟨n, g | ⟨o, g⟩⟩ | h
    · exact .inl ⟨n, .inl (k _ _ n g)⟩
    · exact .inl ⟨n, .inr ⟨o, k _ _ n g⟩⟩
    · exact .inr h
  | .dic ks vs, v, h => by
    unfold Rp at h ⊢
    obtain ⟨a, kvs, e, n, g, hk, r⟩ := h
    exact ⟨a, kvs, e, n, k _ _ n g, hk, RpL.keep k r⟩
theorem RpL.keep (k : ∀ b o, b ∉ S → H b = some o → H' b = some o) : ∀ {ds : List D} {vs : List V}, RpL K H S ds vs → RpL K H' S ds vs
  | [], _, h => h
  | d :: ds, xs, h => by
    unfold RpL at h ⊢
    obtain ⟨y, ys, e, h1, h2⟩ := h
    exact ⟨y, ys, e, Rp.keep k h1, RpL.keep k h2⟩
end
mutual
/-- other addresses are named: those that H tracks and S' has, S has -/
theorem Rp.swap (k : ∀ b o, H b = some o → b ∈ S' → b ∈ S) : ∀ {d : D} {v : V}, Rp K H S d v → Rp K H S' d v
  | .non, _, h => h
  | .bl _, _, h => h
  | .int _, _, h => h
  | .str _, _, h => h
  | .lst ds, v, h => by
    unfold Rp at h ⊢
    obtain ⟨a, xs, e, n, g, r⟩ := h
    exact ⟨a, xs, e, fun z => n (k _ _ g z), g, RpL.swap k r⟩
  | .tup ds, v, h => by
    unfold Rp at h ⊢
    obtain ⟨a, xs, e, n, g, r⟩ := h
    exact ⟨a, xs, e, fun z => n (k _ _ g z), g, RpL.swap k r⟩
  | .scr ns, v, h => by
    unfold Rp at h ⊢
    obtain ⟨a, e, h⟩ := h
    refine ⟨a, e, ?_⟩
    rcases h with ⟨n, g | ⟨o, g⟩⟩ | h
    · exact .inl ⟨fun z => n (k _ _ g z), .inl g⟩
    · exact .inl ⟨fun z => n (k _ _ g z), .inr ⟨o, g⟩⟩
    · exact .inr h
  | .dic ks vs, v, h => by
    unfold Rp at h ⊢
    obtain ⟨a, kvs, e, n, g, hk, r⟩ := h
    exact ⟨a, kvs, e, fun z => n (k _ _ g z), g, hk, RpL.swap k r⟩
theorem RpL.swap (k : ∀ b o, H b = some o → b ∈ S' → b ∈ S) : ∀ {ds : List D} {vs : List V}, RpL K H S ds vs → RpL K H S' ds vs
  | [], _, h => h
  | d :: ds, xs, h => by
    unfold RpL at h ⊢
    obtain ⟨y, ys, e, h1, h2⟩ := h
    exact ⟨y, ys, e, Rp.swap k h1, RpL.swap k h2⟩
end
theorem Rp.weak (k : ∀ b ∈ S', b ∈ S) {d : D} {v : V} (h : Rp K H S d v) : Rp K H S' d v := h.swap fun b _ _ z => k b z
theorem RpL.weak (k : ∀ b ∈ S', b ∈ S) {d : List D} {v : List V} (h : RpL K H S d v) : RpL K H S' d v := h.swap fun b _ _ z => k b z
theorem Rp.fresh {p : Addr} (hp : H p = none) {d : D} {v : V} (h : Rp K H S d v) : Rp K H (p :: S) d v := h.swap fun b o e z => by
  rcases List.mem_cons.mp z with rfl | z
  · rw [hp] at e; cases e
  · exact z
theorem RpL.fresh {p : Addr} (hp : H p = none) {d : List D} {v : List V} (h : RpL K H S d v) : RpL K H (p :: S) d v := h.swap fun b o e z => by
  rcases List.mem_cons.mp z with rfl | z
  · rw [hp] at e; cases e
  · exact z
theorem Rp.same (k : Same H H') {d : D} {v : V} (h : Rp K H S d v) : Rp K H' S d v := h.keep fun b o _ e => k b o e
theorem RpL.same (k : Same H H') {d : List D} {v : List V} (h : RpL K H S d v) : RpL K H' S d v := h.keep fun b o _ e => k b o e
theorem RpL.len : ∀ {ds : List D} {vs : List V}, RpL K H S ds vs → vs.length = ds.length
  | [], _, h => by unfold RpL at h; subst h; rfl
  | d :: ds, xs, h => by
    unfold RpL at h
    obtain ⟨y, ys, rfl, _, h2⟩ := h
    simp [RpL.len h2]
theorem RpL.nil : RpL K H S [] [] := by unfold RpL; rfl
theorem RpL.cons {d : D} {v : V} {ds : List D} {vs : List V} (h1 : Rp K H S d v) (h2 : RpL K H S ds vs) : RpL K H S (d :: ds) (v :: vs) := by unfold RpL; exact ⟨v, vs, rfl, h1, h2⟩
theorem RpL.get : ∀ {ds : List D} {vs : List V} {i : Nat} {v : V}, RpL K H S ds vs → vs[i]? = some v → ∃ d, ds[i]? = some d ∧ Rp K H S d v
  | [], _, _, _, h, e => by unfold RpL at h; subst h; simp at e
  | d :: ds, xs, i, v, h, e => by
    unfold RpL at h
    obtain ⟨y, ys, rfl, h1, h2⟩ := h
    cases i with
    | zero => simp at e; subst e; exact ⟨d, rfl, h1⟩
    | succ i => exact RpL.get (i := i) h2 (by simpa using e)
theorem RpL.getD : ∀ {ds : List D} {vs : List V} {i : Nat} {d : D}, RpL K H S ds vs → ds[i]? = some d → ∃ v, vs[i]? = some v ∧ Rp K H S d v
  | [], _, _, _, h, e => by simp at e
  | d :: ds, xs, i, v, h, e => by
    unfold RpL at h
    obtain ⟨y, ys, rfl, h1, h2⟩ := h
    cases i with
    | zero => simp at e; subst e; exact ⟨y, rfl, h1⟩
    | succ i => exact RpL.getD (i := i) h2 (by simpa using e)
theorem RpL.append : ∀ {ds es : List D} {vs us : List V}, RpL K H S ds vs → RpL K H S es us → RpL K H S (ds ++ es) (vs ++ us)
  | [], _, _, _, h, h' => by unfold RpL at h; subst h; exact h'
  | d :: ds, _, xs, _, h, h' => by
    unfold RpL at h
    obtain ⟨y, ys, rfl, h1, h2⟩ := h
    exact .cons h1 (h2.append h')
theorem RpL.take : ∀ {ds : List D} {vs : List V} (n : Nat), RpL K H S ds vs → RpL K H S (ds.take n) (vs.take n)
  | [], _, n, h => by unfold RpL at h; subst h; simp; exact .nil
  | d :: ds, xs, 0, h => by simp; exact .nil
  | d :: ds, xs, n + 1, h => by
    unfold RpL at h
    obtain ⟨y, ys, rfl, h1, h2⟩ := h
    exact .cons h1 (h2.take n)
theorem RpL.drop : ∀ {ds : List D} {vs : List V} (n : Nat), RpL K H S ds vs → RpL K H S (ds.drop n) (vs.drop n)
  | [], _, n, h => by unfold RpL at h; subst h; simp; exact .nil
  | d :: ds, xs, 0, h => h
  | d :: ds, xs, n + 1, h => by
    unfold RpL at h
    obtain ⟨y, ys, rfl, h1, h2⟩ := h
    exact h2.drop n
theorem RpL.set : ∀ {ds : List D} {vs : List V} (n : Nat) {d : D} {v : V}, RpL K H S ds vs → Rp K H S d v → RpL K H S (ds.set n d) (vs.set n v)
  | [], _, n, _, _, h, _ => by unfold RpL at h; subst h; simp; exact .nil
  | d :: ds, xs, 0, _, _, h, r => by
    unfold RpL at h
    obtain ⟨y, ys, rfl, h1, h2⟩ := h
    exact .cons r h2
  | d :: ds, xs, n + 1, _, _, h, r => by
    unfold RpL at h
    obtain ⟨y, ys, rfl, h1, h2⟩ := h
    exact .cons h1 (h2.set n r)
theorem RpL.reverse {ds : List D} {vs : List V} (h : RpL K H S ds vs) : RpL K H S ds.reverse vs.reverse := by
  induction ds generalizing vs with
  | nil => unfold RpL at h; subst h; exact .nil
  | cons d ds ih =>
    unfold RpL at h
    obtain ⟨y, ys, rfl, h1, h2⟩ := h
    rw [List.reverse_cons, List.reverse_cons]
    exact (ih h2).append (.cons h1 .nil)
theorem RpL.rep {ds : List D} {vs : List V} (h : RpL K H S ds vs) : ∀ n : Nat, RpL K H S (List.replicate n ds).flatten (List.replicate n vs).flatten
  | 0 => .nil
  | n + 1 => by
    rw [List.replicate_succ, List.replicate_succ, List.flatten_cons, List.flatten_cons]
    exact h.append (h.rep n)
theorem RpL.ints : ∀ ns : List Int, RpL K H S (ns.map D.int) (ns.map V.int)
  | [] => .nil
  | n :: ns => .cons (by unfold Rp; rfl) (RpL.ints ns)
end

/-! ### a value and how it is held -/
inductive Kd where
  | sh | fr | bo
  deriving DecidableEq
/-- sh: by no object of S. fr: a list that was not there in H0, all else of it by no object of S. bo: a list, perhaps of S, its items by no object of S -/
def VR (K : PySem.W.Frag) (H0 H : Hp) (S : List Addr) : Kd → D → V → Prop
  | .sh, d, v => Rp K H S d v
  | .fr, .lst ds, v => ∃ a xs, v = .ref a ∧ H0 a = none ∧ H a = some (.lst xs) ∧ RpL K H (a :: S) ds xs
  | .bo, .lst ds, v => ∃ a xs, v = .ref a ∧ H a = some (.lst xs) ∧ RpL K H S ds xs
  | _, _, _ => False
def Dom (H : Hp) (S : List Addr) : Prop := ∀ a ∈ S, ∃ o, H a = some o
theorem Dom.same {H H' : Hp} {S : List Addr} (h : Dom H S) (k : Same H H') : Dom H' S := fun a ha => let ⟨o, e⟩ := h a ha; ⟨o, k _ _ e⟩
section
variable {K : PySem.W.Frag} {H0 H H' : Hp} {S : List Addr}
theorem VR.same {k : Kd} {d : D} {v : V} (s : Same H H') (h : VR K H0 H S k d v) : VR K H0 H' S k d v := by
  cases k with
  | sh => exact Rp.same s h
  | fr =>
    cases d with
    | lst ds => obtain ⟨a, xs, e, n, g, r⟩ := h; exact ⟨a, xs, e, n, s _ _ g, r.same s⟩
    | _ => exact h.elim
  | bo =>
    cases d with
    | lst ds => obtain ⟨a, xs, e, g, r⟩ := h; exact ⟨a, xs, e, s _ _ g, r.same s⟩
    | _ => exact h.elim
/-- made later than an older heap -/
theorem VR.older {H1 : Hp} {k : Kd} {d : D} {v : V} (s : Same H0 H1) (h : VR K H1 H S k d v) : VR K H0 H S k d v := by
  cases k with
  | sh => exact h
  | fr =>
    cases d with
    | lst ds => obtain ⟨a, xs, e, n, g, r⟩ := h; exact ⟨a, xs, e, s.free n, g, r⟩
    | _ => exact h.elim
  | bo => cases d <;> exact h
theorem VR.rp {k : Kd} {d : D} {v : V} (dm : Dom H0 S) (hk : k ≠ .bo) (h : VR K H0 H S k d v) : Rp K H S d v := by
  cases k with
  | sh => exact h
  | fr =>
    cases d with
    | lst ds =>
      obtain ⟨a, xs, e, n, g, r⟩ := h
      unfold Rp
      refine ⟨a, xs, e, fun z => ?_, g, r.weak fun b hb => List.mem_cons_of_mem _ hb⟩
      obtain ⟨o, q⟩ := dm a z
      rw [n] at q; cases q
    | _ => exact h.elim
  | bo => exact absurd rfl hk
/-- what a reader of the value sees -/
def Top (K : PySem.W.Frag) (H : Hp) (S : List Addr) : D → V → Prop
  | .lst ds, v => ∃ a xs, v = .ref a ∧ H a = some (.lst xs) ∧ RpL K H S ds xs
  | .tup ds, v => ∃ a xs, v = .ref a ∧ H a = some (.tup xs) ∧ RpL K H S ds xs
  | d, v => Rp K H S d v
theorem VR.top {k : Kd} {d : D} {v : V} (h : VR K H0 H S k d v) : Top K H S d v := by
  cases k with
  | sh =>
    cases d with
    | lst ds =>
      have h : Rp K H S (.lst ds) v := h
      unfold Rp at h
      obtain ⟨a, xs, e, n, g, r⟩ := h
      exact ⟨a, xs, e, g, r⟩
    | tup ds =>
      have h : Rp K H S (.tup ds) v := h
      unfold Rp at h
      obtain ⟨a, xs, e, n, g, r⟩ := h
      exact ⟨a, xs, e, g, r⟩
    | _ => exact h
  | fr =>
    cases d with
    | lst ds => obtain ⟨a, xs, e, n, g, r⟩ := h; exact ⟨a, xs, e, g, r.weak fun b hb => List.mem_cons_of_mem _ hb⟩
    | _ => exact h.elim
  | bo =>
    cases d with
    | lst ds => exact h
    | _ => exact h.elim
theorem Top.int {i : Int} {v : V} (h : Top K H S (.int i) v) : v = .int i := by unfold Top Rp at h; exact h
theorem Top.bl {i : Bool} {v : V} (h : Top K H S (.bl i) v) : v = .bl i := by unfold Top Rp at h; exact h
theorem Top.str {i : Str} {v : V} (h : Top K H S (.str i) v) : v = .str i := by unfold Top Rp at h; exact h
theorem Top.scr {ns : List Int} {v : V} (h : Top K H S (.scr ns) v) : ∃ a, v = .ref a ∧ SqL K H a (ns.map V.int) := by
  unfold Top Rp at h
  obtain ⟨a, e, h⟩ := h
  refine ⟨a, e, ?_⟩
  rcases h with ⟨_, h⟩ | h
  · exact .inl h
  · exact .inr h
theorem vInt {i : Int} : VR K H0 H S .sh (.int i) (.int i) := by unfold VR Rp; rfl
theorem vBl {i : Bool} : VR K H0 H S .sh (.bl i) (.bl i) := by unfold VR Rp; rfl
theorem vNew {p : Addr} {ds : List D} {xs : List V} (hp : H p = none) (r : RpL K H S ds xs) : VR K H (upd H p (.lst xs)) S .fr (.lst ds) (.ref p) :=
  ⟨p, xs, rfl, hp, upd_same, (r.fresh hp).keep fun b o n e => by
    have : b ≠ p := fun z => n (by rw [z]; exact List.mem_cons_self)
    rw [upd_ne this]; exact e⟩
theorem same_upd {p : Addr} {o : HO} (hp : H p = none) : Same H (upd H p o) := fun b u q => by rw [upd_ne (ne_of_none q hp)]; exact q
theorem vTup {p : Addr} {ds : List D} {xs : List V} (dm : Dom H S) (hp : H p = none) (r : RpL K H S ds xs) : VR K H (upd H p (.tup xs)) S .sh (.tup ds) (.ref p) := by
  show Rp K _ S (.tup ds) _
  unfold Rp
  refine ⟨p, xs, rfl, fun z => ?_, upd_same, r.same (same_upd hp)⟩
  obtain ⟨o, q⟩ := dm p z
  rw [hp] at q; cases q
end
end G
set_option Elab.async false
set_option linter.all false
set_option maxRecDepth 100000
set_option maxHeartbeats 4000000
namespace G
open PySem PySem.Spec PyProof.Rows L2

section
variable {X : Cx}
/-! ### all -/
theorem call_all_list (hc : X.calm = true) : CallR X (.builtin "all") (fun xs H Q => ∃ (p : Addr) (bs : List Bool), xs = [.ref p] ∧ SqL X.K H p (bs.map V.bl) ∧ Q (.bl (bs.all id)) H) := by
  intro pins s σ H xs us Q I r h
  obtain ⟨p, bs, rfl, hq, q⟩ := h
  obtain ⟨u, rfl, rx⟩ := vals1 r
  cases rx
  obtain ⟨its, rv, pl, hz⟩ := I.list hq
  have hlen := rv.length
  have hh : X.A.in1.handled = none := I.ok.hd hc
  have hnz : p ≠ s.heap.objs.size := by
    obtain ⟨o, n, e, _⟩ := pl
    exact Nat.ne_of_lt (Heap.lt_size e)
  refine call_all_walk (wpAny_pyIter_list pl.isList ?_)
  have hp : (s.heap.push { cls := .type "list_iterator", data := .fields #[.ref p, .int 0 0] }).IsList p its.toArray := by
    obtain ⟨o, e, r⟩ := pl.isList
    exact ⟨o, Heap.get?_push_of_some _ e, r⟩
  refine ⟨s.heap.objs.size, _, _, _, _, _, fun i => (bs[i]?).getD false, rfl, Walks.list hh s.heap.objs.size p hnz its.toArray, ⟨⟨_, Heap.get?_push_size _ rfl, rfl, rfl⟩, hp⟩, fun i v s' Q' E' hP hQ => ?_, fun h' tk hk => ?_⟩
  · have hP' : its[i]? = some v := by simpa using hP
    cases hb : bs[i]? with
    | none =>
      have h1 : (bs.map V.bl)[i]? = none := by rw [List.getElem?_map, hb]; rfl
      rw [rv.none_of h1] at hP'
      cases hP'
    | some b =>
      have h1 : (bs.map V.bl)[i]? = some (.bl b) := by rw [List.getElem?_map, hb]; rfl
      obtain ⟨u, e1, e2⟩ := rv.get h1
      rw [hP'] at e1
      cases e1
      cases e2
      simp only [hb, Option.getD_some] at hQ
      exact wpAny_truthy_bool hQ
  · have e : ((List.range its.toArray.size).all fun i => (bs[i]?).getD false) = bs.all id := by
      have hl : its.toArray.size = bs.length := by rw [List.size_toArray, ← hlen, List.length_map]
      rw [hl, Bool.eq_iff_iff]
      simp only [List.all_eq_true, List.mem_range, id]
      constructor
      · intro h x hx
        obtain ⟨i, hi, rfl⟩ := List.mem_iff_getElem.mp hx
        have := h i hi
        rw [List.getElem?_eq_getElem hi] at this
        exact this
      · intro h i hi
        rw [List.getElem?_eq_getElem hi]
        exact h _ (List.getElem_mem hi)
    rw [e]
    refine ⟨.bl (bs.all id), H, I.kept fun b o q' => hk b o (fun z => ?_) (Heap.get?_push_of_some _ q'), rfl, q⟩
    have : b = s.heap.objs.size := by simpa using z
    exact absurd (this ▸ Heap.lt_size q') (Nat.lt_irrefl _)

/-! ### isinstance against a built-in type -/
theorem call_isinst : CallR X (.builtin "isinstance") (fun xs H Q => ∃ x T t b, xs = [x, .ty T] ∧ TyOf X.K H x t ∧ PySem.W.kitOne X.K t (.type T) = some b ∧ Q (.bl b) H) := by
  intro pins s σ H xs us Q I r h
  obtain ⟨x, T, t, b, rfl, ty, e, q⟩ := h
  obtain ⟨u, w', rfl, r1, r2⟩ := vals2 r
  cases r2
  exact isinst_ok I r1 ty e fun tk => ⟨.bl b, H, I.tok _, rfl, q⟩

/-! ### data compared, however deep -/
def eqL (f : D → D → Option Bool) : List D → List D → Option Bool
  | [], [] => some true
  | x :: xs, y :: ys => match f x y, eqL f xs ys with
    | some a, some b => some (a && b)
    | _, _ => none
  | _, _ => none
def eqX : Nat → D → D → Option Bool
  | 0, _, _ => none
  | n + 1, x, y => match x, y with
    | .int i, .int j => some (i == j)
    | .bl i, .bl j => some (i == j)
    | .str i, .str j => some (i == j)
    | .non, .non => some true
    | .lst xs, .lst ys => if xs.length = ys.length then eqL (eqX n) xs ys else some false
    | .tup xs, .tup ys => if xs.length = ys.length then eqL (eqX n) xs ys else none
    | .lst _, .tup _ => some false
    | .tup _, .lst _ => some false
    | _, _ => none
theorem eqL_all {f : D → D → Option Bool} : ∀ {xs ys : List D} {b : Bool}, eqL f xs ys = some b → ∃ e : Nat → Bool, (∀ i x y, xs[i]? = some x → ys[i]? = some y → f x y = some (e i)) ∧ (List.range xs.length).all e = b
  | [], [], b, h => by cases h; exact ⟨fun _ => true, fun i x y h => by simp at h, rfl⟩
  | x :: xs, y :: ys, b, h => by
    unfold eqL at h
    split at h
    · rename_i a b' e1 e2
      cases h
      obtain ⟨e, h1, h2⟩ := eqL_all e2
      refine ⟨fun i => match i with | 0 => a | i + 1 => e i, fun i x' y' g1 g2 => ?_, ?_⟩
      · cases i with
        | zero => simp at g1 g2; subst g1; subst g2; exact e1
        | succ i => exact h1 i x' y' (by simpa using g1) (by simpa using g2)
      · rw [List.length_cons, List.range_succ_eq_map, List.all_cons, List.all_map, ← h2]
        rfl
    · cases h
  | [], _ :: _, _, h => by cases h
  | _ :: _, [], _, h => by cases h
/-- one value is alike to itself -/
theorem eqX_same {K : PySem.W.Frag} {H : Hp} : ∀ (n : Nat) {S S' : List Addr} {x y : D} {b : Bool} {v : V}, eqX n x y = some b → Rp K H S x v → Rp K H S' y v → b = true
  | 0, _, _, _, _, _, _, h, _, _ => by cases h
  | n + 1, S, S', x, y, b, v, h, rx, ry => by
    have ih := @eqX_same K H n
    have lists : ∀ {xs ys : List D} {us : List V} {b : Bool}, RpL K H S xs us → RpL K H S' ys us → (if xs.length = ys.length then eqL (eqX n) xs ys else some false) = some b → b = true := fun {xs ys us b} r1 r2 hk => by
      rw [if_pos (by rw [← r1.len, ← r2.len])] at hk
      obtain ⟨e, he, hall⟩ := eqL_all hk
      rw [← hall, List.all_eq_true]
      intro i hi
      have hi' := List.mem_range.mp hi
      have hu : i < us.length := by rw [r1.len]; exact hi'
      obtain ⟨d, g1, g2⟩ := r1.get (List.getElem?_eq_getElem hu)
      obtain ⟨d', g3, g4⟩ := r2.get (List.getElem?_eq_getElem hu)
      exact ih (he i d d' g1 g3) g2 g4
    unfold eqX at h
    split at h
    · unfold Rp at rx ry; subst rx; cases ry; cases h; simp
    · unfold Rp at rx ry; subst rx; cases ry; cases h; simp
    · unfold Rp at rx ry; subst rx; cases ry; cases h; simp
    · cases h; rfl
    · unfold Rp at rx ry
      obtain ⟨a, us, rfl, _, g, r⟩ := rx
      obtain ⟨a', us', q, _, g', r'⟩ := ry
      cases q
      rw [g] at g'
      cases g'
      exact lists r r' h
    · unfold Rp at rx ry
      obtain ⟨a, us, rfl, _, g, r⟩ := rx
      obtain ⟨a', us', q, _, g', r'⟩ := ry
      cases q
      rw [g] at g'
      cases g'
      exact lists r r' (by split at h <;> first | (rename_i hl; rw [if_pos hl]; exact h) | cases h)
    · unfold Rp at rx ry
      obtain ⟨a, us, rfl, _, g, r⟩ := rx
      obtain ⟨a', us', q, _, g', r'⟩ := ry
      cases q
      rw [g] at g'
      cases g'
    · unfold Rp at rx ry
      obtain ⟨a, us, rfl, _, g, r⟩ := rx
      obtain ⟨a', us', q, _, g', r'⟩ := ry
      cases q
      rw [g] at g'
      cases g'
    · cases h
theorem items_at {A : Around} {s : Shared} {us vs : List V} {its its2 : List Value} (r1 : Vals us its) (r2 : Vals vs its2) {e : Nat → Bool} (h : ∀ j u v w z, us[j]? = some u → vs[j]? = some v → RelV u w → RelV v z → SeqAt.EqAt A s w z (e j)) :
    ∀ j (h1 : j < its.toArray.size) (h2 : j < its2.toArray.size), SeqAt.EqAt A s its.toArray[j] its2.toArray[j] (e j) := fun j h1 h2 => by
  have l1 := r1.length
  have l2 := r2.length
  have j1 : j < us.length := by simp only [List.size_toArray] at h1; omega
  have j2 : j < vs.length := by simp only [List.size_toArray] at h2; omega
  obtain ⟨w, e1, e2⟩ := r1.get (List.getElem?_eq_getElem j1)
  obtain ⟨w', e3, e4⟩ := r2.get (List.getElem?_eq_getElem j2)
  have q1 : its.toArray[j] = w := by
    obtain ⟨_, this⟩ := List.getElem?_eq_some_iff.mp e1
    simpa using this
  have q2 : its2.toArray[j] = w' := by
    obtain ⟨_, this⟩ := List.getElem?_eq_some_iff.mp e3
    simpa using this
  rw [q1, q2]
  exact h j _ _ _ _ (List.getElem?_eq_getElem j1) (List.getElem?_eq_getElem j2) e2 e4
theorem all_min {n m : Nat} {e : Nat → Bool} {b : Bool} (h : n = m) (ha : (List.range n).all e = b) : ((List.range (min n m)).all e && n == m) = b := by
  subst h
  simpa using ha
section
variable {pins : List (Addr × Obj)} {s : Shared} {σ : L2.St} {H : Hp}
/-- == of what stands for data -/
theorem eqX_at (I : Inv X pins σ H s) : ∀ (n : Nat) (A : Around), A.units + n < cLine → ∀ {S S' : List Addr} {x y : D} {b : Bool} {v u : V} {w z : Value}, eqX n x y = some b → Rp X.K H S x v → Rp X.K H S' y u → RelV v w → RelV u z → SeqAt.EqAt A s w z b
  | 0, A, _, _, _, _, _, _, _, _, _, _, h, _, _, _, _ => by cases h
  | n + 1, A, hu, S, S', x, y, b, v, u, w, z, h, rx, ry, rv, ru => by
    have hu0 : A.units < cLine := by omega
    have ih := fun {S S' x y b v u w z} => eqX_at I n A.in1 (by show A.units + 1 + n < cLine; omega) (S := S) (S' := S') (x := x) (y := y) (b := b) (v := v) (u := u) (w := w) (z := z)
    have hall := h
    unfold eqX at h
    split at h
    · unfold Rp at rx ry; subst rx; subst ry
      obtain ⟨t, rfl⟩ := rv; obtain ⟨t', rfl⟩ := ru
      cases h
      exact SeqAt.EqAt.int_int _ _ _ _
    · unfold Rp at rx ry; subst rx; subst ry
      cases rv; cases ru
      cases h
      exact SeqAt.EqAt.bool_bool _ _
    · unfold Rp at rx ry; subst rx; subst ry
      obtain ⟨t, rfl⟩ := rv; obtain ⟨t', rfl⟩ := ru
      cases h
      exact SeqAt.EqAt.str_str _ _ _ _
    · unfold Rp at rx ry; subst rx; subst ry
      cases rv; cases ru
      cases h
      exact SeqAt.EqAt.same _
    · rename_i xs ys
      unfold Rp at rx ry
      obtain ⟨a, us, rfl, na, g, r⟩ := rx
      obtain ⟨a', us', rfl, na', g', r'⟩ := ry
      cases rv; cases ru
      by_cases haa : a = a'
      · subst haa
        have := eqX_same (K := X.K) (H := H) (n + 1) (S := S) (S' := S') hall (v := .ref a) (by unfold Rp; exact ⟨a, us, rfl, na, g, r⟩) (by unfold Rp; exact ⟨a, us', rfl, na', g', r'⟩)
        subst this
        exact SeqAt.EqAt.same _
      · refine SeqAt.EqAt.of_refs haa ?_
        obtain ⟨its, v1, p1, z1⟩ := I.list (SqL.of g)
        obtain ⟨its2, v2, p2, z2⟩ := I.list (SqL.of g')
        have l1 := v1.length
        have l2 := v2.length
        have l3 := r.len
        have l4 := r'.len
        by_cases hl : xs.length = ys.length
        · rw [if_pos hl] at h
          obtain ⟨e, he, ha⟩ := eqL_all h
          have := SeqAt.RcAt.lists (A := A) p1.isList p2.isList (by simp only [List.size_toArray]; omega) hu0 (items_at v1 v2 fun j u1 u2 w1 w2 q1 q2 q3 q4 => by
            obtain ⟨d, g1, g2⟩ := r.get q1
            obtain ⟨d', g3, g4⟩ := r'.get q2
            exact ih (he j d d' g1 g3) g2 g4 q3 q4)
          rw [List.size_toArray, ← l1, l3, ha] at this
          exact this
        · rw [if_neg hl] at h
          cases h
          exact SeqAt.RcAt.lists_lengths p1.isList p2.isList (by simp only [List.size_toArray, bne_iff_ne, ne_eq]; omega) hu0
    · rename_i xs ys
      unfold Rp at rx ry
      obtain ⟨a, us, rfl, na, g, r⟩ := rx
      obtain ⟨a', us', rfl, na', g', r'⟩ := ry
      cases rv; cases ru
      by_cases haa : a = a'
      · subst haa
        have := eqX_same (K := X.K) (H := H) (n + 1) (S := S) (S' := S') hall (v := .ref a) (by unfold Rp; exact ⟨a, us, rfl, na, g, r⟩) (by unfold Rp; exact ⟨a, us', rfl, na', g', r'⟩)
        subst this
        exact SeqAt.EqAt.same _
      · refine SeqAt.EqAt.of_refs haa ?_
        obtain ⟨its, v1, p1, z1⟩ := I.tuple (SqT.of g)
        obtain ⟨its2, v2, p2, z2⟩ := I.tuple (SqT.of g')
        have l1 := v1.length
        have l2 := v2.length
        have l3 := r.len
        have l4 := r'.len
        by_cases hl : xs.length = ys.length
        · rw [if_pos hl] at h
          obtain ⟨e, he, ha⟩ := eqL_all h
          have := SeqAt.RcAt.tuples (A := A) (show s.heap.IsTuple a its.toArray from p1) (show s.heap.IsTuple a' its2.toArray from p2) hu0 (items_at v1 v2 fun j u1 u2 w1 w2 q1 q2 q3 q4 => by
            obtain ⟨d, g1, g2⟩ := r.get q1
            obtain ⟨d', g3, g4⟩ := r'.get q2
            exact ih (he j d d' g1 g3) g2 g4 q3 q4)
          have hm := all_min (n := its.toArray.size) (m := its2.toArray.size) (e := e) (b := b) (by simp only [List.size_toArray]; omega) (by rw [List.size_toArray, ← l1, l3]; exact ha)
          rw [hm] at this
          exact this
        · rw [if_neg hl] at h
          cases h
    · unfold Rp at rx ry
      obtain ⟨a, us, rfl, na, g, r⟩ := rx
      obtain ⟨a', us', rfl, na', g', r'⟩ := ry
      cases rv; cases ru
      cases h
      obtain ⟨its, v1, p1, z1⟩ := I.list (SqL.of g)
      obtain ⟨its2, v2, p2, z2⟩ := I.tuple (SqT.of g')
      exact SeqAt.EqAt.list_tuple p1.isList (show s.heap.IsTuple a' its2.toArray from p2) hu0
    · unfold Rp at rx ry
      obtain ⟨a, us, rfl, na, g, r⟩ := rx
      obtain ⟨a', us', rfl, na', g', r'⟩ := ry
      cases rv; cases ru
      cases h
      obtain ⟨its, v1, p1, z1⟩ := I.tuple (SqT.of g)
      obtain ⟨its2, v2, p2, z2⟩ := I.list (SqL.of g')
      exact SeqAt.EqAt.tuple_list (show s.heap.IsTuple a its.toArray from p1) p2.isList hu0
    · cases h
end

theorem op_eqL (hu : X.A.units + 100 < cLine) (neg : Bool) : OpR X (compareOp (if neg then .NotEq else .Eq)) (fun x y H Q => ∃ (a b : Addr) (us vs : List V) (S S' : List Addr) (xs ys : List D) (k : Bool), x = .ref a ∧ y = .ref b ∧ SqL X.K H a us ∧ SqL X.K H b vs ∧ RpL X.K H S xs us ∧ RpL X.K H S' ys vs ∧
    (if xs.length = ys.length then eqL (eqX 90) xs ys else some false) = some k ∧ Q (.bl (k != neg)) H) := by
  intro pins s σ H x y v u Q I rx ry h
  obtain ⟨a, b, us, vs, S, S', xs, ys, k, rfl, rfl, ha, hb, ra, rb, hk, q⟩ := h
  cases rx
  cases ry
  obtain ⟨its, r1, p1, z1⟩ := I.list ha
  obtain ⟨its2, r2, p2, z2⟩ := I.list hb
  have l1 := r1.length
  have l2 := r2.length
  have l3 := ra.len
  have l4 := rb.len
  have hu0 : X.A.units < cLine := by omega
  by_cases hl : xs.length = ys.length
  · rw [if_pos hl] at hk
    obtain ⟨e, he, hall⟩ := eqL_all hk
    have hsz : its.toArray.size = its2.toArray.size := by simp only [List.size_toArray]; omega
    have at' := items_at (A := X.A.in1) (s := s) r1 r2 (e := e) fun j u1 u2 w1 w2 q1 q2 q3 q4 => by
      obtain ⟨d, g1, g2⟩ := ra.get q1
      obtain ⟨d', g3, g4⟩ := rb.get q2
      exact eqX_at I 90 X.A.in1 (by show X.A.units + 1 + 90 < cLine; omega) (he j d d' g1 g3) g2 g4 q3 q4
    have hr : (List.range its.toArray.size).all e = k := by
      rw [List.size_toArray, ← l1, l3]; exact hall
    cases neg with
    | false =>
      refine SeqAt.eq_listAt p1.isList p2.isList hsz hu0 at' ?_
      rw [hr]
      exact ⟨.bl k, H, I, rfl, by simpa using q⟩
    | true =>
      have hn := SeqAt.RcNeAt.lists (A := X.A) (s := s) p1.isList p2.isList hsz hu0 at'
      rw [hr] at hn
      exact hn X.prog X.w X.xe _ ⟨.bl (!k), H, I, rfl, by simpa using q⟩
  · rw [if_neg hl] at hk
    cases hk
    have hsz : (its.toArray.size != its2.toArray.size) = true := by
      simp only [List.size_toArray, bne_iff_ne, ne_eq]
      omega
    cases neg with
    | false => exact SeqAt.eq_list_lengthsAt p1.isList p2.isList hsz hu0 ⟨.bl false, H, I, rfl, by simpa using q⟩
    | true => exact SeqAt.RcNeAt.lists_lengths (A := X.A) (s := s) p1.isList p2.isList hsz hu0 X.prog X.w X.xe _ ⟨.bl true, H, I, rfl, by simpa using q⟩
theorem op_eqT (hu : X.A.units + 100 < cLine) (neg : Bool) : OpR X (compareOp (if neg then .NotEq else .Eq)) (fun x y H Q => ∃ (a b : Addr) (us vs : List V) (S S' : List Addr) (xs ys : List D) (k : Bool), x = .ref a ∧ y = .ref b ∧ SqT X.K H a us ∧ SqT X.K H b vs ∧ RpL X.K H S xs us ∧ RpL X.K H S' ys vs ∧
    (if xs.length = ys.length then eqL (eqX 90) xs ys else none) = some k ∧ Q (.bl (k != neg)) H) := by
  intro pins s σ H x y v u Q I rx ry h
  obtain ⟨a, b, us, vs, S, S', xs, ys, k, rfl, rfl, ha, hb, ra, rb, hk, q⟩ := h
  cases rx
  cases ry
  obtain ⟨its, r1, p1, z1⟩ := I.tuple ha
  obtain ⟨its2, r2, p2, z2⟩ := I.tuple hb
  have l1 := r1.length
  have l2 := r2.length
  have l3 := ra.len
  have l4 := rb.len
  have hu0 : X.A.units < cLine := by omega
  by_cases hl : xs.length = ys.length
  · rw [if_pos hl] at hk
    obtain ⟨e, he, hall⟩ := eqL_all hk
    have at' := items_at (A := X.A.in1) (s := s) r1 r2 (e := e) fun j u1 u2 w1 w2 q1 q2 q3 q4 => by
      obtain ⟨d, g1, g2⟩ := ra.get q1
      obtain ⟨d', g3, g4⟩ := rb.get q2
      exact eqX_at I 90 X.A.in1 (by show X.A.units + 1 + 90 < cLine; omega) (he j d d' g1 g3) g2 g4 q3 q4
    have hr := all_min (n := its.toArray.size) (m := its2.toArray.size) (e := e) (b := k) (by simp only [List.size_toArray]; omega) (by rw [List.size_toArray, ← l1, l3]; exact hall)
    cases neg with
    | false =>
      refine SeqAt.eq_tupleAt (show s.heap.IsTuple a its.toArray from p1) (show s.heap.IsTuple b its2.toArray from p2) hu0 at' ?_
      rw [hr]
      exact ⟨.bl k, H, I, rfl, by simpa using q⟩
    | true =>
      have hn := SeqAt.RcNeAt.tuples (A := X.A) (s := s) (show s.heap.IsTuple a its.toArray from p1) (show s.heap.IsTuple b its2.toArray from p2) hu0 at'
      rw [hr] at hn
      exact hn X.prog X.w X.xe _ ⟨.bl (!k), H, I, rfl, by simpa using q⟩
  · rw [if_neg hl] at hk
    cases hk
end

/-! ### enumerate -/
def Ite (K : PySem.W.Frag) (a : Addr) : It :=
  ⟨fun i H => ∃ xs x, SqL K H a xs ∧ xs[i]? = some x, fun i H x H' => ∃ p v, H p = none ∧ H' = upd H p (.tup [.int i, v]) ∧ x = .ref p ∧ ∀ xs, SqL K H a xs → xs[i]? = some v, fun i H => ∃ xs, SqL K H a xs ∧ xs.length ≤ i⟩
theorem turn_enum {P : Program} {w : World} {K : PySem.W.Frag} {es : List Expr} {kk : Nat} {tp : Pos} (a e it : Addr) (hne : e ≠ it) : Turn P w K (.Tuple es kk tp) (Ite K a) [e, it] e (fun i h => (∃ old, IsEnum h e it ((i : Nat) : Int) old) ∧ h.IsListIter it a i) where
  mem := by simp
  obj := fun i h st b hb => by
    obtain ⟨⟨old, h1⟩, o, h2, h3, h4⟩ := st
    rcases List.mem_cons.mp hb with rfl | hb
    · exact ⟨_, h1, fun v z => by
        have z' : Data.fields _ = Data.cell v := z
        cases z'⟩
    · have : b = it := by simpa using hb
      subst this
      exact ⟨o, h2, fun v z => by rw [h4] at z; cases z⟩
  keep := fun i h h' st k => by
    obtain ⟨⟨old, h1⟩, h2⟩ := st
    exact ⟨⟨old, k e (by simp) _ h1⟩, h2.at fun o q => k it (by simp) o q⟩
  item := by
    intro X hP hw hK hc i pins s σ H E I hf st hg
    subst hP hw hK
    obtain ⟨⟨old, he⟩, hit⟩ := st
    obtain ⟨xs, x, hq, hx⟩ := hg
    obtain ⟨its, rv, p, hz⟩ := I.list hq
    obtain ⟨u, hu, ru⟩ := rv.get hx
    obtain ⟨f0, f1, f2, f3, f4, f5⟩ := hf e (by simp)
    obtain ⟨g0, g1, g2, g3, g4, g5⟩ := hf it (by simp)
    have hes := Heap.lt_size he
    refine wpAny_pyNext_enum_item he hit p.isList (x := u) (by simpa using hu) hne fun h1 ho hit1 ht hs1 kk1 => ?_
    refine ⟨_, rfl, wpAny_letOwnedTupleGo_enum ho fun h2 he2 sb2 => ?_⟩
    have sb2' : Heap.SameBut e h1 h2 := sb2
    have step1 : ∀ b o, b ≠ e → b ≠ it → s.heap.get? b = some o → h2.get? b = some o := fun b o n1 n2 q => (sb2'.2 b n1).trans (kk1 b o n1 n2 q)
    have fr := I.hok.fresh (Nat.le_refl s.heap.objs.size)
    have htup : h2.get? s.heap.objs.size = some { cls := .type "tuple", data := .seq #[.int i s.toks, u] } := (sb2'.2 _ (Nat.ne_of_gt hes)).trans ht
    have I1 : Inv X pins σ (upd H s.heap.objs.size (.tup [.int i, x])) { s with heap := h2, toks := s.toks + 1 } := by
      have nit : ∀ b o, H b = some o → b ≠ e ∧ b ≠ it := fun b o q => ⟨(fun z => by rw [z, f0] at q; cases q), (fun z => by rw [z, g0] at q; cases q)⟩
      have hok' : HOk X.prog X.w (upd H s.heap.objs.size (.tup [.int i, x])) h2 := fun b o q => by
        by_cases hb : b = s.heap.objs.size
        · subst hb
          rw [upd_same] at q
          cases q
          exact ⟨(by show 2 ≤ sizeLine; decide), [.int i s.toks, u], .cons ⟨_, rfl⟩ (.cons ru .nil), _, htup, rfl, _, rfl⟩
        · rw [upd_ne hb] at q
          refine (I.hok b o q).stay (fun c v hc' q' => step1 c v ?_ ?_ q') (fun c q' => by rw [upd_ne (ne_of_none q' fr)]; exact q') fun c ys q' => by rw [upd_ne (ne_of_none q' fr)]; exact q'
          · rcases hc' with rfl | hc'
            · exact (nit _ _ q).1
            · exact (nit _ _ hc').1
          · rcases hc' with rfl | hc'
            · exact (nit _ _ q).2
            · exact (nit _ _ hc').2
      refine I.step (g' := s.gens) (d' := s.drawn) (t' := s.toks + 1) (ch := [e, it]) (fun b hb => ?_) (fun b o _ _ hcx q _ => step1 b o (fun z => hcx (by simp [z])) (fun z => hcx (by simp [z])) q)
        (fun b o _ _ hcx q _ => ⟨o.slots, step1 b o (fun z => hcx (by simp [z])) (fun z => hcx (by simp [z])) q⟩) (fun b o hcx q n => by rw [upd_ne (Nat.ne_of_lt (Heap.lt_size q))]; exact n)
        (fun b o hcx q => ⟨o, step1 b o (fun z => hcx (by simp [z])) (fun z => hcx (by simp [z])) q⟩) (fun b ys q => by rw [upd_ne (ne_of_none q fr)]; exact q) (fun b o z q => by rw [upd_ne (ne_of_none q fr)]; exact q)
        (fun b ps q => ⟨#[], by rw [upd_ne (ne_of_none q fr), q]; simp⟩) (fun m hm => ?_) hok' I.bare
      · rcases List.mem_cons.mp hb with rfl | hb
        · exact ⟨f3, f1, f4, f5⟩
        · have : b = it := by simpa using hb
          subst this
          exact ⟨g3, g1, g4, g5⟩
      · obtain ⟨o, es', ep, ho', r'⟩ := hm
        exact ⟨o, es', ep, step1 _ o (Ne.symm f1) (Ne.symm g1) ho', r'⟩
    refine ⟨.ref s.heap.objs.size, _, I1, rfl, ⟨s.heap.objs.size, x, fr, rfl, rfl, fun ys hy => by rw [I.list_inj hy hq]; exact hx⟩, ⟨⟨u, by
        have : (((i + 1 : Nat) : Int)) = (i : Int) + 1 := by omega
        rw [this]; exact he2⟩, hit1.extBut sb2'.extBut (Ne.symm hne)⟩, fun b hb => ?_⟩
    have hb0 := (hf b hb).1
    have hlt : b < s.heap.objs.size := by
      rcases List.mem_cons.mp hb with rfl | hb
      · exact hes
      · have : b = it := by simpa using hb
        subst this
        obtain ⟨o, q, _⟩ := hit
        exact Heap.lt_size q
    rw [upd_ne (Nat.ne_of_lt hlt)]
    exact hb0
  done := by
    intro X hP hw hK hc i pins s σ H E I hf st hg
    subst hP hw hK
    obtain ⟨⟨old, he⟩, hit⟩ := st
    obtain ⟨xs, hq, hx⟩ := hg
    obtain ⟨its, rv, p, hz⟩ := I.list hq
    obtain ⟨f0, f1, f2, f3, f4, f5⟩ := hf it (by simp)
    have hl := rv.length
    exact wpAny_pyNext_enum_end (I.ok.hd hc) he hit p.isList (by simp; omega) fun h' eb => ⟨rfl, I.turned (t' := s.toks) (fun b o hb q => eb b o hb q) f0 f1 f3 f4 f5⟩
  self := fun _ _ _ _ _ st h => let ⟨_, q⟩ := st.1; wpAny_pyIter_enum q h
section
variable {X : Cx}
def iEnum (K : PySem.W.Frag) (ta : TA) : TI := fun σ H R => ta σ H fun vs H1 => ∃ a, vs = [.ref a] ∧ (∃ xs, SqL K H1 a xs) ∧ R (Ite K a) H1
theorem pi_enum {a : Expr} {ta : TA} {p pos : Pos} {es : List Expr} {kk : Nat} {tp : Pos} (hg : Gl X "enumerate") (hm : X.mg "enumerate" = none) (ha : PA X [a] ta) (hs : starEach [a] X.env = [(false, eval a X.env)]) :
    PI X (.Tuple es kk tp) (.Call (.Name "enumerate" p) [a] [] pos) (iEnum X.K ta) := by
  intro pins s σ H R I h
  refine Call_ (ld_blt I hg hm boot_enumerate (PyProof.Rows.callWith_type1 (thn (ha pos pins s σ H _ I h) fun us s1 ⟨vs, H1, I1, r1, q1⟩ => ?_) hs rfl))
  obtain ⟨l, e, ⟨xs, hq⟩, q⟩ := q1
  subst e
  obtain ⟨u, rfl, rx⟩ := vals1 r1
  cases rx
  obtain ⟨its, rv, pl, hz⟩ := I1.list hq
  refine call_enumerate_list pl.isList fun h' he hit hsz hk => ?_
  refine wpAny_pyIter_enum (s := { s1 with heap := h' }) he ?_
  have I2 : Inv X pins σ H1 { s1 with heap := h' } := I1.kept (t' := s1.toks) hk
  refine ⟨s1.heap.objs.size + 1, [s1.heap.objs.size + 1, s1.heap.objs.size], _, _, H1, rfl, I2, turn_enum l _ _ (Nat.ne_of_gt (Nat.lt_succ_self _)), ⟨⟨_, he⟩, hit⟩, fun b hb => ?_, q⟩
  have hb' : s1.heap.objs.size ≤ b := by
    rcases List.mem_cons.mp hb with rfl | hb
    · exact Nat.le_succ _
    · have : b = s1.heap.objs.size := by simpa using hb
      rw [this]; exact Nat.le_refl _
  exact I1.fpOk hb' (I1.hok.fresh hb')
end
end G
set_option Elab.async false
set_option linter.all false
set_option maxRecDepth 100000
set_option maxHeartbeats 4000000
set_option autoImplicit false
namespace G
open PySem PySem.Spec L2

/-! ### slots -/
inductive Sl where
  | sh (d : D) | ow (ds : List D) | lk (ds : List D)
abbrev Ro := List (Option Sl)
def slKd : Sl → Kd × D
  | .sh d => (.sh, d)
  | .ow ds => (.bo, .lst ds)
  | .lk ds => (.bo, .lst ds)
structure SE (K : PySem.W.Frag) (ρ : Ro) (σ : St) (H : Hp) (S : List Addr) : Prop where
  slot : ∀ (i : Nat) (sl : Sl), ρ[i]? = some (some sl) → ∃ v, σ[i]? = some (some v) ∧ VR K H H S (slKd sl).1 (slKd sl).2 v
  dom : Dom H S
  len : ρ.length = σ.length
theorem VR.base {K : PySem.W.Frag} {H0 H1 H : Hp} {S : List Addr} {sl : Sl} {v : V} (h : VR K H0 H S (slKd sl).1 (slKd sl).2 v) : VR K H1 H S (slKd sl).1 (slKd sl).2 v := by
  cases sl <;> exact h
theorem SE.same {K : PySem.W.Frag} {ρ : Ro} {σ : St} {H H' : Hp} {S : List Addr} (h : SE K ρ σ H S) (s : Same H H') : SE K ρ σ H' S :=
  ⟨fun i sl e => let ⟨v, e1, e2⟩ := h.slot i sl e; ⟨v, e1, (e2.same s).base⟩, h.dom.same s, h.len⟩
theorem SE.set {K : PySem.W.Frag} {ρ : Ro} {σ : St} {H : Hp} {S : List Addr} (h : SE K ρ σ H S) (i : Nat) {d : D} {v : V} (r : Rp K H S d v) : SE K (ρ.set i (some (.sh d))) (σ.set i (some v)) H S := by
  refine ⟨fun j sl e => ?_, h.dom, by simp [h.len]⟩
  by_cases hj : j = i
  · subst hj
    have hlt : j < ρ.length := by
      have := (List.getElem?_eq_some_iff.mp e).1
      simpa using this
    rw [List.getElem?_set_self hlt] at e
    cases e
    exact ⟨v, List.getElem?_set_self (by rw [← h.len]; exact hlt), r⟩
  · rw [List.getElem?_set_ne (Ne.symm hj)] at e ⊢
    exact h.slot j sl e
theorem SE.pass {K : PySem.W.Frag} {ρ : Ro} {σ : St} {H : Hp} {S : List Addr} (h : SE K ρ σ H S) (i : Nat) {v : V} (n : ∀ sl, ρ[i]? ≠ some (some sl)) : SE K ρ (σ.set i (some v)) H S := by
  refine ⟨fun j sl e => ?_, h.dom, by simp [h.len]⟩
  have hj : j ≠ i := fun z => n sl (z ▸ e)
  rw [List.getElem?_set_ne (Ne.symm hj)]
  exact h.slot j sl e

/-! ### the evaluator's context -/
structure Cz where
  sc : Scope
  N : List Str
  fn : Bool
structure Tab where
  fn : Str → Option (List D → Option (Kd × D))
  cst : Str → Option D
def ixOf (x : Str) : List Str → Option Nat
  | [] => none
  | y :: r => if x = y then some 0 else (ixOf x r).map (· + 1)
theorem ixOf_get {x : Str} : ∀ {N : List Str} {i : Nat}, ixOf x N = some i → N[i]? = some x
  | [], _, h => by cases h
  | y :: r, i, h => by
    unfold ixOf at h
    split at h
    · rename_i e
      cases h
      simp [e]
    · cases q : ixOf x r with
      | none => rw [q] at h; cases h
      | some j =>
        rw [q] at h
        cases h
        simpa using ixOf_get q
def visB (sc : Scope) (x : Str) : Bool := sc.names.lookup x == some .local || sc.names.lookup x == some .cell || sc.names.lookup x == some .free
def locB (c : Cz) (x : Str) : Bool := c.sc.names.lookup x == some .local || (c.fn && c.sc.names.lookup x == some .cell)
def glB (sc : Scope) (x : Str) : Bool := sc.names.lookup x == some .globalImplicit
theorem visB_ok {sc : Scope} {x : Str} (h : visB sc x = true) : Vis sc x := by
  simp only [visB, Bool.or_eq_true, beq_iff_eq] at h
  rcases h with (h | h) | h
  · exact .inl h
  · exact .inr (.inl h)
  · exact .inr (.inr h)
def nameOk (x : Str) : Bool := !(x == ("__debug__" : Str)) && !(x == ("__classdict__" : Str))

/-- a def's promise by a function of data -/
def spF (K : PySem.W.Frag) (φ : List D → Option (Kd × D)) : Sp := fun vs H Q _ => ∃ ds S k d, RpL K H S ds vs ∧ Dom H S ∧ φ ds = some (k, d) ∧ ∀ v H', Same H H' → VR K H H' S k d v → Q v H'
structure TabOk (X : Cx) (Γ : Tab) : Prop where
  fn : ∀ x φ, Γ.fn x = some φ → ∃ k f fd ps, FnOk X.prog X.w X.K X.mg X.base CX0 k f fd ps (spF X.K φ) ∧ Room k X.A ∧ X.mg x = some (.ref f) ∧ PySem.W.keepIn X.K (.ref f) = true ∧ Binds X.K fd ps [] ∧ (x == ("__debug__" : Str)) = false
  bl : ∀ x ∈ (["len", "isinstance", "int", "bool", "list", "all", "range", "enumerate", "str", "sum", "min", "max", "abs", "tuple"] : List Str), X.mg x = none
  units : X.A.units + 100 < cLine
  cst : ∀ x d, Γ.cst x = some d → ∃ u v, X.mg x = some u ∧ RelV v u ∧ (∀ H S, Rp X.K H S d v) ∧ (x == ("__debug__" : Str)) = false
structure CxOk (X : Cx) (Γ : Tab) (c : Cz) : Prop where
  sc : X.env.scope = c.sc
  N : X.N = c.N
  fn : c.fn = true → ∀ x, X.fn x = true
  calm : X.calm = true
  nd : c.N.Nodup
  tab : TabOk X Γ

/-! ### judgements -/
section
variable (X : Cx)
def wE (e : Expr) : TE := fun σ H Q => ∀ pins s, Inv X pins σ H s → wpAny (model X.prog X.w) X.A (eval e X.env) (EP X pins σ Q) X.xe s
def wT (e : Expr) : TT := fun σ H Q => ∀ pins s, Inv X pins σ H s → wpAny (model X.prog X.w) X.A (isTrue e X.env (eval e X.env)) (TP X pins σ Q) X.xe s
def wW (e : Expr) : TT := fun σ H Q => ∀ whole pins s, Inv X pins σ H s → wpAny (model X.prog X.w) X.A (isTrue e X.env whole) (TP X pins σ Q) X.xe s
def wA (es : List Expr) : TA := fun σ H Q => ∀ pos pins s, Inv X pins σ H s → wpAny (model X.prog X.w) X.A (spliced (backTo pos (starEach es X.env))) (AP X pins σ Q) X.xe s
def wG (tg : Expr) : TG := fun v σ H Q => ∀ pins s u, Inv X pins σ H s → RelV v u → wpAny (model X.prog X.w) X.A (assign tg X.env u) (fun _ s' => ∃ σ' H', Inv X pins σ' H' s' ∧ Q σ' H') X.xe s
def wI (tg iter : Expr) : TI := fun σ H R => ∀ pins s, Inv X pins σ H s → wpAny (model X.prog X.w) X.A (eval iter X.env) (fun v s1 => wpAny (model X.prog X.w) X.A (pyIter v) (PIE X pins σ tg R) X.xe s1) X.xe s
end
section
variable {X : Cx}
theorem pe_w {e : Expr} : PE X e (wE X e) := fun pins s σ H Q I h => h pins s I
theorem pt_w {e : Expr} : PT X e (wT X e) := fun pins s σ H Q I h => h pins s I
theorem pw_w {e : Expr} : PW X e (wW X e) := fun wh pins s σ H Q I h => h wh pins s I
theorem pa_w {es : List Expr} : PA X es (wA X es) := fun pos pins s σ H Q I h => h pos pins s I
theorem pi_w {tg iter : Expr} : PI X tg iter (wI X tg iter) := fun pins s σ H R I h => h pins s I
theorem pe_le {e : Expr} {t : TE} (p : PE X e t) {σ : St} {H : Hp} {Q : VK} (h : t σ H Q) : wE X e σ H Q := fun pins s I => p pins s σ H Q I h
theorem pt_le {e : Expr} {t : TT} (p : PT X e t) {σ : St} {H : Hp} {Q : Bool → Hp → Prop} (h : t σ H Q) : wT X e σ H Q := fun pins s I => p pins s σ H Q I h
theorem pw_le {e : Expr} {t : TT} (p : PW X e t) {σ : St} {H : Hp} {Q : Bool → Hp → Prop} (h : t σ H Q) : wW X e σ H Q := fun wh pins s I => p wh pins s σ H Q I h
theorem pa_le {es : List Expr} {t : TA} (p : PA X es t) {σ : St} {H : Hp} {Q : List V → Hp → Prop} (h : t σ H Q) : wA X es σ H Q := fun pos pins s I => p pos pins s σ H Q I h
theorem pi_le {tg iter : Expr} {t : TI} (p : PI X tg iter t) {σ : St} {H : Hp} {R : It → Hp → Prop} (h : t σ H R) : wI X tg iter σ H R := fun pins s I => p pins s σ H R I h
end
def SndE (X : Cx) (f : Ro → Option (Kd × D)) (e : Expr) : Prop := ∀ ρ k d, f ρ = some (k, d) → ∀ S σ H Q, SE X.K ρ σ H S → (∀ v H', Same H H' → VR X.K H H' S k d v → Q v H') → wE X e σ H Q
def SndT (X : Cx) (f : Ro → Option Bool) (e : Expr) : Prop := ∀ ρ b, f ρ = some b → ∀ S σ H Q, SE X.K ρ σ H S → (∀ H', Same H H' → Q b H') → wT X e σ H Q
def VRs (K : PySem.W.Frag) (H0 H : Hp) (S : List Addr) : List (Kd × D) → List V → Prop
  | [], vs => vs = []
  | (k, d) :: r, vs => ∃ y ys, vs = y :: ys ∧ VR K H0 H S k d y ∧ VRs K H0 H S r ys
def SndA (X : Cx) (f : Ro → Option (List (Kd × D))) (es : List Expr) : Prop := ∀ ρ kds, f ρ = some kds → ∀ S σ H Q, SE X.K ρ σ H S → (∀ vs H', Same H H' → VRs X.K H H' S kds vs → Q vs H') → wA X es σ H Q
/-- what a loop walks: the items as they were in Hs; objects of T may have changed since -/
def ItOk (K : PySem.W.Frag) (J : It) (Hs : Hp) (S : List Addr) (bo : Bool) (ds : List D) : Prop := ∀ T : List Addr, (∀ b ∈ T, b ∈ S) → (bo = true → T = []) → ∀ (i : Nat) (H : Hp), (∀ b o, b ∉ T → Hs b = some o → H b = some o) →
  (ds.length ≤ i → J.stop i H) ∧ ∀ d, ds[i]? = some d → J.go i H ∧ ∀ x H', J.yld i H x H' → Same H H' ∧ ∀ S', (∀ b o, Hs b = some o → b ∈ S' → b ∈ S) → Dom H S' → Rp K H' S' d x
def SndI (X : Cx) (f : Ro → Option (Bool × List D)) (tg iter : Expr) : Prop := ∀ ρ bo ds, f ρ = some (bo, ds) → ∀ S σ H R, SE X.K ρ σ H S → (∀ J H1, Same H H1 → ItOk X.K J H1 S bo ds → R J H1) → wI X tg iter σ H R

/-! ### operations on data -/
def mulOk (i j : Int) : Bool := (decide (-(2 ^ 64) < i) && decide (i < 2 ^ 64)) || (decide (-(2 ^ 64) < j) && decide (j < 2 ^ 64))
def binD (op : Operator) (x y : D) : Option (Kd × D) :=
  match op, x, y with
  | .Add, .int i, .int j => some (.sh, .int (i + j))
  | .Add, .lst xs, .lst ys => if xs.length + ys.length ≤ 100000 then some (.fr, .lst (xs ++ ys)) else none
  | .Sub, .int i, .int j => some (.sh, .int (i - j))
  | .Mult, .int i, .int j => if mulOk i j = true then some (.sh, .int (i * j)) else none
  | .Mult, .lst xs, .int k => if 0 ≤ k ∧ k ≤ 100000 ∧ xs.length * k.toNat ≤ 100000 then some (.fr, .lst (List.replicate k.toNat xs).flatten) else none
  | .FloorDiv, .int i, .int j => if 0 < j ∧ j < 1073741824 then some (.sh, .int (i / j)) else none
  | .Mod, .int i, .int j => if 0 < j then some (.sh, .int (i % j)) else none
  | .LShift, .int i, .int j => if 0 ≤ j ∧ j ≤ 1000000 ∧ i.natAbs < 2 ^ 64 then some (.sh, .int (i * 2 ^ j.toNat)) else none
  | .Pow, .int i, .int j => if 0 ≤ j ∧ j ≤ 1000000 ∧ i.natAbs < 2 ^ 64 then some (.sh, .int (i ^ j.toNat)) else none
  | .RShift, .int i, .int j => if 0 ≤ j then some (.sh, .int (i / 2 ^ j.toNat)) else none
  | .BitAnd, .int i, .int j => some (.sh, .int (Builtin.bitAnd i j))
  | _, _, _ => none
theorem size_small {n : Nat} (h : n ≤ 100000) : n ≤ sizeLine := Nat.le_trans h (by decide)
def rBin (K : PySem.W.Frag) (op : Operator) : R2 := fun x y H Q => ∃ S dx dy k d, Top K H S dx x ∧ Top K H S dy y ∧ binD op dx dy = some (k, d) ∧ ∀ v H', Same H H' → VR K H H' S k d v → Q v H'
theorem op_bin {X : Cx} (op : Operator) : OpR X (binaryOp op) (rBin X.K op) := by
  intro pins s σ H x y v u Q I rx ry h
  obtain ⟨S, dx, dy, k, d, tx, ty, hb, q⟩ := h
  have int2 : ∀ {i j : Int}, dx = .int i → dy = .int j → x = .int i ∧ y = .int j := fun {i j} e1 e2 => by
    subst e1; subst e2; exact ⟨tx.int, ty.int⟩
  have fin : ∀ {g : Int}, (∀ v H', Same H H' → VR X.K H H' S .sh (.int g) v → Q v H') → Q (.int g) H := fun q => q _ H (Same.refl H) vInt
  unfold binD at hb
  split at hb
  · cases hb
    obtain ⟨rfl, rfl⟩ := int2 rfl rfl
    exact op_add pins s σ H _ _ v u Q I rx ry ⟨_, _, rfl, rfl, fin q⟩
  · split at hb
    · rename_i hz
      cases hb
      obtain ⟨a, us, rfl, ga, ra⟩ := tx
      obtain ⟨b, vs, rfl, gb, rb⟩ := ty
      refine op_cat pins s σ H _ _ v u Q I rx ry ⟨a, b, us, vs, rfl, rfl, ga, gb, by rw [ra.len, rb.len]; exact size_small hz, fun p hp => q _ _ (same_upd hp) (vNew hp (ra.append rb))⟩
    · cases hb
  · cases hb
    obtain ⟨rfl, rfl⟩ := int2 rfl rfl
    exact op_sub pins s σ H _ _ v u Q I rx ry ⟨_, _, rfl, rfl, fin q⟩
  · split at hb
    · rename_i hm
      cases hb
      obtain ⟨rfl, rfl⟩ := int2 rfl rfl
      refine op_mul pins s σ H _ _ v u Q I rx ry ⟨_, _, rfl, rfl, ?_, fin q⟩
      simp only [mulOk, Bool.or_eq_true, Bool.and_eq_true, decide_eq_true_eq] at hm
      exact hm
    · cases hb
  · split at hb
    · rename_i hz
      cases hb
      obtain ⟨a, us, rfl, ga, ra⟩ := tx
      obtain rfl := ty.int
      refine op_rep pins s σ H _ _ v u Q I rx ry ⟨a, _, us, rfl, rfl, ga, by omega, by omega, by rw [ra.len]; exact size_small hz.2.2, fun p hp => q _ _ (same_upd hp) (vNew hp (ra.rep _))⟩
    · cases hb
  · split at hb
    · rename_i hz
      cases hb
      obtain ⟨rfl, rfl⟩ := int2 rfl rfl
      exact op_fdiv pins s σ H _ _ v u Q I rx ry ⟨_, _, rfl, rfl, hz, fin q⟩
    · cases hb
  · split at hb
    · rename_i hz
      cases hb
      obtain ⟨rfl, rfl⟩ := int2 rfl rfl
      exact op_mod pins s σ H _ _ v u Q I rx ry ⟨_, _, rfl, rfl, hz, fin q⟩
    · cases hb
  · split at hb
    · rename_i hz
      cases hb
      obtain ⟨rfl, rfl⟩ := int2 rfl rfl
      exact op_shl pins s σ H _ _ v u Q I rx ry ⟨_, _, rfl, rfl, hz, fin q⟩
    · cases hb
  · split at hb
    · rename_i hz
      cases hb
      obtain ⟨rfl, rfl⟩ := int2 rfl rfl
      exact op_pow pins s σ H _ _ v u Q I rx ry ⟨_, _, rfl, rfl, hz, fin q⟩
    · cases hb
  · split at hb
    · rename_i hz
      cases hb
      obtain ⟨rfl, rfl⟩ := int2 rfl rfl
      exact op_shr pins s σ H _ _ v u Q I rx ry ⟨_, _, rfl, rfl, hz, fin q⟩
    · cases hb
  · cases hb
    obtain ⟨rfl, rfl⟩ := int2 rfl rfl
    exact op_and pins s σ H _ _ v u Q I rx ry ⟨_, _, rfl, rfl, fin q⟩
  · cases hb

def cmpD (op : CmpOp) (x y : D) : Option Bool :=
  match op, x, y with
  | .Lt, .int i, .int j => some (decide (i < j))
  | .LtE, .int i, .int j => some (decide (i ≤ j))
  | .Gt, .int i, .int j => some (decide (j < i))
  | .GtE, .int i, .int j => some (decide (j ≤ i))
  | .Eq, .int i, .int j => some (i == j)
  | .Eq, .bl i, .bl j => some (i == j)
  | .Eq, .lst xs, .lst ys => if xs.length = ys.length then eqL (eqX 90) xs ys else some false
  | .Eq, .tup xs, .tup ys => if xs.length = ys.length then eqL (eqX 90) xs ys else none
  | .NotEq, .int i, .int j => some (!(i == j))
  | .NotEq, .bl i, .bl j => some (!(i == j))
  | .NotEq, .lst xs, .lst ys => (if xs.length = ys.length then eqL (eqX 90) xs ys else some false).map (!·)
  | .NotEq, .tup xs, .tup ys => (if xs.length = ys.length then eqL (eqX 90) xs ys else none).map (!·)
  | _, _, _ => none
def rCmp (K : PySem.W.Frag) (op : CmpOp) : R2 := fun x y H Q => ∃ S dx dy b, Top K H S dx x ∧ Top K H S dy y ∧ cmpD op dx dy = some b ∧ Q (.bl b) H
theorem op_cmp {X : Cx} (hu : X.A.units + 100 < cLine) (op : CmpOp) : OpR X (compareOp op) (rCmp X.K op) := by
  intro pins s σ H x y v u Q I rx ry h
  obtain ⟨S, dx, dy, b, tx, ty, hb, q⟩ := h
  have int2 : ∀ {i j : Int}, dx = .int i → dy = .int j → x = .int i ∧ y = .int j := fun {i j} e1 e2 => by
    subst e1; subst e2; exact ⟨tx.int, ty.int⟩
  have bl2 : ∀ {i j : Bool}, dx = .bl i → dy = .bl j → x = .bl i ∧ y = .bl j := fun {i j} e1 e2 => by
    subst e1; subst e2; exact ⟨tx.bl, ty.bl⟩
  unfold cmpD at hb
  split at hb
  · cases hb
    obtain ⟨rfl, rfl⟩ := int2 rfl rfl
    exact op_lt pins s σ H _ _ v u Q I rx ry ⟨_, _, rfl, rfl, q⟩
  · cases hb
    obtain ⟨rfl, rfl⟩ := int2 rfl rfl
    exact op_le pins s σ H _ _ v u Q I rx ry ⟨_, _, rfl, rfl, q⟩
  · cases hb
    obtain ⟨rfl, rfl⟩ := int2 rfl rfl
    exact op_gt pins s σ H _ _ v u Q I rx ry ⟨_, _, rfl, rfl, q⟩
  · cases hb
    obtain ⟨rfl, rfl⟩ := int2 rfl rfl
    exact op_ge pins s σ H _ _ v u Q I rx ry ⟨_, _, rfl, rfl, q⟩
  · cases hb
    obtain ⟨rfl, rfl⟩ := int2 rfl rfl
    refine op_eq pins s σ H _ _ v u Q I rx ry ⟨rfl, ?_⟩
    rw [show (decide (V.int _ = V.int _)) = _ from dec_int]
    exact q
  · cases hb
    obtain ⟨rfl, rfl⟩ := bl2 rfl rfl
    refine op_eq pins s σ H _ _ v u Q I rx ry ⟨rfl, ?_⟩
    rw [show (decide (V.bl _ = V.bl _)) = _ from dec_bl]
    exact q
  · obtain ⟨a, us, rfl, ga, ra⟩ := tx
    obtain ⟨c, vs, rfl, gb, rb⟩ := ty
    exact op_eqL hu false pins s σ H _ _ v u Q I rx ry ⟨a, c, us, vs, S, S, _, _, b, rfl, rfl, .of ga, .of gb, ra, rb, hb, by simpa using q⟩
  · obtain ⟨a, us, rfl, ga, ra⟩ := tx
    obtain ⟨c, vs, rfl, gb, rb⟩ := ty
    exact op_eqT hu false pins s σ H _ _ v u Q I rx ry ⟨a, c, us, vs, S, S, _, _, b, rfl, rfl, .of ga, .of gb, ra, rb, hb, by simpa using q⟩
  · cases hb
    obtain ⟨rfl, rfl⟩ := int2 rfl rfl
    refine op_ne pins s σ H _ _ v u Q I rx ry ⟨rfl, ?_⟩
    rw [show (decide (V.int _ = V.int _)) = _ from dec_int]
    exact q
  · cases hb
    obtain ⟨rfl, rfl⟩ := bl2 rfl rfl
    refine op_ne pins s σ H _ _ v u Q I rx ry ⟨rfl, ?_⟩
    rw [show (decide (V.bl _ = V.bl _)) = _ from dec_bl]
    exact q
  · rename_i xs ys
    obtain ⟨a, us, rfl, ga, ra⟩ := tx
    obtain ⟨c, vs, rfl, gb, rb⟩ := ty
    cases hk : (if xs.length = ys.length then eqL (eqX 90) xs ys else some false) with
    | none => rw [hk] at hb; cases hb
    | some k =>
      rw [hk] at hb
      cases hb
      exact op_eqL hu true pins s σ H _ _ v u Q I rx ry ⟨a, c, us, vs, S, S, _, _, k, rfl, rfl, .of ga, .of gb, ra, rb, hk, by simpa using q⟩
  · rename_i xs ys
    obtain ⟨a, us, rfl, ga, ra⟩ := tx
    obtain ⟨c, vs, rfl, gb, rb⟩ := ty
    cases hk : (if xs.length = ys.length then eqL (eqX 90) xs ys else none) with
    | none => rw [hk] at hb; cases hb
    | some k =>
      rw [hk] at hb
      cases hb
      exact op_eqT hu true pins s σ H _ _ v u Q I rx ry ⟨a, c, us, vs, S, S, _, _, k, rfl, rfl, .of ga, .of gb, ra, rb, hk, by simpa using q⟩
  · cases hb
def truD : D → Option Bool
  | .non => some false
  | .bl b => some b
  | .int i => some (i != 0)
  | .lst xs => some (!xs.isEmpty)
  | .tup xs => some (!xs.isEmpty)
  | .scr ns => some (!ns.isEmpty)
  | _ => none
theorem RpL.empty {K : PySem.W.Frag} {H : Hp} {S : List Addr} {ds : List D} {vs : List V} (h : RpL K H S ds vs) : vs.isEmpty = ds.isEmpty := by
  have := h.len
  cases vs <;> cases ds <;> simp_all
theorem tru_of {K : PySem.W.Frag} {H : Hp} {S : List Addr} {d : D} {v : V} {b : Bool} (t : Top K H S d v) (h : truD d = some b) : TruV K v H b := by
  cases d with
  | non => unfold Top Rp at t; subst t; cases h; rfl
  | bl k => obtain rfl := t.bl; cases h; rfl
  | int i => obtain rfl := t.int; cases h; rfl
  | str x => cases h
  | lst xs =>
    obtain ⟨a, us, rfl, g, r⟩ := t
    cases h
    exact .inl ⟨us, .of g, by rw [r.empty]⟩
  | tup xs =>
    obtain ⟨a, us, rfl, g, r⟩ := t
    cases h
    exact .inr (.inl ⟨us, .of g, by rw [r.empty]⟩)
  | scr ns =>
    obtain ⟨a, rfl, g⟩ := t.scr
    cases h
    exact .inl ⟨_, g, by cases ns <;> rfl⟩
  | dic ks vs => cases h
end G
set_option Elab.async false
set_option linter.all false
set_option maxRecDepth 100000
set_option maxHeartbeats 4000000
set_option autoImplicit false
namespace G
open PySem PySem.Spec L2

section
variable {X : Cx} {Γ : Tab} {c : Cz}
/-! ### single nodes -/
def fVar (c : Cz) (x : Str) (ρ : Ro) : Option (Kd × D) :=
  match ixOf x c.N with
  | some i => if visB c.sc x && nameOk x then (match ρ[i]? with | some (some sl) => some (slKd sl) | _ => none) else none
  | none => none
theorem s_var (O : CxOk X Γ c) (x : Str) (pos : Pos) : SndE X (fVar c x) (.Name x pos) := by
  intro ρ k d h S σ H Q se q
  unfold fVar at h
  split at h
  · rename_i i hi
    split at h
    · rename_i hv
      simp only [Bool.and_eq_true] at hv
      split at h
      · rename_i sl hs
        obtain ⟨v, e1, e2⟩ := se.slot i sl hs
        have hd : nameOk x = true := hv.2
        simp only [nameOk, Bool.and_eq_true, Bool.not_eq_true'] at hd
        refine pe_le (pe_var (i := i) (by rw [O.N]; exact ixOf_get hi) (by rw [O.sc]; exact visB_ok hv.1) hd.1 hd.2) ⟨v, e1, q v H (Same.refl H) ?_⟩
        have hk : slKd sl = (k, d) := Option.some.inj h
        rw [hk] at e2
        exact e2
      · cases h
    · cases h
  · cases h
/-- a name: a slot's, else a constant of the text -/
def fNm (Γ : Tab) (c : Cz) (x : Str) (ρ : Ro) : Option (Kd × D) :=
  match ixOf x c.N with
  | some _ => fVar c x ρ
  | none => if glB c.sc x then (Γ.cst x).map fun d => (.sh, d) else none
theorem s_nm (O : CxOk X Γ c) (x : Str) (pos : Pos) : SndE X (fNm Γ c x) (.Name x pos) := by
  intro ρ k d h S σ H Q se q
  unfold fNm at h
  split at h
  · exact s_var O x pos ρ k d h S σ H Q se q
  · split at h
    · rename_i hg
      cases e : Γ.cst x with
      | none => rw [e] at h; cases h
      | some d' =>
        rw [e] at h
        cases h
        obtain ⟨u, v, h1, h2, h3, h4⟩ := O.tab.cst x d e
        have hgl : Gl X x := by
          show X.env.scope.names.lookup x = _
          rw [O.sc]
          simpa [glB] using hg
        exact pe_le (pe_glob hgl h1 h2 h4) (q v H (Same.refl H) (h3 H S))
    · cases h
def fC (k : D) (_ : Ro) : Option (Kd × D) := some (.sh, k)
theorem s_int (i : Int) (j : Nat) (pos : Pos) : SndE X (fC (.int i)) (.Constant (.int i) j pos) := by
  intro ρ k d h S σ H Q se q
  cases h
  exact pe_le pe_int (q _ H (Same.refl H) vInt)
theorem s_bl (i : Bool) (j : Nat) (pos : Pos) : SndE X (fC (.bl i)) (.Constant (.bool i) j pos) := by
  intro ρ k d h S σ H Q se q
  cases h
  exact pe_le pe_bl (q _ H (Same.refl H) vBl)
theorem s_non (j : Nat) (pos : Pos) : SndE X (fC .non) (.Constant .none j pos) := by
  intro ρ k d h S σ H Q se q
  cases h
  exact pe_le pe_non (q _ H (Same.refl H) (by show Rp _ _ _ _ _; unfold Rp; rfl))
theorem s_str (x : Str) (j : Nat) (pos : Pos) : SndE X (fC (.str x)) (.Constant (.str x) j pos) := by
  intro ρ k d h S σ H Q se q
  cases h
  exact pe_le pe_str (q _ H (Same.refl H) (by show Rp _ _ _ _ _; unfold Rp; rfl))
/-- two in a row -/
theorem two {fa fb : Ro → Option (Kd × D)} {a b : Expr} (ha : SndE X fa a) (hb : SndE X fb b) {ρ : Ro} {ka kb : Kd} {da db : D} (ea : fa ρ = some (ka, da)) (eb : fb ρ = some (kb, db)) {S : List Addr} {σ : St} {H : Hp} {R : V → V → Hp → Prop} (se : SE X.K ρ σ H S)
    (q : ∀ x y H', Same H H' → VR X.K H H' S ka da x → VR X.K H H' S kb db y → R x y H') : wE X a σ H fun x H1 => wE X b σ H1 fun y H2 => R x y H2 :=
  ha ρ ka da ea S σ H _ se fun x H1 s1 v1 => hb ρ kb db eb S σ H1 _ (se.same s1) fun y H2 s2 v2 => q x y H2 (s1.trans s2) (v1.same s2) (v2.older s1)
def fBin (op : Operator) (fa fb : Ro → Option (Kd × D)) (ρ : Ro) : Option (Kd × D) :=
  match fa ρ, fb ρ with
  | some (_, x), some (_, y) => binD op x y
  | _, _ => none
theorem s_bin {fa fb : Ro → Option (Kd × D)} {a b : Expr} {op : Operator} {pos : Pos} (ha : SndE X fa a) (hb : SndE X fb b) : SndE X (fBin op fa fb) (.BinOp a op b pos) := by
  intro ρ k d h S σ H Q se q
  unfold fBin at h
  split at h
  · rename_i ka x kb y ea eb
    exact pe_le (pe_op (op_bin op) pe_w pe_w) (two ha hb ea eb se fun vx vy H' s vx' vy' => ⟨S, x, y, k, d, vx'.top, vy'.top, h, fun v H2 s2 r => q v H2 (s.trans s2) (r.older s)⟩)
  · cases h
def fCmp (op : CmpOp) (fa fb : Ro → Option (Kd × D)) (ρ : Ro) : Option Bool :=
  match fa ρ, fb ρ with
  | some (_, x), some (_, y) => cmpD op x y
  | _, _ => none
def bV (o : Option Bool) : Option (Kd × D) := o.map fun b => (.sh, .bl b)
theorem cmp_mark {op : CmpOp} {x y : D} {b : Bool} (h : cmpD op x y = some b) : op ≠ .In ∧ op ≠ .NotIn := by
  constructor <;> (rintro rfl; cases x <;> cases y <;> cases h)
theorem s_cmp {fa fb : Ro → Option (Kd × D)} {a b : Expr} {op : CmpOp} {pos : Pos} (O : CxOk X Γ c) (ha : SndE X fa a) (hb : SndE X fb b) : SndE X (fun ρ => bV (fCmp op fa fb ρ)) (.Compare a [op] [b] pos) := by
  intro ρ k d h S σ H Q se q
  cases hc : fCmp op fa fb ρ with
  | none => simp only [hc, bV] at h; cases h
  | some r =>
    simp only [hc, bV] at h
    cases h
    unfold fCmp at hc
    split at hc
    · rename_i ka x kb y ea eb
      have hm := cmp_mark hc
      exact pe_le (pe_cmpR (op_cmp O.tab.units op) pe_w pe_w (nomark _ hm.1 hm.2)) (two ha hb ea eb se fun vx vy H' s vx' vy' => ⟨S, x, y, r, vx'.top, vy'.top, hc, q _ H' s vBl⟩)
    · cases hc
theorem t_cmp {fa fb : Ro → Option (Kd × D)} {a b : Expr} {op : CmpOp} {pos : Pos} (O : CxOk X Γ c) (ha : SndE X fa a) (hb : SndE X fb b) : SndT X (fCmp op fa fb) (.Compare a [op] [b] pos) := by
  intro ρ r hc S σ H Q se q
  unfold fCmp at hc
  split at hc
  · rename_i ka x kb y ea eb
    have hm := cmp_mark hc
    exact pt_le (pt_cmpR (op_cmp O.tab.units op) pe_w pe_w (nomark _ hm.1 hm.2)) (two ha hb ea eb se fun vx vy H' s vx' vy' => ⟨S, x, y, r, vx'.top, vy'.top, hc, r, rfl, q H' s⟩)
  · cases hc
def fChain (op op' : CmpOp) (fa fb fc : Ro → Option (Kd × D)) (ρ : Ro) : Option Bool :=
  match fa ρ, fb ρ with
  | some (_, x), some (_, y) => match cmpD op x y with
    | some true => (match fc ρ with | some (_, z) => cmpD op' y z | none => none)
    | some false => (match op' with | .In => none | .NotIn => none | _ => some false)
    | none => none
  | _, _ => none
theorem last_mark {op op' : CmpOp} {b c : Expr} (h : op' ≠ .In) (h2 : op' ≠ .NotIn) : lastMarks [op, op'] [b, c] = false := by
  show behindInMarks op' c = false
  exact nomark _ h h2
theorem chain_read {fa fb fc : Ro → Option (Kd × D)} {a b e : Expr} {op op' : CmpOp} (ha : SndE X fa a) (hb : SndE X fb b) (he : SndE X fc e) {ρ : Ro} {r : Bool} (h : fChain op op' fa fb fc ρ = some r) {S : List Addr} {σ : St} {H : Hp} {Q : VK} (se : SE X.K ρ σ H S) (q : ∀ H', Same H H' → Q (.bl r) H') :
    tChain (rCmp X.K op) (rCmp X.K op') (wE X a) (wE X b) (wE X e) σ H Q ∧ op' ≠ .In ∧ op' ≠ .NotIn := by
  unfold fChain at h
  split at h
  · rename_i ka x kb y ea eb
    split at h
    · rename_i h1
      split at h
      · rename_i kz z ez
        refine ⟨two ha hb ea eb se fun vx vy H' s vx' vy' => ⟨S, x, y, true, vx'.top, vy'.top, h1, true, rfl, ?_⟩, cmp_mark h⟩
        exact iteT (he ρ kz z ez S σ H' _ (se.same s) fun vz H2 s2 vz' => ⟨S, y, z, r, (vy'.same s2).top, vz'.top, h, q H2 (s.trans s2)⟩)
      · cases h
    · rename_i h1
      have ne : op' ≠ .In ∧ op' ≠ .NotIn ∧ r = false := by
        cases op' <;> first | (cases h; exact ⟨by decide, by decide, rfl⟩) | cases h
      obtain ⟨n1, n2, rfl⟩ := ne
      exact ⟨two ha hb ea eb se fun vx vy H' s vx' vy' => ⟨S, x, y, false, vx'.top, vy'.top, h1, false, rfl, iteF (q H' s)⟩, n1, n2⟩
    · cases h
  · cases h
theorem s_chain {fa fb fc : Ro → Option (Kd × D)} {a b e : Expr} {op op' : CmpOp} {pos : Pos} (O : CxOk X Γ c) (ha : SndE X fa a) (hb : SndE X fb b) (he : SndE X fc e) : SndE X (fun ρ => bV (fChain op op' fa fb fc ρ)) (.Compare a [op, op'] [b, e] pos) := by
  intro ρ k d h S σ H Q se q
  cases hc : fChain op op' fa fb fc ρ with
  | none => simp only [hc, bV] at h; cases h
  | some r =>
    simp only [hc, bV] at h
    cases h
    obtain ⟨h1, h2, h3⟩ := chain_read ha hb he hc se (Q := Q) fun H' s => q _ H' s vBl
    exact pe_le (pe_chain (op_cmp O.tab.units op) (op_cmp O.tab.units op') pe_w pe_w pe_w (last_mark h2 h3)) h1
theorem t_chain {fa fb fc : Ro → Option (Kd × D)} {a b e : Expr} {op op' : CmpOp} {pos : Pos} (O : CxOk X Γ c) (ha : SndE X fa a) (hb : SndE X fb b) (he : SndE X fc e) : SndT X (fChain op op' fa fb fc) (.Compare a [op, op'] [b, e] pos) := by
  intro ρ r hc S σ H Q se q
  obtain ⟨h1, h2, h3⟩ := chain_read ha hb he hc se (Q := fun x H' => ∃ k, x = .bl k ∧ Q k H') fun H' s => ⟨r, rfl, q H' s⟩
  exact pt_le (pt_chain (op_cmp O.tab.units op) (op_cmp O.tab.units op') pe_w pe_w pe_w (last_mark h2 h3)) h1
def fNeg (fa : Ro → Option (Kd × D)) (ρ : Ro) : Option (Kd × D) := match fa ρ with | some (_, .int i) => some (.sh, .int (-i)) | _ => none
theorem s_neg {fa : Ro → Option (Kd × D)} {a : Expr} {pos : Pos} (ha : SndE X fa a) : SndE X (fNeg fa) (.UnaryOp .USub a pos) := by
  intro ρ k d h S σ H Q se q
  unfold fNeg at h
  split at h
  · rename_i ka i ea
    cases h
    exact pe_le (pe_un un_neg pe_w) (ha ρ _ _ ea S σ H _ se fun v H' s r => ⟨i, r.top.int, q _ H' s vInt⟩)
  · cases h
def fNot (fa : Ro → Option (Kd × D)) (ρ : Ro) : Option (Kd × D) := match fa ρ with | some (_, .bl i) => some (.sh, .bl (!i)) | _ => none
theorem s_not {fa : Ro → Option (Kd × D)} {a : Expr} {pos : Pos} (ha : SndE X fa a) : SndE X (fNot fa) (.UnaryOp .Not a pos) := by
  intro ρ k d h S σ H Q se q
  unfold fNot at h
  split at h
  · rename_i ka i ea
    cases h
    exact pe_le (pe_not pe_w) (ha ρ _ _ ea S σ H _ se fun v H' s r => ⟨i, r.top.bl, q _ H' s vBl⟩)
  · cases h
theorem t_not {fa : Ro → Option Bool} {a : Expr} {pos : Pos} (ha : SndT X fa a) : SndT X (fun ρ => (fa ρ).map (!·)) (.UnaryOp .Not a pos) := by
  intro ρ r h S σ H Q se q
  cases e : fa ρ with
  | none => simp only [e] at h; cases h
  | some b =>
    simp only [e] at h
    cases h
    exact pt_le (pt_not pt_w) (ha ρ b e S σ H _ se fun H' s => q H' s)
def plainT : Expr → Bool
  | .Name .. | .Call .. | .Subscript .. | .Constant (.bool _) .. => true
  | _ => false
def fTru (fa : Ro → Option (Kd × D)) (ρ : Ro) : Option Bool := match fa ρ with | some (_, d) => truD d | none => none
theorem t_tru {fa : Ro → Option (Kd × D)} {a : Expr} (ha : SndE X fa a) (hp : ∀ whole, isTrue a X.env whole = (do let v ← whole; standAt a.pos; holding [v] (truthy v))) : SndT X (fTru fa) a := by
  intro ρ r h S σ H Q se q
  unfold fTru at h
  split at h
  · rename_i k d e
    exact pt_le (pt_truth pe_w hp) (ha ρ _ _ e S σ H _ se fun v H' s vr => ⟨r, tru_of vr.top h, q H' s⟩)
  · cases h
/-! ### and, or -/
def fBoolT (f : Expr → Ro → Option Bool) (op : BoolOp) : List Expr → Ro → Option Bool
  | [], _ => none
  | [a], ρ => f a ρ
  | a :: b :: r, ρ => match f a ρ with
    | some x => if (op == .And) = x then fBoolT f op (b :: r) ρ else some x
    | none => none
theorem w_bool {f : Expr → Ro → Option Bool} (hf : ∀ e, SndT X (f e) e) (op : BoolOp) (pos : Pos) : ∀ (es : List Expr) (ρ : Ro) (r : Bool), fBoolT f op es ρ = some r → ∀ S σ H Q, SE X.K ρ σ H S → (∀ H', Same H H' → Q r H') → wW X (.BoolOp op es pos) σ H Q
  | [], ρ, r, h, S, σ, H, Q, se, q => by cases h
  | [a], ρ, r, h, S, σ, H, Q, se, q => by
    have h1 := hf a ρ r h S σ H Q se q
    cases op with
    | And => exact pw_le (pw_and1 pt_w) h1
    | Or => exact pw_le (pw_or1 pt_w) h1
  | a :: b :: es, ρ, r, h, S, σ, H, Q, se, q => by
    unfold fBoolT at h
    split at h
    · rename_i x ea
      split at h
      · rename_i hx
        have rest := w_bool hf op pos (b :: es) ρ r h
        cases op with
        | And =>
          refine pw_le (pw_and pt_w pw_w) (hf a ρ x ea S σ H _ se fun H1 s1 => ?_)
          have : x = true := by rw [← hx]; rfl
          rw [if_pos this]
          exact rest S σ H1 Q (se.same s1) fun H2 s2 => q H2 (s1.trans s2)
        | Or =>
          refine pw_le (pw_or pt_w pw_w) (hf a ρ x ea S σ H _ se fun H1 s1 => ?_)
          have : x = false := by rw [← hx]; rfl
          rw [if_neg (by rw [this]; decide)]
          exact rest S σ H1 Q (se.same s1) fun H2 s2 => q H2 (s1.trans s2)
      · rename_i hx
        cases h
        cases op with
        | And =>
          refine pw_le (pw_and pt_w pw_w) (hf a ρ r ea S σ H _ se fun H1 s1 => ?_)
          have : r = false := by cases r with | true => exact absurd rfl hx | false => rfl
          subst this
          rw [if_neg (by decide)]
          exact q H1 s1
        | Or =>
          refine pw_le (pw_or pt_w pw_w) (hf a ρ r ea S σ H _ se fun H1 s1 => ?_)
          have : r = true := by cases r with | false => exact absurd rfl hx | true => rfl
          subst this
          rw [if_pos rfl]
          exact q H1 s1
    · cases h
def fBoolE (f : Expr → Ro → Option (Kd × D)) (op : BoolOp) : List Expr → Ro → Option (Kd × D)
  | [], _ => none
  | [a], ρ => f a ρ
  | a :: b :: r, ρ => match f a ρ with
    | some (_, .bl x) => if (op == .And) = x then fBoolE f op (b :: r) ρ else some (.sh, .bl x)
    | _ => none
theorem s_bool {f : Expr → Ro → Option (Kd × D)} (hf : ∀ e, SndE X (f e) e) (op : BoolOp) (pos : Pos) : ∀ (es : List Expr), SndE X (fBoolE f op es) (.BoolOp op es pos)
  | [], ρ, k, d, h, S, σ, H, Q, se, q => by cases h
  | [a], ρ, k, d, h, S, σ, H, Q, se, q => pe_le (pe_one pe_w) (hf a ρ k d h S σ H Q se q)
  | a :: b :: es, ρ, k, d, h, S, σ, H, Q, se, q => by
    unfold fBoolE at h
    split at h
    · rename_i ka x ea
      have rest := s_bool hf op pos (b :: es) ρ k d
      split at h
      · rename_i hx
        cases op with
        | And =>
          refine pe_le (pe_and pe_w pe_w) (hf a ρ _ _ ea S σ H _ se fun v H1 s1 r => ⟨x, r.top.bl, ?_⟩)
          have : x = true := by rw [← hx]; rfl
          rw [if_pos this]
          exact rest h S σ H1 Q (se.same s1) fun v2 H2 s2 r2 => q v2 H2 (s1.trans s2) (r2.older s1)
        | Or =>
          refine pe_le (pe_or pe_w pe_w) (hf a ρ _ _ ea S σ H _ se fun v H1 s1 r => ⟨x, r.top.bl, ?_⟩)
          have : x = false := by rw [← hx]; rfl
          rw [if_neg (by rw [this]; decide)]
          exact rest h S σ H1 Q (se.same s1) fun v2 H2 s2 r2 => q v2 H2 (s1.trans s2) (r2.older s1)
      · rename_i hx
        cases h
        cases op with
        | And =>
          refine pe_le (pe_and pe_w pe_w) (hf a ρ _ _ ea S σ H _ se fun v H1 s1 r => ⟨x, r.top.bl, ?_⟩)
          have : x = false := by cases x with | true => exact absurd rfl hx | false => rfl
          subst this
          rw [if_neg (by decide)]
          exact q _ H1 s1 vBl
        | Or =>
          refine pe_le (pe_or pe_w pe_w) (hf a ρ _ _ ea S σ H _ se fun v H1 s1 r => ⟨x, r.top.bl, ?_⟩)
          have : x = true := by cases x with | false => exact absurd rfl hx | true => rfl
          subst this
          rw [if_pos rfl]
          exact q _ H1 s1 vBl
    · cases h
def fIf (ft : Ro → Option Bool) (fa fb : Ro → Option (Kd × D)) (ρ : Ro) : Option (Kd × D) := match ft ρ with | some true => fa ρ | some false => fb ρ | none => none
theorem s_if {ft : Ro → Option Bool} {fa fb : Ro → Option (Kd × D)} {t a b : Expr} {pos : Pos} (ht : SndT X ft t) (ha : SndE X fa a) (hb : SndE X fb b) : SndE X (fIf ft fa fb) (.IfExp t a b pos) := by
  intro ρ k d h S σ H Q se q
  unfold fIf at h
  split at h
  · rename_i e
    exact pe_le (pe_ifExp pt_w pe_w pe_w) (ht ρ _ e S σ H _ se fun H1 s1 => iteT (ha ρ k d h S σ H1 Q (se.same s1) fun v H2 s2 r => q v H2 (s1.trans s2) (r.older s1)))
  · rename_i e
    exact pe_le (pe_ifExp pt_w pe_w pe_w) (ht ρ _ e S σ H _ se fun H1 s1 => iteF (hb ρ k d h S σ H1 Q (se.same s1) fun v H2 s2 r => q v H2 (s1.trans s2) (r.older s1)))
  · cases h
/-! ### argument lists -/
def noStar : Expr → Bool
  | .Starred .. => false
  | _ => true
theorem star_of {e : Expr} {es : List Expr} {env : Env} (h : noStar e = true) : starEach (e :: es) env = (false, eval e env) :: starEach es env := by
  cases e <;> first | rfl | cases h
theorem star_any {env : Env} {pos : Pos} : ∀ {es : List Expr}, es.all noStar = true → (starEach es env).any (·.1) = false
  | [], _ => rfl
  | e :: es, h => by
    simp only [List.all_cons, Bool.and_eq_true] at h
    rw [star_of h.1, List.any_cons, star_any (pos := pos) h.2]
    rfl
theorem VRs.same {K : PySem.W.Frag} {H0 H H' : Hp} {S : List Addr} (s : Same H H') : ∀ {kds : List (Kd × D)} {vs : List V}, VRs K H0 H S kds vs → VRs K H0 H' S kds vs
  | [], _, h => h
  | (k, d) :: r, _, h => by
    obtain ⟨y, ys, e, h1, h2⟩ := h
    exact ⟨y, ys, e, h1.same s, VRs.same s h2⟩
theorem VRs.older {K : PySem.W.Frag} {H0 H1 H : Hp} {S : List Addr} (s : Same H0 H1) : ∀ {kds : List (Kd × D)} {vs : List V}, VRs K H1 H S kds vs → VRs K H0 H S kds vs
  | [], _, h => h
  | (k, d) :: r, _, h => by
    obtain ⟨y, ys, e, h1, h2⟩ := h
    exact ⟨y, ys, e, h1.older s, VRs.older s h2⟩
def fArgs (f : Expr → Ro → Option (Kd × D)) : List Expr → Ro → Option (List (Kd × D))
  | [], _ => some []
  | e :: es, ρ => if noStar e then (match f e ρ, fArgs f es ρ with | some x, some xs => some (x :: xs) | _, _ => none) else none
theorem fArgs_star {f : Expr → Ro → Option (Kd × D)} : ∀ {es : List Expr} {ρ : Ro} {kds : List (Kd × D)}, fArgs f es ρ = some kds → es.all noStar = true ∧ kds.length = es.length
  | [], _, _, h => by cases h; exact ⟨rfl, rfl⟩
  | e :: es, ρ, kds, h => by
    unfold fArgs at h
    split at h
    · rename_i hn
      split at h
      · rename_i x xs e1 e2
        cases h
        have := fArgs_star e2
        simp [hn, this.1, this.2]
      · cases h
    · cases h
theorem s_args {f : Expr → Ro → Option (Kd × D)} (hf : ∀ e, SndE X (f e) e) : ∀ (es : List Expr), SndA X (fArgs f es) es
  | [], ρ, kds, h, S, σ, H, Q, se, q => by
    cases h
    exact pa_le pa_nil (q [] H (Same.refl H) rfl)
  | e :: es, ρ, kds, h, S, σ, H, Q, se, q => by
    unfold fArgs at h
    split at h
    · rename_i hn
      split at h
      · rename_i x xs e1 e2
        cases h
        obtain ⟨k, d⟩ := x
        refine pa_le (pa_cons pe_w pa_w (star_of hn)) (hf e ρ k d e1 S σ H _ se fun v H1 s1 r1 => s_args hf es ρ xs e2 S σ H1 _ (se.same s1) fun vs H2 s2 r2 => ?_)
        exact q (v :: vs) H2 (s1.trans s2) ⟨v, vs, rfl, r1.same s2, r2.older s1⟩
      · cases h
    · cases h
def noBo (kds : List (Kd × D)) : Bool := kds.all fun p => p.1 != .bo
theorem VRs.rp {K : PySem.W.Frag} {H0 H : Hp} {S : List Addr} (dm : Dom H0 S) : ∀ {kds : List (Kd × D)} {vs : List V}, noBo kds = true → VRs K H0 H S kds vs → RpL K H S (kds.map (·.2)) vs
  | [], _, _, h => by cases h; exact .nil
  | (k, d) :: r, _, hn, h => by
    obtain ⟨y, ys, rfl, h1, h2⟩ := h
    simp only [noBo, List.all_cons, Bool.and_eq_true, bne_iff_ne] at hn
    exact .cons (h1.rp dm hn.1) (VRs.rp dm (by simpa [noBo] using hn.2) h2)
theorem VR.rp0 {K : PySem.W.Frag} {H0 H : Hp} {S : List Addr} {k : Kd} {d : D} {v : V} (h : VR K H0 H S k d v) : Rp K H [] d v := by
  have := h.top
  cases d with
  | lst ds => obtain ⟨a, xs, rfl, g, r⟩ := this; unfold Rp; exact ⟨a, xs, rfl, by simp, g, r.weak (by simp)⟩
  | tup ds => obtain ⟨a, xs, rfl, g, r⟩ := this; unfold Rp; exact ⟨a, xs, rfl, by simp, g, r.weak (by simp)⟩
  | _ => exact Rp.weak (S := S) (by simp) this
theorem VRs.rp0 {K : PySem.W.Frag} {H0 H : Hp} {S : List Addr} : ∀ {kds : List (Kd × D)} {vs : List V}, VRs K H0 H S kds vs → RpL K H [] (kds.map (·.2)) vs
  | [], _, h => by cases h; exact .nil
  | (k, d) :: r, _, h => by
    obtain ⟨y, ys, rfl, h1, h2⟩ := h
    exact .cons h1.rp0 (VRs.rp0 h2)
/-! ### displays -/
def fLst (f : Ro → Option (List (Kd × D))) (ρ : Ro) : Option (Kd × D) := match f ρ with | some kds => if noBo kds && decide (kds.length ≤ 100000) then some (.fr, .lst (kds.map (·.2))) else none | none => none
theorem s_lst {f : Ro → Option (List (Kd × D))} {es : List Expr} {pos : Pos} (hf : SndA X f es) : SndE X (fLst f) (.List es pos) := by
  intro ρ k d h S σ H Q se q
  unfold fLst at h
  split at h
  · rename_i kds e
    split at h
    · rename_i hb
      simp only [Bool.and_eq_true, decide_eq_true_eq] at hb
      cases h
      refine pe_le (pe_lst pa_w) (hf ρ kds e S σ H _ se fun vs H1 s1 r1 => ?_)
      have r := r1.rp se.dom hb.1
      refine ⟨by rw [r.len, List.length_map]; exact size_small hb.2, fun p hp => q _ _ (s1.trans (same_upd hp)) ((vNew hp r).older s1)⟩
    · cases h
  · cases h
def fTup (f : Ro → Option (List (Kd × D))) (ρ : Ro) : Option (Kd × D) := match f ρ with | some kds => if noBo kds && decide (kds.length ≤ 100000) then some (.sh, .tup (kds.map (·.2))) else none | none => none
theorem s_tup {f : Ro → Option (List (Kd × D))} {es : List Expr} {n : Nat} {pos : Pos} (hf : SndA X f es) : SndE X (fTup f) (.Tuple es n pos) := by
  intro ρ k d h S σ H Q se q
  unfold fTup at h
  split at h
  · rename_i kds e
    split at h
    · rename_i hb
      simp only [Bool.and_eq_true, decide_eq_true_eq] at hb
      cases h
      refine pe_le (pe_tup pa_w) (hf ρ kds e S σ H _ se fun vs H1 s1 r1 => ?_)
      have r := r1.rp se.dom hb.1
      refine ⟨by rw [r.len, List.length_map]; exact size_small hb.2, fun p hp => q _ _ (s1.trans (same_upd hp)) (vTup (se.dom.same s1) hp r)⟩
    · cases h
  · cases h
/-! ### {k: v} -/
def keyD : D → Option Key
  | .int i => some (Sum.inl i)
  | .str x => some (Sum.inr x)
  | _ => none
def fDic1 (fk fv : Ro → Option (Kd × D)) (ρ : Ro) : Option (Kd × D) := match fk ρ, fv ρ with
  | some (_, dk), some (kv, d) => if kv ≠ .bo then (keyD dk).map fun k => (.sh, .dic [k] [d]) else none
  | _, _ => none
theorem keyD_v {K : PySem.W.Frag} {H : Hp} {S : List Addr} {d : D} {k : Key} {v : V} (h : keyD d = some k) (t : Top K H S d v) : v = kV k := by
  cases d with
  | int i => cases h; exact t.int
  | str i => cases h; exact t.str
  | _ => cases h
theorem SE.hideD {K : PySem.W.Frag} {ρ : Ro} {σ : St} {H : Hp} {S : List Addr} {p : Addr} {o : HO} (h : SE K ρ σ H S) (hp : H p = none) : SE K ρ σ (upd H p o) (p :: S) := by
  refine ⟨fun i sl e => ?_, fun a ha => ?_, h.len⟩
  · obtain ⟨v, e1, e2⟩ := h.slot i sl e
    refine ⟨v, e1, ?_⟩
    cases sl with
    | sh d => exact (Rp.fresh hp e2).same (same_upd hp)
    | ow ds =>
      obtain ⟨a, xs, e, g, r⟩ := e2
      exact ⟨a, xs, e, same_upd hp _ _ g, (r.fresh hp).same (same_upd hp)⟩
    | lk ds =>
      obtain ⟨a, xs, e, g, r⟩ := e2
      exact ⟨a, xs, e, same_upd hp _ _ g, (r.fresh hp).same (same_upd hp)⟩
  · rcases List.mem_cons.mp ha with rfl | ha
    · exact ⟨o, upd_same⟩
    · obtain ⟨o', q⟩ := h.dom a ha
      exact ⟨o', same_upd hp _ _ q⟩
theorem s_dic1 {fk fv : Ro → Option (Kd × D)} {k v : Expr} {pos : Pos} (hk : SndE X fk k) (hv : SndE X fv v) : SndE X (fDic1 fk fv) (.Dict [some k] [v] pos) := by
  intro ρ kk d h S σ H Q se q
  unfold fDic1 at h
  split at h
  · rename_i kd dk kv dv ek ev
    split at h
    · rename_i hb
      cases hkey : keyD dk with
      | none => rw [hkey] at h; cases h
      | some key =>
        rw [hkey] at h
        cases h
        refine pe_le (pe_disp (pps_cons pe_w pe_w pps_nil) rfl rfl (by simp) (by simp)) fun p hp => ?_
        have se1 := se.hideD (o := .dK []) hp
        refine two hk hv ek ev se1 fun x y H' s vx vy => ?_
        have ex := keyD_v hkey vx.top
        subst ex
        have ry := vy.rp se1.dom hb
        refine ⟨s _ _ upd_same, [(key, y)], rfl, by simp, q _ _ (fun b o e => ?_) ?_⟩
        · have : b ≠ p := fun z => by rw [z, hp] at e; cases e
          rw [upd_ne this]
          exact s _ _ (same_upd hp _ _ e)
        · show Rp _ _ _ _ _
          unfold Rp
          refine ⟨p, _, rfl, fun z => ?_, upd_same, rfl, .cons ?_ .nil⟩
          · obtain ⟨o, e⟩ := se.dom p z
            rw [hp] at e; cases e
          · refine Rp.weak (S := p :: S) (fun b hb => List.mem_cons_of_mem _ hb) (Rp.keep (fun b u n e => ?_) ry)
            rw [upd_ne (fun z => n (by rw [z]; exact List.mem_cons_self))]
            exact e
    · cases h
  · cases h
end
end G
set_option Elab.async false
set_option linter.all false
set_option maxRecDepth 100000
set_option maxHeartbeats 4000000
set_option autoImplicit false
namespace G
open PySem PySem.Spec L2

section
variable {X : Cx} {Γ : Tab} {c : Cz}
/-! ### items and slices -/
theorem RpL.atI {K : PySem.W.Frag} {H : Hp} {S : List Addr} {ds : List D} {vs : List V} {i : Int} {d : D} (h : RpL K H S ds vs) (e : L2.atI ds i = some d) : ∃ v, L2.atI vs i = some v ∧ Rp K H S d v := by
  unfold L2.atI at e ⊢
  rw [h.len]
  cases q : ixN ds.length i with
  | none => rw [q] at e; cases e
  | some j =>
    rw [q] at e
    obtain ⟨v, e1, e2⟩ := h.getD (i := j) e
    exact ⟨v, e1, e2⟩
def fIx (fa fb : Ro → Option (Kd × D)) (ρ : Ro) : Option (Kd × D) :=
  match fa ρ, fb ρ with
  | some (_, .lst xs), some (_, .int i) => (L2.atI xs i).map fun d => (.sh, d)
  | some (_, .tup xs), some (_, .int i) => (L2.atI xs i).map fun d => (.sh, d)
  | some (_, .scr ns), some (_, .int i) => (L2.atI (ns.map D.int) i).map fun d => (.sh, d)
  | _, _ => none
def plainIx : Expr → Bool
  | .Slice .. => false
  | _ => true
theorem plainIx_ok {b : Expr} (h : plainIx b = true) : PlainIx b := by
  intro o i
  cases b <;> first | rfl | cases h
theorem s_ix {fa fb : Ro → Option (Kd × D)} {a b : Expr} {pos : Pos} (ha : SndE X fa a) (hb : SndE X fb b) (hp : plainIx b = true) : SndE X (fIx fa fb) (.Subscript a b pos) := by
  intro ρ k d h S σ H Q se q
  unfold fIx at h
  split at h
  · rename_i ka xs kb i ea eb
    cases e : L2.atI xs i with
    | none => rw [e] at h; cases h
    | some d' =>
      rw [e] at h
      cases h
      refine pe_le (pe_ix ix_seq pe_w pe_w (plainIx_ok hp)) (two ha hb ea eb se fun x y H' s rx ry => ?_)
      obtain ⟨p, us, rfl, g, r⟩ := rx.top
      obtain rfl := ry.top.int
      obtain ⟨v, e1, e2⟩ := r.atI e
      exact .inl ⟨p, us, i, v, rfl, rfl, .of g, e1, q v H' s e2⟩
  · rename_i ka xs kb i ea eb
    cases e : L2.atI xs i with
    | none => rw [e] at h; cases h
    | some d' =>
      rw [e] at h
      cases h
      refine pe_le (pe_ix ix_seq pe_w pe_w (plainIx_ok hp)) (two ha hb ea eb se fun x y H' s rx ry => ?_)
      obtain ⟨p, us, rfl, g, r⟩ := rx.top
      obtain rfl := ry.top.int
      obtain ⟨v, e1, e2⟩ := r.atI e
      exact .inr (.inl ⟨p, us, i, v, rfl, rfl, .of g, e1, q v H' s e2⟩)
  · rename_i ka ns kb i ea eb
    cases e : L2.atI (ns.map D.int) i with
    | none => rw [e] at h; cases h
    | some d' =>
      rw [e] at h
      cases h
      refine pe_le (pe_ix ix_seq pe_w pe_w (plainIx_ok hp)) (two ha hb ea eb se fun x y H' s rx ry => ?_)
      obtain ⟨p, rfl, g⟩ := rx.top.scr
      obtain rfl := ry.top.int
      obtain ⟨v, e1, e2⟩ := (RpL.ints (K := X.K) (H := H') (S := S) ns).atI e
      exact .inl ⟨p, _, i, v, rfl, rfl, g, e1, q v H' s e2⟩
  · cases h
def cutD (xs : List D) (lo hi : Option Int) : List D := (xs.drop (HT.sIx xs.length 0 lo)).take (HT.sIx xs.length xs.length hi - HT.sIx xs.length 0 lo)
theorem RpL.cut {K : PySem.W.Frag} {H : Hp} {S : List Addr} {ds : List D} {vs : List V} (h : RpL K H S ds vs) (lo hi : Option Int) : RpL K H S (cutD ds lo hi) (cutV vs lo hi) := by
  unfold cutD cutV
  rw [h.len]
  exact (h.drop _).take _
def wO (X : Cx) (e : Option Expr) : TO := fun σ H Q => ∃ t, PO X e t ∧ t σ H Q
theorem po_w {e : Option Expr} : PO X e (wO X e) := fun pins s σ H Q I h => let ⟨t, p, q⟩ := h; p pins s σ H Q I q
def fOpt (f : Expr → Ro → Option (Kd × D)) (e : Option Expr) (ρ : Ro) : Option (Option Int) := match e with
  | none => some none
  | some e => match f e ρ with | some (_, .int i) => some (some i) | _ => none
theorem s_opt {f : Expr → Ro → Option (Kd × D)} (hf : ∀ e, SndE X (f e) e) {e : Option Expr} {ρ : Ro} {o : Option Int} (h : fOpt f e ρ = some o) {S : List Addr} {σ : St} {H : Hp} {Q : Option Int → Hp → Prop} (se : SE X.K ρ σ H S) (q : ∀ H', Same H H' → Q o H') : wO X e σ H Q := by
  cases e with
  | none => cases h; exact ⟨_, po_none, q H (Same.refl H)⟩
  | some e =>
    unfold fOpt at h
    dsimp only at h
    split at h
    · rename_i k i ea
      cases h
      exact ⟨_, po_some pe_w, hf e ρ _ _ ea S σ H _ se fun v H' s r => ⟨i, r.top.int, q H' s⟩⟩
    · cases h
def fSl (f : Expr → Ro → Option (Kd × D)) (a : Expr) (lo hi : Option Expr) (ρ : Ro) : Option (Kd × D) :=
  match f a ρ, fOpt f lo ρ, fOpt f hi ρ with
  | some (_, .lst xs), some l, some u => some (.fr, .lst (cutD xs l u))
  | some (_, .scr ns), some l, some u => some (.fr, .lst (cutD (ns.map .int) l u))
  | _, _, _ => none
theorem s_sl {f : Expr → Ro → Option (Kd × D)} (hf : ∀ e, SndE X (f e) e) {a : Expr} {lo hi : Option Expr} {p2 pos : Pos} : SndE X (fSl f a lo hi) (.Subscript a (.Slice lo hi none p2) pos) := by
  intro ρ k d h S σ H Q se q
  unfold fSl at h
  split at h
  · rename_i ka xs l u ea el eu
    cases h
    refine pe_le (pe_slice sl_list pe_w po_w po_w) (hf a ρ _ _ ea S σ H _ se fun x H1 s1 rx => s_opt hf el (se.same s1) fun H2 s2 => s_opt hf eu ((se.same s1).same s2) fun H3 s3 => ?_)
    obtain ⟨p, us, rfl, g, r⟩ := ((rx.same s2).same s3).top
    exact ⟨p, us, rfl, .of g, fun p' hp' => q _ _ (((s1.trans s2).trans s3).trans (same_upd hp')) ((vNew hp' (r.cut l u)).older ((s1.trans s2).trans s3))⟩
  · rename_i ka ns l u ea el eu
    cases h
    refine pe_le (pe_slice sl_list pe_w po_w po_w) (hf a ρ _ _ ea S σ H _ se fun x H1 s1 rx => s_opt hf el (se.same s1) fun H2 s2 => s_opt hf eu ((se.same s1).same s2) fun H3 s3 => ?_)
    obtain ⟨p, rfl, g⟩ := ((rx.same s2).same s3).top.scr
    exact ⟨p, _, rfl, g, fun p' hp' => q _ _ (((s1.trans s2).trans s3).trans (same_upd hp')) ((vNew hp' ((RpL.ints ns).cut l u)).older ((s1.trans s2).trans s3))⟩
  · cases h
def fRev (fa fs : Ro → Option (Kd × D)) (ρ : Ro) : Option (Kd × D) :=
  match fa ρ, fs ρ with
  | some (_, .lst xs), some (_, .int i) => if i = -1 then some (.fr, .lst xs.reverse) else none
  | _, _ => none
theorem s_rev {fa fs : Ro → Option (Kd × D)} {a st : Expr} {p2 pos : Pos} (ha : SndE X fa a) (hs : SndE X fs st) : SndE X (fRev fa fs) (.Subscript a (.Slice none none (some st) p2) pos) := by
  intro ρ k d h S σ H Q se q
  unfold fRev at h
  split at h
  · rename_i ka xs kb i ea eb
    split at h
    · rename_i hi
      subst hi
      cases h
      refine pe_le (pe_rev pe_w pe_w) (two ha hs ea eb se fun x y H' s rx ry => ?_)
      obtain ⟨p, us, rfl, g, r⟩ := rx.top
      obtain rfl := ry.top.int
      exact ⟨p, us, rfl, rfl, .of g, fun p' hp' => q _ _ (s.trans (same_upd hp')) ((vNew hp' r.reverse).older s)⟩
    · cases h
  · cases h
/-! ### calls -/
theorem gl_of (O : CxOk X Γ c) {x : Str} (h : glB c.sc x = true) : Gl X x := by
  show X.env.scope.names.lookup x = _
  rw [O.sc]
  simpa [glB] using h
theorem back_any {env : Env} {pos : Pos} {es : List Expr} (h : es.all noStar = true) : (backTo pos (starEach es env)).any (·.1) = false := by
  have key : ∀ es : List Expr, es.all noStar = true → ∀ p ∈ starEach es env, p.1 = false := by
    intro es
    induction es with
    | nil => intro _ p hp; cases hp
    | cons e es ih =>
      intro h p hp
      simp only [List.all_cons, Bool.and_eq_true] at h
      rw [star_of h.1] at hp
      rcases List.mem_cons.mp hp with rfl | hp
      · rfl
      · exact ih h.2 p hp
  have k2 := key es h
  cases e : starEach es env with
  | nil => rfl
  | cons p r =>
    rw [e] at k2
    have h0 : ∀ q ∈ backTo pos (p :: r), q.1 = false := by
      intro q hq
      unfold backTo at hq
      first
        | exact k2 q hq
        | (simp only [List.mem_map, List.mem_cons] at hq
           first
             | (obtain ⟨z, hz, rfl⟩ := hq; exact k2 z (by simpa using hz))
             | (rcases hq with rfl | hq
                · exact k2 p (by simp)
                · first
                    | exact k2 q (by simp [hq])
                    | (obtain ⟨z, hz, rfl⟩ := hq; exact k2 z (by simp [hz]))))
    rw [List.any_eq_false]
    intro q hq
    rw [h0 q hq]
    decide
end
end G
set_option Elab.async false
set_option linter.all false
set_option maxRecDepth 100000
set_option maxHeartbeats 4000000
set_option autoImplicit false
namespace G
open PySem PySem.Spec L2

section
variable {X : Cx} {Γ : Tab} {c : Cz}
/-! ### built-in calls -/
def lenD : D → Option Nat
  | .lst xs => some xs.length
  | .tup xs => some xs.length
  | .scr ns => some ns.length
  | _ => none
def toBools : List D → Option (List Bool)
  | [] => some []
  | .bl b :: r => (toBools r).map (b :: ·)
  | _ => none
theorem toBools_eq : ∀ {ds : List D} {bs : List Bool}, toBools ds = some bs → ds = bs.map D.bl
  | [], bs, h => by cases h; rfl
  | .bl b :: r, bs, h => by
    unfold toBools at h
    cases e : toBools r with
    | none => rw [e] at h; cases h
    | some bs' => rw [e] at h; cases h; rw [toBools_eq e]; rfl
  | .non :: _, _, h => by cases h
  | .int _ :: _, _, h => by cases h
  | .str _ :: _, _, h => by cases h
  | .lst _ :: _, _, h => by cases h
  | .tup _ :: _, _, h => by cases h
  | .scr _ :: _, _, h => by cases h
  | .dic _ _ :: _, _, h => by cases h
theorem RpL.bools {K : PySem.W.Frag} {H : Hp} {S : List Addr} : ∀ {bs : List Bool} {vs : List V}, RpL K H S (bs.map D.bl) vs → vs = bs.map V.bl
  | [], vs, h => by unfold RpL at h; exact h
  | b :: bs, vs, h => by
    rw [List.map_cons] at h
    unfold RpL at h
    obtain ⟨y, ys, rfl, h1, h2⟩ := h
    unfold Rp at h1
    rw [h1, RpL.bools h2]
    rfl
def toInts : List D → Option (List Int)
  | [] => some []
  | .int i :: r => (toInts r).map (i :: ·)
  | _ => none
theorem toInts_eq : ∀ {ds : List D} {ns : List Int}, toInts ds = some ns → ds = ns.map D.int
  | [], ns, h => by cases h; rfl
  | .int i :: r, ns, h => by
    unfold toInts at h
    cases e : toInts r with
    | none => rw [e] at h; cases h
    | some bs' => rw [e] at h; cases h; rw [toInts_eq e]; rfl
  | .non :: _, _, h => by cases h
  | .bl _ :: _, _, h => by cases h
  | .str _ :: _, _, h => by cases h
  | .lst _ :: _, _, h => by cases h
  | .tup _ :: _, _, h => by cases h
  | .scr _ :: _, _, h => by cases h
  | .dic _ _ :: _, _, h => by cases h
theorem toInts_map : ∀ ns : List Int, toInts (ns.map D.int) = some ns
  | [] => rfl
  | n :: ns => by
    show (toInts (ns.map D.int)).map (n :: ·) = _
    rw [toInts_map ns]; rfl
theorem RpL.toInts {K : PySem.W.Frag} {H : Hp} {S : List Addr} : ∀ {ns : List Int} {vs : List V}, RpL K H S (ns.map D.int) vs → vs = ns.map V.int
  | [], vs, h => by unfold RpL at h; exact h
  | b :: bs, vs, h => by
    rw [List.map_cons] at h
    unfold RpL at h
    obtain ⟨y, ys, rfl, h1, h2⟩ := h
    unfold Rp at h1
    rw [h1, RpL.toInts h2]
    rfl
def fBlt2 (x : Str) (kds : List (Kd × D)) : Option (Kd × D) :=
  if x = "sum" then (match kds with | [(_, .lst ds)] => (toInts ds).map fun ns => (.sh, .int ns.sum) | [(_, .scr ns)] => some (.sh, .int ns.sum) | _ => none)
  else if x = "min" then (match kds with | [(_, .int i), (_, .int j)] => some (.sh, .int (if j < i then j else i)) | _ => none)
  else if x = "max" then (match kds with | [(_, .int i), (_, .int j)] => some (.sh, .int (if j > i then j else i)) | _ => none)
  else if x = "abs" then (match kds with | [(_, .int i)] => some (.sh, .int (if i < 0 then -i else i)) | _ => none)
  else if x = "tuple" then (match kds with | [(_, .lst ds)] => some (.sh, .tup ds) | _ => none)
  else none
def fBlt (x : Str) (kds : List (Kd × D)) : Option (Kd × D) :=
  if x = "len" then (match kds with | [(_, d)] => (lenD d).map fun n => (.sh, .int n) | _ => none)
  else if x = "all" then (match kds with | [(_, .lst ds)] => (toBools ds).map fun bs => (.sh, .bl (bs.all id)) | _ => none)
  else if x = "list" then (match kds with | [(_, .lst ds)] => some (.fr, .lst ds) | [(_, .tup ds)] => some (.fr, .lst ds) | [(_, .scr ns)] => some (.fr, .lst (ns.map D.int)) | _ => none)
  else if x = "str" then (match kds with | [(_, .int i)] => if i.natAbs.log2 < 1920 then some (.sh, .str (toString i)) else none | _ => none)
  else fBlt2 x kds
theorem VRs.one {K : PySem.W.Frag} {H0 H : Hp} {S : List Addr} {k : Kd} {d : D} {vs : List V} (h : VRs K H0 H S [(k, d)] vs) : ∃ v, vs = [v] ∧ VR K H0 H S k d v := by
  obtain ⟨y, ys, rfl, h1, h2⟩ := h
  have h2' : ys = [] := h2
  exact ⟨y, by rw [h2'], h1⟩
theorem VRs.two {K : PySem.W.Frag} {H0 H : Hp} {S : List Addr} {k k' : Kd} {d d' : D} {vs : List V} (h : VRs K H0 H S [(k, d), (k', d')] vs) : ∃ v v', vs = [v, v'] ∧ VR K H0 H S k d v ∧ VR K H0 H S k' d' v' := by
  obtain ⟨y, ys, rfl, h1, h2⟩ := h
  obtain ⟨v, rfl, h3⟩ := VRs.one h2
  exact ⟨y, v, rfl, h1, h3⟩
theorem s_blt2 (O : CxOk X Γ c) {x : Str} {e : Expr} {es : List Expr} {p pos : Pos} {f : Ro → Option (List (Kd × D))} (hf : SndA X f (e :: es)) (hg : glB c.sc x = true) (hst : (e :: es).all noStar = true) {ρ : Ro} {kds : List (Kd × D)} (he : f ρ = some kds) {k : Kd} {d : D} (h : fBlt2 x kds = some (k, d)) {S : List Addr} {σ : St} {H : Hp} {Q : VK} (se : SE X.K ρ σ H S)
    (q : ∀ v H', Same H H' → VR X.K H H' S k d v → Q v H') : wE X (.Call (.Name x p) (e :: es) [] pos) σ H Q := by
  have hst' : noStar e = true ∧ es.all noStar = true := by simpa using hst
  unfold fBlt2 at h
  split at h
  · rename_i hx
    subst hx
    split at h
    · rename_i ka ds
      cases hl : G.toInts ds with
      | none => rw [hl] at h; cases h
      | some ns =>
        rw [hl] at h
        cases h
        refine pe_le (pe_callB (call_sum_list O.calm) (gl_of O hg) (O.tab.bl _ (by simp)) PyProof.Rows.boot_sum pa_w (by decide) (by decide) (star_of hst'.1) (back_any hst'.2)) (hf ρ _ he S σ H _ se fun vs H1 s1 r1 => ?_)
        obtain ⟨v, rfl, r⟩ := r1.one
        obtain ⟨a, us, rfl, g, rr⟩ := r.top
        rw [toInts_eq hl] at rr
        exact ⟨a, ns, rfl, .of (by rw [g, rr.toInts]), q _ H1 s1 vInt⟩
    · rename_i ka ns
      cases h
      refine pe_le (pe_callB (call_sum_list O.calm) (gl_of O hg) (O.tab.bl _ (by simp)) PyProof.Rows.boot_sum pa_w (by decide) (by decide) (star_of hst'.1) (back_any hst'.2)) (hf ρ _ he S σ H _ se fun vs H1 s1 r1 => ?_)
      obtain ⟨v, rfl, r⟩ := r1.one
      obtain ⟨a, rfl, g⟩ := r.top.scr
      exact ⟨a, ns, rfl, g, q _ H1 s1 vInt⟩
    · cases h
  · split at h
    · rename_i hx
      subst hx
      split at h
      · rename_i ka i kb j
        cases h
        refine pe_le (pe_callB (call_min2 O.calm) (gl_of O hg) (O.tab.bl _ (by simp)) PyProof.Rows.boot_min pa_w (by decide) (by decide) (star_of hst'.1) (back_any hst'.2)) (hf ρ _ he S σ H _ se fun vs H1 s1 r1 => ?_)
        obtain ⟨v, v', rfl, r, r'⟩ := r1.two
        obtain rfl := r.top.int
        obtain rfl := r'.top.int
        exact ⟨i, j, rfl, q _ H1 s1 vInt⟩
      · cases h
    · split at h
      · rename_i hx
        subst hx
        split at h
        · rename_i ka i kb j
          cases h
          refine pe_le (pe_callB (call_max2 O.calm) (gl_of O hg) (O.tab.bl _ (by simp)) PyProof.Rows.boot_max pa_w (by decide) (by decide) (star_of hst'.1) (back_any hst'.2)) (hf ρ _ he S σ H _ se fun vs H1 s1 r1 => ?_)
          obtain ⟨v, v', rfl, r, r'⟩ := r1.two
          obtain rfl := r.top.int
          obtain rfl := r'.top.int
          exact ⟨i, j, rfl, q _ H1 s1 vInt⟩
        · cases h
      · split at h
        · rename_i hx
          subst hx
          split at h
          · rename_i ka i
            cases h
            refine pe_le (pe_callB call_abs (gl_of O hg) (O.tab.bl _ (by simp)) PyProof.Rows.boot_abs pa_w (by decide) (by decide) (star_of hst'.1) (back_any hst'.2)) (hf ρ _ he S σ H _ se fun vs H1 s1 r1 => ?_)
            obtain ⟨v, rfl, r⟩ := r1.one
            obtain rfl := r.top.int
            exact ⟨i, rfl, q _ H1 s1 vInt⟩
          · cases h
        · split at h
          · rename_i hx
            subst hx
            split at h
            · rename_i ka ds
              cases h
              refine pe_le (pe_callTy call_tuple_of (gl_of O hg) (O.tab.bl _ (by simp)) PyProof.Rows.boot_tuple pa_w (by decide) (by decide) (star_of hst'.1) (back_any hst'.2)) (hf ρ _ he S σ H _ se fun vs H1 s1 r1 => ?_)
              obtain ⟨v, rfl, r⟩ := r1.one
              obtain ⟨a, us, rfl, g, rr⟩ := r.top
              exact ⟨a, us, rfl, .inl ⟨.of g, fun l hl => q _ _ (s1.trans (same_upd hl)) (vTup (se.dom.same s1) hl rr)⟩⟩
            · cases h
          · cases h
theorem s_blt (O : CxOk X Γ c) {x : Str} {e : Expr} {es : List Expr} {p pos : Pos} {f : Ro → Option (List (Kd × D))} (hf : SndA X f (e :: es)) (hg : glB c.sc x = true) (hst : (e :: es).all noStar = true) {ρ : Ro} {kds : List (Kd × D)} (he : f ρ = some kds) {k : Kd} {d : D} (h : fBlt x kds = some (k, d)) {S : List Addr} {σ : St} {H : Hp} {Q : VK} (se : SE X.K ρ σ H S)
    (q : ∀ v H', Same H H' → VR X.K H H' S k d v → Q v H') : wE X (.Call (.Name x p) (e :: es) [] pos) σ H Q := by
  have hst' : noStar e = true ∧ es.all noStar = true := by simpa using hst
  unfold fBlt at h
  split at h
  · rename_i hx
    subst hx
    split at h
    · rename_i ka da
      cases hl : lenD da with
      | none => rw [hl] at h; cases h
      | some n =>
        rw [hl] at h
        cases h
        refine pe_le (pe_callB call_len_seq (gl_of O hg) (O.tab.bl _ (by simp)) PySem.boot_len pa_w (by decide) (by decide) (star_of hst'.1) (back_any hst'.2)) (hf ρ _ he S σ H _ se fun vs H1 s1 r1 => ?_)
        obtain ⟨v, rfl, r⟩ := r1.one
        have t := r.top
        cases da with
        | lst ds =>
          obtain ⟨a, us, rfl, g, rr⟩ := t
          cases hl
          exact ⟨a, us, rfl, .inl (.of g), q _ H1 s1 (by rw [rr.len]; exact vInt)⟩
        | tup ds =>
          obtain ⟨a, us, rfl, g, rr⟩ := t
          cases hl
          exact ⟨a, us, rfl, .inr (.of g), q _ H1 s1 (by rw [rr.len]; exact vInt)⟩
        | scr ns =>
          obtain ⟨a, rfl, g⟩ := t.scr
          cases hl
          exact ⟨a, _, rfl, .inl g, q _ H1 s1 (by rw [List.length_map]; exact vInt)⟩
        | _ => cases hl
    · cases h
  · split at h
    · rename_i hx
      subst hx
      split at h
      · rename_i ka ds
        cases hl : toBools ds with
        | none => rw [hl] at h; cases h
        | some bs =>
          rw [hl] at h
          cases h
          refine pe_le (pe_callB (call_all_list O.calm) (gl_of O hg) (O.tab.bl _ (by simp)) PyProof.Rows.boot_all pa_w (by decide) (by decide) (star_of hst'.1) (back_any hst'.2)) (hf ρ _ he S σ H _ se fun vs H1 s1 r1 => ?_)
          obtain ⟨v, rfl, r⟩ := r1.one
          obtain ⟨a, us, rfl, g, rr⟩ := r.top
          rw [toBools_eq hl] at rr
          exact ⟨a, bs, rfl, .of (by rw [g, rr.bools]), q _ H1 s1 vBl⟩
      · cases h
    · split at h
      · rename_i hx
        subst hx
        split at h
        · rename_i ka ds
          cases h
          refine pe_le (pe_callTy call_list_of (gl_of O hg) (O.tab.bl _ (by simp)) PyProof.Rows.boot_list pa_w (by decide) (by decide) (star_of hst'.1) (back_any hst'.2)) (hf ρ _ he S σ H _ se fun vs H1 s1 r1 => ?_)
          obtain ⟨v, rfl, r⟩ := r1.one
          obtain ⟨a, us, rfl, g, rr⟩ := r.top
          exact ⟨a, us, rfl, .inl (.of g), fun l hl => q _ _ (s1.trans (same_upd hl)) ((vNew hl rr).older s1)⟩
        · rename_i ka ds
          cases h
          refine pe_le (pe_callTy call_list_of (gl_of O hg) (O.tab.bl _ (by simp)) PyProof.Rows.boot_list pa_w (by decide) (by decide) (star_of hst'.1) (back_any hst'.2)) (hf ρ _ he S σ H _ se fun vs H1 s1 r1 => ?_)
          obtain ⟨v, rfl, r⟩ := r1.one
          obtain ⟨a, us, rfl, g, rr⟩ := r.top
          exact ⟨a, us, rfl, .inr (.of g), fun l hl => q _ _ (s1.trans (same_upd hl)) ((vNew hl rr).older s1)⟩
        · rename_i ka ns
          cases h
          refine pe_le (pe_callTy call_list_of (gl_of O hg) (O.tab.bl _ (by simp)) PyProof.Rows.boot_list pa_w (by decide) (by decide) (star_of hst'.1) (back_any hst'.2)) (hf ρ _ he S σ H _ se fun vs H1 s1 r1 => ?_)
          obtain ⟨v, rfl, r⟩ := r1.one
          obtain ⟨a, rfl, g⟩ := r.top.scr
          exact ⟨a, _, rfl, .inl g, fun l hl => q _ _ (s1.trans (same_upd hl)) ((vNew hl (RpL.ints ns)).older s1)⟩
        · cases h
      · split at h
        · rename_i hx
          subst hx
          split at h
          · rename_i ka i
            split at h
            · rename_i hz
              cases h
              refine pe_le (pe_callTy call_str_int (gl_of O hg) (O.tab.bl _ (by simp)) PyProof.Rows.boot_str pa_w (by decide) (by decide) (star_of hst'.1) (back_any hst'.2)) (hf ρ _ he S σ H _ se fun vs H1 s1 r1 => ?_)
              obtain ⟨v, rfl, r⟩ := r1.one
              obtain rfl := r.top.int
              exact ⟨i, rfl, hz, q _ H1 s1 (by show Rp _ _ _ _ _; unfold Rp; rfl)⟩
            · cases h
          · cases h
        · exact s_blt2 O hf hg hst he h se q
/-! ### isinstance -/
def tyD : D → Option String
  | .non => some "NoneType"
  | .bl _ => some "bool"
  | .int _ => some "int"
  | .str _ => some "str"
  | .lst _ => some "list"
  | .tup _ => some "tuple"
  | .scr _ => none
  | .dic _ _ => some "dict"
def isiD (T : Str) (d : D) : Option Bool :=
  if T = "int" then (match d with | .int _ => some true | .bl _ => some true | .scr _ => none | _ => some false)
  else if T = "bool" then (match d with | .bl _ => some true | .scr _ => none | _ => some false)
  else if T = "list" then (match d with | .lst _ => some true | .scr _ => none | _ => some false)
  else none
theorem ty_of {K : PySem.W.Frag} {H : Hp} {S : List Addr} {d : D} {v : V} {t : String} (h : Top K H S d v) (e : tyD d = some t) : TyOf K H v (.type t) := by
  cases d with
  | non => unfold Top Rp at h; subst h; cases e; exact .non
  | bl b => obtain rfl := h.bl; cases e; exact .bl b
  | int b => obtain rfl := h.int; cases e; exact .int b
  | str b => obtain rfl := h.str; cases e; exact .str b
  | lst b => obtain ⟨a, us, rfl, g, r⟩ := h; cases e; exact .lst g
  | tup b => obtain ⟨a, us, rfl, g, r⟩ := h; cases e; exact .tup g
  | scr b => cases e
  | dic ks vs => unfold Top Rp at h; obtain ⟨a, kvs, rfl, _, g, _⟩ := h; cases e; exact .dK g
theorem isi_kit {K : PySem.W.Frag} {T : Str} {d : D} {b : Bool} (h : isiD T d = some b) : ∃ t T', tyD d = some t ∧ T ∈ (["int", "bool", "list"] : List Str) ∧ bootBuiltins T = some (.type T') ∧ PySem.W.kitOne K (.type t) (.type T') = some b := by
  unfold isiD at h
  split at h
  · rename_i e
    subst e
    cases d <;> cases h <;> exact ⟨_, "int", rfl, by simp, by rfl, by with_unfolding_all rfl⟩
  · split at h
    · rename_i e
      subst e
      cases d <;> cases h <;> exact ⟨_, "bool", rfl, by simp, by rfl, by with_unfolding_all rfl⟩
    · split at h
      · rename_i e
        subst e
        cases d <;> cases h <;> exact ⟨_, "list", rfl, by simp, by rfl, by with_unfolding_all rfl⟩
      · cases h
def fIsi (c : Cz) (f : Expr → Ro → Option (Kd × D)) (a : Expr) (T : Str) (ρ : Ro) : Option (Kd × D) :=
  if glB c.sc "isinstance" && glB c.sc T && noStar a then (match f a ρ with | some (_, d) => bV (isiD T d) | none => none) else none
theorem s_isi (O : CxOk X Γ c) {f : Expr → Ro → Option (Kd × D)} (hf : ∀ e, SndE X (f e) e) {a : Expr} {T : Str} {p p2 pos : Pos} : SndE X (fIsi c f a T) (.Call (.Name "isinstance" p) [a, .Name T p2] [] pos) := by
  intro ρ k d h S σ H Q se q
  unfold fIsi at h
  split at h
  · rename_i hg
    simp only [Bool.and_eq_true] at hg
    split at h
    · rename_i ka da ea
      cases hi : isiD T da with
      | none => rw [hi] at h; cases h
      | some b =>
        rw [hi] at h
        cases h
        obtain ⟨t, T', h1, h2, h3, h4⟩ := isi_kit (K := X.K) hi
        have hT : X.mg T = none := O.tab.bl T (by
          simp only [List.mem_cons, List.not_mem_nil, or_false] at h2 ⊢
          rcases h2 with rfl | rfl | rfl <;> simp)
        have hTn : T ≠ "__name__" := by
          simp only [List.mem_cons, List.not_mem_nil, or_false] at h2
          rcases h2 with rfl | rfl | rfl <;> decide
        have hTd : (T == ("__debug__" : Str)) = false := by
          simp only [List.mem_cons, List.not_mem_nil, or_false] at h2
          rcases h2 with rfl | rfl | rfl <;> decide
        refine pe_le (pe_callB call_isinst (gl_of O hg.1.1) (O.tab.bl _ (by simp)) PyProof.Rows.boot_isinstance (pa_cons pe_w (pa_cons (pe_bltn (v := .ty T') (gl_of O hg.1.2) hT h3 rfl hTn hTd) pa_nil (star_of rfl)) (star_of hg.2)) (by decide) (by decide) (star_of hg.2) (back_any rfl)) ?_
        exact hf a ρ _ _ ea S σ H _ se fun v H1 s1 r1 => ⟨v, T', _, b, rfl, ty_of r1.top h1, h4, q _ H1 s1 vBl⟩
    · cases h
  · cases h
/-! ### calls of the text's defs -/
def flatR : D → Bool
  | .non | .bl _ | .int _ | .str _ => true
  | _ => false
def fFn (φ : List D → Option (Kd × D)) (kds : List (Kd × D)) : Option (Kd × D) :=
  match φ (kds.map (·.2)) with
  | some (k, d) => if noBo kds then (if k = .bo then none else some (k, d)) else if flatR d && k != .fr then some (.sh, d) else none
  | none => none
theorem s_fn (O : CxOk X Γ c) {x : Str} {e : Expr} {es : List Expr} {p pos : Pos} {f : Ro → Option (List (Kd × D))} (hf : SndA X f (e :: es)) (hg : glB c.sc x = true) (hst : (e :: es).all noStar = true) {φ : List D → Option (Kd × D)} (hφ : Γ.fn x = some φ) {ρ : Ro} {kds : List (Kd × D)} (he : f ρ = some kds) {k : Kd} {d : D}
    (h : fFn φ kds = some (k, d)) {S : List Addr} {σ : St} {H : Hp} {Q : VK} (se : SE X.K ρ σ H S) (q : ∀ v H', Same H H' → VR X.K H H' S k d v → Q v H') : wE X (.Call (.Name x p) (e :: es) [] pos) σ H Q := by
  have hst' : noStar e = true ∧ es.all noStar = true := by simpa using hst
  obtain ⟨n, fa, fd, ps, F, hr, hm, hk, hb, hdb⟩ := O.tab.fn x φ hφ
  unfold fFn at h
  split at h
  · rename_i k' d' e'
    refine pe_le (pe_call (E := E0) F hr (gl_of O hg) hm hk hb .nil pass0 pa_w hdb (star_of hst'.1) (back_any hst'.2)) (hf ρ _ he S σ H _ se fun vs H1 s1 r1 => ?_)
    split at h
    · rename_i hn
      split at h
      · cases h
      · cases h
        exact ⟨_, S, _, _, by rw [List.append_nil]; exact r1.rp se.dom hn, se.dom.same s1, e', fun v H2 s2 r2 => q v H2 (s1.trans s2) (r2.older s1)⟩
    · split at h
      · rename_i hfl
        simp only [Bool.and_eq_true, bne_iff_ne] at hfl
        cases h
        refine ⟨_, [], _, _, by rw [List.append_nil]; exact r1.rp0, (fun a z => by cases z), e', fun v H2 s2 r2 => q v H2 (s1.trans s2) ?_⟩
        have r3 := r2.rp0
        show Rp X.K H2 S d v
        cases d with
        | non => unfold Rp at r3 ⊢; exact r3
        | bl _ => unfold Rp at r3 ⊢; exact r3
        | int _ => unfold Rp at r3 ⊢; exact r3
        | str _ => unfold Rp at r3 ⊢; exact r3
        | _ => exact absurd hfl.1 (by simp [flatR])
      · cases h
  · cases h
def fCall (Γ : Tab) (c : Cz) (f : Expr → Ro → Option (Kd × D)) (x : Str) (e : Expr) (es : List Expr) (ρ : Ro) : Option (Kd × D) :=
  if glB c.sc x then
    match fArgs f (e :: es) ρ with
    | some kds => (match Γ.fn x with | some φ => fFn φ kds | none => fBlt x kds)
    | none => none
  else none
theorem s_call (O : CxOk X Γ c) {f : Expr → Ro → Option (Kd × D)} (hf : ∀ e, SndE X (f e) e) {x : Str} {e : Expr} {es : List Expr} {p pos : Pos} : SndE X (fCall Γ c f x e es) (.Call (.Name x p) (e :: es) [] pos) := by
  intro ρ k d h S σ H Q se q
  unfold fCall at h
  split at h
  · rename_i hg
    split at h
    · rename_i kds ea
      have hst := (fArgs_star ea).1
      split at h
      · rename_i φ hφ
        exact s_fn O (s_args hf (e :: es)) hg hst hφ ea h se q
      · exact s_blt O (s_args hf (e :: es)) hg hst ea h se q
    · cases h
  · cases h
end
end G
set_option Elab.async false
set_option linter.all false
set_option maxRecDepth 100000
set_option maxHeartbeats 4000000
set_option autoImplicit false
namespace G
open PySem PySem.Spec L2

theorem Rp.carry {K : PySem.W.Frag} {Hs H : Hp} {S S' T : List Addr} {d : D} {v : V} (h : Rp K Hs S d v) (k : ∀ b o, b ∉ T → Hs b = some o → H b = some o) (hT : ∀ b ∈ T, b ∈ S) (hS : ∀ b o, Hs b = some o → b ∈ S' → b ∈ S) : Rp K H S' d v := by
  have h1 : Rp K Hs (S' ++ S) d v := h.swap fun b o e z => by
    rcases List.mem_append.mp z with z | z
    · exact hS b o e z
    · exact z
  have h2 : Rp K H (S' ++ S) d v := h1.keep fun b o n e => k b o (fun z => n (List.mem_append_right _ (hT b z))) e
  exact h2.weak fun b hb => List.mem_append_left _ hb
theorem RpL.carry {K : PySem.W.Frag} {Hs H : Hp} {S S' T : List Addr} {d : List D} {v : List V} (h : RpL K Hs S d v) (k : ∀ b o, b ∉ T → Hs b = some o → H b = some o) (hT : ∀ b ∈ T, b ∈ S) (hS : ∀ b o, Hs b = some o → b ∈ S' → b ∈ S) : RpL K H S' d v := by
  have h1 : RpL K Hs (S' ++ S) d v := h.swap fun b o e z => by
    rcases List.mem_append.mp z with z | z
    · exact hS b o e z
    · exact z
  have h2 : RpL K H (S' ++ S) d v := h1.keep fun b o n e => k b o (fun z => n (List.mem_append_right _ (hT b z))) e
  exact h2.weak fun b hb => List.mem_append_left _ hb

section
variable {X : Cx} {Γ : Tab} {c : Cz}
/-! ### what is walked -/
def seqOf (kd : Kd × D) : Option (Bool × List D) := match kd with
  | (k, .lst ds) => some (k == .bo, ds)
  | (_, .scr ns) => some (false, ns.map D.int)
  | _ => none
/-- what a loop or a comprehension goes over -/
def itOf (kd : Kd × D) : Option (Bool × List D) := match kd with
  | (_, .tup ds) => some (false, ds)
  | kd => seqOf kd
theorem not_in_S {K : PySem.W.Frag} {H0 H : Hp} {S : List Addr} {k : Kd} {ds : List D} {a : Addr} (dm : Dom H0 S) (h : VR K H0 H S k (.lst ds) (.ref a)) (hk : k ≠ .bo) : a ∉ S := by
  have := h.rp dm hk
  unfold Rp at this
  obtain ⟨b, xs, e, n, _⟩ := this
  cases e
  exact n
/-- how a list or the script stands while the heap goes on -/
theorem seq_ok {K : PySem.W.Frag} {H0 Hs : Hp} {S : List Addr} {k : Kd} {d : D} {v : V} {bo : Bool} {ds : List D} (dm : Dom H0 S) (h : VR K H0 Hs S k d v) (e : seqOf (k, d) = some (bo, ds)) : ∃ a us, v = .ref a ∧ RpL K Hs S ds us ∧
    ∀ T : List Addr, (∀ b ∈ T, b ∈ S) → (bo = true → T = []) → ∀ H : Hp, (∀ b o, b ∉ T → Hs b = some o → H b = some o) → SqL K H a us := by
  cases d with
  | lst xs =>
    cases e
    obtain ⟨a, us, rfl, g, r⟩ := h.top
    refine ⟨a, us, rfl, r, fun T hT hb H kk => .of (kk _ _ (fun z => ?_) g)⟩
    by_cases hk : k = .bo
    · subst hk
      rw [hb rfl] at z
      cases z
    · exact not_in_S dm h hk (hT _ z)
  | scr ns =>
    cases e
    have t := h.top
    unfold Top Rp at t
    obtain ⟨a, rfl, t⟩ := t
    refine ⟨a, _, rfl, RpL.ints ns, fun T hT hb H kk => ?_⟩
    rcases t with ⟨n, g | ⟨o, g⟩⟩ | t
    · exact .inl (.inl (kk _ _ (fun z => n (hT _ z)) g))
    · exact .inl (.inr ⟨o, kk _ _ (fun z => n (hT _ z)) g⟩)
    · exact .inr t
  | _ => cases e
theorem it_list {K : PySem.W.Frag} {H0 Hs : Hp} {S : List Addr} {k : Kd} {d : D} {v : V} {bo : Bool} {ds : List D} (dm : Dom H0 S) (h : VR K H0 Hs S k d v) (e : seqOf (k, d) = some (bo, ds)) : ∃ a, v = .ref a ∧ (∃ xs, SqL K Hs a xs) ∧ ItOk K (Itl K a) Hs S bo ds := by
  obtain ⟨a, us, rfl, r, st⟩ := seq_ok dm h e
  refine ⟨a, rfl, ⟨us, st [] (fun _ z => by cases z) (fun _ => rfl) Hs fun _ _ _ q => q⟩, fun T hT hb i H kk => ?_⟩
  have g := st T hT hb H kk
  refine ⟨fun hi => ⟨us, g, by rw [r.len]; exact hi⟩, fun d hd => ?_⟩
  obtain ⟨x, e1, e2⟩ := r.getD hd
  refine ⟨⟨us, x, g, e1⟩, fun y H' hy => ?_⟩
  obtain ⟨rfl, hy⟩ := hy
  have := hy us g
  rw [e1] at this
  cases this
  exact ⟨Same.refl _, fun S' hS _ => e2.carry kk hT hS⟩
theorem it_tup {K : PySem.W.Frag} {H0 Hs : Hp} {S : List Addr} {k : Kd} {ds : List D} {v : V} (h : VR K H0 Hs S k (.tup ds) v) : ∃ a, v = .ref a ∧ (∃ xs, SqT K Hs a xs) ∧ ItOk K (Itt K a) Hs S false ds := by
  have hs : Rp K Hs S (.tup ds) v := by
    cases k with
    | sh => exact h
    | fr => exact h.elim
    | bo => exact h.elim
  unfold Rp at hs
  obtain ⟨a, us, rfl, n, g, r⟩ := hs
  refine ⟨a, rfl, ⟨us, .of g⟩, fun T hT hb i H kk => ?_⟩
  have g' : SqT K H a us := .of (kk _ _ (fun z => n (hT _ z)) g)
  refine ⟨fun hi => ⟨us, g', by rw [r.len]; exact hi⟩, fun d hd => ?_⟩
  obtain ⟨x, e1, e2⟩ := r.getD hd
  refine ⟨⟨us, x, g', e1⟩, fun y H' hy => ?_⟩
  obtain ⟨rfl, hy⟩ := hy
  have := hy us g'
  rw [e1] at this
  cases this
  exact ⟨Same.refl _, fun S' hS _ => e2.carry kk hT hS⟩
theorem it_enum {K : PySem.W.Frag} {H0 Hs : Hp} {S : List Addr} {k : Kd} {d : D} {v : V} {bo : Bool} {ds : List D} (dm : Dom H0 S) (h : VR K H0 Hs S k d v) (e : seqOf (k, d) = some (bo, ds)) :
    ∃ a, v = .ref a ∧ (∃ xs, SqL K Hs a xs) ∧ ItOk K (Ite K a) Hs S bo (ds.mapIdx fun i d => D.tup [.int i, d]) := by
  obtain ⟨a, us, rfl, r, st⟩ := seq_ok dm h e
  refine ⟨a, rfl, ⟨us, st [] (fun _ z => by cases z) (fun _ => rfl) Hs fun _ _ _ q => q⟩, fun T hT hb i H kk => ?_⟩
  have g := st T hT hb H kk
  refine ⟨fun hi => ⟨us, g, by rw [r.len]; simpa using hi⟩, fun d hd => ?_⟩
  rw [List.getElem?_mapIdx] at hd
  cases q : ds[i]? with
  | none => rw [q] at hd; cases hd
  | some d' =>
    rw [q] at hd
    cases hd
    obtain ⟨x, e1, e2⟩ := r.getD q
    refine ⟨⟨us, x, g, e1⟩, fun y H' hy => ?_⟩
    obtain ⟨p, v, hp, rfl, rfl, hy⟩ := hy
    have := hy us g
    rw [e1] at this
    cases this
    refine ⟨same_upd hp, fun S' hS dm' => ?_⟩
    unfold Rp
    refine ⟨p, _, rfl, fun z => ?_, upd_same, .cons (by unfold Rp; rfl) (.cons ((e2.carry kk hT hS).same (same_upd hp)) .nil)⟩
    obtain ⟨o, q⟩ := dm' p z
    rw [hp] at q; cases q
theorem it_range {K : PySem.W.Frag} {Hs : Hp} {S : List Addr} {bo : Bool} (lo : Int) (n : Nat) : ItOk K (Itr lo n) Hs S bo ((List.range n).map fun (k : Nat) => D.int (lo + (k : Int))) := by
  intro T hT hb i H kk
  refine ⟨fun hi => (by have hi' : n ≤ i := (by simpa using hi); exact hi'), fun d hd => ?_⟩
  rw [List.getElem?_map] at hd
  cases q : (List.range n)[i]? with
  | none => rw [q] at hd; cases hd
  | some j =>
    rw [q] at hd
    cases hd
    have hlt : i < n := by
      have := (List.getElem?_eq_some_iff.mp q).1
      simpa using this
    have hj : j = i := by
      rw [List.getElem?_range hlt] at q
      cases q
      rfl
    subst hj
    refine ⟨hlt, fun x H' hy => ?_⟩
    obtain ⟨rfl, rfl⟩ := hy
    exact ⟨Same.refl _, fun S' _ _ => by unfold Rp; rfl⟩
def rangeOk (i j : Int) : Bool := decide (-(2 ^ 62) ≤ i) && decide (i < 2 ^ 62) && decide (-(2 ^ 62) ≤ j) && decide (j < 2 ^ 62) && decide (j - i ≤ 100000)
def isTup : Expr → Bool
  | .Tuple .. => true
  | _ => false
def fIt (c : Cz) (f : Expr → Ro → Option (Kd × D)) (tg iter : Expr) (ρ : Ro) : Option (Bool × List D) :=
  match iter with
  | .Call (.Name x _) [a] [] _ =>
    if x = "range" then (if glB c.sc "range" && noStar a then (match f a ρ with | some (_, .int j) => if rangeOk 0 j then some (false, (List.range j.toNat).map fun (k : Nat) => D.int (0 + (k : Int))) else none | _ => none) else none)
    else if x = "enumerate" then (if glB c.sc "enumerate" && noStar a && isTup tg then (match f a ρ with | some kd => (match seqOf kd with | some (bo, ds) => some (bo, ds.mapIdx fun i d => D.tup [.int i, d]) | none => none) | none => none) else none)
    else (match f iter ρ with | some kd => itOf kd | none => none)
  | .Call (.Name x _) [a, b] [] _ =>
    if x = "range" then (if glB c.sc "range" && noStar a && noStar b then (match f a ρ, f b ρ with | some (_, .int i), some (_, .int j) => if rangeOk i j then some (false, (List.range (j - i).toNat).map fun (k : Nat) => D.int (i + (k : Int))) else none | _, _ => none) else none)
    else (match f iter ρ with | some kd => itOf kd | none => none)
  | _ => (match f iter ρ with | some kd => itOf kd | none => none)
theorem s_itL {f : Expr → Ro → Option (Kd × D)} (hf : ∀ e, SndE X (f e) e) {tg iter : Expr} {ρ : Ro} {bo : Bool} {ds : List D} (h : (match f iter ρ with | some kd => itOf kd | none => none) = some (bo, ds)) {S : List Addr} {σ : St} {H : Hp} {R : It → Hp → Prop} (se : SE X.K ρ σ H S)
    (q : ∀ J H1, Same H H1 → ItOk X.K J H1 S bo ds → R J H1) : wI X tg iter σ H R := by
  cases e : f iter ρ with
  | none => rw [e] at h; cases h
  | some kd =>
    rw [e] at h
    obtain ⟨k, d⟩ := kd
    by_cases ht : ∃ ds', d = .tup ds'
    · obtain ⟨ds', rfl⟩ := ht
      cases h
      refine pi_le (pi_tup pe_w) (hf iter ρ k _ e S σ H _ se fun v H1 s1 r1 => ?_)
      obtain ⟨a, rfl, h1, h2⟩ := it_tup r1
      exact ⟨a, rfl, h1, q _ H1 s1 h2⟩
    · have h' : seqOf (k, d) = some (bo, ds) := by
        cases d with
        | tup ds' => exact absurd ⟨ds', rfl⟩ ht
        | _ => exact h
      refine pi_le (pi_list pe_w) (hf iter ρ k d e S σ H _ se fun v H1 s1 r1 => ?_)
      obtain ⟨a, rfl, h1, h2⟩ := it_list se.dom r1 h'
      exact ⟨a, rfl, h1, q _ H1 s1 h2⟩
theorem s_it (O : CxOk X Γ c) {f : Expr → Ro → Option (Kd × D)} (hf : ∀ e, SndE X (f e) e) (tg iter : Expr) : SndI X (fIt c f tg iter) tg iter := by
  intro ρ bo ds h S σ H R se q
  unfold fIt at h
  split at h
  · rename_i x p a pos
    split at h
    · rename_i hx
      subst hx
      split at h
      · rename_i hg
        simp only [Bool.and_eq_true] at hg
        split at h
        · rename_i ka j ea
          split at h
          · rename_i hr
            simp only [rangeOk, Bool.and_eq_true, decide_eq_true_eq] at hr
            cases h
            refine pi_le (pi_range1 (gl_of O hg.1) (O.tab.bl _ (by simp)) (pa_cons pe_w pa_nil (star_of hg.2)) (star_of hg.2)) (hf a ρ _ _ ea S σ H _ se fun v H1 s1 r1 => ?_)
            obtain rfl := r1.top.int
            exact ⟨j, rfl, hr.1.1.2, hr.1.2, q _ H1 s1 (it_range 0 _)⟩
          · cases h
        · cases h
      · cases h
    · split at h
      · rename_i hx
        subst hx
        split at h
        · rename_i hg
          simp only [Bool.and_eq_true] at hg
          split at h
          · rename_i kd ea
            split at h
            · rename_i bo' ds' hs
              cases h
              obtain ⟨k, d⟩ := kd
              cases tg with
              | Tuple es kk tp =>
                refine pi_le (pi_enum (gl_of O hg.1.1) (O.tab.bl _ (by simp)) (pa_cons pe_w pa_nil (star_of hg.1.2)) (star_of hg.1.2)) (hf a ρ _ _ ea S σ H _ se fun v H1 s1 r1 => ?_)
                obtain ⟨l, rfl, h1, h2⟩ := it_enum se.dom r1 hs
                exact ⟨l, rfl, h1, q _ H1 s1 h2⟩
              | _ => exact absurd hg.2 (by simp [isTup])
            · cases h
          · cases h
        · cases h
      · exact s_itL hf h se q
  · rename_i x p a b pos
    split at h
    · rename_i hx
      subst hx
      split at h
      · rename_i hg
        simp only [Bool.and_eq_true] at hg
        split at h
        · rename_i ka i kb j ea eb
          split at h
          · rename_i hr
            simp only [rangeOk, Bool.and_eq_true, decide_eq_true_eq] at hr
            cases h
            refine pi_le (pi_range2 (gl_of O hg.1.1) (O.tab.bl _ (by simp)) (pa_cons pe_w (pa_cons pe_w pa_nil (star_of hg.2)) (star_of hg.1.2)) (by rw [star_of hg.1.2, star_of hg.2]; rfl) (star_of hg.2)) ?_
            refine two (hf a) (hf b) ea eb se fun x y H1 s1 rx ry => ?_
            obtain rfl := rx.top.int
            obtain rfl := ry.top.int
            exact ⟨i, j, rfl, ⟨hr.1.1.1.1, hr.1.1.1.2, hr.1.1.2, hr.1.2⟩, q _ H1 s1 (it_range i _)⟩
          · cases h
        · cases h
      · cases h
    · exact s_itL hf h se q
  · exact s_itL hf h se q

/-! ### targets -/
def tgts (c : Cz) : Expr → D → Option (List (Nat × D))
  | .Name x _, d => if locB c x then (ixOf x c.N).map fun i => [(i, d)] else none
  | .Tuple [.Name x _, .Name y _] _ _, .tup [d, e] => if locB c x && locB c y then (match ixOf x c.N, ixOf y c.N with | some i, some j => some [(i, d), (j, e)] | _, _ => none) else none
  | _, _ => none
def setAll : List (Nat × D) → Ro → Ro
  | [], ρ => ρ
  | (i, d) :: r, ρ => setAll r (ρ.set i (some (.sh d)))
def noneAt (ps : List (Nat × D)) (ρ : Ro) : Prop := ∀ p ∈ ps, ∀ sl, ρ[p.1]? ≠ some (some sl)
theorem loc_of (O : CxOk X Γ c) {x : Str} (h : locB c x = true) : Loc X.env.scope x ∧ (X.fn x = true ∨ X.env.scope.names.lookup x = some .local) := by
  rw [O.sc]
  simp only [locB, Bool.or_eq_true, Bool.and_eq_true, beq_iff_eq] at h
  rcases h with h | h
  · exact ⟨.inl h, .inr h⟩
  · exact ⟨.inr h.2, .inl (O.fn h.1 x)⟩
theorem g_tgts (O : CxOk X Γ c) {tg : Expr} {d : D} {ps : List (Nat × D)} (h : tgts c tg d = some ps) : ∃ g : TG, PG X tg g ∧ ∀ (ρ ρ0 : Ro) (S : List Addr) (σ : St) (H : Hp) (v : V) (Q : St → Hp → Prop), SE X.K ρ σ H S → SE X.K ρ0 σ H S → noneAt ps ρ0 → Rp X.K H S d v →
    (∀ σ', SE X.K (setAll ps ρ) σ' H S → SE X.K ρ0 σ' H S → (∀ (j : Nat) sl, ρ0[j]? = some (some sl) → σ'[j]? = σ[j]?) → Q σ' H) → g v σ H Q := by
  unfold tgts at h
  split at h
  · rename_i d' x pos
    split at h
    · rename_i hl
      cases hi : ixOf x c.N with
      | none => rw [hi] at h; cases h
      | some i =>
        rw [hi] at h
        cases h
        have l := loc_of O hl
        refine ⟨_, pg_name (i := i) (by rw [O.N]; exact O.nd) (by rw [O.N]; exact ixOf_get hi) l.1 l.2, fun ρ ρ0 S σ H v Q se se0 hn r q => ?_⟩
        have ni := hn (i, d) (List.mem_singleton.mpr rfl)
        exact q _ (se.set i r) (se0.pass i ni) fun j sl e => List.getElem?_set_ne (fun z => ni sl (by rw [z]; exact e))
    · cases h
  · rename_i x px y py kk tp d e
    split at h
    · rename_i hl
      simp only [Bool.and_eq_true] at hl
      split at h
      · rename_i i j hi hj
        cases h
        have l1 := loc_of O hl.1
        have l2 := loc_of O hl.2
        refine ⟨_, pg_tup (n := 2) O.calm (pgs_cons (pg_name (i := i) (by rw [O.N]; exact O.nd) (by rw [O.N]; exact ixOf_get hi) l1.1 l1.2) (pgs_cons (pg_name (i := j) (by rw [O.N]; exact O.nd) (by rw [O.N]; exact ixOf_get hj) l2.1 l2.2) pgs_nil)), fun ρ ρ0 S σ H v Q se se0 hn r q => ?_⟩
        unfold Rp at r
        obtain ⟨a, xs, rfl, _, g, r⟩ := r
        unfold RpL at r
        obtain ⟨u, us, rfl, r1, r2⟩ := r
        unfold RpL at r2
        obtain ⟨w, ws, rfl, r2, r3⟩ := r2
        unfold RpL at r3
        subst r3
        refine ⟨a, _, rfl, .of g, rfl, u, [w], rfl, w, [], rfl, rfl, ?_⟩
        have ni := hn (i, d) (by simp)
        have nj := hn (j, e) (by simp)
        exact q _ ((se.set i r1).set j r2) ((se0.pass i ni).pass j nj) fun l sl q' => (List.getElem?_set_ne (fun z => nj sl (by rw [z]; exact q'))).trans (List.getElem?_set_ne (fun z => ni sl (by rw [z]; exact q')))
      · cases h
    · cases h
  · cases h
end
end G
set_option Elab.async false
set_option linter.all false
set_option maxRecDepth 100000
set_option maxHeartbeats 4000000
set_option autoImplicit false
namespace G
open PySem PySem.Spec L2

/-! ### a comprehension as a node -/
def relS (scope sc : Scope) : Scope :=
  { scope with names := scope.names.map fun (n, k) => if (k == .free && sc.kind == .function && sc.names.lookup n == some .cell) then (n, .cell) else (n, k) }
theorem relS_ok {scope : Scope} {env : Env} {sc : Scope} (h : env.scope = sc) : relabel scope env = relS scope sc := by
  subst h
  rfl
def capOf (c : Cz) (scope : Scope) : List (Option Nat) := scope.names.map fun (x, k) => if k = .free then ixOf x c.N else none
def namesOf (scope : Scope) : List Str := scope.names.map (·.1)
def compChk (c : Cz) (scope : Scope) : Bool :=
  scope.kind == .function && decide (namesOf scope).Nodup && scope.names.all fun (x, k) => k != .cell && (k != .free || c.sc.names.lookup x == some .cell || c.sc.names.lookup x == some .free)
theorem lookup_nodup : ∀ {l : List (Str × NameKind)} {x : Str} {k : NameKind}, (l.map (·.1)).Nodup → (x, k) ∈ l → l.lookup x = some k
  | (y, j) :: r, x, k, hn, hm => by
    rw [List.lookup_cons]
    rw [List.map_cons, List.nodup_cons] at hn
    rcases List.mem_cons.mp hm with e | hm
    · cases e
      simp
    · have : x ≠ y := fun z => hn.1 (by rw [← z]; exact List.mem_map.mpr ⟨(x, k), hm, rfl⟩)
      have e : (x == y) = false := by simpa using this
      rw [e]
      exact lookup_nodup hn.2 hm
theorem compChk_ok {X : Cx} {Γ : Tab} {c : Cz} {scope : Scope} (O : CxOk X Γ c) (h : compChk c scope = true) : CompOk X (namesOf scope) scope (capOf c scope) := by
  simp only [compChk, Bool.and_eq_true, decide_eq_true_eq, List.all_eq_true, beq_iff_eq] at h
  obtain ⟨⟨h1, h2⟩, h3⟩ := h
  have hk : ∀ x, X.env.kindOf x = c.sc.names.lookup x := fun x => by show X.env.scope.names.lookup x = _; rw [O.sc]
  have free : ∀ y ∈ scope.names, y.2 = .free → X.env.kindOf y.1 = some .cell ∨ X.env.kindOf y.1 = some .free := fun y hy e => by
    have := (h3 y hy).2
    simp only [Bool.or_eq_true, bne_iff_ne, beq_iff_eq] at this
    rw [hk]
    rcases this with (z | z) | z
    · exact absurd e z
    · exact .inl z
    · exact .inr z
  refine ⟨h1, fun y hy e => ?_, fun y hy e => ?_, free, by simp [capOf, namesOf], fun j i x hj hc => ?_⟩
  · have := (h3 y hy).1
    simp only [bne_iff_ne] at this
    exact this e
  · obtain ⟨x, k⟩ := y
    have e' : k = .local := e
    subst e'
    exact lookup_nodup h2 hy
  · unfold namesOf at hj
    unfold capOf at hc
    rw [List.getElem?_map] at hj hc
    cases q : scope.names[j]? with
    | none => rw [q] at hj; cases hj
    | some y =>
      rw [q] at hj hc
      obtain ⟨y, k⟩ := y
      cases hj
      have hc' : (if k = .free then ixOf y c.N else none) = some i := by simpa using hc
      split at hc'
      · rename_i e
        subst e
        have hm := List.mem_of_getElem? q
        exact ⟨by rw [O.N]; exact ixOf_get hc', lookup_nodup h2 hm, free _ hm rfl⟩
      · cases hc'
theorem cx_comp {X : Cx} {Γ : Tab} {c : Cz} {scope : Scope} (O : CxOk X Γ c) (h : compChk c scope = true) (C : Addr) (s : Shared) (H : Hp) (ex : List Addr) : CxOk (compX X (namesOf scope) scope C s H ex) Γ ⟨relS scope c.sc, namesOf scope, false⟩ := by
  simp only [compChk, Bool.and_eq_true, decide_eq_true_eq] at h
  refine ⟨relS_ok O.sc, rfl, fun z => (by cases z), O.calm, h.1.2, ⟨O.tab.fn, O.tab.bl, O.tab.units, O.tab.cst⟩⟩
def capRo (ρ : Ro) (cap : List (Option Nat)) : Ro := cap.map fun o => o.bind fun i => (ρ[i]?).join
theorem SE.cap {K : PySem.W.Frag} {ρ : Ro} {σ : St} {H : Hp} {S : List Addr} (h : SE K ρ σ H S) (cap : List (Option Nat)) : SE K (capRo ρ cap) (capSt σ cap) H S := by
  refine ⟨fun j sl e => ?_, h.dom, by simp [capRo, capSt]⟩
  unfold capRo at e
  unfold capSt
  rw [List.getElem?_map] at e ⊢
  cases q : cap[j]? with
  | none => rw [q] at e; cases e
  | some o =>
    rw [q] at e
    cases o with
    | none => cases e
    | some i =>
      have e' : (ρ[i]?).join = some sl := by simpa using e
      have e2 : ρ[i]? = some (some sl) := by
        cases z : ρ[i]? with
        | none => rw [z] at e'; cases e'
        | some w => rw [z] at e'; have : w = some sl := e'; rw [this]
      obtain ⟨v, g1, g2⟩ := h.slot i sl e2
      refine ⟨v, ?_, g2⟩
      simp [g1]
def evMap (f : D → Option (Kd × D)) : List D → Option (List D)
  | [] => some []
  | d :: ds => match f d, evMap f ds with
    | some (k, y), some ys => if k = .bo then none else some (y :: ys)
    | _, _ => none
theorem evMap_get {f : D → Option (Kd × D)} : ∀ {ds ys : List D}, evMap f ds = some ys → ys.length = ds.length ∧ ∀ (i : Nat) d, ds[i]? = some d → ∃ k y, f d = some (k, y) ∧ k ≠ .bo ∧ ys[i]? = some y
  | [], ys, h => by cases h; exact ⟨rfl, fun i d e => by simp at e⟩
  | d :: ds, ys, h => by
    unfold evMap at h
    split at h
    · rename_i k y ys' e1 e2
      split at h
      · cases h
      · rename_i hk
        cases h
        obtain ⟨l, g⟩ := evMap_get e2
        refine ⟨by simp [l], fun i d' e => ?_⟩
        cases i with
        | zero => simp at e; subst e; exact ⟨k, y, e1, hk, rfl⟩
        | succ i => exact g i d' (by simpa using e)
    · cases h
/-- the element at d: the target's names are set, the element reckoned -/
def fElt (c' : Cz) (fe : Ro → Option (Kd × D)) (tg : Expr) (ρ0 : Ro) (d : D) : Option (Kd × D) :=
  match tgts c' tg d with
  | some ps => if ps.all (fun p => match ρ0[p.1]? with | some none => true | _ => false) then fe (setAll ps ρ0) else none
  | none => none
def fComp (c : Cz) (f : Expr → Ro → Option (Kd × D)) (fe : Cz → Expr → Ro → Option (Kd × D)) (elt tg iter : Expr) (scope : Scope) (ρ : Ro) : Option (Kd × D) :=
  if compChk c scope then
    match fIt c f tg iter ρ with
    | some (_, ds) => if ds.length ≤ 100000 then (match evMap (fElt ⟨relS scope c.sc, namesOf scope, false⟩ (fe ⟨relS scope c.sc, namesOf scope, false⟩ elt) tg (capRo ρ (capOf c scope))) ds with | some ys => some (.fr, .lst ys) | none => none) else none
    | none => none
  else none
end G
set_option Elab.async false
set_option linter.all false
set_option maxRecDepth 100000
set_option maxHeartbeats 4000000
set_option autoImplicit false
namespace G
open PySem PySem.Spec L2
section
variable {X : Cx} {Γ : Tab} {c : Cz}
theorem pg_le {tg : Expr} {t : TG} (p : PG X tg t) {v : V} {σ : St} {H : Hp} {Q : St → Hp → Prop} (h : t v σ H Q) : wG X tg v σ H Q := fun pins s u I r => p pins s σ H v u Q I r h
theorem pg_w {tg : Expr} : PG X tg (wG X tg) := fun pins s σ H v u Q I r h => h pins s u I r
theorem SE.hide {K : PySem.W.Frag} {ρ : Ro} {σ : St} {H : Hp} {S : List Addr} {p : Addr} {o : HO} (h : SE K ρ σ H S) (hp : H p = none) : SE K ρ σ (upd H p o) (p :: S) := by
  refine ⟨fun i sl e => ?_, fun a ha => ?_, h.len⟩
  · obtain ⟨v, e1, e2⟩ := h.slot i sl e
    refine ⟨v, e1, ?_⟩
    cases sl with
    | sh d => exact (Rp.fresh hp e2).same (same_upd hp)
    | ow ds =>
      obtain ⟨a, xs, e, g, r⟩ := e2
      exact ⟨a, xs, e, same_upd hp _ _ g, (r.fresh hp).same (same_upd hp)⟩
    | lk ds =>
      obtain ⟨a, xs, e, g, r⟩ := e2
      exact ⟨a, xs, e, same_upd hp _ _ g, (r.fresh hp).same (same_upd hp)⟩
  · rcases List.mem_cons.mp ha with rfl | ha
    · exact ⟨o, upd_same⟩
    · obtain ⟨o', q⟩ := h.dom a ha
      exact ⟨o', same_upd hp _ _ q⟩
/-- an object that nothing stands on is changed: the slots hold no borrowed list at it -/
theorem SE.put {K : PySem.W.Frag} {ρ : Ro} {σ : St} {H : Hp} {S : List Addr} {p : Addr} {o : HO} (h : SE K ρ σ H S) (hp : p ∈ S) (hn : ∀ (i : Nat) sl, ρ[i]? = some (some sl) → (slKd sl).1 = .bo → σ[i]? ≠ some (some (.ref p))) : SE K ρ σ (upd H p o) S := by
  have kk : ∀ b u, b ∉ S → H b = some u → upd H p o b = some u := fun b u n q => by
    rw [upd_ne (fun z => n (by rw [z]; exact hp))]
    exact q
  refine ⟨fun i sl e => ?_, fun a ha => ?_, h.len⟩
  · obtain ⟨v, e1, e2⟩ := h.slot i sl e
    refine ⟨v, e1, ?_⟩
    cases sl with
    | sh d => exact Rp.keep kk e2
    | ow ds =>
      obtain ⟨a, xs, rfl, g, r⟩ := e2
      have ne : a ≠ p := fun z => hn i _ e rfl (by rw [e1, z])
      exact ⟨a, xs, rfl, by rw [upd_ne ne]; exact g, RpL.keep kk r⟩
    | lk ds =>
      obtain ⟨a, xs, rfl, g, r⟩ := e2
      have ne : a ≠ p := fun z => hn i _ e rfl (by rw [e1, z])
      exact ⟨a, xs, rfl, by rw [upd_ne ne]; exact g, RpL.keep kk r⟩
  · by_cases z : a = p
    · exact ⟨o, by rw [z]; exact upd_same⟩
    · obtain ⟨o', q⟩ := h.dom a ha
      exact ⟨o', by rw [upd_ne z]; exact q⟩
theorem comp_t (O : CxOk X Γ c) {f : Expr → Ro → Option (Kd × D)} (hf : ∀ e, SndE X (f e) e) {fe : Cz → Expr → Ro → Option (Kd × D)} {elt tg iter : Expr} {scope : Scope} (hfe : ∀ X' c', CxOk X' Γ c' → SndE X' (fe c' elt) elt)
    {ρ : Ro} {k : Kd} {d : D} (h : fComp c f fe elt tg iter scope ρ = some (k, d)) {S : List Addr} {σ : St} {H : Hp} {Q : VK} (se : SE X.K ρ σ H S) (q : ∀ v H', Same H H' → VR X.K H H' S k d v → Q v H') :
    compChk c scope = true ∧ tComp (wI X tg iter) (fun v σ H Q => ∀ C s H0 ex, wG (compX X (namesOf scope) scope C s H0 ex) tg v σ H Q) (fun σ H Q => ∀ C s H0 ex, wE (compX X (namesOf scope) scope C s H0 ex) elt σ H Q) (capOf c scope) σ H Q := by
  unfold fComp at h
  split at h
  · rename_i hck
    split at h
    · rename_i bo ds hit
      split at h
      · rename_i hlen
        split at h
        · rename_i ys hm
          cases h
          obtain ⟨hyl, hget⟩ := evMap_get hm
          have CO := cx_comp O hck
          refine ⟨hck, ?_⟩
          refine s_it O hf tg iter ρ bo ds hit S σ H _ se fun J H1 s1 jt D hD => ?_
          have se1 := ((se.same s1).cap (capOf c scope)).hide (o := .lst []) hD
          have jt' := jt [] (fun _ z => by cases z) (fun _ => rfl)
          refine ⟨fun i m σ' H' => m = ds.length - i ∧ i ≤ ds.length ∧ SE X.K (capRo ρ (capOf c scope)) σ' H' (D :: S) ∧ (∀ b o, H1 b = some o → H' b = some o) ∧ (∀ (j : Nat) sl, (capRo ρ (capOf c scope))[j]? = some (some sl) → (slKd sl).1 = .bo → σ'[j]? ≠ some (some (.ref D))) ∧ ∃ us, H' D = some (.lst us) ∧ RpL X.K H' (D :: S) (ys.take i) us,
            ⟨ds.length, by simp, Nat.zero_le _, se1, fun b o e => same_upd hD _ _ e, fun j sl e hk z => ?_, [], upd_same, by simpa using RpL.nil⟩, ?_⟩
          · obtain ⟨v, e1, e2⟩ := ((se.same s1).cap (capOf c scope)).slot j _ e
            rw [z] at e1
            cases e1
            cases sl with
            | sh d => cases hk
            | ow ds =>
              obtain ⟨a, xs, e2, g, _⟩ := e2
              cases e2
              rw [hD] at g
              cases g
            | lk ds =>
              obtain ⟨a, xs, e2, g, _⟩ := e2
              cases e2
              rw [hD] at g
              cases g
          rintro i m σ' H' ⟨rfl, hi, se', kk, hno, us, gD, rr⟩
          obtain ⟨j1, j2⟩ := jt' i H' (fun b o _ e => kk b o e)
          by_cases hlt : i < ds.length
          · have hd : ds[i]? = some ds[i] := List.getElem?_eq_getElem hlt
            obtain ⟨go, yl⟩ := j2 _ hd
            refine .inr ⟨go, fun x H2 hy C s0 H0 ex => ?_⟩
            obtain ⟨s2, hx⟩ := yl x H2 hy
            have rx := hx (D :: S) (fun b o e z => by
              rcases List.mem_cons.mp z with rfl | z
              · rw [hD] at e; cases e
              · exact z) se'.dom
            obtain ⟨ky, y, e1, hk, e2⟩ := hget i _ hd
            unfold fElt at e1
            split at e1
            · rename_i ps hps
              split at e1
              · rename_i hall
                have hno' : noneAt ps (capRo ρ (capOf c scope)) := fun p hp sl e => by
                  have := List.all_eq_true.mp hall p hp
                  rw [e] at this
                  cases this
                obtain ⟨g, pg, hg⟩ := g_tgts (CO C s0 H0 ex) hps
                refine pg_le pg (hg _ _ (D :: S) σ' H2 x _ (se'.same s2) (se'.same s2) hno' rx fun σ2 t1 t2 t3 C' s0' H0' ex' => ?_)
                refine hfe _ _ (CO C' s0' H0' ex') _ ky y e1 (D :: S) σ2 H2 _ t1 fun vy H4 s4 r4 => ?_
                have hno2 : ∀ (j : Nat) sl, (capRo ρ (capOf c scope))[j]? = some (some sl) → (slKd sl).1 = .bo → σ2[j]? ≠ some (some (.ref D)) := fun j sl e hb z => hno j sl e hb ((t3 j _ e).symm.trans z)
                have gD4 : H4 D = some (.lst us) := s4 _ _ (s2 _ _ gD)
                have ry : Rp X.K H4 (D :: S) y vy := r4.rp t1.dom hk
                have rus : RpL X.K H4 (D :: S) (ys.take i) us := (rr.same s2).same s4
                have hul : us.length = i := by rw [rus.len, List.length_take, hyl]; omega
                refine ⟨us, gD4, by rw [hul]; exact Nat.lt_of_lt_of_le hlt (size_small hlen), ds.length - (i + 1), by omega, rfl, hlt, ?_, fun b o e => ?_, ?_, us ++ [vy], upd_same, ?_⟩
                · exact (t2.same s4).put List.mem_cons_self hno2
                · have : b ≠ D := fun z => by rw [z, hD] at e; cases e
                  rw [upd_ne this]
                  exact s4 _ _ (s2 _ _ (kk b o e))
                · exact hno2
                · have e3 : ys.take (i + 1) = ys.take i ++ [y] := by rw [List.take_add_one, e2]; rfl
                  rw [e3]
                  have kk2 : ∀ b u, b ∉ (D :: S) → H4 b = some u → upd H4 D (.lst (us ++ [vy])) b = some u := fun b u n e => by
                    rw [upd_ne (fun z => n (by rw [z]; exact List.mem_cons_self))]
                    exact e
                  exact (RpL.keep kk2 rus).append (.cons (Rp.keep kk2 ry) .nil)
              · cases e1
            · cases e1
          · have e : i = ds.length := by omega
            subst e
            refine .inl ⟨j1 (Nat.le_refl _), q _ H' (fun b o e => kk b o (s1 _ _ e)) ⟨D, us, rfl, s1.free hD, gD, ?_⟩⟩
            rw [List.take_of_length_le (by rw [hyl]; exact Nat.le_refl _)] at rr
            exact rr
        · cases h
      · cases h
    · cases h
  · cases h
theorem s_comp (O : CxOk X Γ c) {f : Expr → Ro → Option (Kd × D)} (hf : ∀ e, SndE X (f e) e) {fe : Cz → Expr → Ro → Option (Kd × D)} {elt tg iter : Expr} {scope : Scope} {pos : Pos} (hfe : ∀ X' c', CxOk X' Γ c' → SndE X' (fe c' elt) elt)
    (hs : ∀ x, foldedSetIterable iter X.env x = pure x) : SndE X (fComp c f fe elt tg iter scope) (.ListComp elt [⟨tg, iter, [], 0⟩] scope pos) := by
  intro ρ k d h S σ H Q se q
  obtain ⟨hck, ht⟩ := comp_t O hf hfe h se q
  exact pe_le (pe_comp (N' := namesOf scope) (cap := capOf c scope) O.calm (compChk_ok O hck) pi_w
    (fun C s H0 ex pins s' σ' H' v u Q' I r hh => pg_w pins s' σ' H' v u Q' I r (hh C s H0 ex)) (fun C s H0 ex pins s' σ' H' Q' I hh => hh C s H0 ex pins s' I) hs) ht
end
end G
set_option Elab.async false
set_option linter.all false
set_option maxRecDepth 100000
set_option maxHeartbeats 4000000
set_option autoImplicit false
namespace G
open PySem PySem.Spec L2
def notSet : Expr → Bool
  | .Set .. => false
  | _ => true
theorem notSet_ok {e : Expr} {env : Env} (h : notSet e = true) (x : Value) : foldedSetIterable e env x = pure x := by
  cases e <;> first | rfl | cases h
end G
set_option Elab.async false
set_option linter.all false
set_option maxRecDepth 100000
set_option maxHeartbeats 4000000
set_option autoImplicit false
namespace G
open PySem PySem.Spec L2
/-! ### statements: owned lists -/
inductive Res where
  | nx (ρ : Ro) | rt (k : Kd) (d : D) | ct (ρ : Ro) | bk (ρ : Ro)
structure SR (K : PySem.W.Frag) (He : Hp) (S0 : List Addr) (σL : St) (ρ : Ro) (σ : St) (H : Hp) (O : List Addr) : Prop where
  se : SE K ρ σ H (O ++ S0)
  own : ∀ (i : Nat) ds, ρ[i]? = some (some (.ow ds)) → ∃ a, σ[i]? = some (some (.ref a)) ∧ a ∈ O
  inj : ∀ (i j : Nat) ds es a, ρ[i]? = some (some (.ow ds)) → ρ[j]? = some (some (.ow es)) → σ[i]? = some (some (.ref a)) → σ[j]? = some (some (.ref a)) → i = j
  inc : Same He H
  ent : ∀ b ∈ O, He b = none
  lkv : ∀ (i : Nat) ds, ρ[i]? = some (some (.lk ds)) → σ[i]? = σL[i]?
  lko : ∀ (i : Nat) ds a, ρ[i]? = some (some (.lk ds)) → σ[i]? = some (some (.ref a)) → a ∉ O
  dis : ∀ b ∈ O, b ∉ S0
structure FrO (O : List Addr) (H H' : Hp) (O' : List Addr) : Prop where
  keep : ∀ b o, b ∉ O → H b = some o → H' b = some o
  own : ∀ b ∈ O', b ∈ O ∨ H b = none
theorem FrO.refl (O : List Addr) (H : Hp) : FrO O H H O := ⟨fun _ _ _ e => e, fun _ h => .inl h⟩
theorem FrO.same {O : List Addr} {H H' : Hp} (s : Same H H') : FrO O H H' O := ⟨fun b o _ e => s b o e, fun _ h => .inl h⟩
theorem FrO.trans {O O1 O2 : List Addr} {H H1 H2 : Hp} (a : FrO O H H1 O1) (b : FrO O1 H1 H2 O2) : FrO O H H2 O2 := by
  refine ⟨fun x o n e => b.keep x o (fun z => ?_) (a.keep x o n e), fun x hx => ?_⟩
  · rcases a.own x z with z | z
    · exact n z
    · rw [z] at e; cases e
  · rcases b.own x hx with z | z
    · exact a.own x z
    · by_cases hO : x ∈ O
      · exact .inl hO
      · cases q : H x with
        | none => exact .inr rfl
        | some o => rw [a.keep x o hO q] at z; cases z
def EndOk (K : PySem.W.Frag) (He : Hp) (S0 : List Addr) (σL : St) (O : List Addr) (H : Hp) (Dn : Ends) : Res → Prop
  | .nx ρ' => ∀ σ' H' O', SR K He S0 σL ρ' σ' H' O' → FrO O H H' O' → Dn.nx σ' H'
  | .rt k d => ∀ v H', Same He H' → VR K He H' S0 k d v → Dn.rt v H'
  | .ct ρ' => ∀ σ' H' O', SR K He S0 σL ρ' σ' H' O' → FrO O H H' O' → Dn.ct σ' H'
  | .bk ρ' => ∀ σ' H' O', SR K He S0 σL ρ' σ' H' O' → FrO O H H' O' → Dn.bk σ' H'
def wSs (X : Cx) (st : List Stmt) : TS := fun Dn σ H => ∀ pins s, Inv X pins σ H s → wpAny (model X.prog X.w) X.A (execs st X.env) (SP X pins Dn) X.xe s
def wSt (X : Cx) (st : Stmt) : TS := fun Dn σ H => ∀ pins s, Inv X pins σ H s → wpAny (model X.prog X.w) X.A (exec st X.env) (SP X pins Dn) X.xe s
theorem pss_w {X : Cx} {st : List Stmt} : PSs X st (wSs X st) := fun pins s σ H D I h => h pins s I
theorem ps_w {X : Cx} {st : Stmt} : PS X st (wSt X st) := fun pins s σ H D I h => h pins s I
theorem ps_le {X : Cx} {st : Stmt} {t : TS} (p : PS X st t) {Dn : Ends} {σ : St} {H : Hp} (h : t Dn σ H) : wSt X st Dn σ H := fun pins s I => p pins s σ H Dn I h
theorem pss_le {X : Cx} {st : List Stmt} {t : TS} (p : PSs X st t) {Dn : Ends} {σ : St} {H : Hp} (h : t Dn σ H) : wSs X st Dn σ H := fun pins s I => p pins s σ H Dn I h
def SndS (X : Cx) (f : Ro → Option Res) (st : Stmt) : Prop := ∀ ρ r, f ρ = some r → ∀ He S0 σL σ H O Dn, SR X.K He S0 σL ρ σ H O → EndOk X.K He S0 σL O H Dn r → wSt X st Dn σ H
def SndB (X : Cx) (f : Ro → Option Res) (st : List Stmt) : Prop := ∀ ρ r, f ρ = some r → ∀ He S0 σL σ H O Dn, SR X.K He S0 σL ρ σ H O → EndOk X.K He S0 σL O H Dn r → wSs X st Dn σ H
section
variable {X : Cx} {Γ : Tab} {c : Cz} {K : PySem.W.Frag} {He H H' : Hp} {S0 O : List Addr} {ρ : Ro} {σ σL : St}
theorem SR.same (h : SR K He S0 σL ρ σ H O) (s : Same H H') : SR K He S0 σL ρ σ H' O := ⟨h.se.same s, h.own, h.inj, h.inc.trans s, h.ent, h.lkv, h.lko, h.dis⟩
theorem get_set {α : Type} {l : List α} {i j : Nat} {a b : α} (h : (l.set i a)[j]? = some b) : (j = i ∧ i < l.length ∧ b = a) ∨ (j ≠ i ∧ l[j]? = some b) := by
  by_cases e : j = i
  · subst e
    have hl : j < l.length := by
      have := (List.getElem?_eq_some_iff.mp h).1
      simpa using this
    rw [List.getElem?_set_self hl] at h
    cases h
    exact .inl ⟨rfl, hl, rfl⟩
  · rw [List.getElem?_set_ne (Ne.symm e)] at h
    exact .inr ⟨e, h⟩
/-- a shared value into a slot -/
theorem SR.setSh (h : SR K He S0 σL ρ σ H O) (i : Nat) {d : D} {v : V} (r : Rp K H (O ++ S0) d v) : SR K He S0 σL (ρ.set i (some (.sh d))) (σ.set i (some v)) H O := by
  refine ⟨h.se.set i r, fun j ds e => ?_, fun j l ds es a e1 e2 g1 g2 => ?_, h.inc, h.ent, fun j ds e => ?_, fun j ds a e g => ?_, h.dis⟩
  · rcases get_set e with ⟨_, _, z⟩ | ⟨n, e⟩
    · cases z
    · rw [List.getElem?_set_ne (Ne.symm n)]
      exact h.own j ds e
  · rcases get_set e1 with ⟨_, _, z⟩ | ⟨n1, e1⟩
    · cases z
    · rcases get_set e2 with ⟨_, _, z⟩ | ⟨n2, e2⟩
      · cases z
      · rw [List.getElem?_set_ne (Ne.symm n1)] at g1
        rw [List.getElem?_set_ne (Ne.symm n2)] at g2
        exact h.inj j l ds es a e1 e2 g1 g2
  · rcases get_set e with ⟨_, _, z⟩ | ⟨n, e⟩
    · cases z
    · rw [List.getElem?_set_ne (Ne.symm n)]
      exact h.lkv j ds e
  · rcases get_set e with ⟨_, _, z⟩ | ⟨n, e⟩
    · cases z
    · rw [List.getElem?_set_ne (Ne.symm n)] at g
      exact h.lko j ds a e g
/-- a new list into a slot -/
theorem SR.setOw (h : SR K He S0 σL ρ σ H O) (s : Same H H') (i : Nat) {ds : List D} {v : V} (r : VR K H H' (O ++ S0) .fr (.lst ds) v) : ∃ a, SR K He S0 σL (ρ.set i (some (.ow ds))) (σ.set i (some v)) H' (a :: O) ∧ FrO O H H' (a :: O) := by
  obtain ⟨a, xs, rfl, hn, g, rr⟩ := r
  have ne : ∀ b o, H b = some o → b ≠ a := fun b o e z => by rw [z, hn] at e; cases e
  refine ⟨a, ⟨⟨fun j sl e => ?_, fun b hb => ?_, by simp [h.se.len]⟩, fun j es e => ?_, fun j l es fs b e1 e2 g1 g2 => ?_, h.inc.trans s, fun b hb => ?_, fun j es e => ?_, fun j es b e g1 => ?_, fun b hb z => ?_⟩, ⟨fun b o _ e => s b o e, fun b hb => ?_⟩⟩
  · rcases get_set e with ⟨rfl, hl, z⟩ | ⟨n, e⟩
    · cases z
      exact ⟨.ref a, List.getElem?_set_self (by rw [← h.se.len]; exact hl), a, xs, rfl, g, rr⟩
    · obtain ⟨v, e1, e2⟩ := h.se.slot j sl e
      refine ⟨v, by rw [List.getElem?_set_ne (Ne.symm n)]; exact e1, ?_⟩
      cases sl with
      | sh d => exact (Rp.fresh hn e2).same s
      | ow es =>
        obtain ⟨b, ys, e3, g3, r3⟩ := e2
        exact ⟨b, ys, e3, s _ _ g3, (r3.fresh hn).same s⟩
      | lk es =>
        obtain ⟨b, ys, e3, g3, r3⟩ := e2
        exact ⟨b, ys, e3, s _ _ g3, (r3.fresh hn).same s⟩
  · rcases List.mem_cons.mp hb with rfl | hb
    · exact ⟨_, g⟩
    · obtain ⟨o, q⟩ := h.se.dom b hb
      exact ⟨o, s _ _ q⟩
  · rcases get_set e with ⟨rfl, hl, z⟩ | ⟨n, e⟩
    · exact ⟨a, List.getElem?_set_self (by rw [← h.se.len]; exact hl), List.mem_cons_self⟩
    · obtain ⟨b, e1, e2⟩ := h.own j es e
      exact ⟨b, by rw [List.getElem?_set_ne (Ne.symm n)]; exact e1, List.mem_cons_of_mem _ e2⟩
  · have old : ∀ (j : Nat) es, j ≠ i → ρ[j]? = some (some (.ow es)) → (σ.set i (some (.ref a)))[j]? ≠ some (some (.ref a)) := fun j es n e z => by
      rw [List.getElem?_set_ne (Ne.symm n)] at z
      obtain ⟨b, e1, e2⟩ := h.own j es e
      rw [z] at e1
      cases e1
      obtain ⟨o, q⟩ := h.se.dom a (List.mem_append_left _ e2)
      rw [hn] at q; cases q
    rcases get_set e1 with ⟨y1, hl, z1⟩ | ⟨n1, f1⟩
    · rcases get_set e2 with ⟨y2, _, z2⟩ | ⟨n2, f2⟩
      · rw [y1, y2]
      · subst y1
        rw [List.getElem?_set_self (by rw [← h.se.len]; exact hl)] at g1
        cases g1
        exact absurd g2 (old l fs n2 f2)
    · rcases get_set e2 with ⟨y2, hl, z2⟩ | ⟨n2, f2⟩
      · subst y2
        rw [List.getElem?_set_self (by rw [← h.se.len]; exact hl)] at g2
        cases g2
        exact absurd g1 (old j es n1 f1)
      · rw [List.getElem?_set_ne (Ne.symm n1)] at g1
        rw [List.getElem?_set_ne (Ne.symm n2)] at g2
        exact h.inj j l es fs b f1 f2 g1 g2
  · rcases List.mem_cons.mp hb with rfl | hb
    · exact h.inc.free hn
    · exact h.ent b hb
  · rcases get_set e with ⟨_, _, z⟩ | ⟨n, e⟩
    · cases z
    · rw [List.getElem?_set_ne (Ne.symm n)]
      exact h.lkv j es e
  · rcases get_set e with ⟨_, _, z⟩ | ⟨n, e⟩
    · cases z
    · rw [List.getElem?_set_ne (Ne.symm n)] at g1
      intro z
      rcases List.mem_cons.mp z with rfl | z
      · obtain ⟨v, q1, b', ys, q2, q3, _⟩ := h.se.slot j _ e
        rw [g1] at q1
        cases q1
        cases q2
        rw [hn] at q3; cases q3
      · exact h.lko j es b e g1 z
  · rcases List.mem_cons.mp hb with rfl | hb
    · obtain ⟨o, q⟩ := h.se.dom b (List.mem_append_right _ z)
      rw [hn] at q; cases q
    · exact h.dis b hb z
  · rcases List.mem_cons.mp hb with rfl | hb
    · exact .inr hn
    · exact .inl hb
/-! ### assignment, return, if, blocks -/
def noComp : Expr → Bool
  | .ListComp .. | .SetComp .. | .DictComp .. => false
  | _ => true
theorem swap_ok {e : Expr} {t : Option Expr} {n : Nat} {env : Env} (h : noComp e = true) : swapsWith e t n env = pure false := by
  cases e <;> first | rfl | cases h
def fAsg (c : Cz) (f : Ro → Option (Kd × D)) (x : Str) (e : Expr) (ρ : Ro) : Option Res :=
  if locB c x && noComp e then
    match ixOf x c.N, f ρ with
    | some i, some (.sh, d) => some (.nx (ρ.set i (some (.sh d))))
    | some i, some (.fr, .lst ds) => some (.nx (ρ.set i (some (.ow ds))))
    | _, _ => none
  else none
theorem s_asg (O' : CxOk X Γ c) {f : Ro → Option (Kd × D)} {x : Str} {e : Expr} {p pos : Pos} (hf : SndE X f e) : SndS X (fAsg c f x e) (.Assign [.Name x p] e pos) := by
  intro ρ r h He S0 σL σ H O Dn sr q
  unfold fAsg at h
  split at h
  · rename_i hl
    simp only [Bool.and_eq_true] at hl
    have l := loc_of O' hl.1
    split at h
    · rename_i i d hi he
      cases h
      refine ps_le (ps_set (i := i) (by rw [O'.N]; exact O'.nd) (by rw [O'.N]; exact ixOf_get hi) l.1 pe_w (swap_ok hl.2) l.2) (hf ρ _ _ he _ σ H _ sr.se fun v H1 s1 r1 => ?_)
      exact q _ H1 O ((sr.same s1).setSh i r1) (FrO.same s1)
    · rename_i i ds hi he
      cases h
      refine ps_le (ps_set (i := i) (by rw [O'.N]; exact O'.nd) (by rw [O'.N]; exact ixOf_get hi) l.1 pe_w (swap_ok hl.2) l.2) (hf ρ _ _ he _ σ H _ sr.se fun v H1 s1 r1 => ?_)
      obtain ⟨a, h1, h2⟩ := sr.setOw s1 i r1
      exact q _ H1 (a :: O) h1 h2
    · cases h
  · cases h
/-- x = [.. for ..] -/
def fAsgC (c : Cz) (f : Ro → Option (Kd × D)) (x : Str) (ρ : Ro) : Option Res :=
  if locB c x then
    match ixOf x c.N, f ρ with
    | some i, some (.fr, .lst ds) => some (.nx (ρ.set i (some (.ow ds))))
    | _, _ => none
  else none
theorem swap_comp {elt tg iter : Expr} {scope : Scope} {cp p : Pos} {x : Str} {n : Nat} {env : Env} : ∃ b : Bool, swapsWith (.ListComp elt [⟨tg, iter, [], 0⟩] scope cp) (some (.Name x p)) n env = pure b := ⟨_, rfl⟩
theorem s_asgC (O' : CxOk X Γ c) {f : Expr → Ro → Option (Kd × D)} (hf : ∀ e, SndE X (f e) e) {fe : Cz → Expr → Ro → Option (Kd × D)} {elt tg iter : Expr} {scope : Scope} {cp p pos : Pos} {x : Str} (hfe : ∀ X' c', CxOk X' Γ c' → SndE X' (fe c' elt) elt)
    (hs : ∀ x, foldedSetIterable iter X.env x = pure x) : SndS X (fAsgC c (fComp c f fe elt tg iter scope) x) (.Assign [.Name x p] (.ListComp elt [⟨tg, iter, [], 0⟩] scope cp) pos) := by
  intro ρ r h He S0 σL σ H O Dn sr q
  unfold fAsgC at h
  split at h
  · rename_i hl
    have l := loc_of O' hl
    split at h
    · rename_i i ds hi he
      cases h
      obtain ⟨b, hb⟩ := swap_comp (elt := elt) (tg := tg) (iter := iter) (scope := scope) (cp := cp) (p := p) (x := x) (n := pos.line) (env := X.env)
      cases b with
      | false =>
        refine ps_le (ps_set (i := i) (by rw [O'.N]; exact O'.nd) (by rw [O'.N]; exact ixOf_get hi) l.1 pe_w hb l.2) (s_comp O' hf hfe hs ρ _ _ he _ σ H _ sr.se fun v H1 s1 r1 => ?_)
        obtain ⟨a, h1, h2⟩ := sr.setOw s1 i r1
        exact q _ H1 (a :: O) h1 h2
      | true =>
        obtain ⟨hck, ht⟩ := comp_t O' hf hfe he sr.se (Q := fun v H1 => gName i v σ H1 Dn.nx) fun v H1 s1 r1 => (by
          obtain ⟨a, h1, h2⟩ := sr.setOw s1 i r1
          exact q _ H1 (a :: O) h1 h2)
        exact ps_le (ps_setC (N' := namesOf scope) (cap := capOf c scope) O'.calm (compChk_ok O' hck) pi_w
          (fun C s H0 ex pins s' σ' H' v u Q' I r hh => pg_w pins s' σ' H' v u Q' I r (hh C s H0 ex)) (fun C s H0 ex pins s' σ' H' Q' I hh => hh C s H0 ex pins s' I) hs
          (by rw [O'.N]; exact O'.nd) (by rw [O'.N]; exact ixOf_get hi) l.1 l.2 hb) ht
    · cases h
  · cases h
def fRet (f : Ro → Option (Kd × D)) (ρ : Ro) : Option Res := match f ρ with
  | some (.sh, d) => some (.rt .sh d)
  | some (.fr, d) => some (.rt .fr d)
  | none => none
  | _ => none
theorem s_ret {f : Ro → Option (Kd × D)} {e : Expr} {pos : Pos} (hf : SndE X f e) : SndS X (fRet f) (.Return (some e) pos) := by
  intro ρ r h He S0 σL σ H O Dn sr q
  unfold fRet at h
  split at h
  · rename_i d he
    cases h
    exact ps_le (ps_ret pe_w) (hf ρ _ _ he _ σ H _ sr.se fun v H1 s1 r1 => q v H1 (sr.inc.trans s1) (Rp.weak (fun b hb => List.mem_append_right _ hb) r1))
  · rename_i d he
    cases h
    refine ps_le (ps_ret pe_w) (hf ρ _ _ he _ σ H _ sr.se fun v H1 s1 r1 => q v H1 (sr.inc.trans s1) ?_)
    cases d with
    | lst ds =>
      obtain ⟨a, xs, e1, n, g, r⟩ := r1
      exact ⟨a, xs, e1, sr.inc.free n, g, r.weak fun b hb => by
        rcases List.mem_cons.mp hb with rfl | hb
        · exact List.mem_cons_self
        · exact List.mem_cons_of_mem _ (List.mem_append_right _ hb)⟩
    | _ => exact r1.elim
  · cases h
  · cases h
theorem EndOk.from {Dn : Ends} {O1 : List Addr} {H1 : Hp} {r : Res} (h : EndOk K He S0 σL O H Dn r) (f : FrO O H H1 O1) : EndOk K He S0 σL O1 H1 Dn r := by
  cases r with
  | nx ρ' => exact fun σ' H' O' sr fr => h σ' H' O' sr (f.trans fr)
  | rt k d => exact h
  | ct ρ' => exact fun σ' H' O' sr fr => h σ' H' O' sr (f.trans fr)
  | bk ρ' => exact fun σ' H' O' sr fr => h σ' H' O' sr (f.trans fr)
def fIfS (ft : Ro → Option Bool) (fa fb : Ro → Option Res) (ρ : Ro) : Option Res := match ft ρ with | some true => fa ρ | some false => fb ρ | none => none
theorem s_ifS {ft : Ro → Option Bool} {fa fb : Ro → Option Res} {t : Expr} {a b : List Stmt} {pos : Pos} (ht : SndT X ft t) (ha : SndB X fa a) (hb : SndB X fb b) : SndS X (fIfS ft fa fb) (.If t a b pos) := by
  intro ρ r h He S0 σL σ H O Dn sr q
  unfold fIfS at h
  split at h
  · rename_i e
    exact ps_le (ps_if pt_w pss_w pss_w) (ht ρ _ e _ σ H _ sr.se fun H1 s1 => iteT (ha ρ r h He S0 σL σ H1 O Dn (sr.same s1) (q.from (FrO.same s1))))
  · rename_i e
    exact ps_le (ps_if pt_w pss_w pss_w) (ht ρ _ e _ σ H _ sr.se fun H1 s1 => iteF (hb ρ r h He S0 σL σ H1 O Dn (sr.same s1) (q.from (FrO.same s1))))
  · cases h
/-! ### an owned list is handed on: no longer changed -/
def frz1 (ρ : Ro) (i : Nat) : Ro := match ρ[i]? with
  | some (some (.ow ds)) => ρ.set i (some (.sh (.lst ds)))
  | _ => ρ
def frz (l : List Nat) (ρ : Ro) : Ro := l.foldl frz1 ρ
theorem SR.frz1 (h : SR K He S0 σL ρ σ H O) (i : Nat) : ∃ O', SR K He S0 σL (frz1 ρ i) σ H O' ∧ FrO O H H O' := by
  cases e : ρ[i]? with
  | none => exact ⟨O, by unfold G.frz1; rw [e]; exact h, FrO.refl O H⟩
  | some o =>
    cases o with
    | none => exact ⟨O, by unfold G.frz1; rw [e]; exact h, FrO.refl O H⟩
    | some sl =>
      cases sl with
      | sh d => exact ⟨O, by unfold G.frz1; rw [e]; exact h, FrO.refl O H⟩
      | lk d => exact ⟨O, by unfold G.frz1; rw [e]; exact h, FrO.refl O H⟩
      | ow ds =>
        obtain ⟨a, e1, ha⟩ := h.own i ds e
        have sub : ∀ b ∈ O.filter (· ≠ a), b ∈ O := fun b hb => (List.mem_filter.mp hb).1
        have sub2 : ∀ b ∈ O.filter (· ≠ a) ++ S0, b ∈ O ++ S0 := fun b hb => by
          rcases List.mem_append.mp hb with hb | hb
          · exact List.mem_append_left _ (sub b hb)
          · exact List.mem_append_right _ hb
        have hx : G.frz1 ρ i = ρ.set i (some (.sh (.lst ds))) := by unfold G.frz1; rw [e]
        refine ⟨O.filter (· ≠ a), ?_, ⟨fun b o _ q => q, fun b hb => .inl (sub b hb)⟩⟩
        rw [hx]
        refine ⟨⟨fun j sl ej => ?_, fun b hb => h.se.dom b (sub2 b hb), by rw [List.length_set]; exact h.se.len⟩, fun j es ej => ?_, fun j l es fs b q1 q2 g1 g2 => ?_, h.inc, fun b hb => h.ent b (sub b hb), fun j es ej => ?_, fun j es b ej g => ?_, fun b hb => h.dis b (sub b hb)⟩
        · rcases get_set ej with ⟨rfl, _, z⟩ | ⟨n, ej⟩
          · cases z
            obtain ⟨v, q1, b, xs, q2, g, r⟩ := h.se.slot j _ e
            rw [e1] at q1
            cases q1
            cases q2
            refine ⟨.ref a, e1, ?_⟩
            show Rp _ _ _ _ _
            unfold Rp
            refine ⟨a, xs, rfl, fun z => ?_, g, r.weak sub2⟩
            rcases List.mem_append.mp z with z | z
            · have := (List.mem_filter.mp z).2
              simp at this
            · exact h.dis a ha z
          · obtain ⟨v, q1, q2⟩ := h.se.slot j sl ej
            refine ⟨v, q1, ?_⟩
            cases sl with
            | sh d => exact Rp.weak sub2 q2
            | ow d => obtain ⟨b, xs, q3, g, r⟩ := q2; exact ⟨b, xs, q3, g, r.weak sub2⟩
            | lk d => obtain ⟨b, xs, q3, g, r⟩ := q2; exact ⟨b, xs, q3, g, r.weak sub2⟩
        · rcases get_set ej with ⟨_, _, z⟩ | ⟨n, ej⟩
          · cases z
          · obtain ⟨b, q1, q2⟩ := h.own j es ej
            refine ⟨b, q1, List.mem_filter.mpr ⟨q2, ?_⟩⟩
            have : b ≠ a := fun z => n (h.inj j i es ds a ej e (by rw [q1, z]) e1)
            simpa using this
        · rcases get_set q1 with ⟨_, _, z⟩ | ⟨n1, q1⟩
          · cases z
          · rcases get_set q2 with ⟨_, _, z⟩ | ⟨n2, q2⟩
            · cases z
            · exact h.inj j l es fs b q1 q2 g1 g2
        · rcases get_set ej with ⟨_, _, z⟩ | ⟨n, ej⟩
          · cases z
          · exact h.lkv j es ej
        · rcases get_set ej with ⟨_, _, z⟩ | ⟨n, ej⟩
          · cases z
          · exact fun z => h.lko j es b ej g (sub b z)
theorem SR.frz (h : SR K He S0 σL ρ σ H O) (l : List Nat) : ∃ O', SR K He S0 σL (frz l ρ) σ H O' ∧ FrO O H H O' := by
  induction l generalizing ρ O with
  | nil => exact ⟨O, h, FrO.refl O H⟩
  | cons i l ih =>
    obtain ⟨O1, h1, f1⟩ := h.frz1 i
    obtain ⟨O2, h2, f2⟩ := ih h1
    exact ⟨O2, h2, f1.trans f2⟩
/-- z: what is handed on ahead of a statement -/
def fSeq (z : Stmt → List Nat) (f : Stmt → Ro → Option Res) : List Stmt → Ro → Option Res
  | [], ρ => some (.nx ρ)
  | s :: r, ρ => match f s (frz (z s) ρ) with
    | some (.nx ρ') => fSeq z f r ρ'
    | some (.rt k d) => some (.rt k d)
    | some (.ct ρ') => some (.ct ρ')
    | some (.bk ρ') => some (.bk ρ')
    | none => none
theorem s_seq {z : Stmt → List Nat} {f : Stmt → Ro → Option Res} (hf : ∀ s, SndS X (f s) s) : ∀ st : List Stmt, SndB X (fSeq z f st) st
  | [], ρ, r, h, He, S0, σL, σ, H, O, Dn, sr, q => by
    cases h
    exact pss_le pss_nil (q σ H O sr (FrO.refl O H))
  | s :: st, ρ, r, h, He, S0, σL, σ, H, O, Dn, sr, q => by
    obtain ⟨O0, sr0, fr0⟩ := sr.frz (z s)
    have q := q.from fr0
    unfold fSeq at h
    split at h
    · rename_i ρ' e
      refine pss_le (pss_cons ps_w pss_w) (hf s _ _ e He S0 σL σ H O0 _ sr0 fun σ1 H1 O1 sr1 fr1 => ?_)
      exact s_seq hf st ρ' r h He S0 σL σ1 H1 O1 Dn sr1 (q.from fr1)
    · rename_i k d e
      cases h
      exact pss_le (pss_cons ps_w pss_w) (hf s _ _ e He S0 σL σ H O0 _ sr0 q)
    · rename_i ρ' e
      cases h
      exact pss_le (pss_cons ps_w pss_w) (hf s _ _ e He S0 σL σ H O0 _ sr0 q)
    · rename_i ρ' e
      cases h
      exact pss_le (pss_cons ps_w pss_w) (hf s _ _ e He S0 σL σ H O0 _ sr0 q)
    · cases h
theorem s_cont {pos : Pos} : SndS X (fun ρ => some (.ct ρ)) (.Continue pos) := by
  intro ρ r h He S0 σL σ H O Dn sr q
  cases h
  exact ps_le ps_continue (q σ H O sr (FrO.refl O H))
theorem s_brk {pos : Pos} : SndS X (fun ρ => some (.bk ρ)) (.Break pos) := by
  intro ρ r h He S0 σL σ H O Dn sr q
  cases h
  exact ps_le ps_break (q σ H O sr (FrO.refl O H))
theorem s_pass {pos : Pos} : SndS X (fun ρ => some (.nx ρ)) (.Pass pos) := by
  intro ρ r h He S0 σL σ H O Dn sr q
  cases h
  exact ps_le ps_pass (q σ H O sr (FrO.refl O H))
end
end G
set_option Elab.async false
set_option linter.all false
set_option maxRecDepth 100000
set_option maxHeartbeats 4000000
set_option autoImplicit false
namespace G
open PySem PySem.Spec L2
section
variable {X : Cx} {Γ : Tab} {c : Cz}
theorem g_tgtsR (O : CxOk X Γ c) {tg : Expr} {d : D} {ps : List (Nat × D)} (h : tgts c tg d = some ps) {He : Hp} {S0 O1 : List Addr} {ρ : Ro} {σ σL : St} {H : Hp} {v : V} {Q : St → Hp → Prop} (sr : SR X.K He S0 σL ρ σ H O1) (r : Rp X.K H (O1 ++ S0) d v)
    (q : ∀ σ', SR X.K He S0 σL (setAll ps ρ) σ' H O1 → Q σ' H) : wG X tg v σ H Q := by
  unfold tgts at h
  split at h
  · rename_i d' x pos
    split at h
    · rename_i hl
      cases hi : ixOf x c.N with
      | none => rw [hi] at h; cases h
      | some i =>
        rw [hi] at h
        cases h
        have l := loc_of O hl
        exact pg_le (pg_name (i := i) (by rw [O.N]; exact O.nd) (by rw [O.N]; exact ixOf_get hi) l.1 l.2) (q _ (sr.setSh i r))
    · cases h
  · rename_i x px y py kk tp d e
    split at h
    · rename_i hl
      simp only [Bool.and_eq_true] at hl
      split at h
      · rename_i i j hi hj
        cases h
        have l1 := loc_of O hl.1
        have l2 := loc_of O hl.2
        refine pg_le (pg_tup (n := 2) O.calm (pgs_cons (pg_name (i := i) (by rw [O.N]; exact O.nd) (by rw [O.N]; exact ixOf_get hi) l1.1 l1.2) (pgs_cons (pg_name (i := j) (by rw [O.N]; exact O.nd) (by rw [O.N]; exact ixOf_get hj) l2.1 l2.2) pgs_nil))) ?_
        unfold Rp at r
        obtain ⟨a, xs, rfl, _, g, r⟩ := r
        unfold RpL at r
        obtain ⟨u, us, rfl, r1, r2⟩ := r
        unfold RpL at r2
        obtain ⟨w, ws, rfl, r2, r3⟩ := r2
        unfold RpL at r3
        subst r3
        exact ⟨a, _, rfl, .of g, rfl, u, [w], rfl, w, [], rfl, rfl, q _ ((sr.setSh i r1).setSh j r2)⟩
      · cases h
    · cases h
  · cases h
/-- what is forgotten at the head of each turn: sound whatever is named -/
def forget (l : List Nat) (ρ : Ro) : Ro := ρ.mapIdx fun i o => if l.contains i then none else o
theorem forget_some {l : List Nat} {ρ : Ro} {i : Nat} {sl : Sl} (h : (forget l ρ)[i]? = some (some sl)) : ρ[i]? = some (some sl) := by
  unfold forget at h
  rw [List.getElem?_mapIdx] at h
  cases q : ρ[i]? with
  | none => rw [q] at h; cases h
  | some o =>
    rw [q] at h
    simp only [Option.map_some, Option.some.injEq] at h
    split at h
    · cases h
    · rw [h]
theorem SR.forget {K : PySem.W.Frag} {He : Hp} {S0 O : List Addr} {ρ : Ro} {σ σL : St} {H : Hp} (h : SR K He S0 σL ρ σ H O) (l : List Nat) : SR K He S0 σL (forget l ρ) σ H O :=
  ⟨⟨fun i sl e => h.se.slot i sl (forget_some e), h.se.dom, by rw [← h.se.len]; simp [G.forget]⟩, fun i ds e => h.own i ds (forget_some e), fun i j ds es a e1 e2 => h.inj i j ds es a (forget_some e1) (forget_some e2), h.inc, h.ent, fun i ds e => h.lkv i ds (forget_some e), fun i ds a e => h.lko i ds a (forget_some e), h.dis⟩
def fFor (c : Cz) (l : List Nat) (tg : Expr) (fb : Ro → Option Res) : List D → Ro → Option Res
  | [], ρ => some (.nx ρ)
  | d :: ds, ρ => match tgts c tg d with
    | some ps => (match fb (setAll ps (forget l ρ)) with
      | some (.nx ρ2) => fFor c l tg fb ds ρ2
      | some (.ct ρ2) => fFor c l tg fb ds ρ2
      | some (.bk ρ2) => some (.nx ρ2)
      | some (.rt k d) => some (.rt k d)
      | none => none)
    | none => none
def tForL (J : It) (g : TG) (tb : TS) : TS := fun D σ H1 => ∃ W : Nat → Nat → St → Hp → Prop, (∃ m, W 0 m σ H1) ∧ ∀ i m σ H, W i m σ H →
  (J.stop i H ∧ D.nx σ H) ∨ (J.go i H ∧ ∃ N : St → Hp → Prop, (∀ σ' H', N σ' H' → ∃ m', m' < m ∧ W (i + 1) m' σ' H') ∧ ∀ x H', J.yld i H x H' → g x σ H' fun σ2 H2 => tb { D with nx := N, ct := N, bk := D.nx } σ2 H2)
/-- a loop over things that nothing of O is part of: the loop's own rule -/
theorem for_run (O' : CxOk X Γ c) {l : List Nat} {fb : Ro → Option Res} {tg : Expr} {body : List Stmt} (hb : SndB X fb body) {J : It} {ds : List D} {He Hs : Hp} {S0 O : List Addr} {σL : St} {Dn : Ends} {ρ : Ro} {σ : St} {r : Res} {bo : Bool}
    (sr : SR X.K He S0 σL ρ σ Hs O) (jt : ItOk X.K J Hs (O ++ S0) bo ds) (hO : bo = true → O = []) (h : fFor c l tg fb ds ρ = some r) (q : EndOk X.K He S0 σL O Hs Dn r) :
    tForL J (wG X tg) (wSs X body) Dn σ Hs := by
  refine ⟨fun i m σ' H' => m = ds.length - i ∧ i ≤ ds.length ∧ ∃ ρ' O1, SR X.K He S0 σL ρ' σ' H' O1 ∧ FrO O Hs H' O1 ∧ fFor c l tg fb (ds.drop i) ρ' = some r,
    ⟨ds.length, by simp, Nat.zero_le _, ρ, O, sr, FrO.refl O Hs, by simpa using h⟩, ?_⟩
  rintro i m σ' H' ⟨rfl, hi', ρ', O1, sr', fr', hrest⟩
  obtain ⟨j1, j2⟩ := jt O (fun b hb => List.mem_append_left _ hb) hO i H' fr'.keep
  by_cases hlt : i < ds.length
  · have hd : ds[i]? = some ds[i] := List.getElem?_eq_getElem hlt
    obtain ⟨go, yl⟩ := j2 _ hd
    rw [List.drop_eq_getElem_cons hlt] at hrest
    unfold fFor at hrest
    split at hrest
    · rename_i ps hps
      refine .inr ⟨go, fun σ2 H2 => ds.length - (i + 1) = ds.length - (i + 1) ∧ i + 1 ≤ ds.length ∧ ∃ ρ' O1, SR X.K He S0 σL ρ' σ2 H2 O1 ∧ FrO O Hs H2 O1 ∧ fFor c l tg fb (ds.drop (i + 1)) ρ' = some r, fun σ2 H2 hN => ⟨ds.length - (i + 1), by omega, hN⟩, fun x H2 hy => ?_⟩
      obtain ⟨s2, hx⟩ := yl x H2 hy
      have rx := hx (O1 ++ S0) (fun b o e z => by
        rcases List.mem_append.mp z with z | z
        · rcases fr'.own b z with z | z
          · exact List.mem_append_left _ z
          · rw [z] at e; cases e
        · exact List.mem_append_right _ z) sr'.se.dom
      refine g_tgtsR O' hps ((sr'.forget l).same s2) rx fun σ3 sr3 => ?_
      split at hrest
      · rename_i ρ2 hbody
        refine hb _ _ hbody He S0 σL σ3 H2 O1 _ sr3 fun σ4 H4 O4 sr4 fr4 => ?_
        exact ⟨rfl, hlt, ρ2, O4, sr4, (fr'.trans (FrO.same s2)).trans fr4, hrest⟩
      · rename_i ρ2 hbody
        refine hb _ _ hbody He S0 σL σ3 H2 O1 _ sr3 fun σ4 H4 O4 sr4 fr4 => ?_
        exact ⟨rfl, hlt, ρ2, O4, sr4, (fr'.trans (FrO.same s2)).trans fr4, hrest⟩
      · rename_i ρ2 hbody
        cases hrest
        exact hb _ _ hbody He S0 σL σ3 H2 O1 _ sr3 fun σ4 H4 O4 sr4 fr4 => q σ4 H4 O4 sr4 ((fr'.trans (FrO.same s2)).trans fr4)
      · rename_i k d hbody
        cases hrest
        exact hb _ _ hbody He S0 σL σ3 H2 O1 _ sr3 q
      · cases hrest
    · cases hrest
  · have e : i = ds.length := by omega
    subst e
    rw [List.drop_length] at hrest
    cases hrest
    exact .inl ⟨j1 (Nat.le_refl _), q σ' H' O1 sr' fr'⟩
/-! ### a loop over a list that a slot owns: all owned lists are locked meanwhile -/
def lockS : Option Sl → Option Sl
  | some (.ow ds) => some (.lk ds)
  | o => o
def lock (ρ : Ro) : Ro := ρ.map lockS
def unlockS (o o' : Option Sl) : Option Sl := match o, o' with
  | some (.ow _), some (.lk ds) => some (.ow ds)
  | _, o' => o'
def unlock : Ro → Ro → Ro
  | o :: r, o' :: r' => unlockS o o' :: unlock r r'
  | _, r' => r'
theorem unlock_get : ∀ {ρ ρ' : Ro} {i : Nat}, ρ.length = ρ'.length → ∀ {o : Option Sl}, (unlock ρ ρ')[i]? = some o → ∃ a b, ρ[i]? = some a ∧ ρ'[i]? = some b ∧ o = unlockS a b
  | [], [], i, _, o, h => by simp [unlock] at h
  | [], _ :: _, i, hl, o, h => by simp at hl
  | _ :: _, [], i, hl, o, h => by simp at hl
  | a :: r, b :: r', 0, hl, o, h => by
    simp [unlock] at h
    exact ⟨a, b, rfl, rfl, h.symm⟩
  | a :: r, b :: r', i + 1, hl, o, h => by
    have h' : (unlock r r')[i]? = some o := by simpa [unlock] using h
    obtain ⟨x, y, e1, e2, e3⟩ := unlock_get (by simpa using hl) h'
    exact ⟨x, y, by simpa using e1, by simpa using e2, e3⟩
theorem unlock_len : ∀ {ρ ρ' : Ro}, ρ.length = ρ'.length → (unlock ρ ρ').length = ρ'.length
  | [], [], _ => rfl
  | [], _ :: _, h => by simp at h
  | _ :: _, [], h => by simp at h
  | a :: r, b :: r', h => by simp [unlock, unlock_len (ρ := r) (ρ' := r') (by simpa using h)]
theorem lock_ow {ρ : Ro} {i : Nat} {ds : List D} : (lock ρ)[i]? ≠ some (some (.ow ds)) := fun h => by
  unfold lock at h
  rw [List.getElem?_map] at h
  cases e : ρ[i]? with
  | none => rw [e] at h; cases h
  | some o =>
    rw [e] at h
    cases o with
    | none => simp [lockS] at h
    | some sl => cases sl <;> simp [lockS] at h
theorem lock_lk {ρ : Ro} {i : Nat} {ds : List D} (h : (lock ρ)[i]? = some (some (.lk ds))) : ρ[i]? = some (some (.ow ds)) ∨ ρ[i]? = some (some (.lk ds)) := by
  unfold lock at h
  rw [List.getElem?_map] at h
  cases e : ρ[i]? with
  | none => rw [e] at h; cases h
  | some o =>
    rw [e] at h
    cases o with
    | none => simp [lockS] at h
    | some sl => cases sl with
      | sh d => simp [lockS] at h
      | ow d => simp [lockS] at h; subst h; exact .inl rfl
      | lk d => simp [lockS] at h; subst h; exact .inr rfl
theorem lock_slot {ρ : Ro} {i : Nat} {sl : Sl} (h : (lock ρ)[i]? = some (some sl)) : ∃ sl', ρ[i]? = some (some sl') ∧ slKd sl' = slKd sl := by
  unfold lock at h
  rw [List.getElem?_map] at h
  cases e : ρ[i]? with
  | none => rw [e] at h; cases h
  | some o =>
    rw [e] at h
    cases o with
    | none => simp [lockS] at h
    | some z => cases z <;> (simp [lockS] at h; subst h; exact ⟨_, rfl, rfl⟩)
theorem SR.lock {K : PySem.W.Frag} {He : Hp} {S0 O : List Addr} {ρ : Ro} {σ σL : St} {H : Hp} (h : SR K He S0 σL ρ σ H O) : SR K He (O ++ S0) σ (lock ρ) σ H [] := by
  refine ⟨⟨fun i sl e => ?_, ?_, by rw [← h.se.len]; simp [G.lock]⟩, fun i ds e => absurd e lock_ow, fun i j ds es a e => absurd e lock_ow, h.inc, (fun b z => by cases z), fun i ds e => rfl, (fun i ds a e g z => by cases z), fun b z => by cases z⟩
  · obtain ⟨sl', e1, e2⟩ := lock_slot e
    have := h.se.slot i sl' e1
    rw [e2] at this
    simpa using this
  · simpa using h.se.dom
/-- what is given back behind the loop -/
theorem SR.unlock {K : PySem.W.Frag} {He : Hp} {S0 O O1 : List Addr} {ρ ρ' : Ro} {σ σ' σL : St} {H H' : Hp} (h : SR K He S0 σL ρ σ H O) (h' : SR K He (O ++ S0) σ ρ' σ' H' O1) (hl : ρ.length = ρ'.length) (hlk : ∀ (i : Nat) ds, ρ'[i]? = some (some (.lk ds)) → ∃ ds', ρ[i]? = some (some (.ow ds')) ∨ ρ[i]? = some (some (.lk ds'))) :
    SR K He S0 σL (unlock ρ ρ') σ' H' (O1 ++ O) := by
  have get : ∀ {i : Nat} {sl : Sl}, (G.unlock ρ ρ')[i]? = some (some sl) → (∃ ds ds', sl = .ow ds ∧ ρ[i]? = some (some (.ow ds')) ∧ ρ'[i]? = some (some (.lk ds))) ∨ (ρ'[i]? = some (some sl) ∧ ∀ ds, sl = .lk ds → ∃ ds', ρ[i]? = some (some (.lk ds'))) := fun {i sl} e => by
    obtain ⟨a, b, e1, e2, e3⟩ := unlock_get hl e
    cases a with
    | none =>
      refine .inr ⟨by rw [e2, e3]; rfl, fun ds z => ?_⟩
      subst z
      have e3' : b = some (.lk ds) := by cases b <;> exact e3.symm
      rw [e3'] at e2
      obtain ⟨ds', q | q⟩ := hlk i ds e2 <;> (rw [e1] at q; cases q)
    | some a =>
      cases a with
      | ow ds' =>
        cases b with
        | none => cases e3
        | some b => cases b with
          | lk ds => cases e3; exact .inl ⟨ds, ds', rfl, e1, e2⟩
          | sh d => cases e3; exact .inr ⟨e2, fun _ z => by cases z⟩
          | ow d => cases e3; exact .inr ⟨e2, fun _ z => by cases z⟩
      | sh d =>
        refine .inr ⟨by rw [e2, e3]; rfl, fun ds z => ?_⟩
        subst z
        have e3' : b = some (.lk ds) := by cases b <;> exact e3.symm
        rw [e3'] at e2
        obtain ⟨ds', q | q⟩ := hlk i ds e2 <;> (rw [e1] at q; cases q)
      | lk d => exact .inr ⟨by rw [e2, e3]; rfl, fun ds z => ⟨d, e1⟩⟩
  have perm : ∀ b, b ∈ (O1 ++ O) ++ S0 → b ∈ O1 ++ (O ++ S0) := fun b hb => by rw [← List.append_assoc]; exact hb
  refine ⟨⟨fun i sl e => ?_, fun b hb => h'.se.dom b (perm b hb), ?_⟩, fun i ds e => ?_, fun i j ds es a e1 e2 g1 g2 => ?_, h'.inc, fun b hb => ?_, fun i ds e => ?_, fun i ds a e g => ?_, fun b hb z => ?_⟩
  · rw [List.append_assoc]
    rcases get e with ⟨ds, ds', rfl, e1, e2⟩ | ⟨e1, _⟩
    · obtain ⟨v, q1, q2⟩ := h'.se.slot i _ e2
      exact ⟨v, q1, q2⟩
    · exact h'.se.slot i _ e1
  · rw [unlock_len hl]; exact h'.se.len
  · rcases get e with ⟨ds1, ds', q, e1, e2⟩ | ⟨e1, _⟩
    · obtain ⟨a, g1, g2⟩ := h.own i ds' e1
      exact ⟨a, by rw [h'.lkv i _ e2]; exact g1, List.mem_append_right _ g2⟩
    · obtain ⟨a, g1, g2⟩ := h'.own i ds e1
      exact ⟨a, g1, List.mem_append_left _ g2⟩
  · rcases get e1 with ⟨ds1, ds1', _, p1, p2⟩ | ⟨p1, _⟩
    · rcases get e2 with ⟨ds2, ds2', _, q1, q2⟩ | ⟨q1, _⟩
      · exact h.inj i j ds1' ds2' a p1 q1 (by rw [← h'.lkv i _ p2]; exact g1) (by rw [← h'.lkv j _ q2]; exact g2)
      · obtain ⟨b, r1, r2⟩ := h'.own j es q1
        rw [g2] at r1
        cases r1
        exact absurd r2 (h'.lko i _ a p2 g1)
    · rcases get e2 with ⟨ds2, ds2', _, q1, q2⟩ | ⟨q1, _⟩
      · obtain ⟨b, r1, r2⟩ := h'.own i ds p1
        rw [g1] at r1
        cases r1
        exact absurd r2 (h'.lko j _ a q2 g2)
      · exact h'.inj i j ds es a p1 q1 g1 g2
  · rcases List.mem_append.mp hb with hb | hb
    · exact h'.ent b hb
    · exact h.ent b hb
  · rcases get e with ⟨ds1, ds', q, _⟩ | ⟨e1, e2⟩
    · cases q
    · obtain ⟨ds', e2⟩ := e2 ds rfl
      rw [h'.lkv i ds e1]
      exact h.lkv i ds' e2
  · rcases get e with ⟨ds1, ds', q, _⟩ | ⟨e1, e2⟩
    · cases q
    · obtain ⟨ds', e2⟩ := e2 ds rfl
      intro z
      rcases List.mem_append.mp z with z | z
      · exact h'.lko i ds a e1 g z
      · exact h.lko i ds' a e2 (by rw [← h'.lkv i ds e1]; exact g) z
  · rcases List.mem_append.mp hb with hb | hb
    · exact h'.dis b hb (List.mem_append_right _ z)
    · exact h.dis b hb z
/-- locked slots that are there behind the loop were so ahead of it -/
def lkIn (ρ ρ' : Ro) : Bool := decide (ρ.length = ρ'.length) && (ρ.zip ρ').all fun p => match p.2 with | some (.lk _) => (match p.1 with | some (.ow _) => true | some (.lk _) => true | _ => false) | _ => true
theorem lkIn_ok {ρ ρ' : Ro} (h : lkIn ρ ρ' = true) : ρ.length = ρ'.length ∧ ∀ (i : Nat) ds, ρ'[i]? = some (some (.lk ds)) → ∃ ds', ρ[i]? = some (some (.ow ds')) ∨ ρ[i]? = some (some (.lk ds')) := by
  simp only [lkIn, Bool.and_eq_true, decide_eq_true_eq, List.all_eq_true] at h
  refine ⟨h.1, fun i ds e => ?_⟩
  have hi : i < ρ.length := by rw [h.1]; exact (List.getElem?_eq_some_iff.mp e).1
  have hm : (ρ[i], some (.lk ds)) ∈ ρ.zip ρ' := by
    refine List.mem_of_getElem? (i := i) ?_
    rw [List.getElem?_zip_eq_some]
    exact ⟨List.getElem?_eq_getElem hi, e⟩
  have := h.2 _ hm
  rw [List.getElem?_eq_getElem hi]
  cases q : ρ[i] with
  | none => simp [q] at this
  | some z => cases z with
    | sh d => simp [q] at this
    | ow d => exact ⟨d, .inl rfl⟩
    | lk d => exact ⟨d, .inr rfl⟩
theorem VR.weakS {K : PySem.W.Frag} {H0 H : Hp} {S S' : List Addr} (k : ∀ b ∈ S', b ∈ S) {kk : Kd} {d : D} {v : V} (h : VR K H0 H S kk d v) : VR K H0 H S' kk d v := by
  cases kk with
  | sh => exact Rp.weak k h
  | fr =>
    cases d with
    | lst ds =>
      obtain ⟨a, xs, e, n, g, r⟩ := h
      exact ⟨a, xs, e, n, g, r.weak fun b hb => by
        rcases List.mem_cons.mp hb with rfl | hb
        · exact List.mem_cons_self
        · exact List.mem_cons_of_mem _ (k b hb)⟩
    | _ => exact h.elim
  | bo =>
    cases d with
    | lst ds => obtain ⟨a, xs, e, g, r⟩ := h; exact ⟨a, xs, e, g, r.weak k⟩
    | _ => exact h.elim
def oUnl (ρ : Ro) (r : Option Res) : Option Res := match r with
  | some (.nx ρ') => if lkIn ρ ρ' then some (.nx (unlock ρ ρ')) else none
  | some (.rt k d) => some (.rt k d)
  | _ => none
def fForS (c : Cz) (l : List Nat) (fi : Ro → Option (Bool × List D)) (tg : Expr) (fb : Ro → Option Res) (ρ : Ro) : Option Res := match fi ρ with
  | some (false, ds) => fFor c l tg fb ds ρ
  | some (true, ds) => oUnl ρ (fFor c l tg fb ds (lock ρ))
  | none => none
theorem s_for (O' : CxOk X Γ c) (hp : PassesOwn (model X.prog X.w) X.A X.env X.xe) {l : List Nat} {fi : Ro → Option (Bool × List D)} {fb : Ro → Option Res} {tg iter : Expr} {body : List Stmt} {pos : Pos} (hi : SndI X fi tg iter) (hb : SndB X fb body) (hs : ∀ x, foldedSetIterable iter X.env x = pure x) :
    SndS X (fForS c l fi tg fb) (.For tg iter body [] pos) := by
  intro ρ r h He S0 σL σ H O Dn sr q
  unfold fForS at h
  split at h
  · rename_i ds hit
    refine ps_le (ps_for hp O'.calm pi_w pg_w pss_w hs) (hi ρ _ ds hit _ σ H _ sr.se fun J H1 s1 jt => ?_)
    exact for_run O' hb (sr.same s1) jt (fun z => by cases z) h (q.from (FrO.same s1))
  · rename_i ds hit
    refine ps_le (ps_for hp O'.calm pi_w pg_w pss_w hs) (hi ρ _ ds hit _ σ H _ sr.se fun J H1 s1 jt => ?_)
    unfold oUnl at h
    have sr1 := sr.same s1
    split at h
    · rename_i ρ' hf
      split at h
      · rename_i hk
        cases h
        obtain ⟨k1, k2⟩ := lkIn_ok hk
        refine for_run O' hb sr1.lock (by simpa using jt) (fun _ => rfl) hf fun σ' H' O1 sr' fr' => ?_
        refine q σ' H' (O1 ++ O) (sr1.unlock sr' k1 k2) ((FrO.same s1).trans ⟨fun b o _ e => fr'.keep b o (by simp) e, fun b hb => ?_⟩)
        rcases List.mem_append.mp hb with hb | hb
        · rcases fr'.own b hb with z | z
          · cases z
          · exact .inr z
        · exact .inl hb
      · cases h
    · rename_i k d hf
      cases h
      exact for_run O' hb sr1.lock (by simpa using jt) (fun _ => rfl) hf fun v H' s' r' => q v H' s' (r'.weakS fun b hb => List.mem_append_right _ hb)
    · cases h
  · cases h
/-! ### x.append(e), x[i] = e on a list that the slot owns -/
theorem SR.put {K : PySem.W.Frag} {He : Hp} {S0 O : List Addr} {ρ : Ro} {σ σL : St} {H : Hp} (h : SR K He S0 σL ρ σ H O) {i : Nat} {ds : List D} (hi : ρ[i]? = some (some (.ow ds))) {a : Addr} (ha : σ[i]? = some (some (.ref a))) {es : List D} {us : List V} (r : RpL K H (O ++ S0) es us) :
    SR K He S0 σL (ρ.set i (some (.ow es))) σ (upd H a (.lst us)) O ∧ FrO O H (upd H a (.lst us)) O := by
  have haO : a ∈ O := by
    obtain ⟨b, e1, e2⟩ := h.own i ds hi
    rw [ha] at e1
    cases e1
    exact e2
  have kk : ∀ b u, b ∉ (O ++ S0) → H b = some u → upd H a (.lst us) b = some u := fun b u n q => by
    rw [upd_ne (fun z => n (by rw [z]; exact List.mem_append_left _ haO))]
    exact q
  have lt : i < ρ.length := (List.getElem?_eq_some_iff.mp hi).1
  have back : ∀ (j : Nat) fs, (ρ.set i (some (.ow es)))[j]? = some (some (.ow fs)) → ∃ gs, ρ[j]? = some (some (.ow gs)) := fun j fs e => by
    rcases get_set e with ⟨rfl, _, _⟩ | ⟨_, e⟩
    · exact ⟨ds, hi⟩
    · exact ⟨fs, e⟩
  refine ⟨⟨⟨fun j sl e => ?_, fun b hb => ?_, by simp [h.se.len]⟩, fun j fs e => ?_, fun j l fs gs b e1 e2 g1 g2 => ?_, fun b o e => ?_, h.ent, fun j fs e => ?_, fun j fs b e g => ?_, h.dis⟩, ⟨fun b o n e => ?_, fun b hb => .inl hb⟩⟩
  · rcases get_set e with ⟨rfl, _, z⟩ | ⟨n, e⟩
    · cases z
      exact ⟨.ref a, ha, a, us, rfl, upd_same, RpL.keep kk r⟩
    · obtain ⟨v, e1, e2⟩ := h.se.slot j sl e
      refine ⟨v, e1, ?_⟩
      cases sl with
      | sh d => exact Rp.keep kk e2
      | ow fs =>
        obtain ⟨b, xs, rfl, g, r2⟩ := e2
        have ne : b ≠ a := fun z => n (h.inj j i fs ds a e hi (by rw [e1, z]) ha)
        exact ⟨b, xs, rfl, by rw [upd_ne ne]; exact g, RpL.keep kk r2⟩
      | lk fs =>
        obtain ⟨b, xs, rfl, g, r2⟩ := e2
        have ne : b ≠ a := fun z => h.lko j fs b e e1 (by rw [z]; exact haO)
        exact ⟨b, xs, rfl, by rw [upd_ne ne]; exact g, RpL.keep kk r2⟩
  · by_cases z : b = a
    · exact ⟨_, by rw [z]; exact upd_same⟩
    · obtain ⟨o, q⟩ := h.se.dom b hb
      exact ⟨o, by rw [upd_ne z]; exact q⟩
  · obtain ⟨gs, e⟩ := back j fs e
    exact h.own j gs e
  · obtain ⟨f1, e1⟩ := back j fs e1
    obtain ⟨f2, e2⟩ := back l gs e2
    exact h.inj j l f1 f2 b e1 e2 g1 g2
  · have : b ≠ a := fun z => by
      have := h.ent a haO
      rw [z, this] at e; cases e
    rw [upd_ne this]
    exact h.inc b o e
  · rcases get_set e with ⟨_, _, z⟩ | ⟨_, e⟩
    · cases z
    · exact h.lkv j fs e
  · rcases get_set e with ⟨_, _, z⟩ | ⟨_, e⟩
    · cases z
    · exact h.lko j fs b e g
  · rw [upd_ne (fun z => n (by rw [z]; exact haO))]
    exact e
end
end G
set_option Elab.async false
set_option linter.all false
set_option maxRecDepth 100000
set_option maxHeartbeats 4000000
set_option autoImplicit false
namespace G
open PySem PySem.Spec L2
section
variable {X : Cx} {Γ : Tab} {c : Cz}
def fApp (c : Cz) (f : Ro → Option (Kd × D)) (x : Str) (e : Expr) (ap cp : Pos) (ρ : Ro) : Option Res :=
  if visB c.sc x && nameOk x && noStar e && (ap.endLine == cp.line) && !(x == ("super" : Str)) then
    match ixOf x c.N, f ρ with
    | some i, some (k, d) => (match ρ[i]? with
      | some (some (.ow ds)) => if k ≠ .bo ∧ ds.length < 100000 then some (.nx (ρ.set i (some (.ow (ds ++ [d]))))) else none
      | _ => none)
    | _, _ => none
  else none
theorem few_ok {e : Expr} {env : Env} {cp : Pos} (h : noStar e = true) : ((backTo cp (starEach [e] env)).all (fun x => !x.1) && (backToKw cp (keywordEach [] env)).all (fun x => x.1.isSome)
      && decide ([e].length + ([] : List Keyword).length + (if ([] : List Keyword).isEmpty then 0 else 1) < 30)) = true := by
  rw [star_of h]
  rfl
theorem base_ok {x : Str} {p : Pos} {env : Env} {w : Sem Value} (h : (x == ("super" : Str)) = false) : attributeBase (.Name x p) "append" env w = w := by
  unfold attributeBase
  simp [h]
theorem s_app (O' : CxOk X Γ c) {f : Ro → Option (Kd × D)} {x : Str} {e : Expr} {p ap cp pos : Pos} (hf : SndE X f e) : SndS X (fApp c f x e ap cp) (.Expr (.Call (.Attribute (.Name x p) "append" ap) [e] [] cp) pos) := by
  intro ρ r h He S0 σL σ H O Dn sr q
  unfold fApp at h
  split at h
  · rename_i hc
    simp only [Bool.and_eq_true, Bool.not_eq_true'] at hc
    obtain ⟨⟨⟨⟨h1, h2⟩, h3⟩, h4⟩, h5⟩ := hc
    split at h
    · rename_i i k d hi he
      split at h
      · rename_i ds hs
        split at h
        · rename_i hk
          cases h
          have hd := h2
          simp only [nameOk, Bool.and_eq_true, Bool.not_eq_true'] at hd
          have pv : PE X (.Name x p) (tVar i) := pe_var (by rw [O'.N]; exact ixOf_get hi) (by rw [O'.sc]; exact visB_ok h1) hd.1 hd.2
          refine ps_le (ps_expr (pe_bm PySem.F.plainAttrs_list PySem.F.slot_list_append PySem.F.type_list_append mt_append pv (pa_cons pe_w pa_nil (star_of h3)) (base_ok h5) (few_ok h3) h4 (star_of h3) rfl)) ?_
          obtain ⟨v, e1, a, us, rfl, g, rr⟩ := sr.se.slot i _ hs
          refine ⟨.ref a, e1, .inl ⟨rfl, us, .of g⟩, hf ρ _ _ he _ σ H _ sr.se fun y H1 s1 r1 => ?_⟩
          have ry := r1.rp sr.se.dom hk.1
          have sr1 := sr.same s1
          obtain ⟨p1, p2⟩ := sr1.put hs e1 ((rr.same s1).append (.cons ry .nil))
          refine ⟨a, us, y, rfl, rfl, s1 _ _ g, by rw [rr.len]; exact Nat.lt_of_lt_of_le hk.2 (size_small (Nat.le_refl _)), ?_⟩
          exact q σ _ O p1 ((FrO.same s1).trans p2)
        · cases h
      · cases h
    · cases h
  · cases h
/-! ### x[i] = e on a list that the slot owns -/
def fSet (c : Cz) (f fi : Ro → Option (Kd × D)) (x : Str) (ρ : Ro) : Option Res :=
  if visB c.sc x && nameOk x then
    match ixOf x c.N, f ρ, fi ρ with
    | some i, some (k, d), some (_, .int z) => (match ρ[i]? with
      | some (some (.ow ds)) => if k ≠ .bo then (match ixN ds.length z with | some j => some (.nx (ρ.set i (some (.ow (ds.set j d))))) | none => none) else none
      | _ => none)
    | _, _, _ => none
  else none
theorem swap_sole {o b e : Expr} {sp : Pos} {n : Nat} {env : Env} : swapsWithSole [.Subscript o b sp] e n env = pure false := by
  cases e <;> rfl
theorem swap_st {o b e : Expr} {sp : Pos} {env : Env} : swappedStores [.Subscript o b sp] e env = pure none := by
  cases e <;> rfl
theorem s_set (O' : CxOk X Γ c) {f fi : Ro → Option (Kd × D)} {x : Str} {e b : Expr} {p sp pos : Pos} (hf : SndE X f e) (hb : SndE X fi b) (hpl : plainIx b = true) : SndS X (fSet c f fi x) (.Assign [.Subscript (.Name x p) b sp] e pos) := by
  intro ρ r h He S0 σL σ H O Dn sr q
  unfold fSet at h
  split at h
  · rename_i hc
    simp only [Bool.and_eq_true] at hc
    have hd := hc.2
    simp only [nameOk, Bool.and_eq_true, Bool.not_eq_true'] at hd
    split at h
    · rename_i i k d kz z hi he hz
      split at h
      · rename_i ds hs
        split at h
        · rename_i hk
          split at h
          · rename_i j hj
            cases h
            have pv : PE X (.Name x p) (tVar i) := pe_var (by rw [O'.N]; exact ixOf_get hi) (by rw [O'.sc]; exact visB_ok hc.1) hd.1 hd.2
            refine ps_le (ps_asg pe_w (pg_sub pv pe_w set_list (by intro v; cases b <;> first | rfl | cases hpl)) swap_sole swap_st) ?_
            refine hf ρ _ _ he _ σ H _ sr.se fun y H1 s1 r1 => ?_
            have sr1 := sr.same s1
            obtain ⟨v, e1, a, us, rfl, g, rr⟩ := sr1.se.slot i _ hs
            refine ⟨.ref a, e1, hb ρ _ _ hz _ σ H1 _ sr1.se fun w H2 s2 r2 => ?_⟩
            obtain rfl := r2.top.int
            have ry := (r1.rp sr.se.dom hk).same s2
            obtain ⟨p1, p2⟩ := (sr1.same s2).put hs e1 ((rr.same s2).set j ry)
            exact ⟨a, us, z, j, rfl, rfl, s2 _ _ g, by rw [rr.len]; exact hj, q σ _ O p1 (((FrO.same s1).trans (FrO.same s2)).trans p2)⟩
          · cases h
        · cases h
      · cases h
    · cases h
  · cases h
/-! ### x.extend(e) -/
def fExt (c : Cz) (f : Ro → Option (Kd × D)) (x : Str) (e : Expr) (ap cp : Pos) (ρ : Ro) : Option Res :=
  if visB c.sc x && nameOk x && noStar e && (ap.endLine == cp.line) && !(x == ("super" : Str)) then
    match ixOf x c.N, f ρ with
    | some i, some (_, .lst es) => (match ρ[i]? with
      | some (some (.ow ds)) => if ds.length + es.length ≤ 100000 then some (.nx (ρ.set i (some (.ow (ds ++ es))))) else none
      | _ => none)
    | _, _ => none
  else none
theorem base_okX {x : Str} {m : Str} {p : Pos} {env : Env} {w : Sem Value} (h : (x == ("super" : Str)) = false) : attributeBase (.Name x p) m env w = w := by
  unfold attributeBase
  simp [h]
theorem s_ext (O' : CxOk X Γ c) {f : Ro → Option (Kd × D)} {x : Str} {e : Expr} {p ap cp pos : Pos} (hf : SndE X f e) : SndS X (fExt c f x e ap cp) (.Expr (.Call (.Attribute (.Name x p) "extend" ap) [e] [] cp) pos) := by
  intro ρ r h He S0 σL σ H O Dn sr q
  unfold fExt at h
  split at h
  · rename_i hc
    simp only [Bool.and_eq_true, Bool.not_eq_true'] at hc
    obtain ⟨⟨⟨⟨h1, h2⟩, h3⟩, h4⟩, h5⟩ := hc
    split at h
    · rename_i i k es hi he
      split at h
      · rename_i ds hs
        split at h
        · rename_i hk
          cases h
          have hd := h2
          simp only [nameOk, Bool.and_eq_true, Bool.not_eq_true'] at hd
          have pv : PE X (.Name x p) (tVar i) := pe_var (by rw [O'.N]; exact ixOf_get hi) (by rw [O'.sc]; exact visB_ok h1) hd.1 hd.2
          refine ps_le (ps_expr (pe_bm PySem.F.plainAttrs_list PySem.F.slot_list_extend PySem.F.type_list_extend mt_extend pv (pa_cons pe_w pa_nil (star_of h3)) (base_okX h5) (few_ok h3) h4 (star_of h3) rfl)) ?_
          obtain ⟨v, e1, a, us, rfl, g, rr⟩ := sr.se.slot i _ hs
          refine ⟨.ref a, e1, .inl ⟨rfl, us, .of g⟩, hf ρ _ _ he _ σ H _ sr.se fun y H1 s1 r1 => ?_⟩
          obtain ⟨b, zs, rfl, gb, rb⟩ := r1.top
          have sr1 := sr.same s1
          obtain ⟨p1, p2⟩ := sr1.put hs e1 ((rr.same s1).append rb)
          refine ⟨a, b, us, zs, rfl, rfl, s1 _ _ g, gb, by rw [rr.len, rb.len]; exact size_small hk, ?_⟩
          exact q σ _ O p1 ((FrO.same s1).trans p2)
        · cases h
      · cases h
    · cases h
  · cases h
/-! ### a, b, .. = e -/
def namesE : List Expr → Option (List Str)
  | [] => some []
  | .Name x _ :: r => (namesE r).map (x :: ·)
  | _ => none
def idxs (c : Cz) : List Str → Option (List Nat)
  | [] => some []
  | x :: r => if locB c x then (match ixOf x c.N, idxs c r with | some i, some is => some (i :: is) | _, _ => none) else none
def tgsN : List Nat → TGs
  | [] => gNil
  | i :: is => gCons (gName i) (tgsN is)
theorem pgs_names (O' : CxOk X Γ c) : ∀ {es : List Expr} {xs : List Str} {is : List Nat}, namesE es = some xs → idxs c xs = some is → PGs X es (tgsN is) ∧ (assignEach es X.env).length = is.length ∧ (assignEach es X.env).findIdx? (·.1) = none
  | [], xs, is, h1, h2 => by cases h1; cases h2; exact ⟨pgs_nil, rfl, rfl⟩
  | e :: es, xs, is, h1, h2 => by
    cases e with
    | Name x p =>
      unfold namesE at h1
      cases q : namesE es with
      | none => rw [q] at h1; cases h1
      | some xs' =>
        rw [q] at h1
        cases h1
        unfold idxs at h2
        split at h2
        · rename_i hl
          split at h2
          · rename_i i is' hi his
            cases h2
            have l := loc_of O' hl
            obtain ⟨g1, g2, g3⟩ := pgs_names O' q his
            refine ⟨pgs_cons (pg_name (i := i) (by rw [O'.N]; exact O'.nd) (by rw [O'.N]; exact ixOf_get hi) l.1 l.2) g1, ?_, ?_⟩
            · show (assignEach es X.env).length + 1 = _
              rw [g2]; rfl
            · show ((false, assign (.Name x p) X.env) :: assignEach es X.env).findIdx? (·.1) = none
              rw [List.findIdx?_cons]
              simp [g3]
          · cases h2
        · cases h2
    | _ => cases h1
theorem tgsN_run {K : PySem.W.Frag} {He : Hp} {S0 O : List Addr} {σL : St} {H : Hp} {Q : St → Hp → Prop} : ∀ {is : List Nat} {ds : List D} {vs : List V} {ρ : Ro} {σ : St}, is.length = ds.length → RpL K H (O ++ S0) ds vs → SR K He S0 σL ρ σ H O → (∀ σ', SR K He S0 σL (setAll (is.zip ds) ρ) σ' H O → Q σ' H) → tgsN is vs σ H Q
  | [], [], vs, ρ, σ, _, r, sr, q => by
    unfold RpL at r
    exact ⟨r, q σ sr⟩
  | [], _ :: _, _, _, _, hl, _, _, _ => by simp at hl
  | _ :: _, [], _, _, _, hl, _, _, _ => by simp at hl
  | i :: is, d :: ds, vs, ρ, σ, hl, r, sr, q => by
    unfold RpL at r
    obtain ⟨y, ys, rfl, r1, r2⟩ := r
    exact ⟨y, ys, rfl, tgsN_run (by simpa using hl) r2 (sr.setSh i r1) q⟩
def noTup : Expr → Bool
  | .Tuple .. => false
  | _ => true
def fUnp (c : Cz) (f : Ro → Option (Kd × D)) (is : List Nat) (ρ : Ro) : Option Res := match f ρ with
  | some (_, .lst ds) => if is.length = ds.length then some (.nx (setAll (is.zip ds) ρ)) else none
  | some (_, .tup ds) => if is.length = ds.length then some (.nx (setAll (is.zip ds) ρ)) else none
  | _ => none
theorem swapT_sole {es : List Expr} {k : Nat} {tp : Pos} {e : Expr} {n : Nat} {env : Env} : swapsWithSole [.Tuple es k tp] e n env = pure false := by
  cases e <;> rfl
theorem swapT_st {es : List Expr} {k : Nat} {tp : Pos} {e : Expr} {env : Env} (h : noTup e = true) : swappedStores [.Tuple es k tp] e env = pure none := by
  cases e <;> first | rfl | cases h
theorem s_unp (O' : CxOk X Γ c) {f : Ro → Option (Kd × D)} {es : List Expr} {xs : List Str} {is : List Nat} {k : Nat} {e : Expr} {tp pos : Pos} (hf : SndE X f e) (h1 : namesE es = some xs) (h2 : idxs c xs = some is) (hn : noTup e = true) : SndS X (fUnp c f is) (.Assign [.Tuple es k tp] e pos) := by
  intro ρ r h He S0 σL σ H O Dn sr q
  obtain ⟨g1, g2, g3⟩ := pgs_names O' h1 h2
  unfold fUnp at h
  split at h
  · rename_i kk ds he
    split at h
    · rename_i hl
      cases h
      refine ps_le (ps_asg pe_w (pg_lst O'.calm g1 g2 g3) swapT_sole (swapT_st hn)) (hf ρ _ _ he _ σ H _ sr.se fun v H1 s1 r1 => ?_)
      obtain ⟨a, us, rfl, g, rr⟩ := r1.top
      exact ⟨a, us, rfl, .of g, by rw [rr.len, hl], tgsN_run hl rr (sr.same s1) fun σ' sr' => q σ' H1 O sr' (FrO.same s1)⟩
    · cases h
  · rename_i kk ds he
    split at h
    · rename_i hl
      cases h
      refine ps_le (ps_asg pe_w (pg_tup O'.calm g1 g2 g3) swapT_sole (swapT_st hn)) (hf ρ _ _ he _ σ H _ sr.se fun v H1 s1 r1 => ?_)
      obtain ⟨a, us, rfl, g, rr⟩ := r1.top
      exact ⟨a, us, rfl, .of g, by rw [rr.len, hl], tgsN_run hl rr (sr.same s1) fun σ' sr' => q σ' H1 O sr' (FrO.same s1)⟩
    · cases h
  · cases h
end
end G
set_option Elab.async false
set_option linter.all false
set_option maxRecDepth 100000
set_option maxHeartbeats 4000000
set_option autoImplicit false
namespace G
open PySem PySem.Spec L2
section
variable {X : Cx} {Γ : Tab} {c : Cz}
/-! ### x += e (ints); return of a list that a slot owns -/
def fAug (c : Cz) (f : Ro → Option (Kd × D)) (x : Str) (ρ : Ro) : Option Res :=
  if locB c x then
    match ixOf x c.N, f ρ with
    | some i, some (_, .int b) => (match ρ[i]? with
      | some (some (.sh (.int a))) => some (.nx (ρ.set i (some (.sh (.int (a + b))))))
      | _ => none)
    | _, _ => none
  else none
theorem s_aug (O' : CxOk X Γ c) {f : Ro → Option (Kd × D)} {x : Str} {e : Expr} {p pos : Pos} (hf : SndE X f e) : SndS X (fAug c f x) (.AugAssign (.Name x p) .Add e pos) := by
  intro ρ r h He S0 σL σ H O Dn sr q
  unfold fAug at h
  split at h
  · rename_i hl
    have l := loc_of O' hl
    split at h
    · rename_i i k b hi he
      split at h
      · rename_i a hs
        cases h
        obtain ⟨v, e1, e2⟩ := sr.se.slot i _ hs
        have e3 : v = .int a := (VR.top e2).int
        subst e3
        refine ps_le (ps_aug (i := i) (by rw [O'.N]; exact O'.nd) (by rw [O'.N]; exact ixOf_get hi) l.1 pe_w ip_add l.2) ⟨_, e1, hf ρ _ _ he _ σ H _ sr.se fun y H1 s1 r1 => ?_⟩
        exact ⟨a, b, rfl, r1.top.int, q _ H1 O ((sr.same s1).setSh i (by unfold Rp; rfl)) (FrO.same s1)⟩
      · cases h
    · cases h
  · cases h
def fRetN (c : Cz) (f : Ro → Option (Kd × D)) (x : Str) (ρ : Ro) : Option Res :=
  match ixOf x c.N with
  | some i => (match ρ[i]? with
    | some (some (.ow ds)) => if visB c.sc x && nameOk x then some (.rt .fr (.lst ds)) else none
    | _ => fRet f ρ)
  | none => none
theorem s_retN (O' : CxOk X Γ c) {f : Ro → Option (Kd × D)} {x : Str} {p pos : Pos} (hf : SndE X f (.Name x p)) : SndS X (fRetN c f x) (.Return (some (.Name x p)) pos) := by
  intro ρ r h He S0 σL σ H O Dn sr q
  unfold fRetN at h
  split at h
  · rename_i i hi
    split at h
    · rename_i ds hs
      split at h
      · rename_i hv
        simp only [Bool.and_eq_true] at hv
        cases h
        have hd := hv.2
        simp only [nameOk, Bool.and_eq_true, Bool.not_eq_true'] at hd
        obtain ⟨v, e1, a, us, rfl, g, rr⟩ := sr.se.slot i _ hs
        obtain ⟨b, e2, hb⟩ := sr.own i ds hs
        rw [e1] at e2
        cases e2
        refine ps_le (ps_ret (pe_var (i := i) (by rw [O'.N]; exact ixOf_get hi) (by rw [O'.sc]; exact visB_ok hv.1) hd.1 hd.2)) ⟨_, e1, q _ H sr.inc ⟨a, us, rfl, sr.ent a hb, g, rr.weak fun z hz => ?_⟩⟩
        rcases List.mem_cons.mp hz with rfl | hz
        · exact List.mem_append_left _ hb
        · exact List.mem_append_right _ hz
      · cases h
    · exact s_ret hf ρ r h He S0 σL σ H O Dn sr q
  · cases h
end
section
variable {X : Cx} {Γ : Tab} {c : Cz}
/-! ### while -/
def fWhl (ft : Ro → Option Bool) (fb : Ro → Option Res) : Nat → Ro → Option Res
  | 0, _ => none
  | n + 1, ρ => match ft ρ with
    | some false => some (.nx ρ)
    | some true => (match fb ρ with
      | some (.nx ρ2) => fWhl ft fb n ρ2
      | some (.ct ρ2) => fWhl ft fb n ρ2
      | some (.bk ρ2) => some (.nx ρ2)
      | some (.rt k d) => some (.rt k d)
      | none => none)
    | none => none
theorem s_whl (hp : PassesOwn (model X.prog X.w) X.A X.env X.xe) {ft : Ro → Option Bool} {fb : Ro → Option Res} {t : Expr} {body : List Stmt} {pos : Pos} (ht : SndT X ft t) (hb : SndB X fb body) (n : Nat) : SndS X (fWhl ft fb n) (.While t body [] pos) := by
  intro ρ r h He S0 σL σ H O Dn sr q
  refine ps_le (ps_while hp pt_w pss_w) ⟨fun m σ' H' => ∃ ρ' O1, SR X.K He S0 σL ρ' σ' H' O1 ∧ FrO O H H' O1 ∧ fWhl ft fb m ρ' = some r, ⟨n, ρ, O, sr, FrO.refl O H, h⟩, ?_⟩
  rintro m σ' H' ⟨ρ', O1, sr', fr', hr⟩
  cases m with
  | zero => cases hr
  | succ m =>
    unfold fWhl at hr
    split at hr
    · rename_i e
      cases hr
      exact ht ρ' _ e _ σ' H' _ sr'.se fun H1 s1 => by
        rw [if_neg (by decide)]
        exact q σ' H1 O1 (sr'.same s1) (fr'.trans (FrO.same s1))
    · rename_i e
      refine ht ρ' _ e _ σ' H' _ sr'.se fun H1 s1 => ?_
      rw [if_pos rfl]
      refine ⟨fun σ2 H2 => ∃ ρ2 O2, SR X.K He S0 σL ρ2 σ2 H2 O2 ∧ FrO O H H2 O2 ∧ fWhl ft fb m ρ2 = some r, fun σ2 H2 hN => ⟨m, Nat.lt_succ_self m, hN⟩, ?_⟩
      have sr1 := sr'.same s1
      have fr1 := fr'.trans (FrO.same (O := O1) s1)
      split at hr
      · rename_i ρ2 hbody
        exact hb _ _ hbody He S0 σL σ' H1 O1 _ sr1 fun σ4 H4 O4 sr4 fr4 => ⟨ρ2, O4, sr4, fr1.trans fr4, hr⟩
      · rename_i ρ2 hbody
        exact hb _ _ hbody He S0 σL σ' H1 O1 _ sr1 fun σ4 H4 O4 sr4 fr4 => ⟨ρ2, O4, sr4, fr1.trans fr4, hr⟩
      · rename_i ρ2 hbody
        cases hr
        exact hb _ _ hbody He S0 σL σ' H1 O1 _ sr1 fun σ4 H4 O4 sr4 fr4 => q σ4 H4 O4 sr4 (fr1.trans fr4)
      · rename_i k d hbody
        cases hr
        exact hb _ _ hbody He S0 σL σ' H1 O1 _ sr1 q
      · cases hr
    · cases hr
end
end G
set_option Elab.async false
set_option linter.all false
set_option maxRecDepth 100000
set_option maxHeartbeats 4000000
set_option autoImplicit false
namespace G
open PySem PySem.Spec L2
/-! ### a def of the text by the evaluator -/
structure TabF (P : Program) (w : World) (K : PySem.W.Frag) (mg : Str → Option Value) (base : Heap) (Γ : Tab) (k : Nat) : Prop where
  fn : ∀ x φ, Γ.fn x = some φ → ∃ f fd ps, FnOk P w K mg base CX0 k f fd ps (spF K φ) ∧ mg x = some (.ref f) ∧ PySem.W.keepIn K (.ref f) = true ∧ Binds K fd ps [] ∧ (x == ("__debug__" : Str)) = false
  bl : ∀ x ∈ (["len", "isinstance", "int", "bool", "list", "all", "range", "enumerate", "str", "sum", "min", "max", "abs", "tuple"] : List Str), mg x = none
  cst : ∀ x d, Γ.cst x = some d → ∃ u v, mg x = some u ∧ RelV v u ∧ (∀ H S, Rp K H S d v) ∧ (x == ("__debug__" : Str)) = false
def ini (N : List Str) (ds : List D) : Ro := ds.map (fun d => some (.sh d)) ++ List.replicate (N.length - ds.length) none
theorem ini_se {K : PySem.W.Frag} {H : Hp} {S : List Addr} {N : List Str} {ds : List D} {vs : List V} (r : RpL K H S ds vs) (dm : Dom H S) (hl : ds.length ≤ N.length) (σL : St) : SR K H S σL (ini N ds) (start N vs) H [] := by
  have nosl : ∀ (i : Nat) es, (ini N ds)[i]? ≠ some (some (.ow es)) := fun i es e => by
    unfold ini at e
    by_cases hi : i < ds.length
    · rw [List.getElem?_append_left (by simpa using hi), List.getElem?_map, List.getElem?_eq_getElem hi] at e
      cases e
    · rw [List.getElem?_append_right (by simpa using hi), List.getElem?_replicate] at e
      split at e <;> cases e
  have nolk : ∀ (i : Nat) es, (ini N ds)[i]? ≠ some (some (.lk es)) := fun i es e => by
    unfold ini at e
    by_cases hi : i < ds.length
    · rw [List.getElem?_append_left (by simpa using hi), List.getElem?_map, List.getElem?_eq_getElem hi] at e
      cases e
    · rw [List.getElem?_append_right (by simpa using hi), List.getElem?_replicate] at e
      split at e <;> cases e
  refine ⟨⟨fun i sl e => ?_, dm, ?_⟩, fun i es e => absurd e (nosl i es), fun i j es fs a e => absurd e (nosl i es), Same.refl H, (fun b z => by cases z), fun i es e => absurd e (nolk i es), (fun i es a e => absurd e (nolk i es)), fun b z => by cases z⟩
  · unfold ini at e
    by_cases hi : i < ds.length
    · rw [List.getElem?_append_left (by simpa using hi), List.getElem?_map, List.getElem?_eq_getElem hi] at e
      cases e
      obtain ⟨v, e1, e2⟩ := r.getD (List.getElem?_eq_getElem hi)
      refine ⟨v, ?_, e2⟩
      unfold L2.start
      have hv : i < vs.length := by rw [r.len]; exact hi
      rw [List.getElem?_append_left (by simpa using hv), List.getElem?_map, e1]
      rfl
    · rw [List.getElem?_append_right (by simpa using hi), List.getElem?_replicate] at e
      split at e <;> cases e
  · unfold ini L2.start
    have := r.len
    simp only [List.length_append, List.length_map, List.length_replicate]
    omega
/-- the law's promise from its value -/
theorem law_sp {K : PySem.W.Frag} {φ : List D → Option (Kd × D)} {H : Hp} {a : Addr} {ns : List Int} (hS : SqL K H a (ns.map V.int)) (h : φ [.scr ns] = some (.sh, .bl true)) : spF K φ [.ref a] H (fun v _ => v = .bl true) fun _ _ _ => False := by
  refine ⟨[.scr ns], [], .sh, .bl true, .cons ?_ .nil, (fun b z => by cases z), h, fun v H' _ r => ?_⟩
  · unfold Rp
    refine ⟨a, rfl, ?_⟩
    rcases hS with h | h
    · exact .inl ⟨by simp, h⟩
    · exact .inr h
  · exact (VR.top r).bl
end G
set_option Elab.async false
set_option linter.all false
set_option maxRecDepth 100000
set_option maxHeartbeats 4000000
set_option autoImplicit false
namespace G
open PySem PySem.Spec L2
/-! ### the text with its names resolved -/
mutual
inductive IE where
  | var (i : Nat)
  | lit (d : D)
  | bin (op : Operator) (a b : IE)
  | cmp (op : CmpOp) (a b : IE)
  | chain (op op' : CmpOp) (a b d : IE)
  | neg (a : IE)
  | not (a : IE)
  | bool (op : BoolOp) (es : IEs)
  | ifx (t a b : IE)
  | lst (es : IEs)
  | tup (es : IEs)
  | ix (a b : IE)
  | sl (a : IE) (lo hi : IO)
  | rev (a st : IE)
  | dic1 (k v : IE)
  | isi (T : Str) (a : IE)
  | fn (i : Nat) (es : IEs)
  | blt (x : Str) (es : IEs)
  | comp (cap : List (Option Nat)) (tg : IT) (it : II) (elt : IE)
inductive IEs where
  | nil
  | cons (a : IE) (r : IEs)
inductive IO where
  | non
  | som (a : IE)
inductive II where
  | e (a : IE)
  | rng (a : IE)
  | rng2 (a b : IE)
  | enm (a : IE)
inductive IT where
  | nm (i : Nat)
  | pr (i j : Nat)
end
abbrev Fn := List D → Option (Kd × D)
def oBin (op : Operator) (a b : Option (Kd × D)) : Option (Kd × D) := match a, b with
  | some (_, x), some (_, y) => binD op x y
  | _, _ => none
def oCmp (op : CmpOp) (a b : Option (Kd × D)) : Option Bool := match a, b with
  | some (_, x), some (_, y) => cmpD op x y
  | _, _ => none
def oChain (op op' : CmpOp) (a b z : Option (Kd × D)) : Option Bool := match a, b with
  | some (_, x), some (_, y) => match cmpD op x y with
    | some true => (match z with | some (_, z) => cmpD op' y z | none => none)
    | some false => (match op' with | .In => none | .NotIn => none | _ => some false)
    | none => none
  | _, _ => none
def oNeg (a : Option (Kd × D)) : Option (Kd × D) := match a with | some (_, .int i) => some (.sh, .int (-i)) | _ => none
def oNot (a : Option (Kd × D)) : Option (Kd × D) := match a with | some (_, .bl i) => some (.sh, .bl (!i)) | _ => none
def oTru (a : Option (Kd × D)) : Option Bool := match a with | some (_, d) => truD d | none => none
def oIf (t : Option Bool) (a b : Option (Kd × D)) : Option (Kd × D) := match t with | some true => a | some false => b | none => none
def oLst (a : Option (List (Kd × D))) : Option (Kd × D) := match a with | some kds => if noBo kds && decide (kds.length ≤ 100000) then some (.fr, .lst (kds.map (·.2))) else none | none => none
def oTup (a : Option (List (Kd × D))) : Option (Kd × D) := match a with | some kds => if noBo kds && decide (kds.length ≤ 100000) then some (.sh, .tup (kds.map (·.2))) else none | none => none
def oIx (a b : Option (Kd × D)) : Option (Kd × D) := match a, b with
  | some (_, .lst xs), some (_, .int i) => (L2.atI xs i).map fun d => (.sh, d)
  | some (_, .tup xs), some (_, .int i) => (L2.atI xs i).map fun d => (.sh, d)
  | some (_, .scr ns), some (_, .int i) => (L2.atI (ns.map D.int) i).map fun d => (.sh, d)
  | _, _ => none
def oSl (a : Option (Kd × D)) (lo hi : Option (Option Int)) : Option (Kd × D) := match a, lo, hi with
  | some (_, .lst xs), some l, some u => some (.fr, .lst (cutD xs l u))
  | some (_, .scr ns), some l, some u => some (.fr, .lst (cutD (ns.map .int) l u))
  | _, _, _ => none
def oRev (a b : Option (Kd × D)) : Option (Kd × D) := match a, b with
  | some (_, .lst xs), some (_, .int i) => if i = -1 then some (.fr, .lst xs.reverse) else none
  | _, _ => none
def oDic1 (a b : Option (Kd × D)) : Option (Kd × D) := match a, b with
  | some (_, dk), some (kv, d) => if kv ≠ .bo then (keyD dk).map fun k => (.sh, .dic [k] [d]) else none
  | _, _ => none
def oInt (a : Option (Kd × D)) : Option (Option Int) := match a with | some (_, .int i) => some (some i) | _ => none
def oIsi (T : Str) (a : Option (Kd × D)) : Option (Kd × D) := match a with | some (_, d) => bV (isiD T d) | none => none
def oFn (φ : Option Fn) (a : Option (List (Kd × D))) : Option (Kd × D) := match φ, a with | some φ, some kds => fFn φ kds | _, _ => none
def oBlt (x : Str) (a : Option (List (Kd × D))) : Option (Kd × D) := match a with | some kds => fBlt x kds | none => none
def oCons (a : Option (Kd × D)) (r : Option (List (Kd × D))) : Option (List (Kd × D)) := match a, r with | some x, some xs => some (x :: xs) | _, _ => none
def oSeq (a : Option (Kd × D)) : Option (Bool × List D) := match a with | some kd => itOf kd | none => none
def oRng (a : Option (Kd × D)) : Option (Bool × List D) := match a with | some (_, .int j) => if rangeOk 0 j then some (false, (List.range j.toNat).map fun (k : Nat) => D.int (0 + (k : Int))) else none | _ => none
def oRng2 (a b : Option (Kd × D)) : Option (Bool × List D) := match a, b with | some (_, .int i), some (_, .int j) => if rangeOk i j then some (false, (List.range (j - i).toNat).map fun (k : Nat) => D.int (i + (k : Int))) else none | _, _ => none
def oEnm (a : Option (Kd × D)) : Option (Bool × List D) := match a with | some kd => (match seqOf kd with | some (bo, ds) => some (bo, ds.mapIdx fun i d => D.tup [.int i, d]) | none => none) | none => none
def tgI : IT → D → Option (List (Nat × D))
  | .nm i, d => some [(i, d)]
  | .pr i j, .tup [d, e] => some [(i, d), (j, e)]
  | _, _ => none
def eltI (tg : IT) (fe : Ro → Option (Kd × D)) (ρ0 : Ro) (d : D) : Option (Kd × D) :=
  match tgI tg d with
  | some ps => if ps.all (fun p => match ρ0[p.1]? with | some none => true | _ => false) then fe (setAll ps ρ0) else none
  | none => none
def oComp (it : Option (Bool × List D)) (g : D → Option (Kd × D)) : Option (Kd × D) := match it with
  | some (_, ds) => if ds.length ≤ 100000 then (match evMap g ds with | some ys => some (.fr, .lst ys) | none => none) else none
  | none => none
def oVar (o : Option (Option Sl)) : Option (Kd × D) := match o with | some (some sl) => some (slKd sl) | _ => none
mutual
def evI (Γ : Nat → Option Fn) : IE → Ro → Option (Kd × D)
  | .var i, ρ => oVar ρ[i]?
  | .lit d, _ => some (.sh, d)
  | .bin op a b, ρ => oBin op (evI Γ a ρ) (evI Γ b ρ)
  | .cmp op a b, ρ => bV (oCmp op (evI Γ a ρ) (evI Γ b ρ))
  | .chain op op' a b d, ρ => bV (oChain op op' (evI Γ a ρ) (evI Γ b ρ) (evI Γ d ρ))
  | .neg a, ρ => oNeg (evI Γ a ρ)
  | .not a, ρ => oNot (evI Γ a ρ)
  | .bool op es, ρ => evIB Γ op es ρ
  | .ifx t a b, ρ => oIf (evIT Γ t ρ) (evI Γ a ρ) (evI Γ b ρ)
  | .lst es, ρ => oLst (evIs Γ es ρ)
  | .tup es, ρ => oTup (evIs Γ es ρ)
  | .ix a b, ρ => oIx (evI Γ a ρ) (evI Γ b ρ)
  | .sl a lo hi, ρ => oSl (evI Γ a ρ) (evIO Γ lo ρ) (evIO Γ hi ρ)
  | .rev a b, ρ => oRev (evI Γ a ρ) (evI Γ b ρ)
  | .dic1 a b, ρ => oDic1 (evI Γ a ρ) (evI Γ b ρ)
  | .isi T a, ρ => oIsi T (evI Γ a ρ)
  | .fn i es, ρ => oFn (Γ i) (evIs Γ es ρ)
  | .blt x es, ρ => oBlt x (evIs Γ es ρ)
  | .comp cap tg it elt, ρ => oComp (evII Γ it ρ) (eltI tg (evI Γ elt) (capRo ρ cap))
def evIT (Γ : Nat → Option Fn) : IE → Ro → Option Bool
  | .cmp op a b, ρ => oCmp op (evI Γ a ρ) (evI Γ b ρ)
  | .chain op op' a b d, ρ => oChain op op' (evI Γ a ρ) (evI Γ b ρ) (evI Γ d ρ)
  | .not a, ρ => (evIT Γ a ρ).map (!·)
  | .bool op es, ρ => evIBT Γ op es ρ
  | .var i, ρ => oTru (oVar ρ[i]?)
  | .ix a b, ρ => oTru (oIx (evI Γ a ρ) (evI Γ b ρ))
  | .isi T a, ρ => oTru (oIsi T (evI Γ a ρ))
  | .fn i es, ρ => oTru (oFn (Γ i) (evIs Γ es ρ))
  | .blt x es, ρ => oTru (oBlt x (evIs Γ es ρ))
  | _, _ => none
def evIs (Γ : Nat → Option Fn) : IEs → Ro → Option (List (Kd × D))
  | .nil, _ => some []
  | .cons a r, ρ => oCons (evI Γ a ρ) (evIs Γ r ρ)
def evIB (Γ : Nat → Option Fn) (op : BoolOp) : IEs → Ro → Option (Kd × D)
  | .nil, _ => none
  | .cons a r, ρ => match r with
    | .nil => evI Γ a ρ
    | .cons _ _ => (match evI Γ a ρ with
      | some (_, .bl x) => if (op == .And) = x then evIB Γ op r ρ else some (.sh, .bl x)
      | _ => none)
def evIBT (Γ : Nat → Option Fn) (op : BoolOp) : IEs → Ro → Option Bool
  | .nil, _ => none
  | .cons a r, ρ => match r with
    | .nil => evIT Γ a ρ
    | .cons _ _ => (match evIT Γ a ρ with
      | some x => if (op == .And) = x then evIBT Γ op r ρ else some x
      | none => none)
def evIO (Γ : Nat → Option Fn) : IO → Ro → Option (Option Int)
  | .non, _ => some none
  | .som a, ρ => oInt (evI Γ a ρ)
def evII (Γ : Nat → Option Fn) : II → Ro → Option (Bool × List D)
  | .e a, ρ => oSeq (evI Γ a ρ)
  | .rng a, ρ => oRng (evI Γ a ρ)
  | .rng2 a b, ρ => oRng2 (evI Γ a ρ) (evI Γ b ρ)
  | .enm a, ρ => oEnm (evI Γ a ρ)
end
/-! ### resolving -/
structure Nms where
  fns : List Str
  cs : List (Str × D)
def tabOf (fns : Nms) (Γ : Nat → Option Fn) : Tab := ⟨fun x => (ixOf x fns.fns).bind Γ, fun x => fns.cs.lookup x⟩
def cVar (c : Cz) (x : Str) : Option Nat := match ixOf x c.N with | some i => if visB c.sc x && nameOk x then some i else none | none => none
def cTg (c : Cz) : Expr → Option IT
  | .Name x _ => if locB c x then (ixOf x c.N).map .nm else none
  | .Tuple [.Name x _, .Name y _] _ _ => if locB c x && locB c y then (match ixOf x c.N, ixOf y c.N with | some i, some j => some (.pr i j) | _, _ => none) else none
  | _ => none
def cArgs (f : Expr → Option IE) : List Expr → Option IEs
  | [] => some .nil
  | e :: es => if noStar e then (match f e, cArgs f es with | some a, some r => some (.cons a r) | _, _ => none) else none
def cList (f : Expr → Option IE) : List Expr → Option IEs
  | [] => some .nil
  | e :: es => match f e, cList f es with | some a, some r => some (.cons a r) | _, _ => none
def cIt (c : Cz) (f : Expr → Option IE) (tg iter : Expr) : Option II :=
  match iter with
  | .Call (.Name x _) [a] [] _ =>
    if x = "range" then (if glB c.sc "range" && noStar a then (f a).map .rng else none)
    else if x = "enumerate" then (if glB c.sc "enumerate" && noStar a && isTup tg then (f a).map .enm else none)
    else (f iter).map .e
  | .Call (.Name x _) [a, b] [] _ =>
    if x = "range" then (if glB c.sc "range" && noStar a && noStar b then (match f a, f b with | some a, some b => some (.rng2 a b) | _, _ => none) else none)
    else (f iter).map .e
  | _ => (f iter).map .e
def cOpt (f : Expr → Option IE) : Option Expr → Option IO
  | none => some .non
  | some e => (f e).map .som
def cCall (fns : Nms) (c : Cz) (f : Expr → Option IE) (x : Str) (es : List Expr) : Option IE :=
  if glB c.sc x then (match cArgs f es with | some ies => (match ixOf x fns.fns with | some i => some (.fn i ies) | none => some (.blt x ies)) | none => none) else none
/-- the kinds whose truth is the value's -/
def truK : IE → Bool
  | .var _ | .ix .. | .isi .. | .fn .. | .blt .. => true
  | _ => false
def onlyT (o : Option IE) : Option IE := match o with | some ie => if truK ie then some ie else none | none => none
mutual
def cE (fns : Nms) : Nat → Cz → Expr → Option IE
  | 0, _, _ => none
  | n + 1, c, e => match e with
    | .Name x _ => (match ixOf x c.N with | some _ => (cVar c x).map .var | none => if glB c.sc x then (fns.cs.lookup x).map .lit else none)
    | .Constant (.int i) _ _ => some (.lit (.int i))
    | .Constant (.bool i) _ _ => some (.lit (.bl i))
    | .Constant .none _ _ => some (.lit .non)
    | .Constant (.str x) _ _ => some (.lit (.str x))
    | .BinOp a op b _ => match cE fns n c a, cE fns n c b with | some a, some b => some (.bin op a b) | _, _ => none
    | .Compare a [op] [b] _ => match cE fns n c a, cE fns n c b with | some a, some b => some (.cmp op a b) | _, _ => none
    | .Compare a [op, op'] [b, d] _ => match cE fns n c a, cE fns n c b, cE fns n c d with | some a, some b, some d => some (.chain op op' a b d) | _, _, _ => none
    | .UnaryOp .USub a _ => (cE fns n c a).map .neg
    | .UnaryOp .Not a _ => (cE fns n c a).map .not
    | .BoolOp op es _ => (cList (cE fns n c) es).map (.bool op)
    | .IfExp t a b _ => match cT fns n c t, cE fns n c a, cE fns n c b with | some t, some a, some b => some (.ifx t a b) | _, _, _ => none
    | .List es _ => (cArgs (cE fns n c) es).map .lst
    | .Tuple es _ _ => (cArgs (cE fns n c) es).map .tup
    | .Dict [some k] [v] _ => match cE fns n c k, cE fns n c v with | some a, some b => some (.dic1 a b) | _, _ => none
    | .Subscript a (.Slice lo hi none _) _ => match cE fns n c a, cOpt (cE fns n c) lo, cOpt (cE fns n c) hi with | some a, some lo, some hi => some (.sl a lo hi) | _, _, _ => none
    | .Subscript a (.Slice none none (some st) _) _ => match cE fns n c a, cE fns n c st with | some a, some b => some (.rev a b) | _, _ => none
    | .Subscript a b _ => if plainIx b then (match cE fns n c a, cE fns n c b with | some a, some b => some (.ix a b) | _, _ => none) else none
    | .Call (.Name x _) [a, .Name T p] [] _ => if x = "isinstance" then (if glB c.sc "isinstance" && glB c.sc T && noStar a then (cE fns n c a).map (.isi T) else none) else cCall fns c (cE fns n c) x [a, .Name T p]
    | .Call (.Name x _) (a :: es) [] _ => cCall fns c (cE fns n c) x (a :: es)
    | .ListComp elt [⟨tg, iter, [], 0⟩] scope _ => if notSet iter && compChk c scope then (match cTg ⟨relS scope c.sc, namesOf scope, false⟩ tg, cIt c (cE fns n c) tg iter, cE fns n ⟨relS scope c.sc, namesOf scope, false⟩ elt with | some t, some it, some el => some (.comp (capOf c scope) t it el) | _, _, _ => none) else none
    | _ => none
def cT (fns : Nms) : Nat → Cz → Expr → Option IE
  | 0, _, _ => none
  | n + 1, c, e => match e with
    | .Compare a [op] [b] _ => match cE fns n c a, cE fns n c b with | some a, some b => some (.cmp op a b) | _, _ => none
    | .Compare a [op, op'] [b, d] _ => match cE fns n c a, cE fns n c b, cE fns n c d with | some a, some b, some d => some (.chain op op' a b d) | _, _, _ => none
    | .UnaryOp .Not a _ => (cT fns n c a).map .not
    | .BoolOp op es _ => (cList (cT fns n c) es).map (.bool op)
    | .Name x p => onlyT (cE fns n c (.Name x p))
    | .Call f as ks p => onlyT (cE fns n c (.Call f as ks p))
    | .Subscript a b p => onlyT (cE fns n c (.Subscript a b p))
    | _ => none
end
end G
set_option Elab.async false
set_option linter.all false
set_option maxRecDepth 100000
set_option maxHeartbeats 4000000
set_option autoImplicit false
namespace G
open PySem PySem.Spec L2
/-! ### what the resolved text tells, the text tells -/
def Le {α : Type} (a b : Option α) : Prop := ∀ r, a = some r → b = some r
theorem Le.refl {α : Type} (a : Option α) : Le a a := fun _ h => h
theorem Le.or {α : Type} {a b : Option α} (h : Le a b) : a = none ∨ b = a := by
  cases a with
  | none => exact .inl rfl
  | some x => exact .inr (h x rfl)
theorem Le.none {α : Type} (b : Option α) : Le Option.none b := fun _ h => by cases h
theorem oBin_le {op : Operator} {a a' b b' : Option (Kd × D)} (h1 : Le a a') (h2 : Le b b') : Le (oBin op a b) (oBin op a' b') := by
  rcases h1.or with rfl | rfl
  · exact Le.none _
  · rcases h2.or with rfl | rfl
    · cases a' <;> exact Le.none _
    · exact Le.refl _
theorem oCmp_le {op : CmpOp} {a a' b b' : Option (Kd × D)} (h1 : Le a a') (h2 : Le b b') : Le (oCmp op a b) (oCmp op a' b') := by
  rcases h1.or with rfl | rfl
  · exact Le.none _
  · rcases h2.or with rfl | rfl
    · cases a' <;> exact Le.none _
    · exact Le.refl _
theorem bV_le {a a' : Option Bool} (h : Le a a') : Le (bV a) (bV a') := by
  rcases h.or with rfl | rfl
  · exact Le.none _
  · exact Le.refl _
theorem oChain_le {op op' : CmpOp} {a a' b b' z z' : Option (Kd × D)} (h1 : Le a a') (h2 : Le b b') (h3 : Le z z') : Le (oChain op op' a b z) (oChain op op' a' b' z') := by
  rcases h1.or with rfl | rfl
  · exact Le.none _
  · rcases h2.or with rfl | rfl
    · cases a' <;> exact Le.none _
    · rcases h3.or with rfl | rfl
      · intro r h
        cases a' with
        | none => cases h
        | some x =>
          cases b' with
          | none => cases h
          | some y =>
            obtain ⟨k1, x⟩ := x
            obtain ⟨k2, y⟩ := y
            simp only [oChain] at h ⊢
            cases q : cmpD op x y with
            | none => rw [q] at h; cases h
            | some v => cases v with
              | true => rw [q] at h; cases h
              | false => rw [q] at h; exact h
      · exact Le.refl _
theorem oIf_le {t t' : Option Bool} {a a' b b' : Option (Kd × D)} (h : Le t t') (h1 : Le a a') (h2 : Le b b') : Le (oIf t a b) (oIf t' a' b') := by
  rcases h.or with rfl | rfl
  · exact Le.none _
  · intro r e
    cases t' with
    | none => cases e
    | some x => cases x with | true => exact h1 r e | false => exact h2 r e
theorem one_le {α β : Type} (f : Option α → Option β) (hf : f Option.none = Option.none) {a a' : Option α} (h : Le a a') : Le (f a) (f a') := by
  rcases h.or with rfl | rfl
  · rw [hf]; exact Le.none _
  · exact Le.refl _
theorem oIx_le {a a' b b' : Option (Kd × D)} (h1 : Le a a') (h2 : Le b b') : Le (oIx a b) (oIx a' b') := by
  rcases h1.or with rfl | rfl
  · exact Le.none _
  · rcases h2.or with rfl | rfl
    · intro r e
      cases a' with
      | none => cases e
      | some x =>
        obtain ⟨k, d⟩ := x
        cases d <;> cases e
    · exact Le.refl _
theorem oRev_le {a a' b b' : Option (Kd × D)} (h1 : Le a a') (h2 : Le b b') : Le (oRev a b) (oRev a' b') := by
  rcases h1.or with rfl | rfl
  · exact Le.none _
  · rcases h2.or with rfl | rfl
    · intro r e
      cases a' with
      | none => cases e
      | some x =>
        obtain ⟨k, d⟩ := x
        cases d <;> cases e
    · exact Le.refl _
theorem oDic1_le {a a' b b' : Option (Kd × D)} (h1 : Le a a') (h2 : Le b b') : Le (oDic1 a b) (oDic1 a' b') := by
  rcases h1.or with rfl | rfl
  · exact Le.none _
  · rcases h2.or with rfl | rfl
    · cases a' <;> exact Le.none _
    · exact Le.refl _
theorem oCons_le {a a' : Option (Kd × D)} {b b' : Option (List (Kd × D))} (h1 : Le a a') (h2 : Le b b') : Le (oCons a b) (oCons a' b') := by
  rcases h1.or with rfl | rfl
  · exact Le.none _
  · rcases h2.or with rfl | rfl
    · cases a' <;> exact Le.none _
    · exact Le.refl _
theorem oSl_le {a a' : Option (Kd × D)} {b b' c c' : Option (Option Int)} (h1 : Le a a') (h2 : Le b b') (h3 : Le c c') : Le (oSl a b c) (oSl a' b' c') := by
  intro r e
  unfold oSl at e
  split at e
  · rename_i k xs l u
    cases e
    rw [h1 _ rfl, h2 _ rfl, h3 _ rfl]
    rfl
  · rename_i k xs l u
    cases e
    rw [h1 _ rfl, h2 _ rfl, h3 _ rfl]
    rfl
  · cases e
theorem evMap_le {f g : D → Option (Kd × D)} (h : ∀ d, Le (f d) (g d)) : ∀ ds : List D, Le (evMap f ds) (evMap g ds)
  | [], r, e => e
  | d :: ds, r, e => by
    unfold evMap at e ⊢
    split at e
    · rename_i k y ys e1 e2
      rw [h d _ e1, evMap_le h ds _ e2]
      exact e
    · cases e
theorem tgI_eq {c : Cz} {tg : Expr} {t : IT} (h : cTg c tg = some t) (d : D) : Le (tgI t d) (tgts c tg d) := by
  unfold cTg at h
  split at h
  · rename_i x p
    split at h
    · rename_i hl
      cases hi : ixOf x c.N with
      | none => rw [hi] at h; cases h
      | some i =>
        rw [hi] at h
        cases h
        intro r e
        simp only [tgts, hl, if_true, hi]
        exact e
    · cases h
  · rename_i x p y q k tp
    split at h
    · rename_i hl
      split at h
      · rename_i i j hi hj
        cases h
        intro r e
        unfold tgI at e
        split at e
        · rename_i z; cases z
        · rename_i i' j' d' e' z
          cases z
          unfold tgts
          simp only [hl, hi, hj, if_true]
          exact e
        · cases e
      · cases h
    · cases h
  · cases h
theorem eltI_le {c : Cz} {tg : Expr} {t : IT} (h : cTg c tg = some t) {f g : Ro → Option (Kd × D)} (hf : ∀ ρ, Le (f ρ) (g ρ)) (ρ : Ro) (d : D) : Le (eltI t f ρ d) (fElt c g tg ρ d) := by
  intro r e
  unfold eltI at e
  split at e
  · rename_i ps hps
    split at e
    · rename_i ha
      unfold fElt
      rw [tgI_eq h d _ hps]
      exact Eq.trans (if_pos ha) (hf _ r e)
    · cases e
  · cases e
section
variable {fns : Nms} {Γ : Nat → Option Fn} {c : Cz} {ρ : Ro}
variable {cf : Expr → Option IE} {f : Expr → Ro → Option (Kd × D)}
theorem args_le (hf : ∀ e ie, cf e = some ie → ∀ ρ, Le (evI Γ ie ρ) (f e ρ)) : ∀ {es : List Expr} {ies : IEs}, cArgs cf es = some ies → ∀ ρ, Le (evIs Γ ies ρ) (fArgs f es ρ)
  | [], ies, h, ρ => by cases h; exact fun r e => e
  | e :: es, ies, h, ρ => by
    unfold cArgs at h
    split at h
    · rename_i hn
      split at h
      · rename_i a r ha hr
        cases h
        intro x hx
        unfold fArgs
        rw [if_pos hn]
        unfold evIs at hx
        exact oCons_le (hf e a ha ρ) (args_le hf hr ρ) x hx
      · cases h
    · cases h
theorem boolE_le (hf : ∀ e ie, cf e = some ie → ∀ ρ, Le (evI Γ ie ρ) (f e ρ)) (op : BoolOp) : ∀ {es : List Expr} {ies : IEs}, cList cf es = some ies → ∀ ρ, Le (evIB Γ op ies ρ) (fBoolE f op es ρ)
  | [], ies, h, ρ => by cases h; exact fun r e => by (unfold evIB at e; cases e)
  | [a], ies, h, ρ => by
    unfold cList at h
    split at h
    · rename_i x r hx hr
      cases hr
      cases h
      intro y hy
      unfold evIB at hy
      exact hf a x hx ρ y hy
    · cases h
  | a :: b :: es, ies, h, ρ => by
    unfold cList at h
    split at h
    · rename_i x r hx hr
      cases h
      have ih := boolE_le hf op (es := b :: es) hr ρ
      intro y hy
      have hr' := hr
      unfold cList at hr'
      split at hr'
      · rename_i x2 r2 _ _
        cases hr'
        unfold evIB at hy
        dsimp only at hy
        split at hy
        · rename_i k z ez
          unfold fBoolE
          rw [hf a x hx ρ _ ez]
          dsimp only
          split at hy
          · rename_i hz
            rw [if_pos hz]
            exact ih y hy
          · rename_i hz
            rw [if_neg hz]
            exact hy
        · cases hy
      · cases hr'
    · cases h
theorem boolT_le {ft : Expr → Ro → Option Bool} (hf : ∀ e ie, cf e = some ie → ∀ ρ, Le (evIT Γ ie ρ) (ft e ρ)) (op : BoolOp) : ∀ {es : List Expr} {ies : IEs}, cList cf es = some ies → ∀ ρ, Le (evIBT Γ op ies ρ) (fBoolT ft op es ρ)
  | [], ies, h, ρ => by cases h; exact fun r e => by (unfold evIBT at e; cases e)
  | [a], ies, h, ρ => by
    unfold cList at h
    split at h
    · rename_i x r hx hr
      cases hr
      cases h
      intro y hy
      unfold evIBT at hy
      exact hf a x hx ρ y hy
    · cases h
  | a :: b :: es, ies, h, ρ => by
    unfold cList at h
    split at h
    · rename_i x r hx hr
      cases h
      have ih := boolT_le hf op (es := b :: es) hr ρ
      intro y hy
      have hr' := hr
      unfold cList at hr'
      split at hr'
      · rename_i x2 r2 _ _
        cases hr'
        unfold evIBT at hy
        dsimp only at hy
        split at hy
        · rename_i z ez
          unfold fBoolT
          rw [hf a x hx ρ _ ez]
          dsimp only
          split at hy
          · rename_i hz
            rw [if_pos hz]
            exact ih y hy
          · rename_i hz
            rw [if_neg hz]
            exact hy
        · cases hy
      · cases hr'
    · cases h
theorem mapS {α β : Type} {o : Option α} {g : α → β} {b : β} (h : o.map g = some b) : ∃ a, o = some a ∧ b = g a := by
  cases o with
  | none => cases h
  | some a => cases h; exact ⟨a, rfl, rfl⟩
theorem opt_le (hf : ∀ e ie, cf e = some ie → ∀ ρ, Le (evI Γ ie ρ) (f e ρ)) {o : Option Expr} {io : IO} (h : cOpt cf o = some io) (ρ : Ro) : Le (evIO Γ io ρ) (fOpt f o ρ) := by
  cases o with
  | none => cases h; exact fun r e => e
  | some e =>
    obtain ⟨a, ha, rfl⟩ := mapS h
    intro r hr
    unfold evIO at hr
    exact one_le oInt rfl (hf e a ha ρ) r hr
theorem it_le (hf : ∀ e ie, cf e = some ie → ∀ ρ, Le (evI Γ ie ρ) (f e ρ)) {tg iter : Expr} {it : II} (h : cIt c cf tg iter = some it) (ρ : Ro) : Le (evII Γ it ρ) (fIt c f tg iter ρ) := by
  have el : ∀ {e : Expr} {it : II}, (cf e).map .e = some it → Le (evII Γ it ρ) (match f e ρ with | some kd => itOf kd | none => none) := fun {e it} h => by
    obtain ⟨a, ha, rfl⟩ := mapS h
    intro r hr
    unfold evII at hr
    exact one_le oSeq rfl (hf e a ha ρ) r hr
  unfold cIt at h
  split at h
  · rename_i x p a pos
    split at h
    · rename_i hx
      split at h
      · rename_i hg
        obtain ⟨a', ha, rfl⟩ := mapS h
        intro r hr
        unfold evII at hr
        unfold fIt
        dsimp only
        rw [if_pos hx, if_pos hg]
        exact one_le oRng rfl (hf a a' ha ρ) r hr
      · cases h
    · rename_i hx
      split at h
      · rename_i hx2
        split at h
        · rename_i hg
          obtain ⟨a', ha, rfl⟩ := mapS h
          intro r hr
          unfold evII at hr
          unfold fIt
          dsimp only
          rw [if_neg hx, if_pos hx2, if_pos hg]
          exact one_le oEnm rfl (hf a a' ha ρ) r hr
        · cases h
      · rename_i hx2
        intro r hr
        unfold fIt
        dsimp only
        rw [if_neg hx, if_neg hx2]
        exact el h r hr
  · rename_i x p a b pos
    split at h
    · rename_i hx
      split at h
      · rename_i hg
        split at h
        · rename_i a' b' ha hb
          cases h
          intro r hr
          unfold evII at hr
          unfold fIt
          dsimp only
          rw [if_pos hx, if_pos hg]
          unfold oRng2 at hr
          split at hr
          · rename_i k1 i k2 j e1 e2
            rw [hf a a' ha ρ _ e1, hf b b' hb ρ _ e2]
            exact hr
          · cases hr
        · cases h
      · cases h
    · rename_i hx
      intro r hr
      unfold fIt
      dsimp only
      rw [if_neg hx]
      exact el h r hr
  · rename_i h1 h2
    intro r hr
    unfold fIt
    split
    · exact absurd rfl (h1 _ _ _ _)
    · exact absurd rfl (h2 _ _ _ _ _)
    · exact el h r hr
theorem call_le (hf : ∀ e ie, cf e = some ie → ∀ ρ, Le (evI Γ ie ρ) (f e ρ)) {x : Str} {a : Expr} {es : List Expr} {ie : IE} (h : cCall fns c cf x (a :: es) = some ie) (ρ : Ro) : Le (evI Γ ie ρ) (fCall (tabOf fns Γ) c f x a es ρ) := by
  unfold cCall at h
  split at h
  · rename_i hg
    split at h
    · rename_i ies hi
      have ha := args_le hf hi ρ
      split at h
      · rename_i i hx
        cases h
        intro r hr
        unfold evI at hr
        unfold oFn at hr
        split at hr
        · rename_i φ kds e1 e2
          unfold fCall
          rw [if_pos hg, ha _ e2]
          have : (tabOf fns Γ).fn x = some φ := by show (ixOf x fns.fns).bind Γ = _; rw [hx]; exact e1
          simp only [this]
          exact hr
        · cases hr
      · rename_i hx
        cases h
        intro r hr
        unfold evI at hr
        unfold oBlt at hr
        split at hr
        · rename_i kds e2
          unfold fCall
          rw [if_pos hg, ha _ e2]
          have : (tabOf fns Γ).fn x = none := by show (ixOf x fns.fns).bind Γ = _; rw [hx]; rfl
          simp only [this]
          exact hr
        · cases hr
    · cases h
  · cases h
end
theorem truK_ok {Γ : Nat → Option Fn} {ie : IE} {ρ : Ro} (h : truK ie = true) : Le (evIT Γ ie ρ) (oTru (evI Γ ie ρ)) := by
  intro r e
  cases ie with
  | var i => unfold evIT at e; unfold evI; exact e
  | ix a b => unfold evIT at e; unfold evI; exact e
  | isi a b => unfold evIT at e; unfold evI; exact e
  | fn a b => unfold evIT at e; unfold evI; exact e
  | blt a b => unfold evIT at e; unfold evI; exact e
  | _ => cases h
theorem onlyT_ok {o : Option IE} {ie : IE} (h : onlyT o = some ie) : o = some ie ∧ truK ie = true := by
  unfold onlyT at h
  split at h
  · split at h
    · rename_i k; cases h; exact ⟨rfl, k⟩
    · cases h
  · cases h
end G
set_option Elab.async false
set_option linter.all false
set_option maxRecDepth 100000
set_option maxHeartbeats 4000000
set_option autoImplicit false
namespace G
open PySem PySem.Spec L2
theorem SndE.of_le {X : Cx} {f g : Ro → Option (Kd × D)} {e : Expr} (h : ∀ ρ, Le (f ρ) (g ρ)) (s : SndE X g e) : SndE X f e := fun ρ k d q => s ρ k d (h ρ _ q)
theorem SndT.of_le {X : Cx} {f g : Ro → Option Bool} {e : Expr} (h : ∀ ρ, Le (f ρ) (g ρ)) (s : SndT X g e) : SndT X f e := fun ρ b q => s ρ b (h ρ _ q)
theorem SndI.of_le {X : Cx} {f g : Ro → Option (Bool × List D)} {tg e : Expr} (h : ∀ ρ, Le (f ρ) (g ρ)) (s : SndI X g tg e) : SndI X f tg e := fun ρ b ds q => s ρ b ds (h ρ _ q)
section
variable (fns : Nms) (Γ : Nat → Option Fn)
/-- an expression by what it is resolved to -/
def fO (n : Nat) (c : Cz) (e : Expr) (ρ : Ro) : Option (Kd × D) := match cE fns n c e with | some ie => evI Γ ie ρ | none => none
def fOT (n : Nat) (c : Cz) (e : Expr) (ρ : Ro) : Option Bool := match cT fns n c e with | some ie => evIT Γ ie ρ | none => none
theorem fO_le {n : Nat} {c : Cz} (e : Expr) (ie : IE) (h : cE fns n c e = some ie) (ρ : Ro) : Le (evI Γ ie ρ) (fO fns Γ n c e ρ) := by
  unfold fO
  rw [h]
  exact Le.refl _
theorem fOT_le {n : Nat} {c : Cz} (e : Expr) (ie : IE) (h : cT fns n c e = some ie) (ρ : Ro) : Le (evIT Γ ie ρ) (fOT fns Γ n c e ρ) := by
  unfold fOT
  rw [h]
  exact Le.refl _
/-- what the resolved text tells is sound -/
theorem snd_both : ∀ n : Nat, (∀ X c, CxOk X (tabOf fns Γ) c → ∀ e ie, cE fns n c e = some ie → SndE X (evI Γ ie) e) ∧ (∀ X c, CxOk X (tabOf fns Γ) c → ∀ e ie, cT fns n c e = some ie → SndT X (evIT Γ ie) e)
  | 0 => ⟨fun X c O e ie h => by (unfold cE at h; cases h), fun X c O e ie h => by (unfold cT at h; cases h)⟩
  | n + 1 => by
    obtain ⟨ihE, ihT⟩ := snd_both n
    have hO : ∀ X c, CxOk X (tabOf fns Γ) c → ∀ e, SndE X (fO fns Γ n c e) e := fun X c O e => by
      cases q : cE fns n c e with
      | none => intro ρ k d h; unfold fO at h; rw [q] at h; cases h
      | some ie => intro ρ k d h; unfold fO at h; rw [q] at h; exact ihE X c O e ie q ρ k d h
    have hOT : ∀ X c, CxOk X (tabOf fns Γ) c → ∀ e, SndT X (fOT fns Γ n c e) e := fun X c O e => by
      cases q : cT fns n c e with
      | none => intro ρ k h; unfold fOT at h; rw [q] at h; cases h
      | some ie => intro ρ k h; unfold fOT at h; rw [q] at h; exact ihT X c O e ie q ρ k h
    refine ⟨fun X c O e ie h => ?_, fun X c O e ie h => ?_⟩
    · have hE := ihE X c O
      have hT := ihT X c O
      have hF := hO X c O
      have le := fO_le fns Γ (n := n) (c := c)
      unfold cE at h
      split at h
      · rename_i x p
        refine SndE.of_le (fun ρ => ?_) (s_nm O x p)
        cases hj : ixOf x c.N with
        | some j =>
          rw [hj] at h
          obtain ⟨i, hi, rfl⟩ := mapS h
          unfold cVar at hi
          rw [hj] at hi
          by_cases hv : (visB c.sc x && nameOk x) = true
          · have : some j = some i := (if_pos hv).symm.trans hi
            cases this
            intro r hr
            unfold evI at hr
            simp only [fNm, fVar, hj, hv, if_true]
            exact hr
          · have : none = some i := (if_neg hv).symm.trans hi
            cases this
        | none =>
          rw [hj] at h
          by_cases hg : glB c.sc x = true
          · have h' : (fns.cs.lookup x).map IE.lit = some ie := (if_pos hg).symm.trans h
            obtain ⟨d, hd, rfl⟩ := mapS h'
            intro r hr
            unfold evI at hr
            have hc : (tabOf fns Γ).cst x = some d := hd
            simp only [fNm, hj, hg, if_true, hc]
            exact hr
          · have : none = some ie := (if_neg hg).symm.trans h
            cases this
      · cases h; exact SndE.of_le (fun ρ r hr => by (unfold evI at hr; exact hr)) (s_int _ _ _)
      · cases h; exact SndE.of_le (fun ρ r hr => by (unfold evI at hr; exact hr)) (s_bl _ _ _)
      · cases h; exact SndE.of_le (fun ρ r hr => by (unfold evI at hr; exact hr)) (s_non _ _)
      · cases h; exact SndE.of_le (fun ρ r hr => by (unfold evI at hr; exact hr)) (s_str _ _ _)
      · split at h
        · rename_i a' b' ha hb
          cases h
          exact SndE.of_le (fun ρ r hr => by (unfold evI at hr; exact hr)) (s_bin (hE _ _ ha) (hE _ _ hb))
        · cases h
      · split at h
        · rename_i a' b' ha hb
          cases h
          exact SndE.of_le (fun ρ r hr => by (unfold evI at hr; exact hr)) (s_cmp O (hE _ _ ha) (hE _ _ hb))
        · cases h
      · split at h
        · rename_i a' b' d' ha hb hd
          cases h
          exact SndE.of_le (fun ρ r hr => by (unfold evI at hr; exact hr)) (s_chain O (hE _ _ ha) (hE _ _ hb) (hE _ _ hd))
        · cases h
      · obtain ⟨a', ha, rfl⟩ := mapS h
        exact SndE.of_le (fun ρ r hr => by (unfold evI at hr; exact hr)) (s_neg (hE _ _ ha))
      · obtain ⟨a', ha, rfl⟩ := mapS h
        exact SndE.of_le (fun ρ r hr => by (unfold evI at hr; exact hr)) (s_not (hE _ _ ha))
      · obtain ⟨a', ha, rfl⟩ := mapS h
        exact SndE.of_le (fun ρ r hr => by (unfold evI at hr; exact boolE_le le _ ha ρ r hr)) (s_bool hF _ _ _)
      · split at h
        · rename_i t' a' b' ht ha hb
          cases h
          exact SndE.of_le (fun ρ r hr => by (unfold evI at hr; exact hr)) (s_if (hT _ _ ht) (hE _ _ ha) (hE _ _ hb))
        · cases h
      · obtain ⟨a', ha, rfl⟩ := mapS h
        exact SndE.of_le (fun ρ r hr => by (unfold evI at hr; exact one_le oLst rfl (args_le le ha ρ) r hr)) (s_lst (s_args hF _))
      · obtain ⟨a', ha, rfl⟩ := mapS h
        exact SndE.of_le (fun ρ r hr => by (unfold evI at hr; exact one_le oTup rfl (args_le le ha ρ) r hr)) (s_tup (s_args hF _))
      · split at h
        · rename_i a' b' ha hb
          cases h
          exact SndE.of_le (fun ρ r hr => by (unfold evI at hr; exact hr)) (s_dic1 (hE _ _ ha) (hE _ _ hb))
        · cases h
      · split at h
        · rename_i a' lo' hi' ha hlo hhi
          cases h
          exact SndE.of_le (fun ρ r hr => by (unfold evI at hr; exact oSl_le (le _ _ ha ρ) (opt_le le hlo ρ) (opt_le le hhi ρ) r hr)) (s_sl hF)
        · cases h
      · split at h
        · rename_i a' b' ha hb
          cases h
          exact SndE.of_le (fun ρ r hr => by (unfold evI at hr; exact hr)) (s_rev (hE _ _ ha) (hE _ _ hb))
        · cases h
      · split at h
        · rename_i hp
          split at h
          · rename_i a' b' ha hb
            cases h
            exact SndE.of_le (fun ρ r hr => by (unfold evI at hr; exact hr)) (s_ix (hE _ _ ha) (hE _ _ hb) hp)
          · cases h
        · cases h
      · split at h
        · rename_i hx
          subst hx
          split at h
          · rename_i hg
            obtain ⟨a', ha, rfl⟩ := mapS h
            refine SndE.of_le (fun ρ r hr => ?_) (s_isi O hF)
            unfold evI at hr
            unfold fIsi
            rw [if_pos hg]
            exact one_le (oIsi _) rfl (le _ _ ha ρ) r hr
          · cases h
        · exact SndE.of_le (fun ρ => call_le le h ρ) (s_call O hF)
      · exact SndE.of_le (fun ρ => call_le le h ρ) (s_call O hF)
      · split at h
        · rename_i hn
          simp only [Bool.and_eq_true] at hn
          split at h
          · rename_i t it el ht hit hel
            cases h
            refine SndE.of_le (fun ρ r hr => ?_) (s_comp O hF (fe := fun c' e' => fO fns Γ n c' e') (fun X' c' O' => hO X' c' O' _) (notSet_ok hn.1))
            unfold evI at hr
            unfold fComp
            rw [if_pos hn.2]
            unfold oComp at hr
            split at hr
            · rename_i bo ds hds
              rw [it_le le hit ρ _ hds]
              split at hr
              · rename_i hl
                dsimp only
                rw [if_pos hl]
                split at hr
                · rename_i ys hys
                  cases hr
                  rw [evMap_le (fun d => eltI_le ht (fun ρ => fO_le fns Γ _ _ hel ρ) _ d) ds _ hys]
                · cases hr
              · cases hr
            · cases hr
          · cases h
        · cases h
      · cases h
    · have hE := ihE X c O
      have hT := ihT X c O
      have hFT := hOT X c O
      have le := fOT_le fns Γ (n := n) (c := c)
      unfold cT at h
      split at h
      · split at h
        · rename_i a' b' ha hb
          cases h
          exact SndT.of_le (fun ρ r hr => by (unfold evIT at hr; exact hr)) (t_cmp O (hE _ _ ha) (hE _ _ hb))
        · cases h
      · split at h
        · rename_i a' b' d' ha hb hd
          cases h
          exact SndT.of_le (fun ρ r hr => by (unfold evIT at hr; exact hr)) (t_chain O (hE _ _ ha) (hE _ _ hb) (hE _ _ hd))
        · cases h
      · obtain ⟨a', ha, rfl⟩ := mapS h
        exact SndT.of_le (fun ρ r hr => by (unfold evIT at hr; exact hr)) (t_not (hT _ _ ha))
      · obtain ⟨a', ha, rfl⟩ := mapS h
        exact SndT.of_le (fun ρ r hr => by (unfold evIT at hr; exact boolT_le le _ ha ρ r hr)) (fun ρ b h S σ H Q se q => fun pins s I => w_bool hFT _ _ _ ρ b h S σ H Q se q _ pins s I)
      · obtain ⟨h1, h2⟩ := onlyT_ok h
        exact SndT.of_le (fun ρ => truK_ok h2) (t_tru (hE _ _ h1) (fun _ => rfl))
      · obtain ⟨h1, h2⟩ := onlyT_ok h
        exact SndT.of_le (fun ρ => truK_ok h2) (t_tru (hE _ _ h1) (fun _ => rfl))
      · obtain ⟨h1, h2⟩ := onlyT_ok h
        exact SndT.of_le (fun ρ => truK_ok h2) (t_tru (hE _ _ h1) (fun _ => rfl))
      · cases h
theorem hO_ok {n : Nat} {X : Cx} {c : Cz} (O : CxOk X (tabOf fns Γ) c) (e : Expr) : SndE X (fO fns Γ n c e) e := by
  cases q : cE fns n c e with
  | none => intro ρ k d h; unfold fO at h; rw [q] at h; cases h
  | some ie => intro ρ k d h; unfold fO at h; rw [q] at h; exact (snd_both fns Γ n).1 X c O e ie q ρ k d h
end
end G
set_option Elab.async false
set_option linter.all false
set_option maxRecDepth 100000
set_option maxHeartbeats 4000000
set_option autoImplicit false
namespace G
open PySem PySem.Spec L2
/-! ### statements resolved -/
mutual
inductive IS where
  | asg (i : Nat) (e : IE)
  | asgC (i : Nat) (e : IE)
  | set (i : Nat) (b e : IE)
  | aug (i : Nat) (e : IE)
  | app (i : Nat) (e : IE)
  | ifs (t : IE) (a b : ISs)
  | for (l : List Nat) (tg : IT) (it : II) (body : ISs)
  | ret (e : IE)
  | retN (i : Nat)
  | frz (l : List Nat)
  | cont
  | brk
  | pass
  | ext (i : Nat) (e : IE)
  | unp (is : List Nat) (e : IE)
  | whl (t : IE) (body : ISs)
inductive ISs where
  | nil
  | cons (s : IS) (r : ISs)
end
def oAsg (i : Nat) (ρ : Ro) (a : Option (Kd × D)) : Option Res := match a with
  | some (.sh, d) => some (.nx (ρ.set i (some (.sh d))))
  | some (.fr, .lst ds) => some (.nx (ρ.set i (some (.ow ds))))
  | _ => none
def oAsgC (i : Nat) (ρ : Ro) (a : Option (Kd × D)) : Option Res := match a with
  | some (.fr, .lst ds) => some (.nx (ρ.set i (some (.ow ds))))
  | _ => none
def oSet (i : Nat) (ρ : Ro) (o : Option (Option Sl)) (a b : Option (Kd × D)) : Option Res := match a, b with
  | some (k, d), some (_, .int z) => (match o with
    | some (some (.ow ds)) => if k ≠ .bo then (match ixN ds.length z with | some j => some (.nx (ρ.set i (some (.ow (ds.set j d))))) | none => none) else none
    | _ => none)
  | _, _ => none
def oAug (i : Nat) (ρ : Ro) (o : Option (Option Sl)) (a : Option (Kd × D)) : Option Res := match a with
  | some (_, .int b) => (match o with
    | some (some (.sh (.int a))) => some (.nx (ρ.set i (some (.sh (.int (a + b))))))
    | _ => none)
  | _ => none
def oApp (i : Nat) (ρ : Ro) (o : Option (Option Sl)) (a : Option (Kd × D)) : Option Res := match a with
  | some (k, d) => (match o with
    | some (some (.ow ds)) => if k ≠ .bo ∧ ds.length < 100000 then some (.nx (ρ.set i (some (.ow (ds ++ [d]))))) else none
    | _ => none)
  | _ => none
def oExt (i : Nat) (ρ : Ro) (o : Option (Option Sl)) (a : Option (Kd × D)) : Option Res := match a with
  | some (_, .lst es) => (match o with
    | some (some (.ow ds)) => if ds.length + es.length ≤ 100000 then some (.nx (ρ.set i (some (.ow (ds ++ es))))) else none
    | _ => none)
  | _ => none
def oUnp (is : List Nat) (ρ : Ro) (a : Option (Kd × D)) : Option Res := match a with
  | some (_, .lst ds) => if is.length = ds.length then some (.nx (setAll (is.zip ds) ρ)) else none
  | some (_, .tup ds) => if is.length = ds.length then some (.nx (setAll (is.zip ds) ρ)) else none
  | _ => none
/-- how many turns of a while are gone through at most -/
def whlMost : Nat := 100000
def oRet (a : Option (Kd × D)) : Option Res := match a with
  | some (.sh, d) => some (.rt .sh d)
  | some (.fr, d) => some (.rt .fr d)
  | none => none
  | _ => none
def oRetN (o : Option (Option Sl)) : Option Res := match o with
  | some (some (.ow ds)) => some (.rt .fr (.lst ds))
  | _ => oRet (oVar o)
def oIfS (t : Option Bool) (a b : Option Res) : Option Res := match t with | some true => a | some false => b | none => none
def forI (l : List Nat) (tg : IT) (fb : Ro → Option Res) : List D → Ro → Option Res
  | [], ρ => some (.nx ρ)
  | d :: ds, ρ => match tgI tg d with
    | some ps => (match fb (setAll ps (forget l ρ)) with
      | some (.nx ρ2) => forI l tg fb ds ρ2
      | some (.ct ρ2) => forI l tg fb ds ρ2
      | some (.bk ρ2) => some (.nx ρ2)
      | some (.rt k d) => some (.rt k d)
      | none => none)
    | none => none
def oFor (l : List Nat) (tg : IT) (fb : Ro → Option Res) (it : Option (Bool × List D)) (ρ : Ro) : Option Res := match it with
  | some (false, ds) => forI l tg fb ds ρ
  | some (true, ds) => oUnl ρ (forI l tg fb ds (lock ρ))
  | none => none
mutual
def exI (Γ : Nat → Option Fn) : IS → Ro → Option Res
  | .asg i e, ρ => oAsg i ρ (evI Γ e ρ)
  | .asgC i e, ρ => oAsgC i ρ (evI Γ e ρ)
  | .set i b e, ρ => oSet i ρ ρ[i]? (evI Γ e ρ) (evI Γ b ρ)
  | .aug i e, ρ => oAug i ρ ρ[i]? (evI Γ e ρ)
  | .app i e, ρ => oApp i ρ ρ[i]? (evI Γ e ρ)
  | .ifs t a b, ρ => oIfS (evIT Γ t ρ) (exIs Γ a ρ) (exIs Γ b ρ)
  | .for l tg it body, ρ => oFor l tg (exIs Γ body) (evII Γ it ρ) ρ
  | .ret e, ρ => oRet (evI Γ e ρ)
  | .retN i, ρ => oRetN ρ[i]?
  | .frz l, ρ => some (.nx (frz l ρ))
  | .cont, ρ => some (.ct ρ)
  | .brk, ρ => some (.bk ρ)
  | .pass, ρ => some (.nx ρ)
  | .ext i e, ρ => oExt i ρ ρ[i]? (evI Γ e ρ)
  | .unp is e, ρ => oUnp is ρ (evI Γ e ρ)
  | .whl t body, ρ => fWhl (evIT Γ t) (exIs Γ body) whlMost ρ
def exIs (Γ : Nat → Option Fn) : ISs → Ro → Option Res
  | .nil, ρ => some (.nx ρ)
  | .cons s r, ρ => match exI Γ s ρ with
    | some (.nx ρ') => exIs Γ r ρ'
    | some (.rt k d) => some (.rt k d)
    | some (.ct ρ') => some (.ct ρ')
    | some (.bk ρ') => some (.bk ρ')
    | none => none
end
def lineOf : Stmt → Nat
  | .Assign _ _ p => p.line
  | .AugAssign _ _ _ p => p.line
  | .Expr _ p => p.line
  | .Return _ p => p.line
  | _ => 0
def cSs (z : Stmt → List Nat) (f : Stmt → Option IS) : List Stmt → Option ISs
  | [] => some .nil
  | s :: r => match f s, cSs z f r with | some a, some b => some (if z s = [] then .cons a b else .cons (.frz (z s)) (.cons a b)) | _, _ => none
def cS (fns : Nms) (fg : Nat → List Nat) (fz : Stmt → List Nat) : Nat → Cz → Stmt → Option IS
  | 0, _, _ => none
  | n + 1, c, s => match s with
    | .Assign [.Name x _] (.ListComp elt [⟨tg, iter, [], 0⟩] scope cp) _ => if locB c x then (match ixOf x c.N, cE fns n c (.ListComp elt [⟨tg, iter, [], 0⟩] scope cp) with | some i, some a => some (.asgC i a) | _, _ => none) else none
    | .Assign [.Name x _] e _ => if locB c x && noComp e then (match ixOf x c.N, cE fns n c e with | some i, some a => some (.asg i a) | _, _ => none) else none
    | .Assign [.Subscript (.Name x _) b _] e _ => if plainIx b then (if visB c.sc x && nameOk x then (match ixOf x c.N, cE fns n c e, cE fns n c b with | some i, some a, some b => some (.set i b a) | _, _, _ => none) else none) else none
    | .Assign [.Tuple es _ _] e _ => if noTup e then (match namesE es with | some xs => (match idxs c xs, cE fns n c e with | some is, some a => some (.unp is a) | _, _ => none) | none => none) else none
    | .While t body [] _ => match cT fns n c t, cSs fz (cS fns fg fz n c) body with | some t, some b => some (.whl t b) | _, _ => none
    | .AugAssign (.Name x _) .Add e _ => if locB c x then (match ixOf x c.N, cE fns n c e with | some i, some a => some (.aug i a) | _, _ => none) else none
    | .Expr (.Call (.Attribute (.Name x _) m ap) [e] [] cp) _ => if m = "append" then (if visB c.sc x && nameOk x && noStar e && (ap.endLine == cp.line) && !(x == ("super" : Str)) then (match ixOf x c.N, cE fns n c e with | some i, some a => some (.app i a) | _, _ => none) else none) else if m = "extend" then (if visB c.sc x && nameOk x && noStar e && (ap.endLine == cp.line) && !(x == ("super" : Str)) then (match ixOf x c.N, cE fns n c e with | some i, some a => some (.ext i a) | _, _ => none) else none) else none
    | .If t a b _ => match cT fns n c t, cSs fz (cS fns fg fz n c) a, cSs fz (cS fns fg fz n c) b with | some t, some a, some b => some (.ifs t a b) | _, _, _ => none
    | .For tg iter body [] pos => if notSet iter then (match cTg c tg, cIt c (cE fns n c) tg iter, cSs fz (cS fns fg fz n c) body with | some t, some it, some b => some (.for (fg pos.line) t it b) | _, _, _ => none) else none
    | .Return (some (.Name x p)) _ => (match n, cVar c x with | _ + 1, some i => some (.retN i) | _, _ => none)
    | .Return (some e) _ => (cE fns n c e).map .ret
    | .Continue _ => some .cont
    | .Break _ => some .brk
    | .Pass _ => some .pass
    | _ => none
theorem SndS.of_le {X : Cx} {f g : Ro → Option Res} {s : Stmt} (h : ∀ ρ, Le (f ρ) (g ρ)) (q : SndS X g s) : SndS X f s := fun ρ r e => q ρ r (h ρ _ e)
theorem SndB.of_le {X : Cx} {f g : Ro → Option Res} {s : List Stmt} (h : ∀ ρ, Le (f ρ) (g ρ)) (q : SndB X g s) : SndB X f s := fun ρ r e => q ρ r (h ρ _ e)
section
variable {fns : Nms} {Γ : Nat → Option Fn} {fg : Nat → List Nat} {fz : Stmt → List Nat} {c : Cz}
theorem forI_le {l : List Nat} {tg : Expr} {t : IT} (ht : cTg c tg = some t) {f g : Ro → Option Res} (h : ∀ ρ, Le (f ρ) (g ρ)) : ∀ (ds : List D) (ρ : Ro), Le (forI l t f ds ρ) (fFor c l tg g ds ρ)
  | [], ρ, r, e => e
  | d :: ds, ρ, r, e => by
    unfold forI at e
    split at e
    · rename_i ps hps
      unfold fFor
      rw [tgI_eq ht d _ hps]
      dsimp only
      split at e
      · rename_i ρ2 h2
        rw [h _ _ h2]
        exact forI_le ht h ds ρ2 r e
      · rename_i ρ2 h2
        rw [h _ _ h2]
        exact forI_le ht h ds ρ2 r e
      · rename_i ρ2 h2
        rw [h _ _ h2]
        exact e
      · rename_i k d h2
        rw [h _ _ h2]
        exact e
      · cases e
    · cases e
/-- a block by its statements -/
theorem snd_seq {X : Cx} {cf : Stmt → Option IS} (h : ∀ s is, cf s = some is → SndS X (exI Γ is) s) : ∀ {ss : List Stmt} {iss : ISs}, cSs fz cf ss = some iss → SndB X (exIs Γ iss) ss := by
  intro ss iss hs
  let f : Stmt → Ro → Option Res := fun s ρ => match cf s with | some is => exI Γ is ρ | none => none
  have hf : ∀ s, SndS X (f s) s := fun s => by
    cases q : cf s with
    | none => intro ρ r e; simp only [f, q] at e; cases e
    | some is => intro ρ r e; simp only [f, q] at e; exact h s is q ρ r e
  refine SndB.of_le (g := fSeq fz f ss) ?_ (s_seq hf ss)
  clear hf
  induction ss generalizing iss with
  | nil => cases hs; exact fun ρ r e => by (unfold exIs at e; exact e)
  | cons s ss ih =>
    intro ρ
    unfold cSs at hs
    split at hs
    · rename_i a b ha hb
      have key : ∀ ρ r, exIs Γ (.cons a b) ρ = some r → (match f s ρ with | some (.nx ρ') => fSeq fz f ss ρ' | some (.rt k d) => some (.rt k d) | some (.ct ρ') => some (.ct ρ') | some (.bk ρ') => some (.bk ρ') | none => none) = some r := by
        intro ρ r e
        have hfs : f s ρ = exI Γ a ρ := by simp only [f, ha]
        rw [hfs]
        unfold exIs at e
        split at e
        · rename_i ρ' h1
          first | rw [h1] | skip
          exact ih hb ρ' r e
        · rename_i k d h1
          first | rw [h1] | skip
          exact e
        · rename_i ρ' h1
          first | rw [h1] | skip
          exact e
        · rename_i ρ' h1
          first | rw [h1] | skip
          exact e
        · cases e
      intro r e
      by_cases hz : fz s = []
      · rw [if_pos hz] at hs
        cases hs
        unfold fSeq
        rw [hz]
        exact key ρ r e
      · rw [if_neg hz] at hs
        cases hs
        have e' : exIs Γ (.cons a b) (frz (fz s) ρ) = some r := by
          rw [exIs, exI] at e
          exact e
        unfold fSeq
        exact key _ r e'
    · cases hs
theorem cVar_ok {x : Str} {i : Nat} (hv : cVar c x = some i) : ixOf x c.N = some i ∧ (visB c.sc x && nameOk x) = true := by
  unfold cVar at hv
  cases hj : ixOf x c.N with
  | none => rw [hj] at hv; cases hv
  | some j =>
    rw [hj] at hv
    by_cases hk : (visB c.sc x && nameOk x) = true
    · have : some j = some i := (if_pos hk).symm.trans hv
      exact ⟨this, hk⟩
    · have : none = some i := (if_neg hk).symm.trans hv
      cases this
theorem fRetN_le {f : Ro → Option (Kd × D)} {x : Str} {i : Nat} {ρ : Ro} {r : Res} (hj : ixOf x c.N = some i) (hk : (visB c.sc x && nameOk x) = true) (hev : f ρ = oVar ρ[i]?) (e : oRetN ρ[i]? = some r) : fRetN c f x ρ = some r := by
  unfold fRetN
  rw [hj]
  first | dsimp only | skip
  cases h : ρ[i]? with
  | none => rw [h] at e; cases e
  | some o => cases o with
    | none => rw [h] at e; cases e
    | some sl => cases sl with
      | ow ds => rw [h] at e; exact (if_pos hk).trans e
      | sh d =>
        rw [h] at e hev
        show fRet f ρ = some r
        unfold fRet
        rw [hev]
        exact e
      | lk ds => rw [h] at e; cases e
theorem snd_S {X : Cx} (O : CxOk X (tabOf fns Γ) c) (hp : PassesOwn (model X.prog X.w) X.A X.env X.xe) : ∀ (n : Nat) (s : Stmt) (is : IS), cS fns fg fz n c s = some is → SndS X (exI Γ is) s
  | 0, s, is, h => by (unfold cS at h; cases h)
  | n + 1, s, is, h => by
    have hE := (snd_both fns Γ n).1 X c O
    have hT := (snd_both fns Γ n).2 X c O
    have hF := fun e => hO_ok fns Γ (n := n) O e
    have le := fO_le fns Γ (n := n) (c := c)
    have ih := snd_S O hp n
    unfold cS at h
    split at h
    · rename_i x p elt tg iter scope cp pos
      split at h
      · rename_i hl
        split at h
        · rename_i i a hi ha
          cases h
          cases n with
          | zero => unfold cE at ha; cases ha
          | succ m =>
            by_cases hn : notSet iter = true
            · have hF' := fun e => hO_ok fns Γ (n := m) O e
              refine SndS.of_le (fun ρ r e => ?_) (s_asgC O (f := fO fns Γ m c) hF' (fe := fun c' e' => fO fns Γ m c' e') (fun X' c' O' => hO_ok fns Γ (n := m) O' _) (notSet_ok hn))
              unfold exI at e
              unfold fAsgC
              rw [if_pos hl, hi]
              unfold oAsgC at e
              split at e
              · rename_i ds h1
                have : fComp c (fO fns Γ m c) (fun c' e' => fO fns Γ m c' e') elt tg iter scope ρ = some (.fr, .lst ds) := by
                  have le' := fO_le fns Γ (n := m) (c := c)
                  have ha' : cE fns (m + 1) c (.ListComp elt [⟨tg, iter, [], 0⟩] scope cp) = some a := ha
                  simp only [cE, hn, Bool.true_and] at ha'
                  split at ha'
                  · rename_i hck
                    split at ha'
                    · rename_i t it el ht hit hel
                      cases ha'
                      unfold evI at h1
                      unfold fComp
                      rw [if_pos hck]
                      unfold oComp at h1
                      split at h1
                      · rename_i bo ds' hds
                        rw [it_le le' hit ρ _ hds]
                        split at h1
                        · rename_i hl'
                          dsimp only
                          rw [if_pos hl']
                          split at h1
                          · rename_i ys hys
                            rw [evMap_le (fun d => eltI_le ht (fun ρ => fO_le fns Γ _ _ hel ρ) _ d) ds' _ hys]
                            exact h1
                          · cases h1
                        · cases h1
                      · cases h1
                    · cases ha'
                  · cases ha'
                rw [this]
                exact e
              · cases e
            · simp only [cE, Bool.not_eq_true] at ha hn
              rw [hn] at ha
              simp at ha
        · cases h
      · cases h
    · rename_i x p e' pos hno
      split at h
      · rename_i hl
        split at h
        · rename_i i a hi ha
          cases h
          refine SndS.of_le (fun ρ r e => ?_) (s_asg O (hE _ _ ha))
          unfold exI at e
          unfold fAsg
          rw [if_pos hl, hi]
          unfold oAsg at e
          split at e
          · rename_i d h1; first | (rw [h1]; exact e) | exact e
          · rename_i ds h1; first | (rw [h1]; exact e) | exact e
          · cases e
        · cases h
      · cases h
    · split at h
      · rename_i hpl
        split at h
        · rename_i hl
          split at h
          · rename_i i a b hi ha hb
            cases h
            refine SndS.of_le (fun ρ r e => ?_) (s_set O (hE _ _ ha) (hE _ _ hb) hpl)
            unfold exI at e
            unfold fSet
            rw [if_pos hl, hi]
            unfold oSet at e
            split at e
            · rename_i k d kz z h1 h2
              first | (rw [h1, h2]; exact e) | exact e
            · cases e
          · cases h
        · cases h
      · cases h
    · split at h
      · rename_i hnt
        split at h
        · rename_i xs hxs
          split at h
          · rename_i is a hi ha
            cases h
            refine SndS.of_le (fun ρ r e => ?_) (s_unp O (hE _ _ ha) hxs hi hnt)
            unfold exI at e
            exact e
          · cases h
        · cases h
      · cases h
    · split at h
      · rename_i t b ht hb
        cases h
        exact SndS.of_le (fun ρ r e => by (unfold exI at e; exact e)) (s_whl hp (hT _ _ ht) (snd_seq ih hb) whlMost)
      · cases h
    · split at h
      · rename_i hl
        split at h
        · rename_i i a hi ha
          cases h
          refine SndS.of_le (fun ρ r e => ?_) (s_aug O (hE _ _ ha))
          unfold exI at e
          unfold fAug
          rw [if_pos hl, hi]
          unfold oAug at e
          split at e
          · rename_i k b h1; first | (rw [h1]; exact e) | exact e
          · cases e
        · cases h
      · cases h
    · split at h
      · rename_i hm
        subst hm
        split at h
        · rename_i hl
          split at h
          · rename_i i a hi ha
            cases h
            refine SndS.of_le (fun ρ r e => ?_) (s_app O (hE _ _ ha))
            unfold exI at e
            unfold fApp
            rw [if_pos hl, hi]
            unfold oApp at e
            split at e
            · rename_i k d h1; first | (rw [h1]; exact e) | exact e
            · cases e
          · cases h
        · cases h
      · split at h
        · rename_i hm
          subst hm
          split at h
          · rename_i hl
            split at h
            · rename_i i a hi ha
              cases h
              refine SndS.of_le (fun ρ r e => ?_) (s_ext O (hE _ _ ha))
              unfold exI at e
              unfold fExt
              rw [if_pos hl, hi]
              unfold oExt at e
              split at e
              · rename_i k es h1; first | (rw [h1]; exact e) | exact e
              · cases e
            · cases h
          · cases h
        · cases h
    · split at h
      · rename_i t a b ht ha hb
        cases h
        exact SndS.of_le (fun ρ r e => by (unfold exI at e; exact e)) (s_ifS (hT _ _ ht) (snd_seq ih ha) (snd_seq ih hb))
      · cases h
    · rename_i tg iter body pos
      split at h
      · rename_i hn
        split at h
        · rename_i t it b ht hit hb
          cases h
          refine SndS.of_le (fun ρ r e => ?_) (s_for O hp (l := fg pos.line) (s_it O hF _ _) (snd_seq ih hb) (notSet_ok hn))
          unfold exI at e
          unfold fForS
          unfold oFor at e
          split at e
          · rename_i ds h1
            rw [it_le le hit ρ _ h1]
            exact forI_le ht (fun ρ => Le.refl _) ds ρ r e
          · rename_i ds h1
            rw [it_le le hit ρ _ h1]
            exact one_le (oUnl ρ) rfl (forI_le ht (fun ρ => Le.refl _) ds (lock ρ)) r e
          · cases e
        · cases h
      · cases h
    · rename_i x p pos
      split at h
      · rename_i m i hv
        cases h
        obtain ⟨hj, hk⟩ := cVar_ok hv
        refine SndS.of_le (fun ρ r e => ?_) (s_retN O (s_var O x p))
        unfold exI at e
        refine fRetN_le hj hk ?_ e
        simp only [fVar, hj, hk, if_true]
        rfl
      · cases h
    · rename_i e' pos hno
      obtain ⟨a, ha, rfl⟩ := mapS h
      refine SndS.of_le (fun ρ r e => ?_) (s_ret (hE _ _ ha))
      unfold exI at e
      exact e
    · cases h; exact SndS.of_le (fun ρ r e => by (unfold exI at e; exact e)) s_cont
    · cases h; exact SndS.of_le (fun ρ r e => by (unfold exI at e; exact e)) s_brk
    · cases h; exact SndS.of_le (fun ρ r e => by (unfold exI at e; exact e)) s_pass
    · cases h
end
/-! ### a def -/
def iniI (k : Nat) (ds : List D) : Ro := ds.map (fun d => some (.sh d)) ++ List.replicate (k - ds.length) none
def oDef (r : Option Res) : Option (Kd × D) := match r with
  | some (.rt k d) => if k = .bo then none else some (k, d)
  | some (.nx _) => some (.sh, .non)
  | _ => none
/-- m parameters, k slots -/
def defI (Γ : Nat → Option Fn) (m k : Nat) (body : ISs) (ds : List D) : Option (Kd × D) := if ds.length = m then oDef (exIs Γ body (iniI k ds)) else none
def cDef (fns : Nms) (fg : Nat → List Nat) (fz : Stmt → List Nat) (n : Nat) (N : List Str) (st : Stmt) : Option ISs := cSs fz (cS fns fg fz n ⟨defScope st, N, true⟩) (defBody st)
theorem def_okI {P : Program} {w : World} {K : PySem.W.Frag} {mg : Str → Option Value} {base : Heap} {fns : Nms} {Γ : Nat → Option Fn} {x qual : Str} {st : Stmt} {f : Addr} {fd : FuncData} {N ps : List Str} {k n : Nat} {fg : Nat → List Nat} {fz : Stmt → List Nat} {body : ISs} (F : Fun K x qual st f fd) (S : FnScope N ps (defScope st)) (T : TabF P w K mg base (tabOf fns Γ) k) (hc : cDef fns fg fz n N st = some body) :
    FnOk P w K mg base CX0 (k + 1) f fd ps (spF K (defI Γ ps.length N.length body)) := by
  have hN : ps.length ≤ N.length := by
    have := congrArg List.length S.pre
    rw [List.length_take] at this
    omega
  refine F.ok S (fun vs H Q E h => ?_) (fun cdv A outer s H vs Q E hr h => ?_)
  · obtain ⟨ds, S', k', d, r, dm, hφ, q⟩ := h
    unfold defI at hφ
    split at hφ
    · rename_i hl
      rw [r.len, hl]
    · cases hφ
  · obtain ⟨ds, S', k', d, r, dm, hφ, q⟩ := h
    unfold defI at hφ
    split at hφ
    · rename_i hl
      have O : CxOk (cxOf CX0 P w K mg base N qual (defScope st) f cdv A outer s H E).nox (tabOf fns Γ) ⟨defScope st, N, true⟩ :=
        ⟨rfl, rfl, fun _ _ => rfl, rfl, S.nd, ⟨fun y φ hy => by
          obtain ⟨g, gd, qs, h1, h2, h3, h4, h5⟩ := T.fn y φ hy
          exact ⟨k, g, gd, qs, h1, hr, h2, h3, h4, h5⟩, T.bl, (by have h := hr.un; exact Nat.lt_of_le_of_lt (Nat.le_trans (Nat.add_le_add_left (by decide : 100 ≤ 200) _) (Nat.add_le_add_right (Nat.le_add_right _ _) 200)) h), T.cst⟩⟩
      have sr := ini_se (N := N) r dm (by rw [hl]; exact hN) []
      have sb : SndB _ (exIs Γ body) (defBody st) := snd_seq (fun s is h => snd_S O PassesOwn.never n s is h) hc
      refine ⟨_, pss_w, ?_⟩
      unfold oDef at hφ
      split at hφ
      · rename_i k2 d2 hex
        split at hφ
        · cases hφ
        · cases hφ
          exact sb _ _ hex H S' [] (start N vs) H [] _ sr fun v H' s1 r1 => q v H' s1 r1
      · rename_i ρ' hex
        cases hφ
        exact sb _ _ hex H S' [] (start N vs) H [] _ sr fun σ' H' O' sr' _ => q .non H' sr'.inc (by show Rp _ _ _ _ _; unfold Rp; rfl)
      · cases hφ
    · cases hφ
def addN (Γ : Nat → Option Fn) (i : Nat) (φ : Fn) : Nat → Option Fn := fun j => if j = i then some φ else Γ j
theorem spF_le {K : PySem.W.Frag} {φ ψ : Fn} (h : ∀ ds, Le (ψ ds) (φ ds)) {vs : List V} {H : Hp} {Q : VK} {E : XK} (s : spF K ψ vs H Q E) : spF K φ vs H Q E := by
  obtain ⟨ds, S, k, d, h1, h2, h3, h4⟩ := s
  exact ⟨ds, S, k, d, h1, h2, h ds _ h3, h4⟩
theorem ixOf_mem {x : Str} : ∀ {l : List Str} {i : Nat}, ixOf x l = some i → x ∈ l
  | y :: r, i, h => by
    unfold ixOf at h
    split at h
    · rename_i e; rw [e]; exact List.mem_cons_self
    · obtain ⟨j, hj, _⟩ := mapS h
      exact List.mem_cons_of_mem _ (ixOf_mem hj)
/-- the table grows by the i-th def, by what is said of it -/
theorem TabF.addI {P : Program} {w : World} {K : PySem.W.Frag} {mg : Str → Option Value} {base : Heap} {fns : Nms} {Γ : Nat → Option Fn} {k i : Nat} {x qual : Str} {st : Stmt} {f : Addr} {fd : FuncData} {N ps : List Str} {n : Nat} {fg : Nat → List Nat} {fz : Stmt → List Nat} {body : ISs} {ψ : Fn}
    (T : TabF P w K mg base (tabOf fns Γ) k) (F : Fun K x qual st f fd) (S : FnScope N ps (defScope st)) (hm : mg x = some (.ref f)) (hb : Binds K fd ps []) (hd : (x == ("__debug__" : Str)) = false)
    (hi : fns.fns[i]? = some x) (hc : cDef fns fg fz n N st = some body) (hψ : ∀ ds, Le (ψ ds) (defI Γ ps.length N.length body ds)) : TabF P w K mg base (tabOf fns (addN Γ i ψ)) (k + 1) := by
  refine ⟨fun y φ hy => ?_, T.bl, T.cst⟩
  have hy : (ixOf y fns.fns).bind (addN Γ i ψ) = some φ := hy
  cases hj : ixOf y fns.fns with
  | none => rw [hj] at hy; cases hy
  | some j =>
    rw [hj] at hy
    have hy' : addN Γ i ψ j = some φ := hy
    unfold addN at hy'
    split at hy'
    · rename_i e
      subst e
      cases hy'
      have hyx : y = x := by
        have := ixOf_get hj
        rw [hi] at this
        exact (Option.some.inj this).symm
      subst hyx
      exact ⟨f, fd, ps, (def_okI (n := n) (fg := fg) (fz := fz) F S T hc).imp fun vs H Q E s => spF_le hψ s, hm, F.kp, hb, hd⟩
    · obtain ⟨g, gd, qs, h1, h2, h3, h4, h5⟩ := T.fn y φ (by show (ixOf y fns.fns).bind Γ = _; rw [hj]; exact hy')
      exact ⟨g, gd, qs, h1.mono (Nat.le_succ k), h2, h3, h4, h5⟩
end G
set_option Elab.async false
set_option linter.all false
set_option maxRecDepth 100000
set_option maxHeartbeats 4000000
set_option autoImplicit false
namespace G
open PySem PySem.Spec L2
theorem forI_inv {l : List Nat} {tg : IT} {fb : Ro → Option Res} (I : Nat → Ro → Prop) : ∀ (ds : List D) (j : Nat) (ρ : Ro), I j ρ → (∀ i d ρ, ds[i]? = some d → I (j + i) ρ → ∃ ps ρ', tgI tg d = some ps ∧ fb (setAll ps (forget l ρ)) = some (.nx ρ') ∧ I (j + i + 1) ρ') →
    ∃ ρ', forI l tg fb ds ρ = some (.nx ρ') ∧ I (j + ds.length) ρ'
  | [], j, ρ, h0, _ => ⟨ρ, rfl, h0⟩
  | d :: ds, j, ρ, h0, hs => by
    obtain ⟨ps, ρ', e1, e2, h1⟩ := hs 0 d ρ rfl h0
    obtain ⟨ρ2, e3, h2⟩ := forI_inv I ds (j + 1) ρ' h1 fun i d' ρ1 e hI => by
      have := hs (i + 1) d' ρ1 (by simpa using e) (by rw [show j + (i + 1) = j + 1 + i by omega]; exact hI)
      rw [show j + (i + 1) + 1 = j + 1 + i + 1 by omega] at this
      exact this
    refine ⟨ρ2, ?_, by rw [List.length_cons, show j + (ds.length + 1) = j + 1 + ds.length by omega]; exact h2⟩
    unfold forI
    rw [e1]
    dsimp only
    rw [e2]
    exact e3
theorem forI0 {l : List Nat} {tg : IT} {fb : Ro → Option Res} (I : Nat → Ro → Prop) (ds : List D) (ρ : Ro) (h0 : I 0 ρ) (hs : ∀ i d ρ, ds[i]? = some d → I i ρ → ∃ ps ρ', tgI tg d = some ps ∧ fb (setAll ps (forget l ρ)) = some (.nx ρ') ∧ I (i + 1) ρ') :
    ∃ ρ', forI l tg fb ds ρ = some (.nx ρ') ∧ I ds.length ρ' := by
  obtain ⟨ρ', h1, h2⟩ := forI_inv I ds 0 ρ h0 fun i d ρ e h => by
    have := hs i d ρ e (by simpa using h)
    simpa using this
  exact ⟨ρ', h1, by simpa using h2⟩
/-! ### number_of -/
def num : List Int → Int
  | [] => 0
  | b :: r => b + 2 * num r
theorem num_snoc : ∀ (bs : List Int) (b : Int), num (bs ++ [b]) = num bs + b * 2 ^ bs.length
  | [], b => by simp [num]
  | a :: bs, b => by
    show a + 2 * num (bs ++ [b]) = a + 2 * num bs + b * 2 ^ (bs.length + 1)
    rw [num_snoc bs b, Int.pow_succ, Int.mul_add, ← Int.add_assoc]
    congr 1
    rw [Int.mul_comm (2 ^ bs.length) 2, ← Int.mul_assoc, ← Int.mul_assoc, Int.mul_comm 2 b]
def smallB (bs : List Int) : Bool := decide (bs.length ≤ 1000) && bs.all fun b => decide (0 ≤ b) && decide (b ≤ 1)
theorem smallB_get {bs : List Int} (h : smallB bs = true) {i : Nat} {b : Int} (e : bs[i]? = some b) : 0 ≤ b ∧ b ≤ 1 ∧ i < 1000 := by
  simp only [smallB, Bool.and_eq_true, decide_eq_true_eq, List.all_eq_true] at h
  have hm := List.mem_of_getElem? e
  have hl := (List.getElem?_eq_some_iff.mp e).1
  exact ⟨(h.2 b hm).1, (h.2 b hm).2, by omega⟩
theorem enum_get {ds : List D} {i : Nat} {d : D} (h : (ds.mapIdx fun i d => D.tup [.int i, d])[i]? = some d) : ∃ d', ds[i]? = some d' ∧ d = .tup [.int i, d'] := by
  rw [List.getElem?_mapIdx] at h
  obtain ⟨a, ha, e⟩ := mapS h
  exact ⟨a, ha, e⟩
theorem int_get {ns : List Int} {i : Nat} {d : D} (h : (ns.map D.int)[i]? = some d) : ∃ n, ns[i]? = some n ∧ d = .int n := by
  rw [List.getElem?_map] at h
  obtain ⟨a, ha, e⟩ := mapS h
  exact ⟨a, ha, e⟩
theorem take_succ_get {α : Type} {l : List α} {i : Nat} {a : α} (h : l[i]? = some a) : l.take (i + 1) = l.take i ++ [a] := by
  rw [List.take_add_one, h]; rfl
section
variable {Γ : Nat → Option Fn} {ρ ρ' : Ro}
theorem x_cons {s : IS} {r : ISs} (h : exI Γ s ρ = some (.nx ρ')) : exIs Γ (.cons s r) ρ = exIs Γ r ρ' := by
  rw [exIs, h]
theorem x_stop {s : IS} {r : ISs} {k : Kd} {d : D} (h : exI Γ s ρ = some (.rt k d)) : exIs Γ (.cons s r) ρ = some (.rt k d) := by
  rw [exIs, h]
theorem x_for {l : List Nat} {tg : IT} {it : II} {body : ISs} {ds : List D} (h : evII Γ it ρ = some (false, ds)) (hf : forI l tg (exIs Γ body) ds ρ = some (.nx ρ')) : exI Γ (.for l tg it body) ρ = some (.nx ρ') := by
  rw [exI, h]; exact hf
theorem x_forR {l : List Nat} {tg : IT} {it : II} {body : ISs} {ds : List D} {r : Option Res} (h : evII Γ it ρ = some (false, ds)) (hf : forI l tg (exIs Γ body) ds ρ = r) : exI Γ (.for l tg it body) ρ = r := by
  rw [exI, h]; exact hf
theorem x_forB {l : List Nat} {tg : IT} {it : II} {body : ISs} {ds : List D} (h : evII Γ it ρ = some (true, ds)) (hf : forI l tg (exIs Γ body) ds (lock ρ) = some (.nx ρ')) (hk : lkIn ρ ρ' = true) : exI Γ (.for l tg it body) ρ = some (.nx (unlock ρ ρ')) := by
  rw [exI, h]
  show oUnl ρ _ = _
  rw [hf]
  exact if_pos hk
theorem x_ifF {t : IE} {a b : ISs} (h : evIT Γ t ρ = some false) : exI Γ (.ifs t a b) ρ = exIs Γ b ρ := by
  rw [exI, h]; rfl
theorem x_ifT {t : IE} {a b : ISs} (h : evIT Γ t ρ = some true) : exI Γ (.ifs t a b) ρ = exIs Γ a ρ := by
  rw [exI, h]; rfl
theorem d_run {m k : Nat} {b : ISs} {ds : List D} {kk : Kd} {d : D} (hl : ds.length = m) (h : exIs Γ b (iniI k ds) = some (.rt kk d)) (hk : kk ≠ .bo) : defI Γ m k b ds = some (kk, d) := by
  unfold defI
  rw [if_pos hl, h]
  exact if_neg hk
theorem d_end {m k : Nat} {b : ISs} {ds : List D} (hl : ds.length = m) (h : exIs Γ b (iniI k ds) = some (.nx ρ')) : defI Γ m k b ds = some (.sh, .non) := by
  unfold defI
  rw [if_pos hl, h]
  rfl
end
theorem bin_shl {i j : Int} (h : 0 ≤ j ∧ j ≤ 1000000 ∧ i.natAbs < 2 ^ 64) : binD .LShift (.int i) (.int j) = some (.sh, .int (i * 2 ^ j.toNat)) := if_pos h
theorem bin_shr {i j : Int} (h : 0 ≤ j) : binD .RShift (.int i) (.int j) = some (.sh, .int (i / 2 ^ j.toNat)) := if_pos h
theorem bin_and1 {i : Int} : binD .BitAnd (.int i) (.int 1) = some (.sh, .int (i % 2)) := by
  show some (Kd.sh, D.int (Builtin.bitAnd i 1)) = _
  rw [PyProof.Rows.bitAnd_m1]
theorem bin_mul {i j : Int} (h : mulOk i j = true) : binD .Mult (.int i) (.int j) = some (.sh, .int (i * j)) := if_pos h
theorem bin_fdiv {i j : Int} (h : 0 < j ∧ j < 1073741824) : binD .FloorDiv (.int i) (.int j) = some (.sh, .int (i / j)) := if_pos h
theorem bin_mod {i j : Int} (h : 0 < j) : binD .Mod (.int i) (.int j) = some (.sh, .int (i % j)) := if_pos h
theorem bin_cat {xs ys : List D} (h : xs.length + ys.length ≤ 100000) : binD .Add (.lst xs) (.lst ys) = some (.fr, .lst (xs ++ ys)) := if_pos h
end G
set_option Elab.async false
set_option linter.all false
set_option maxRecDepth 100000
set_option maxHeartbeats 4000000
set_option autoImplicit false
namespace G
open PySem PySem.Spec L2
/-! ### equality of data, for the kernel -/
mutual
def eqD : D → D → Bool
  | .non, .non => true
  | .bl a, .bl b => a == b
  | .int a, .int b => decide (a = b)
  | .str a, .str b => decide (a = b)
  | .lst a, .lst b => eqDs a b
  | .tup a, .tup b => eqDs a b
  | .scr a, .scr b => decide (a = b)
  | .dic a b, .dic c d => decide (a = c) && eqDs b d
  | _, _ => false
def eqDs : List D → List D → Bool
  | [], [] => true
  | a :: r, b :: s => eqD a b && eqDs r s
  | _, _ => false
end
mutual
theorem eqD_ok : ∀ {a b : D}, eqD a b = true → a = b
  | .non, b, h => by cases b <;> first | rfl | (simp [eqD] at h)
  | .bl a, b, h => by cases b <;> first | (simp [eqD] at h; rw [h]) | (simp [eqD] at h)
  | .int a, b, h => by cases b <;> first | (simp [eqD] at h; rw [h]) | (simp [eqD] at h)
  | .str a, b, h => by cases b <;> first | (simp [eqD] at h; rw [h]) | (simp [eqD] at h)
  | .scr a, b, h => by cases b <;> first | (simp [eqD] at h; rw [h]) | (simp [eqD] at h)
  | .dic a x, b, h => by
    cases b with
    | dic b y =>
      simp only [eqD, Bool.and_eq_true, decide_eq_true_eq] at h
      rw [h.1, eqDs_ok h.2]
    | _ => simp [eqD] at h
  | .lst a, b, h => by
    cases b with
    | lst b => rw [eqDs_ok (a := a) (b := b) (by simpa [eqD] using h)]
    | _ => simp [eqD] at h
  | .tup a, b, h => by
    cases b with
    | tup b => rw [eqDs_ok (a := a) (b := b) (by simpa [eqD] using h)]
    | _ => simp [eqD] at h
theorem eqDs_ok : ∀ {a b : List D}, eqDs a b = true → a = b
  | [], b, h => by cases b <;> first | rfl | (simp [eqDs] at h)
  | a :: r, b, h => by
    cases b with
    | nil => simp [eqDs] at h
    | cons b s =>
      simp only [eqDs, Bool.and_eq_true] at h
      rw [eqD_ok h.1, eqDs_ok h.2]
end
def eqSl : Sl → Sl → Bool
  | .sh a, .sh b => eqD a b
  | .ow a, .ow b => eqDs a b
  | .lk a, .lk b => eqDs a b
  | _, _ => false
theorem eqSl_ok {a b : Sl} (h : eqSl a b = true) : a = b := by
  cases a <;> cases b <;> simp only [eqSl] at h <;> first | rw [eqD_ok h] | rw [eqDs_ok h] | cases h
def eqRo : Ro → Ro → Bool
  | [], [] => true
  | none :: r, none :: s => eqRo r s
  | some a :: r, some b :: s => eqSl a b && eqRo r s
  | _, _ => false
theorem eqRo_ok : ∀ {a b : Ro}, eqRo a b = true → a = b
  | [], b, h => by cases b <;> first | rfl | (simp [eqRo] at h)
  | none :: r, b, h => by
    cases b with
    | nil => simp [eqRo] at h
    | cons b s => cases b with
      | none => rw [eqRo_ok (a := r) (b := s) (by simpa [eqRo] using h)]
      | some b => simp [eqRo] at h
  | some a :: r, b, h => by
    cases b with
    | nil => simp [eqRo] at h
    | cons b s => cases b with
      | none => simp [eqRo] at h
      | some b =>
        simp only [eqRo, Bool.and_eq_true] at h
        rw [eqSl_ok h.1, eqRo_ok h.2]
def eqRes : Option Res → Option Res → Bool
  | some (.nx a), some (.nx b) => eqRo a b
  | some (.rt k a), some (.rt l b) => decide (k = l) && eqD a b
  | some (.ct a), some (.ct b) => eqRo a b
  | some (.bk a), some (.bk b) => eqRo a b
  | none, none => true
  | _, _ => false
theorem eqRes_ok {a b : Option Res} (h : eqRes a b = true) : a = b := by
  cases a with
  | none => cases b with
    | none => rfl
    | some b => cases b <;> simp [eqRes] at h
  | some a => cases b with
    | none => cases a <;> simp [eqRes] at h
    | some b =>
      cases a <;> cases b <;> simp [eqRes] at h <;> first | rw [eqRo_ok h] | rw [h.1, eqD_ok h.2]
def eqV : Option (Kd × D) → Option (Kd × D) → Bool
  | some (k, a), some (l, b) => decide (k = l) && eqD a b
  | none, none => true
  | _, _ => false
theorem eqV_ok {a b : Option (Kd × D)} (h : eqV a b = true) : a = b := by
  cases a with
  | none => cases b with
    | none => rfl
    | some b => simp [eqV] at h
  | some a => cases b with
    | none => simp [eqV] at h
    | some b =>
      obtain ⟨k, a⟩ := a
      obtain ⟨l, b⟩ := b
      simp [eqV] at h
      rw [h.1, eqD_ok h.2]
/-! ### a wider table tells as much -/
theorem oFn_le {φ φ' : Option Fn} {a a' : Option (List (Kd × D))} (h1 : Le φ φ') (h2 : Le a a') : Le (oFn φ a) (oFn φ' a') := by
  rcases h1.or with rfl | rfl
  · exact Le.none _
  · rcases h2.or with rfl | rfl
    · cases φ' <;> exact Le.none _
    · exact Le.refl _
theorem eltM_le {tg : IT} {f g : Ro → Option (Kd × D)} (hf : ∀ ρ, Le (f ρ) (g ρ)) (ρ : Ro) (d : D) : Le (eltI tg f ρ d) (eltI tg g ρ d) := by
  intro r e
  unfold eltI at e ⊢
  split at e
  · rename_i ps hps
    split at e
    · rename_i ha
      exact Eq.trans (if_pos ha) (hf _ r e)
    · cases e
  · cases e
theorem oComp_le {it it' : Option (Bool × List D)} {f g : D → Option (Kd × D)} (h : Le it it') (hf : ∀ d, Le (f d) (g d)) : Le (oComp it f) (oComp it' g) := by
  rcases h.or with rfl | rfl
  · exact Le.none _
  · intro r e
    unfold oComp at e ⊢
    split at e
    · rename_i bo ds
      split at e
      · rename_i hl
        split at e
        · rename_i ys hy
          rw [if_pos hl, evMap_le hf ds _ hy]
          exact e
        · cases e
      · cases e
    · cases e
section
variable {Γ Γ' : Nat → Option Fn} (hΓ : ∀ i, Le (Γ i) (Γ' i))
include hΓ
mutual
theorem evI_mono : ∀ (e : IE) (ρ : Ro), Le (evI Γ e ρ) (evI Γ' e ρ)
  | .var i, ρ => by unfold evI; exact Le.refl _
  | .lit d, ρ => by unfold evI; exact Le.refl _
  | .bin op a b, ρ => by unfold evI; exact oBin_le (evI_mono a ρ) (evI_mono b ρ)
  | .cmp op a b, ρ => by unfold evI; exact bV_le (oCmp_le (evI_mono a ρ) (evI_mono b ρ))
  | .chain op op' a b d, ρ => by unfold evI; exact bV_le (oChain_le (evI_mono a ρ) (evI_mono b ρ) (evI_mono d ρ))
  | .neg a, ρ => by unfold evI; exact one_le oNeg rfl (evI_mono a ρ)
  | .not a, ρ => by unfold evI; exact one_le oNot rfl (evI_mono a ρ)
  | .bool op es, ρ => by unfold evI; exact evIB_mono op es ρ
  | .ifx t a b, ρ => by unfold evI; exact oIf_le (evIT_mono t ρ) (evI_mono a ρ) (evI_mono b ρ)
  | .lst es, ρ => by unfold evI; exact one_le oLst rfl (evIs_mono es ρ)
  | .tup es, ρ => by unfold evI; exact one_le oTup rfl (evIs_mono es ρ)
  | .ix a b, ρ => by unfold evI; exact oIx_le (evI_mono a ρ) (evI_mono b ρ)
  | .sl a lo hi, ρ => by unfold evI; exact oSl_le (evI_mono a ρ) (evIO_mono lo ρ) (evIO_mono hi ρ)
  | .dic1 a b, ρ => by unfold evI; exact oDic1_le (evI_mono a ρ) (evI_mono b ρ)
  | .rev a b, ρ => by unfold evI; exact oRev_le (evI_mono a ρ) (evI_mono b ρ)
  | .isi T a, ρ => by unfold evI; exact one_le (oIsi T) rfl (evI_mono a ρ)
  | .fn i es, ρ => by unfold evI; exact oFn_le (hΓ i) (evIs_mono es ρ)
  | .blt x es, ρ => by unfold evI; exact one_le (oBlt x) rfl (evIs_mono es ρ)
  | .comp cap tg it elt, ρ => by unfold evI; exact oComp_le (evII_mono it ρ) (fun d => eltM_le (fun ρ => evI_mono elt ρ) _ d)
theorem evIT_mono : ∀ (e : IE) (ρ : Ro), Le (evIT Γ e ρ) (evIT Γ' e ρ)
  | .cmp op a b, ρ => by unfold evIT; exact oCmp_le (evI_mono a ρ) (evI_mono b ρ)
  | .chain op op' a b d, ρ => by unfold evIT; exact oChain_le (evI_mono a ρ) (evI_mono b ρ) (evI_mono d ρ)
  | .not a, ρ => by unfold evIT; exact one_le (fun o : Option Bool => o.map (!·)) rfl (evIT_mono a ρ)
  | .bool op es, ρ => by unfold evIT; exact evIBT_mono op es ρ
  | .var i, ρ => by unfold evIT; exact Le.refl _
  | .ix a b, ρ => by unfold evIT; exact one_le oTru rfl (oIx_le (evI_mono a ρ) (evI_mono b ρ))
  | .isi T a, ρ => by unfold evIT; exact one_le oTru rfl (one_le (oIsi T) rfl (evI_mono a ρ))
  | .fn i es, ρ => by unfold evIT; exact one_le oTru rfl (oFn_le (hΓ i) (evIs_mono es ρ))
  | .blt x es, ρ => by unfold evIT; exact one_le oTru rfl (one_le (oBlt x) rfl (evIs_mono es ρ))
  | .lit d, ρ => by unfold evIT; exact Le.refl _
  | .bin op a b, ρ => by unfold evIT; exact Le.refl _
  | .neg a, ρ => by unfold evIT; exact Le.refl _
  | .ifx t a b, ρ => by unfold evIT; exact Le.refl _
  | .lst es, ρ => by unfold evIT; exact Le.refl _
  | .tup es, ρ => by unfold evIT; exact Le.refl _
  | .sl a lo hi, ρ => by unfold evIT; exact Le.refl _
  | .rev a b, ρ => by unfold evIT; exact Le.refl _
  | .dic1 a b, ρ => by unfold evIT; exact Le.refl _
  | .comp cap tg it elt, ρ => by unfold evIT; exact Le.refl _
theorem evIs_mono : ∀ (e : IEs) (ρ : Ro), Le (evIs Γ e ρ) (evIs Γ' e ρ)
  | .nil, ρ => by unfold evIs; exact Le.refl _
  | .cons a r, ρ => by unfold evIs; exact oCons_le (evI_mono a ρ) (evIs_mono r ρ)
theorem evIB_mono (op : BoolOp) : ∀ (e : IEs) (ρ : Ro), Le (evIB Γ op e ρ) (evIB Γ' op e ρ)
  | .nil, ρ => by unfold evIB; exact Le.refl _
  | .cons a r, ρ => by
    have h1 := evI_mono a ρ
    have h2 := evIB_mono op r ρ
    intro x hx
    unfold evIB at hx ⊢
    cases r with
    | nil => exact h1 x hx
    | cons b s =>
      dsimp only at hx ⊢
      split at hx
      · rename_i k z ez
        rw [h1 _ ez]
        dsimp only
        split at hx
        · rename_i hz; rw [if_pos hz]; exact h2 x hx
        · rename_i hz; rw [if_neg hz]; exact hx
      · cases hx
theorem evIBT_mono (op : BoolOp) : ∀ (e : IEs) (ρ : Ro), Le (evIBT Γ op e ρ) (evIBT Γ' op e ρ)
  | .nil, ρ => by unfold evIBT; exact Le.refl _
  | .cons a r, ρ => by
    have h1 := evIT_mono a ρ
    have h2 := evIBT_mono op r ρ
    intro x hx
    unfold evIBT at hx ⊢
    cases r with
    | nil => exact h1 x hx
    | cons b s =>
      dsimp only at hx ⊢
      split at hx
      · rename_i z ez
        rw [h1 _ ez]
        dsimp only
        split at hx
        · rename_i hz; rw [if_pos hz]; exact h2 x hx
        · rename_i hz; rw [if_neg hz]; exact hx
      · cases hx
theorem evIO_mono : ∀ (e : IO) (ρ : Ro), Le (evIO Γ e ρ) (evIO Γ' e ρ)
  | .non, ρ => by unfold evIO; exact Le.refl _
  | .som a, ρ => by unfold evIO; exact one_le oInt rfl (evI_mono a ρ)
theorem evII_mono : ∀ (e : II) (ρ : Ro), Le (evII Γ e ρ) (evII Γ' e ρ)
  | .e a, ρ => by unfold evII; exact one_le oSeq rfl (evI_mono a ρ)
  | .rng a, ρ => by unfold evII; exact one_le oRng rfl (evI_mono a ρ)
  | .rng2 a b, ρ => by
    unfold evII
    have h1 := evI_mono a ρ
    have h2 := evI_mono b ρ
    intro r e
    unfold oRng2 at e
    split at e
    · rename_i e1 e2
      rw [h1 _ e1, h2 _ e2]
      exact e
    · cases e
  | .enm a, ρ => by unfold evII; exact one_le oEnm rfl (evI_mono a ρ)
end
omit hΓ in
theorem whl_le {ft gt : Ro → Option Bool} {f g : Ro → Option Res} (h1 : ∀ ρ, Le (ft ρ) (gt ρ)) (h : ∀ ρ, Le (f ρ) (g ρ)) : ∀ (n : Nat) (ρ : Ro), Le (fWhl ft f n ρ) (fWhl gt g n ρ)
  | 0, ρ, r, e => e
  | n + 1, ρ, r, e => by
    unfold fWhl at e ⊢
    split at e
    · rename_i q; rw [h1 _ _ q]; exact e
    · rename_i q
      rw [h1 _ _ q]
      dsimp only
      split at e
      · rename_i q2; rw [h _ _ q2]; exact whl_le h1 h n _ r e
      · rename_i q2; rw [h _ _ q2]; exact whl_le h1 h n _ r e
      · rename_i q2; rw [h _ _ q2]; exact e
      · rename_i q2; rw [h _ _ q2]; exact e
      · cases e
    · cases e
theorem forM_le {l : List Nat} {t : IT} {f g : Ro → Option Res} (h : ∀ ρ, Le (f ρ) (g ρ)) : ∀ (ds : List D) (ρ : Ro), Le (forI l t f ds ρ) (forI l t g ds ρ)
  | [], ρ, r, e => e
  | d :: ds, ρ, r, e => by
    unfold forI at e ⊢
    split at e
    · rename_i ps hps
      split at e
      · rename_i ρ2 h2
        rw [h _ _ h2]
        exact forM_le h ds ρ2 r e
      · rename_i ρ2 h2
        rw [h _ _ h2]
        exact forM_le h ds ρ2 r e
      · rename_i ρ2 h2
        rw [h _ _ h2]
        exact e
      · rename_i k d h2
        rw [h _ _ h2]
        exact e
      · cases e
    · cases e
mutual
theorem exI_mono : ∀ (s : IS) (ρ : Ro), Le (exI Γ s ρ) (exI Γ' s ρ)
  | .asg i e, ρ => by unfold exI; exact one_le (oAsg i ρ) rfl (evI_mono hΓ e ρ)
  | .asgC i e, ρ => by unfold exI; exact one_le (oAsgC i ρ) rfl (evI_mono hΓ e ρ)
  | .set i b e, ρ => by
    unfold exI
    have h1 := evI_mono hΓ e ρ
    have h2 := evI_mono hΓ b ρ
    intro r q
    unfold oSet at q
    split at q
    · rename_i q1 q2; rw [h1 _ q1, h2 _ q2]; exact q
    · cases q
  | .aug i e, ρ => by unfold exI; exact one_le (oAug i ρ ρ[i]?) rfl (evI_mono hΓ e ρ)
  | .app i e, ρ => by unfold exI; exact one_le (oApp i ρ ρ[i]?) rfl (evI_mono hΓ e ρ)
  | .ifs t a b, ρ => by
    unfold exI
    have h1 := evIT_mono hΓ t ρ
    have h2 := exIs_mono a ρ
    have h3 := exIs_mono b ρ
    intro r e
    unfold oIfS at e
    split at e
    · rename_i e1; rw [h1 _ e1]; exact h2 r e
    · rename_i e1; rw [h1 _ e1]; exact h3 r e
    · cases e
  | .for l tg it body, ρ => by
    unfold exI
    have h1 := evII_mono hΓ it ρ
    have h2 := exIs_mono body
    intro r e
    unfold oFor at e
    split at e
    · rename_i ds e1
      rw [h1 _ e1]
      exact forM_le hΓ h2 ds ρ r e
    · rename_i ds e1
      rw [h1 _ e1]
      exact one_le (oUnl ρ) rfl (forM_le hΓ h2 ds (lock ρ)) r e
    · cases e
  | .ret e, ρ => by unfold exI; exact one_le oRet rfl (evI_mono hΓ e ρ)
  | .retN i, ρ => by unfold exI; exact Le.refl _
  | .frz l, ρ => by unfold exI; exact Le.refl _
  | .ext i e, ρ => by unfold exI; exact one_le (oExt i ρ ρ[i]?) rfl (evI_mono hΓ e ρ)
  | .unp is e, ρ => by unfold exI; exact one_le (oUnp is ρ) rfl (evI_mono hΓ e ρ)
  | .whl t body, ρ => by unfold exI; exact whl_le (fun ρ => evIT_mono hΓ t ρ) (exIs_mono body) _ ρ
  | .cont, ρ => by unfold exI; exact Le.refl _
  | .brk, ρ => by unfold exI; exact Le.refl _
  | .pass, ρ => by unfold exI; exact Le.refl _
theorem exIs_mono : ∀ (s : ISs) (ρ : Ro), Le (exIs Γ s ρ) (exIs Γ' s ρ)
  | .nil, ρ => by unfold exIs; exact Le.refl _
  | .cons s r, ρ => by
    have h1 := exI_mono s ρ
    have h2 := exIs_mono r
    intro x e
    unfold exIs at e ⊢
    split at e
    · rename_i ρ' e1; rw [h1 _ e1]; exact h2 ρ' x e
    · rename_i e1; rw [h1 _ e1]; exact e
    · rename_i e1; rw [h1 _ e1]; exact e
    · rename_i e1; rw [h1 _ e1]; exact e
    · cases e
end
theorem defI_mono {m k : Nat} {b : ISs} (ds : List D) : Le (defI Γ m k b ds) (defI Γ' m k b ds) := by
  intro r e
  unfold defI at e ⊢
  split at e
  · rename_i hl
    rw [if_pos hl]
    exact one_le oDef rfl (exIs_mono hΓ b _) r e
  · cases e
end
theorem nothing_le {Γ : Nat → Option Fn} (i : Nat) : Le ((fun _ => none : Nat → Option Fn) i) (Γ i) := Le.none _
/-- a closed reckoning, by the kernel -/
theorem def_run {Γ : Nat → Option Fn} {m k : Nat} {b : ISs} {ds : List D} {r : Option (Kd × D)} (h : eqV (defI (fun _ => none) m k b ds) r = true) {v : Kd × D} (hv : r = some v) : defI Γ m k b ds = some v :=
  defI_mono nothing_le ds v (by rw [eqV_ok h]; exact hv)
theorem exs_run {Γ : Nat → Option Fn} {b : ISs} {ρ : Ro} {r : Option Res} (h : eqRes (exIs (fun _ => none) b ρ) r = true) {v : Res} (hv : r = some v) : exIs Γ b ρ = some v :=
  exIs_mono nothing_le b ρ v (by rw [eqRes_ok h]; exact hv)
end G
set_option Elab.async false
set_option linter.all false
set_option maxRecDepth 100000
set_option maxHeartbeats 4000000
set_option autoImplicit false
namespace G
open PySem PySem.Spec L2
/-! ### defs that come again -/
abbrev bNum : ISs := (.cons (.asg 1 (.lit (.int 0))) (.cons (.for [] (.pr 2 3) (.enm (.var 0)) (.cons (.aug 1 (.bin .LShift (.var 3) (.var 2))) .nil)) (.cons (.retN 1) .nil)))
def ψNum : Fn := fun ds => match ds with
  | [.lst l] => (match toInts l with | some bs => if smallB bs then some (.sh, .int (num bs)) else none | none => none)
  | _ => none
theorem ψNum_of {bs : List Int} (h : smallB bs = true) : ψNum [.lst (bs.map .int)] = some (.sh, .int (num bs)) := by
  simp only [ψNum, toInts_map, h, if_true]
theorem runNum {Γ : Nat → Option Fn} {bs : List Int} (h : smallB bs = true) : defI Γ 1 4 bNum [.lst (bs.map .int)] = some (.sh, .int (num bs)) := by
  obtain ⟨ρ', e, x, y, rfl⟩ := forI0 (l := []) (tg := .pr 2 3) (fb := exIs Γ (.cons (.aug 1 (.bin .LShift (.var 3) (.var 2))) .nil)) (fun i ρ => ∃ x y, ρ = [some (.sh (.lst (bs.map .int))), some (.sh (.int (num (bs.take i)))), x, y])
    ((bs.map D.int).mapIdx fun i d => D.tup [.int i, d]) [some (.sh (.lst (bs.map .int))), some (.sh (.int 0)), none, none] ⟨none, none, rfl⟩ (by
      rintro i d ρ e ⟨x, y, rfl⟩
      obtain ⟨d', e1, rfl⟩ := enum_get e
      obtain ⟨b, e2, rfl⟩ := int_get e1
      have hb := smallB_get h e2
      refine ⟨_, _, rfl, ?_, some (.sh (.int i)), some (.sh (.int b)), rfl⟩
      have g := bin_shl (i := b) (j := (i : Int)) (by omega)
      simp [exIs, exI, evI, oVar, oBin, slKd, setAll, forget, oAug, g]
      rw [take_succ_get e2, num_snoc, List.length_take, Nat.min_eq_left (by have := (List.getElem?_eq_some_iff.mp e2).1; omega)])
  refine d_run rfl ((x_cons rfl).trans ((x_cons (x_for rfl e)).trans ?_)) (by decide)
  show some (Res.rt Kd.sh (D.int (num (bs.take _)))) = _
  rw [List.take_of_length_le (by simp)]
theorem leNum {Γ : Nat → Option Fn} (ds : List D) : Le (ψNum ds) (defI Γ 1 4 bNum ds) := by
  intro r h
  unfold ψNum at h
  split at h
  · split at h
    · rename_i bs hb
      split at h
      · rename_i hs
        cases h
        rw [toInts_eq hb]
        exact runNum hs
      · cases h
    · cases h
  · cases h
theorem num_pos {bs : List Int} (h : smallB bs = true) : 0 ≤ num bs := by
  have key : ∀ bs : List Int, (∀ b ∈ bs, 0 ≤ b) → 0 ≤ num bs := by
    intro bs
    induction bs with
    | nil => intro _; exact Int.le_refl 0
    | cons b r ih =>
      intro h
      have h1 := h b List.mem_cons_self
      have h2 := ih fun x hx => h x (List.mem_cons_of_mem _ hx)
      show 0 ≤ b + 2 * num r
      omega
  refine key bs fun b hb => ?_
  simp only [smallB, Bool.and_eq_true, decide_eq_true_eq, List.all_eq_true] at h
  exact (h.2 b hb).1
theorem num_lt {bs : List Int} (h : smallB bs = true) : num bs < 2 ^ bs.length := by
  have key : ∀ bs : List Int, (∀ b ∈ bs, b ≤ 1) → num bs < 2 ^ bs.length := by
    intro bs
    induction bs with
    | nil => intro _; decide
    | cons b r ih =>
      intro h
      have h1 := h b List.mem_cons_self
      have h2 := ih fun x hx => h x (List.mem_cons_of_mem _ hx)
      show b + 2 * num r < 2 ^ (r.length + 1)
      rw [Int.pow_succ]
      omega
  refine key bs fun b hb => ?_
  simp only [smallB, Bool.and_eq_true, decide_eq_true_eq, List.all_eq_true] at h
  exact (h.2 b hb).2
/-! told: i is the place of number_of -/
abbrev bTold (i : Nat) : ISs := (.cons (.ret (.bin .BitAnd (.bin .RShift (.var 0) (.fn i (.cons (.var 1) .nil))) (.lit (.int 1)))) .nil)
def tellI (t : Int) (bs : List Int) : Int := t / 2 ^ (num bs).toNat % 2
def ψTold : Fn := fun ds => match ds with
  | [.int t, .lst l] => (match toInts l with | some bs => if smallB bs then some (.sh, .int (tellI t bs)) else none | none => none)
  | _ => none
theorem ψTold_of {t : Int} {bs : List Int} (h : smallB bs = true) : ψTold [.int t, .lst (bs.map .int)] = some (.sh, .int (tellI t bs)) := by
  simp only [ψTold, toInts_map, h, if_true]
theorem noBo1 {d : D} : noBo [(.sh, d)] = true := rfl
theorem fFn_sh {φ : Fn} {kds : List (Kd × D)} {d : D} (h : noBo kds = true) (e : φ (kds.map (·.2)) = some (.sh, d)) : fFn φ kds = some (.sh, d) := by
  unfold fFn
  rw [e]
  simp [h]
theorem fFn_fr {φ : Fn} {kds : List (Kd × D)} {d : D} (h : noBo kds = true) (e : φ (kds.map (·.2)) = some (.fr, d)) : fFn φ kds = some (.fr, d) := by
  unfold fFn
  rw [e]
  simp [h]
/-- a flat answer, borrowed things handed in, too -/
theorem fFn_flat {φ : Fn} {kds : List (Kd × D)} {d : D} (hf : flatR d = true) (e : φ (kds.map (·.2)) = some (.sh, d)) : fFn φ kds = some (.sh, d) := by
  unfold fFn
  rw [e]
  cases h : noBo kds <;> simp [hf, h]
theorem leTold {Γ : Nat → Option Fn} {i : Nat} (hi : Γ i = some ψNum) (ds : List D) : Le (ψTold ds) (defI Γ 2 2 (bTold i) ds) := by
  intro r h
  unfold ψTold at h
  split at h
  · rename_i t l
    split at h
    · rename_i bs hb
      split at h
      · rename_i hs
        cases h
        rw [toInts_eq hb]
        have e1 : fFn ψNum [(.sh, .lst (bs.map .int))] = some (.sh, .int (num bs)) := fFn_sh rfl (ψNum_of hs)
        have e2 := bin_shr (i := t) (num_pos hs)
        refine d_run rfl (x_stop ?_) (by decide)
        simp [exI, evI, evIs, oVar, slKd, iniI, oFn, oCons, hi, e1, oBin, e2, bin_and1, oRet, tellI]
      · cases h
    · cases h
  · cases h
/-! whole -/
abbrev bWhole : ISs := (.cons (.ret (.bool .And (.cons (.isi "int" (.var 0)) (.cons (.not (.isi "bool" (.var 0))) .nil)))) .nil)
def ψWhole : Fn := fun ds => match ds with
  | [.int _] => some (.sh, .bl true)
  | _ => none
theorem leWhole {Γ : Nat → Option Fn} (ds : List D) : Le (ψWhole ds) (defI Γ 1 1 bWhole ds) := by
  intro r h
  unfold ψWhole at h
  split at h
  · cases h; rfl
  · cases h
/-! the law's own figure -/
abbrev bFig : ISs := (.cons (.asg 2 (.lit (.int 0))) (.cons (.for [] (.pr 3 4) (.enm (.var 1)) (.cons (.asg 2 (.bin .Add (.var 2) (.bin .Mult (.var 4) (.bin .LShift (.lit (.int 1)) (.var 3))))) .nil)) (.cons (.ret (.bin .Mod (.bin .FloorDiv (.var 0) (.bin .LShift (.lit (.int 1)) (.var 2))) (.lit (.int 2)))) .nil)))
def few (bs : List Int) : Bool := smallB bs && decide (bs.length ≤ 4)
def ψFig : Fn := fun ds => match ds with
  | [.int t, .lst l] => (match toInts l with | some bs => if few bs then some (.sh, .int (tellI t bs)) else none | none => none)
  | _ => none
theorem ψFig_of {t : Int} {bs : List Int} (h : few bs = true) : ψFig [.int t, .lst (bs.map .int)] = some (.sh, .int (tellI t bs)) := by
  simp only [ψFig, toInts_map, h, if_true]
theorem pow_le4 {n : Nat} (h : n ≤ 4) : (2 : Int) ^ n ≤ 16 := by
  match n, h with
  | 0, _ => decide
  | 1, _ => decide
  | 2, _ => decide
  | 3, _ => decide
  | 4, _ => decide
theorem pow_lt16 {n : Int} (h0 : 0 ≤ n) (h : n < 16) : 0 < (2 : Int) ^ n.toNat ∧ (2 : Int) ^ n.toNat < 1073741824 := by
  obtain ⟨k, rfl⟩ : ∃ k : Nat, n = k := ⟨n.toNat, by omega⟩
  have hk : k < 16 := by omega
  simp only [Int.toNat_natCast]
  have : k = 0 ∨ k = 1 ∨ k = 2 ∨ k = 3 ∨ k = 4 ∨ k = 5 ∨ k = 6 ∨ k = 7 ∨ k = 8 ∨ k = 9 ∨ k = 10 ∨ k = 11 ∨ k = 12 ∨ k = 13 ∨ k = 14 ∨ k = 15 := by omega
  rcases this with rfl | rfl | rfl | rfl | rfl | rfl | rfl | rfl | rfl | rfl | rfl | rfl | rfl | rfl | rfl | rfl <;> decide
theorem leFig {Γ : Nat → Option Fn} (ds : List D) : Le (ψFig ds) (defI Γ 2 5 bFig ds) := by
  intro r h
  unfold ψFig at h
  split at h
  · rename_i t l
    split at h
    · rename_i bs hb
      split at h
      · rename_i hs
        cases h
        rw [toInts_eq hb]
        simp only [few, Bool.and_eq_true, decide_eq_true_eq] at hs
        obtain ⟨hs, hl⟩ := hs
        obtain ⟨ρ', e, x, y, rfl⟩ := forI0 (l := []) (tg := .pr 3 4) (fb := exIs Γ (.cons (.asg 2 (.bin .Add (.var 2) (.bin .Mult (.var 4) (.bin .LShift (.lit (.int 1)) (.var 3))))) .nil)) (fun i ρ => ∃ x y, ρ = [some (.sh (.int t)), some (.sh (.lst (bs.map .int))), some (.sh (.int (num (bs.take i)))), x, y])
          ((bs.map D.int).mapIdx fun i d => D.tup [.int i, d]) [some (.sh (.int t)), some (.sh (.lst (bs.map .int))), some (.sh (.int 0)), none, none] ⟨none, none, rfl⟩ (by
            rintro i d ρ e ⟨x, y, rfl⟩
            obtain ⟨d', e1, rfl⟩ := enum_get e
            obtain ⟨b, e2, rfl⟩ := int_get e1
            have hb := smallB_get hs e2
            refine ⟨_, _, rfl, ?_, some (.sh (.int i)), some (.sh (.int b)), rfl⟩
            have g := bin_shl (i := 1) (j := (i : Int)) ⟨by omega, by omega, by decide⟩
            have g2 := bin_mul (i := b) (j := 1 * 2 ^ (i : Int).toNat) (by
              simp only [mulOk, Bool.or_eq_true, Bool.and_eq_true, decide_eq_true_eq]
              exact .inl ⟨by omega, by omega⟩)
            simp only [Int.one_mul, Int.toNat_natCast] at g g2
            simp [exIs, exI, evI, oVar, oBin, slKd, setAll, forget, oAsg, g, g2, binD.eq_1]
            rw [take_succ_get e2, num_snoc, List.length_take, Nat.min_eq_left (by have := (List.getElem?_eq_some_iff.mp e2).1; omega)])
        refine d_run rfl ((x_cons rfl).trans ((x_cons (x_for rfl e)).trans (x_stop ?_))) (by decide)
        have hlen : bs.take ((bs.map D.int).mapIdx fun i d => D.tup [.int i, d]).length = bs := List.take_of_length_le (by simp)
        rw [hlen]
        have n0 := num_pos hs
        have n1 : num bs < 16 := Int.lt_of_lt_of_le (num_lt hs) (pow_le4 hl)
        have g := bin_shl (i := 1) (j := num bs) ⟨n0, by omega, by decide⟩
        simp only [Int.one_mul] at g
        have g2 := bin_fdiv (i := t) (pow_lt16 n0 n1)
        have g3 := bin_mod (i := t / 2 ^ (num bs).toNat) (j := 2) (by decide)
        simp [exI, evI, oVar, slKd, oBin, g, g2, g3, oRet, tellI]
      · cases h
    · cases h
  · cases h
end G
set_option Elab.async false
set_option linter.all false
set_option maxRecDepth 100000
set_option maxHeartbeats 4000000
set_option autoImplicit false
namespace G
open PySem PySem.Spec L2
/-! the law's rows of bits -/
abbrev bRows : ISs := (.cons (.asg 1 (.lst (.cons (.lst .nil) .nil))) (.cons (.for [] (.nm 2) (.rng (.var 0)) (.cons (.asg 1 (.bin .Add (.comp [none, none] (.nm 1) (.e (.var 1)) (.bin .Add (.var 1) (.lst (.cons (.lit (.int 0)) .nil)))) (.comp [none, none] (.nm 1) (.e (.var 1)) (.bin .Add (.var 1) (.lst (.cons (.lit (.int 1)) .nil)))))) .nil)) (.cons (.retN 1) .nil)))
def rowsL : Nat → List (List Int)
  | 0 => [[]]
  | n + 1 => (rowsL n).map (· ++ [0]) ++ (rowsL n).map (· ++ [1])
def ilst (r : List Int) : D := .lst (r.map .int)
def ψRows : Fn := fun ds => match ds with
  | [.int m] => if 0 ≤ m ∧ m ≤ 3 then some (.fr, .lst ((rowsL m.toNat).map ilst)) else none
  | _ => none
theorem leRows {Γ : Nat → Option Fn} (ds : List D) : Le (ψRows ds) (defI Γ 1 3 bRows ds) := by
  intro r h
  unfold ψRows at h
  split at h
  · rename_i m
    split at h
    · rename_i hm
      cases h
      have : m = 0 ∨ m = 1 ∨ m = 2 ∨ m = 3 := by omega
      rcases this with rfl | rfl | rfl | rfl <;> exact def_run (r := some (.fr, _)) (by decide +kernel) rfl
    · cases h
  · cases h
theorem rows_few {n : Nat} (h : n ≤ 3) : ∀ r ∈ rowsL n, few r = true ∧ r.length = n := by
  have : n = 0 ∨ n = 1 ∨ n = 2 ∨ n = 3 := by omega
  rcases this with rfl | rfl | rfl | rfl <;> decide
/-! the law's cases -/
abbrev bCases : ISs := (.cons (.asg 2 (.lst .nil)) (.cons (.for [] (.nm 3) (.rng2 (.var 1) (.lit (.int 4))) (.cons (.asg 2 (.bin .Add (.var 2) (.lst (.cons (.tup (.cons (.var 3) (.cons (.lit (.int 0)) .nil))) (.cons (.tup (.cons (.var 3) (.cons (.bin .Sub (.bin .LShift (.lit (.int 1)) (.bin .LShift (.lit (.int 1)) (.var 3))) (.lit (.int 1))) .nil))) (.cons (.tup (.cons (.var 3) (.cons (.bin .Mod (.lit (.int 216)) (.bin .LShift (.lit (.int 1)) (.bin .LShift (.lit (.int 1)) (.var 3)))) .nil))) .nil)))))) .nil)) (.cons (.for [] (.nm 4) (.e (.var 0)) (.cons (.asg 3 (.bin .Add (.var 1) (.bin .Mod (.var 4) (.bin .Sub (.lit (.int 4)) (.var 1))))) (.cons (.app 2 (.tup (.cons (.var 3) (.cons (.bin .Mod (.bin .FloorDiv (.var 4) (.bin .Sub (.lit (.int 4)) (.var 1))) (.bin .LShift (.lit (.int 1)) (.bin .LShift (.lit (.int 1)) (.var 3)))) .nil)))) .nil))) (.cons (.retN 2) .nil))))
def most (m : Int) : Int := 2 ^ (2 ^ m.toNat)
def pairD (p : Int × Int) : D := .tup [.int p.1, .int p.2]
def cellP (l n : Int) : Int × Int := (l + n % (4 - l), n / (4 - l) % most (l + n % (4 - l)))
def baseP : List Int → List (Int × Int)
  | [] => []
  | m :: r => (m, 0) :: (m, most m - 1) :: (m, 216 % most m) :: baseP r
def casesP (l : Int) (ns : List Int) : List (Int × Int) := baseP (([0, 1, 2, 3] : List Int).drop l.toNat) ++ ns.map (cellP l)
def ψCases : Fn := fun ds => match ds with
  | [.scr ns, .int l] => if (l = 0 ∨ l = 1 ∨ l = 2) ∧ ns.length ≤ 63 then some (.fr, .lst ((casesP l ns).map pairD)) else none
  | _ => none
theorem base_run {Γ : Nat → Option Fn} {l : Int} {sc : Option Sl} (h : l = 0 ∨ l = 1 ∨ l = 2) : ∃ x, forI [] (.nm 3) (exIs Γ (.cons (.asg 2 (.bin .Add (.var 2) (.lst (.cons (.tup (.cons (.var 3) (.cons (.lit (.int 0)) .nil))) (.cons (.tup (.cons (.var 3) (.cons (.bin .Sub (.bin .LShift (.lit (.int 1)) (.bin .LShift (.lit (.int 1)) (.var 3))) (.lit (.int 1))) .nil))) (.cons (.tup (.cons (.var 3) (.cons (.bin .Mod (.lit (.int 216)) (.bin .LShift (.lit (.int 1)) (.bin .LShift (.lit (.int 1)) (.var 3)))) .nil))) .nil)))))) .nil))
    ((List.range (4 - l).toNat).map fun (k : Nat) => D.int (l + (k : Int))) [sc, some (.sh (.int l)), some (.ow []), none, none] = some (.nx [sc, some (.sh (.int l)), some (.ow ((baseP (([0, 1, 2, 3] : List Int).drop l.toNat)).map pairD)), x, none]) := by
  obtain ⟨ρ', e, x, rfl⟩ := forI0 (l := []) (tg := .nm 3) (fb := exIs Γ (.cons (.asg 2 (.bin .Add (.var 2) (.lst (.cons (.tup (.cons (.var 3) (.cons (.lit (.int 0)) .nil))) (.cons (.tup (.cons (.var 3) (.cons (.bin .Sub (.bin .LShift (.lit (.int 1)) (.bin .LShift (.lit (.int 1)) (.var 3))) (.lit (.int 1))) .nil))) (.cons (.tup (.cons (.var 3) (.cons (.bin .Mod (.lit (.int 216)) (.bin .LShift (.lit (.int 1)) (.bin .LShift (.lit (.int 1)) (.var 3)))) .nil))) .nil)))))) .nil))
    (fun i ρ => ∃ x, ρ = [sc, some (.sh (.int l)), some (.ow ((baseP ((([0, 1, 2, 3] : List Int).drop l.toNat).take i)).map pairD)), x, none])
    ((List.range (4 - l).toNat).map fun (k : Nat) => D.int (l + (k : Int))) [sc, some (.sh (.int l)), some (.ow []), none, none] ⟨none, by simp [baseP]⟩ (by
      rintro i d ρ e ⟨x, rfl⟩
      have hi : i < (4 - l).toNat := by
        have := (List.getElem?_eq_some_iff.mp e).1
        simpa using this
      rw [List.getElem?_map, List.getElem?_range hi] at e
      cases e
      refine ⟨[(3, .int (l + (i : Int)))], _, rfl, ?_, some (.sh (.int (l + i))), rfl⟩
      have hb : baseP ((([0, 1, 2, 3] : List Int).drop l.toNat).take (i + 1)) = baseP ((([0, 1, 2, 3] : List Int).drop l.toNat).take i) ++ [(l + i, 0), (l + i, most (l + i) - 1), (l + i, 216 % most (l + i))] := by
        have hi4 : i = 0 ∨ i = 1 ∨ i = 2 ∨ i = 3 := by omega
        rcases h with rfl | rfl | rfl <;> rcases hi4 with rfl | rfl | rfl | rfl <;> first | rfl | (exfalso; revert hi; decide)
      have hz : (baseP ((([0, 1, 2, 3] : List Int).drop l.toNat).take i)).length ≤ 12 := by
        have hi4 : i = 0 ∨ i = 1 ∨ i = 2 ∨ i = 3 := by omega
        rcases h with rfl | rfl | rfl <;> rcases hi4 with rfl | rfl | rfl | rfl <;> decide
      rw [hb, List.map_append]
      have hm : l + i = 0 ∨ l + i = 1 ∨ l + i = 2 ∨ l + i = 3 := by omega
      generalize baseP ((([0, 1, 2, 3] : List Int).drop l.toNat).take i) = acc at hz ⊢
      generalize l + (i : Int) = m at hm ⊢
      have g3 : binD .LShift (.int 1) (.int m) = some (.sh, .int (2 ^ m.toNat)) := by rcases hm with rfl | rfl | rfl | rfl <;> rfl
      have g4 : binD .LShift (.int 1) (.int (2 ^ m.toNat)) = some (.sh, .int (most m)) := by rcases hm with rfl | rfl | rfl | rfl <;> rfl
      have g5 : binD .Mod (.int 216) (.int (most m)) = some (.sh, .int (216 % most m)) := bin_mod (by rcases hm with rfl | rfl | rfl | rfl <;> decide)
      have g6 : binD .Sub (.int (most m)) (.int 1) = some (.sh, .int (most m - 1)) := rfl
      have g7 := bin_cat (xs := acc.map pairD) (ys := [.tup [.int m, .int 0], .tup [.int m, .int (most m - 1)], .tup [.int m, .int (216 % most m)]]) (by simp; omega)
      simp [exIs, exI, evI, evIs, oVar, oBin, slKd, setAll, forget, oAsg, oTup, oLst, oCons, noBo, g3, g4, g5, g6, g7, pairD])
  refine ⟨x, ?_⟩
  rw [e]
  rw [List.take_of_length_le (by rcases h with rfl | rfl | rfl <;> decide)]
theorem leCases {Γ : Nat → Option Fn} (ds : List D) : Le (ψCases ds) (defI Γ 2 5 bCases ds) := by
  intro r h
  unfold ψCases at h
  split at h
  · rename_i ns l
    split at h
    · rename_i hl
      cases h
      unfold casesP
      obtain ⟨hl, hn⟩ := hl
      have hr : evII Γ (.rng2 (.var 1) (.lit (.int 4))) [some (.sh (.scr ns)), some (.sh (.int l)), some (.ow []), none, none] = some (false, (List.range (4 - l).toNat).map fun (k : Nat) => D.int (l + (k : Int))) := by
        rcases hl with rfl | rfl | rfl <;> rfl
      obtain ⟨x0, hb⟩ := base_run (Γ := Γ) (sc := some (.sh (.scr ns))) hl
      have hlen : (baseP (([0, 1, 2, 3] : List Int).drop l.toNat)).length ≤ 12 := by rcases hl with rfl | rfl | rfl <;> decide
      generalize (baseP (([0, 1, 2, 3] : List Int).drop l.toNat)) = base at hb hlen ⊢
      obtain ⟨ρ', e, x, y, rfl⟩ := forI0 (l := []) (tg := .nm 4) (fb := exIs Γ (.cons (.asg 3 (.bin .Add (.var 1) (.bin .Mod (.var 4) (.bin .Sub (.lit (.int 4)) (.var 1))))) (.cons (.app 2 (.tup (.cons (.var 3) (.cons (.bin .Mod (.bin .FloorDiv (.var 4) (.bin .Sub (.lit (.int 4)) (.var 1))) (.bin .LShift (.lit (.int 1)) (.bin .LShift (.lit (.int 1)) (.var 3)))) .nil)))) .nil)))
        (fun i ρ => ∃ x y, ρ = [some (.sh (.scr ns)), some (.sh (.int l)), some (.ow ((base ++ (ns.take i).map (cellP l)).map pairD)), x, y])
        (ns.map D.int) [some (.sh (.scr ns)), some (.sh (.int l)), some (.ow (base.map pairD)), x0, none] ⟨x0, none, by simp⟩ (by
          rintro i d ρ e ⟨x, y, rfl⟩
          obtain ⟨n, e2, rfl⟩ := int_get e
          have hi := (List.getElem?_eq_some_iff.mp e2).1
          refine ⟨_, _, rfl, ?_, some (.sh (.int (l + n % (4 - l)))), some (.sh (.int n)), rfl⟩
          have g1 := bin_mod (i := n) (j := 4 - l) (by omega)
          have g2 := bin_fdiv (i := n) (j := 4 - l) (by omega)
          have hm0 := Int.emod_nonneg n (show 4 - l ≠ 0 by omega)
          have hm1 := Int.emod_lt_of_pos n (show 0 < 4 - l by omega)
          have cp : cellP l n = (l + n % (4 - l), n / (4 - l) % most (l + n % (4 - l))) := rfl
          have hsz : ((base ++ (ns.take i).map (cellP l)).map pairD).length < 100000 := by
            simp only [List.length_map, List.length_append, List.length_take]
            omega
          have hap : (base ++ (ns.take (i + 1)).map (cellP l)).map pairD = (base ++ (ns.take i).map (cellP l)).map pairD ++ [pairD (cellP l n)] := by
            simp [take_succ_get e2]
          rw [hap, cp]
          generalize (base ++ (ns.take i).map (cellP l)).map pairD = acc at hsz ⊢
          have hm : l + n % (4 - l) = 0 ∨ l + n % (4 - l) = 1 ∨ l + n % (4 - l) = 2 ∨ l + n % (4 - l) = 3 := by omega
          have ga : binD .Add (.int l) (.int (n % (4 - l))) = some (.sh, .int (l + n % (4 - l))) := rfl
          have gs : binD .Sub (.int 4) (.int l) = some (.sh, .int (4 - l)) := rfl
          generalize n / (4 - l) = v at g2 ⊢
          generalize l + n % (4 - l) = m at ga hm ⊢
          have g3 : binD .LShift (.int 1) (.int m) = some (.sh, .int (2 ^ m.toNat)) := by rcases hm with rfl | rfl | rfl | rfl <;> rfl
          have g4 : binD .LShift (.int 1) (.int (2 ^ m.toNat)) = some (.sh, .int (most m)) := by rcases hm with rfl | rfl | rfl | rfl <;> rfl
          have g5 : binD .Mod (.int v) (.int (most m)) = some (.sh, .int (v % most m)) := bin_mod (by rcases hm with rfl | rfl | rfl | rfl <;> decide)
          simp [exIs, exI, evI, evIs, oVar, oBin, slKd, setAll, forget, oAsg, oApp, oTup, oCons, noBo, g1, g2, g3, g4, g5, ga, gs, hsz, pairD])
      refine d_run rfl ((x_cons rfl).trans ((x_cons (x_for hr hb)).trans ((x_cons (x_for rfl e)).trans ?_))) (by decide)
      show some (Res.rt Kd.fr (D.lst ((base ++ (ns.take _).map (cellP l)).map pairD))) = _
      rw [List.take_of_length_le (by simp)]
    · cases h
  · cases h
end G
set_option Elab.async false
set_option linter.all false
set_option maxRecDepth 100000
set_option maxHeartbeats 4000000
set_option autoImplicit false
namespace G
open PySem PySem.Spec L2
theorem evMap_map {α : Type} {g : D → Option (Kd × D)} (f y : α → D) : ∀ {l : List α}, (∀ a ∈ l, ∃ k, g (f a) = some (k, y a) ∧ k ≠ .bo) → evMap g (l.map f) = some (l.map y)
  | [], _ => rfl
  | a :: l, h => by
    obtain ⟨k, e, hk⟩ := h a List.mem_cons_self
    have ih := evMap_map f y (l := l) fun b hb => h b (List.mem_cons_of_mem _ hb)
    rw [List.map_cons, List.map_cons, evMap, e, ih]
    exact if_neg hk
theorem toBools_true {α : Type} : ∀ l : List α, toBools (l.map fun _ => D.bl true) = some (l.map fun _ => true)
  | [] => rfl
  | a :: l => by
    rw [List.map_cons, List.map_cons, toBools, toBools_true l]
    rfl
theorem all_true {α : Type} (l : List α) (k : Kd) : fBlt "all" [(k, .lst (l.map fun _ => D.bl true))] = some (.sh, .bl true) := by
  have h1 : ("all" : Str) ≠ "len" := by decide
  simp only [fBlt, h1, if_false, if_true, toBools_true]
  simp
theorem eqL_self : ∀ r : List Int, eqL (eqX 90) (r.map D.int) (r.map D.int) = some true
  | [] => rfl
  | a :: r => by
    rw [List.map_cons]
    rw [eqL, show eqX 90 (.int a) (.int a) = some (a == a) from rfl, eqL_self r]
    simp
theorem ne_self (r : List Int) : cmpD .NotEq (.lst (r.map D.int)) (.lst (r.map D.int)) = some false := by
  simp [cmpD, eqL_self r]
theorem ne_int (i : Int) : cmpD .NotEq (.int i) (.int i) = some false := by
  simp [cmpD]
theorem list_of (ds : List D) (k : Kd) : fBlt "list" [(k, .lst ds)] = some (.fr, .lst ds) := by
  have h1 : ("list" : Str) ≠ "len" := by decide
  have h2 : ("list" : Str) ≠ "all" := by decide
  simp only [fBlt, h1, h2, if_false, if_true]
end G
set_option Elab.async false
set_option linter.all false
set_option maxRecDepth 100000
set_option maxHeartbeats 4000000
set_option autoImplicit false
namespace G
open PySem PySem.Spec L2
/-! ### bits of a number -/
def bitsR : Nat → Int → List Int
  | 0, _ => []
  | w + 1, v => v % 2 :: bitsR w (v / 2)
theorem bitsR_len : ∀ (w : Nat) (v : Int), (bitsR w v).length = w
  | 0, _ => rfl
  | w + 1, v => by simp [bitsR, bitsR_len w]
theorem range_map {α : Type} (f : Nat → α) (n : Nat) : (List.range (n + 1)).map f = f 0 :: (List.range n).map fun k => f (k + 1) := by
  rw [List.range_succ_eq_map, List.map_cons, List.map_map]
  rfl
theorem bitsR_eq : ∀ (w : Nat) (v : Int), ((List.range w).map fun k => v / 2 ^ k % 2) = bitsR w v
  | 0, v => rfl
  | w + 1, v => by
    rw [range_map]
    show v / 2 ^ 0 % 2 :: _ = v % 2 :: bitsR w (v / 2)
    rw [← bitsR_eq w (v / 2)]
    simp only [Int.pow_zero, Int.ediv_one]
    congr 1
    apply List.map_congr_left
    intro k _
    rw [Int.pow_succ, Int.mul_comm, Int.ediv_ediv_of_nonneg (by decide : (0 : Int) ≤ 2)]
theorem num_bitsR : ∀ (w : Nat) (v : Int), num (bitsR w v) = v % 2 ^ w
  | 0, v => by simp [bitsR, num, Int.emod_one]
  | w + 1, v => by
    show v % 2 + 2 * num (bitsR w (v / 2)) = _
    rw [num_bitsR w, Int.pow_succ, Int.mul_comm (2 ^ w) 2]
    have hp : (0 : Int) < 2 ^ w := Int.pow_pos (by decide)
    have h1 := Int.emod_add_mul_ediv v 2
    have h2 := Int.emod_add_mul_ediv (v / 2) (2 ^ w)
    have h3 : v / (2 * 2 ^ w) = v / 2 / 2 ^ w := (Int.ediv_ediv_of_nonneg (by decide : (0 : Int) ≤ 2)).symm
    have h4 := Int.emod_add_mul_ediv v (2 * 2 ^ w)
    rw [h3, Int.mul_assoc] at h4
    generalize hq : 2 ^ w * (v / 2 / 2 ^ w) = q at h2 h4
    omega
def bin01 (bs : List Int) : Prop := ∀ b ∈ bs, 0 ≤ b ∧ b ≤ 1
theorem bin01_bitsR : ∀ (w : Nat) (v : Int), bin01 (bitsR w v)
  | 0, v => fun b hb => by cases hb
  | w + 1, v => fun b hb => by
    rcases List.mem_cons.mp hb with rfl | hb
    · omega
    · exact bin01_bitsR w _ b hb
theorem bitsR_num : ∀ {bs : List Int}, bin01 bs → bitsR bs.length (num bs) = bs
  | [], _ => rfl
  | b :: bs, h => by
    have hb := h b List.mem_cons_self
    have ih := bitsR_num (bs := bs) fun x hx => h x (List.mem_cons_of_mem _ hx)
    show (b + 2 * num bs) % 2 :: bitsR bs.length ((b + 2 * num bs) / 2) = _
    have e1 : (b + 2 * num bs) % 2 = b := by omega
    have e2 : (b + 2 * num bs) / 2 = num bs := by omega
    rw [e1, e2, ih]
theorem bitsR_get : ∀ {w : Nat} {v : Int} {j : Nat}, j < w → (bitsR w v)[j]? = some (v / 2 ^ j % 2)
  | 0, v, j, h => by omega
  | w + 1, v, 0, h => by simp [bitsR]
  | w + 1, v, j + 1, h => by
    show (bitsR w (v / 2))[j]? = _
    rw [bitsR_get (by omega), Int.pow_succ, Int.mul_comm, Int.ediv_ediv_of_nonneg (by decide : (0 : Int) ≤ 2)]
theorem num_get {bs : List Int} (h : bin01 bs) {j : Nat} (hj : j < bs.length) : bs[j]? = some (num bs / 2 ^ j % 2) := by
  have := bitsR_get (w := bs.length) (v := num bs) hj
  rw [bitsR_num h] at this
  exact this
theorem small_bin {bs : List Int} (h : smallB bs = true) : bin01 bs := by
  simp only [smallB, Bool.and_eq_true, decide_eq_true_eq, List.all_eq_true] at h
  exact h.2
theorem bin_small {bs : List Int} (h : bin01 bs) (hl : bs.length ≤ 1000) : smallB bs = true := by
  simp only [smallB, Bool.and_eq_true, decide_eq_true_eq, List.all_eq_true]
  exact ⟨hl, h⟩
theorem bin_few {bs : List Int} (h : bin01 bs) (hl : bs.length ≤ 4) : few bs = true := by
  simp only [few, Bool.and_eq_true, decide_eq_true_eq]
  exact ⟨bin_small h (by omega), hl⟩
theorem few_small {r : List Int} (h : few r = true) : smallB r = true := by
  simp only [few, Bool.and_eq_true] at h
  exact h.1
theorem few_bin {bs : List Int} (h : few bs = true) : bin01 bs := small_bin (few_small h)
theorem num_ge : ∀ {bs : List Int}, bin01 bs → 0 ≤ num bs
  | [], _ => Int.le_refl 0
  | b :: r, h => by
    have h1 := (h b List.mem_cons_self).1
    have h2 := num_ge (bs := r) fun x hx => h x (List.mem_cons_of_mem _ hx)
    show 0 ≤ b + 2 * num r
    omega
theorem num_up : ∀ {bs : List Int}, bin01 bs → num bs < 2 ^ bs.length
  | [], _ => by decide
  | b :: r, h => by
    have h1 := (h b List.mem_cons_self).2
    have h2 := num_up (bs := r) fun x hx => h x (List.mem_cons_of_mem _ hx)
    show b + 2 * num r < 2 ^ (r.length + 1)
    rw [Int.pow_succ]
    omega
/-- all rows of n bits, as the program counts them -/
def allB (n : Nat) : List (List Int) := (List.range (2 ^ n)).map fun (i : Nat) => bitsR n (i : Int)
/-- a table made row by row tells of each row what was put there -/
theorem tell_made {n : Nat} {f : List Int → Int} (hf : ∀ bs, bs.length = n → 0 ≤ f bs ∧ f bs ≤ 1) {bs : List Int} (h : bin01 bs) (hl : bs.length = n) : tellI (num ((allB n).map f)) bs = f bs := by
  have hb : bin01 ((allB n).map f) := fun b hb => by
    obtain ⟨r, hr, rfl⟩ := List.mem_map.mp hb
    obtain ⟨i, hi, rfl⟩ := List.mem_map.mp hr
    exact hf _ (bitsR_len n _)
  have n0 : 0 ≤ num bs := num_ge h
  have n1 : num bs < 2 ^ n := by rw [← hl]; exact num_up h
  have n2 : (num bs).toNat < 2 ^ n := by
    have e : ((2 ^ n : Nat) : Int) = (2 : Int) ^ n := by simp
    omega
  have hlen : ((allB n).map f).length = 2 ^ n := by simp [allB]
  have h1 := num_get hb (j := (num bs).toNat) (by rw [hlen]; exact n2)
  have h2 : ((allB n).map f)[(num bs).toNat]? = some (f bs) := by
    unfold allB
    rw [List.getElem?_map, List.getElem?_map, List.getElem?_range n2]
    show some (f (bitsR n (((num bs).toNat : Nat) : Int))) = _
    rw [Int.toNat_of_nonneg n0]
    have := bitsR_num h
    rw [hl] at this
    rw [this]
  rw [h2] at h1
  exact (Option.some.inj h1).symm
theorem made_small {n : Nat} {f : List Int → Int} (hf : ∀ bs, bs.length = n → 0 ≤ f bs ∧ f bs ≤ 1) : 0 ≤ num ((allB n).map f) ∧ num ((allB n).map f) < 2 ^ (2 ^ n) := by
  have hb : bin01 ((allB n).map f) := fun b hb => by
    obtain ⟨r, hr, rfl⟩ := List.mem_map.mp hb
    obtain ⟨i, hi, rfl⟩ := List.mem_map.mp hr
    exact hf _ (bitsR_len n _)
  have hlen : ((allB n).map f).length = 2 ^ n := by simp [allB]
  have := num_up hb
  rw [hlen] at this
  exact ⟨num_ge hb, this⟩
theorem tell01 (t : Int) (bs : List Int) : 0 ≤ tellI t bs ∧ tellI t bs ≤ 1 := by
  unfold tellI
  omega
/-! bits_of -/
abbrev bBits : ISs := (.cons (.ret (.comp [none, none, some 0] (.nm 1) (.rng (.var 1)) (.bin .BitAnd (.bin .RShift (.var 2) (.var 1)) (.lit (.int 1))))) .nil)
def ψBits : Fn := fun ds => match ds with
  | [.int v, .int w] => if 0 ≤ w ∧ w ≤ 1000 then some (.fr, ilst (bitsR w.toNat v)) else none
  | _ => none
theorem leBits {Γ : Nat → Option Fn} (ds : List D) : Le (ψBits ds) (defI Γ 2 2 bBits ds) := by
  intro r h
  unfold ψBits at h
  split at h
  · rename_i v w
    split at h
    · rename_i hw
      cases h
      refine d_run rfl (x_stop ?_) (by decide)
      have hr : rangeOk 0 w = true := by
        simp only [rangeOk, Bool.and_eq_true, decide_eq_true_eq]
        omega
      have hm : evMap (eltI (.nm 1) (evI Γ (.bin .BitAnd (.bin .RShift (.var 2) (.var 1)) (.lit (.int 1)))) [none, none, some (.sh (.int v))]) ((List.range w.toNat).map fun (k : Nat) => D.int (0 + (k : Int))) = some ((List.range w.toNat).map fun (k : Nat) => D.int (v / 2 ^ k % 2)) := by
        refine evMap_map _ _ fun k hk => ⟨.sh, ?_, by decide⟩
        have g := bin_shr (i := v) (j := (k : Int)) (by omega)
        simp only [Int.toNat_natCast] at g
        simp [eltI, tgI, setAll, evI, oVar, slKd, oBin, g, bin_and1]
      have hi : evII Γ (.rng (.var 1)) (iniI 2 [.int v, .int w]) = some (false, (List.range w.toNat).map fun (k : Nat) => D.int (0 + (k : Int))) := by
        simp [evII, evI, iniI, oVar, slKd, oRng, hr]
      rw [exI, evI, hi]
      show oRet (oComp _ (eltI _ _ [none, none, some (.sh (.int v))])) = _
      unfold oComp
      dsimp only
      rw [if_pos (by simp; omega), hm]
      show some (Res.rt Kd.fr (D.lst _)) = some (Res.rt Kd.fr (ilst _))
      rw [← bitsR_eq, ilst, List.map_map]
      rfl
    · cases h
  · cases h
/-! all_bits: i is the place of bits_of -/
abbrev bAll (i : Nat) : ISs := (.cons (.ret (.comp [none, none, none, some 0] (.nm 1) (.rng (.bin .LShift (.lit (.int 1)) (.var 0))) (.fn i (.cons (.var 1) (.cons (.var 3) .nil))))) .nil)
def ψAll : Fn := fun ds => match ds with
  | [.int m] => if 0 ≤ m ∧ m ≤ 3 then some (.fr, .lst ((allB m.toNat).map ilst)) else none
  | _ => none
theorem leAll {Γ : Nat → Option Fn} {i : Nat} (hi : Γ i = some ψBits) (ds : List D) : Le (ψAll ds) (defI Γ 1 1 (bAll i) ds) := by
  intro r h
  unfold ψAll at h
  split at h
  · rename_i m
    split at h
    · rename_i hm
      cases h
      refine d_run rfl (x_stop ?_) (by decide)
      have g : binD .LShift (.int 1) (.int m) = some (.sh, .int (2 ^ m.toNat)) := by
        have : m = 0 ∨ m = 1 ∨ m = 2 ∨ m = 3 := by omega
        rcases this with rfl | rfl | rfl | rfl <;> rfl
      have hr : rangeOk 0 (2 ^ m.toNat) = true := by
        have : m = 0 ∨ m = 1 ∨ m = 2 ∨ m = 3 := by omega
        rcases this with rfl | rfl | rfl | rfl <;> rfl
      have ht : ((2 : Int) ^ m.toNat).toNat = 2 ^ m.toNat := by
        have : m = 0 ∨ m = 1 ∨ m = 2 ∨ m = 3 := by omega
        rcases this with rfl | rfl | rfl | rfl <;> rfl
      have hz : 2 ^ m.toNat ≤ 100000 := by
        have : m = 0 ∨ m = 1 ∨ m = 2 ∨ m = 3 := by omega
        rcases this with rfl | rfl | rfl | rfl <;> decide
      have hm' : evMap (eltI (.nm 1) (evI Γ (.fn i (.cons (.var 1) (.cons (.var 3) .nil)))) [none, none, none, some (.sh (.int m))]) ((List.range (2 ^ m.toNat)).map fun (k : Nat) => D.int (0 + (k : Int))) = some ((List.range (2 ^ m.toNat)).map fun (k : Nat) => ilst (bitsR m.toNat (k : Int))) := by
        refine evMap_map _ _ fun k hk => ⟨.fr, ?_, by decide⟩
        have e1 : fFn ψBits [(.sh, .int (k : Int)), (.sh, .int m)] = some (.fr, ilst (bitsR m.toNat (k : Int))) := fFn_fr rfl (if_pos (by omega))
        simp [eltI, tgI, setAll, evI, evIs, oCons, oFn, oVar, slKd, hi, e1]
      have hit : evII Γ (.rng (.bin .LShift (.lit (.int 1)) (.var 0))) (iniI 1 [.int m]) = some (false, (List.range (2 ^ m.toNat)).map fun (k : Nat) => D.int (0 + (k : Int))) := by
        simp [evII, evI, iniI, oVar, slKd, oBin, g, oRng, hr, ht]
      rw [exI, evI, hit]
      show oRet (oComp _ (eltI _ _ [none, none, none, some (.sh (.int m))])) = _
      unfold oComp
      dsimp only
      rw [if_pos (by simpa using hz), hm']
      show some (Res.rt Kd.fr (D.lst _)) = some (Res.rt Kd.fr (D.lst _))
      rw [allB, List.map_map]
      rfl
    · cases h
  · cases h
theorem cut_to {xs : List Int} {k : Int} (h : 0 ≤ k) : cutD (xs.map D.int) none (some k) = (xs.take k.toNat).map D.int := by
  obtain ⟨j, rfl⟩ : ∃ j : Nat, k = j := ⟨k.toNat, by omega⟩
  simp only [cutD, HT.sIx_none, HT.sIx_nat, List.length_map, List.drop_zero, Nat.sub_zero, Int.toNat_natCast, List.map_take]
  rw [Nat.min_comm]
  by_cases hj : j ≤ xs.length
  · rw [Nat.min_eq_right hj]
  · rw [Nat.min_eq_left (by omega), List.take_of_length_le (by simp), List.take_of_length_le (by simp; omega)]
theorem cut_from {xs : List Int} {k : Int} (h : 0 ≤ k) : cutD (xs.map D.int) (some k) none = (xs.drop k.toNat).map D.int := by
  obtain ⟨j, rfl⟩ : ∃ j : Nat, k = j := ⟨k.toNat, by omega⟩
  simp only [cutD, HT.sIx_none, HT.sIx_nat, List.length_map, Int.toNat_natCast, List.map_drop]
  by_cases hj : j ≤ xs.length
  · rw [Nat.min_eq_left hj, List.take_of_length_le (by simp)]
  · rw [Nat.min_eq_right (by omega), List.drop_of_length_le (by simp), List.drop_of_length_le (by simp; omega)]
    simp
end G
set_option Elab.async false
set_option linter.all false
set_option maxRecDepth 100000
set_option maxHeartbeats 4000000
set_option autoImplicit false
namespace G
open PySem PySem.Spec L2
/-! ### tables made of tables -/
theorem allB_mem {n : Nat} {r : List Int} (h : r ∈ allB n) : bin01 r ∧ r.length = n := by
  obtain ⟨i, _, rfl⟩ := List.mem_map.mp h
  exact ⟨bin01_bitsR _ _, bitsR_len _ _⟩
theorem made_run {Γ : Nat → Option Fn} {iN : Nat} (hN : Γ iN = some ψNum) {n : Nat} (hn : n ≤ 3) {f : List Int → Int} (h01 : ∀ r, 0 ≤ f r ∧ f r ≤ 1) {g : D → Option (Kd × D)} (hg : ∀ r, bin01 r → r.length = n → g (ilst r) = some (.sh, .int (f r))) {bo : Bool} :
    oFn (Γ iN) (oCons (oComp (some (bo, (allB n).map ilst)) g) (some [])) = some (.sh, .int (num ((allB n).map f))) := by
  have hm : evMap g ((allB n).map ilst) = some ((allB n).map fun r => D.int (f r)) := evMap_map _ _ fun r hr => ⟨.sh, hg r (allB_mem hr).1 (allB_mem hr).2, by decide⟩
  have hp : 2 ^ n ≤ 8 := by
    have : n = 0 ∨ n = 1 ∨ n = 2 ∨ n = 3 := by omega
    rcases this with rfl | rfl | rfl | rfl <;> decide
  have hl : (allB n).length = 2 ^ n := by simp [allB]
  have hs : smallB ((allB n).map f) = true := bin_small (fun b hb => by
    obtain ⟨r, hr, rfl⟩ := List.mem_map.mp hb
    exact h01 r) (by rw [List.length_map, hl]; omega)
  have e : fFn ψNum [(.fr, .lst ((allB n).map fun r => D.int (f r)))] = some (.sh, .int (num ((allB n).map f))) := by
    refine fFn_sh rfl ?_
    have := ψNum_of hs
    rw [List.map_map] at this
    exact this
  rw [hN]
  unfold oComp
  dsimp only
  rw [if_pos (by rw [List.length_map, hl]; omega), hm]
  exact e
def insB (k : Int) (b : Int) (r : List Int) : List Int := r.take k.toNat ++ [b] ++ r.drop k.toNat
theorem insB_len {k b : Int} {r : List Int} : (insB k b r).length = r.length + 1 := by
  simp only [insB, List.length_append, List.length_take, List.length_drop, List.length_cons, List.length_nil]
  omega
theorem insB_bin {k b : Int} {r : List Int} (h : bin01 r) (hb : 0 ≤ b ∧ b ≤ 1) : bin01 (insB k b r) := by
  intro x hx
  rcases List.mem_append.mp hx with hx | hx
  · rcases List.mem_append.mp hx with hx | hx
    · exact h x (List.mem_of_mem_take hx)
    · rw [List.mem_singleton.mp hx]; exact hb
  · exact h x (List.mem_of_mem_drop hx)
theorem ins_run {k b : Int} {r : List Int} (hk : 0 ≤ k) (hl : r.length ≤ 100) {ka kb : Kd} :
    oBin .Add (oBin .Add (some (ka, .lst (cutD (r.map D.int) none (some k)))) (some (kb, .lst [.int b]))) (some (ka, .lst (cutD (r.map D.int) (some k) none))) = some (.fr, ilst (insB k b r)) := by
  rw [cut_to hk, cut_from hk]
  have g1 := bin_cat (xs := (r.take k.toNat).map D.int) (ys := [.int b]) (by simp; omega)
  have g2 := bin_cat (xs := (r.take k.toNat).map D.int ++ [.int b]) (ys := (r.drop k.toNat).map D.int) (by simp; omega)
  simp only [oBin, g1, g2]
  simp [ilst, insB]
/-! fixed: the places of number_of, told, all_bits -/
abbrev bFixed (iN iT iA : Nat) : ISs := (.cons (.ret (.fn iN (.cons (.comp [none, none, none, some 3, some 2, some 0] (.nm 1) (.e (.fn iA (.cons (.bin .Sub (.var 1) (.lit (.int 1))) .nil))) (.fn iT (.cons (.var 5) (.cons (.bin .Add (.bin .Add (.sl (.var 1) .non (.som (.var 4))) (.lst (.cons (.var 3) .nil))) (.sl (.var 1) (.som (.var 4)) .non)) .nil)))) .nil))) .nil)
def fixI (t m k b : Int) : Int := num ((allB (m - 1).toNat).map fun r => tellI t (insB k b r))
def ψFixed : Fn := fun ds => match ds with
  | [.int t, .int m, .int k, .int b] => if 1 ≤ m ∧ m ≤ 3 ∧ 0 ≤ k ∧ k < m ∧ 0 ≤ b ∧ b ≤ 1 then some (.sh, .int (fixI t m k b)) else none
  | _ => none
theorem leFixed {Γ : Nat → Option Fn} {iN iT iA : Nat} (hN : Γ iN = some ψNum) (hT : Γ iT = some ψTold) (hA : Γ iA = some ψAll) (ds : List D) : Le (ψFixed ds) (defI Γ 4 4 (bFixed iN iT iA) ds) := by
  intro r h
  unfold ψFixed at h
  split at h
  · rename_i t m k b
    split at h
    · rename_i hc
      cases h
      refine d_run rfl (x_stop ?_) (by decide)
      have e1 : fFn ψAll [(.sh, .int (m - 1))] = some (.fr, .lst ((allB (m - 1).toNat).map ilst)) := fFn_fr rfl (if_pos (by omega))
      have hit : evII Γ (.e (.fn iA (.cons (.bin .Sub (.var 1) (.lit (.int 1))) .nil))) (iniI 4 [.int t, .int m, .int k, .int b]) = some (false, (allB (m - 1).toNat).map ilst) := by
        have gs : binD .Sub (.int m) (.int 1) = some (.sh, .int (m - 1)) := rfl
        simp [evII, evI, evIs, iniI, oVar, slKd, oBin, gs, oCons, oFn, hA, e1, oSeq, itOf, seqOf]
      rw [exI, evI, evIs, evIs, evI, hit]
      refine (congrArg oRet (made_run hN (by omega) (f := fun r => tellI t (insB k b r)) (fun r => tell01 _ _) (fun r hr hl => ?_))).trans rfl
      have hins := ins_run (k := k) (b := b) (r := r) (by omega) (by omega) (ka := .fr) (kb := .fr)
      have e2 : fFn ψTold [(.sh, .int t), (.fr, ilst (insB k b r))] = some (.sh, .int (tellI t (insB k b r))) := fFn_sh rfl (ψTold_of (bin_small (insB_bin hr (by omega)) (by rw [insB_len]; omega)))
      show oFn (Γ iT) (oCons (some (.sh, .int t)) (oCons (oBin .Add (oBin .Add (some (.fr, .lst (cutD (r.map D.int) none (some k)))) (some (.fr, .lst [.int b]))) (some (.fr, .lst (cutD (r.map D.int) (some k) none)))) (some []))) = _
      rw [hins, hT]
      exact e2
    · cases h
  · cases h
theorem atI_of {α : Type} {xs : List α} {k : Int} (h0 : 0 ≤ k) (h : k < xs.length) : L2.atI xs k = xs[k.toNat]? := by
  unfold L2.atI ixN
  rw [if_pos h0, if_pos h]
  rfl
/-! joined -/
abbrev bJoined (iN iT iA : Nat) : ISs := (.cons (.ret (.fn iN (.cons (.comp [none, none, none, some 3, some 2, some 0] (.nm 1) (.e (.fn iA (.cons (.bin .Sub (.var 1) (.lit (.int 1))) .nil))) (.fn iT (.cons (.var 5) (.cons (.bin .Add (.bin .Add (.sl (.var 1) .non (.som (.var 3))) (.lst (.cons (.ix (.var 1) (.var 4)) .nil))) (.sl (.var 1) (.som (.var 3)) .non)) .nil)))) .nil))) .nil)
def getB (r : List Int) (k : Int) : Int := (r[k.toNat]?).getD 0
def joinI (t m k j : Int) : Int := num ((allB (m - 1).toNat).map fun r => tellI t (insB j (getB r k) r))
def ψJoined : Fn := fun ds => match ds with
  | [.int t, .int m, .int k, .int j] => if 2 ≤ m ∧ m ≤ 3 ∧ 0 ≤ k ∧ k < j ∧ j < m then some (.sh, .int (joinI t m k j)) else none
  | _ => none
theorem getB_ix {r : List Int} {k : Int} (h0 : 0 ≤ k) (h : k < r.length) : L2.atI (r.map D.int) k = some (.int (getB r k)) := by
  rw [atI_of h0 (by simpa using h), List.getElem?_map]
  unfold getB
  rw [List.getElem?_eq_getElem (by omega)]
  rfl
theorem getB_bin {r : List Int} (h : bin01 r) (k : Int) : 0 ≤ getB r k ∧ getB r k ≤ 1 := by
  unfold getB
  cases e : r[k.toNat]? with
  | none => exact ⟨by decide, by decide⟩
  | some x => exact h x (List.mem_of_getElem? e)
theorem leJoined {Γ : Nat → Option Fn} {iN iT iA : Nat} (hN : Γ iN = some ψNum) (hT : Γ iT = some ψTold) (hA : Γ iA = some ψAll) (ds : List D) : Le (ψJoined ds) (defI Γ 4 4 (bJoined iN iT iA) ds) := by
  intro r h
  unfold ψJoined at h
  split at h
  · rename_i t m k j
    split at h
    · rename_i hc
      cases h
      refine d_run rfl (x_stop ?_) (by decide)
      have e1 : fFn ψAll [(.sh, .int (m - 1))] = some (.fr, .lst ((allB (m - 1).toNat).map ilst)) := fFn_fr rfl (if_pos (by omega))
      have hit : evII Γ (.e (.fn iA (.cons (.bin .Sub (.var 1) (.lit (.int 1))) .nil))) (iniI 4 [.int t, .int m, .int k, .int j]) = some (false, (allB (m - 1).toNat).map ilst) := by
        have gs : binD .Sub (.int m) (.int 1) = some (.sh, .int (m - 1)) := rfl
        simp [evII, evI, evIs, iniI, oVar, slKd, oBin, gs, oCons, oFn, hA, e1, oSeq, itOf, seqOf]
      rw [exI, evI, evIs, evIs, evI, hit]
      refine (congrArg oRet (made_run hN (by omega) (f := fun r => tellI t (insB j (getB r k) r)) (fun r => tell01 _ _) (fun r hr hl => ?_))).trans rfl
      have hins := ins_run (k := j) (b := getB r k) (r := r) (by omega) (by omega) (ka := .fr) (kb := .fr)
      have hix := getB_ix (r := r) (k := k) (by omega) (by omega)
      have e2 : fFn ψTold [(.sh, .int t), (.fr, ilst (insB j (getB r k) r))] = some (.sh, .int (tellI t (insB j (getB r k) r))) := fFn_sh rfl (ψTold_of (bin_small (insB_bin hr (getB_bin hr k)) (by rw [insB_len]; omega)))
      show oFn (Γ iT) (oCons (some (.sh, .int t)) (oCons (oBin .Add (oBin .Add (some (.fr, .lst (cutD (r.map D.int) none (some j)))) (oLst (oCons ((L2.atI (r.map D.int) k).map fun d => (Kd.sh, d)) (some [])))) (some (.fr, .lst (cutD (r.map D.int) (some j) none)))) (some []))) = _
      rw [hix]
      show oFn (Γ iT) (oCons (some (.sh, .int t)) (oCons (oBin .Add (oBin .Add (some (.fr, .lst (cutD (r.map D.int) none (some j)))) (some (.fr, .lst [.int (getB r k)]))) (some (.fr, .lst (cutD (r.map D.int) (some j) none)))) (some []))) = _
      rw [hins, hT]
      exact e2
    · cases h
  · cases h
theorem shl_small {m : Int} (h0 : 0 ≤ m) (h : m ≤ 3) : binD .LShift (.int 1) (.int m) = some (.sh, .int (2 ^ m.toNat)) ∧ binD .LShift (.int 1) (.int (2 ^ m.toNat)) = some (.sh, .int (most m)) := by
  have hm : m = 0 ∨ m = 1 ∨ m = 2 ∨ m = 3 := by omega
  rcases hm with rfl | rfl | rfl | rfl <;> exact ⟨rfl, rfl⟩
theorem cases_ok {l : Int} (hl : l = 0 ∨ l = 1 ∨ l = 2) (ns : List Int) : ∀ p ∈ casesP l ns, l ≤ p.1 ∧ p.1 ≤ 3 := by
  intro p hp
  rcases List.mem_append.mp hp with hp | hp
  · have key : ∀ p ∈ baseP (([0, 1, 2, 3] : List Int).drop l.toNat), l ≤ p.1 ∧ p.1 ≤ 3 := by
      rcases hl with rfl | rfl | rfl <;> decide
    exact key p hp
  · obtain ⟨n, hn, rfl⟩ := List.mem_map.mp hp
    show l ≤ l + n % (4 - l) ∧ l + n % (4 - l) ≤ 3
    have hm0 := Int.emod_nonneg n (show 4 - l ≠ 0 by omega)
    have hm1 := Int.emod_lt_of_pos n (show 0 < 4 - l by omega)
    omega
end G
set_option Elab.async false
set_option linter.all false
set_option maxRecDepth 100000
set_option maxHeartbeats 4000000
set_option autoImplicit false
namespace G
open PySem PySem.Spec L2
/-! ### pieces that come again -/
theorem cutD_map {α : Type} (f : α → D) (l : List α) (lo hi : Option Int) : ∃ l' : List α, cutD (l.map f) lo hi = l'.map f ∧ (∀ x ∈ l', x ∈ l) ∧ l'.length ≤ l.length := by
  refine ⟨(l.drop (HT.sIx l.length 0 lo)).take (HT.sIx l.length l.length hi - HT.sIx l.length 0 lo), ?_, fun x hx => List.mem_of_mem_drop (List.mem_of_mem_take hx), ?_⟩
  · simp only [cutD, List.length_map, List.map_take, List.map_drop]
  · simp only [List.length_take, List.length_drop]
    omega
theorem range_it {Γ : Nat → Option Fn} {ρ : Ro} {a : IE} {k : Kd} {n : Int} (h : evI Γ a ρ = some (k, .int n)) (h0 : n ≤ 1000) (h1 : -1000 ≤ n) : evII Γ (.rng a) ρ = some (false, (List.range n.toNat).map fun (k : Nat) => D.int (0 + (k : Int))) := by
  have hr : rangeOk 0 n = true := by
    simp only [rangeOk, Bool.and_eq_true, decide_eq_true_eq]
    omega
  simp [evII, h, oRng, hr]
theorem range_get {n : Nat} {lo : Int} {j : Nat} {d : D} (e : ((List.range n).map fun (k : Nat) => D.int (lo + (k : Int)))[j]? = some d) : j < n ∧ d = .int (lo + (j : Int)) := by
  have hj : j < n := by
    have := (List.getElem?_eq_some_iff.mp e).1
    simpa using this
  rw [List.getElem?_map, List.getElem?_range hj] at e
  cases e
  exact ⟨hj, rfl⟩
theorem map_get {α : Type} {f : α → D} {l : List α} {i : Nat} {d : D} (e : (l.map f)[i]? = some d) : ∃ a, a ∈ l ∧ l[i]? = some a ∧ d = f a := by
  rw [List.getElem?_map] at e
  obtain ⟨a, ha, q⟩ := mapS e
  exact ⟨a, List.mem_of_getElem? ha, ha, q⟩
theorem len_of (ds : List D) (k : Kd) : fBlt "len" [(k, .lst ds)] = some (.sh, .int ds.length) := by
  simp [fBlt, lenD]
theorem eq_int (i : Int) : cmpD .Eq (.int i) (.int i) = some true := by
  simp [cmpD]
end G
set_option Elab.async false
set_option linter.all false
set_option maxRecDepth 100000
set_option maxHeartbeats 4000000
set_option autoImplicit false
namespace G
open PySem PySem.Spec L2
/-- a loop that returns at the first that is so -/
theorem forI_find {α : Type} {l : List Nat} {tg : IT} {fb : Ro → Option Res} (I : Ro → Prop) (P : α → Bool) (f : α → D) {rk : Kd} {rd : D} : ∀ (as : List α) (ρ : Ro), I ρ → (∀ a ∈ as, ∀ ρ, I ρ → ∃ ps, tgI tg (f a) = some ps ∧ ((P a = true ∧ fb (setAll ps (forget l ρ)) = some (.rt rk rd)) ∨ (P a = false ∧ ∃ ρ', fb (setAll ps (forget l ρ)) = some (.nx ρ') ∧ I ρ'))) →
    (as.any P = true ∧ forI l tg fb (as.map f) ρ = some (.rt rk rd)) ∨ (as.any P = false ∧ ∃ ρ', forI l tg fb (as.map f) ρ = some (.nx ρ') ∧ I ρ')
  | [], ρ, h, _ => .inr ⟨rfl, ρ, rfl, h⟩
  | a :: as, ρ, h, hs => by
    obtain ⟨ps, e, q⟩ := hs a List.mem_cons_self ρ h
    rcases q with ⟨hp, q⟩ | ⟨hp, ρ', q, hI⟩
    · refine .inl ⟨by simp [hp], ?_⟩
      rw [List.map_cons, forI, e]
      dsimp only
      rw [q]
    · have ih := forI_find I P f as ρ' hI fun b hb => hs b (List.mem_cons_of_mem _ hb)
      have e2 : forI l tg fb ((a :: as).map f) ρ = forI l tg fb (as.map f) ρ' := by
        rw [List.map_cons, forI, e]
        dsimp only
        rw [q]
      rw [e2]
      rcases ih with ⟨h1, h2⟩ | ⟨h1, h2⟩
      · exact .inl ⟨by simp [h1], h2⟩
      · exact .inr ⟨by simp [hp, h1], h2⟩
def flipB (k : Int) (r : List Int) : List Int := r.take k.toNat ++ [1 - getB r k] ++ r.drop (k + 1).toNat
def delB (k : Int) (r : List Int) : List Int := r.take k.toNat ++ r.drop (k + 1).toNat
theorem flip_ins {k : Int} {r : List Int} (h0 : 0 ≤ k) (hk : k ≤ r.length) (hl : r.length ≤ 2) : flipB k (insB k 0 r) = insB k 1 r := by
  have hk3 : k = 0 ∨ k = 1 ∨ k = 2 := by omega
  match r, hl with
  | [], _ => (have : k = 0 := by simp at hk; omega); subst this; rfl
  | [a], _ => rcases hk3 with rfl | rfl | rfl <;> first | rfl | (exfalso; revert hk; simp)
  | [a, b], _ => rcases hk3 with rfl | rfl | rfl <;> rfl
theorem ins_del {k : Int} {r : List Int} (h0 : 0 ≤ k) (hk : k < r.length) (hl : r.length ≤ 3) : insB k (getB r k) (delB k r) = r ∧ insB k (1 - getB r k) (delB k r) = flipB k r ∧ (delB k r).length + 1 = r.length := by
  have hk3 : k = 0 ∨ k = 1 ∨ k = 2 := by omega
  match r, hl with
  | [], _ => simp at hk; omega
  | [a], _ => rcases hk3 with rfl | rfl | rfl <;> first | exact ⟨rfl, rfl, rfl⟩ | (exfalso; revert hk; simp)
  | [a, b], _ => rcases hk3 with rfl | rfl | rfl <;> first | exact ⟨rfl, rfl, rfl⟩ | (exfalso; revert hk; simp)
  | [a, b, c], _ => rcases hk3 with rfl | rfl | rfl <;> exact ⟨rfl, rfl, rfl⟩
theorem delB_bin {k : Int} {r : List Int} (h : bin01 r) : bin01 (delB k r) := fun b hb => by
  rcases List.mem_append.mp hb with hb | hb
  · exact h b (List.mem_of_mem_take hb)
  · exact h b (List.mem_of_mem_drop hb)
theorem flipB_bin {k : Int} {r : List Int} (h : bin01 r) : bin01 (flipB k r) := fun b hb => by
  rcases List.mem_append.mp hb with hb | hb
  · rcases List.mem_append.mp hb with hb | hb
    · exact h b (List.mem_of_mem_take hb)
    · rw [List.mem_singleton.mp hb]
      have := getB_bin h k
      omega
  · exact h b (List.mem_of_mem_drop hb)
theorem flipB_len {k : Int} {r : List Int} (h0 : 0 ≤ k) (hk : k < r.length) : (flipB k r).length = r.length := by
  simp only [flipB, List.length_append, List.length_take, List.length_drop, List.length_cons, List.length_nil]
  omega
theorem rows_mem {n : Nat} (hn : n ≤ 3) {r : List Int} (h : bin01 r) (hl : r.length = n) : r ∈ rowsL n := by
  subst hl
  have b2 : ∀ x ∈ r, x = 0 ∨ x = 1 := fun x hx => by have := h x hx; omega
  clear h
  match r, hn with
  | [], _ => decide
  | [a], _ =>
    rcases b2 a (by simp) with rfl | rfl <;> decide
  | [a, b], _ =>
    rcases b2 a (by simp) with rfl | rfl <;> rcases b2 b (by simp) with rfl | rfl <;> decide
  | [a, b, c], _ =>
    rcases b2 a (by simp) with rfl | rfl <;> rcases b2 b (by simp) with rfl | rfl <;> rcases b2 c (by simp) with rfl | rfl <;> decide
def hangB (t m k : Int) : Bool := !(fixI t m k 0 == fixI t m k 1)
theorem hang_any {t m k : Int} (h1 : 1 ≤ m) (h3 : m ≤ 3) (h0 : 0 ≤ k) (hk : k < m) : (rowsL m.toNat).any (fun r => !(tellI t r == tellI t (flipB k r))) = hangB t m k := by
  have f01 : ∀ b, ∀ r : List Int, r.length = (m - 1).toNat → 0 ≤ tellI t (insB k b r) ∧ tellI t (insB k b r) ≤ 1 := fun b r _ => tell01 _ _
  unfold hangB
  rw [Bool.eq_iff_iff]
  constructor
  · intro h
    obtain ⟨r, hr, hne⟩ := List.any_eq_true.mp h
    have hf := rows_few (by omega) r hr
    have hb := few_bin hf.1
    obtain ⟨q1, q2, q3⟩ := ins_del (r := r) h0 (by omega) (by omega)
    have hd := delB_bin (k := k) hb
    have hdl : (delB k r).length = (m - 1).toNat := by omega
    simp only [Bool.not_eq_true', beq_eq_false_iff_ne, ne_eq] at hne ⊢
    intro he
    apply hne
    have t0 := tell_made (f01 0) hd hdl
    have t1 := tell_made (f01 1) hd hdl
    have he' : num ((allB (m - 1).toNat).map fun r => tellI t (insB k 0 r)) = num ((allB (m - 1).toNat).map fun r => tellI t (insB k 1 r)) := he
    rw [he'] at t0
    have t01 := t0.symm.trans t1
    rw [← q2]
    have hg := getB_bin hb k
    have : getB r k = 0 ∨ getB r k = 1 := by omega
    rcases this with z | z
    · rw [z] at q1 ⊢
      rw [q1] at t01
      exact t01
    · rw [z] at q1 ⊢
      rw [q1] at t01
      exact t01.symm
  · intro h
    simp only [Bool.not_eq_true', beq_eq_false_iff_ne, ne_eq] at h
    rw [List.any_eq_true]
    refine Classical.byContradiction fun hn => h ?_
    have all : ∀ r ∈ rowsL m.toNat, tellI t r = tellI t (flipB k r) := fun r hr => Classical.byContradiction fun hne => hn ⟨r, hr, by simpa using hne⟩
    show num _ = num _
    congr 1
    apply List.map_congr_left
    intro r hr
    have ha := allB_mem hr
    have hm := rows_mem (n := m.toNat) (by omega) (insB_bin (k := k) (b := 0) ha.1 (by decide)) (by rw [insB_len]; omega)
    have := all _ hm
    rw [flip_ins h0 (by omega) (by omega)] at this
    exact this
theorem eqL_selfB : ∀ r : List Bool, eqL (eqX 90) (r.map D.bl) (r.map D.bl) = some true
  | [] => rfl
  | a :: r => by
    rw [List.map_cons]
    rw [eqL, show eqX 90 (.bl a) (.bl a) = some (a == a) from rfl, eqL_selfB r]
    simp
theorem ne_selfB (r : List Bool) : cmpD .NotEq (.lst (r.map D.bl)) (.lst (r.map D.bl)) = some false := by
  simp [cmpD, eqL_selfB r]
end G
set_option Elab.async false
set_option linter.all false
set_option maxRecDepth 100000
set_option maxHeartbeats 4000000
set_option autoImplicit false
namespace G
open PySem PySem.Spec L2
/-! ### loops whose turn may go on early; operations with their facts alone -/
theorem forI1 {l : List Nat} {tg : IT} {fb : Ro → Option Res} (I : Nat → Ro → Prop) : ∀ (ds : List D) (j : Nat) (ρ : Ro), I j ρ → (∀ i d ρ, ds[i]? = some d → I (j + i) ρ → ∃ ps ρ', tgI tg d = some ps ∧ (fb (setAll ps (forget l ρ)) = some (.nx ρ') ∨ fb (setAll ps (forget l ρ)) = some (.ct ρ')) ∧ I (j + i + 1) ρ') →
    ∃ ρ', forI l tg fb ds ρ = some (.nx ρ') ∧ I (j + ds.length) ρ'
  | [], j, ρ, h0, _ => ⟨ρ, rfl, h0⟩
  | d :: ds, j, ρ, h0, hs => by
    obtain ⟨ps, ρ', e1, e2, h1⟩ := hs 0 d ρ rfl h0
    obtain ⟨ρ2, e3, h2⟩ := forI1 I ds (j + 1) ρ' h1 fun i d' ρ1 e hI => by
      have := hs (i + 1) d' ρ1 (by simpa using e) (by rw [show j + (i + 1) = j + 1 + i by omega]; exact hI)
      rw [show j + (i + 1) + 1 = j + 1 + i + 1 by omega] at this
      exact this
    refine ⟨ρ2, ?_, by rw [List.length_cons, show j + (ds.length + 1) = j + 1 + ds.length by omega]; exact h2⟩
    unfold forI
    rw [e1]
    dsimp only
    rcases e2 with e2 | e2 <;> (rw [e2]; exact e3)
theorem forI01 {l : List Nat} {tg : IT} {fb : Ro → Option Res} (I : Nat → Ro → Prop) (ds : List D) (ρ : Ro) (h0 : I 0 ρ) (hs : ∀ i d ρ, ds[i]? = some d → I i ρ → ∃ ps ρ', tgI tg d = some ps ∧ (fb (setAll ps (forget l ρ)) = some (.nx ρ') ∨ fb (setAll ps (forget l ρ)) = some (.ct ρ')) ∧ I (i + 1) ρ') :
    ∃ ρ', forI l tg fb ds ρ = some (.nx ρ') ∧ I ds.length ρ' := by
  obtain ⟨ρ', h1, h2⟩ := forI1 I ds 0 ρ h0 fun i d ρ e h => by
    have := hs i d ρ e (by simpa using h)
    simpa using this
  exact ⟨ρ', h1, by simpa using h2⟩
theorem forget_nil (ρ : Ro) : forget [] ρ = ρ := by
  refine List.ext_getElem? fun i => ?_
  unfold forget
  rw [List.getElem?_mapIdx]
  cases ρ[i]? <;> rfl
theorem ex_mul {i j : Int} (h : (-(2 ^ 64) < i ∧ i < 2 ^ 64) ∨ (-(2 ^ 64) < j ∧ j < 2 ^ 64)) : ∃ p, binD .Mult (.int i) (.int j) = some (.sh, .int p) ∧ p = i * j := ⟨_, bin_mul (by
  simp only [mulOk, Bool.or_eq_true, Bool.and_eq_true, decide_eq_true_eq]
  exact h), rfl⟩
theorem ex_add (i j : Int) : ∃ p, binD .Add (.int i) (.int j) = some (.sh, .int p) ∧ p = i + j := ⟨_, rfl, rfl⟩
theorem ex_sub (i j : Int) : ∃ p, binD .Sub (.int i) (.int j) = some (.sh, .int p) ∧ p = i - j := ⟨_, rfl, rfl⟩
theorem ex_mod {i j : Int} (h : 0 < j) : ∃ p, binD .Mod (.int i) (.int j) = some (.sh, .int p) ∧ 0 ≤ p ∧ p < j ∧ p = i % j := ⟨_, bin_mod h, Int.emod_nonneg _ (by omega), Int.emod_lt_of_pos _ h, rfl⟩
theorem ex_fdiv {i j : Int} (h : 0 < j ∧ j < 1073741824) : ∃ p, binD .FloorDiv (.int i) (.int j) = some (.sh, .int p) ∧ (0 ≤ i → 0 ≤ p) ∧ p = i / j := ⟨_, bin_fdiv h, fun h0 => Int.ediv_nonneg h0 (by omega), rfl⟩
def nn (xs : List Int) : Prop := ∀ x ∈ xs, 0 ≤ x
theorem nn_app {xs ys : List Int} (h : nn xs) (h' : nn ys) : nn (xs ++ ys) := fun x hx => by
  rcases List.mem_append.mp hx with hx | hx
  · exact h x hx
  · exact h' x hx
theorem nn_one {x : Int} (h : 0 ≤ x) : nn [x] := fun y hy => by rw [List.mem_singleton.mp hy]; exact h
theorem nn_getB {xs : List Int} (h : nn xs) (k : Int) : 0 ≤ getB xs k := by
  unfold getB
  cases e : xs[k.toNat]? with
  | none => exact Int.le_refl 0
  | some x => exact h x (List.mem_of_getElem? e)
theorem cut_len {α : Type} (f : α → D) (l : List α) {lo hi : Int} (h0 : 0 ≤ lo) (h1 : lo ≤ hi) : ∃ l' : List α, cutD (l.map f) (some lo) (some hi) = l'.map f ∧ (∀ x ∈ l', x ∈ l) ∧ l'.length ≤ (hi - lo).toNat ∧ (hi ≤ l.length → l'.length = (hi - lo).toNat) := by
  obtain ⟨a, rfl⟩ : ∃ a : Nat, lo = a := ⟨lo.toNat, by omega⟩
  obtain ⟨b, rfl⟩ : ∃ b : Nat, hi = b := ⟨hi.toNat, by omega⟩
  refine ⟨(l.drop (min a l.length)).take (min b l.length - min a l.length), ?_, fun x hx => List.mem_of_mem_drop (List.mem_of_mem_take hx), ?_, fun h => ?_⟩
  · simp only [cutD, HT.sIx_nat, List.length_map, List.map_take, List.map_drop]
  · simp only [List.length_take, List.length_drop]
    omega
  · simp only [List.length_take, List.length_drop]
    omega
theorem evMap_ex {α : Type} {g : D → Option (Kd × D)} {f : α → D} {P : Int → Prop} : ∀ {l : List α}, (∀ a ∈ l, ∃ y, g (f a) = some (.sh, .int y) ∧ P y) → ∃ ys : List Int, evMap g (l.map f) = some (ys.map D.int) ∧ ys.length = l.length ∧ ∀ y ∈ ys, P y
  | [], _ => ⟨[], rfl, rfl, fun y hy => by cases hy⟩
  | a :: l, h => by
    obtain ⟨y, e, hy⟩ := h a List.mem_cons_self
    obtain ⟨ys, e2, hl, hys⟩ := evMap_ex (l := l) fun b hb => h b (List.mem_cons_of_mem _ hb)
    refine ⟨y :: ys, ?_, by simp [hl], fun z hz => ?_⟩
    · rw [List.map_cons, evMap, e, e2]
      rfl
    · rcases List.mem_cons.mp hz with rfl | hz
      · exact hy
      · exact hys z hz
/-- a comprehension by its elements -/
theorem comp_run' {Γ : Nat → Option Fn} {cap : List (Option Nat)} {tg : IT} {it : II} {elt : IE} {ρ ρ0 : Ro} {bo : Bool} {ds ys : List D} (h : evII Γ it ρ = some (bo, ds)) (hc : capRo ρ cap = ρ0) (hl : ds.length ≤ 100000) (hm : evMap (eltI tg (evI Γ elt) ρ0) ds = some ys) : evI Γ (.comp cap tg it elt) ρ = some (.fr, .lst ys) := by
  rw [evI, h, hc]
  unfold oComp
  dsimp only
  rw [if_pos hl, hm]
/-- data is alike to itself -/
def plainD : Nat → D → Bool
  | 0, _ => false
  | n + 1, d => match d with
    | .int _ | .bl _ | .str _ | .non => true
    | .lst xs => xs.all (plainD n)
    | .tup xs => xs.all (plainD n)
    | _ => false
theorem eqL_refl {f : D → D → Option Bool} : ∀ {xs : List D}, (∀ x ∈ xs, f x x = some true) → eqL f xs xs = some true
  | [], _ => rfl
  | x :: xs, h => by
    rw [eqL, h x List.mem_cons_self, eqL_refl fun y hy => h y (List.mem_cons_of_mem _ hy)]
    rfl
theorem eqX_refl : ∀ (n : Nat) {d : D}, plainD n d = true → eqX n d d = some true
  | 0, _, h => by cases h
  | n + 1, d, h => by
    cases d with
    | int i => show some (i == i) = _; simp
    | bl i => show some (i == i) = _; simp
    | str i => show some (i == i) = _; simp
    | non => rfl
    | lst xs =>
      have h' : xs.all (plainD n) = true := h
      show (if xs.length = xs.length then eqL (eqX n) xs xs else some false) = _
      rw [if_pos rfl]
      exact eqL_refl fun x hx => eqX_refl n (List.all_eq_true.mp h' x hx)
    | tup xs =>
      have h' : xs.all (plainD n) = true := h
      show (if xs.length = xs.length then eqL (eqX n) xs xs else none) = _
      rw [if_pos rfl]
      exact eqL_refl fun x hx => eqX_refl n (List.all_eq_true.mp h' x hx)
    | _ => cases h
theorem plain_up : ∀ {n : Nat} {d : D}, plainD n d = true → ∀ m, n ≤ m → plainD m d = true
  | 0, _, h, _, _ => by cases h
  | n + 1, d, h, 0, hm => by omega
  | n + 1, d, h, m + 1, hm => by
    cases d with
    | lst xs => exact List.all_eq_true.mpr fun x hx => plain_up (List.all_eq_true.mp (show xs.all (plainD n) = true from h) x hx) m (by omega)
    | tup xs => exact List.all_eq_true.mpr fun x hx => plain_up (List.all_eq_true.mp (show xs.all (plainD n) = true from h) x hx) m (by omega)
    | scr _ => cases h
    | dic _ _ => cases h
    | _ => rfl
theorem plain_ints (xs : List Int) : plainD 2 (ilst xs) = true := by
  refine List.all_eq_true.mpr fun x hx => ?_
  obtain ⟨i, _, rfl⟩ := List.mem_map.mp hx
  rfl
end G
set_option Elab.async false
set_option linter.all false
set_option maxRecDepth 100000
set_option maxHeartbeats 4000000
set_option autoImplicit false
namespace K34
open PySem L2 G
def top (i : Nat) : Stmt := PySem.Challenge.pw_gatepapers_k34_values_walked.main.body.getD i (.Pass ⟨0, 0, 0, 0⟩)
def fns : Nms := ⟨["number_of", "told", "values", "_law_mixed", "_law_numbers", "_law_whole", "_law_sizes", "_law_places", "_law_circuit", "_law_copy", "_law_bit", "_law_values", "law"], []⟩
def fg : Nat → List Nat := fun  | _ => []
def fz : Stmt → List Nat := fun s => match lineOf s with | 61 => [7, 8] | 76 => [1] | 81 => [5, 6] | _ => []
/-! number_of -/
abbrev s0 : Stmt := top 1
def b0 : ISs := (.cons (.asg 1 (.lit (.int 0))) (.cons (.for [] (.pr 2 3) (.enm (.var 0)) (.cons (.aug 1 (.bin .LShift (.var 3) (.var 2))) .nil)) (.cons (.retN 1) .nil)))
theorem cr0 : cDef fns fg fz 60 ["bits", "number", "k", "bit"] s0 = some b0 := by rfl
theorem sc0 : FnScope ["bits", "number", "k", "bit"] ["bits"] (defScope s0) := ⟨rfl, rfl, rfl, by decide +kernel, rfl, by decide +kernel, by decide +kernel⟩
/-! told -/
abbrev s1 : Stmt := top 3
def b1 : ISs := (.cons (.ret (.bin .BitAnd (.bin .RShift (.var 0) (.fn 0 (.cons (.var 1) .nil))) (.lit (.int 1)))) .nil)
theorem cr1 : cDef fns fg fz 60 ["table", "bits"] s1 = some b1 := by rfl
theorem sc1 : FnScope ["table", "bits"] ["table", "bits"] (defScope s1) := ⟨rfl, rfl, rfl, by decide +kernel, rfl, by decide +kernel, by decide +kernel⟩
/-! values -/
abbrev s2 : Stmt := top 5
def b2 : ISs := (.cons (.asg 3 (.bin .Add (.blt "list" (.cons (.var 2) .nil)) (.blt "list" (.cons (.var 1) .nil)))) (.cons (.for [] (.pr 4 5) (.e (.ix (.var 0) (.lit (.int 2)))) (.cons (.app 3 (.fn 1 (.cons (.var 4) (.cons (.comp [none, none, some 3] (.nm 1) (.e (.var 5)) (.ix (.var 2) (.var 1))) .nil)))) .nil)) (.cons (.retN 3) .nil)))
theorem cr2 : cDef fns fg fz 60 ["circuit", "state", "ins", "found", "table", "places"] s2 = some b2 := by rfl
theorem sc2 : FnScope ["circuit", "state", "ins", "found", "table", "places"] ["circuit", "state", "ins"] (defScope s2) := ⟨rfl, rfl, rfl, by decide +kernel, rfl, by decide +kernel, by decide +kernel⟩
/-! _law_mixed -/
abbrev s3 : Stmt := top 7
def b3 : ISs := (.cons (.asg 2 (.bin .Mod (.var 0) (.lit (.int 2147483647)))) (.cons (.asg 3 (.lst .nil)) (.cons (.for [] (.nm 4) (.rng (.var 1)) (.cons (.asg 2 (.bin .Mod (.bin .Add (.bin .Add (.bin .Mult (.var 2) (.lit (.int 48271))) (.bin .Mult (.bin .Mult (.lit (.int 7)) (.var 4)) (.var 4))) (.lit (.int 11))) (.lit (.int 2147483629)))) (.cons (.app 3 (.bin .FloorDiv (.bin .Mod (.bin .Add (.bin .Add (.bin .Mult (.var 2) (.var 2)) (.bin .Mult (.lit (.int 3)) (.var 2))) (.var 4)) (.lit (.int 2147483587))) (.lit (.int 7)))) .nil))) (.cons (.retN 3) .nil))))
theorem cr3 : cDef fns fg fz 60 ["_law_cell", "_law_many", "_law_at", "_law_found", "_law_k"] s3 = some b3 := by rfl
theorem sc3 : FnScope ["_law_cell", "_law_many", "_law_at", "_law_found", "_law_k"] ["_law_cell", "_law_many"] (defScope s3) := ⟨rfl, rfl, rfl, by decide +kernel, rfl, by decide +kernel, by decide +kernel⟩
/-! _law_numbers -/
abbrev s4 : Stmt := top 8
def b4 : ISs := (.cons (.asg 2 (.lst .nil)) (.cons (.for [] (.nm 3) (.e (.sl (.var 0) .non (.som (.lit (.int 63))))) (.cons (.ifs (.cmp .Lt (.var 3) (.bin .Pow (.lit (.int 10)) (.lit (.int 18)))) (.cons (.ext 2 (.fn 3 (.cons (.var 3) (.cons (.lit (.int 6)) .nil)))) (.cons .cont .nil)) .nil) (.cons (.asg 4 (.var 3)) (.cons (.for [] (.nm 5) (.rng (.lit (.int 60))) (.cons (.ifs (.cmp .Gt (.var 4) (.lit (.int 0))) (.cons (.app 2 (.bin .Mod (.var 4) (.lit (.int 10007)))) (.cons (.asg 4 (.bin .FloorDiv (.var 4) (.lit (.int 10007)))) .nil)) .nil) .nil)) .nil)))) (.cons (.asg 2 (.sl (.var 2) .non (.som (.var 1)))) (.cons (.ret (.bin .Add (.var 2) (.fn 3 (.cons (.bin .Add (.blt "sum" (.cons (.var 0) .nil)) (.blt "len" (.cons (.var 0) .nil))) (.cons (.bin .Sub (.var 1) (.blt "len" (.cons (.var 2) .nil))) .nil))))) .nil))))
theorem cr4 : cDef fns fg fz 60 ["_law_script", "_law_many", "_law_found", "_law_cell", "_law_left", "_law_k"] s4 = some b4 := by rfl
theorem sc4 : FnScope ["_law_script", "_law_many", "_law_found", "_law_cell", "_law_left", "_law_k"] ["_law_script", "_law_many"] (defScope s4) := ⟨rfl, rfl, rfl, by decide +kernel, rfl, by decide +kernel, by decide +kernel⟩
/-! _law_whole -/
abbrev s5 : Stmt := top 9
def b5 : ISs := (.cons (.ret (.bool .And (.cons (.isi "int" (.var 0)) (.cons (.not (.isi "bool" (.var 0))) .nil)))) .nil)
theorem cr5 : cDef fns fg fz 60 ["_law_found"] s5 = some b5 := by rfl
theorem sc5 : FnScope ["_law_found"] ["_law_found"] (defScope s5) := ⟨rfl, rfl, rfl, by decide +kernel, rfl, by decide +kernel, by decide +kernel⟩
/-! _law_sizes -/
abbrev s6 : Stmt := top 10
def b6 : ISs := (.cons (.ifs (.cmp .Eq (.bin .Mod (.ix (.var 0) (.lit (.int 0))) (.lit (.int 8))) (.lit (.int 5))) (.cons (.ret (.lst (.cons (.bin .Mod (.bin .FloorDiv (.ix (.var 0) (.lit (.int 0))) (.lit (.int 8))) (.lit (.int 41))) (.cons (.bin .Mod (.ix (.var 0) (.lit (.int 1))) (.lit (.int 41))) (.cons (.bin .Add (.lit (.int 20)) (.bin .Mod (.ix (.var 0) (.lit (.int 2))) (.lit (.int 41)))) (.cons (.bin .Mod (.ix (.var 0) (.lit (.int 3))) (.lit (.int 41))) .nil)))))) .nil) .nil) (.cons (.ret (.lst (.cons (.bin .Mod (.bin .FloorDiv (.ix (.var 0) (.lit (.int 0))) (.lit (.int 8))) (.lit (.int 4))) (.cons (.bin .Mod (.ix (.var 0) (.lit (.int 1))) (.lit (.int 5))) (.cons (.bin .Mod (.ix (.var 0) (.lit (.int 2))) (.lit (.int 10))) (.cons (.bin .Mod (.ix (.var 0) (.lit (.int 3))) (.lit (.int 4))) .nil)))))) .nil))
theorem cr6 : cDef fns fg fz 60 ["_law_xs"] s6 = some b6 := by rfl
theorem sc6 : FnScope ["_law_xs"] ["_law_xs"] (defScope s6) := ⟨rfl, rfl, rfl, by decide +kernel, rfl, by decide +kernel, by decide +kernel⟩
/-! _law_places -/
abbrev s7 : Stmt := top 11
def b7 : ISs := (.cons (.asg 2 (.bin .Mult (.blt "min" (.cons (.var 1) (.cons (.lit (.int 1)) .nil))) (.bin .Mod (.ix (.var 0) (.lit (.int 0))) (.lit (.int 4))))) (.cons (.ifs (.cmp .Eq (.bin .Mod (.bin .FloorDiv (.ix (.var 0) (.lit (.int 0))) (.lit (.int 4))) (.lit (.int 3))) (.lit (.int 0))) (.cons (.ret (.blt "tuple" (.cons (.comp [none, none, none, some 1] (.nm 1) (.e (.sl (.var 0) (.som (.lit (.int 2))) (.som (.bin .Add (.lit (.int 2)) (.var 2))))) (.bin .Sub (.bin .Sub (.var 3) (.lit (.int 1))) (.bin .Mod (.var 1) (.blt "min" (.cons (.var 3) (.cons (.lit (.int 4)) .nil)))))) .nil))) .nil) .nil) (.cons (.ret (.blt "tuple" (.cons (.comp [none, none, some 1] (.nm 1) (.e (.sl (.var 0) (.som (.lit (.int 2))) (.som (.bin .Add (.lit (.int 2)) (.var 2))))) (.bin .Mod (.var 1) (.var 2))) .nil))) .nil)))
theorem cr7 : cDef fns fg fz 60 ["_law_xs", "_law_place", "_law_many"] s7 = some b7 := by rfl
theorem sc7 : FnScope ["_law_xs", "_law_place", "_law_many"] ["_law_xs", "_law_place"] (defScope s7) := ⟨rfl, rfl, rfl, by decide +kernel, rfl, by decide +kernel, by decide +kernel⟩
/-! _law_circuit -/
abbrev s8 : Stmt := top 12
def b8 : ISs := (.cons (.unp [1, 2, 3, 4] (.fn 6 (.cons (.var 0) .nil))) (.cons (.asg 5 (.bin .Add (.var 1) (.var 2))) (.cons (.asg 6 (.bin .Add (.var 5) (.var 3))) (.cons (.ifs (.cmp .Eq (.var 6) (.lit (.int 0))) (.cons (.ret (.tup (.cons (.lit (.int 0)) (.cons (.lst .nil) (.cons (.lst .nil) (.cons (.lst .nil) .nil)))))) .nil) .nil) (.cons (.asgC 7 (.comp [none, none, some 6] (.nm 1) (.e (.sl (.var 0) (.som (.lit (.int 4))) (.som (.bin .Add (.lit (.int 4)) (.var 2))))) (.tup (.cons (.bin .Mod (.var 1) (.lit (.int 2))) (.cons (.bin .Mod (.bin .FloorDiv (.var 1) (.lit (.int 2))) (.var 2)) .nil))))) (.cons (.asg 8 (.lst .nil)) (.cons (.for [] (.nm 9) (.rng (.var 3)) (.cons (.asg 10 (.bin .Add (.lit (.int 50)) (.bin .Mult (.lit (.int 5)) (.var 9)))) (.cons (.asg 11 (.fn 7 (.cons (.sl (.var 0) (.som (.var 10)) (.som (.bin .Add (.var 10) (.lit (.int 5))))) (.cons (.bin .Add (.var 5) (.var 9)) .nil)))) (.cons (.asg 12 (.bin .Mod (.ix (.var 0) (.bin .Add (.var 10) (.lit (.int 1)))) (.ix (.lst (.cons (.lit (.int 2)) (.cons (.lit (.int 4)) (.cons (.lit (.int 16)) (.cons (.lit (.int 256)) .nil))))) (.blt "len" (.cons (.var 11) .nil))))) (.cons (.app 8 (.tup (.cons (.var 12) (.cons (.var 11) .nil)))) .nil))))) (.cons (.frz [7, 8]) (.cons (.ret (.tup (.cons (.var 1) (.cons (.var 7) (.cons (.var 8) (.cons (.comp [none, none, some 6] (.nm 1) (.e (.sl (.var 0) (.som (.lit (.int 360))) (.som (.bin .Add (.lit (.int 360)) (.var 4))))) (.bin .Mod (.var 1) (.var 2))) .nil)))))) .nil)))))))))
theorem cr8 : cDef fns fg fz 60 ["_law_xs", "_law_ins", "_law_many", "_law_gates_here", "_law_outs_here", "_law_first", "_law_most", "_law_memories", "_law_gates", "_law_k", "_law_at", "_law_places_here", "_law_table"] s8 = some b8 := by rfl
theorem sc8 : FnScope ["_law_xs", "_law_ins", "_law_many", "_law_gates_here", "_law_outs_here", "_law_first", "_law_most", "_law_memories", "_law_gates", "_law_k", "_law_at", "_law_places_here", "_law_table"] ["_law_xs"] (defScope s8) := ⟨rfl, rfl, rfl, by decide +kernel, rfl, by decide +kernel, by decide +kernel⟩
/-! _law_copy -/
abbrev s9 : Stmt := top 13
def b9 : ISs := (.cons (.ret (.tup (.cons (.ix (.var 0) (.lit (.int 0))) (.cons (.blt "list" (.cons (.ix (.var 0) (.lit (.int 1))) .nil)) (.cons (.blt "list" (.cons (.ix (.var 0) (.lit (.int 2))) .nil)) (.cons (.blt "list" (.cons (.ix (.var 0) (.lit (.int 3))) .nil)) .nil)))))) .nil)
theorem cr9 : cDef fns fg fz 60 ["_law_circuit_here"] s9 = some b9 := by rfl
theorem sc9 : FnScope ["_law_circuit_here"] ["_law_circuit_here"] (defScope s9) := ⟨rfl, rfl, rfl, by decide +kernel, rfl, by decide +kernel, by decide +kernel⟩
/-! _law_bit -/
abbrev s10 : Stmt := top 14
def b10 : ISs := (.cons (.asg 2 (.lit (.int 0))) (.cons (.for [] (.pr 3 4) (.enm (.var 1)) (.cons (.asg 2 (.bin .Add (.var 2) (.bin .Mult (.var 4) (.ix (.lst (.cons (.lit (.int 1)) (.cons (.lit (.int 2)) (.cons (.lit (.int 4)) .nil)))) (.var 3))))) .nil)) (.cons (.ret (.bin .Mod (.bin .FloorDiv (.var 0) (.ix (.lst (.cons (.lit (.int 1)) (.cons (.lit (.int 2)) (.cons (.lit (.int 4)) (.cons (.lit (.int 8)) (.cons (.lit (.int 16)) (.cons (.lit (.int 32)) (.cons (.lit (.int 64)) (.cons (.lit (.int 128)) .nil))))))))) (.var 2))) (.lit (.int 2)))) .nil)))
theorem cr10 : cDef fns fg fz 60 ["_law_table", "_law_bits", "_law_row", "_law_k", "_law_bit_here"] s10 = some b10 := by rfl
theorem sc10 : FnScope ["_law_table", "_law_bits", "_law_row", "_law_k", "_law_bit_here"] ["_law_table", "_law_bits"] (defScope s10) := ⟨rfl, rfl, rfl, by decide +kernel, rfl, by decide +kernel, by decide +kernel⟩
/-! _law_values -/
abbrev s11 : Stmt := top 15
def b11 : ISs := (.cons (.asg 3 (.bin .Add (.var 2) (.var 1))) (.cons (.for [] (.pr 4 5) (.e (.ix (.var 0) (.lit (.int 2)))) (.cons (.asg 3 (.bin .Add (.var 3) (.lst (.cons (.fn 10 (.cons (.var 4) (.cons (.comp [none, none, some 3] (.nm 1) (.e (.var 5)) (.ix (.var 2) (.var 1))) .nil))) .nil)))) .nil)) (.cons (.retN 3) .nil)))
theorem cr11 : cDef fns fg fz 60 ["_law_circuit_here", "_law_state", "_law_ins", "_law_found", "_law_table", "_law_places_here"] s11 = some b11 := by rfl
theorem sc11 : FnScope ["_law_circuit_here", "_law_state", "_law_ins", "_law_found", "_law_table", "_law_places_here"] ["_law_circuit_here", "_law_state", "_law_ins"] (defScope s11) := ⟨rfl, rfl, rfl, by decide +kernel, rfl, by decide +kernel, by decide +kernel⟩
/-! law -/
abbrev s12 : Stmt := top 16
def b12 : ISs := (.cons (.asg 1 (.fn 4 (.cons (.var 0) (.cons (.lit (.int 900)) .nil)))) (.cons (.frz [1]) (.cons (.asg 2 (.fn 8 (.cons (.var 1) .nil))) (.cons (.for [] (.nm 3) (.rng (.lit (.int 4))) (.cons (.asg 4 (.bin .Add (.lit (.int 410)) (.bin .Mult (.lit (.int 110)) (.var 3)))) (.cons (.asgC 5 (.comp [none, none] (.nm 1) (.e (.sl (.var 1) (.som (.var 4)) (.som (.bin .Add (.var 4) (.blt "len" (.cons (.ix (.var 2) (.lit (.int 1))) .nil)))))) (.bin .Mod (.var 1) (.lit (.int 2))))) (.cons (.asgC 6 (.comp [none, none] (.nm 1) (.e (.sl (.var 1) (.som (.bin .Add (.var 4) (.lit (.int 50)))) (.som (.bin .Add (.bin .Add (.var 4) (.lit (.int 50))) (.ix (.var 2) (.lit (.int 0))))))) (.bin .Mod (.var 1) (.lit (.int 2))))) (.cons (.frz [5, 6]) (.cons (.asg 7 (.lst (.cons (.fn 9 (.cons (.var 2) .nil)) (.cons (.blt "list" (.cons (.var 5) .nil)) (.cons (.blt "list" (.cons (.var 6) .nil)) .nil))))) (.cons (.asg 8 (.fn 11 (.cons (.var 2) (.cons (.var 5) (.cons (.var 6) .nil))))) (.cons (.for [] (.nm 9) (.rng (.lit (.int 2))) (.cons (.asg 10 (.fn 2 (.cons (.ix (.var 7) (.lit (.int 0))) (.cons (.ix (.var 7) (.lit (.int 1))) (.cons (.ix (.var 7) (.lit (.int 2))) .nil))))) (.cons (.ifs (.bool .Or (.cons (.not (.isi "list" (.var 10))) (.cons (.not (.blt "all" (.cons (.comp [none, none, none] (.nm 1) (.e (.var 10)) (.fn 5 (.cons (.var 1) .nil))) .nil))) (.cons (.cmp .NotEq (.var 10) (.var 8)) .nil)))) (.cons (.ret (.lit (.bl false))) .nil) .nil) (.cons (.app 10 (.lit (.int 2))) (.cons (.ifs (.cmp .NotEq (.var 7) (.lst (.cons (.var 2) (.cons (.var 5) (.cons (.var 6) .nil))))) (.cons (.ret (.lit (.bl false))) .nil) .nil) .nil))))) .nil)))))))) (.cons (.ret (.lit (.bl true))) .nil)))))
theorem cr12 : cDef fns fg fz 60 ["_law_script", "_law_xs", "_law_circuit_here", "_law_k", "_law_at", "_law_state", "_law_ins", "_law_handed", "_law_due", "_law_again", "_law_found"] s12 = some b12 := by rfl
theorem sc12 : FnScope ["_law_script", "_law_xs", "_law_circuit_here", "_law_k", "_law_at", "_law_state", "_law_ins", "_law_handed", "_law_due", "_law_again", "_law_found"] ["_law_script"] (defScope s12) := ⟨rfl, rfl, rfl, by decide +kernel, rfl, by decide +kernel, by decide +kernel⟩
def Γ0 : Nat → Option Fn := fun _ => none
abbrev ψ0 : Fn := ψNum
abbrev Γ_0 := addN Γ0 0 ψ0
abbrev ψ1 : Fn := ψTold
abbrev Γ_1 := addN Γ_0 1 ψ1
def ψ2 : Fn := defI Γ_1 3 6 b2
abbrev Γ_2 := addN Γ_1 2 ψ2
def ψ3 : Fn := defI Γ_2 2 5 b3
abbrev Γ_3 := addN Γ_2 3 ψ3
def ψ4 : Fn := defI Γ_3 2 6 b4
abbrev Γ_4 := addN Γ_3 4 ψ4
abbrev ψ5 : Fn := ψWhole
abbrev Γ_5 := addN Γ_4 5 ψ5
def ψ6 : Fn := defI Γ_5 1 1 b6
abbrev Γ_6 := addN Γ_5 6 ψ6
def ψ7 : Fn := defI Γ_6 2 3 b7
abbrev Γ_7 := addN Γ_6 7 ψ7
def ψ8 : Fn := defI Γ_7 1 13 b8
abbrev Γ_8 := addN Γ_7 8 ψ8
def ψ9 : Fn := defI Γ_8 1 1 b9
abbrev Γ_9 := addN Γ_8 9 ψ9
def ψ10 : Fn := defI Γ_9 2 5 b10
abbrev Γ_10 := addN Γ_9 10 ψ10
def ψ11 : Fn := defI Γ_10 3 6 b11
abbrev Γ_11 := addN Γ_10 11 ψ11
def ψ12 : Fn := defI Γ_11 1 11 b12
theorem h0 (ds : List D) : Le (ψ0 ds) (defI Γ0 1 4 b0 ds) := leNum ds
theorem h1 (ds : List D) : Le (ψ1 ds) (defI Γ_0 2 2 b1 ds) := leTold rfl ds
theorem h2 (ds : List D) : Le (ψ2 ds) (defI Γ_1 3 6 b2 ds) := Le.refl _
theorem h3 (ds : List D) : Le (ψ3 ds) (defI Γ_2 2 5 b3 ds) := Le.refl _
theorem h4 (ds : List D) : Le (ψ4 ds) (defI Γ_3 2 6 b4 ds) := Le.refl _
theorem h5 (ds : List D) : Le (ψ5 ds) (defI Γ_4 1 1 b5 ds) := leWhole ds
theorem h6 (ds : List D) : Le (ψ6 ds) (defI Γ_5 1 1 b6 ds) := Le.refl _
theorem h7 (ds : List D) : Le (ψ7 ds) (defI Γ_6 2 3 b7 ds) := Le.refl _
theorem h8 (ds : List D) : Le (ψ8 ds) (defI Γ_7 1 13 b8 ds) := Le.refl _
theorem h9 (ds : List D) : Le (ψ9 ds) (defI Γ_8 1 1 b9 ds) := Le.refl _
theorem h10 (ds : List D) : Le (ψ10 ds) (defI Γ_9 2 5 b10 ds) := Le.refl _
theorem h11 (ds : List D) : Le (ψ11 ds) (defI Γ_10 3 6 b11 ds) := Le.refl _
theorem h12 (ds : List D) : Le (ψ12 ds) (defI Γ_11 1 11 b12 ds) := Le.refl _
theorem run3 {c n : Int} (h0 : 0 ≤ n) (hn : n ≤ 1000) : ∃ xs : List Int, ψ3 [.int c, .int n] = some (.fr, ilst xs) ∧ xs.length = n.toNat ∧ nn xs := by
  obtain ⟨s0, g0, a0, a1, _⟩ := ex_mod (i := c) (j := 2147483647) (by decide)
  obtain ⟨ρ', e, st, fs, x, q1, q2, q3, q4, rfl⟩ := forI0 (l := []) (tg := .nm 4) (fb := exIs Γ_2 (.cons (.asg 2 (.bin .Mod (.bin .Add (.bin .Add (.bin .Mult (.var 2) (.lit (.int 48271))) (.bin .Mult (.bin .Mult (.lit (.int 7)) (.var 4)) (.var 4))) (.lit (.int 11))) (.lit (.int 2147483629)))) (.cons (.app 3 (.bin .FloorDiv (.bin .Mod (.bin .Add (.bin .Add (.bin .Mult (.var 2) (.var 2)) (.bin .Mult (.lit (.int 3)) (.var 2))) (.var 4)) (.lit (.int 2147483587))) (.lit (.int 7)))) .nil)))
    (fun i ρ => ∃ (st : Int) (fs : List Int) (x : Option Sl), 0 ≤ st ∧ st < 2147483648 ∧ fs.length = i ∧ nn fs ∧ ρ = [some (.sh (.int c)), some (.sh (.int n)), some (.sh (.int st)), some (.ow (fs.map .int)), x]) ((List.range n.toNat).map fun (k : Nat) => D.int (0 + (k : Int)))
    [some (.sh (.int c)), some (.sh (.int n)), some (.sh (.int s0)), some (.ow []), none] ⟨s0, [], none, a0, by omega, rfl, (fun x hx => by cases hx), rfl⟩ (by
      rintro i d ρ e ⟨st, fs, x, q1, q2, q3, q4, rfl⟩
      obtain ⟨hi, rfl⟩ := range_get e
      have hk : 0 ≤ 0 + (i : Int) ∧ 0 + (i : Int) ≤ 1000 := by omega
      generalize 0 + (i : Int) = k at hk
      obtain ⟨p1, g1, _⟩ := ex_mul (i := st) (j := 48271) (.inl ⟨by omega, by omega⟩)
      obtain ⟨p2, g2, e2⟩ := ex_mul (i := 7) (j := k) (.inl ⟨by decide, by decide⟩)
      obtain ⟨p3, g3, _⟩ := ex_mul (i := p2) (j := k) (.inr ⟨by omega, by omega⟩)
      obtain ⟨p4, g4, _⟩ := ex_add p1 p3
      obtain ⟨p5, g5, _⟩ := ex_add p4 11
      obtain ⟨st', g6, b0, b1, _⟩ := ex_mod (i := p5) (j := 2147483629) (by decide)
      obtain ⟨p7, g7, _⟩ := ex_mul (i := st') (j := st') (.inl ⟨by omega, by omega⟩)
      obtain ⟨p8, g8, _⟩ := ex_mul (i := 3) (j := st') (.inl ⟨by decide, by decide⟩)
      obtain ⟨p9, g9, _⟩ := ex_add p7 p8
      obtain ⟨p10, g10, _⟩ := ex_add p9 k
      obtain ⟨p11, g11, b2, _⟩ := ex_mod (i := p10) (j := 2147483587) (by decide)
      obtain ⟨p12, g12, b3, _⟩ := ex_fdiv (i := p11) (j := 7) (by decide)
      have hz : fs.length < 100000 := by omega
      refine ⟨[(4, .int k)], _, rfl, ?_, st', fs ++ [p12], some (.sh (.int k)), b0, by omega, by simp [q3], nn_app q4 (nn_one (b3 b2)), rfl⟩
      rw [forget_nil]
      have o1 : oBin .Mult (some (Kd.sh, D.int st)) (some (Kd.sh, D.int 48271)) = some (.sh, .int p1) := g1
      have o2 : oBin .Mult (some (Kd.sh, D.int 7)) (some (Kd.sh, D.int k)) = some (.sh, .int p2) := g2
      have o3 : oBin .Mult (some (Kd.sh, D.int p2)) (some (Kd.sh, D.int k)) = some (.sh, .int p3) := g3
      have o4 : oBin .Add (some (Kd.sh, D.int p1)) (some (Kd.sh, D.int p3)) = some (.sh, .int p4) := g4
      have o5 : oBin .Add (some (Kd.sh, D.int p4)) (some (Kd.sh, D.int 11)) = some (.sh, .int p5) := g5
      have o6 : oBin .Mod (some (Kd.sh, D.int p5)) (some (Kd.sh, D.int 2147483629)) = some (.sh, .int st') := g6
      have o7 : oBin .Mult (some (Kd.sh, D.int st')) (some (Kd.sh, D.int st')) = some (.sh, .int p7) := g7
      have o8 : oBin .Mult (some (Kd.sh, D.int 3)) (some (Kd.sh, D.int st')) = some (.sh, .int p8) := g8
      have o9 : oBin .Add (some (Kd.sh, D.int p7)) (some (Kd.sh, D.int p8)) = some (.sh, .int p9) := g9
      have o10 : oBin .Add (some (Kd.sh, D.int p9)) (some (Kd.sh, D.int k)) = some (.sh, .int p10) := g10
      have o11 : oBin .Mod (some (Kd.sh, D.int p10)) (some (Kd.sh, D.int 2147483587)) = some (.sh, .int p11) := g11
      have o12 : oBin .FloorDiv (some (Kd.sh, D.int p11)) (some (Kd.sh, D.int 7)) = some (.sh, .int p12) := g12
      refine (x_cons (ρ' := [some (.sh (.int c)), some (.sh (.int n)), some (.sh (.int st')), some (.ow (fs.map .int)), some (.sh (.int k))]) ?_).trans ((x_cons ?_).trans rfl)
      · show oAsg 2 _ (oBin .Mod (oBin .Add (oBin .Add (oBin .Mult (some (Kd.sh, D.int st)) (some (Kd.sh, D.int 48271))) (oBin .Mult (oBin .Mult (some (Kd.sh, D.int 7)) (some (Kd.sh, D.int k))) (some (Kd.sh, D.int k)))) (some (Kd.sh, D.int 11))) (some (Kd.sh, D.int 2147483629))) = _
        rw [o1, o2, o3, o4, o5, o6]
        rfl
      · show oApp 3 _ (some (some (Sl.ow (fs.map .int)))) (oBin .FloorDiv (oBin .Mod (oBin .Add (oBin .Add (oBin .Mult (some (Kd.sh, D.int st')) (some (Kd.sh, D.int st'))) (oBin .Mult (some (Kd.sh, D.int 3)) (some (Kd.sh, D.int st')))) (some (Kd.sh, D.int k))) (some (Kd.sh, D.int 2147483587))) (some (Kd.sh, D.int 7))) = _
        rw [o7, o8, o9, o10, o11, o12]
        show (if (Kd.sh ≠ .bo ∧ (fs.map D.int).length < 100000) then _ else none) = _
        rw [if_pos ⟨by decide, by rw [List.length_map]; exact hz⟩, List.map_append]
        rfl)
  have hit := range_it (Γ := Γ_2) (ρ := [some (.sh (.int c)), some (.sh (.int n)), some (.sh (.int s0)), some (.ow []), none]) (a := .var 1) (k := .sh) (n := n) rfl hn (by omega)
  have s1 : exI Γ_2 (.asg 2 (.bin .Mod (.var 0) (.lit (.int 2147483647)))) (iniI 5 [.int c, .int n]) = some (.nx [some (.sh (.int c)), some (.sh (.int n)), some (.sh (.int s0)), none, none]) := by
    simp [exI, evI, iniI, oVar, slKd, oBin, g0, oAsg]
  exact ⟨fs, d_run rfl ((x_cons s1).trans ((x_cons rfl).trans ((x_cons (x_for hit e)).trans rfl))) (by decide), by simpa using q3, q4⟩
theorem pow18 : binD .Pow (.int 10) (.int 18) = some (.sh, .int 1000000000000000000) := by
  have h : ∀ i j : Int, 0 ≤ j ∧ j ≤ 1000000 ∧ i.natAbs < 2 ^ 64 → binD .Pow (.int i) (.int j) = some (.sh, .int (i ^ j.toNat)) := fun i j h => if_pos h
  rw [h 10 18 ⟨by decide, by decide, by decide⟩, show (18 : Int).toNat = 18 from rfl, show (10 : Int) ^ 18 = 1000000000000000000 by decide]
theorem run4 {ns : List Int} {m : Int} (hns : ns.length ≤ 63) (h0 : 0 ≤ m) (hm : m ≤ 1000) : ∃ xs : List Int, ψ4 [.scr ns, .int m] = some (.fr, ilst xs) ∧ xs.length = m.toNat ∧ nn xs := by
  obtain ⟨l', hcut, _, hl'⟩ := cutD_map D.int ns none (some 63)
  obtain ⟨ρ', e, fs, x, y, z, q1, q2, rfl⟩ := forI01 (l := []) (tg := .nm 3) (fb := exIs Γ_3 (.cons (.ifs (.cmp .Lt (.var 3) (.bin .Pow (.lit (.int 10)) (.lit (.int 18)))) (.cons (.ext 2 (.fn 3 (.cons (.var 3) (.cons (.lit (.int 6)) .nil)))) (.cons .cont .nil)) .nil) (.cons (.asg 4 (.var 3)) (.cons (.for [] (.nm 5) (.rng (.lit (.int 60))) (.cons (.ifs (.cmp .Gt (.var 4) (.lit (.int 0))) (.cons (.app 2 (.bin .Mod (.var 4) (.lit (.int 10007)))) (.cons (.asg 4 (.bin .FloorDiv (.var 4) (.lit (.int 10007)))) .nil)) .nil) .nil)) .nil))))
    (fun i ρ => ∃ (fs : List Int) (x y z : Option Sl), fs.length ≤ 60 * i ∧ nn fs ∧ ρ = [some (.sh (.scr ns)), some (.sh (.int m)), some (.ow (fs.map .int)), x, y, z]) (l'.map .int) [some (.sh (.scr ns)), some (.sh (.int m)), some (.ow []), none, none, none] ⟨[], none, none, none, by simp, (fun x hx => by cases hx), rfl⟩ (by
      rintro i d ρ e ⟨fs, x, y, z, q1, q2, rfl⟩
      obtain ⟨n, e2, rfl⟩ := int_get e
      have hi := (List.getElem?_eq_some_iff.mp e2).1
      have ht : evIT Γ_3 (.cmp .Lt (.var 3) (.bin .Pow (.lit (.int 10)) (.lit (.int 18)))) [some (.sh (.scr ns)), some (.sh (.int m)), some (.ow (fs.map .int)), some (.sh (.int n)), y, z] = some (decide (n < 1000000000000000000)) := by
        have c1 : cmpD .Lt (.int n) (.int 1000000000000000000) = some (decide (n < 1000000000000000000)) := rfl
        simp [evIT, evI, oVar, slKd, oBin, pow18, oCmp, c1]
      by_cases hlt : n < 1000000000000000000
      · rw [decide_eq_true hlt] at ht
        obtain ⟨xs, f3, l3, n3⟩ := run3 (c := n) (n := 6) (by decide) (by decide)
        have f3' : fFn ψ3 [(.sh, .int n), (.sh, .int 6)] = some (.fr, ilst xs) := fFn_fr rfl f3
        have hz : fs.length + xs.length ≤ 100000 := by
          have : xs.length = 6 := l3
          omega
        have s1 : exI Γ_3 (.ext 2 (.fn 3 (.cons (.var 3) (.cons (.lit (.int 6)) .nil)))) [some (.sh (.scr ns)), some (.sh (.int m)), some (.ow (fs.map .int)), some (.sh (.int n)), y, z] = some (.nx [some (.sh (.scr ns)), some (.sh (.int m)), some (.ow ((fs ++ xs).map .int)), some (.sh (.int n)), y, z]) := by
          simp only [ilst] at f3'
          simp [exI, evI, evIs, oVar, slKd, oCons, oFn, addN, f3', oExt, hz]
        refine ⟨[(3, .int n)], _, rfl, .inr ?_, fs ++ xs, some (.sh (.int n)), y, z, ?_, nn_app q2 n3, rfl⟩
        · rw [forget_nil]
          have hx : exI Γ_3 (.ifs (.cmp .Lt (.var 3) (.bin .Pow (.lit (.int 10)) (.lit (.int 18)))) (.cons (.ext 2 (.fn 3 (.cons (.var 3) (.cons (.lit (.int 6)) .nil)))) (.cons .cont .nil)) .nil) [some (.sh (.scr ns)), some (.sh (.int m)), some (.ow (fs.map .int)), some (.sh (.int n)), y, z] = some (.ct [some (.sh (.scr ns)), some (.sh (.int m)), some (.ow ((fs ++ xs).map .int)), some (.sh (.int n)), y, z]) := (x_ifT ht).trans ((x_cons s1).trans rfl)
          show exIs Γ_3 (.cons _ _) [some (.sh (.scr ns)), some (.sh (.int m)), some (.ow (fs.map .int)), some (.sh (.int n)), y, z] = _
          rw [exIs, hx]
        · have : xs.length = 6 := l3
          rw [List.length_append]
          omega
      · rw [decide_eq_false hlt] at ht
        obtain ⟨ρ2, e3, gs, l, w, k1, k2, rfl⟩ := forI0 (l := []) (tg := .nm 5) (fb := exIs Γ_3 (.cons (.ifs (.cmp .Gt (.var 4) (.lit (.int 0))) (.cons (.app 2 (.bin .Mod (.var 4) (.lit (.int 10007)))) (.cons (.asg 4 (.bin .FloorDiv (.var 4) (.lit (.int 10007)))) .nil)) .nil) .nil))
          (fun j ρ => ∃ (gs : List Int) (l : Int) (w : Option Sl), gs.length ≤ fs.length + j ∧ nn gs ∧ ρ = [some (.sh (.scr ns)), some (.sh (.int m)), some (.ow (gs.map .int)), some (.sh (.int n)), some (.sh (.int l)), w]) ((List.range (60 : Int).toNat).map fun (k : Nat) => D.int (0 + (k : Int))) [some (.sh (.scr ns)), some (.sh (.int m)), some (.ow (fs.map .int)), some (.sh (.int n)), some (.sh (.int n)), z] ⟨fs, n, z, by simp, q2, rfl⟩ (by
            rintro j d ρ e ⟨gs, l, w, k1, k2, rfl⟩
            obtain ⟨hj, rfl⟩ := range_get e
            have hj60 : j < 60 := hj
            generalize 0 + (j : Int) = jj
            have ht2 : evIT Γ_3 (.cmp .Gt (.var 4) (.lit (.int 0))) [some (.sh (.scr ns)), some (.sh (.int m)), some (.ow (gs.map .int)), some (.sh (.int n)), some (.sh (.int l)), some (.sh (.int jj))] = some (decide (0 < l)) := rfl
            by_cases hl0 : 0 < l
            · rw [decide_eq_true hl0] at ht2
              obtain ⟨p1, g1, b0, _⟩ := ex_mod (i := l) (j := 10007) (by decide)
              obtain ⟨p2, g2, _⟩ := ex_fdiv (i := l) (j := 10007) (by decide)
              have hz : gs.length < 100000 := by omega
              refine ⟨[(5, .int jj)], _, rfl, ?_, gs ++ [p1], p2, some (.sh (.int jj)), by rw [List.length_append, List.length_singleton]; omega, nn_app k2 (nn_one b0), rfl⟩
              rw [forget_nil]
              refine (x_cons ((x_ifT ht2).trans ?_)).trans rfl
              simp [exIs, exI, evI, oVar, slKd, oBin, g1, g2, oAsg, oApp, hz]
            · rw [decide_eq_false hl0] at ht2
              refine ⟨[(5, .int jj)], _, rfl, ?_, gs, l, some (.sh (.int jj)), by omega, k2, rfl⟩
              rw [forget_nil]
              exact (x_cons ((x_ifF ht2).trans rfl)).trans rfl)
        refine ⟨[(3, .int n)], _, rfl, .inl ?_, gs, some (.sh (.int n)), some (.sh (.int l)), w, ?_, k2, rfl⟩
        · rw [forget_nil]
          exact (x_cons ((x_ifF ht).trans rfl)).trans ((x_cons rfl).trans ((x_cons (x_for rfl e3)).trans rfl))
        · have : ((List.range (60 : Int).toNat).map fun (k : Nat) => D.int (0 + (k : Int))).length = 60 := rfl
          rw [this] at k1
          omega)
  have hit : evII Γ_3 (.e (.sl (.var 0) .non (.som (.lit (.int 63))))) [some (.sh (.scr ns)), some (.sh (.int m)), some (.ow []), none, none, none] = some (false, l'.map .int) := by
    show oSeq (some (Kd.fr, D.lst (cutD (ns.map .int) none (some 63)))) = _
    rw [hcut]
    rfl
  have c1 := cut_to (xs := fs) (k := m) h0
  have s3 : exI Γ_3 (.asg 2 (.sl (.var 2) .non (.som (.var 1)))) [some (.sh (.scr ns)), some (.sh (.int m)), some (.ow (fs.map .int)), x, y, z] = some (.nx [some (.sh (.scr ns)), some (.sh (.int m)), some (.ow ((fs.take m.toNat).map .int)), x, y, z]) := by
    show oAsg 2 _ (some (Kd.fr, D.lst (cutD (fs.map .int) none (some m)))) = _
    rw [c1]
    rfl
  have hgl : (fs.take m.toNat).length ≤ m.toNat := by rw [List.length_take]; omega
  have hgn : nn (fs.take m.toNat) := fun v hv => q2 v (List.mem_of_mem_take hv)
  generalize fs.take m.toNat = gs at s3 hgl hgn
  obtain ⟨xs, f3, l3, n3⟩ := run3 (c := ns.sum + (ns.length : Int)) (n := m - (gs.length : Int)) (by omega) (by omega)
  have f3' : fFn ψ3 [(.sh, .int (ns.sum + (ns.length : Int))), (.sh, .int (m - (gs.length : Int)))] = some (.fr, ilst xs) := fFn_fr rfl f3
  refine ⟨gs ++ xs, d_run rfl ((x_cons rfl).trans ((x_cons (x_for hit e)).trans ((x_cons s3).trans (x_stop ?_)))) (by decide), by rw [List.length_append, l3]; omega, nn_app hgn n3⟩
  have hcat := bin_cat (xs := gs.map D.int) (ys := xs.map D.int) (by simp only [List.length_map]; omega)
  rw [← List.map_append] at hcat
  have b1 : fBlt "sum" [(.sh, .scr ns)] = some (.sh, .int ns.sum) := rfl
  have b2 : fBlt "len" [(.sh, .scr ns)] = some (.sh, .int (ns.length : Int)) := rfl
  have b3 : fBlt "len" [(.bo, .lst (gs.map .int))] = some (.sh, .int (gs.length : Int)) := by rw [len_of, List.length_map]
  have a1 : oBin .Add (some (Kd.sh, .int ns.sum)) (some (Kd.sh, .int (ns.length : Int))) = some (.sh, .int (ns.sum + (ns.length : Int))) := rfl
  have a2 : oBin .Sub (some (Kd.sh, .int m)) (some (Kd.sh, .int (gs.length : Int))) = some (.sh, .int (m - (gs.length : Int))) := rfl
  show oRet (oBin .Add (some (Kd.bo, .lst (gs.map .int))) (oFn (some ψ3) (oCons (oBin .Add (fBlt "sum" [(.sh, .scr ns)]) (fBlt "len" [(.sh, .scr ns)])) (oCons (oBin .Sub (some (Kd.sh, .int m)) (fBlt "len" [(.bo, .lst (gs.map .int))])) (some []))))) = _
  rw [b1, b2, b3, a1, a2]
  show oRet (oBin .Add (some (Kd.bo, .lst (gs.map .int))) (fFn ψ3 [(.sh, .int (ns.sum + (ns.length : Int))), (.sh, .int (m - (gs.length : Int)))])) = _
  rw [f3']
  show oRet (binD .Add (.lst (gs.map .int)) (.lst (xs.map .int))) = _
  rw [hcat]
  rfl
theorem o_of {op : Operator} {i j p : Int} {ka kb : Kd} (h : binD op (.int i) (.int j) = some (.sh, .int p)) : oBin op (some (ka, .int i)) (some (kb, .int j)) = some (.sh, .int p) := h
theorem ix_of {xs : List Int} {k : Int} {ka kb : Kd} (h0 : 0 ≤ k) (h : k < xs.length) : oIx (some (ka, ilst xs)) (some (kb, .int k)) = some (.sh, .int (getB xs k)) := by
  show (L2.atI (xs.map D.int) k).map _ = _
  rw [getB_ix h0 h]
  rfl
theorem run6 {xs : List Int} (hl : 4 ≤ xs.length) (hn : nn xs) : ∃ a b c d : Int, ψ6 [ilst xs] = some (.fr, .lst [.int a, .int b, .int c, .int d]) ∧ 0 ≤ a ∧ a ≤ 40 ∧ 0 ≤ b ∧ b ≤ 40 ∧ 0 ≤ c ∧ c ≤ 60 ∧ 0 ≤ d ∧ d ≤ 40 := by
  have i0 := ix_of (xs := xs) (k := 0) (ka := .sh) (kb := .sh) (by decide) (by omega)
  have i1 := ix_of (xs := xs) (k := 1) (ka := .sh) (kb := .sh) (by decide) (by omega)
  have i2 := ix_of (xs := xs) (k := 2) (ka := .sh) (kb := .sh) (by decide) (by omega)
  have i3 := ix_of (xs := xs) (k := 3) (ka := .sh) (kb := .sh) (by decide) (by omega)
  generalize getB xs 0 = x0 at i0
  generalize getB xs 1 = x1 at i1
  generalize getB xs 2 = x2 at i2
  generalize getB xs 3 = x3 at i3
  obtain ⟨m8, g1, _⟩ := ex_mod (i := x0) (j := 8) (by decide)
  obtain ⟨d8, g2, _⟩ := ex_fdiv (i := x0) (j := 8) (by decide)
  have o1 := o_of (ka := .sh) (kb := .sh) g1
  have o2 := o_of (ka := .sh) (kb := .sh) g2
  have ht : evIT Γ_5 (.cmp .Eq (.bin .Mod (.ix (.var 0) (.lit (.int 0))) (.lit (.int 8))) (.lit (.int 5))) (iniI 1 [ilst xs]) = some (m8 == 5) := by
    show oCmp .Eq (oBin .Mod (oIx (some (Kd.sh, ilst xs)) (some (.sh, .int 0))) (some (.sh, .int 8))) (some (.sh, .int 5)) = _
    rw [i0, o1]
    rfl
  cases hq : (m8 == 5) with
  | true =>
    rw [hq] at ht
    obtain ⟨a, g3, a0, a1, _⟩ := ex_mod (i := d8) (j := 41) (by decide)
    obtain ⟨b, g4, b0, b1, _⟩ := ex_mod (i := x1) (j := 41) (by decide)
    obtain ⟨c1, g5, c0, c2, _⟩ := ex_mod (i := x2) (j := 41) (by decide)
    obtain ⟨c, g6, c3⟩ := ex_add 20 c1
    obtain ⟨d, g7, d0, d1, _⟩ := ex_mod (i := x3) (j := 41) (by decide)
    refine ⟨a, b, c, d, d_run rfl (x_stop ((x_ifT ht).trans (x_stop ?_))) (by decide), a0, by omega, b0, by omega, by omega, by omega, d0, by omega⟩
    show oRet (oLst (oCons (oBin .Mod (oBin .FloorDiv (oIx (some (Kd.sh, ilst xs)) (some (.sh, .int 0))) (some (.sh, .int 8))) (some (.sh, .int 41))) (oCons (oBin .Mod (oIx (some (Kd.sh, ilst xs)) (some (.sh, .int 1))) (some (.sh, .int 41))) (oCons (oBin .Add (some (.sh, .int 20)) (oBin .Mod (oIx (some (Kd.sh, ilst xs)) (some (.sh, .int 2))) (some (.sh, .int 41)))) (oCons (oBin .Mod (oIx (some (Kd.sh, ilst xs)) (some (.sh, .int 3))) (some (.sh, .int 41))) (some [])))))) = _
    rw [i0, i1, i2, i3, o2, o_of g3, o_of g4, o_of g5, o_of g6, o_of g7]
    rfl
  | false =>
    rw [hq] at ht
    obtain ⟨a, g3, a0, a1, _⟩ := ex_mod (i := d8) (j := 4) (by decide)
    obtain ⟨b, g4, b0, b1, _⟩ := ex_mod (i := x1) (j := 5) (by decide)
    obtain ⟨c, g5, c0, c2, _⟩ := ex_mod (i := x2) (j := 10) (by decide)
    obtain ⟨d, g7, d0, d1, _⟩ := ex_mod (i := x3) (j := 4) (by decide)
    refine ⟨a, b, c, d, d_run rfl ((x_cons ((x_ifF ht).trans rfl)).trans (x_stop ?_)) (by decide), a0, by omega, b0, by omega, c0, by omega, d0, by omega⟩
    show oRet (oLst (oCons (oBin .Mod (oBin .FloorDiv (oIx (some (Kd.sh, ilst xs)) (some (.sh, .int 0))) (some (.sh, .int 8))) (some (.sh, .int 4))) (oCons (oBin .Mod (oIx (some (Kd.sh, ilst xs)) (some (.sh, .int 1))) (some (.sh, .int 5))) (oCons (oBin .Mod (oIx (some (Kd.sh, ilst xs)) (some (.sh, .int 2))) (some (.sh, .int 10))) (oCons (oBin .Mod (oIx (some (Kd.sh, ilst xs)) (some (.sh, .int 3))) (some (.sh, .int 4))) (some [])))))) = _
    rw [i0, i1, i2, i3, o2, o_of g3, o_of g4, o_of g5, o_of g7]
    rfl
theorem tuple_of (ds : List D) (k : Kd) : fBlt "tuple" [(k, .lst ds)] = some (.sh, .tup ds) := rfl
theorem run7 {xs : List Int} {pl : Int} (hl : xs.length = 5) (hn : nn xs) (h0 : 0 ≤ pl) (h1 : pl ≤ 300) : ∃ ps : List Int, ψ7 [ilst xs, .int pl] = some (.sh, .tup (ps.map .int)) ∧ ps.length ≤ 3 ∧ ∀ p ∈ ps, 0 ≤ p ∧ p < pl := by
  have i0 := ix_of (xs := xs) (k := 0) (ka := .sh) (kb := .sh) (by decide) (by omega)
  generalize getB xs 0 = x0 at i0
  obtain ⟨m4, g1, a0, a1, _⟩ := ex_mod (i := x0) (j := 4) (by decide)
  obtain ⟨mn, g2, b0⟩ : ∃ mn : Int, fBlt "min" [(.sh, .int pl), (.sh, .int 1)] = some (.sh, .int mn) ∧ ((pl = 0 ∧ mn = 0) ∨ (0 < pl ∧ mn = 1)) := by
    refine ⟨if 1 < pl then 1 else pl, rfl, ?_⟩
    split <;> omega
  obtain ⟨mm, g3, b1⟩ := ex_mul (i := mn) (j := m4) (.inl ⟨by omega, by omega⟩)
  have hmm : 0 ≤ mm ∧ mm ≤ 3 ∧ (pl = 0 → mm = 0) := by
    rcases b0 with ⟨z1, z2⟩ | ⟨z1, z2⟩
    · subst z2; omega
    · subst z2; omega
  have s1 : exI Γ_6 (.asg 2 (.bin .Mult (.blt "min" (.cons (.var 1) (.cons (.lit (.int 1)) .nil))) (.bin .Mod (.ix (.var 0) (.lit (.int 0))) (.lit (.int 4))))) (iniI 3 [ilst xs, .int pl]) = some (.nx [some (.sh (ilst xs)), some (.sh (.int pl)), some (.sh (.int mm))]) := by
    show oAsg 2 _ (oBin .Mult (fBlt "min" [(.sh, .int pl), (.sh, .int 1)]) (oBin .Mod (oIx (some (Kd.sh, ilst xs)) (some (.sh, .int 0))) (some (.sh, .int 4)))) = _
    rw [g2, i0, o_of g1, o_of g3]
    rfl
  obtain ⟨d4, g4, _⟩ := ex_fdiv (i := x0) (j := 4) (by decide)
  obtain ⟨m3, g5, _⟩ := ex_mod (i := d4) (j := 3) (by decide)
  have ht : evIT Γ_6 (.cmp .Eq (.bin .Mod (.bin .FloorDiv (.ix (.var 0) (.lit (.int 0))) (.lit (.int 4))) (.lit (.int 3))) (.lit (.int 0))) [some (.sh (ilst xs)), some (.sh (.int pl)), some (.sh (.int mm))] = some (m3 == 0) := by
    show oCmp .Eq (oBin .Mod (oBin .FloorDiv (oIx (some (Kd.sh, ilst xs)) (some (.sh, .int 0))) (some (.sh, .int 4))) (some (.sh, .int 3))) (some (.sh, .int 0)) = _
    rw [i0, o_of g4, o_of g5]
    rfl
  obtain ⟨l', hcut, hsub, hlen, _⟩ := cut_len D.int xs (lo := 2) (hi := 2 + mm) (by decide) (by omega)
  have hit : evII Γ_6 (.e (.sl (.var 0) (.som (.lit (.int 2))) (.som (.bin .Add (.lit (.int 2)) (.var 2))))) [some (.sh (ilst xs)), some (.sh (.int pl)), some (.sh (.int mm))] = some (false, l'.map .int) := by
    show oSeq (some (Kd.fr, D.lst (cutD (xs.map .int) (some 2) (some (2 + mm))))) = _
    rw [hcut]
    rfl
  have hl3 : l'.length ≤ 3 := by omega
  have hpos : ∀ x ∈ l', 0 < pl := fun x hx => by
    have : 0 < l'.length := List.length_pos_of_mem hx
    rcases b0 with ⟨z1, z2⟩ | ⟨z1, z2⟩
    · have := hmm.2.2 z1
      omega
    · exact z1
  cases hq : (m3 == 0) with
  | true =>
    rw [hq] at ht
    obtain ⟨ys, e1, e2, e3⟩ := evMap_ex (g := eltI (.nm 1) (evI Γ_6 (.bin .Sub (.bin .Sub (.var 3) (.lit (.int 1))) (.bin .Mod (.var 1) (.blt "min" (.cons (.var 3) (.cons (.lit (.int 4)) .nil)))))) [none, none, none, some (.sh (.int pl))]) (f := D.int) (P := fun y => 0 ≤ y ∧ y < pl) (l := l') (fun x hx => by
      have hp := hpos x hx
      obtain ⟨m, k1, k2⟩ : ∃ m : Int, fBlt "min" [(.sh, .int pl), (.sh, .int 4)] = some (.sh, .int m) ∧ 0 < m ∧ m ≤ pl := by
        refine ⟨if 4 < pl then 4 else pl, rfl, ?_⟩
        split <;> omega
      obtain ⟨r, k3, r0, r1, _⟩ := ex_mod (i := x) (j := m) k2.1
      obtain ⟨p1, k4, k5⟩ := ex_sub pl 1
      obtain ⟨p2, k6, k7⟩ := ex_sub p1 r
      refine ⟨p2, ?_, by omega⟩
      show oBin .Sub (oBin .Sub (some (Kd.sh, .int pl)) (some (.sh, .int 1))) (oBin .Mod (some (Kd.sh, .int x)) (fBlt "min" [(.sh, .int pl), (.sh, .int 4)])) = _
      rw [k1, o_of k3, o_of k4, o_of k6])
    refine ⟨ys, d_run rfl ((x_cons s1).trans (x_stop ((x_ifT ht).trans (x_stop ?_)))) (by decide), by omega, e3⟩
    have hc := comp_run' (elt := .bin .Sub (.bin .Sub (.var 3) (.lit (.int 1))) (.bin .Mod (.var 1) (.blt "min" (.cons (.var 3) (.cons (.lit (.int 4)) .nil))))) (tg := .nm 1) (cap := [none, none, none, some 1]) hit rfl (by rw [List.length_map]; omega) e1
    rw [exI, evI, evIs, evIs, hc]
    rfl
  | false =>
    rw [hq] at ht
    obtain ⟨ys, e1, e2, e3⟩ := evMap_ex (g := eltI (.nm 1) (evI Γ_6 (.bin .Mod (.var 1) (.var 2))) [none, none, some (.sh (.int pl))]) (f := D.int) (P := fun y => 0 ≤ y ∧ y < pl) (l := l') (fun x hx => by
      have hp := hpos x hx
      obtain ⟨r, k3, r0, r1, _⟩ := ex_mod (i := x) (j := pl) hp
      refine ⟨r, ?_, r0, r1⟩
      show oBin .Mod (some (Kd.sh, .int x)) (some (.sh, .int pl)) = _
      rw [o_of k3])
    refine ⟨ys, d_run rfl ((x_cons s1).trans ((x_cons ((x_ifF ht).trans rfl)).trans (x_stop ?_))) (by decide), by omega, e3⟩
    have hc := comp_run' (elt := .bin .Mod (.var 1) (.var 2)) (tg := .nm 1) (cap := [none, none, some 1]) hit rfl (by rw [List.length_map]; omega) e1
    rw [exI, evI, evIs, evIs, hc]
    rfl
/-! circuits -/
structure Ci where
  ins : Int
  mems : List (Int × Int)
  gates : List (Int × List Int)
  outs : List Int
def memD (p : Int × Int) : D := .tup [.int p.1, .int p.2]
def gateD (g : Int × List Int) : D := .tup [.int g.1, .tup (g.2.map .int)]
def circD (c : Ci) : D := .tup [.int c.ins, .lst (c.mems.map memD), .lst (c.gates.map gateD), ilst c.outs]
def okC (c : Ci) : Prop := 0 ≤ c.ins ∧ c.ins ≤ 40 ∧ c.mems.length ≤ 40 ∧ c.gates.length ≤ 60 ∧ c.outs.length ≤ 40 ∧ ∀ (i : Nat) g, c.gates[i]? = some g → g.2.length ≤ 3 ∧ ∀ p ∈ g.2, 0 ≤ p ∧ p < c.ins + c.mems.length + (i : Int)
theorem evMap_mem {g : D → Option (Kd × D)} {l : List Int} (h : ∀ a ∈ l, ∃ p, g (.int a) = some (.sh, memD p)) : ∃ ys : List (Int × Int), evMap g (l.map D.int) = some (ys.map memD) ∧ ys.length = l.length := by
  induction l with
  | nil => exact ⟨[], rfl, rfl⟩
  | cons a l ih =>
    obtain ⟨p, e⟩ := h a List.mem_cons_self
    obtain ⟨ys, e2, hl⟩ := ih fun b hb => h b (List.mem_cons_of_mem _ hb)
    refine ⟨p :: ys, ?_, by simp [hl]⟩
    rw [List.map_cons, evMap, e, e2]
    rfl
theorem len_tup (ds : List D) (k : Kd) : fBlt "len" [(k, .tup ds)] = some (.sh, .int ds.length) := by
  simp [fBlt, lenD]
theorem four_ix {n : Nat} (h : n ≤ 3) : ∃ z : Int, oIx (some (Kd.fr, .lst [.int 2, .int 4, .int 16, .int 256])) (some (Kd.sh, .int (n : Int))) = some (.sh, .int z) ∧ 0 < z := by
  have : n = 0 ∨ n = 1 ∨ n = 2 ∨ n = 3 := by omega
  rcases this with rfl | rfl | rfl | rfl
  · exact ⟨2, rfl, by decide⟩
  · exact ⟨4, rfl, by decide⟩
  · exact ⟨16, rfl, by decide⟩
  · exact ⟨256, rfl, by decide⟩
theorem run8 {xs : List Int} (hl : xs.length = 900) (hn : nn xs) : ∃ c : Ci, ψ8 [ilst xs] = some (.sh, circD c) ∧ okC c := by
  obtain ⟨a, b, g, o, f6, a0, a1, b0, b1, c0, c1, d0, d1⟩ := run6 (xs := xs) (by omega) hn
  have f6' : fFn ψ6 [(.sh, ilst xs)] = some (.fr, .lst [.int a, .int b, .int g, .int o]) := fFn_fr rfl f6
  have s1 : exI Γ_7 (.unp [1, 2, 3, 4] (.fn 6 (.cons (.var 0) .nil))) (iniI 13 [ilst xs]) = some (.nx [some (.sh (ilst xs)), some (.sh (.int a)), some (.sh (.int b)), some (.sh (.int g)), some (.sh (.int o)), none, none, none, none, none, none, none, none]) := by
    show oUnp [1, 2, 3, 4] _ (fFn ψ6 [(.sh, ilst xs)]) = _
    rw [f6']
    rfl
  have hm0 : evIT Γ_7 (.cmp .Eq (.var 6) (.lit (.int 0))) [some (.sh (ilst xs)), some (.sh (.int a)), some (.sh (.int b)), some (.sh (.int g)), some (.sh (.int o)), some (.sh (.int (a + b))), some (.sh (.int (a + b + g))), none, none, none, none, none, none] = some (a + b + g == 0) := rfl
  cases hq : (a + b + g == 0) with
  | true =>
    rw [hq] at hm0
    refine ⟨⟨0, [], [], []⟩, d_run rfl ((x_cons s1).trans ((x_cons rfl).trans ((x_cons rfl).trans (x_stop ((x_ifT hm0).trans (x_stop rfl)))))) (by decide), by decide, by decide, by decide, by decide, by decide, fun i gg e => by simp at e⟩
  | false =>
    rw [hq] at hm0
    have hmp : 0 < a + b + g := by
      have : ¬ (a + b + g = 0) := by simpa using hq
      omega
    generalize hmost : a + b + g = most at hm0 hmp
    generalize hfirst : a + b = first
    -- the memories
    obtain ⟨l', hcut, _, _, hlen⟩ := cut_len D.int xs (lo := 4) (hi := 4 + b) (by decide) (by omega)
    have hlen' := hlen (by omega)
    obtain ⟨ms, e1, e2⟩ := evMap_mem (g := eltI (.nm 1) (evI Γ_7 (.tup (.cons (.bin .Mod (.var 1) (.lit (.int 2))) (.cons (.bin .Mod (.bin .FloorDiv (.var 1) (.lit (.int 2))) (.var 2)) .nil)))) [none, none, some (.sh (.int most))]) (l := l') (fun x hx => by
      obtain ⟨p, g1, _⟩ := ex_mod (i := x) (j := 2) (by decide)
      obtain ⟨p2, g2, _⟩ := ex_fdiv (i := x) (j := 2) (by decide)
      obtain ⟨p3, g3, _⟩ := ex_mod (i := p2) (j := most) hmp
      refine ⟨(p, p3), ?_⟩
      show oTup (oCons (oBin .Mod (some (Kd.sh, .int x)) (some (.sh, .int 2))) (oCons (oBin .Mod (oBin .FloorDiv (some (Kd.sh, .int x)) (some (.sh, .int 2))) (some (.sh, .int most))) (some []))) = _
      rw [o_of g1, o_of g2, o_of g3]
      rfl)
    have hml : (ms.length : Int) = b := by rw [e2, hlen']; omega
    have s5 : exI Γ_7 (.asgC 7 (.comp [none, none, some 6] (.nm 1) (.e (.sl (.var 0) (.som (.lit (.int 4))) (.som (.bin .Add (.lit (.int 4)) (.var 2))))) (.tup (.cons (.bin .Mod (.var 1) (.lit (.int 2))) (.cons (.bin .Mod (.bin .FloorDiv (.var 1) (.lit (.int 2))) (.var 2)) .nil))))) [some (.sh (ilst xs)), some (.sh (.int a)), some (.sh (.int b)), some (.sh (.int g)), some (.sh (.int o)), some (.sh (.int first)), some (.sh (.int most)), none, none, none, none, none, none] = some (.nx [some (.sh (ilst xs)), some (.sh (.int a)), some (.sh (.int b)), some (.sh (.int g)), some (.sh (.int o)), some (.sh (.int first)), some (.sh (.int most)), some (.ow (ms.map memD)), none, none, none, none, none]) := by
      have hit : evII Γ_7 (.e (.sl (.var 0) (.som (.lit (.int 4))) (.som (.bin .Add (.lit (.int 4)) (.var 2))))) [some (.sh (ilst xs)), some (.sh (.int a)), some (.sh (.int b)), some (.sh (.int g)), some (.sh (.int o)), some (.sh (.int first)), some (.sh (.int most)), none, none, none, none, none, none] = some (false, l'.map .int) := by
        show oSeq (some (Kd.fr, D.lst (cutD (xs.map .int) (some 4) (some (4 + b))))) = _
        rw [hcut]
        rfl
      rw [exI, comp_run' hit rfl (by rw [List.length_map]; omega) e1]
      rfl
    -- the gates
    obtain ⟨ρ', e, gs, w1, w2, w3, w4, k1, k2, rfl⟩ := forI0 (l := []) (tg := .nm 9) (fb := exIs Γ_7 (.cons (.asg 10 (.bin .Add (.lit (.int 50)) (.bin .Mult (.lit (.int 5)) (.var 9)))) (.cons (.asg 11 (.fn 7 (.cons (.sl (.var 0) (.som (.var 10)) (.som (.bin .Add (.var 10) (.lit (.int 5))))) (.cons (.bin .Add (.var 5) (.var 9)) .nil)))) (.cons (.asg 12 (.bin .Mod (.ix (.var 0) (.bin .Add (.var 10) (.lit (.int 1)))) (.ix (.lst (.cons (.lit (.int 2)) (.cons (.lit (.int 4)) (.cons (.lit (.int 16)) (.cons (.lit (.int 256)) .nil))))) (.blt "len" (.cons (.var 11) .nil))))) (.cons (.app 8 (.tup (.cons (.var 12) (.cons (.var 11) .nil)))) .nil)))))
      (fun i ρ => ∃ (gs : List (Int × List Int)) (w1 w2 w3 w4 : Option Sl), gs.length = i ∧ (∀ (j : Nat) gg, gs[j]? = some gg → gg.2.length ≤ 3 ∧ ∀ p ∈ gg.2, 0 ≤ p ∧ p < first + (j : Int)) ∧ ρ = [some (.sh (ilst xs)), some (.sh (.int a)), some (.sh (.int b)), some (.sh (.int g)), some (.sh (.int o)), some (.sh (.int first)), some (.sh (.int most)), some (.ow (ms.map memD)), some (.ow (gs.map gateD)), w1, w2, w3, w4]) ((List.range g.toNat).map fun (k : Nat) => D.int (0 + (k : Int)))
      [some (.sh (ilst xs)), some (.sh (.int a)), some (.sh (.int b)), some (.sh (.int g)), some (.sh (.int o)), some (.sh (.int first)), some (.sh (.int most)), some (.ow (ms.map memD)), some (.ow []), none, none, none, none] ⟨[], none, none, none, none, rfl, (fun j gg e => by simp at e), rfl⟩ (by
        rintro i d ρ e ⟨gs, w1, w2, w3, w4, k1, k2, rfl⟩
        obtain ⟨hi, rfl⟩ := range_get e
        have hk : 0 + (i : Int) = i := by omega
        rw [hk]
        have hi60 : (i : Int) < 60 := by omega
        obtain ⟨p1, g1, q1⟩ := ex_mul (i := 5) (j := (i : Int)) (.inl ⟨by decide, by decide⟩)
        obtain ⟨at', g2, q2⟩ := ex_add 50 p1
        obtain ⟨hi5, g3, q3⟩ := ex_add at' 5
        obtain ⟨own, g4, q4⟩ := ex_add first (i : Int)
        obtain ⟨at1, g5, q5⟩ := ex_add at' 1
        obtain ⟨l5, hc5, hsub5, _, hlen5⟩ := cut_len D.int xs (lo := at') (hi := hi5) (by omega) (by omega)
        have hl5 := hlen5 (by omega)
        obtain ⟨ps, f7, hp3, hpp⟩ := run7 (xs := l5) (pl := own) (by omega) (fun x hx => hn x (hsub5 x hx)) (by omega) (by omega)
        have f7' : fFn ψ7 [(.fr, ilst l5), (.sh, .int own)] = some (.sh, .tup (ps.map .int)) := fFn_sh rfl f7
        have i1 := ix_of (xs := xs) (k := at1) (ka := .sh) (kb := .sh) (by omega) (by omega)
        generalize getB xs at1 = xv at i1
        obtain ⟨z, hz, z0⟩ := four_ix hp3
        obtain ⟨t, g6, _⟩ := ex_mod (i := xv) (j := z) z0
        have hgl : gs.length < 100000 := by omega
        refine ⟨[(9, .int (i : Int))], _, rfl, ?_, gs ++ [(t, ps)], some (.sh (.int (i : Int))), some (.sh (.int at')), some (.sh (.tup (ps.map .int))), some (.sh (.int t)), by simp [k1], fun j gg ej => ?_, rfl⟩
        · rw [forget_nil]
          refine (x_cons (ρ' := [some (.sh (ilst xs)), some (.sh (.int a)), some (.sh (.int b)), some (.sh (.int g)), some (.sh (.int o)), some (.sh (.int first)), some (.sh (.int most)), some (.ow (ms.map memD)), some (.ow (gs.map gateD)), some (.sh (.int (i : Int))), some (.sh (.int at')), w3, w4]) ?_).trans ((x_cons (ρ' := [some (.sh (ilst xs)), some (.sh (.int a)), some (.sh (.int b)), some (.sh (.int g)), some (.sh (.int o)), some (.sh (.int first)), some (.sh (.int most)), some (.ow (ms.map memD)), some (.ow (gs.map gateD)), some (.sh (.int (i : Int))), some (.sh (.int at')), some (.sh (.tup (ps.map .int))), w4]) ?_).trans ((x_cons (ρ' := [some (.sh (ilst xs)), some (.sh (.int a)), some (.sh (.int b)), some (.sh (.int g)), some (.sh (.int o)), some (.sh (.int first)), some (.sh (.int most)), some (.ow (ms.map memD)), some (.ow (gs.map gateD)), some (.sh (.int (i : Int))), some (.sh (.int at')), some (.sh (.tup (ps.map .int))), some (.sh (.int t))]) ?_).trans ((x_cons ?_).trans rfl)))
          · show oAsg 10 _ (oBin .Add (some (Kd.sh, .int 50)) (oBin .Mult (some (Kd.sh, .int 5)) (some (Kd.sh, .int (i : Int))))) = _
            rw [o_of g1, o_of g2]
            rfl
          · show oAsg 11 _ (oFn (some ψ7) (oCons (oSl (some (Kd.sh, ilst xs)) (some (some at')) (oInt (oBin .Add (some (Kd.sh, .int at')) (some (Kd.sh, .int 5))))) (oCons (oBin .Add (some (Kd.sh, .int first)) (some (Kd.sh, .int (i : Int)))) (some [])))) = _
            rw [o_of g3, o_of g4]
            show oAsg 11 _ (fFn ψ7 [(.fr, .lst (cutD (xs.map .int) (some at') (some hi5))), (.sh, .int own)]) = _
            rw [hc5]
            show oAsg 11 _ (fFn ψ7 [(.fr, ilst l5), (.sh, .int own)]) = _
            rw [f7']
            rfl
          · show oAsg 12 _ (oBin .Mod (oIx (some (Kd.sh, ilst xs)) (oBin .Add (some (Kd.sh, .int at')) (some (Kd.sh, .int 1)))) (oIx (some (Kd.fr, .lst [.int 2, .int 4, .int 16, .int 256])) (fBlt "len" [(.sh, .tup (ps.map .int))]))) = _
            rw [o_of g5, i1, len_tup, List.length_map, hz, o_of g6]
            rfl
          · show oApp 8 _ (some (some (Sl.ow (gs.map gateD)))) (some (Kd.sh, .tup [.int t, .tup (ps.map .int)])) = _
            show (if (Kd.sh ≠ .bo ∧ (gs.map gateD).length < 100000) then _ else none) = _
            rw [if_pos ⟨by decide, by rw [List.length_map]; exact hgl⟩, List.map_append]
            rfl
        · by_cases hj : j < gs.length
          · rw [List.getElem?_append_left hj] at ej
            exact k2 j gg ej
          · rw [List.getElem?_append_right (by omega)] at ej
            have hj0 : j - gs.length = 0 := by
              have := (List.getElem?_eq_some_iff.mp ej).1
              simp at this
              omega
            rw [hj0] at ej
            cases ej
            exact ⟨hp3, fun p hp => by
              have := hpp p hp
              omega⟩)
    have hgl : gs.length = g.toNat := by simpa using k1
    -- the outs
    obtain ⟨l2, hcut2, _, hlen2, _⟩ := cut_len D.int xs (lo := 360) (hi := 360 + o) (by decide) (by omega)
    obtain ⟨os, e3, e4, _⟩ := evMap_ex (g := eltI (.nm 1) (evI Γ_7 (.bin .Mod (.var 1) (.var 2))) [none, none, some (.sh (.int most))]) (f := D.int) (P := fun _ => True) (l := l2) (fun x hx => by
      obtain ⟨p, g1, _⟩ := ex_mod (i := x) (j := most) hmp
      refine ⟨p, ?_, trivial⟩
      show oBin .Mod (some (Kd.sh, .int x)) (some (.sh, .int most)) = _
      rw [o_of g1])
    refine ⟨⟨a, ms, gs, os⟩, ?_, a0, a1, by show ms.length ≤ 40; omega, by show gs.length ≤ 60; omega, by show os.length ≤ 40; omega, fun i gg e => ?_⟩
    · have hr := range_it (Γ := Γ_7) (ρ := [some (.sh (ilst xs)), some (.sh (.int a)), some (.sh (.int b)), some (.sh (.int g)), some (.sh (.int o)), some (.sh (.int first)), some (.sh (.int most)), some (.ow (ms.map memD)), some (.ow []), none, none, none, none]) (a := .var 3) (k := .sh) (n := g) rfl (by omega) (by omega)
      have s2 : exI Γ_7 (.asg 5 (.bin .Add (.var 1) (.var 2))) [some (.sh (ilst xs)), some (.sh (.int a)), some (.sh (.int b)), some (.sh (.int g)), some (.sh (.int o)), none, none, none, none, none, none, none, none] = some (.nx [some (.sh (ilst xs)), some (.sh (.int a)), some (.sh (.int b)), some (.sh (.int g)), some (.sh (.int o)), some (.sh (.int first)), none, none, none, none, none, none, none]) := by
        rw [← hfirst]; rfl
      have s3 : exI Γ_7 (.asg 6 (.bin .Add (.var 5) (.var 3))) [some (.sh (ilst xs)), some (.sh (.int a)), some (.sh (.int b)), some (.sh (.int g)), some (.sh (.int o)), some (.sh (.int first)), none, none, none, none, none, none, none] = some (.nx [some (.sh (ilst xs)), some (.sh (.int a)), some (.sh (.int b)), some (.sh (.int g)), some (.sh (.int o)), some (.sh (.int first)), some (.sh (.int most)), none, none, none, none, none, none]) := by
        rw [← hmost, ← hfirst]; rfl
      rw [hfirst] at hm0
      refine d_run rfl ((x_cons s1).trans ((x_cons s2).trans ((x_cons s3).trans ((x_cons ((x_ifF hm0).trans rfl)).trans ((x_cons s5).trans ((x_cons rfl).trans ((x_cons (x_for hr e)).trans ((x_cons (ρ' := [some (.sh (ilst xs)), some (.sh (.int a)), some (.sh (.int b)), some (.sh (.int g)), some (.sh (.int o)), some (.sh (.int first)), some (.sh (.int most)), some (.sh (.lst (ms.map memD))), some (.sh (.lst (gs.map gateD))), w1, w2, w3, w4]) rfl).trans (x_stop ?_))))))))) (by decide)
      have hit : evII Γ_7 (.e (.sl (.var 0) (.som (.lit (.int 360))) (.som (.bin .Add (.lit (.int 360)) (.var 4))))) [some (.sh (ilst xs)), some (.sh (.int a)), some (.sh (.int b)), some (.sh (.int g)), some (.sh (.int o)), some (.sh (.int first)), some (.sh (.int most)), some (.sh (.lst (ms.map memD))), some (.sh (.lst (gs.map gateD))), w1, w2, w3, w4] = some (false, l2.map .int) := by
        show oSeq (some (Kd.fr, D.lst (cutD (xs.map .int) (some 360) (some (360 + o))))) = _
        rw [hcut2]
        rfl
      have hc := comp_run' (elt := .bin .Mod (.var 1) (.var 2)) (tg := .nm 1) (cap := [none, none, some 6]) hit rfl (by rw [List.length_map]; omega) e3
      show oRet (oTup (oCons (some (Kd.sh, .int a)) (oCons (some (Kd.sh, .lst (ms.map memD))) (oCons (some (Kd.sh, .lst (gs.map gateD))) (oCons (evI Γ_7 (.comp [none, none, some 6] (.nm 1) (.e (.sl (.var 0) (.som (.lit (.int 360))) (.som (.bin .Add (.lit (.int 360)) (.var 4))))) (.bin .Mod (.var 1) (.var 2))) _) (some [])))))) = _
      rw [show evI Γ_7 _ _ = _ from hc]
      rfl
    · have := k2 i gg e
      refine ⟨this.1, fun p hp => ?_⟩
      have h2 := this.2 p hp
      show 0 ≤ p ∧ p < a + (ms.length : Int) + (i : Int)
      omega
/-! values -/
theorem pow8 {r : Int} (h0 : 0 ≤ r) (h : r < 8) : oIx (some (Kd.fr, .lst [.int 1, .int 2, .int 4, .int 8, .int 16, .int 32, .int 64, .int 128])) (some (Kd.sh, .int r)) = some (.sh, .int (2 ^ r.toNat)) ∧ 0 < (2 : Int) ^ r.toNat ∧ (2 : Int) ^ r.toNat < 1073741824 := by
  have : r = 0 ∨ r = 1 ∨ r = 2 ∨ r = 3 ∨ r = 4 ∨ r = 5 ∨ r = 6 ∨ r = 7 := by omega
  rcases this with rfl | rfl | rfl | rfl | rfl | rfl | rfl | rfl <;> exact ⟨rfl, by decide, by decide⟩
abbrev bitB : ISs := (.cons (.asg 2 (.bin .Add (.var 2) (.bin .Mult (.var 4) (.ix (.lst (.cons (.lit (.int 1)) (.cons (.lit (.int 2)) (.cons (.lit (.int 4)) .nil)))) (.var 3))))) .nil)
theorem three_ix {i : Nat} (h : i < 3) : oIx (some (Kd.fr, .lst [.int 1, .int 2, .int 4])) (some (Kd.sh, .int (i : Int))) = some (.sh, .int (2 ^ i)) ∧ 0 < (2 : Int) ^ i ∧ (2 : Int) ^ i < 10 := by
  have : i = 0 ∨ i = 1 ∨ i = 2 := by omega
  rcases this with rfl | rfl | rfl <;> exact ⟨rfl, by decide, by decide⟩
theorem num_snoc : ∀ (bs : List Int) (b : Int), num (bs ++ [b]) = num bs + b * 2 ^ bs.length
  | [], b => by simp [num]
  | a :: bs, b => by
    show a + 2 * num (bs ++ [b]) = a + 2 * num bs + b * 2 ^ (bs.length + 1)
    rw [num_snoc bs b, Int.pow_succ, Int.mul_add, ← Int.add_assoc, Int.mul_left_comm 2 b, Int.mul_comm 2 (2 ^ bs.length)]
theorem run10 {t : Int} {bs : List Int} (h : bin01 bs) (hl : bs.length ≤ 3) : ψ10 [.int t, ilst bs] = some (.sh, .int (tellI t bs)) := by
  obtain ⟨ρ', e, w3, w4, rfl⟩ := forI0 (l := []) (tg := .pr 3 4) (fb := exIs Γ_9 bitB)
    (fun i ρ => ∃ (w3 w4 : Option Sl), ρ = [some (.sh (.int t)), some (.sh (ilst bs)), some (.sh (.int (num (bs.take i)))), w3, w4]) ((bs.map D.int).mapIdx fun i d => D.tup [.int i, d])
    [some (.sh (.int t)), some (.sh (ilst bs)), some (.sh (.int 0)), none, none] ⟨none, none, rfl⟩ (by
      rintro i d ρ e ⟨w3, w4, rfl⟩
      rw [List.getElem?_mapIdx, List.getElem?_map] at e
      cases e2 : bs[i]? with
      | none => rw [e2] at e; cases e
      | some b =>
        rw [e2] at e
        cases e
        have hi := (List.getElem?_eq_some_iff.mp e2).1
        obtain ⟨x1, x2, x3⟩ := three_ix (i := i) (by omega)
        obtain ⟨p1, g1, q1⟩ := ex_mul (i := b) (j := 2 ^ i) (.inr ⟨by omega, by omega⟩)
        obtain ⟨p2, g2, q2⟩ := ex_add (num (bs.take i)) p1
        have hnum : num (bs.take (i + 1)) = p2 := by
          rw [List.take_add_one, e2, Option.toList_some, num_snoc, List.length_take, Nat.min_eq_left (by omega), q2, q1]
        refine ⟨[(3, .int (i : Int)), (4, .int b)], _, rfl, ?_, some (.sh (.int (i : Int))), some (.sh (.int b)), rfl⟩
        rw [forget_nil, hnum]
        refine (x_cons ?_).trans rfl
        show oAsg 2 _ (oBin .Add (some (Kd.sh, .int (num (bs.take i)))) (oBin .Mult (some (Kd.sh, .int b)) (oIx (some (Kd.fr, .lst [.int 1, .int 2, .int 4])) (some (Kd.sh, .int (i : Int)))))) = _
        rw [x1, o_of g1, o_of g2]
        rfl)
  have hlen : ((bs.map D.int).mapIdx fun i d => D.tup [.int i, d]).length = bs.length := by rw [List.length_mapIdx, List.length_map]
  rw [hlen, List.take_length] at e
  have n0 := num_ge h
  have n1 := num_up h
  have n2 : num bs < 8 := by
    have : (2 : Int) ^ bs.length ≤ 8 := by
      have : bs.length = 0 ∨ bs.length = 1 ∨ bs.length = 2 ∨ bs.length = 3 := by omega
      rcases this with h | h | h | h <;> rw [h] <;> decide
    omega
  obtain ⟨y1, y2, y3⟩ := pow8 n0 n2
  refine d_run rfl ((x_cons rfl).trans ((x_cons (x_for rfl e)).trans (x_stop ?_))) (by decide)
  show oRet (oBin .Mod (oBin .FloorDiv (some (Kd.sh, .int t)) (oIx (some (Kd.fr, .lst [.int 1, .int 2, .int 4, .int 8, .int 16, .int 32, .int 64, .int 128])) (some (Kd.sh, .int (num bs))))) (some (Kd.sh, .int 2))) = _
  rw [y1, o_of (bin_fdiv ⟨y2, y3⟩), o_of (bin_mod (by decide))]
  rfl
def valsL : List (Int × List Int) → List Int → List Int
  | [], vs => vs
  | g :: gs, vs => valsL gs (vs ++ [tellI g.1 (g.2.map (getB vs))])
theorem valsL_len : ∀ (gs : List (Int × List Int)) (vs : List Int), (valsL gs vs).length = vs.length + gs.length
  | [], _ => rfl
  | g :: gs, vs => by
    rw [valsL, valsL_len gs, List.length_append, List.length_cons, List.length_cons, List.length_nil]
    omega
theorem drop_get {α : Type} {l : List α} {i : Nat} {a : α} (e : l[i]? = some a) : l.drop i = a :: l.drop (i + 1) := by
  obtain ⟨h, rfl⟩ := List.getElem?_eq_some_iff.mp e
  exact List.drop_eq_getElem_cons h
theorem bin_app' {xs ys : List Int} (h : bin01 xs) (h' : bin01 ys) : bin01 (xs ++ ys) := fun x hx => by
  rcases List.mem_append.mp hx with hx | hx
  · exact h x hx
  · exact h' x hx
theorem bin_pick {vs ps : List Int} (h : bin01 vs) : bin01 (ps.map (getB vs)) := fun x hx => by
  obtain ⟨p, _, rfl⟩ := List.mem_map.mp hx
  exact getB_bin h p
theorem bin_tell (t : Int) (bs : List Int) : bin01 [tellI t bs] := fun x hx => by
  rw [List.mem_singleton.mp hx]
  exact tell01 t bs
theorem picks {Γ : Nat → Option Fn} {vs ps : List Int} (hp : ∀ p ∈ ps, 0 ≤ p ∧ p < vs.length) : evMap (eltI (.nm 1) (evI Γ (.ix (.var 2) (.var 1))) [none, none, some (.ow (vs.map .int))]) (ps.map D.int) = some ((ps.map (getB vs)).map D.int) := by
  rw [evMap_map D.int (fun p => D.int (getB vs p)) fun p hq => ⟨.sh, ?_, by decide⟩, List.map_map]
  · rfl
  · exact ix_of (ka := .bo) (kb := .sh) (hp p hq).1 (hp p hq).2
theorem run2 {c : Ci} {st ins : List Int} (hc : okC c) (hs : bin01 st) (hi : bin01 ins) (ls : st.length = c.mems.length) (li : (ins.length : Int) = c.ins) : ψ2 [circD c, ilst st, ilst ins] = some (.fr, ilst (valsL c.gates (ins ++ st))) := by
  obtain ⟨c1, c2, c3, c4, c5, c6⟩ := hc
  obtain ⟨ρ', e, vs, w1, w2, k1, k2, k3, rfl⟩ := forI0 (l := []) (tg := .pr 4 5) (fb := exIs Γ_1 (.cons (.app 3 (.fn 1 (.cons (.var 4) (.cons (.comp [none, none, some 3] (.nm 1) (.e (.var 5)) (.ix (.var 2) (.var 1))) .nil)))) .nil))
    (fun i ρ => ∃ (vs : List Int) (w1 w2 : Option Sl), vs.length = ins.length + st.length + i ∧ bin01 vs ∧ valsL (c.gates.drop i) vs = valsL c.gates (ins ++ st) ∧ ρ = [some (.sh (circD c)), some (.sh (ilst st)), some (.sh (ilst ins)), some (.ow (vs.map .int)), w1, w2]) (c.gates.map gateD)
    [some (.sh (circD c)), some (.sh (ilst st)), some (.sh (ilst ins)), some (.ow ((ins ++ st).map .int)), none, none] ⟨ins ++ st, none, none, by simp, bin_app' hi hs, rfl, rfl⟩ (by
      rintro i d ρ e ⟨vs, w1, w2, k1, k2, k3, rfl⟩
      obtain ⟨g, hg, e2, rfl⟩ := map_get e
      obtain ⟨g1, g2⟩ := c6 i g e2
      have hi60 := (List.getElem?_eq_some_iff.mp e2).1
      have pk := picks (Γ := Γ_1) (vs := vs) (ps := g.2) (fun p hp => by have := g2 p hp; omega)
      have hb : bin01 (g.2.map (getB vs)) := bin_pick k2
      have t1 : fFn ψTold [(.sh, .int g.1), (.fr, .lst ((g.2.map (getB vs)).map .int))] = some (.sh, .int (tellI g.1 (g.2.map (getB vs)))) := fFn_sh rfl (ψTold_of (bin_small hb (by rw [List.length_map]; omega)))
      have hz : vs.length < 100000 := by omega
      refine ⟨[(4, .int g.1), (5, .tup (g.2.map .int))], _, rfl, ?_, vs ++ [tellI g.1 (g.2.map (getB vs))], some (.sh (.int g.1)), some (.sh (.tup (g.2.map .int))), by rw [List.length_append, List.length_singleton]; omega, bin_app' k2 (bin_tell _ _), ?_, rfl⟩
      · rw [forget_nil]
        refine (x_cons ?_).trans rfl
        have hcm := comp_run' (Γ := Γ_1) (ρ := [some (.sh (circD c)), some (.sh (ilst st)), some (.sh (ilst ins)), some (.ow (vs.map .int)), some (.sh (.int g.1)), some (.sh (.tup (g.2.map .int)))]) (elt := .ix (.var 2) (.var 1)) (tg := .nm 1) (cap := [none, none, some 3]) (it := .e (.var 5)) (bo := false) (ds := g.2.map .int) rfl rfl (by rw [List.length_map]; omega) pk
        show oApp 3 _ (some (some (Sl.ow (vs.map .int)))) (oFn (some ψTold) (oCons (some (Kd.sh, .int g.1)) (oCons (evI Γ_1 (.comp [none, none, some 3] (.nm 1) (.e (.var 5)) (.ix (.var 2) (.var 1))) [some (.sh (circD c)), some (.sh (ilst st)), some (.sh (ilst ins)), some (.ow (vs.map .int)), some (.sh (.int g.1)), some (.sh (.tup (g.2.map .int)))]) (some [])))) = _
        rw [hcm]
        show oApp 3 _ (some (some (Sl.ow (vs.map .int)))) (fFn ψTold [(.sh, .int g.1), (.fr, .lst ((g.2.map (getB vs)).map .int))]) = _
        rw [t1]
        show (if (Kd.sh ≠ .bo ∧ (vs.map D.int).length < 100000) then _ else none) = _
        rw [if_pos ⟨by decide, by rw [List.length_map]; exact hz⟩, List.map_append]
        rfl
      · rw [drop_get e2] at k3
        exact k3)
  rw [List.length_map, List.drop_length] at k3
  have k3' : vs = valsL c.gates (ins ++ st) := k3
  have s1 : exI Γ_1 (.asg 3 (.bin .Add (.blt "list" (.cons (.var 2) .nil)) (.blt "list" (.cons (.var 1) .nil)))) (iniI 6 [circD c, ilst st, ilst ins]) = some (.nx [some (.sh (circD c)), some (.sh (ilst st)), some (.sh (ilst ins)), some (.ow ((ins ++ st).map .int)), none, none]) := by
    show oAsg 3 _ (oBin .Add (fBlt "list" [(.sh, .lst (ins.map .int))]) (fBlt "list" [(.sh, .lst (st.map .int))])) = _
    rw [list_of, list_of]
    show oAsg 3 _ (binD .Add (.lst (ins.map .int)) (.lst (st.map .int))) = _
    rw [bin_cat (by rw [List.length_map, List.length_map]; omega), List.map_append]
    rfl
  rw [← k3']
  exact d_run rfl ((x_cons s1).trans ((x_cons (x_for rfl e)).trans (x_stop rfl))) (by decide)
theorem run11 {c : Ci} {st ins : List Int} (hc : okC c) (hs : bin01 st) (hi : bin01 ins) (ls : st.length = c.mems.length) (li : (ins.length : Int) = c.ins) : ψ11 [circD c, ilst st, ilst ins] = some (.fr, ilst (valsL c.gates (ins ++ st))) := by
  obtain ⟨c1, c2, c3, c4, c5, c6⟩ := hc
  obtain ⟨ρ', e, vs, w1, w2, k1, k2, k3, rfl⟩ := forI0 (l := []) (tg := .pr 4 5) (fb := exIs Γ_10 (.cons (.asg 3 (.bin .Add (.var 3) (.lst (.cons (.fn 10 (.cons (.var 4) (.cons (.comp [none, none, some 3] (.nm 1) (.e (.var 5)) (.ix (.var 2) (.var 1))) .nil))) .nil)))) .nil))
    (fun i ρ => ∃ (vs : List Int) (w1 w2 : Option Sl), vs.length = ins.length + st.length + i ∧ bin01 vs ∧ valsL (c.gates.drop i) vs = valsL c.gates (ins ++ st) ∧ ρ = [some (.sh (circD c)), some (.sh (ilst st)), some (.sh (ilst ins)), some (.ow (vs.map .int)), w1, w2]) (c.gates.map gateD)
    [some (.sh (circD c)), some (.sh (ilst st)), some (.sh (ilst ins)), some (.ow ((ins ++ st).map .int)), none, none] ⟨ins ++ st, none, none, by simp, bin_app' hi hs, rfl, rfl⟩ (by
      rintro i d ρ e ⟨vs, w1, w2, k1, k2, k3, rfl⟩
      obtain ⟨g, hg, e2, rfl⟩ := map_get e
      obtain ⟨g1, g2⟩ := c6 i g e2
      have hi60 := (List.getElem?_eq_some_iff.mp e2).1
      have pk := picks (Γ := Γ_10) (vs := vs) (ps := g.2) (fun p hp => by have := g2 p hp; omega)
      have hb : bin01 (g.2.map (getB vs)) := bin_pick k2
      have t1 : fFn ψ10 [(.sh, .int g.1), (.fr, .lst ((g.2.map (getB vs)).map .int))] = some (.sh, .int (tellI g.1 (g.2.map (getB vs)))) := fFn_sh rfl (run10 hb (by rw [List.length_map]; omega))
      refine ⟨[(4, .int g.1), (5, .tup (g.2.map .int))], _, rfl, ?_, vs ++ [tellI g.1 (g.2.map (getB vs))], some (.sh (.int g.1)), some (.sh (.tup (g.2.map .int))), by rw [List.length_append, List.length_singleton]; omega, bin_app' k2 (bin_tell _ _), ?_, rfl⟩
      · rw [forget_nil]
        refine (x_cons ?_).trans rfl
        have hcm := comp_run' (Γ := Γ_10) (ρ := [some (.sh (circD c)), some (.sh (ilst st)), some (.sh (ilst ins)), some (.ow (vs.map .int)), some (.sh (.int g.1)), some (.sh (.tup (g.2.map .int)))]) (elt := .ix (.var 2) (.var 1)) (tg := .nm 1) (cap := [none, none, some 3]) (it := .e (.var 5)) (bo := false) (ds := g.2.map .int) rfl rfl (by rw [List.length_map]; omega) pk
        show oAsg 3 _ (oBin .Add (some (Kd.bo, .lst (vs.map .int))) (oLst (oCons (oFn (some ψ10) (oCons (some (Kd.sh, .int g.1)) (oCons (evI Γ_10 (.comp [none, none, some 3] (.nm 1) (.e (.var 5)) (.ix (.var 2) (.var 1))) [some (.sh (circD c)), some (.sh (ilst st)), some (.sh (ilst ins)), some (.ow (vs.map .int)), some (.sh (.int g.1)), some (.sh (.tup (g.2.map .int)))]) (some [])))) (some [])))) = _
        rw [hcm]
        show oAsg 3 _ (oBin .Add (some (Kd.bo, .lst (vs.map .int))) (oLst (oCons (fFn ψ10 [(.sh, .int g.1), (.fr, .lst ((g.2.map (getB vs)).map .int))]) (some [])))) = _
        rw [t1]
        show oAsg 3 _ (binD .Add (.lst (vs.map .int)) (.lst [.int (tellI g.1 (g.2.map (getB vs)))])) = _
        rw [bin_cat (by rw [List.length_map, List.length_singleton]; omega), List.map_append]
        rfl
      · rw [drop_get e2] at k3
        exact k3)
  rw [List.length_map, List.drop_length] at k3
  have k3' : vs = valsL c.gates (ins ++ st) := k3
  have s1 : exI Γ_10 (.asg 3 (.bin .Add (.var 2) (.var 1))) (iniI 6 [circD c, ilst st, ilst ins]) = some (.nx [some (.sh (circD c)), some (.sh (ilst st)), some (.sh (ilst ins)), some (.ow ((ins ++ st).map .int)), none, none]) := by
    show oAsg 3 _ (binD .Add (.lst (ins.map .int)) (.lst (st.map .int))) = _
    rw [bin_cat (by rw [List.length_map, List.length_map]; omega), List.map_append]
    rfl
  rw [← k3']
  exact d_run rfl ((x_cons s1).trans ((x_cons (x_for rfl e)).trans (x_stop rfl))) (by decide)
theorem run9 (c : Ci) : ψ9 [circD c] = some (.sh, circD c) := by
  refine d_run rfl (x_stop ?_) (by decide)
  show oRet (oTup (oCons (some (Kd.sh, .int c.ins)) (oCons (fBlt "list" [(.sh, .lst (c.mems.map memD))]) (oCons (fBlt "list" [(.sh, .lst (c.gates.map gateD))]) (oCons (fBlt "list" [(.sh, .lst (c.outs.map .int))]) (some [])))))) = _
  rw [list_of, list_of, list_of]
  rfl
theorem ne_deep {xs : List D} (h : ∀ x ∈ xs, plainD 20 x = true) : cmpD .NotEq (.lst xs) (.lst xs) = some false := by
  have h1 : eqL (eqX 90) xs xs = some true := eqL_refl fun x hx => eqX_refl 90 (plain_up (h x hx) 90 (by decide))
  show (if xs.length = xs.length then eqL (eqX 90) xs xs else some false).map (!·) = _
  rw [if_pos rfl, h1]
  rfl
theorem plain_circ (c : Ci) : plainD 20 (circD c) = true := by
  refine List.all_eq_true.mpr fun x hx => ?_
  have hx' : x = .int c.ins ∨ x = .lst (c.mems.map memD) ∨ x = .lst (c.gates.map gateD) ∨ x = ilst c.outs := by simpa using hx
  rcases hx' with rfl | rfl | rfl | rfl
  · rfl
  · refine List.all_eq_true.mpr fun y hy => ?_
    obtain ⟨p, _, rfl⟩ := List.mem_map.mp hy
    rfl
  · refine List.all_eq_true.mpr fun y hy => ?_
    obtain ⟨p, _, rfl⟩ := List.mem_map.mp hy
    refine List.all_eq_true.mpr fun z hz => ?_
    have hz' : z = .int p.1 ∨ z = .tup (p.2.map .int) := by simpa using hz
    rcases hz' with rfl | rfl
    · rfl
    · refine List.all_eq_true.mpr fun u hu => ?_
      obtain ⟨q, _, rfl⟩ := List.mem_map.mp hu
      rfl
  · exact plain_up (plain_ints _) 19 (by decide)
theorem mod2 {Γ : Nat → Option Fn} (l : List Int) : ∃ ys : List Int, evMap (eltI (.nm 1) (evI Γ (.bin .Mod (.var 1) (.lit (.int 2)))) [none, none]) (l.map D.int) = some (ys.map D.int) ∧ ys.length = l.length ∧ bin01 ys :=
  evMap_ex (f := D.int) (P := fun y => 0 ≤ y ∧ y ≤ 1) fun x _ => by
    obtain ⟨p, g1, p0, p1, _⟩ := ex_mod (i := x) (j := 2) (by decide)
    refine ⟨p, ?_, p0, by omega⟩
    show oBin .Mod (some (Kd.sh, .int x)) (some (Kd.sh, .int 2)) = _
    rw [o_of g1]
theorem round34 {ns xs : List Int} {c : Ci} (hc : okC c) (hx : xs.length = 900) (i : Nat) (hi : i < 4) (w4 w5 w6 w7 w8 w9 w10 : Option Sl) : ∃ (v3 v4 v5 v6 v7 v8 v9 v10 : Option Sl), exIs Γ_11 (.cons (.asg 4 (.bin .Add (.lit (.int 410)) (.bin .Mult (.lit (.int 110)) (.var 3)))) (.cons (.asgC 5 (.comp [none, none] (.nm 1) (.e (.sl (.var 1) (.som (.var 4)) (.som (.bin .Add (.var 4) (.blt "len" (.cons (.ix (.var 2) (.lit (.int 1))) .nil)))))) (.bin .Mod (.var 1) (.lit (.int 2))))) (.cons (.asgC 6 (.comp [none, none] (.nm 1) (.e (.sl (.var 1) (.som (.bin .Add (.var 4) (.lit (.int 50)))) (.som (.bin .Add (.bin .Add (.var 4) (.lit (.int 50))) (.ix (.var 2) (.lit (.int 0))))))) (.bin .Mod (.var 1) (.lit (.int 2))))) (.cons (.frz [5, 6]) (.cons (.asg 7 (.lst (.cons (.fn 9 (.cons (.var 2) .nil)) (.cons (.blt "list" (.cons (.var 5) .nil)) (.cons (.blt "list" (.cons (.var 6) .nil)) .nil))))) (.cons (.asg 8 (.fn 11 (.cons (.var 2) (.cons (.var 5) (.cons (.var 6) .nil))))) (.cons (.for [] (.nm 9) (.rng (.lit (.int 2))) (.cons (.asg 10 (.fn 2 (.cons (.ix (.var 7) (.lit (.int 0))) (.cons (.ix (.var 7) (.lit (.int 1))) (.cons (.ix (.var 7) (.lit (.int 2))) .nil))))) (.cons (.ifs (.bool .Or (.cons (.not (.isi "list" (.var 10))) (.cons (.not (.blt "all" (.cons (.comp [none, none, none] (.nm 1) (.e (.var 10)) (.fn 5 (.cons (.var 1) .nil))) .nil))) (.cons (.cmp .NotEq (.var 10) (.var 8)) .nil)))) (.cons (.ret (.lit (.bl false))) .nil) .nil) (.cons (.app 10 (.lit (.int 2))) (.cons (.ifs (.cmp .NotEq (.var 7) (.lst (.cons (.var 2) (.cons (.var 5) (.cons (.var 6) .nil))))) (.cons (.ret (.lit (.bl false))) .nil) .nil) .nil))))) .nil))))))) [some (.sh (.scr ns)), some (.sh (ilst xs)), some (.sh (circD c)), some (.sh (.int (i : Int))), w4, w5, w6, w7, w8, w9, w10] = some (.nx [some (.sh (.scr ns)), some (.sh (ilst xs)), some (.sh (circD c)), v3, v4, v5, v6, v7, v8, v9, v10]) := by
  have hc0 := hc
  obtain ⟨c1, c2, c3, c4, c5, c6⟩ := hc0
  obtain ⟨k, hk⟩ : ∃ k : Int, k = (i : Int) := ⟨_, rfl⟩
  rw [← hk]
  obtain ⟨p1, g1, q1⟩ := ex_mul (i := 110) (j := k) (.inl ⟨by decide, by decide⟩)
  obtain ⟨at', g2, q2⟩ := ex_add 410 p1
  obtain ⟨h5, g3, q3⟩ := ex_add at' (c.mems.length : Int)
  obtain ⟨a6, g4, q4⟩ := ex_add at' 50
  obtain ⟨h6, g5, q5⟩ := ex_add a6 c.ins
  obtain ⟨l5, hc5, _, _, hl5⟩ := cut_len D.int xs (lo := at') (hi := h5) (by omega) (by omega)
  obtain ⟨l6, hc6, _, _, hl6⟩ := cut_len D.int xs (lo := a6) (hi := h6) (by omega) (by omega)
  have hl5 := hl5 (by omega)
  have hl6 := hl6 (by omega)
  obtain ⟨st, e5, n5, b5'⟩ := mod2 (Γ := Γ_11) l5
  obtain ⟨ins, e6, n6, b6'⟩ := mod2 (Γ := Γ_11) l6
  have ls : st.length = c.mems.length := by omega
  have li : (ins.length : Int) = c.ins := by omega
  have f2 := run2 hc b5' b6' ls li
  have f11 := run11 hc b5' b6' ls li
  have hV : (valsL c.gates (ins ++ st)).length < 100000 := by rw [valsL_len, List.length_append]; omega
  generalize valsL c.gates (ins ++ st) = V at f2 f11 hV
  have f2' : fFn ψ2 [(.sh, circD c), (.sh, ilst st), (.sh, ilst ins)] = some (.fr, ilst V) := fFn_fr rfl f2
  have f11' : fFn ψ11 [(.sh, circD c), (.sh, ilst st), (.sh, ilst ins)] = some (.fr, ilst V) := fFn_fr rfl f11
  have f9' : fFn ψ9 [(.sh, circD c)] = some (.sh, circD c) := fFn_sh rfl (run9 c)
  have s0 : exI Γ_11 (.asg 4 (.bin .Add (.lit (.int 410)) (.bin .Mult (.lit (.int 110)) (.var 3)))) [some (.sh (.scr ns)), some (.sh (ilst xs)), some (.sh (circD c)), some (.sh (.int k)), w4, w5, w6, w7, w8, w9, w10] = some (.nx [some (.sh (.scr ns)), some (.sh (ilst xs)), some (.sh (circD c)), some (.sh (.int k)), some (.sh (.int at')), w5, w6, w7, w8, w9, w10]) := by
    show oAsg 4 _ (oBin .Add (some (Kd.sh, .int 410)) (oBin .Mult (some (Kd.sh, .int 110)) (some (Kd.sh, .int k)))) = _
    rw [o_of g1, o_of g2]
    rfl
  have s1 : exI Γ_11 (.asgC 5 (.comp [none, none] (.nm 1) (.e (.sl (.var 1) (.som (.var 4)) (.som (.bin .Add (.var 4) (.blt "len" (.cons (.ix (.var 2) (.lit (.int 1))) .nil)))))) (.bin .Mod (.var 1) (.lit (.int 2))))) [some (.sh (.scr ns)), some (.sh (ilst xs)), some (.sh (circD c)), some (.sh (.int k)), some (.sh (.int at')), w5, w6, w7, w8, w9, w10] = some (.nx [some (.sh (.scr ns)), some (.sh (ilst xs)), some (.sh (circD c)), some (.sh (.int k)), some (.sh (.int at')), some (.ow (st.map .int)), w6, w7, w8, w9, w10]) := by
    have hit : evII Γ_11 (.e (.sl (.var 1) (.som (.var 4)) (.som (.bin .Add (.var 4) (.blt "len" (.cons (.ix (.var 2) (.lit (.int 1))) .nil)))))) [some (.sh (.scr ns)), some (.sh (ilst xs)), some (.sh (circD c)), some (.sh (.int k)), some (.sh (.int at')), w5, w6, w7, w8, w9, w10] = some (false, l5.map .int) := by
      show oSeq (oSl (some (Kd.sh, ilst xs)) (some (some at')) (oInt (oBin .Add (some (Kd.sh, .int at')) (fBlt "len" [(.sh, .lst (c.mems.map memD))])))) = _
      rw [len_of, List.length_map, o_of g3]
      show oSeq (some (Kd.fr, D.lst (cutD (xs.map .int) (some at') (some h5)))) = _
      rw [hc5]
      rfl
    rw [exI, comp_run' hit rfl (by rw [List.length_map]; omega) e5]
    rfl
  have s2 : exI Γ_11 (.asgC 6 (.comp [none, none] (.nm 1) (.e (.sl (.var 1) (.som (.bin .Add (.var 4) (.lit (.int 50)))) (.som (.bin .Add (.bin .Add (.var 4) (.lit (.int 50))) (.ix (.var 2) (.lit (.int 0))))))) (.bin .Mod (.var 1) (.lit (.int 2))))) [some (.sh (.scr ns)), some (.sh (ilst xs)), some (.sh (circD c)), some (.sh (.int k)), some (.sh (.int at')), some (.ow (st.map .int)), w6, w7, w8, w9, w10] = some (.nx [some (.sh (.scr ns)), some (.sh (ilst xs)), some (.sh (circD c)), some (.sh (.int k)), some (.sh (.int at')), some (.ow (st.map .int)), some (.ow (ins.map .int)), w7, w8, w9, w10]) := by
    have hit : evII Γ_11 (.e (.sl (.var 1) (.som (.bin .Add (.var 4) (.lit (.int 50)))) (.som (.bin .Add (.bin .Add (.var 4) (.lit (.int 50))) (.ix (.var 2) (.lit (.int 0))))))) [some (.sh (.scr ns)), some (.sh (ilst xs)), some (.sh (circD c)), some (.sh (.int k)), some (.sh (.int at')), some (.ow (st.map .int)), w6, w7, w8, w9, w10] = some (false, l6.map .int) := by
      show oSeq (oSl (some (Kd.sh, ilst xs)) (oInt (oBin .Add (some (Kd.sh, .int at')) (some (Kd.sh, .int 50)))) (oInt (oBin .Add (oBin .Add (some (Kd.sh, .int at')) (some (Kd.sh, .int 50))) (some (Kd.sh, .int c.ins))))) = _
      rw [o_of g4, o_of g5]
      show oSeq (some (Kd.fr, D.lst (cutD (xs.map .int) (some a6) (some h6)))) = _
      rw [hc6]
      rfl
    rw [exI, comp_run' hit rfl (by rw [List.length_map]; omega) e6]
    rfl
  have s3 : exI Γ_11 (.frz [5, 6]) [some (.sh (.scr ns)), some (.sh (ilst xs)), some (.sh (circD c)), some (.sh (.int k)), some (.sh (.int at')), some (.ow (st.map .int)), some (.ow (ins.map .int)), w7, w8, w9, w10] = some (.nx [some (.sh (.scr ns)), some (.sh (ilst xs)), some (.sh (circD c)), some (.sh (.int k)), some (.sh (.int at')), some (.sh (ilst st)), some (.sh (ilst ins)), w7, w8, w9, w10]) := rfl
  have s4 : exI Γ_11 (.asg 7 (.lst (.cons (.fn 9 (.cons (.var 2) .nil)) (.cons (.blt "list" (.cons (.var 5) .nil)) (.cons (.blt "list" (.cons (.var 6) .nil)) .nil))))) [some (.sh (.scr ns)), some (.sh (ilst xs)), some (.sh (circD c)), some (.sh (.int k)), some (.sh (.int at')), some (.sh (ilst st)), some (.sh (ilst ins)), w7, w8, w9, w10] = some (.nx [some (.sh (.scr ns)), some (.sh (ilst xs)), some (.sh (circD c)), some (.sh (.int k)), some (.sh (.int at')), some (.sh (ilst st)), some (.sh (ilst ins)), some (.ow [circD c, ilst st, ilst ins]), w8, w9, w10]) := by
    show oAsg 7 _ (oLst (oCons (fFn ψ9 [(.sh, circD c)]) (oCons (fBlt "list" [(.sh, .lst (st.map .int))]) (oCons (fBlt "list" [(.sh, .lst (ins.map .int))]) (some []))))) = _
    rw [f9', list_of, list_of]
    rfl
  have s5 : exI Γ_11 (.asg 8 (.fn 11 (.cons (.var 2) (.cons (.var 5) (.cons (.var 6) .nil))))) [some (.sh (.scr ns)), some (.sh (ilst xs)), some (.sh (circD c)), some (.sh (.int k)), some (.sh (.int at')), some (.sh (ilst st)), some (.sh (ilst ins)), some (.ow [circD c, ilst st, ilst ins]), w8, w9, w10] = some (.nx [some (.sh (.scr ns)), some (.sh (ilst xs)), some (.sh (circD c)), some (.sh (.int k)), some (.sh (.int at')), some (.sh (ilst st)), some (.sh (ilst ins)), some (.ow [circD c, ilst st, ilst ins]), some (.ow (V.map .int)), w9, w10]) := by
    show oAsg 8 _ (fFn ψ11 [(.sh, circD c), (.sh, ilst st), (.sh, ilst ins)]) = _
    rw [f11']
    rfl
  obtain ⟨ρ', e, v9, v10, rfl⟩ := forI0 (l := []) (tg := .nm 9) (fb := exIs Γ_11 (.cons (.asg 10 (.fn 2 (.cons (.ix (.var 7) (.lit (.int 0))) (.cons (.ix (.var 7) (.lit (.int 1))) (.cons (.ix (.var 7) (.lit (.int 2))) .nil))))) (.cons (.ifs (.bool .Or (.cons (.not (.isi "list" (.var 10))) (.cons (.not (.blt "all" (.cons (.comp [none, none, none] (.nm 1) (.e (.var 10)) (.fn 5 (.cons (.var 1) .nil))) .nil))) (.cons (.cmp .NotEq (.var 10) (.var 8)) .nil)))) (.cons (.ret (.lit (.bl false))) .nil) .nil) (.cons (.app 10 (.lit (.int 2))) (.cons (.ifs (.cmp .NotEq (.var 7) (.lst (.cons (.var 2) (.cons (.var 5) (.cons (.var 6) .nil))))) (.cons (.ret (.lit (.bl false))) .nil) .nil) .nil)))))
    (fun i ρ => ∃ (v9 v10 : Option Sl), ρ = [some (.sh (.scr ns)), some (.sh (ilst xs)), some (.sh (circD c)), some (.sh (.int k)), some (.sh (.int at')), some (.sh (ilst st)), some (.sh (ilst ins)), some (.ow [circD c, ilst st, ilst ins]), some (.ow (V.map .int)), v9, v10]) ((List.range (2 : Int).toNat).map fun (k : Nat) => D.int (0 + (k : Int))) [some (.sh (.scr ns)), some (.sh (ilst xs)), some (.sh (circD c)), some (.sh (.int k)), some (.sh (.int at')), some (.sh (ilst st)), some (.sh (ilst ins)), some (.ow [circD c, ilst st, ilst ins]), some (.ow (V.map .int)), w9, w10] ⟨w9, w10, rfl⟩ (by
      rintro i' d ρ e ⟨v9, v10, rfl⟩
      obtain ⟨_, rfl⟩ := range_get e
      generalize 0 + (i' : Int) = j
      refine ⟨[(9, .int j)], _, rfl, ?_, some (.sh (.int j)), some (.ow ((V ++ [2]).map .int)), rfl⟩
      rw [forget_nil]
      have t0 : exI Γ_11 (.asg 10 (.fn 2 (.cons (.ix (.var 7) (.lit (.int 0))) (.cons (.ix (.var 7) (.lit (.int 1))) (.cons (.ix (.var 7) (.lit (.int 2))) .nil))))) [some (.sh (.scr ns)), some (.sh (ilst xs)), some (.sh (circD c)), some (.sh (.int k)), some (.sh (.int at')), some (.sh (ilst st)), some (.sh (ilst ins)), some (.ow [circD c, ilst st, ilst ins]), some (.ow (V.map .int)), some (.sh (.int j)), v10] = some (.nx [some (.sh (.scr ns)), some (.sh (ilst xs)), some (.sh (circD c)), some (.sh (.int k)), some (.sh (.int at')), some (.sh (ilst st)), some (.sh (ilst ins)), some (.ow [circD c, ilst st, ilst ins]), some (.ow (V.map .int)), some (.sh (.int j)), some (.ow (V.map .int))]) := by
        show oAsg 10 _ (fFn ψ2 [(.sh, circD c), (.sh, ilst st), (.sh, ilst ins)]) = _
        rw [f2']
        rfl
      have t1 : evIT Γ_11 (.bool .Or (.cons (.not (.isi "list" (.var 10))) (.cons (.not (.blt "all" (.cons (.comp [none, none, none] (.nm 1) (.e (.var 10)) (.fn 5 (.cons (.var 1) .nil))) .nil))) (.cons (.cmp .NotEq (.var 10) (.var 8)) .nil)))) [some (.sh (.scr ns)), some (.sh (ilst xs)), some (.sh (circD c)), some (.sh (.int k)), some (.sh (.int at')), some (.sh (ilst st)), some (.sh (ilst ins)), some (.ow [circD c, ilst st, ilst ins]), some (.ow (V.map .int)), some (.sh (.int j)), some (.ow (V.map .int))] = some false := by
        have hm : evMap (eltI (.nm 1) (evI Γ_11 (.fn 5 (.cons (.var 1) .nil))) [none, none, none]) (V.map D.int) = some (V.map fun _ => D.bl true) := evMap_map D.int (fun _ => D.bl true) fun p _ => ⟨.sh, rfl, by decide⟩
        have hcm := comp_run' (Γ := Γ_11) (ρ := [some (.sh (.scr ns)), some (.sh (ilst xs)), some (.sh (circD c)), some (.sh (.int k)), some (.sh (.int at')), some (.sh (ilst st)), some (.sh (ilst ins)), some (.ow [circD c, ilst st, ilst ins]), some (.ow (V.map .int)), some (.sh (.int j)), some (.ow (V.map .int))]) (elt := .fn 5 (.cons (.var 1) .nil)) (tg := .nm 1) (cap := [none, none, none]) (it := .e (.var 10)) (bo := true) (ds := V.map .int) rfl rfl (by rw [List.length_map]; omega) hm
        have ta : evIT Γ_11 (.not (.isi "list" (.var 10))) [some (.sh (.scr ns)), some (.sh (ilst xs)), some (.sh (circD c)), some (.sh (.int k)), some (.sh (.int at')), some (.sh (ilst st)), some (.sh (ilst ins)), some (.ow [circD c, ilst st, ilst ins]), some (.ow (V.map .int)), some (.sh (.int j)), some (.ow (V.map .int))] = some false := rfl
        have tb : evIT Γ_11 (.not (.blt "all" (.cons (.comp [none, none, none] (.nm 1) (.e (.var 10)) (.fn 5 (.cons (.var 1) .nil))) .nil))) [some (.sh (.scr ns)), some (.sh (ilst xs)), some (.sh (circD c)), some (.sh (.int k)), some (.sh (.int at')), some (.sh (ilst st)), some (.sh (ilst ins)), some (.ow [circD c, ilst st, ilst ins]), some (.ow (V.map .int)), some (.sh (.int j)), some (.ow (V.map .int))] = some false := by
          show (oTru (oBlt "all" (oCons (evI Γ_11 (.comp [none, none, none] (.nm 1) (.e (.var 10)) (.fn 5 (.cons (.var 1) .nil))) [some (.sh (.scr ns)), some (.sh (ilst xs)), some (.sh (circD c)), some (.sh (.int k)), some (.sh (.int at')), some (.sh (ilst st)), some (.sh (ilst ins)), some (.ow [circD c, ilst st, ilst ins]), some (.ow (V.map .int)), some (.sh (.int j)), some (.ow (V.map .int))]) (some [])))).map (!·) = _
          rw [hcm]
          show (oTru (fBlt "all" [(.fr, .lst (V.map fun _ => D.bl true))])).map (!·) = _
          rw [all_true]
          rfl
        have tc : evIT Γ_11 (.cmp .NotEq (.var 10) (.var 8)) [some (.sh (.scr ns)), some (.sh (ilst xs)), some (.sh (circD c)), some (.sh (.int k)), some (.sh (.int at')), some (.sh (ilst st)), some (.sh (ilst ins)), some (.ow [circD c, ilst st, ilst ins]), some (.ow (V.map .int)), some (.sh (.int j)), some (.ow (V.map .int))] = some false := ne_self V
        have hor : (BoolOp.Or == BoolOp.And) = false := rfl
        rw [evIT, evIBT, ta]
        dsimp only
        rw [if_pos hor, evIBT, tb]
        dsimp only
        rw [if_pos hor, evIBT, tc]
      have t2 : exI Γ_11 (.app 10 (.lit (.int 2))) [some (.sh (.scr ns)), some (.sh (ilst xs)), some (.sh (circD c)), some (.sh (.int k)), some (.sh (.int at')), some (.sh (ilst st)), some (.sh (ilst ins)), some (.ow [circD c, ilst st, ilst ins]), some (.ow (V.map .int)), some (.sh (.int j)), some (.ow (V.map .int))] = some (.nx [some (.sh (.scr ns)), some (.sh (ilst xs)), some (.sh (circD c)), some (.sh (.int k)), some (.sh (.int at')), some (.sh (ilst st)), some (.sh (ilst ins)), some (.ow [circD c, ilst st, ilst ins]), some (.ow (V.map .int)), some (.sh (.int j)), some (.ow ((V ++ [2]).map .int))]) := by
        show (if (Kd.sh ≠ .bo ∧ (V.map D.int).length < 100000) then _ else none) = _
        rw [if_pos ⟨by decide, by rw [List.length_map]; exact hV⟩, List.map_append]
        rfl
      have t3 : evIT Γ_11 (.cmp .NotEq (.var 7) (.lst (.cons (.var 2) (.cons (.var 5) (.cons (.var 6) .nil))))) [some (.sh (.scr ns)), some (.sh (ilst xs)), some (.sh (circD c)), some (.sh (.int k)), some (.sh (.int at')), some (.sh (ilst st)), some (.sh (ilst ins)), some (.ow [circD c, ilst st, ilst ins]), some (.ow (V.map .int)), some (.sh (.int j)), some (.ow ((V ++ [2]).map .int))] = some false := by
        show cmpD .NotEq (.lst [circD c, ilst st, ilst ins]) (.lst [circD c, ilst st, ilst ins]) = _
        refine ne_deep fun x hx => ?_
        have hx' : x = circD c ∨ x = ilst st ∨ x = ilst ins := by simpa using hx
        rcases hx' with rfl | rfl | rfl
        · exact plain_circ c
        · exact plain_up (plain_ints _) 20 (by decide)
        · exact plain_up (plain_ints _) 20 (by decide)
      exact (x_cons t0).trans ((x_cons ((x_ifF t1).trans rfl)).trans ((x_cons t2).trans ((x_cons ((x_ifF t3).trans rfl)).trans rfl))))
  exact ⟨_, _, _, _, _, _, _, _, (x_cons s0).trans ((x_cons s1).trans ((x_cons s2).trans ((x_cons s3).trans ((x_cons s4).trans ((x_cons s5).trans ((x_cons (x_for rfl e)).trans rfl))))))⟩
theorem law_true (ns : List Int) (h : ns.length ≤ 63) : ψ12 [.scr ns] = some (.sh, .bl true) := by
  obtain ⟨xs, f4, hx, hn⟩ := run4 (ns := ns) (m := 900) h (by decide) (by decide)
  have hx : xs.length = 900 := hx
  obtain ⟨c, f8, hc⟩ := run8 hx hn
  have f4' : fFn ψ4 [(.sh, .scr ns), (.sh, .int 900)] = some (.fr, ilst xs) := fFn_fr rfl f4
  have f8' : fFn ψ8 [(.sh, ilst xs)] = some (.sh, circD c) := fFn_sh rfl f8
  have s0 : exI Γ_11 (.asg 1 (.fn 4 (.cons (.var 0) (.cons (.lit (.int 900)) .nil)))) (iniI 11 [.scr ns]) = some (.nx [some (.sh (.scr ns)), some (.ow (xs.map .int)), none, none, none, none, none, none, none, none, none]) := by
    show oAsg 1 _ (fFn ψ4 [(.sh, .scr ns), (.sh, .int 900)]) = _
    rw [f4']
    rfl
  have s2 : exI Γ_11 (.asg 2 (.fn 8 (.cons (.var 1) .nil))) [some (.sh (.scr ns)), some (.sh (ilst xs)), none, none, none, none, none, none, none, none, none] = some (.nx [some (.sh (.scr ns)), some (.sh (ilst xs)), some (.sh (circD c)), none, none, none, none, none, none, none, none]) := by
    show oAsg 2 _ (fFn ψ8 [(.sh, ilst xs)]) = _
    rw [f8']
    rfl
  obtain ⟨ρ', e, w3, w4, w5, w6, w7, w8, w9, w10, rfl⟩ := forI0 (l := []) (tg := .nm 3) (fb := exIs Γ_11 (.cons (.asg 4 (.bin .Add (.lit (.int 410)) (.bin .Mult (.lit (.int 110)) (.var 3)))) (.cons (.asgC 5 (.comp [none, none] (.nm 1) (.e (.sl (.var 1) (.som (.var 4)) (.som (.bin .Add (.var 4) (.blt "len" (.cons (.ix (.var 2) (.lit (.int 1))) .nil)))))) (.bin .Mod (.var 1) (.lit (.int 2))))) (.cons (.asgC 6 (.comp [none, none] (.nm 1) (.e (.sl (.var 1) (.som (.bin .Add (.var 4) (.lit (.int 50)))) (.som (.bin .Add (.bin .Add (.var 4) (.lit (.int 50))) (.ix (.var 2) (.lit (.int 0))))))) (.bin .Mod (.var 1) (.lit (.int 2))))) (.cons (.frz [5, 6]) (.cons (.asg 7 (.lst (.cons (.fn 9 (.cons (.var 2) .nil)) (.cons (.blt "list" (.cons (.var 5) .nil)) (.cons (.blt "list" (.cons (.var 6) .nil)) .nil))))) (.cons (.asg 8 (.fn 11 (.cons (.var 2) (.cons (.var 5) (.cons (.var 6) .nil))))) (.cons (.for [] (.nm 9) (.rng (.lit (.int 2))) (.cons (.asg 10 (.fn 2 (.cons (.ix (.var 7) (.lit (.int 0))) (.cons (.ix (.var 7) (.lit (.int 1))) (.cons (.ix (.var 7) (.lit (.int 2))) .nil))))) (.cons (.ifs (.bool .Or (.cons (.not (.isi "list" (.var 10))) (.cons (.not (.blt "all" (.cons (.comp [none, none, none] (.nm 1) (.e (.var 10)) (.fn 5 (.cons (.var 1) .nil))) .nil))) (.cons (.cmp .NotEq (.var 10) (.var 8)) .nil)))) (.cons (.ret (.lit (.bl false))) .nil) .nil) (.cons (.app 10 (.lit (.int 2))) (.cons (.ifs (.cmp .NotEq (.var 7) (.lst (.cons (.var 2) (.cons (.var 5) (.cons (.var 6) .nil))))) (.cons (.ret (.lit (.bl false))) .nil) .nil) .nil))))) .nil))))))))
    (fun i ρ => ∃ (w3 w4 w5 w6 w7 w8 w9 w10 : Option Sl), ρ = [some (.sh (.scr ns)), some (.sh (ilst xs)), some (.sh (circD c)), w3, w4, w5, w6, w7, w8, w9, w10]) ((List.range (4 : Int).toNat).map fun (k : Nat) => D.int (0 + (k : Int))) [some (.sh (.scr ns)), some (.sh (ilst xs)), some (.sh (circD c)), none, none, none, none, none, none, none, none] ⟨none, none, none, none, none, none, none, none, rfl⟩ (by
      rintro i d ρ e ⟨w3, w4, w5, w6, w7, w8, w9, w10, rfl⟩
      obtain ⟨hi, rfl⟩ := range_get e
      rw [show 0 + (i : Int) = (i : Int) by omega]
      obtain ⟨v3, v4, v5, v6, v7, v8, v9, v10, hr⟩ := round34 (ns := ns) hc hx i hi w4 w5 w6 w7 w8 w9 w10
      refine ⟨[(3, .int (i : Int))], _, rfl, ?_, v3, v4, v5, v6, v7, v8, v9, v10, rfl⟩
      rw [forget_nil]
      exact hr)
  exact d_run rfl ((x_cons s0).trans ((x_cons (ρ' := [some (.sh (.scr ns)), some (.sh (ilst xs)), none, none, none, none, none, none, none, none, none]) rfl).trans ((x_cons s2).trans ((x_cons (x_for rfl e)).trans (x_stop rfl))))) (by decide)
theorem all_mk {l : PySem.W.OpenLaw} {w : World} {K : PySem.W.Frag} {h : Heap} {mg : Str → Option Value} {fa f0 f1 f2 f3 f4 f5 f6 f7 f8 f9 f10 f11 f12 : Addr} (X : K.In h) (G : h.Ns mainGlobals mg) (hfa : mg "law" = some (.ref fa))
    {od0 an0 od1 an1 od2 an2 od3 an3 od4 an4 od5 an5 od6 an6 od7 an7 od8 an8 od9 an9 od10 an10 od11 an11 od12 an12 : Option Addr} {sl0 sl1 sl2 sl3 sl4 sl5 sl6 sl7 sl8 sl9 sl10 sl11 sl12 : Array (Option Value)} {oc0 kV0 dc0 pm0 cd0 ct0 oc1 kV1 dc1 pm1 cd1 ct1 oc2 kV2 dc2 pm2 cd2 ct2 oc3 kV3 dc3 pm3 cd3 ct3 oc4 kV4 dc4 pm4 cd4 ct4 oc5 kV5 dc5 pm5 cd5 ct5 oc6 kV6 dc6 pm6 cd6 ct6 oc7 kV7 dc7 pm7 cd7 ct7 oc8 kV8 dc8 pm8 cd8 ct8 oc9 kV9 dc9 pm9 cd9 ct9 oc10 kV10 dc10 pm10 cd10 ct10 oc11 kV11 dc11 pm11 cd11 ct11 oc12 kV12 dc12 pm12 cd12 ct12 : Value}
    (a0 : PySem.W.nsIn K mainGlobals "number_of" = some (some (.ref f0))) (l0 : K.lookup f0 = some ⟨oc0, od0, .func (PySem.W.fnOf "number_of" "number_of" (defArgs s0) (defBody s0) (defScope s0) .none kV0 dc0 pm0 an0 cd0 ct0), sl0⟩) (c0 : PySem.W.codeIn K cd0 "number_of" = true) (k0 : PySem.W.keepIn K (.ref f0) = true)
    (a1 : PySem.W.nsIn K mainGlobals "told" = some (some (.ref f1))) (l1 : K.lookup f1 = some ⟨oc1, od1, .func (PySem.W.fnOf "told" "told" (defArgs s1) (defBody s1) (defScope s1) .none kV1 dc1 pm1 an1 cd1 ct1), sl1⟩) (c1 : PySem.W.codeIn K cd1 "told" = true) (k1 : PySem.W.keepIn K (.ref f1) = true)
    (a2 : PySem.W.nsIn K mainGlobals "values" = some (some (.ref f2))) (l2 : K.lookup f2 = some ⟨oc2, od2, .func (PySem.W.fnOf "values" "values" (defArgs s2) (defBody s2) (defScope s2) .none kV2 dc2 pm2 an2 cd2 ct2), sl2⟩) (c2 : PySem.W.codeIn K cd2 "values" = true) (k2 : PySem.W.keepIn K (.ref f2) = true)
    (a3 : PySem.W.nsIn K mainGlobals "_law_mixed" = some (some (.ref f3))) (l3 : K.lookup f3 = some ⟨oc3, od3, .func (PySem.W.fnOf "_law_mixed" "_law_mixed" (defArgs s3) (defBody s3) (defScope s3) .none kV3 dc3 pm3 an3 cd3 ct3), sl3⟩) (c3 : PySem.W.codeIn K cd3 "_law_mixed" = true) (k3 : PySem.W.keepIn K (.ref f3) = true)
    (a4 : PySem.W.nsIn K mainGlobals "_law_numbers" = some (some (.ref f4))) (l4 : K.lookup f4 = some ⟨oc4, od4, .func (PySem.W.fnOf "_law_numbers" "_law_numbers" (defArgs s4) (defBody s4) (defScope s4) .none kV4 dc4 pm4 an4 cd4 ct4), sl4⟩) (c4 : PySem.W.codeIn K cd4 "_law_numbers" = true) (k4 : PySem.W.keepIn K (.ref f4) = true)
    (a5 : PySem.W.nsIn K mainGlobals "_law_whole" = some (some (.ref f5))) (l5 : K.lookup f5 = some ⟨oc5, od5, .func (PySem.W.fnOf "_law_whole" "_law_whole" (defArgs s5) (defBody s5) (defScope s5) .none kV5 dc5 pm5 an5 cd5 ct5), sl5⟩) (c5 : PySem.W.codeIn K cd5 "_law_whole" = true) (k5 : PySem.W.keepIn K (.ref f5) = true)
    (a6 : PySem.W.nsIn K mainGlobals "_law_sizes" = some (some (.ref f6))) (l6 : K.lookup f6 = some ⟨oc6, od6, .func (PySem.W.fnOf "_law_sizes" "_law_sizes" (defArgs s6) (defBody s6) (defScope s6) .none kV6 dc6 pm6 an6 cd6 ct6), sl6⟩) (c6 : PySem.W.codeIn K cd6 "_law_sizes" = true) (k6 : PySem.W.keepIn K (.ref f6) = true)
    (a7 : PySem.W.nsIn K mainGlobals "_law_places" = some (some (.ref f7))) (l7 : K.lookup f7 = some ⟨oc7, od7, .func (PySem.W.fnOf "_law_places" "_law_places" (defArgs s7) (defBody s7) (defScope s7) .none kV7 dc7 pm7 an7 cd7 ct7), sl7⟩) (c7 : PySem.W.codeIn K cd7 "_law_places" = true) (k7 : PySem.W.keepIn K (.ref f7) = true)
    (a8 : PySem.W.nsIn K mainGlobals "_law_circuit" = some (some (.ref f8))) (l8 : K.lookup f8 = some ⟨oc8, od8, .func (PySem.W.fnOf "_law_circuit" "_law_circuit" (defArgs s8) (defBody s8) (defScope s8) .none kV8 dc8 pm8 an8 cd8 ct8), sl8⟩) (c8 : PySem.W.codeIn K cd8 "_law_circuit" = true) (k8 : PySem.W.keepIn K (.ref f8) = true)
    (a9 : PySem.W.nsIn K mainGlobals "_law_copy" = some (some (.ref f9))) (l9 : K.lookup f9 = some ⟨oc9, od9, .func (PySem.W.fnOf "_law_copy" "_law_copy" (defArgs s9) (defBody s9) (defScope s9) .none kV9 dc9 pm9 an9 cd9 ct9), sl9⟩) (c9 : PySem.W.codeIn K cd9 "_law_copy" = true) (k9 : PySem.W.keepIn K (.ref f9) = true)
    (a10 : PySem.W.nsIn K mainGlobals "_law_bit" = some (some (.ref f10))) (l10 : K.lookup f10 = some ⟨oc10, od10, .func (PySem.W.fnOf "_law_bit" "_law_bit" (defArgs s10) (defBody s10) (defScope s10) .none kV10 dc10 pm10 an10 cd10 ct10), sl10⟩) (c10 : PySem.W.codeIn K cd10 "_law_bit" = true) (k10 : PySem.W.keepIn K (.ref f10) = true)
    (a11 : PySem.W.nsIn K mainGlobals "_law_values" = some (some (.ref f11))) (l11 : K.lookup f11 = some ⟨oc11, od11, .func (PySem.W.fnOf "_law_values" "_law_values" (defArgs s11) (defBody s11) (defScope s11) .none kV11 dc11 pm11 an11 cd11 ct11), sl11⟩) (c11 : PySem.W.codeIn K cd11 "_law_values" = true) (k11 : PySem.W.keepIn K (.ref f11) = true)
    (a12 : PySem.W.nsIn K mainGlobals "law" = some (some (.ref f12))) (l12 : K.lookup f12 = some ⟨oc12, od12, .func (PySem.W.fnOf "law" "law" (defArgs s12) (defBody s12) (defScope s12) .none kV12 dc12 pm12 an12 cd12 ct12), sl12⟩) (c12 : PySem.W.codeIn K cd12 "law" = true) (k12 : PySem.W.keepIn K (.ref f12) = true)
    (z0 : PySem.W.nsIn K mainGlobals "len" = some none)
    (z1 : PySem.W.nsIn K mainGlobals "isinstance" = some none)
    (z2 : PySem.W.nsIn K mainGlobals "int" = some none)
    (z3 : PySem.W.nsIn K mainGlobals "bool" = some none)
    (z4 : PySem.W.nsIn K mainGlobals "list" = some none)
    (z5 : PySem.W.nsIn K mainGlobals "all" = some none)
    (z6 : PySem.W.nsIn K mainGlobals "range" = some none)
    (z7 : PySem.W.nsIn K mainGlobals "enumerate" = some none)
    (z8 : PySem.W.nsIn K mainGlobals "str" = some none)
    (z9 : PySem.W.nsIn K mainGlobals "sum" = some none)
    (z10 : PySem.W.nsIn K mainGlobals "min" = some none)
    (z11 : PySem.W.nsIn K mainGlobals "max" = some none)
    (z12 : PySem.W.nsIn K mainGlobals "abs" = some none)
    (z13 : PySem.W.nsIn K mainGlobals "tuple" = some none)
    : ∃ fd : FuncData, (∀ (s : Shared) (v : Value), BindsTo s fd ⟨[v], []⟩ [("_law_script", v)]) ∧ ∀ base : Heap, K.In base → base.Ns mainGlobals mg → FnOk l.prog w K mg base CX0 13 fa fd ["_law_script"] (spF K ψ12) := by
  have e := hfa.symm.trans (PySem.W.mg_of X G a12)
  cases e
  have F0 := fun_mk (st := s0) l0 c0 k0
  have B0 := F0.binds (ps := ["bits"]) fun _ _ _ _ _ _ us hl => match us, hl with | [_], _ => rfl
  have F1 := fun_mk (st := s1) l1 c1 k1
  have B1 := F1.binds (ps := ["table", "bits"]) fun _ _ _ _ _ _ us hl => match us, hl with | [_, _], _ => rfl
  have F2 := fun_mk (st := s2) l2 c2 k2
  have B2 := F2.binds (ps := ["circuit", "state", "ins"]) fun _ _ _ _ _ _ us hl => match us, hl with | [_, _, _], _ => rfl
  have F3 := fun_mk (st := s3) l3 c3 k3
  have B3 := F3.binds (ps := ["_law_cell", "_law_many"]) fun _ _ _ _ _ _ us hl => match us, hl with | [_, _], _ => rfl
  have F4 := fun_mk (st := s4) l4 c4 k4
  have B4 := F4.binds (ps := ["_law_script", "_law_many"]) fun _ _ _ _ _ _ us hl => match us, hl with | [_, _], _ => rfl
  have F5 := fun_mk (st := s5) l5 c5 k5
  have B5 := F5.binds (ps := ["_law_found"]) fun _ _ _ _ _ _ us hl => match us, hl with | [_], _ => rfl
  have F6 := fun_mk (st := s6) l6 c6 k6
  have B6 := F6.binds (ps := ["_law_xs"]) fun _ _ _ _ _ _ us hl => match us, hl with | [_], _ => rfl
  have F7 := fun_mk (st := s7) l7 c7 k7
  have B7 := F7.binds (ps := ["_law_xs", "_law_place"]) fun _ _ _ _ _ _ us hl => match us, hl with | [_, _], _ => rfl
  have F8 := fun_mk (st := s8) l8 c8 k8
  have B8 := F8.binds (ps := ["_law_xs"]) fun _ _ _ _ _ _ us hl => match us, hl with | [_], _ => rfl
  have F9 := fun_mk (st := s9) l9 c9 k9
  have B9 := F9.binds (ps := ["_law_circuit_here"]) fun _ _ _ _ _ _ us hl => match us, hl with | [_], _ => rfl
  have F10 := fun_mk (st := s10) l10 c10 k10
  have B10 := F10.binds (ps := ["_law_table", "_law_bits"]) fun _ _ _ _ _ _ us hl => match us, hl with | [_, _], _ => rfl
  have F11 := fun_mk (st := s11) l11 c11 k11
  have B11 := F11.binds (ps := ["_law_circuit_here", "_law_state", "_law_ins"]) fun _ _ _ _ _ _ us hl => match us, hl with | [_, _, _], _ => rfl
  have F12 := fun_mk (st := s12) l12 c12 k12
  have B12 := F12.binds (ps := ["_law_script"]) fun _ _ _ _ _ _ us hl => match us, hl with | [_], _ => rfl
  refine ⟨PySem.W.fnOf "law" "law" (defArgs s12) (defBody s12) (defScope s12) .none kV12 dc12 pm12 an12 cd12 ct12, fun s v => .of_eq rfl, fun base _ _ => ?_⟩
  have T0 : TabF l.prog w K mg base (tabOf fns Γ0) 0 := ⟨fun x φ hx => by (have hx : (ixOf x fns.fns).bind Γ0 = some φ := hx; cases q : ixOf x fns.fns <;> rw [q] at hx <;> cases hx), (fun x hx => by
    simp only [List.mem_cons, List.not_mem_nil, or_false] at hx
    rcases hx with rfl | rfl | rfl | rfl | rfl | rfl | rfl | rfl | rfl | rfl | rfl | rfl | rfl | rfl
    · exact PySem.W.mg_none_of X G z0
    · exact PySem.W.mg_none_of X G z1
    · exact PySem.W.mg_none_of X G z2
    · exact PySem.W.mg_none_of X G z3
    · exact PySem.W.mg_none_of X G z4
    · exact PySem.W.mg_none_of X G z5
    · exact PySem.W.mg_none_of X G z6
    · exact PySem.W.mg_none_of X G z7
    · exact PySem.W.mg_none_of X G z8
    · exact PySem.W.mg_none_of X G z9
    · exact PySem.W.mg_none_of X G z10
    · exact PySem.W.mg_none_of X G z11
    · exact PySem.W.mg_none_of X G z12
    · exact PySem.W.mg_none_of X G z13), fun x d hx => by
    have hx : List.lookup x fns.cs = some d := hx
    simp only [fns, List.lookup] at hx
    cases hx⟩
  have T1 := T0.addI (i := 0) (ψ := ψ0) F0 sc0 (PySem.W.mg_of X G a0) B0 rfl rfl cr0 h0
  have T2 := T1.addI (i := 1) (ψ := ψ1) F1 sc1 (PySem.W.mg_of X G a1) B1 rfl rfl cr1 h1
  have T3 := T2.addI (i := 2) (ψ := ψ2) F2 sc2 (PySem.W.mg_of X G a2) B2 rfl rfl cr2 h2
  have T4 := T3.addI (i := 3) (ψ := ψ3) F3 sc3 (PySem.W.mg_of X G a3) B3 rfl rfl cr3 h3
  have T5 := T4.addI (i := 4) (ψ := ψ4) F4 sc4 (PySem.W.mg_of X G a4) B4 rfl rfl cr4 h4
  have T6 := T5.addI (i := 5) (ψ := ψ5) F5 sc5 (PySem.W.mg_of X G a5) B5 rfl rfl cr5 h5
  have T7 := T6.addI (i := 6) (ψ := ψ6) F6 sc6 (PySem.W.mg_of X G a6) B6 rfl rfl cr6 h6
  have T8 := T7.addI (i := 7) (ψ := ψ7) F7 sc7 (PySem.W.mg_of X G a7) B7 rfl rfl cr7 h7
  have T9 := T8.addI (i := 8) (ψ := ψ8) F8 sc8 (PySem.W.mg_of X G a8) B8 rfl rfl cr8 h8
  have T10 := T9.addI (i := 9) (ψ := ψ9) F9 sc9 (PySem.W.mg_of X G a9) B9 rfl rfl cr9 h9
  have T11 := T10.addI (i := 10) (ψ := ψ10) F10 sc10 (PySem.W.mg_of X G a10) B10 rfl rfl cr10 h10
  have T12 := T11.addI (i := 11) (ψ := ψ11) F11 sc11 (PySem.W.mg_of X G a11) B11 rfl rfl cr11 h11
  exact (def_okI (n := 60) (fg := fg) (fz := fz) F12 sc12 T12 cr12).imp fun vs H Q E s => spF_le h12 s
theorem walk {l : PySem.W.OpenLaw} {q : Program} {loose : List Str} {XP : (Str → Option Value) → Heap → Prop} {YP : World → Heap → Prop} {d : DefRec} {K : Params → PySem.W.Frag} (hn : l.most = some 63) (hdf : d.params.defaults = [])
    (hY : ∀ (w : World) (h : Heap), YP w h → (K w.params).In h)
    (F : ∀ (w : World) (mg : Str → Option Value) (fa : Addr) (h : Heap), (K w.params).In h → h.Ns mainGlobals mg → mg d.name = some (.ref fa) →
      ∃ fd : FuncData, (∀ (s : Shared) (u : Value), BindsTo s fd ⟨[u], []⟩ [("_law_script", u)]) ∧ ∀ base : Heap, (K w.params).In base → base.Ns mainGlobals mg → FnOk l.prog w (K w.params) mg base CX0 13 fa fd ["_law_script"] (spF (K w.params) ψ12)) :
    PySem.W.WalkO q loose XP YP l.row.toRowW d [] (fun f vs => PySem.call f vs) :=
  L2.walk_of (n := 63) (k := 13) (x := "_law_script") (CX := fun _ => CX0) (sp := fun w => spF (K w.params) ψ12) hn (by decide) hdf ⟨rfl, by decide, by decide⟩ hY F (fun _ _ a ns hl _ hS => law_sp hS (law_true ns hl)) fun _ _ _ _ _ z => z
end K34
open PySem PySem.W PyProof.Rows
set_option maxRecDepth 100000 in
set_option maxHeartbeats 0 in
theorem PySem.Challenge.cw_gatepapers_k34_values_walked_holds : PySem.Challenge.rw_gatepapers_k34_values_walked.Holds := by
  w_on; o_law; k_head; (case hw => w_witness2)
  k_fill
  refine K34.walk (l := PySem.Challenge.rw_gatepapers_k34_values_walked) rfl rfl (fun w h Y => PySem.W.kIn_of Y) ?F
  case F =>
    intro w mg fa h KX G hmg
    refine' K34.all_mk KX G hmg ?a0 ?l0 ?c0 ?k0 ?a1 ?l1 ?c1 ?k1 ?a2 ?l2 ?c2 ?k2 ?a3 ?l3 ?c3 ?k3 ?a4 ?l4 ?c4 ?k4 ?a5 ?l5 ?c5 ?k5 ?a6 ?l6 ?c6 ?k6 ?a7 ?l7 ?c7 ?k7 ?a8 ?l8 ?c8 ?k8 ?a9 ?l9 ?c9 ?k9 ?a10 ?l10 ?c10 ?k10 ?a11 ?l11 ?c11 ?k11 ?a12 ?l12 ?c12 ?k12 ?z0 ?z1 ?z2 ?z3 ?z4 ?z5 ?z6 ?z7 ?z8 ?z9 ?z10 ?z11 ?z12 ?z13
    (case a0 => k_is)
    (case l0 => k_is)
    (case c0 => k_is)
    (case k0 => k_is)
    (case a1 => k_is)
    (case l1 => k_is)
    (case c1 => k_is)
    (case k1 => k_is)
    (case a2 => k_is)
    (case l2 => k_is)
    (case c2 => k_is)
    (case k2 => k_is)
    (case a3 => k_is)
    (case l3 => k_is)
    (case c3 => k_is)
    (case k3 => k_is)
    (case a4 => k_is)
    (case l4 => k_is)
    (case c4 => k_is)
    (case k4 => k_is)
    (case a5 => k_is)
    (case l5 => k_is)
    (case c5 => k_is)
    (case k5 => k_is)
    (case a6 => k_is)
    (case l6 => k_is)
    (case c6 => k_is)
    (case k6 => k_is)
    (case a7 => k_is)
    (case l7 => k_is)
    (case c7 => k_is)
    (case k7 => k_is)
    (case a8 => k_is)
    (case l8 => k_is)
    (case c8 => k_is)
    (case k8 => k_is)
    (case a9 => k_is)
    (case l9 => k_is)
    (case c9 => k_is)
    (case k9 => k_is)
    (case a10 => k_is)
    (case l10 => k_is)
    (case c10 => k_is)
    (case k10 => k_is)
    (case a11 => k_is)
    (case l11 => k_is)
    (case c11 => k_is)
    (case k11 => k_is)
    (case a12 => k_is)
    (case l12 => k_is)
    (case c12 => k_is)
    (case k12 => k_is)
    (case z0 => k_is)
    (case z1 => k_is)
    (case z2 => k_is)
    (case z3 => k_is)
    (case z4 => k_is)
    (case z5 => k_is)
    (case z6 => k_is)
    (case z7 => k_is)
    (case z8 => k_is)
    (case z9 => k_is)
    (case z10 => k_is)
    (case z11 => k_is)
    (case z12 => k_is)
    (case z13 => k_is)
