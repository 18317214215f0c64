import PyProof.Rows.All
import Wide.All
import OpenK.AllK
import Wide.FinOn
import Lean
import PyProof.EqAt
import PyProof.EqKinds
import PyProof.TupleCall
import PyProof.ZipIter
import PyProof.EnumMake
import PyProof.EnumFor
import PySem.Challenge.RW_leftin_k03_whole_shortest
set_option Elab.async false
set_option linter.all false
set_option maxRecDepth 100000
/-! THE HAND LAYER, for ints, bools, texts, own classes, LISTS and tuples (index, slices, in, append, pop ..), calls, loops. Paste it whole ahead of your own text; what your proof does not reach may be deleted. -/
namespace L2
open PySem PySem.Spec PyProof.Rows

/-- a key: an int or a str -/
abbrev Key := Sum Int Str
def keyIs : Key → Value → Bool
  | .inl k, v => Value.isInt k v
  | .inr x, v => Value.isStrOf x v
def keyH (w : World) : Key → Int
  | .inl k => hashInt k
  | .inr x => hashStr w x
theorem keyIs_shape : ∀ {k : Key} {v : Value}, keyIs k v = true → (∃ i t, k = Sum.inl i ∧ v = Value.int i t) ∨ (∃ x t, k = Sum.inr x ∧ v = Value.str x t)
  | .inl i, v, h => by
    obtain ⟨t, e⟩ := Value.isInt_shape (k := i) (v := v) h
    exact .inl ⟨i, t, rfl, e⟩
  | .inr x, v, h => by
    obtain ⟨t, e⟩ := Value.isStrOf_shape (x := x) (v := v) h
    exact .inr ⟨x, t, rfl, e⟩
theorem keyIs_int (i : Int) (t : Tok) : keyIs (.inl i) (.int i t) = true := by simp [keyIs, Value.isInt]
theorem keyIs_str (x : Str) (t : Tok) : keyIs (.inr x) (.str x t) = true := by simp [keyIs, Value.isStrOf]
theorem key_ll (a b : Int) : decide ((Sum.inl a : Key) = Sum.inl b) = (a == b) := by
  by_cases e : a = b
  · subst e; simp
  · have h : ¬ (Sum.inl a : Key) = Sum.inl b := fun q => e (Sum.inl.inj q)
    rw [decide_eq_false h]
    exact (beq_eq_false_iff_ne.mpr e).symm
theorem key_rr (a b : Str) : decide ((Sum.inr a : Key) = Sum.inr b) = decide (a = b) := by
  by_cases e : a = b
  · subst e; simp
  · have h : ¬ (Sum.inr a : Key) = Sum.inr b := fun q => e (Sum.inr.inj q)
    rw [decide_eq_false h, decide_eq_false e]
theorem key_lr (a : Int) (b : Str) : decide ((Sum.inl a : Key) = Sum.inr b) = false := decide_eq_false (fun q => nomatch q)
theorem key_rl (a : Str) (b : Int) : decide ((Sum.inr a : Key) = Sum.inl b) = false := decide_eq_false (fun q => nomatch q)

def mixKind (prog : Program) (w : World) : PySem.KeyKind prog w Key where
  is := keyIs
  hash := keyH w
  inj := fun v a b ha hb => by
    rcases keyIs_shape ha with ⟨i, t, rfl, rfl⟩ | ⟨x, t, rfl, rfl⟩
    · rcases keyIs_shape hb with ⟨j, u, rfl, e⟩ | ⟨y, u, rfl, e⟩
      · injection e with e1 _; rw [e1]
      · exact nomatch e
    · rcases keyIs_shape hb with ⟨j, u, rfl, e⟩ | ⟨y, u, rfl, e⟩
      · exact nomatch e
      · injection e with e1 _; rw [e1]
  byValue := fun k v h => by
    rcases keyIs_shape h with ⟨i, t, rfl, rfl⟩ | ⟨x, t, rfl, rfl⟩ <;> rfl
  pyHash := fun hv h => by
    rcases keyIs_shape hv with ⟨i, t, rfl, rfl⟩ | ⟨x, t, rfl, rfl⟩
    · exact wpAny_pyHash_int h
    · exact wpAny_pyHash_str h
  eqBool := fun hu hv h => by
    rcases keyIs_shape hu with ⟨i, t, rfl, rfl⟩ | ⟨x, t, rfl, rfl⟩
    · rcases keyIs_shape hv with ⟨j, u, rfl, rfl⟩ | ⟨y, u, rfl, rfl⟩
      · rw [key_ll] at h; exact wpAny_eqBool_int h
      · rw [key_lr] at h; exact SeqAt.EqAt.int_str i t y u _ _ _ _ h
    · rcases keyIs_shape hv with ⟨j, u, rfl, rfl⟩ | ⟨y, u, rfl, rfl⟩
      · rw [key_rl] at h; exact SeqAt.EqAt.str_int x t j u _ _ _ _ h
      · rw [key_rr] at h; exact wpAny_eqBool_str h
  «strs» := fun k x t v h => by
    rcases keyIs_shape h with ⟨i, u, rfl, e⟩ | ⟨y, u, rfl, e⟩
    · exact nomatch e
    · injection e with e1 _
      subst e1
      cases v <;> rfl

theorem mixKind_is (prog : Program) (w : World) (k : Key) (v : Value) : (mixKind prog w).is k v = keyIs k v := rfl
theorem mixKind_int (prog : Program) (w : World) (i : Int) (t : Tok) : (mixKind prog w).is (.inl i) (.int i t) = true := keyIs_int i t
theorem mixKind_str (prog : Program) (w : World) (x : Str) (t : Tok) : (mixKind prog w).is (.inr x) (.str x t) = true := keyIs_str x t
end L2

namespace L2
open PySem PySem.Spec PyProof.Rows

/-- a value, without the heap -/
inductive V where
  | non | bl (b : Bool) | int (i : Int) | str (x : Str) | byt (b : Array UInt8) | flt (b : UInt64) | ref (a : Addr) | ty (n : String)
  deriving DecidableEq

def RelV : V → Value → Prop
  | .non, u => u = Value.none
  | .bl b, u => u = Value.bool b
  | .int i, u => ∃ t, u = Value.int i t
  | .str x, u => ∃ t, u = Value.str x t
  | .byt b, u => ∃ t, u = Value.bytes b t
  | .flt b, u => ∃ t, u = Value.float b t
  | .ref a, u => u = Value.ref a
  | .ty n, u => u = Value.type n

abbrev Vals : List V → List Value → Prop := Paired RelV
theorem Vals.length {xs : List V} {us : List Value} (r : Vals xs us) : xs.length = us.length := Paired.length r
theorem Vals.get : ∀ {xs : List V} {us : List Value} {i : Nat} {x : V}, Vals xs us → xs[i]? = some x → ∃ u, us[i]? = some u ∧ RelV x u
  | _, _, _, _, .nil, e => by simp at e
  | _, _, 0, _, .cons r _, e => by simp at e; subst e; exact ⟨_, rfl, r⟩
  | _, _, i + 1, x, .cons _ t, e => by
    obtain ⟨u, h1, h2⟩ := Vals.get (i := i) (x := x) t (by simpa using e)
    exact ⟨u, by simpa using h1, h2⟩
theorem Vals.set {x : V} {u : Value} (r : RelV x u) : ∀ {xs : List V} {us : List Value} (i : Nat), Vals xs us → Vals (xs.set i x) (us.set i u)
  | _, _, _, .nil => .nil
  | _, _, 0, .cons _ t => .cons r t
  | _, _, i + 1, .cons q t => .cons q (Vals.set r i t)
theorem Vals.append : ∀ {xs ys : List V} {us ws : List Value}, Vals xs us → Vals ys ws → Vals (xs ++ ys) (us ++ ws)
  | _, _, _, _, .nil, s => s
  | _, _, _, _, .cons r t, s => .cons r (Vals.append t s)
theorem Vals.take : ∀ {xs : List V} {us : List Value} (n : Nat), Vals xs us → Vals (xs.take n) (us.take n)
  | _, _, 0, _ => .nil
  | _, _, _ + 1, .nil => .nil
  | _, _, n + 1, .cons r t => .cons r (Vals.take n t)
theorem Vals.drop : ∀ {xs : List V} {us : List Value} (n : Nat), Vals xs us → Vals (xs.drop n) (us.drop n)
  | _, _, 0, r => r
  | _, _, _ + 1, .nil => .nil
  | _, _, n + 1, .cons _ t => Vals.drop n t
theorem Vals.none_of : ∀ {xs : List V} {us : List Value} {i : Nat}, Vals xs us → xs[i]? = none → us[i]? = none := fun {xs us i} r e => by
  have h1 := r.length
  have h2 : xs.length ≤ i := List.getElem?_eq_none_iff.mp e
  exact List.getElem?_eq_none_iff.mpr (by omega)

def RelO : Option V → Option Value → Prop
  | some v, some u => RelV v u
  | none, none => True
  | _, _ => False
def KV {κ : Type} : List (κ × V) → List (κ × Value) → Prop := Paired fun (p : κ × V) (q : κ × Value) => p.1 = q.1 ∧ RelV p.2 q.2

/-- a key of a dict (00_mix): an int or a text -/
def kV : Key → V
  | .inl i => .int i
  | .inr x => .str x

/-- what stands at a tracked address -/
inductive HO where
  /-- a list -/
  | lst (xs : List V)
  /-- a tuple (never changes) -/
  | tup (xs : List V)
  /-- a dict whose keys are ints and texts; one whose keys are tuples of ints and texts (the empty one is both) -/
  | dK (kvs : List (Key × V)) | dT (kvs : List (List Key × V))
  /-- a set of ints: its members, its size -/
  | set (S : Int → Bool) (n : Nat)
  /-- an instance of the class at C, its dict at dx, its attributes -/
  | ins (C dx : Addr) (fs : List (Str × V))
  /-- the dict of the instance at x -/
  | own (x : Addr)
  /-- the dict of an exception -/
  | xd (fs : List (Str × V))
  /-- a bound method, f of x -/
  | met (f x : Addr)
  /-- a range object lo, lo + 1, .. below hi -/
  | rng (lo hi : Int)
  /-- a thing that is known to the object (the script; a dict while a loop walks it): read, never written while it is so -/
  | frz (o : Obj) (u : HO)
  /-- a code object's table -/
  | tbl (ps : Array Value)
  /-- any other thing, by what is true of its one object (a def of one's own: SetO a S n := HO.ext fun h => ..) -/
  | ext (φ : Heap → Prop)

abbrev Hp := Addr → Option HO
def upd (H : Hp) (a : Addr) (o : HO) : Hp := fun b => if b = a then some o else H b
theorem upd_same {H : Hp} {a : Addr} {o : HO} : upd H a o a = some o := by unfold upd; rw [if_pos rfl]
theorem upd_ne {H : Hp} {a b : Addr} {o : HO} (h : b ≠ a) : upd H a o b = H b := by unfold upd; rw [if_neg h]
theorem upd_upd {H : Hp} {a : Addr} {o u : HO} : upd (upd H a o) a u = upd H a u := by
  funext b; unfold upd; split <;> rfl
/-- two objects of different content stand apart -/
theorem ne_of {H : Hp} {a b : Addr} {o u : HO} (h : H a = some o) (h' : H b = some u) (d : o ≠ u) : a ≠ b := by
  intro e; subst e; rw [h] at h'; exact d (Option.some.inj h')
theorem ne_of_none {H : Hp} {a b : Addr} {o : HO} (h : H a = some o) (h' : H b = none) : a ≠ b := by
  intro e; subst e; rw [h] at h'; cases h'

section
variable (P : Program) (w : World)
def ObjOk (H : Hp) (h : Heap) (a : Addr) : HO → Prop
  | .lst xs => xs.length ≤ sizeLine ∧ ∃ (its : List Value) (n : Nat), Vals xs its ∧ h.get? a = some { cls := .type "list", data := .seq its.toArray n }
  | .tup xs => xs.length ≤ sizeLine ∧ ∃ its : List Value, Vals xs its ∧ IsTup h a its.toArray
  | .dK kvs => kvs.length ≤ sizeLine ∧ (a == sysModules) = false ∧ ∃ vs, KV kvs vs ∧ h.DictOf (mixKind P w) a vs
  | .dT kvs => kvs.length ≤ sizeLine ∧ (a == sysModules) = false ∧ ∃ xs : List (List Key × Addr × Value),
      Paired (fun (p : List Key × V) (q : List Key × Addr × Value) => p.1 = q.1 ∧ H q.2.1 = some (.tup (p.1.map kV)) ∧ RelV p.2 q.2.2) kvs xs ∧
      ∃ o es ep, h.get? a = some o ∧ o.ExactDict ∧ o.data = .dict es ep ∧ es.toList = xs.map (entryOfKey (tupleKind (mixKind P w))) ∧ (xs.map (·.1)).Nodup
  | .set S n => h.SetOf (intKind P w) a S n
  | .ins C dx fs => H dx = some (.own a) ∧ fs.length ≤ 1000 ∧ dx ≠ a ∧ h.get? a = some (PySem.W.instObj C dx) ∧
      ∃ mA, h.Ns1 dx mA ∧ (∀ f, RelO (fs.lookup f) (mA f)) ∧ PySem.Within mA (fs.map (·.1))
  | .own _ => ∃ o, h.get? a = some o
  | .xd fs => ∃ mA, h.Ns1 a mA ∧ ∀ f, RelO (fs.lookup f) (mA f)
  | .rng lo hi => ∃ t u v, h.get? a = some { cls := .type "range", data := .fields #[.int lo t, .int hi u, .int 1 v] }
  | .frz o u => h.get? a = some o ∧ ObjOk H h a u
  | .tbl ps => h.get? a = some { cls := .none, data := .fields ps }
  | .met f x => h.get? a = some (PySem.W.methodObj (.ref f) (.ref x))
  | .ext φ => φ h ∧ (∃ o, h.get? a = some o) ∧ ∀ h1 h2 : Heap, φ h1 → (∀ o, h1.get? a = some o → h2.get? a = some o) → φ h2
/-- the abstract heap is held -/
def HOk (H : Hp) (h : Heap) : Prop := ∀ a o, H a = some o → ObjOk P w H h a o
end

section
variable {P : Program} {w : World} {H H' : Hp} {h h' : Heap} {a : Addr} {o : HO}
theorem ObjOk.lt (x : ObjOk P w H h a o) : a < h.objs.size := by
  cases o with
  | lst xs => obtain ⟨_, _, _, _, e⟩ := x; exact Heap.lt_size e
  | tup xs => obtain ⟨_, _, _, p⟩ := x; exact p.lt
  | dK kvs => obtain ⟨_, _, _, _, o, _, _, e, _⟩ := x; exact Heap.lt_size e
  | dT kvs => obtain ⟨_, _, _, _, o, _, _, e, _⟩ := x; exact Heap.lt_size e
  | set S n => obtain ⟨o, _, _, _, e, _⟩ := x; exact Heap.lt_size e
  | ins C dx fs => obtain ⟨_, _, _, e, _⟩ := x; exact Heap.lt_size e
  | own y => obtain ⟨_, e⟩ := x; exact Heap.lt_size e
  | xd fs => obtain ⟨_, ⟨_, _, _, e, _⟩, _⟩ := x; exact Heap.lt_size e
  | rng lo hi => obtain ⟨_, _, _, e⟩ := x; exact Heap.lt_size e
  | frz ob u => obtain ⟨e, _⟩ := x; exact Heap.lt_size e
  | tbl ps => exact Heap.lt_size (show h.get? a = some _ from x)
  | met f y => exact Heap.lt_size (show h.get? a = some _ from x)
  | ext φ => obtain ⟨_, ⟨_, e⟩, _⟩ := x; exact Heap.lt_size e
theorem Paired.mapP {α β : Type} {F G : α → β → Prop} : ∀ {l₁ : List α} {l₂ : List β}, Paired F l₁ l₂ → (∀ a b, F a b → G a b) → Paired G l₁ l₂
  | _, _, .nil, _ => .nil
  | _, _, .cons r t, f => .cons (f _ _ r) (Paired.mapP t f)
theorem Paired.imp' {α β : Type} {F G : α → β → Prop} (f : ∀ a b, F a b → G a b) {l₁ : List α} {l₂ : List β} (r : Paired F l₁ l₂) : Paired G l₁ l₂ := Paired.mapP r f
/-- what an object's description leans on: its own object, its own dict, the tuples -/
theorem ObjOk.stay (x : ObjOk P w H h a o) (k : ∀ b u, (b = a ∨ H b = some (.own a)) → h.get? b = some u → h'.get? b = some u)
    (ho : ∀ b, H b = some (.own a) → H' b = some (.own a)) (ht : ∀ b xs, H b = some (.tup xs) → H' b = some (.tup xs)) : ObjOk P w H' h' a o := by
  induction o with
  | lst xs => obtain ⟨z, its, n, r, e⟩ := x; exact ⟨z, its, n, r, k _ _ (.inl rfl) e⟩
  | tup xs => obtain ⟨z, its, r, ob, e, c⟩ := x; exact ⟨z, its, r, ob, k _ _ (.inl rfl) e, c⟩
  | dK kvs => obtain ⟨z, y, vs, r, ob, es, ep, e, c⟩ := x; exact ⟨z, y, vs, r, ob, es, ep, k _ _ (.inl rfl) e, c⟩
  | dT kvs =>
    obtain ⟨z, y, xs, r, ob, es, ep, e, c⟩ := x
    exact ⟨z, y, xs, Paired.mapP r fun p q z => ⟨z.1, ht _ _ z.2.1, z.2.2⟩, ob, es, ep, k _ _ (.inl rfl) e, c⟩
  | set S n => obtain ⟨ob, es, ep, t, e, c⟩ := x; exact ⟨ob, es, ep, t, k _ _ (.inl rfl) e, c⟩
  | ins C dx fs =>
    obtain ⟨d, z, ne, e, mA, ⟨od, es, ep, e2, c⟩, r⟩ := x
    exact ⟨ho _ d, z, ne, k _ _ (.inl rfl) e, mA, ⟨od, es, ep, k _ _ (.inr d) e2, c⟩, r⟩
  | own y => obtain ⟨ob, e⟩ := x; exact ⟨ob, k _ _ (.inl rfl) e⟩
  | xd fs => obtain ⟨mA, ⟨od, es, ep, e, c⟩, r⟩ := x; exact ⟨mA, ⟨od, es, ep, k _ _ (.inl rfl) e, c⟩, r⟩
  | rng lo hi => obtain ⟨t, u, v, e⟩ := x; exact ⟨t, u, v, k _ _ (.inl rfl) e⟩
  | frz ob u ih => obtain ⟨e, q⟩ := x; exact ⟨k _ _ (.inl rfl) e, ih q⟩
  | tbl ps =>
    have e : h.get? a = some { cls := .none, data := .fields ps } := x
    show h'.get? a = some { cls := .none, data := .fields ps }
    exact k a _ (.inl rfl) e
  | met f y =>
    have e : h.get? a = some (PySem.W.methodObj (.ref f) (.ref y)) := x
    show h'.get? a = some (PySem.W.methodObj (.ref f) (.ref y))
    exact k a _ (.inl rfl) e
  | ext φ => obtain ⟨p, ⟨o, e⟩, st⟩ := x; exact ⟨st _ _ p fun o q => k _ _ (.inl rfl) q, ⟨o, k _ _ (.inl rfl) e⟩, st⟩
theorem HOk.lt (x : HOk P w H h) (e : H a = some o) : a < h.objs.size := (x a o e).lt
theorem HOk.fresh (x : HOk P w H h) (e : h.objs.size ≤ a) : H a = none := by
  cases q : H a with
  | none => rfl
  | some u => exact absurd (Nat.lt_of_lt_of_le (x.lt q) e) (Nat.lt_irrefl _)
/-- every object of the heap is kept -/
theorem HOk.kept (x : HOk P w H h) (k : ∀ b u, h.get? b = some u → h'.get? b = some u) : HOk P w H h' := fun a o e =>
  (x a o e).stay (fun b u _ q => k b u q) (fun _ q => q) fun _ _ q => q
/-- a new object is laid and tracked -/
theorem HOk.laid (x : HOk P w H h) (k : ∀ b u, h.get? b = some u → h'.get? b = some u) (hp : h.objs.size ≤ a) (new : ObjOk P w (upd H a o) h' a o) : HOk P w (upd H a o) h' := fun b u e => by
  have hn := x.fresh hp
  by_cases hb : b = a
  · subst hb; rw [upd_same] at e; cases e; exact new
  · rw [upd_ne hb] at e
    exact (x b u e).stay (fun c v _ q => k c v q) (fun c q => by rw [upd_ne (ne_of_none q hn)]; exact q) fun c xs q => by rw [upd_ne (ne_of_none q hn)]; exact q
end

/-- what may be read as u: it is u, or a known u -/
def Rd (H : Hp) (a : Addr) (u : HO) : Prop := H a = some u ∨ ∃ o, H a = some (.frz o u)
theorem Rd.of {H : Hp} {a : Addr} {u : HO} (h : H a = some u) : Rd H a u := .inl h
theorem Rd.ok {P : Program} {w : World} {H : Hp} {h : Heap} {a : Addr} {u : HO} (r : Rd H a u) (x : HOk P w H h) : ObjOk P w H h a u := by
  rcases r with r | ⟨o, r⟩
  · exact x a u r
  · obtain ⟨_, q⟩ := x a _ r
    exact q
/-- what may be written -/
def Mut : Option HO → Prop
  | some (.lst _) => True
  | some (.dK _) => True
  | some (.dT _) => True
  | some (.set _ _) => True
  | some (.ins _ _ _) => True
  | some (.ext _) => True
  | _ => False
section
variable {P : Program} {w : World} {H : Hp} {h h' : Heap} {x e : Addr} {o' : HO}
/-- the object at e is changed: x itself, or the dict of the instance x -/
theorem HOk.write (ok : HOk P w H h) (mu : Mut (H x)) (he : e = x ∨ H e = some (.own x)) (k : ∀ b u, b ≠ e → h.get? b = some u → h'.get? b = some u) (heo : ∃ u, h'.get? e = some u)
    (new : ObjOk P w (upd H x o') h' x o') : HOk P w (upd H x o') h' := fun b u q => by
  have nown : ∀ c y, H c = some (.own y) → c ≠ x := fun c y r z => by subst z; rw [r] at mu; exact mu
  have ntup : ∀ c xs, H c = some (.tup xs) → c ≠ x := fun c xs r z => by subst z; rw [r] at mu; exact mu
  by_cases hb : b = x
  · subst hb; rw [upd_same] at q; cases q; exact new
  · rw [upd_ne hb] at q
    by_cases hbe : b = e
    · have q' : H b = some (.own x) := by
        rcases he with z | z
        · exact absurd (hbe.trans z) hb
        · rw [hbe]; exact z
      rw [q] at q'; cases q'
      obtain ⟨v, hv⟩ := heo
      exact ⟨v, by rw [hbe]; exact hv⟩
    · refine (ok b u q).stay (fun c v hc r => k c v ?_ r) (fun c r => by rw [upd_ne (nown c b r)]; exact r) fun c xs r => by rw [upd_ne (ntup c xs r)]; exact r
      rcases hc with rfl | hc
      · exact hbe
      · rintro rfl
        rcases he with z | z
        · exact nown c b hc z
        · rw [hc] at z; cases z; exact hb rfl
end

/-! ### kept unless tracked; of the frames at fs (the callers') the slots may change (an exception that passes writes there); of the records at ex (iterators) nothing is said -/
structure Un (fs ex : List Addr) (H H' : Hp) (h h' : Heap) : Prop where
  keep : ∀ b o, h.get? b = some o → H b = none → b ∉ fs → b ∉ ex → h'.get? b = some o
  slot : ∀ b o, h.get? b = some o → H b = none → b ∈ fs → b ∉ ex → ∃ sl, h'.get? b = some { o with slots := sl }
  free : ∀ b o, h.get? b = some o → H b = none → b ∉ ex → H' b = none
  there : ∀ b o, h.get? b = some o → b ∉ ex → ∃ o', h'.get? b = some o'
  tups : ∀ b xs, H b = some (.tup xs) → H' b = some (.tup xs)
  frzs : ∀ b o u, H b = some (.frz o u) → H' b = some (.frz o u)
  tbls : ∀ b ps, H b = some (.tbl ps) → ∃ more, H' b = some (.tbl (ps ++ more))
section
variable {fs fs' ex ex' : List Addr} {H H1 H2 : Hp} {h h1 h2 h' : Heap} {a x e : Addr} {o : HO}
theorem Un.any (u : Un fs ex H H1 h h1) {b : Addr} {ob : Obj} (q : h.get? b = some ob) (n : H b = none) (hx : b ∉ ex) : ∃ sl, h1.get? b = some { ob with slots := sl } := by
  by_cases hb : b ∈ fs
  · exact u.slot b ob q n hb hx
  · exact ⟨ob.slots, u.keep b ob q n hb hx⟩
theorem Un.trans (a : Un fs ex H H1 h h1) (b : Un fs ex H1 H2 h1 h2) : Un fs ex H H2 h h2 where
  keep := fun c ob q n hc hx => b.keep c ob (a.keep c ob q n hc hx) (a.free c ob q n hx) hc hx
  slot := fun c ob q n hc hx => by
    obtain ⟨sl, e1⟩ := a.slot c ob q n hc hx
    obtain ⟨sl', e2⟩ := b.slot c _ e1 (a.free c ob q n hx) hc hx
    exact ⟨sl', e2⟩
  free := fun c ob q n hx => by
    obtain ⟨o', e1⟩ := a.there c ob q hx
    exact b.free c o' e1 (a.free c ob q n hx) hx
  there := fun c ob q hx => by
    obtain ⟨o', e1⟩ := a.there c ob q hx
    exact b.there c o' e1 hx
  tups := fun c xs q => b.tups c xs (a.tups c xs q)
  frzs := fun c ob xs q => b.frzs c ob xs (a.frzs c ob xs q)
  tbls := fun c ps q => by
    obtain ⟨m1, e1⟩ := a.tbls c ps q
    obtain ⟨m2, e2⟩ := b.tbls c _ e1
    exact ⟨m1 ++ m2, by rw [e2, Array.append_assoc]⟩
theorem Un.kept (k : ∀ b u, h.get? b = some u → h'.get? b = some u) : Un fs ex H H h h' :=
  ⟨fun b ob q _ _ _ => k b ob q, fun b ob q _ _ _ => ⟨ob.slots, k b ob q⟩, fun _ _ _ n _ => n, fun b ob q _ => ⟨ob, k b ob q⟩, fun _ _ q => q, fun _ _ _ q => q, fun _ ps q => ⟨#[], by rw [q]; simp⟩⟩
theorem Un.refl : Un fs ex H H h h := Un.kept fun _ _ q => q
theorem Un.laid (k : ∀ b u, h.get? b = some u → h'.get? b = some u) (hp : h.objs.size ≤ a) (hn : H a = none) : Un fs ex H (upd H a o) h h' where
  keep := fun b u q _ _ _ => k b u q
  slot := fun b u q _ _ _ => ⟨u.slots, k b u q⟩
  free := fun b u q n _ => by rw [upd_ne (Nat.ne_of_lt (Nat.lt_of_lt_of_le (Heap.lt_size q) hp))]; exact n
  there := fun b u q _ => ⟨u, k b u q⟩
  tups := fun b xs q => by rw [upd_ne (ne_of_none q hn)]; exact q
  frzs := fun b u xs q => by rw [upd_ne (ne_of_none q hn)]; exact q
  tbls := fun b ps q => ⟨#[], by rw [upd_ne (ne_of_none q hn), q]; simp⟩
theorem Un.write (mu : Mut (H x)) (he : e = x ∨ H e = some (.own x)) (k : ∀ b u, b ≠ e → h.get? b = some u → h'.get? b = some u) (heo : ∃ u, h'.get? e = some u) : Un fs ex H (upd H x o) h h' := by
  have hx : ∀ b, H b = none → b ≠ x := fun b n z => by subst z; rw [n] at mu; exact mu
  have hb : ∀ b, H b = none → b ≠ e := fun b n z => by
    subst z
    rcases he with r | r
    · exact hx b n r
    · rw [n] at r; cases r
  have hm : ∀ b u, H b = some u → ¬ Mut (some u) → b ≠ x := fun b u q nm z => by subst z; rw [q] at mu; exact nm mu
  refine ⟨fun b u q n _ _ => k b u (hb b n) q, fun b u q n _ _ => ⟨u.slots, k b u (hb b n) q⟩, fun b u q n _ => by rw [upd_ne (hx b n)]; exact n, fun b u q _ => ?_,
    fun b xs q => by rw [upd_ne (hm b _ q fun z => z)]; exact q, fun b u xs q => by rw [upd_ne (hm b _ q fun z => z)]; exact q, fun b ps q => ⟨#[], by rw [upd_ne (hm b _ q fun z => z), q]; simp⟩⟩
  by_cases hbe : b = e
  · subst hbe; exact heo
  · exact ⟨u, k b u hbe q⟩
theorem Un.mono (u : Un fs ex H H1 h h1) (hs : ∀ b ∈ fs, b ∈ fs') (hx : ∀ b ∈ ex, b ∈ ex') : Un fs' ex' H H1 h h1 :=
  ⟨fun b ob q n hb he => u.keep b ob q n (fun z => hb (hs b z)) fun z => he (hx b z), fun _ _ q n _ he => u.any q n fun z => he (hx _ z), fun b ob q n he => u.free b ob q n fun z => he (hx b z), fun b ob q he => u.there b ob q fun z => he (hx b z), u.tups, u.frzs, u.tbls⟩
end

/-! ### the heap without what is tracked -/
def trk (h : Heap) (H : Hp) : List Addr := (List.range h.objs.size).filter fun a => (H a).isSome
def hidT (h : Heap) (H : Hp) : Heap := PySem.W.hideAll h (trk h H)
theorem hidT_size (h : Heap) (H : Hp) : (hidT h H).objs.size = h.objs.size := PySem.W.hideAll_size _ _
theorem hidT_get {h : Heap} {H : Hp} {b : Addr} {o : Obj} (e : h.get? b = some o) (n : H b = none) : (hidT h H).get? b = some o :=
  PySem.W.hideAll_get _ e fun hm => by
    have q : (H b).isSome = true := (List.mem_filter.mp hm).2
    rw [n] at q; simp at q
theorem of_hidT {h : Heap} {H : Hp} {b : Addr} {o : Obj} (e : (hidT h H).get? b = some o) : h.get? b = some o ∧ H b = none := by
  have e' : h.get? b = some o := PySem.W.of_hideAll (trk h H) e
  refine ⟨e', ?_⟩
  cases q : H b with
  | none => rfl
  | some x =>
    have hm : b ∈ trk h H := List.mem_filter.mpr ⟨List.mem_range.mpr (Heap.lt_size e'), by simp [q]⟩
    have z : (hidT h H).get? b = none := PySem.W.hideAll_none (trk h H) hm
    rw [z] at e; cases e

/-! ### OpenK's ledger, filled with every new object but one -/
def allNews (g h : Heap) (L : Addr) : List (Addr × Obj) := (List.range h.objs.size).filterMap fun a => if a = L ∨ (g.get? a).isSome = true then none else (h.get? a).map fun o => (a, o)
theorem mem_allNews {g h : Heap} {L a : Addr} {o : Obj} (h1 : a ≠ L) (h2 : g.get? a = none) (h3 : h.get? a = some o) : (a, o) ∈ allNews g h L :=
  List.mem_filterMap.mpr ⟨a, List.mem_range.mpr (Heap.lt_size h3), by simp [h1, h2, h3]⟩
theorem of_mem_allNews {g h : Heap} {L : Addr} {p : Addr × Obj} (hp : p ∈ allNews g h L) : p.1 ≠ L ∧ g.get? p.1 = none ∧ h.get? p.1 = some p.2 := by
  obtain ⟨b, _, e⟩ := List.mem_filterMap.mp hp
  split at e
  · cases e
  · rename_i hn
    cases q : h.get? b with
    | none => rw [q] at e; simp at e
    | some u =>
      rw [q] at e
      simp only [Option.map_some, Option.some.injEq] at e
      subst e
      refine ⟨fun z => hn (.inl z), ?_, q⟩
      show g.get? b = none
      cases r : g.get? b with
      | none => rfl
      | some v => exact (hn (.inr (by simp [r]))).elim
def rest (g h : Heap) (L d : Addr) : List (Addr × Obj) := (allNews g h L).filter fun p => decide (p.1 ≠ d)
theorem rest_ne {g h : Heap} {L d : Addr} : ∀ p ∈ rest g h L d, p.1 ≠ d := fun p hp => of_decide_eq_true (List.mem_filter.mp hp).2
theorem mem_rest {g h : Heap} {L d a : Addr} {o : Obj} (h1 : a ≠ L) (h2 : g.get? a = none) (h3 : h.get? a = some o) (h4 : a ≠ d) : (a, o) ∈ rest g h L d :=
  List.mem_filter.mpr ⟨mem_allNews h1 h2 h3, decide_eq_true h4⟩
theorem news_all {g h : Heap} {L : Addr} : News g L h (allNews g h L) := fun p hp => let ⟨a, b, c⟩ := of_mem_allNews hp; ⟨c, a, b⟩
theorem news_at {g h : Heap} {L d : Addr} {o : Obj} (h1 : d ≠ L) (h2 : g.get? d = none) (h3 : h.get? d = some o) : News g L h ((d, o) :: rest g h L d) := fun p hp => by
  rcases List.mem_cons.mp hp with rfl | hp
  · exact ⟨h3, h1, h2⟩
  · exact news_all p (List.mem_filter.mp hp).1
/-- behind a rule that changed d alone: all else but the frame is kept -/
theorem kept_of_news {g h h' : Heap} {L d : Addr} {m : Str → Option Value} (k : ∀ b o, g.get? b = some o → h.get? b = some o) (F : Fr g L h' m) (N : News g L h' (rest g h L d)) :
    ∀ b o, b ≠ L → b ≠ d → h.get? b = some o → h'.get? b = some o := fun b o h1 h2 e => by
  cases q : g.get? b with
  | some u =>
    have := k b u q
    rw [e] at this; cases this
    exact F.keep b _ q
  | none => exact (N (b, o) (mem_rest h1 q e h2)).1
end L2

namespace L2
open PySem PySem.Spec PyProof.Rows

/-- the module's facts, over the base: the heap at the law's entry without what is tracked there -/
structure Mod (K : PySem.W.Frag) (mg : Str → Option Value) (base : Heap) : Prop where
  kin : K.In base
  glob : base.Ns mainGlobals mg
  blt : ∃ mb, base.Ns builtinsNs mb ∧ ∀ x : Str, x ≠ "__name__" → mb x = bootBuiltins x
  nolimit : base.NoLimit

/-- the context: a def's body (or a comprehension's block) running. base: fixed through the whole law; s₀, H₀: the entry; outer: the frames whose slots others may change (a def's callers); stack: all frames that run;
   ex: iterators that were made ahead of the entry and are walked here (a comprehension's); fn: the names whose cells were made at the entry (a def: all; a comprehension's block: its own); calm: not within an except suite; pn: pins that every state bears; xe: what is wanted of an exception that leaves the code -/
structure Cx where
  prog : Program
  w : World
  K : PySem.W.Frag
  mg : Str → Option Value
  base : Heap
  A : Around
  N : List Str
  s₀ : Shared
  H₀ : Hp
  env : Env
  outer : List Env
  stack : List Env
  ex : List Addr
  fn : Str → Bool
  calm : Bool
  pn : List (Addr × Obj)
  xe : Value → Shared → Prop
/-- the callers' frames -/
def frs (l : List Env) : List Addr := l.filterMap (·.frame)
abbrev Cx.fs (X : Cx) : List Addr := frs X.outer

def Vis (sc : Scope) (x : Str) : Prop := sc.names.lookup x = some .local ∨ sc.names.lookup x = some .cell ∨ sc.names.lookup x = some .free
def Loc (sc : Scope) (x : Str) : Prop := sc.names.lookup x = some .local ∨ sc.names.lookup x = some .cell
def Look (env : Env) (h : Heap) (m : Str → Option Value) (x : Str) (u : Value) : Prop :=
  (env.kindOf x = some .local ∧ m x = some u) ∨ ((env.kindOf x = some .cell ∨ env.kindOf x = some .free) ∧ ∃ c, env.cells.lookup x = some c ∧ h.IsCell c (some u))

structure Cx.Ok (X : Cx) : Prop where
  mod : Mod X.K X.mg X.base
  kind : X.env.scope.kind = .function
  glob : X.env.globals = mainGlobals
  blt : X.env.builtins = builtinsNs
  above : X.s₀.heap.objs.size ≤ X.env.locals
  inj : ∀ x y c, X.env.cells.lookup x = some c → X.env.cells.lookup y = some c → x = y
  has : ∀ x, (X.env.kindOf x = some .cell ∨ X.env.kindOf x = some .free) → ∃ c, X.env.cells.lookup x = some c
  cab : ∀ x c, X.fn x = true → X.env.cells.lookup x = some c → X.s₀.heap.objs.size ≤ c
  hd : X.calm = true → X.A.handled = none
  frames : X.A.frames = some X.stack
  stk : X.stack = X.outer ∨ (X.stack = X.env :: X.outer ∧ X.env.frame = some X.env.locals)
  exf : ∀ b ∈ X.ex, b ≠ X.env.locals ∧ ∀ x c, X.env.cells.lookup x = some c → c ≠ b
  bs : ∀ b o, X.base.get? b = some o → X.s₀.heap.get? b = some o ∧ X.H₀ b = none
  bsz : X.base.objs.size ≤ X.s₀.heap.objs.size
  noex : ∀ b o, X.base.get? b = some o → b ∉ X.ex
  exfs : ∀ b ∈ X.ex, b ∉ X.fs
  funs : X.s₀.heap.FunFrames X.base X.outer
  frf : ∀ b ∈ X.fs, X.H₀ b = none

structure Inv (X : Cx) (pins : List (Addr × Obj)) (σ : List (Option V)) (H : Hp) (s : Shared) : Prop where
  ok : X.Ok
  os : s.os = X.s₀.os
  bare : AllBare s.gens
  base : Un X.fs X.ex X.H₀ H X.s₀.heap s.heap
  loc : ∃ m, s.heap.Ns X.env.locals m ∧ ∀ (i : Nat) (x : Str) (v : V), X.N[i]? = some x → σ[i]? = some (some v) → Vis X.env.scope x → ∃ u, RelV v u ∧ Look X.env s.heap m x u
  cell : ∀ x c, X.env.cells.lookup x = some c → ∃ v, s.heap.IsCell c v
  free : H X.env.locals = none
  freeC : ∀ x c, X.env.cells.lookup x = some c → H c = none
  pin : ∀ p ∈ X.pn ++ pins, s.heap.get? p.1 = some p.2 ∧ H p.1 = none ∧ p.1 ≠ X.env.locals ∧ p.1 ∉ X.fs ∧ ∀ v, p.2.data ≠ .cell v
  hok : HOk X.prog X.w H s.heap
  len : σ.length = X.N.length

section
variable {X : Cx} {pins : List (Addr × Obj)} {σ : List (Option V)} {H H' : Hp} {s : Shared} {h' : Heap}

theorem Cx.Ok.nofr (ok : X.Ok) {b : Addr} {o : Obj} (e : X.base.get? b = some o) : b ∉ X.fs := fun hb => by
  have := (ok.funs.mem hb).1
  rw [e] at this; cases this
theorem Inv.bs (I : Inv X pins σ H s) : ∀ b o, X.base.get? b = some o → s.heap.get? b = some o ∧ H b = none := fun b o e =>
  ⟨I.base.keep b o (I.ok.bs b o e).1 (I.ok.bs b o e).2 (I.ok.nofr e) (I.ok.noex b o e), I.base.free b o (I.ok.bs b o e).1 (I.ok.bs b o e).2 (I.ok.noex b o e)⟩
theorem Inv.bk (I : Inv X pins σ H s) : ∀ b o, X.base.get? b = some o → s.heap.get? b = some o := fun b o e => (I.bs b o e).1
theorem Inv.mod (I : Inv X pins σ H s) : Mod X.K X.mg X.base := I.ok.mod
theorem Inv.kIn (I : Inv X pins σ H s) : X.K.In s.heap := I.ok.mod.kin.keeps I.bk
theorem Inv.nolimit (I : Inv X pins σ H s) : s.heap.NoLimit := I.ok.mod.nolimit.keeps I.bk
/-- the frame over the base: for OpenK's rules (K.In X.base is I.mod.kin) -/
theorem Inv.fr (I : Inv X pins σ H s) : ∃ m, Fr X.base X.env.locals s.heap m :=
  let ⟨m, hn, _⟩ := I.loc
  ⟨m, hn, I.bk, Nat.le_trans I.ok.bsz I.ok.above⟩
theorem Inv.lt (I : Inv X pins σ H s) : X.env.locals < s.heap.objs.size := let ⟨_, hn, _⟩ := I.loc; hn.lt
theorem Inv.sz (I : Inv X pins σ H s) : X.s₀.heap.objs.size ≤ s.heap.objs.size := Nat.le_trans I.ok.above (Nat.le_of_lt I.lt)
theorem Inv.nofs (I : Inv X pins σ H s) {a : Addr} (h : s.heap.objs.size ≤ a) : a ∉ X.fs := fun hb => by
  obtain ⟨_, o, ho, _⟩ := I.ok.funs.mem hb
  exact absurd (Nat.lt_of_lt_of_le (Heap.lt_size ho) (Nat.le_trans I.sz h)) (Nat.lt_irrefl _)
theorem Inv.cne (I : Inv X pins σ H s) : ∀ x c, X.env.cells.lookup x = some c → c ≠ X.env.locals := fun x c e z => by
  obtain ⟨v, o, ho, hd⟩ := I.cell x c e
  obtain ⟨m, ⟨o', es, ep, ho', hd', _⟩, _⟩ := I.loc
  rw [z, ho'] at ho; cases ho; rw [hd'] at hd; cases hd
theorem Inv.funs (I : Inv X pins σ H s) : s.heap.FunFrames X.base X.outer := by
  have all : ∀ (l : List Env), (∀ b ∈ frs l, b ∈ X.fs) → X.s₀.heap.FunFrames X.base l → s.heap.FunFrames X.base l := by
    intro l
    induction l with
    | nil => intro _ _; trivial
    | cons env r ih =>
      intro hs hl
      obtain ⟨hk, ⟨L, o, hf, hn, ho, hd⟩, hr⟩ := hl
      have hL : L ∈ X.fs := hs L (by unfold frs; rw [List.filterMap_cons, hf]; exact List.mem_cons_self)
      obtain ⟨sl, e⟩ := I.base.slot L o ho (I.ok.frf L hL) hL fun z => I.ok.exfs L z hL
      exact ⟨hk, ⟨L, _, hf, hn, e, hd⟩, ih (fun b hb => hs b (by unfold frs; rw [List.filterMap_cons, hf]; exact List.mem_cons_of_mem _ hb)) hr⟩
  exact all X.outer (fun _ hb => hb) I.ok.funs

/-- the frames that run, for a call -/
theorem Inv.stack (I : Inv X pins σ H s) : s.heap.FunFrames X.base X.stack := by
  rcases I.ok.stk with e | ⟨e, hf⟩
  · rw [e]; exact I.funs
  · rw [e]
    obtain ⟨m, hn, _⟩ := I.loc
    refine .cons (by rw [I.ok.kind]; decide) hf hn ?_ I.funs
    exact Heap.get?_none_of_le (Nat.le_trans I.ok.bsz I.ok.above)
theorem Inv.stkSub (I : Inv X pins σ H s) : ∀ b ∈ frs X.stack, b ∈ X.env.locals :: X.fs := fun b hb => by
  rcases I.ok.stk with e | ⟨e, hf⟩
  · rw [e] at hb; exact List.mem_cons_of_mem _ hb
  · rw [e] at hb
    unfold frs at hb
    rw [List.filterMap_cons, hf] at hb
    exact hb
theorem Inv.stkFree (I : Inv X pins σ H s) : ∀ b ∈ frs X.stack, H b = none := fun b hb => by
  rcases List.mem_cons.mp (I.stkSub b hb) with e | hb
  · rw [e]; exact I.free
  · obtain ⟨_, o, ho, _⟩ := I.ok.funs.mem hb
    exact I.base.free b o ho (I.ok.frf b hb) fun z => I.ok.exfs b z hb

/-- THE STEP: the untracked objects but the frame and the records at ch are kept (the callers' frames up to slots), the frame's map is kept, the new abstract heap is held -/
theorem Inv.step {g' : Array GenState} {t' : Nat} {d' : Drawn} {ch : List Addr} (I : Inv X pins σ H s)
    (hch : ∀ b ∈ ch, (b ∈ X.ex ∨ X.s₀.heap.objs.size ≤ b) ∧ b ≠ X.env.locals ∧ (∀ x c, X.env.cells.lookup x = some c → c ≠ b) ∧ ∀ p ∈ X.pn ++ pins, p.1 ≠ b)
    (keep : ∀ b o, b ≠ X.env.locals → b ∉ X.fs → b ∉ ch → s.heap.get? b = some o → H b = none → h'.get? b = some o)
    (slot : ∀ b o, b ≠ X.env.locals → b ∈ X.fs → b ∉ ch → s.heap.get? b = some o → H b = none → ∃ sl, h'.get? b = some { o with slots := sl }) (free : ∀ b o, b ∉ ch → s.heap.get? b = some o → H b = none → H' b = none)
    (there : ∀ b o, b ∉ ch → s.heap.get? b = some o → ∃ o', h'.get? b = some o')
    (tups : ∀ b xs, H b = some (.tup xs) → H' b = some (.tup xs)) (frzs : ∀ b o u, H b = some (.frz o u) → H' b = some (.frz o u)) (tbls : ∀ b ps, H b = some (.tbl ps) → ∃ more, H' b = some (.tbl (ps ++ more)))
    (ns : ∀ m, s.heap.Ns X.env.locals m → h'.Ns X.env.locals m) (hok : HOk X.prog X.w H' h') (hg : AllBare g') :
    Inv X pins σ H' { s with heap := h', gens := g', drawn := d', toks := t' } := by
  have neL : ∀ b o, X.s₀.heap.get? b = some o → b ≠ X.env.locals := fun b o e => Nat.ne_of_lt (Nat.lt_of_lt_of_le (Heap.lt_size e) I.ok.above)
  have neC : ∀ b o, X.s₀.heap.get? b = some o → b ∉ X.ex → b ∉ ch := fun b o e hx hb => by
    rcases (hch b hb).1 with z | z
    · exact hx z
    · exact absurd (Nat.lt_of_lt_of_le (Heap.lt_size e) z) (Nat.lt_irrefl _)
  have cellK : ∀ x c, X.env.cells.lookup x = some c → ∀ v, s.heap.IsCell c v → h'.IsCell c v := fun x c e v ⟨o, ho, hd⟩ => by
    have nch : c ∉ ch := fun z => (hch c z).2.2.1 x c e rfl
    by_cases hc : c ∈ X.fs
    · obtain ⟨sl, q⟩ := slot c o (I.cne x c e) hc nch ho (I.freeC x c e)
      exact ⟨_, q, hd⟩
    · exact ⟨o, keep c o (I.cne x c e) hc nch ho (I.freeC x c e), hd⟩
  refine ⟨I.ok, I.os, hg, ⟨fun b o e n hb hx => ?_, fun b o e n hb hx => ?_, fun b o e n hx => ?_, fun b o e hx => ?_, fun b xs e => tups b xs (I.base.tups b xs e), fun b o xs e => frzs b o xs (I.base.frzs b o xs e), fun b ps e => ?_⟩, ?_, fun x c e => ?_, ?_, fun x c e => ?_, fun p hp => ?_, hok, I.len⟩
  · exact keep b o (neL b o e) hb (neC b o e hx) (I.base.keep b o e n hb hx) (I.base.free b o e n hx)
  · obtain ⟨sl, e1⟩ := I.base.slot b o e n hb hx
    obtain ⟨sl', e2⟩ := slot b _ (neL b o e) hb (neC b o e hx) e1 (I.base.free b o e n hx)
    exact ⟨sl', e2⟩
  · obtain ⟨o', e1⟩ := I.base.there b o e hx
    exact free b o' (neC b o e hx) e1 (I.base.free b o e n hx)
  · obtain ⟨o', e1⟩ := I.base.there b o e hx
    exact there b o' (neC b o e hx) e1
  · obtain ⟨m1, e1⟩ := I.base.tbls b ps e
    obtain ⟨m2, e2⟩ := tbls b _ e1
    exact ⟨m1 ++ m2, by rw [e2, Array.append_assoc]⟩
  · obtain ⟨m, hn, hl⟩ := I.loc
    refine ⟨m, ns m hn, fun i x v e1 e2 e3 => ?_⟩
    obtain ⟨u, r, l⟩ := hl i x v e1 e2 e3
    refine ⟨u, r, ?_⟩
    rcases l with l | ⟨k, c, e, z⟩
    · exact .inl l
    · exact .inr ⟨k, c, e, cellK x c e _ z⟩
  · obtain ⟨v, z⟩ := I.cell x c e
    exact ⟨v, cellK x c e v z⟩
  · obtain ⟨m, ⟨o, _, _, ho, _⟩, _⟩ := I.loc
    exact free _ o (fun z => (hch _ z).2.1 rfl) ho I.free
  · obtain ⟨v, o, ho, hd⟩ := I.cell x c e
    exact free c o (fun z => (hch c z).2.2.1 x c e rfl) ho (I.freeC x c e)
  · obtain ⟨e, n, ne, nf, d⟩ := I.pin p hp
    have nch : p.1 ∉ ch := fun z => (hch p.1 z).2.2.2 p hp rfl
    exact ⟨keep p.1 p.2 ne nf nch e n, free p.1 p.2 nch e n, ne, nf, d⟩
/-- .. where the frame's own object is kept too -/
theorem Inv.un {t' : Nat} (I : Inv X pins σ H s) (u : Un X.fs [] H H' s.heap h') (hok : HOk X.prog X.w H' h') : Inv X pins σ H' { s with heap := h', toks := t' } := by
  obtain ⟨m, ⟨o, es, ep, ho, r⟩, _⟩ := id I.loc
  obtain ⟨sl, hL⟩ := u.any ho I.free (by simp)
  exact I.step (g' := s.gens) (d' := s.drawn) (ch := []) (fun _ z => nomatch z) (fun b o _ hb _ e n => u.keep b o e n hb (by simp)) (fun b o _ hb _ e n => u.slot b o e n hb (by simp)) (fun b o _ e n => u.free b o e n (by simp)) (fun b o _ e => u.there b o e (by simp)) u.tups u.frzs u.tbls (fun m' hm => by
    obtain ⟨o', es', ep', ho', r'⟩ := hm
    rw [ho] at ho'; cases ho'
    exact ⟨_, es', ep', hL, r'⟩) hok I.bare
/-- behind a call (or a comprehension's block): the slots of this frame may have changed too, the records at ch may have turned -/
theorem Inv.call {g' : Array GenState} {t' : Nat} {d' : Drawn} {ch : List Addr} (I : Inv X pins σ H s) (u : Un (frs X.stack) ch H H' s.heap h') (hok : HOk X.prog X.w H' h') (hg : AllBare g')
    (hch : ∀ b ∈ ch, (b ∈ X.ex ∨ X.s₀.heap.objs.size ≤ b) ∧ b ≠ X.env.locals ∧ (∀ x c, X.env.cells.lookup x = some c → c ≠ b) ∧ ∀ p ∈ X.pn ++ pins, p.1 ≠ b) :
    Inv X pins σ H' { s with heap := h', gens := g', drawn := d', toks := t' } := by
  obtain ⟨m, ⟨o, es, ep, ho, r⟩, _⟩ := id I.loc
  obtain ⟨sl, hL⟩ := u.any ho I.free fun z => (hch _ z).2.1 rfl
  exact I.step (ch := ch) hch (fun b o hL hb hc e n => u.keep b o e n (fun z => (List.mem_cons.mp (I.stkSub b z)).elim hL hb) hc) (fun b o _ _ hc e n => u.any e n hc) (fun b o hc e n => u.free b o e n hc) (fun b o hc e => u.there b o e hc) u.tups u.frzs u.tbls (fun m' hm => by
    obtain ⟨o', es', ep', ho', r'⟩ := hm
    rw [ho] at ho'; cases ho'
    exact ⟨_, es', ep', hL, r'⟩) hok hg
/-- an untracked record of ours (an iterator) has turned -/
theorem Inv.turned {t' : Nat} {it : Addr} (I : Inv X pins σ H s) (k : ∀ b o, b ≠ it → s.heap.get? b = some o → h'.get? b = some o) (hn : H it = none) (hL : it ≠ X.env.locals)
    (h1 : it ∈ X.ex ∨ X.s₀.heap.objs.size ≤ it) (h2 : ∀ x c, X.env.cells.lookup x = some c → c ≠ it) (h3 : ∀ p ∈ X.pn ++ pins, p.1 ≠ it) : Inv X pins σ H { s with heap := h', toks := t' } := by
  have nit : ∀ b u, H b = some u → b ≠ it := fun b u e z => by rw [z, hn] at e; cases e
  refine I.step (g' := s.gens) (d' := s.drawn) (ch := [it]) (fun b hb => ?_) (fun b o _ _ hc e _ => k b o (fun z => hc (by simp [z])) e) (fun b o _ _ hc e _ => ⟨o.slots, k b o (fun z => hc (by simp [z])) e⟩) (fun _ _ _ _ n => n)
    (fun b o hc e => ⟨o, k b o (fun z => hc (by simp [z])) e⟩) (fun _ _ e => e) (fun _ _ _ e => e) (fun b ps e => ⟨#[], by rw [e]; simp⟩) (fun m hm => ?_) (fun b u e => ?_) I.bare
  · have e : b = it := by simpa using hb
    subst e
    exact ⟨h1, hL, h2, h3⟩
  · obtain ⟨o, es, ep, ho, r⟩ := hm
    exact ⟨o, es, ep, k _ o (Ne.symm hL) ho, r⟩
  · refine (I.hok b u e).stay (fun c v hc q => k c v ?_ q) (fun _ q => q) fun _ _ q => q
    rcases hc with z | z
    · rw [z]; exact nit b u e
    · exact nit c _ z
theorem Inv.tok (I : Inv X pins σ H s) (t : Nat) : Inv X pins σ H { s with toks := t } := I.un (h' := s.heap) (t' := t) Un.refl I.hok
/-- all objects kept -/
theorem Inv.kept {t' : Nat} (I : Inv X pins σ H s) (k : ∀ b u, s.heap.get? b = some u → h'.get? b = some u) : Inv X pins σ H { s with heap := h', toks := t' } := I.un (Un.kept k) (I.hok.kept k)
/-- a new object laid and tracked -/
theorem Inv.laid {a : Addr} {o : HO} {t' : Nat} (I : Inv X pins σ H s) (k : ∀ b u, s.heap.get? b = some u → h'.get? b = some u) (hp : s.heap.objs.size ≤ a) (new : ObjOk X.prog X.w (upd H a o) h' a o) :
    Inv X pins σ (upd H a o) { s with heap := h', toks := t' } := I.un (Un.laid k hp (I.hok.fresh hp)) (I.hok.laid k hp new)
/-- an object written -/
theorem Inv.write {x e : Addr} {o : HO} {t' : Nat} (I : Inv X pins σ H s) (mu : Mut (H x)) (he : e = x ∨ H e = some (.own x)) (k : ∀ b u, b ≠ e → s.heap.get? b = some u → h'.get? b = some u) (heo : ∃ u, h'.get? e = some u)
    (new : ObjOk X.prog X.w (upd H x o) h' x o) : Inv X pins σ (upd H x o) { s with heap := h', toks := t' } := I.un (Un.write mu he k heo) (I.hok.write mu he k heo new)
/-- forgetting slots, pins -/
theorem Inv.weak {σ' : List (Option V)} (I : Inv X pins σ H s) (hl : σ'.length = σ.length) (w : ∀ (i : Nat) v, σ'[i]? = some (some v) → σ[i]? = some (some v)) : Inv X pins σ' H s :=
  ⟨I.ok, I.os, I.bare, I.base, let ⟨m, hn, hl'⟩ := I.loc; ⟨m, hn, fun i x v e1 e2 e3 => hl' i x v e1 (w i v e2) e3⟩, I.cell, I.free, I.freeC, I.pin, I.hok, hl.trans I.len⟩
theorem Inv.pins_of {pins' : List (Addr × Obj)} (I : Inv X pins σ H s) (h : ∀ p ∈ pins', s.heap.get? p.1 = some p.2 ∧ H p.1 = none ∧ p.1 ≠ X.env.locals ∧ p.1 ∉ X.fs ∧ ∀ v, p.2.data ≠ .cell v) : Inv X pins' σ H s :=
  ⟨I.ok, I.os, I.bare, I.base, I.loc, I.cell, I.free, I.freeC, fun p hp => (List.mem_append.mp hp).elim (fun z => I.pin p (List.mem_append_left _ z)) (h p), I.hok, I.len⟩

theorem nodup_ix {N : List Str} (hN : N.Nodup) {i j : Nat} {x : Str} (a : N[i]? = some x) (b : N[j]? = some x) : i = j := by
  obtain ⟨h1, e1⟩ := List.getElem?_eq_some_iff.mp a
  obtain ⟨h2, e2⟩ := List.getElem?_eq_some_iff.mp b
  exact (List.getElem_inj hN).mp (e1.trans e2.symm)

/-- a name is stored; what changed -/
theorem store_ok2 {M : Model} {A : Around} {E : Value → Shared → Prop} {i : Nat} {x : Str} {v : V} {u : Value} {Q : Unit → Shared → Prop} (I : Inv X pins σ H s) (hN : X.N.Nodup) (hi : X.N[i]? = some x) (hx : Loc X.env.scope x) (r : RelV v u)
    (h : ∀ s', Inv X pins (σ.set i (some v)) H s' → (∃ a, Heap.SameBut a s.heap s'.heap ∧ (a = X.env.locals ∨ X.env.cells.lookup x = some a)) → Q () s') (hf : X.fn x = true ∨ X.env.scope.names.lookup x = some .local := by first | exact .inl rfl | exact .inr rfl | assumption) : wpAny M A (storeName X.env x u) Q E s := by
  obtain ⟨m, hn, hl⟩ := id I.loc
  have hcls : (X.env.scope.kind == .class || (X.env.scope.kind == .module && X.env.locals != X.env.globals)) = false := by rw [I.ok.kind]; rfl
  have hiσ : i < σ.length := by rw [I.len]; exact (List.getElem?_eq_some_iff.mp hi).1
  have cne := I.cne
  have tracked : ∀ {a : Addr} {h' : Heap}, (∃ o, s.heap.get? a = some o ∧ H a = none) → Heap.SameBut a s.heap h' → HOk X.prog X.w H h' := fun {a h'} ha hs b ob e => by
    obtain ⟨_, _, hfree⟩ := ha
    refine (I.hok b ob e).stay (fun c w' hc q => (hs.2 c ?_).trans q) (fun _ q => q) fun _ _ q => q
    rintro rfl
    rcases hc with rfl | hc
    · rw [hfree] at e; cases e
    · rw [hfree] at hc; cases hc
  rcases hx with hk | hk
  · refine wpAny_storeName_local hk hn (fun h' hn' hs => ?_) hcls
    obtain ⟨oL, _, _, hoL, _⟩ := id hn
    refine h _ ⟨I.ok, I.os, I.bare, ⟨fun b o e n hb hx => ?_, fun b o e n hb hx => ?_, I.base.free, fun b o e hx => ?_, I.base.tups, I.base.frzs, I.base.tbls⟩, ⟨_, hn', fun j y v' e1 e2 e3 => ?_⟩, fun y c e => ?_, I.free, I.freeC, fun p hp => ?_, tracked ⟨oL, hoL, I.free⟩ hs, by simpa using I.len⟩ ⟨_, hs, .inl rfl⟩
    · exact (hs.2 b (Nat.ne_of_lt (Nat.lt_of_lt_of_le (Heap.lt_size e) I.ok.above))).trans (I.base.keep b o e n hb hx)
    · obtain ⟨sl, e1⟩ := I.base.slot b o e n hb hx
      exact ⟨sl, (hs.2 b (Nat.ne_of_lt (Nat.lt_of_lt_of_le (Heap.lt_size e) I.ok.above))).trans e1⟩
    · obtain ⟨o', e1⟩ := I.base.there b o e hx
      exact ⟨o', (hs.2 b (Nat.ne_of_lt (Nat.lt_of_lt_of_le (Heap.lt_size e) I.ok.above))).trans e1⟩
    · by_cases hj : j = i
      · subst hj
        rw [hi] at e1; cases e1
        rw [List.getElem?_set_self hiσ] at e2
        cases e2
        exact ⟨u, r, .inl ⟨hk, by simp⟩⟩
      · rw [List.getElem?_set_ne (Ne.symm hj)] at e2
        obtain ⟨u', r', q⟩ := hl j y v' e1 e2 e3
        refine ⟨u', r', ?_⟩
        rcases q with ⟨k, e⟩ | ⟨k, c, e, z⟩
        · refine .inl ⟨k, ?_⟩
          have : y ≠ x := fun e => hj (nodup_ix hN e1 (e ▸ hi))
          simp [this, e]
        · exact .inr ⟨k, c, e, z.sameBut hs (cne y c e)⟩
    · obtain ⟨w', z⟩ := I.cell y c e
      exact ⟨w', z.sameBut hs (cne y c e)⟩
    · obtain ⟨e, n, ne, nf, d⟩ := I.pin p hp
      exact ⟨(hs.2 p.1 ne).trans e, n, ne, nf, d⟩
  · have hfn : X.fn x = true := by
      rcases hf with z | z
      · exact z
      · rw [z] at hk; cases hk
    obtain ⟨c, hc⟩ := I.ok.has x (.inl hk)
    obtain ⟨w', z⟩ := I.cell x c hc
    refine wpAny_storeName_cell I.ok.kind hk hc z (fun h' hc' hs => ?_)
    obtain ⟨oc, hoc, hocd⟩ := id z
    refine h { s with heap := h' } ⟨I.ok, I.os, I.bare, ⟨fun b o e n hb hx => ?_, fun b o e n hb hx => ?_, I.base.free, fun b o e hx => ?_, I.base.tups, I.base.frzs, I.base.tbls⟩, ⟨m, hn.sameBut hs (Ne.symm (cne x c hc)), fun j y v' e1 e2 e3 => ?_⟩, fun y c' e => ?_, I.free, I.freeC, fun p hp => ?_, tracked ⟨oc, hoc, I.freeC x c hc⟩ hs, by simpa using I.len⟩ ⟨c, hs, .inr hc⟩
    · exact (hs.2 b (Nat.ne_of_lt (Nat.lt_of_lt_of_le (Heap.lt_size e) (I.ok.cab x c hfn hc)))).trans (I.base.keep b o e n hb hx)
    · obtain ⟨sl, e1⟩ := I.base.slot b o e n hb hx
      exact ⟨sl, (hs.2 b (Nat.ne_of_lt (Nat.lt_of_lt_of_le (Heap.lt_size e) (I.ok.cab x c hfn hc)))).trans e1⟩
    · obtain ⟨o', e1⟩ := I.base.there b o e hx
      exact ⟨o', (hs.2 b (Nat.ne_of_lt (Nat.lt_of_lt_of_le (Heap.lt_size e) (I.ok.cab x c hfn hc)))).trans e1⟩
    · by_cases hj : j = i
      · subst hj
        rw [hi] at e1; cases e1
        rw [List.getElem?_set_self hiσ] at e2
        cases e2
        exact ⟨u, r, .inr ⟨.inl hk, c, hc, hc'⟩⟩
      · rw [List.getElem?_set_ne (Ne.symm hj)] at e2
        obtain ⟨u', r', q⟩ := hl j y v' e1 e2 e3
        refine ⟨u', r', ?_⟩
        rcases q with q | ⟨k, c', e, z'⟩
        · exact .inl q
        · refine .inr ⟨k, c', e, z'.sameBut hs ?_⟩
          rintro rfl
          exact hj (nodup_ix hN e1 (I.ok.inj _ _ _ e hc ▸ hi))
    · by_cases hcc : c' = c
      · subst hcc; exact ⟨_, hc'⟩
      · obtain ⟨w2, z2⟩ := I.cell y c' e
        exact ⟨w2, z2.sameBut hs hcc⟩
    · obtain ⟨e, n, ne, nf, d⟩ := I.pin p hp
      refine ⟨(hs.2 p.1 ?_).trans e, n, ne, nf, d⟩
      intro q
      rw [q, hoc] at e
      have q' : oc = p.2 := Option.some.inj e
      exact d w' (by rw [← q']; exact hocd)
theorem store_ok {M : Model} {A : Around} {E : Value → Shared → Prop} {i : Nat} {x : Str} {v : V} {u : Value} {Q : Unit → Shared → Prop} (I : Inv X pins σ H s) (hN : X.N.Nodup) (hi : X.N[i]? = some x) (hx : Loc X.env.scope x) (r : RelV v u)
    (h : ∀ s', Inv X pins (σ.set i (some v)) H s' → Q () s') (hf : X.fn x = true ∨ X.env.scope.names.lookup x = some .local := by first | exact .inl rfl | exact .inr rfl | assumption) : wpAny M A (storeName X.env x u) Q E s :=
  store_ok2 I hN hi hx r (fun s' I' _ => h s' I') hf
/-- behind a call or a block, the state as it is -/
theorem Inv.call' {s' : Shared} {ch : List Addr} (I : Inv X pins σ H s) (ho : s'.os = s.os) (u : Un (frs X.stack) ch H H' s.heap s'.heap) (hok : HOk X.prog X.w H' s'.heap) (hg : AllBare s'.gens)
    (hch : ∀ b ∈ ch, (b ∈ X.ex ∨ X.s₀.heap.objs.size ≤ b) ∧ b ≠ X.env.locals ∧ (∀ x c, X.env.cells.lookup x = some c → c ≠ b) ∧ ∀ p ∈ X.pn ++ pins, p.1 ≠ b) : Inv X pins σ H' s' := by
  obtain ⟨h', g', d', t', o'⟩ := s'
  have e : o' = s.os := ho
  subst e
  exact I.call (g' := g') (t' := t') (d' := d') u hok hg hch
end

/-! ### the judgements -/
/-- an exception: its class, its own dict's address (where it has one), the abstract heap behind it -/
abbrev XK := Value → Option Addr → Hp → Prop
abbrev St := List (Option V)
abbrev VK := V → Hp → Prop
/-- an expression's reading; a test's; an argument list's -/
abbrev TE := St → Hp → VK → Prop
abbrev TT := St → Hp → (Bool → Hp → Prop) → Prop
abbrev TA := St → Hp → (List V → Hp → Prop) → Prop
/-- what is wanted behind a statement -/
structure Ends where
  nx : St → Hp → Prop
  rt : VK
  bk : St → Hp → Prop := fun _ _ => False
  ct : St → Hp → Prop := fun _ _ => False
abbrev TS := Ends → St → Hp → Prop

def EP (X : Cx) (pins : List (Addr × Obj)) (σ : St) (Q : VK) (u : Value) (s' : Shared) : Prop := ∃ v H', Inv X pins σ H' s' ∧ RelV v u ∧ Q v H'
def TP (X : Cx) (pins : List (Addr × Obj)) (σ : St) (Q : Bool → Hp → Prop) (b : Bool) (s' : Shared) : Prop := ∃ H', Inv X pins σ H' s' ∧ Q b H'
def AP (X : Cx) (pins : List (Addr × Obj)) (σ : St) (Q : List V → Hp → Prop) (us : List Value) (s' : Shared) : Prop := ∃ vs H', Inv X pins σ H' s' ∧ Vals vs us ∧ Q vs H'
def SP (X : Cx) (pins : List (Addr × Obj)) (D : Ends) (f : Flow) (s' : Shared) : Prop :=
  match f with
  | .next => ∃ σ' H', Inv X pins σ' H' s' ∧ D.nx σ' H'
  | .brk => ∃ σ' H', Inv X pins σ' H' s' ∧ D.bk σ' H'
  | .cont => ∃ σ' H', Inv X pins σ' H' s' ∧ D.ct σ' H'
  | .ret u => ∃ v σ' H', Inv X pins σ' H' s' ∧ RelV v u ∧ D.rt v H'

def PE (X : Cx) (e : Expr) (t : TE) : Prop :=
  ∀ (pins : List (Addr × Obj)) (s : Shared) (σ : St) (H : Hp) (Q : VK), Inv X pins σ H s → t σ H Q → wpAny (model X.prog X.w) X.A (eval e X.env) (EP X pins σ Q) X.xe s
def PT (X : Cx) (e : Expr) (t : TT) : Prop :=
  ∀ (pins : List (Addr × Obj)) (s : Shared) (σ : St) (H : Hp) (Q : Bool → Hp → Prop), Inv X pins σ H s → t σ H Q → wpAny (model X.prog X.w) X.A (isTrue e X.env (eval e X.env)) (TP X pins σ Q) X.xe s
/-- a test whatever its 'whole' is (and, or) -/
def PW (X : Cx) (e : Expr) (t : TT) : Prop :=
  ∀ (whole : Sem Value) (pins : List (Addr × Obj)) (s : Shared) (σ : St) (H : Hp) (Q : Bool → Hp → Prop), Inv X pins σ H s → t σ H Q → wpAny (model X.prog X.w) X.A (isTrue e X.env whole) (TP X pins σ Q) X.xe s
theorem PW.pt {X : Cx} {e : Expr} {t : TT} (h : PW X e t) : PT X e t := h _
/-- an argument list (no star), from the left -/
def PA (X : Cx) (es : List Expr) (t : TA) : Prop :=
  ∀ (pos : Pos) (pins : List (Addr × Obj)) (s : Shared) (σ : St) (H : Hp) (Q : List V → Hp → Prop), Inv X pins σ H s → t σ H Q → wpAny (model X.prog X.w) X.A (spliced (backTo pos (starEach es X.env))) (AP X pins σ Q) X.xe s
def PS (X : Cx) (st : Stmt) (t : TS) : Prop :=
  ∀ (pins : List (Addr × Obj)) (s : Shared) (σ : St) (H : Hp) (D : Ends), Inv X pins σ H s → t D σ H → wpAny (model X.prog X.w) X.A (exec st X.env) (SP X pins D) X.xe s
def PSs (X : Cx) (st : List Stmt) (t : TS) : Prop :=
  ∀ (pins : List (Addr × Obj)) (s : Shared) (σ : St) (H : Hp) (D : Ends), Inv X pins σ H s → t D σ H → wpAny (model X.prog X.w) X.A (execs st X.env) (SP X pins D) X.xe s
/-- weaken the end -/
theorem thn {α : Type} {t : Sem α} {Q Q' : α → Shared → Prop} {M : Model} {A : Around} {E : Value → Shared → Prop} {s : Shared} (h : wpAny M A t Q E s) (hQ : ∀ a s, Q a s → Q' a s) : wpAny M A t Q' E s := wpAny_mono h hQ fun _ _ x => x
end L2

namespace L2
open PySem PySem.Spec PyProof.Rows
section
variable {X : Cx}

/-- two expressions in a row -/
theorem bin {a b : Expr} {ta tb : TE} (ha : PE X a ta) (hb : PE X b tb) {pins : List (Addr × Obj)} {s : Shared} {σ : St} {H : Hp} {R : V → V → Hp → Prop} (I : Inv X pins σ H s) (h : ta σ H fun x H1 => tb σ H1 fun y H2 => R x y H2)
    {α : Type} {Q : α → Shared → Prop} {f : Value → Value → Sem α}
    (hf : ∀ v u s2 x y H2, Inv X pins σ H2 s2 → RelV x v → RelV y u → R x y H2 → wpAny (model X.prog X.w) X.A (f v u) Q X.xe s2) :
    wpAny (model X.prog X.w) X.A (eval a X.env) (fun v s₁ => wpAny (model X.prog X.w) X.A (eval b X.env) (fun u s₂ => wpAny (model X.prog X.w) X.A (f v u) Q X.xe s₂) X.xe s₁) X.xe s := by
  refine thn (ha pins s σ H _ I h) fun v s1 ⟨x, H1, I1, r1, q1⟩ => ?_
  refine thn (hb pins s1 σ H1 _ I1 q1) fun u s2 ⟨y, H2, I2, r2, q2⟩ => ?_
  exact hf v u s2 x y H2 I2 r1 r2 q2

/-! ### names and constants -/
def tVar (i : Nat) : TE := fun σ H Q => ∃ v, σ[i]? = some (some v) ∧ Q v H
def tC (v : V) : TE := fun _ H Q => Q v H
theorem pe_var {i : Nat} {x : Str} {pos : Pos} (hN : X.N[i]? = some x) (hv : Vis X.env.scope x) (hd : (x == ("__debug__" : Str)) = false := by decide) (hcd : (x == ("__classdict__" : Str)) = false := by decide) : PE X (.Name x pos) (tVar i) := by
  intro pins s σ H Q I h
  obtain ⟨v, e, h⟩ := h
  obtain ⟨m, hn, hl⟩ := I.loc
  obtain ⟨u, r, l⟩ := hl i x v hN e hv
  have fin : EP X pins σ Q u s := ⟨v, H, I, r, h⟩
  rcases l with ⟨hk, hm⟩ | ⟨hk, c, hc, hcell⟩
  · exact wpAny_Name (wpAny_loadName_local I.ok.kind hk hn hm fin) hd
  · rcases hk with hk | hk
    · exact wpAny_Name (wpAny_loadName_cell I.ok.kind hk hc hcell fin) hd
    · exact wpAny_Name (wpAny_loadName_free I.ok.kind hk hc hcell fin hcd) hd
theorem pe_int {i j pos} : PE X (.Constant (.int i) j pos) (tC (.int i)) := fun _ _ _ H _ I h => wpAny_Constant_int ⟨.int i, H, I.tok _, ⟨_, rfl⟩, h⟩
theorem pe_bl {b j pos} : PE X (.Constant (.bool b) j pos) (tC (.bl b)) := fun _ _ _ H _ I h => Constant_bool ⟨.bl b, H, I, rfl, h⟩
theorem pe_non {j pos} : PE X (.Constant .none j pos) (tC .non) := fun _ _ _ H _ I h => Constant_none ⟨.non, H, I, rfl, h⟩
theorem pe_str {x j pos} : PE X (.Constant (.str x) j pos) (tC (.str x)) := fun _ _ _ H _ I h => Calls.Constant_str ⟨.str x, H, I.tok _, ⟨_, rfl⟩, h⟩

/-- a global name of the def -/
def Gl (X : Cx) (x : Str) : Prop := X.env.kindOf x = some .globalImplicit
theorem ld_glob {E : Value → Shared → Prop} {pins : List (Addr × Obj)} {s : Shared} {σ : St} {H : Hp} {x : Str} {u : Value} {pos : Pos} {Q : Value → Shared → Prop} (I : Inv X pins σ H s) (hg : Gl X x) (hm : X.mg x = some u) (h : Q u s)
    (hd : (x == ("__debug__" : Str)) = false := by decide) : wpAny (model X.prog X.w) X.A (eval (.Name x pos) X.env) Q E s :=
  Calls.Name_function_global I.ok.kind hg (Calls.loadGlobal_global (by rw [I.ok.glob]; exact I.mod.glob.keeps I.bk) hm h) hd
theorem ld_blt {E : Value → Shared → Prop} {pins : List (Addr × Obj)} {s : Shared} {σ : St} {H : Hp} {x : Str} {u : Value} {pos : Pos} {Q : Value → Shared → Prop} (I : Inv X pins σ H s) (hg : Gl X x) (hm : X.mg x = none) (hv : bootBuiltins x = some u) (h : Q u s)
    (hn : x ≠ "__name__" := by decide) (hd : (x == ("__debug__" : Str)) = false := by decide) : wpAny (model X.prog X.w) X.A (eval (.Name x pos) X.env) Q E s := by
  obtain ⟨mb, h1, h2⟩ := I.mod.blt
  exact Calls.Name_function_global I.ok.kind hg (Calls.loadGlobal_builtin (by rw [I.ok.glob]; exact I.mod.glob.keeps I.bk) hm (by rw [I.ok.blt]; exact h1.keeps I.bk) ((h2 x hn).trans hv) h) hd
/-- a module's constant, a class, a function, as a value -/
theorem pe_glob {x : Str} {v : V} {u : Value} {pos : Pos} (hg : Gl X x) (hm : X.mg x = some u) (r : RelV v u) (hd : (x == ("__debug__" : Str)) = false := by decide) : PE X (.Name x pos) (tC v) :=
  fun _ _ _ H _ I h => ld_glob I hg hm ⟨v, H, I, r, h⟩ hd
theorem pe_bltn {x : Str} {v : V} {u : Value} {pos : Pos} (hg : Gl X x) (hm : X.mg x = none) (hv : bootBuiltins x = some u) (r : RelV v u) (hn : x ≠ "__name__" := by decide) (hd : (x == ("__debug__" : Str)) = false := by decide) : PE X (.Name x pos) (tC v) :=
  fun _ _ _ H _ I h => ld_blt I hg hm hv ⟨v, H, I, r, h⟩ hn hd

/-! ### arithmetic -/
/-- two ints -/
def t2I (ta tb : TE) (k : Int → Int → Hp → Prop) : St → Hp → Prop := fun σ H => ta σ H fun x H1 => tb σ H1 fun y H2 => ∃ i j, x = .int i ∧ y = .int j ∧ k i j H2
def tAdd (ta tb : TE) : TE := fun σ H Q => t2I ta tb (fun i j H2 => Q (.int (i + j)) H2) σ H
def tSub (ta tb : TE) : TE := fun σ H Q => t2I ta tb (fun i j H2 => Q (.int (i - j)) H2) σ H
/-- the left factor below 2^64 -/
def tMul (ta tb : TE) : TE := fun σ H Q => t2I ta tb (fun i j H2 => (-(2 ^ 64) < i ∧ i < 2 ^ 64) ∧ Q (.int (i * j)) H2) σ H
variable {a b : Expr} {ta tb : TE} {pos : Pos}
theorem pe_add (ha : PE X a ta) (hb : PE X b tb) : PE X (.BinOp a .Add b pos) (tAdd ta tb) := by
  intro pins s σ H Q I h
  refine wpAny_BinOp (bin ha hb I h fun v u s2 x y H2 I2 rx ry q => ?_)
  obtain ⟨i, j, rfl, rfl, q⟩ := q
  obtain ⟨t, rfl⟩ := rx
  obtain ⟨t', rfl⟩ := ry
  exact add_int ⟨.int _, H2, I2.tok _, ⟨_, rfl⟩, q⟩
theorem pe_sub (ha : PE X a ta) (hb : PE X b tb) : PE X (.BinOp a .Sub b pos) (tSub ta tb) := by
  intro pins s σ H Q I h
  refine wpAny_BinOp (bin ha hb I h fun v u s2 x y H2 I2 rx ry q => ?_)
  obtain ⟨i, j, rfl, rfl, q⟩ := q
  obtain ⟨t, rfl⟩ := rx
  obtain ⟨t', rfl⟩ := ry
  exact sub_int ⟨.int _, H2, I2.tok _, ⟨_, rfl⟩, q⟩
theorem pe_mul (ha : PE X a ta) (hb : PE X b tb) : PE X (.BinOp a .Mult b pos) (tMul ta tb) := by
  intro pins s σ H Q I h
  refine wpAny_BinOp (bin ha hb I h fun v u s2 x y H2 I2 rx ry q => ?_)
  obtain ⟨i, j, rfl, rfl, ⟨q1, q2⟩, q⟩ := q
  obtain ⟨t, rfl⟩ := rx
  obtain ⟨t', rfl⟩ := ry
  exact mul_int ⟨.int _, H2, I2.tok _, ⟨_, rfl⟩, q⟩ (.of_left (intBits_le_64 q1 q2))

/-! ### comparisons -/
def PC (X : Cx) (op : CmpOp) (a b : Expr) (t : TE) : Prop :=
  ∀ (pins : List (Addr × Obj)) (s : Shared) (σ : St) (H : Hp) (Q : VK), Inv X pins σ H s → t σ H Q →
    wpAny (model X.prog X.w) X.A (eval a X.env) (fun v s₁ => wpAny (model X.prog X.w) X.A (eval b X.env) (fun u s₂ => wpAny (model X.prog X.w) X.A (compareOp op v u) (EP X pins σ Q) X.xe s₂) X.xe s₁) X.xe s
theorem nobehind (b : Expr) {op : CmpOp} (h : op ≠ .In) (h2 : op ≠ .NotIn) : behindInMarks op b = false := by
  have e1 : (op == CmpOp.In) = false := by cases op <;> first | rfl | exact absurd rfl h
  have e2 : (op == CmpOp.NotIn) = false := by cases op <;> first | rfl | exact absurd rfl h2
  cases b <;> simp [behindInMarks, e1, e2]
def tCmp (p : Int → Int → Bool) (ta tb : TE) : TE := fun σ H Q => t2I ta tb (fun i j H2 => Q (.bl (p i j)) H2) σ H
abbrev tLt : TE → TE → TE := tCmp fun i j => decide (i < j)
abbrev tLe : TE → TE → TE := tCmp fun i j => decide (i ≤ j)
abbrev tGt : TE → TE → TE := tCmp fun i j => decide (j < i)
abbrev tGe : TE → TE → TE := tCmp fun i j => decide (j ≤ i)
abbrev tEqI : TE → TE → TE := tCmp fun i j => decide (i = j)
abbrev tNeI : TE → TE → TE := tCmp fun i j => !decide (i = j)
/-- a comparison of two ints, by its rule -/
theorem pc_int {op : CmpOp} {p : Int → Int → Bool} (ha : PE X a ta) (hb : PE X b tb)
    (rule : ∀ (i j : Int) (t u : Tok) (Q : Value → Shared → Prop) (s : Shared), Q (.bool (p i j)) s → wpAny (model X.prog X.w) X.A (compareOp op (.int i t) (.int j u)) Q X.xe s) : PC X op a b (tCmp p ta tb) := by
  intro pins s σ H Q I h
  refine bin ha hb I h fun v u s2 x y H2 I2 rx ry q => ?_
  obtain ⟨i, j, rfl, rfl, q⟩ := q
  obtain ⟨t, rfl⟩ := rx
  obtain ⟨t', rfl⟩ := ry
  exact rule i j t t' _ s2 ⟨.bl _, H2, I2, rfl, q⟩
theorem pc_lt (ha : PE X a ta) (hb : PE X b tb) : PC X .Lt a b (tLt ta tb) := pc_int ha hb fun _ _ _ _ _ _ h => lt_int h
theorem pc_le (ha : PE X a ta) (hb : PE X b tb) : PC X .LtE a b (tLe ta tb) := pc_int ha hb fun _ _ _ _ _ _ h => le_int h
theorem pc_gt (ha : PE X a ta) (hb : PE X b tb) : PC X .Gt a b (tGt ta tb) := pc_int ha hb fun _ _ _ _ _ _ h => gt_int h
theorem pc_ge (ha : PE X a ta) (hb : PE X b tb) : PC X .GtE a b (tGe ta tb) := pc_int ha hb fun _ _ _ _ _ _ h => ge_int h
theorem pc_eqI (ha : PE X a ta) (hb : PE X b tb) : PC X .Eq a b (tEqI ta tb) := pc_int ha hb fun _ _ _ _ _ _ h => eq_int (by rw [Bool.beq_eq_decide_eq]; exact h)
theorem pc_neI (ha : PE X a ta) (hb : PE X b tb) : PC X .NotEq a b (tNeI ta tb) := pc_int ha hb fun _ _ _ _ _ _ h => ne_int (by rw [bne, Bool.beq_eq_decide_eq]; exact h)
/-- is None -/
def tIsN (ta : TE) : TE := fun σ H Q => ta σ H fun x H1 => Q (.bl (decide (x = .non))) H1
def tNotN (ta : TE) : TE := fun σ H Q => ta σ H fun x H1 => Q (.bl (!decide (x = .non))) H1
theorem RelV.none_iff {x : V} {v : Value} (r : RelV x v) : (v == Value.none) = decide (x = .non) := by
  cases x with
  | non => cases r; rfl
  | bl _ => cases r; rfl
  | int _ => obtain ⟨t, rfl⟩ := r; rfl
  | str _ => obtain ⟨t, rfl⟩ := r; rfl
  | byt _ => obtain ⟨t, rfl⟩ := r; rfl
  | flt _ => obtain ⟨t, rfl⟩ := r; rfl
  | ref _ => cases r; rfl
  | ty _ => cases r; rfl
theorem pc_isN {j pos'} (ha : PE X a ta) : PC X .Is a (.Constant .none j pos') (tIsN ta) := by
  intro pins s σ H Q I h
  refine thn (ha pins s σ H _ I h) fun v s1 ⟨x, H1, I1, r1, q1⟩ => ?_
  exact Constant_none (is_none_gen ⟨.bl _, H1, I1, by rw [r1.none_iff]; rfl, q1⟩)
theorem pc_notN {j pos'} (ha : PE X a ta) : PC X .IsNot a (.Constant .none j pos') (tNotN ta) := by
  intro pins s σ H Q I h
  refine thn (ha pins s σ H _ I h) fun v s1 ⟨x, H1, I1, r1, q1⟩ => ?_
  exact Constant_none (isnot_none_gen ⟨.bl _, H1, I1, by rw [r1.none_iff]; rfl, q1⟩)
/-- a comparison as a value, as a test -/
def tB (t : TE) : TT := fun σ H Q => t σ H fun x H1 => ∃ c, x = .bl c ∧ Q c H1
theorem pe_cmp {op : CmpOp} {t : TE} (h : PC X op a b t) (h1 : behindInMarks op b = false := by first | exact nobehind _ (by decide) (by decide) | rfl) : PE X (.Compare a [op] [b] pos) t := fun pins s σ H Q I hw => wpAny_Compare1 (h pins s σ H Q I hw) h1
theorem pt_cmp {op : CmpOp} {t : TE} (h : PC X op a b t) (h1 : behindInMarks op b = false := by first | exact nobehind _ (by decide) (by decide) | rfl) : PT X (.Compare a [op] [b] pos) (tB t) := by
  intro pins s σ H Q I hw
  refine wpAny_isTrue_Compare1 (thn (h pins s σ H _ I hw) fun v s1 h1 => thn h1 fun u s2 h2 => thn h2 fun c s3 ⟨x, H1, I1, r1, q1⟩ => ?_) h1
  obtain ⟨d, rfl, q⟩ := q1
  cases r1
  exact wpAny_truthy_bool ⟨H1, I1, q⟩
/-- an expression whose value is a bool, as a test -/
theorem pt_val {e : Expr} {t : TE} (h : PE X e t) (he : ∀ whole, isTrue e X.env whole = (do let v ← whole; standAt e.pos; holding [v] (truthy v)) := by intro _; rfl) : PT X e (tB t) := by
  intro pins s σ H Q I hw
  refine isTrue_plain (thn (h pins s σ H _ I hw) fun v s1 ⟨x, H1, I1, r1, q1⟩ => ?_) (he _)
  obtain ⟨d, rfl, q⟩ := q1
  cases r1
  exact wpAny_truthy_bool ⟨H1, I1, q⟩

/-! ### and, or, not -/
variable {tA tB' : TT} {rest : List Expr}
def tAnd (t u : TT) : TT := fun σ H Q => t σ H fun c H1 => if c = true then u σ H1 Q else Q false H1
def tOr (t u : TT) : TT := fun σ H Q => t σ H fun c H1 => if c = true then Q true H1 else u σ H1 Q
def tNot (t : TT) : TT := fun σ H Q => t σ H fun c H1 => Q (!c) H1
theorem pw_and1 (ha : PT X a tA) : PW X (.BoolOp .And [a] pos) tA := by
  intro wh pins s σ H Q I h
  refine isTrue_and (thn (ha pins s σ H Q I h) fun c s1 e => ?_)
  cases c with
  | true => exact isTrue_and_nil e
  | false => exact e
theorem pw_or1 (ha : PT X a tA) : PW X (.BoolOp .Or [a] pos) tA := by
  intro wh pins s σ H Q I h
  refine isTrue_or (thn (ha pins s σ H Q I h) fun c s1 e => ?_)
  cases c with
  | false => exact isTrue_or_nil e
  | true => exact e
theorem pw_and (ha : PT X a tA) (hb : PW X (.BoolOp .And (b :: rest) pos) tB') : PW X (.BoolOp .And (a :: b :: rest) pos) (tAnd tA tB') := by
  intro wh pins s σ H Q I h
  refine isTrue_and (thn (ha pins s σ H _ I h) fun c s1 ⟨H1, I1, q1⟩ => ?_)
  cases c with
  | true => exact hb wh pins s1 σ H1 Q I1 q1
  | false => exact ⟨H1, I1, q1⟩
theorem pw_or (ha : PT X a tA) (hb : PW X (.BoolOp .Or (b :: rest) pos) tB') : PW X (.BoolOp .Or (a :: b :: rest) pos) (tOr tA tB') := by
  intro wh pins s σ H Q I h
  refine isTrue_or (thn (ha pins s σ H _ I h) fun c s1 ⟨H1, I1, q1⟩ => ?_)
  cases c with
  | true => exact ⟨H1, I1, q1⟩
  | false => exact hb wh pins s1 σ H1 Q I1 q1
theorem pt_not (ha : PT X a tA) : PT X (.UnaryOp .Not a pos) (tNot tA) := by
  intro pins s σ H Q I h
  exact isTrue_not (ha pins s σ H (fun c H1 => Q (!c) H1) I h)
/-- .. as values (bools) -/
def tAndV (ta tb : TE) : TE := fun σ H Q => ta σ H fun x H1 => ∃ c, x = .bl c ∧ if c = true then tb σ H1 Q else Q (.bl false) H1
def tOrV (ta tb : TE) : TE := fun σ H Q => ta σ H fun x H1 => ∃ c, x = .bl c ∧ if c = true then Q (.bl true) H1 else tb σ H1 Q
def tNotV (ta : TE) : TE := fun σ H Q => ta σ H fun x H1 => ∃ c, x = .bl c ∧ Q (.bl (!c)) H1
theorem pe_one {op} {t : TE} (h : PE X a t) : PE X (.BoolOp op [a] pos) t := fun pins s σ H Q I hw => BoolOp_one (h pins s σ H Q I hw)
theorem pe_and (ha : PE X a ta) (hb : PE X (.BoolOp .And (b :: rest) pos) tb) : PE X (.BoolOp .And (a :: b :: rest) pos) (tAndV ta tb) := by
  intro pins s σ H Q I h
  refine BoolOp_and (thn (ha pins s σ H _ I h) fun v s1 ⟨x, H1, I1, r1, q1⟩ => ?_)
  obtain ⟨c, rfl, q1⟩ := q1
  cases r1
  refine wpAny_truthy_bool ?_
  cases c with
  | true => exact hb pins s1 σ H1 Q I1 q1
  | false => exact ⟨.bl false, H1, I1, rfl, q1⟩
theorem pe_or (ha : PE X a ta) (hb : PE X (.BoolOp .Or (b :: rest) pos) tb) : PE X (.BoolOp .Or (a :: b :: rest) pos) (tOrV ta tb) := by
  intro pins s σ H Q I h
  refine BoolOp_or (thn (ha pins s σ H _ I h) fun v s1 ⟨x, H1, I1, r1, q1⟩ => ?_)
  obtain ⟨c, rfl, q1⟩ := q1
  cases r1
  refine wpAny_truthy_bool ?_
  cases c with
  | false => exact hb pins s1 σ H1 Q I1 q1
  | true => exact ⟨.bl true, H1, I1, rfl, q1⟩
theorem pe_not (ha : PE X a ta) : PE X (.UnaryOp .Not a pos) (tNotV ta) := by
  intro pins s σ H Q I h
  refine UnaryOp_ (thn (ha pins s σ H _ I h) fun v s1 ⟨x, H1, I1, r1, q1⟩ => ?_)
  obtain ⟨c, rfl, q1⟩ := q1
  cases r1
  exact not_of (wpAny_truthy_bool ⟨.bl (!c), H1, I1, rfl, q1⟩)
/-- a if t else b -/
def tIf (t : TT) (ta tb : TE) : TE := fun σ H Q => t σ H fun c H1 => if c = true then ta σ H1 Q else tb σ H1 Q
theorem pe_ifExp {c : Expr} (hc : PT X c tA) (ha : PE X a ta) (hb : PE X b tb) : PE X (.IfExp c a b pos) (tIf tA ta tb) := by
  intro pins s σ H Q I h
  refine wpAny_IfExp (thn (hc pins s σ H _ I h) fun d s1 ⟨H1, I1, q1⟩ => ?_)
  cases d with
  | true => exact ha pins s1 σ H1 Q I1 q1
  | false => exact hb pins s1 σ H1 Q I1 q1
end
end L2

namespace L2
open PySem PySem.Spec PyProof.Rows

/-! ### a list, a tuple that is read: tracked, frozen, or an object of the module -/
def SqL (K : PySem.W.Frag) (H : Hp) (a : Addr) (xs : List V) : Prop :=
  Rd H a (.lst xs) ∨
    ∃ (o : Obj) (its : Array Value) (n : Nat), K.lookup a = some o ∧ o.cls = .type "list" ∧ o.dict = none ∧ o.data = .seq its n ∧ its.size ≤ sizeLine ∧ Vals xs its.toList
def SqT (K : PySem.W.Frag) (H : Hp) (a : Addr) (xs : List V) : Prop :=
  Rd H a (.tup xs) ∨
    ∃ (o : Obj) (its : Array Value) (n : Nat), K.lookup a = some o ∧ o.cls = .type "tuple" ∧ o.data = .seq its n ∧ its.size ≤ sizeLine ∧ Vals xs its.toList
def absV : Value → Option V
  | .none => some .non
  | .bool b => some (.bl b)
  | .int i _ => some (.int i)
  | .str x _ => some (.str x)
  | .bytes b _ => some (.byt b)
  | .float b _ => some (.flt b)
  | .ref a => some (.ref a)
  | .type n => some (.ty n)
  | _ => none
theorem RelV.abs {x : V} {u : Value} (r : RelV x u) : absV u = some x := by
  cases x with
  | non => cases r; rfl
  | bl _ => cases r; rfl
  | int _ => obtain ⟨t, rfl⟩ := r; rfl
  | str _ => obtain ⟨t, rfl⟩ := r; rfl
  | byt _ => obtain ⟨t, rfl⟩ := r; rfl
  | flt _ => obtain ⟨t, rfl⟩ := r; rfl
  | ref _ => cases r; rfl
  | ty _ => cases r; rfl
theorem RelV.inj {x y : V} {u : Value} (r : RelV x u) (q : RelV y u) : x = y := Option.some.inj (r.abs.symm.trans q.abs)
theorem Vals.inj : ∀ {xs ys : List V} {us : List Value}, Vals xs us → Vals ys us → xs = ys
  | _, _, _, .nil, .nil => rfl
  | _, _, _, .cons r t, .cons r' t' => by rw [r.inj r', Vals.inj t t']
section
variable {X : Cx} {pins : List (Addr × Obj)} {σ : St} {H : Hp} {s : Shared} {a : Addr} {xs ys : List V}
theorem SqL.of {K : PySem.W.Frag} (h : H a = some (.lst xs)) : SqL K H a xs := .inl (.inl h)
theorem SqT.of {K : PySem.W.Frag} (h : H a = some (.tup xs)) : SqT K H a xs := .inl (.inl h)
theorem Inv.list (I : Inv X pins σ H s) (h : SqL X.K H a xs) : ∃ its : List Value, Vals xs its ∧ PlainL s.heap a its.toArray ∧ xs.length ≤ sizeLine := by
  rcases h with h | ⟨o, its, n, hk, hc, hd, hs, hz, r⟩
  · obtain ⟨z, its, n, r, e⟩ := h.ok I.hok
    exact ⟨its, r, ⟨_, n, e, rfl, rfl, rfl⟩, z⟩
  · refine ⟨its.toList, r, ⟨o, n, I.kIn a o hk, hc, hd, by simpa using hs⟩, ?_⟩
    have e := r.length
    simp only [Array.length_toList] at e
    omega
theorem Inv.tuple (I : Inv X pins σ H s) (h : SqT X.K H a xs) : ∃ its : List Value, Vals xs its ∧ IsTup s.heap a its.toArray ∧ xs.length ≤ sizeLine := by
  rcases h with h | ⟨o, its, n, hk, hc, hs, hz, r⟩
  · obtain ⟨z, its, r, p⟩ := h.ok I.hok
    exact ⟨its, r, p, z⟩
  · refine ⟨its.toList, r, ⟨o, I.kIn a o hk, hc, n, by simpa using hs⟩, ?_⟩
    have e := r.length
    simp only [Array.length_toList] at e
    omega
theorem Inv.list_inj (I : Inv X pins σ H s) (h : SqL X.K H a xs) (h' : SqL X.K H a ys) : xs = ys := by
  obtain ⟨its, r, ⟨o, n, e, _, _, d⟩, _⟩ := I.list h
  obtain ⟨its', r', ⟨o', n', e', _, _, d'⟩, _⟩ := I.list h'
  rw [e] at e'; cases e'
  rw [d] at d'
  injection d' with d1 _
  have : its = its' := by simpa using congrArg Array.toList d1
  subst this
  exact r.inj r'
theorem Inv.tuple_inj (I : Inv X pins σ H s) (h : SqT X.K H a xs) (h' : SqT X.K H a ys) : xs = ys := by
  obtain ⟨its, r, ⟨o, e, _, n, d⟩, _⟩ := I.tuple h
  obtain ⟨its', r', ⟨o', e', _, n', d'⟩, _⟩ := I.tuple h'
  rw [e] at e'; cases e'
  rw [d] at d'
  injection d' with d1 _
  have : its = its' := by simpa using congrArg Array.toList d1
  subst this
  exact r.inj r'
end

/-! ### another wish about exceptions -/
abbrev Cx.wish (X : Cx) (E : Value → Shared → Prop) : Cx := { X with xe := E }
/-- no exception leaves -/
abbrev Cx.nox (X : Cx) : Cx := X.wish fun _ _ => False
theorem Cx.Ok.wish {X : Cx} (ok : X.Ok) (E : Value → Shared → Prop) : (X.wish E).Ok :=
  ⟨ok.mod, ok.kind, ok.glob, ok.blt, ok.above, ok.inj, ok.has, ok.cab, ok.hd, ok.frames, ok.stk, ok.exf, ok.bs, ok.bsz, ok.noex, ok.exfs, ok.funs, ok.frf⟩
theorem Cx.Ok.unwish {X : Cx} {E : Value → Shared → Prop} (ok : (X.wish E).Ok) : X.Ok :=
  ⟨ok.mod, ok.kind, ok.glob, ok.blt, ok.above, ok.inj, ok.has, ok.cab, ok.hd, ok.frames, ok.stk, ok.exf, ok.bs, ok.bsz, ok.noex, ok.exfs, ok.funs, ok.frf⟩
section
variable {X : Cx} {pins : List (Addr × Obj)} {σ : St} {H : Hp} {s : Shared} {E : Value → Shared → Prop}
theorem Inv.wish (I : Inv X pins σ H s) (E : Value → Shared → Prop) : Inv (X.wish E) pins σ H s := ⟨I.ok.wish E, I.os, I.bare, I.base, I.loc, I.cell, I.free, I.freeC, I.pin, I.hok, I.len⟩
theorem Inv.unwish (I : Inv (X.wish E) pins σ H s) : Inv X pins σ H s := ⟨I.ok.unwish, I.os, I.bare, I.base, I.loc, I.cell, I.free, I.freeC, I.pin, I.hok, I.len⟩
theorem SP.unwish {D : Ends} {f : Flow} {s' : Shared} (h : SP (X.wish E) pins D f s') : SP X pins D f s' := by
  cases f with
  | next => obtain ⟨σ', H', I, q⟩ := h; exact ⟨σ', H', I.unwish, q⟩
  | brk => obtain ⟨σ', H', I, q⟩ := h; exact ⟨σ', H', I.unwish, q⟩
  | cont => obtain ⟨σ', H', I, q⟩ := h; exact ⟨σ', H', I.unwish, q⟩
  | ret u => obtain ⟨v, σ', H', I, r, q⟩ := h; exact ⟨v, σ', H', I.unwish, r, q⟩
theorem PE.nox {e : Expr} {t : TE} (h : PE X.nox e t) : PE X e t := fun pins s σ H Q I hw =>
  wpAny_mono (h pins s σ H Q (I.wish _) hw) (fun _ _ ⟨v, H', I', r, q⟩ => ⟨v, H', I'.unwish, r, q⟩) fun _ _ z => False.elim z
theorem PT.nox {e : Expr} {t : TT} (h : PT X.nox e t) : PT X e t := fun pins s σ H Q I hw =>
  wpAny_mono (h pins s σ H Q (I.wish _) hw) (fun _ _ ⟨H', I', q⟩ => ⟨H', I'.unwish, q⟩) fun _ _ z => False.elim z
theorem PSs.nox {st : List Stmt} {t : TS} (h : PSs X.nox st t) : PSs X st t := fun pins s σ H D I hw =>
  wpAny_mono (h pins s σ H D (I.wish _) hw) (fun _ _ q => q.unwish) fun _ _ z => False.elim z
end

/-! ### blocks and small statements -/
section
variable {X : Cx} {st : Stmt} {rest : List Stmt} {t u : TS} {e : Expr} {te : TE} {pos : Pos}
def tNext : TS := fun D σ H => D.nx σ H
def tSeq (t u : TS) : TS := fun D σ H => t { D with nx := u D } σ H
theorem pss_nil : PSs X [] tNext := fun _ _ σ H _ I h => wpAny_execs_nil ⟨σ, H, I, h⟩
theorem pss_cons (h1 : PS X st t) (h2 : PSs X rest u) : PSs X (st :: rest) (tSeq t u) := by
  intro pins s σ H D I h
  refine wpAny_execs_cons (thn (h1 pins s σ H { D with nx := u D } I h) fun f s1 q => ?_)
  cases f with
  | next =>
    obtain ⟨σ', H', I', q⟩ := q
    exact h2 pins s1 σ' H' D I' q
  | ret v => exact q
  | brk => exact q
  | cont => exact q
theorem pss_one (h1 : PS X st t) : PSs X [st] t := by
  intro pins s σ H D I h
  refine wpAny_execs_cons (thn (h1 pins s σ H D I h) fun f s1 q => ?_)
  cases f with
  | next => exact wpAny_execs_nil q
  | ret v => exact q
  | brk => exact q
  | cont => exact q
def tBreak : TS := fun D σ H => D.bk σ H
def tCont : TS := fun D σ H => D.ct σ H
theorem ps_pass : PS X (.Pass pos) tNext := fun _ _ σ H _ I h => wpAny_Pass ⟨σ, H, I, h⟩
theorem ps_break : PS X (.Break pos) tBreak := fun _ _ σ H _ I h => wpAny_Break ⟨σ, H, I, h⟩
theorem ps_continue : PS X (.Continue pos) tCont := fun _ _ σ H _ I h => wpAny_Continue ⟨σ, H, I, h⟩
/-- in a def's body nothing is shown -/
theorem Inv.quiet {pins : List (Addr × Obj)} {σ : St} {H : Hp} {s : Shared} (I : Inv X pins σ H s) : interactive X.env = false := by simp [interactive, I.ok.kind]
/-- a docstring -/
theorem ps_doc {x j pos pos'} : PS X (.Expr (.Constant (.str x) j pos) pos') tNext := fun _ s σ H _ I h => wpAny_Expr (Calls.Constant_str (show SP X _ _ .next { s with toks := s.toks + 1 } from ⟨σ, H, I.tok _, h⟩)) I.quiet
/-- an expression whose value is dropped -/
def tDrop (te : TE) : TS := fun D σ H => te σ H fun _ H1 => D.nx σ H1
theorem ps_expr (he : PE X e te) (hs : swapsWith e none pos.line X.env = pure false := by rfl) : PS X (.Expr e pos) (tDrop te) := by
  intro pins s σ H D I h
  exact wpAny_Expr_any (thn (he pins s σ H _ I h) fun v s1 ⟨x, H1, I1, r1, q1⟩ => ⟨σ, H1, I1, q1⟩) I.quiet hs
def tRet (te : TE) : TS := fun D σ H => te σ H D.rt
theorem ps_ret (he : PE X e te) : PS X (.Return (some e) pos) (tRet te) := by
  intro pins s σ H D I h
  exact wpAny_Return_some (thn (he pins s σ H _ I h) fun v s1 ⟨x, H1, I1, r1, q1⟩ => ⟨x, σ, H1, I1, r1, q1⟩)
def tRetN : TS := fun D _ H => D.rt .non H
theorem ps_retN : PS X (.Return none pos) tRetN := fun _ _ σ H _ I h => wpAny_Return_none ⟨.non, σ, H, I, rfl, h⟩
def tIfS (c : TT) (t u : TS) : TS := fun D σ H => c σ H fun b H1 => if b = true then t D σ H1 else u D σ H1
theorem ps_if {c : Expr} {a b : List Stmt} {tc : TT} (hc : PT X c tc) (ha : PSs X a t) (hb : PSs X b u) : PS X (.If c a b pos) (tIfS tc t u) := by
  intro pins s σ H D I h
  refine wpAny_If (thn (hc pins s σ H _ I h) fun d s1 ⟨H1, I1, q1⟩ => ?_)
  cases d with
  | true => exact ha pins s1 σ H1 D I1 q1
  | false => exact hb pins s1 σ H1 D I1 q1
/-- code that the proof never comes to -/
def tNever : TS := fun _ _ _ => False
theorem ps_never : PS X st tNever := fun _ _ _ _ _ _ h => h.elim
theorem pss_never {sts : List Stmt} : PSs X sts tNever := fun _ _ _ _ _ _ h => h.elim
end

/-! ### targets -/
abbrev TG := V → St → Hp → (St → Hp → Prop) → Prop
abbrev TGs := List V → St → Hp → (St → Hp → Prop) → Prop
def PG (X : Cx) (target : Expr) (t : TG) : Prop :=
  ∀ (pins : List (Addr × Obj)) (s : Shared) (σ : St) (H : Hp) (v : V) (u : Value) (Q : St → Hp → Prop), Inv X pins σ H s → RelV v u → t v σ H Q →
    wpAny (model X.prog X.w) X.A (assign target X.env u) (fun _ s' => ∃ σ' H', Inv X pins σ' H' s' ∧ Q σ' H') X.xe s
/-- several targets, one after another -/
def PGs (X : Cx) (ts : List Expr) (t : TGs) : Prop :=
  ∀ (pins : List (Addr × Obj)) (s : Shared) (σ : St) (H : Hp) (vs : List V) (us : List Value) (Q : St → Hp → Prop), Inv X pins σ H s → Vals vs us → t vs σ H Q →
    wpAny (model X.prog X.w) X.A (assignInOrder ((assignEach ts X.env).map (·.2)) us) (fun _ s' => ∃ σ' H', Inv X pins σ' H' s' ∧ Q σ' H') X.xe s
/-- o[i] = v, by values -/
abbrev TSet := V → V → V → Hp → (Hp → Prop) → Prop
def PSet (X : Cx) (t : TSet) : Prop :=
  ∀ (pins : List (Addr × Obj)) (s : Shared) (σ : St) (H : Hp) (o i v : V) (ov iv u : Value) (Q : Hp → Prop), Inv X pins σ H s → RelV o ov → RelV i iv → RelV v u → t o i v H Q →
    wpAny (model X.prog X.w) X.A (setItem ov iv u) (fun _ s' => ∃ H', Inv X pins σ H' s' ∧ Q H') X.xe s
/-- a op= b, by values -/
abbrev TIp := V → V → Hp → VK → Prop
def PIp (X : Cx) (op : Operator) (t : TIp) : Prop :=
  ∀ (pins : List (Addr × Obj)) (s : Shared) (σ : St) (H : Hp) (x y : V) (v u : Value) (Q : VK), Inv X pins σ H s → RelV x v → RelV y u → t x y H Q →
    wpAny (model X.prog X.w) X.A (inplaceOp op v u) (EP X pins σ Q) X.xe s
section
variable {X : Cx} {pos : Pos}
def gName (i : Nat) : TG := fun v σ H Q => Q (σ.set i (some v)) H
theorem pg_name {i : Nat} {x : Str} (hN : X.N.Nodup) (hi : X.N[i]? = some x) (hx : Loc X.env.scope x) (hf : X.fn x = true ∨ X.env.scope.names.lookup x = some .local := by first | exact .inl rfl | exact .inr rfl | assumption) : PG X (.Name x pos) (gName i) := by
  intro pins s σ H v u Q I r h
  exact wpAny_assign_Name (store_ok I hN hi hx r (fun s' I' => ⟨_, H, I', h⟩) hf)
def gNil : TGs := fun vs σ H Q => vs = [] ∧ Q σ H
def gCons (t : TG) (u : TGs) : TGs := fun vs σ H Q => ∃ v r, vs = v :: r ∧ t v σ H fun σ' H' => u r σ' H' Q
theorem pgs_nil : PGs X [] gNil := by
  intro pins s σ H vs us Q I r h
  obtain ⟨e, h⟩ := h
  subst e
  cases r
  exact assignInOrder_nil ⟨σ, H, I, h⟩
theorem pgs_cons {e : Expr} {es : List Expr} {t : TG} {u : TGs} (h1 : PG X e t) (h2 : PGs X es u)
    (hs : (assignEach (e :: es) X.env).map (·.2) = assign e X.env :: (assignEach es X.env).map (·.2) := by rfl) : PGs X (e :: es) (gCons t u) := by
  intro pins s σ H vs us Q I r h
  obtain ⟨v, vr, e1, h⟩ := h
  subst e1
  cases r with
  | cons r rr =>
    rw [hs]
    refine assignInOrder_cons (thn (h1 pins s σ H _ _ _ I r h) fun _ s1 ⟨σ1, H1, I1, q1⟩ => ?_)
    exact h2 pins s1 σ1 H1 _ _ Q I1 rr q1
/-- (a, b, ..) = a tuple of that length -/
def gTup (K : PySem.W.Frag) (n : Nat) (t : TGs) : TG := fun v σ H Q => ∃ a xs, v = .ref a ∧ SqT K H a xs ∧ xs.length = n ∧ t xs σ H Q
theorem pg_tup {es : List Expr} {k : Nat} {t : TGs} {n : Nat} (hc : X.calm = true) (h : PGs X es t)
    (hn : (assignEach es X.env).length = n := by rfl) (hst : (assignEach es X.env).findIdx? (·.1) = none := by rfl) : PG X (.Tuple es k pos) (gTup X.K n t) := by
  intro pins s σ H v u Q I r hw
  obtain ⟨a, xs, e1, hq, hl, hw⟩ := hw
  subst e1
  cases r
  obtain ⟨its, rv, ht, hz⟩ := I.tuple hq
  refine assign_Tuple_tuple (I.ok.hd hc) ht (by simp [hn, ← hl, rv.length]) hst fun h' hx => ?_
  have I1 : Inv X pins σ H { s with heap := h' } := I.kept (t' := s.toks) fun b o e => hx b o (Nat.ne_of_lt (Heap.lt_size e)) e
  exact h pins _ σ H xs _ Q I1 (by simpa using rv) hw
/-- o[i] = .. -/
def gSub (to ti : TE) (t : TSet) : TG := fun v σ H Q => to σ H fun o H1 => ti σ H1 fun i H2 => t o i v H2 fun H3 => Q σ H3
theorem pg_sub {o i : Expr} {to ti : TE} {t : TSet} (ho : PE X o to) (hi : PE X i ti) (hs : PSet X t)
    (ha : ∀ v, assign (.Subscript o i pos) X.env v = (do
      let ov ← holding [v] (eval o X.env)
      let iv ← holding [v, ov] (eval i X.env)
      standAt pos
      holding [v, ov, iv] (setItem ov iv v)
      release [v, ov, iv] []) := by intro _; rfl) : PG X (.Subscript o i pos) (gSub to ti t) := by
  intro pins s σ H v u Q I r h
  rw [ha]
  refine wpAny_bind (wpAny_holding (thn (ho pins s σ H _ I h) fun ov s1 ⟨x, H1, I1, r1, q1⟩ => ?_))
  refine wpAny_bind (wpAny_holding (thn (hi pins s1 σ H1 _ I1 q1) fun iv s2 ⟨y, H2, I2, r2, q2⟩ => ?_))
  refine wpAny_bind (wpAny_standAt (wpAny_bind (wpAny_holding (thn (hs pins s2 σ H2 x y v ov iv u _ I2 r1 r2 r q2) fun _ s3 ⟨H3, I3, q3⟩ => ?_))))
  exact wpAny_release ⟨σ, H3, I3, q3⟩
/-- target = value -/
def tAsg (te : TE) (g : TG) : TS := fun D σ H => te σ H fun x H1 => g x σ H1 D.nx
theorem ps_asg {tg e : Expr} {te : TE} {g : TG} (he : PE X e te) (hg : PG X tg g) (hs : swapsWithSole [tg] e pos.line X.env = pure false := by rfl) (hw : swappedStores [tg] e X.env = pure none := by rfl)
    (h1 : (assignEach [tg] X.env).map (·.2) = [assign tg X.env] := by rfl) : PS X (.Assign [tg] e pos) (tAsg te g) := by
  intro pins s σ H D I h
  refine wpAny_Assign_stores (thn (he pins s σ H _ I h) fun v s1 ⟨x, H1, I1, r1, q1⟩ => ?_) hs hw
  rw [h1]
  exact thn (hg pins s1 σ H1 x v _ I1 r1 q1) fun _ s2 q => q
/-- name = value -/
theorem ps_set {i : Nat} {x : Str} {e : Expr} {te : TE} {pos' : Pos} (hN : X.N.Nodup) (hi : X.N[i]? = some x) (hx : Loc X.env.scope x) (he : PE X e te) (hs : swapsWith e (some (.Name x pos')) pos.line X.env = pure false := by rfl) (hf : X.fn x = true ∨ X.env.scope.names.lookup x = some .local := by first | exact .inl rfl | exact .inr rfl | assumption) :
    PS X (.Assign [.Name x pos'] e pos) (tAsg te (gName i)) := by
  intro pins s σ H D I h
  refine wpAny_Assign_Name (thn (he pins s σ H _ I h) fun v s1 ⟨y, H1, I1, r1, q1⟩ => ?_) hs
  exact store_ok I1 hN hi hx r1 (fun s2 I2 => ⟨_, H1, I2, q1⟩) hf
/-- a, b = x, y with plain local names: stored from the right; the pair itself is not tracked (the opening rows as in PyProof/Rows/TupAssign.lean:23) -/
def tPar (i j : Nat) (ta : TA) : TS := fun D σ H => ta σ H fun vs H1 => ∃ v w, vs = [v, w] ∧ D.nx ((σ.set i (some v)).set j (some w)) H1
theorem ps_par {i j : Nat} {x y : Str} {a b : Expr} {ta : TA} {px py pt : Pos} {kt k2 pt2} (hc : X.calm = true) (hN : X.N.Nodup) (hi : X.N[i]? = some x) (hj : X.N[j]? = some y) (hij : i ≠ j)
    (hx : X.env.scope.names.lookup x = some .local) (hy : X.env.scope.names.lookup y = some .local) (ha : PA X [a, b] ta)
    (hw : swappedStores [.Tuple [.Name x px, .Name y py] kt pt] (.Tuple [a, b] k2 pt2) X.env = pure (some [x, y]))
    (hs : swapsWithSole [.Tuple [.Name x px, .Name y py] kt pt] (.Tuple [a, b] k2 pt2) pos.line X.env = pure false := by rfl) :
    PS X (.Assign [.Tuple [.Name x px, .Name y py] kt pt] (.Tuple [a, b] k2 pt2) pos) (tPar i j ta) := by
  intro pins s σ H D I h
  rw [exec_Assign_arm]
  refine wpAny_bind (wpAny_standAt ?_)
  rw [hs]
  refine wpAny_bind (wpAny_pure ?_)
  rw [if_neg (by decide)]
  refine wpAny_bind (Tuple_ (thn (ha _ pins s σ H _ I h) fun us s1 ⟨vs, H1, I1, r1, q1⟩ => ?_))
  obtain ⟨v, w, e1, q1⟩ := q1
  subst e1
  obtain ⟨u1, u2, rfl, rv, rw'⟩ : ∃ u1 u2, us = [u1, u2] ∧ RelV v u1 ∧ RelV w u2 := by
    cases r1 with
    | cons p q =>
      cases q with
      | cons p' q' =>
        cases q'
        exact ⟨_, _, rfl, p, p'⟩
  refine wpAny_newObj_type ?_ (by show 2 ≤ sizeLine; decide)
  have I2 : Inv X pins σ H1 { s1 with heap := s1.heap.push { cls := .type "tuple", data := .seq [u1, u2].toArray } } := I1.kept (t' := s1.toks) fun b o e => Heap.get?_push_of_some _ e
  rw [hw]
  refine wpAny_bind (wpAny_pure ?_)
  show wpAny (model X.prog X.w) X.A (do rule "assign.swapped-stores"; let items ← unpackItems (.ref s1.heap.objs.size) 2 none; assignInOrder [fun v => bindName X.env y v, fun v => bindName X.env x v] items.reverse; pure Flow.next) _ _ _
  refine wpAny_bind (wpAny_rule (wpAny_bind (unpackItems_tuple (items := #[u1, u2]) (I.ok.hd hc) (IsTup.new s1.heap _) fun h' hx' => ?_)))
  have I3 := I2.kept (h' := h') (t' := s1.toks) fun b o e => hx' b o (Nat.ne_of_lt (Heap.lt_size e)) e
  show wpAny _ _ (assignInOrder [fun v => bindName X.env y v, fun v => bindName X.env x v] [u2, u1] >>= fun _ => pure Flow.next) _ _ _
  refine wpAny_bind (assignInOrder_cons (wpAny_bindName (store_ok I3 hN hj (.inl hy) rw' (fun s2 I4 => ?_) (.inr hy))))
  refine assignInOrder_cons (wpAny_bindName (store_ok I4 hN hi (.inl hx) rv (fun s3 I5 => assignInOrder_nil (wpAny_pure ?_)) (.inr hx)))
  rw [List.set_comm _ _ (Ne.symm hij)] at I5
  exact ⟨_, H1, I5, q1⟩
/-- name op= e -/
def tAug (i : Nat) (te : TE) (ti : TIp) : TS := fun D σ H => ∃ x, σ[i]? = some (some x) ∧ te σ H fun y H1 => ti x y H1 fun z H2 => D.nx (σ.set i (some z)) H2
theorem ps_aug {i : Nat} {x : Str} {e : Expr} {te : TE} {op : Operator} {ti : TIp} {pos' : Pos} (hN : X.N.Nodup) (hi : X.N[i]? = some x) (hx : Loc X.env.scope x) (he : PE X e te) (ho : PIp X op ti) (hf : X.fn x = true ∨ X.env.scope.names.lookup x = some .local := by first | exact .inl rfl | exact .inr rfl | assumption) :
    PS X (.AugAssign (.Name x pos') op e pos) (tAug i te ti) := by
  intro pins s σ H D I h
  obtain ⟨v, e1, h⟩ := h
  obtain ⟨m, hn, hl⟩ := I.loc
  have vis : Vis X.env.scope x := by rcases hx with k | k; exact .inl k; exact .inr (.inl k)
  obtain ⟨u, r, l⟩ := hl i x v hi e1 vis
  refine wpAny_AugAssign_Name ?_
  have go : wpAny (model X.prog X.w) X.A (eval e X.env) (fun w s₂ => wpAny (model X.prog X.w) X.A (inplaceOp op u w) (fun r s₃ => wpAny (model X.prog X.w) X.A (storeName X.env x r) (fun _ => SP X pins D .next) X.xe s₃) X.xe s₂) X.xe s := by
    refine thn (he pins s σ H _ I h) fun w s1 ⟨y, H1, I1, r1, q1⟩ => ?_
    refine thn (ho pins s1 σ H1 v y u w _ I1 r r1 q1) fun z s2 ⟨zv, H2, I2, r2, q2⟩ => ?_
    exact store_ok I2 hN hi hx r2 (fun s3 I3 => ⟨_, H2, I3, q2⟩) hf
  rcases l with ⟨hk, hm⟩ | ⟨hk, c, hc, hcell⟩
  · exact wpAny_loadName_local I.ok.kind hk hn hm go
  · rcases hk with hk | hk
    · exact wpAny_loadName_cell I.ok.kind hk hc hcell go
    · rcases hx with k | k
      · have : X.env.scope.names.lookup x = some .free := hk
        rw [k] at this; cases this
      · have : X.env.scope.names.lookup x = some .free := hk
        rw [k] at this; cases this
/-- o[i] op= e -/
def tAugS (to ti te : TE) (tget : V → V → Hp → VK → Prop) (tip : TIp) (tset : TSet) : TS := fun D σ H => to σ H fun o H1 => ti σ H1 fun i H2 => tget o i H2 fun x H3 => te σ H3 fun y H4 => tip x y H4 fun z H5 => tset o i z H5 fun H6 => D.nx σ H6
/-- o[i], by values -/
def PGet (X : Cx) (t : V → V → Hp → VK → Prop) : Prop :=
  ∀ (pins : List (Addr × Obj)) (s : Shared) (σ : St) (H : Hp) (o i : V) (ov iv : Value) (Q : VK), Inv X pins σ H s → RelV o ov → RelV i iv → t o i H Q →
    wpAny (model X.prog X.w) X.A (getItem ov iv) (EP X pins σ Q) X.xe s
theorem ps_augS {o i e : Expr} {to ti te : TE} {tget : V → V → Hp → VK → Prop} {tip : TIp} {tset : TSet} {op : Operator} {tpos : Pos} (ho : PE X o to) (hi : PE X i ti) (hg : PGet X tget) (he : PE X e te) (hp : PIp X op tip) (hs : PSet X tset)
    (ha : ∀ ov iv new, augStore i ov iv new = (do holding [new, ov, iv] (setItem ov iv new); release [new, ov, iv] []; pure .next) := by intros; rfl) : PS X (.AugAssign (.Subscript o i tpos) op e pos) (tAugS to ti te tget tip tset) := by
  intro pins s σ H D I h
  refine wpAny_AugAssign_SubscriptAny (thn (ho pins s σ H _ I h) fun ov s1 ⟨x1, H1, I1, r1, q1⟩ => ?_) ha
  refine thn (hi pins s1 σ H1 _ I1 q1) fun iv s2 ⟨x2, H2, I2, r2, q2⟩ => ?_
  refine thn (hg pins s2 σ H2 x1 x2 ov iv _ I2 r1 r2 q2) fun old s3 ⟨x3, H3, I3, r3, q3⟩ => ?_
  refine thn (he pins s3 σ H3 _ I3 q3) fun v s4 ⟨x4, H4, I4, r4, q4⟩ => ?_
  refine thn (hp pins s4 σ H4 x3 x4 old v _ I4 r3 r4 q4) fun new s5 ⟨x5, H5, I5, r5, q5⟩ => ?_
  exact thn (hs pins s5 σ H5 x1 x2 x5 ov iv new _ I5 r1 r2 r5 q5) fun _ s6 ⟨H6, I6, q6⟩ => ⟨σ, H6, I6, q6⟩
/-- ints -/
def ipI (f : Int → Int → Int) : TIp := fun x y H Q => ∃ i j, x = .int i ∧ y = .int j ∧ Q (.int (f i j)) H
theorem ip_add : PIp X .Add (ipI fun i j => i + j) := by
  intro pins s σ H x y v u Q I r1 r2 h
  obtain ⟨i, j, e1, e2, q⟩ := h
  subst e1; subst e2
  obtain ⟨t, rfl⟩ := r1
  obtain ⟨t', rfl⟩ := r2
  exact iadd_int ⟨.int _, H, I.tok _, ⟨_, rfl⟩, q⟩
theorem ip_sub : PIp X .Sub (ipI fun i j => i - j) := by
  intro pins s σ H x y v u Q I r1 r2 h
  obtain ⟨i, j, e1, e2, q⟩ := h
  subst e1; subst e2
  obtain ⟨t, rfl⟩ := r1
  obtain ⟨t', rfl⟩ := r2
  exact isub_int ⟨.int _, H, I.tok _, ⟨_, rfl⟩, q⟩
end

/-! ### while -/
section
variable {X : Cx} {pos : Pos}
/-- the invariant W with its measure -/
def tWhile (c : TT) (tb : TS) : TS := fun D σ H => ∃ W : Nat → St → Hp → Prop, (∃ m, W m σ H) ∧ ∀ m σ H, W m σ H →
  c σ H fun b H1 => if b = true then ∃ N : St → Hp → Prop, (∀ σ' H', N σ' H' → ∃ m', m' < m ∧ W m' σ' H') ∧ tb { D with nx := N, ct := N, bk := D.nx } σ H1 else D.nx σ H1
theorem ps_while {c : Expr} {body : List Stmt} {tc : TT} {tb : TS} (hp : PassesOwn (model X.prog X.w) X.A X.env X.xe) (hc : PT X c tc) (hb : PSs X body tb) : PS X (.While c body [] pos) (tWhile tc tb) := by
  intro pins s σ H D I h
  obtain ⟨W, ⟨m0, w0⟩, turn⟩ := h
  refine wpAny_While (codeAny_whileLoop (fun n s' => ∃ σ' H', Inv X pins σ' H' s' ∧ W n σ' H') ?_ m0 ⟨σ, H, I, w0⟩)
  rintro n s1 ⟨σ1, H1, I1, w1⟩
  refine wpAny_passesOwn hp (thn (hc pins s1 σ1 H1 _ I1 (turn n σ1 H1 w1)) fun b s2 ⟨H2, I2, q2⟩ => ?_)
  cases b with
  | true =>
    obtain ⟨N, hN, q2⟩ := q2
    rw [if_pos rfl]
    refine wpAny_passesOwn hp (thn (hb pins s2 σ1 H2 _ I2 q2) fun f s3 q3 => ?_)
    cases f with
    | next =>
      obtain ⟨σ3, H3, I3, n3⟩ := q3
      obtain ⟨m', hm, w3⟩ := hN σ3 H3 n3
      exact ⟨m', hm, σ3, H3, I3, w3⟩
    | cont =>
      obtain ⟨σ3, H3, I3, n3⟩ := q3
      obtain ⟨m', hm, w3⟩ := hN σ3 H3 n3
      exact ⟨m', hm, σ3, H3, I3, w3⟩
    | brk => exact q3
    | ret v => exact q3
  | false =>
    rw [if_neg Bool.false_ne_true]
    exact wpAny_execs_nil ⟨σ1, H2, I2, q2⟩
end

/-! ### what a loop or a comprehension walks -/
/-- at turn i: it yields x (the heap may grow), or it stops -/
structure It where
  go : Nat → Hp → Prop
  yld : Nat → Hp → V → Hp → Prop
  stop : Nat → Hp → Prop
/-- the iterator's own objects may turn: they are not the frame's, not pinned, younger than the entry (or a comprehension's own) -/
def FpOk (X : Cx) (pins : List (Addr × Obj)) (H : Hp) (b : Addr) : Prop :=
  H b = none ∧ b ≠ X.env.locals ∧ b ∉ X.fs ∧ (b ∈ X.ex ∨ X.s₀.heap.objs.size ≤ b) ∧ (∀ x c, X.env.cells.lookup x = some c → c ≠ b) ∧ ∀ p ∈ X.pn ++ pins, p.1 ≠ b
theorem Inv.fpOk {X : Cx} {pins : List (Addr × Obj)} {σ : St} {H H' : Hp} {s : Shared} {b : Addr} (I : Inv X pins σ H s) (hb : s.heap.objs.size ≤ b) (hn : H' b = none) : FpOk X pins H' b := by
  refine ⟨hn, Nat.ne_of_gt (Nat.lt_of_lt_of_le I.lt hb), I.nofs hb, .inr (Nat.le_trans I.sz hb), fun x c e z => ?_, fun p hp z => ?_⟩
  · obtain ⟨v, q⟩ := I.cell x c e
    exact absurd (Nat.lt_of_lt_of_le q.lt (by rw [z]; exact hb)) (Nat.lt_irrefl _)
  · exact absurd (Nat.lt_of_lt_of_le (Heap.lt_size (I.pin p hp).1) (by rw [z]; exact hb)) (Nat.lt_irrefl _)
structure Turn (P : Program) (w : World) (K : PySem.W.Frag) (tg : Expr) (J : It) (fp : List Addr) (it : Addr) (tn : Nat → Heap → Prop) : Prop where
  mem : it ∈ fp
  obj : ∀ i h, tn i h → ∀ b ∈ fp, ∃ o, h.get? b = some o ∧ ∀ v, o.data ≠ .cell v
  keep : ∀ i h h', tn i h → (∀ b ∈ fp, ∀ o, h.get? b = some o → h'.get? b = some o) → tn i h'
  item : ∀ (X : Cx), X.prog = P → X.w = w → X.K = K → X.calm = true → ∀ (i : Nat) (pins : List (Addr × Obj)) (s : Shared) (σ : St) (H : Hp) (E : Value → Shared → Prop), Inv X pins σ H s → (∀ b ∈ fp, FpOk X pins H b) → tn i s.heap → J.go i H →
    wpAny (model P w) X.A (pyNext (.ref it)) (fun r s1 => ∃ u, r = some u ∧
      wpAny (model P w) X.A (letOwnedTupleGo tg (.ref it) u) (fun _ s2 => ∃ x H', Inv X pins σ H' s2 ∧ RelV x u ∧ J.yld i H x H' ∧ tn (i + 1) s2.heap ∧ ∀ b ∈ fp, H' b = none) E s1) E s
  done : ∀ (X : Cx), X.prog = P → X.w = w → X.K = K → X.calm = true → ∀ (i : Nat) (pins : List (Addr × Obj)) (s : Shared) (σ : St) (H : Hp) (E : Value → Shared → Prop), Inv X pins σ H s → (∀ b ∈ fp, FpOk X pins H b) → tn i s.heap → J.stop i H →
    wpAny (model P w) X.A (pyNext (.ref it)) (fun r s1 => r = none ∧ Inv X pins σ H s1) E s
  self : ∀ (A : Around) (i : Nat) (s : Shared) (Q : Value → Shared → Prop) (E : Value → Shared → Prop), tn i s.heap → Q (.ref it) s → wpAny (model P w) A (pyIter (.ref it)) Q E s
abbrev TI := St → Hp → (It → Hp → Prop) → Prop
/-- an iterator has come -/
def PIE (X : Cx) (pins : List (Addr × Obj)) (σ : St) (tg : Expr) (R : It → Hp → Prop) (itv : Value) (s2 : Shared) : Prop :=
  ∃ (it : Addr) (fp : List Addr) (tn : Nat → Heap → Prop) (J : It) (H' : Hp), itv = .ref it ∧ Inv X pins σ H' s2 ∧ Turn X.prog X.w X.K tg J fp it tn ∧ tn 0 s2.heap ∧ (∀ b ∈ fp, FpOk X pins H' b) ∧ R J H'
def PI (X : Cx) (tg iter : Expr) (wi : TI) : Prop :=
  ∀ (pins : List (Addr × Obj)) (s : Shared) (σ : St) (H : Hp) (R : It → Hp → Prop), Inv X pins σ H s → wi σ H R →
    wpAny (model X.prog X.w) X.A (eval iter X.env) (fun v s1 => wpAny (model X.prog X.w) X.A (pyIter v) (PIE X pins σ tg R) X.xe s1) X.xe s

/-- the step ahead of the store is nothing for an iterator that keeps no tuple -/
theorem go_of {M : Model} {A : Around} {E : Value → Shared → Prop} {s : Shared} {tg : Expr} {it : Addr} {u : Value} {o : Obj} {n : String} {vs : Array Value} {Q : Unit → Shared → Prop} (ho : s.heap.get? it = some o) (hc : o.cls = .type n) (hd : o.data = .fields vs)
    (hn : ["enumerate", "zip", "dict_itemiterator", "dict_reverseitemiterator", "odict_iterator", "itertools.zip_longest", "itertools.pairwise"].contains n = false) (hQ : Q () s) : wpAny M A (letOwnedTupleGo tg (.ref it) u) Q E s := by
  unfold letOwnedTupleGo
  cases tg <;> first
    | exact wpAny_pure hQ
    | (cases u <;> first
        | exact wpAny_pure hQ
        | (refine wpAny_bind (wpAny_load ho ?_)
           rw [hc, hd]
           show wpAny M A (if (["enumerate", "zip", "dict_itemiterator", "dict_reverseitemiterator", "odict_iterator", "itertools.zip_longest", "itertools.pairwise"].contains n && vs[0]? == some (rawInt _)) = true then _ else _) Q E s
           rw [if_neg (by intro h; rw [hn, Bool.false_and] at h; cases h)]
           exact wpAny_pure hQ))

/-- the list at a, as it stands at each turn (a loop may append to it) -/
def Itl (K : PySem.W.Frag) (a : Addr) : It :=
  ⟨fun i H => ∃ xs x, SqL K H a xs ∧ xs[i]? = some x, fun i H x H' => H' = H ∧ ∀ xs, SqL K H a xs → xs[i]? = some x, fun i H => ∃ xs, SqL K H a xs ∧ xs.length ≤ i⟩
def Itt (K : PySem.W.Frag) (a : Addr) : It :=
  ⟨fun i H => ∃ xs x, SqT K H a xs ∧ xs[i]? = some x, fun i H x H' => H' = H ∧ ∀ xs, SqT K H a xs → xs[i]? = some x, fun i H => ∃ xs, SqT K H a xs ∧ xs.length ≤ i⟩
/-- lo, lo + 1, .. (n of them) -/
def Itr (lo : Int) (n : Nat) : It := ⟨fun i _ => i < n, fun i H x H' => H' = H ∧ x = .int (lo + i), fun i _ => n ≤ i⟩
theorem turn_list {P : Program} {w : World} {K : PySem.W.Frag} {tg : Expr} (a it : Addr) : Turn P w K tg (Itl K a) [it] it (fun i h => h.IsListIter it a i) where
  mem := by simp
  obj := fun i h st b hb => by
    have e : b = it := by simpa using hb
    subst e
    obtain ⟨o, e, c, d⟩ := st
    exact ⟨o, e, fun v z => by rw [d] at z; cases z⟩
  keep := fun i h h' st k => st.at fun o e => k it (by simp) o e
  item := by
    intro X hP hw hK hc i pins s σ H E I hf st hg
    subst hP hw hK
    obtain ⟨xs, x, hq, hx⟩ := hg
    obtain ⟨its, rv, p, hz⟩ := I.list hq
    obtain ⟨u, hu, ru⟩ := rv.get hx
    obtain ⟨f0, f1, f2, f3, f4, f5⟩ := hf it (by simp)
    refine wpAny_pyNext_list_item st p.isList (x := u) (by simpa using hu) fun h' st' sb => ?_
    have I1 : Inv X pins σ H { s with heap := h' } := I.turned (t' := s.toks) (fun b o hb e => (sb.2 b hb).trans e) f0 f1 f3 f4 f5
    obtain ⟨o, e, c, d⟩ := id st'
    exact ⟨u, rfl, go_of (s := { s with heap := h' }) e c d (by decide) ⟨x, H, I1, ru, ⟨rfl, fun ys hy => by rw [I.list_inj hy hq]; exact hx⟩, st', fun b hb => (hf b hb).1⟩⟩
  done := by
    intro X hP hw hK hc i pins s σ H E I hf st hg
    subst hP hw hK
    obtain ⟨xs, hq, hx⟩ := hg
    obtain ⟨its, rv, p, hz⟩ := I.list hq
    obtain ⟨f0, f1, f2, f3, f4, f5⟩ := hf it (by simp)
    have hl := rv.length
    exact wpAny_pyNext_list_end (I.ok.hd hc) st p.isList (by simp; omega) fun h' eb => ⟨rfl, I.turned (t' := s.toks) (fun b o hb e => eb b o hb e) f0 f1 f3 f4 f5⟩
  self := fun _ _ _ _ _ st h => wpAny_pyIter_listiter st h
theorem turn_tuple {P : Program} {w : World} {K : PySem.W.Frag} {tg : Expr} (a it : Addr) : Turn P w K tg (Itt K a) [it] it (fun i h => h.IsTupleIter it a i) where
  mem := by simp
  obj := fun i h st b hb => by
    have e : b = it := by simpa using hb
    subst e
    obtain ⟨o, e, c, d⟩ := st
    exact ⟨o, e, fun v z => by rw [d] at z; cases z⟩
  keep := fun i h h' st k => st.at fun o e => k it (by simp) o e
  item := by
    intro X hP hw hK hc i pins s σ H E I hf st hg
    subst hP hw hK
    obtain ⟨xs, x, hq, hx⟩ := hg
    obtain ⟨its, rv, p, hz⟩ := I.tuple hq
    obtain ⟨u, hu, ru⟩ := rv.get hx
    obtain ⟨f0, f1, f2, f3, f4, f5⟩ := hf it (by simp)
    refine wpAny_pyNext_tuple_item st (show s.heap.IsTuple a its.toArray from p) (x := u) (by simpa using hu) fun h' st' sb => ?_
    have I1 : Inv X pins σ H { s with heap := h' } := I.turned (t' := s.toks) (fun b o hb e => (sb.2 b hb).trans e) f0 f1 f3 f4 f5
    obtain ⟨o, e, c, d⟩ := id st'
    exact ⟨u, rfl, go_of (s := { s with heap := h' }) e c d (by decide) ⟨x, H, I1, ru, ⟨rfl, fun ys hy => by rw [I.tuple_inj hy hq]; exact hx⟩, st', fun b hb => (hf b hb).1⟩⟩
  done := by
    intro X hP hw hK hc i pins s σ H E I hf st hg
    subst hP hw hK
    obtain ⟨xs, hq, hx⟩ := hg
    obtain ⟨its, rv, p, hz⟩ := I.tuple hq
    obtain ⟨f0, f1, f2, f3, f4, f5⟩ := hf it (by simp)
    have hl := rv.length
    exact wpAny_pyNext_tuple_end (I.ok.hd hc) st (show s.heap.IsTuple a its.toArray from p) (by simp; omega) fun h' eb => ⟨rfl, I.turned (t' := s.toks) (fun b o hb e => eb b o hb e) f0 f1 f3 f4 f5⟩
  self := fun _ _ _ _ _ st h => wpAny_pyIter_tupleiter st h
theorem turn_range {P : Program} {w : World} {K : PySem.W.Frag} {tg : Expr} (it : Addr) (lo : Int) (n : Nat) : Turn P w K tg (Itr lo n) [it] it (fun i h => IsRangeIter h it (lo + (i : Nat) * 1) ((n : Int) - (i : Nat)) 1) where
  mem := by simp
  obj := fun i h st b hb => by
    have e : b = it := by simpa using hb
    subst e
    exact ⟨_, st, fun v z => by
      have z' : Data.fields _ = Data.cell v := z
      cases z'⟩
  keep := fun i h h' st k => k it (by simp) _ st
  item := by
    intro X hP hw hK hc i pins s σ H E I hf st hg
    subst hP hw hK
    obtain ⟨f0, f1, f2, f3, f4, f5⟩ := hf it (by simp)
    have W := Walks.range (prog := X.prog) (w := X.w) (I.ok.hd hc) it lo 1 n
    refine W.item i s _ _ hg st fun v h' tk hv st' kk => ?_
    obtain ⟨t, rfl⟩ := hv
    have I1 : Inv X pins σ H { s with heap := h', toks := tk } := I.turned (fun b o hb e => kk b o (by simpa using hb) e) f0 f1 f3 f4 f5
    refine ⟨_, rfl, go_of (s := { s with heap := h', toks := tk }) (n := "range_iterator") st' rfl rfl (by decide) ⟨.int (lo + i), H, I1, ⟨t, ?_⟩, ⟨rfl, rfl⟩, st', fun b hb => (hf b hb).1⟩⟩
    rw [Int.mul_one]
  done := by
    intro X hP hw hK hc i pins s σ H E I hf st hg
    subst hP hw hK
    obtain ⟨f0, f1, f2, f3, f4, f5⟩ := hf it (by simp)
    exact wpAny_pyNext_range_end (I.ok.hd hc) st (by have : n ≤ i := hg; omega) fun h' eb => ⟨rfl, I.turned (t' := s.toks) (fun b o hb e => eb b o hb e) f0 f1 f3 f4 f5⟩
  self := fun _ _ _ _ _ st h => wpAny_pyIter_rangeiter st h
end L2

namespace L2
open PySem PySem.Spec PyProof.Rows
section
variable {X : Cx} {tg : Expr}
def iList (K : PySem.W.Frag) (tl : TE) : TI := fun σ H R => tl σ H fun x H1 => ∃ a, x = .ref a ∧ (∃ xs, SqL K H1 a xs) ∧ R (Itl K a) H1
def iTup (K : PySem.W.Frag) (tl : TE) : TI := fun σ H R => tl σ H fun x H1 => ∃ a, x = .ref a ∧ (∃ xs, SqT K H1 a xs) ∧ R (Itt K a) H1
theorem pi_list {l : Expr} {tl : TE} (hl : PE X l tl) : PI X tg l (iList X.K tl) := by
  intro pins s σ H R I h
  refine thn (hl pins s σ H _ I h) fun v s1 ⟨x, H1, I1, r1, q1⟩ => ?_
  obtain ⟨a, e, ⟨xs, hq⟩, q⟩ := q1
  subst e
  cases r1
  obtain ⟨its, rv, p, hz⟩ := I1.list hq
  refine wpAny_pyIter_list p.isList ?_
  refine ⟨s1.heap.objs.size, [s1.heap.objs.size], _, _, H1, rfl, I1.kept (t' := s1.toks) fun b o e => Heap.get?_push_of_some _ e, turn_list a _, ⟨_, Heap.get?_push_size _ rfl, rfl, rfl⟩, fun b hb => ?_, q⟩
  have e : b = s1.heap.objs.size := by simpa using hb
  subst e
  exact I1.fpOk (Nat.le_refl _) (I1.hok.fresh (Nat.le_refl _))
theorem pi_tup {l : Expr} {tl : TE} (hl : PE X l tl) : PI X tg l (iTup X.K tl) := by
  intro pins s σ H R I h
  refine thn (hl pins s σ H _ I h) fun v s1 ⟨x, H1, I1, r1, q1⟩ => ?_
  obtain ⟨a, e, ⟨xs, hq⟩, q⟩ := q1
  subst e
  cases r1
  obtain ⟨its, rv, p, hz⟩ := I1.tuple hq
  refine wpAny_pyIter_tuple (show s1.heap.IsTuple a its.toArray from p) ?_
  refine ⟨s1.heap.objs.size, [s1.heap.objs.size], _, _, H1, rfl, I1.kept (t' := s1.toks) fun b o e => Heap.get?_push_of_some _ e, turn_tuple a _, ⟨_, Heap.get?_push_size _ rfl, rfl, rfl⟩, fun b hb => ?_, q⟩
  have e : b = s1.heap.objs.size := by simpa using hb
  subst e
  exact I1.fpOk (Nat.le_refl _) (I1.hok.fresh (Nat.le_refl _))
/-- a range object just made, walked -/
theorem range_it {pins : List (Addr × Obj)} {σ : St} {H : Hp} {s : Shared} {R : It → Hp → Prop} {E : Value → Shared → Prop} {lo hi : Int} {t u v : Tok} {tk : Nat} (I : Inv X pins σ H s) (h1 : -(2 ^ 62) ≤ lo) (h2 : lo < 2 ^ 62) (h3 : -(2 ^ 62) ≤ hi) (h4 : hi < 2 ^ 62)
    (q : R (Itr lo (hi - lo).toNat) H) : wpAny (model X.prog X.w) X.A (pyIter (.ref s.heap.objs.size)) (PIE X pins σ tg R) E { s with heap := s.heap.push { cls := .type "range", data := .fields #[.int lo t, .int hi u, .int 1 v] }, toks := tk } := by
  refine wpAny_pyIter_range (IsRange.new ..) (small_one h1 h2 h3 h4) ?_
  have I1 : Inv X pins σ H { s with heap := s.heap.push { cls := .type "range", data := .fields #[.int lo t, .int hi u, .int 1 v] }, toks := tk } := I.kept fun b o e => Heap.get?_push_of_some _ e
  refine ⟨(s.heap.push { cls := .type "range", data := .fields #[.int lo t, .int hi u, .int 1 v] }).objs.size, [(s.heap.push { cls := .type "range", data := .fields #[.int lo t, .int hi u, .int 1 v] }).objs.size], _, _, H, rfl,
    I1.kept (t' := tk) fun b o e => Heap.get?_push_of_some _ e, turn_range _ lo (hi - lo).toNat, ?_, fun b hb => ?_, q⟩
  · have e1 : lo + ((0 : Nat) : Int) * 1 = lo := by simp
    have e2 : (((hi - lo).toNat : Nat) : Int) - ((0 : Nat) : Int) = Builtin.Range.rangeSize lo hi 1 := by rw [rangeSize_one]; split <;> omega
    show IsRangeIter _ _ (lo + ((0 : Nat) : Int) * 1) ((((hi - lo).toNat : Nat) : Int) - ((0 : Nat) : Int)) 1
    rw [e1, e2]
    exact Heap.get?_push_size _ rfl
  · have e : b = (s.heap.push { cls := .type "range", data := .fields #[.int lo t, .int hi u, .int 1 v] }).objs.size := by simpa using hb
    subst e
    exact I1.fpOk (Nat.le_refl _) (I1.hok.fresh (Nat.le_refl _))
def iRng1 (ta : TA) : TI := fun σ H R => ta σ H fun vs H1 => ∃ j : Int, vs = [.int j] ∧ -(2 ^ 62) ≤ j ∧ j < 2 ^ 62 ∧ R (Itr 0 j.toNat) H1
def iRng2 (ta : TA) : TI := fun σ H R => ta σ H fun vs H1 => ∃ i j : Int, vs = [.int i, .int j] ∧ (-(2 ^ 62) ≤ i ∧ i < 2 ^ 62 ∧ -(2 ^ 62) ≤ j ∧ j < 2 ^ 62) ∧ R (Itr i (j - i).toNat) H1
theorem pi_range1 {a : Expr} {ta : TA} {p pos : Pos} (hg : Gl X "range") (hm : X.mg "range" = none) (ha : PA X [a] ta) (hs : starEach [a] X.env = [(false, eval a X.env)] := by rfl) : PI X tg (.Call (.Name "range" p) [a] [] pos) (iRng1 ta) := by
  intro pins s σ H R I h
  refine Call_ (ld_blt I hg hm boot_range (PyProof.Rows.callWith_type1 (thn (ha pos pins s σ H _ I h) fun us s1 ⟨vs, H1, I1, r1, q1⟩ => ?_) hs rfl))
  obtain ⟨j, e, q1, q2, q⟩ := q1
  subst e
  cases r1 with
  | cons r rr =>
    cases rr
    obtain ⟨t, rfl⟩ := r
    exact call_range_1 (range_it I1 (by omega) (by omega) q1 q2 (by simpa using q))
theorem pi_range2 {a b : Expr} {ta : TA} {p pos : Pos} (hg : Gl X "range") (hm : X.mg "range" = none) (ha : PA X [a, b] ta) (hs : starEach [a, b] X.env = [(false, eval a X.env), (false, eval b X.env)] := by rfl) (hs2 : starEach [b] X.env = [(false, eval b X.env)] := by rfl) :
    PI X tg (.Call (.Name "range" p) [a, b] [] pos) (iRng2 ta) := by
  intro pins s σ H R I h
  refine Call_ (ld_blt I hg hm boot_range (PyProof.Rows.callWith_type1 (thn (ha pos pins s σ H _ I h) fun us s1 ⟨vs, H1, I1, r1, q1⟩ => ?_) (by rw [hs, hs2]) (by rw [hs2]; rfl)))
  obtain ⟨i, j, e, ⟨q1, q2, q3, q4⟩, q⟩ := q1
  subst e
  cases r1 with
  | cons r rr =>
    cases rr with
    | cons r' rr =>
      cases rr
      obtain ⟨t, rfl⟩ := r
      obtain ⟨t', rfl⟩ := r'
      exact call_range_2 (range_it I1 q1 q2 q3 q4 q)

/-! ### for -/
/-- W: the invariant by the turn and a measure; N: what the body is to reach -/
def tFor (wi : TI) (g : TG) (tb : TS) : TS := fun D σ H => wi σ H fun J H1 => ∃ W : Nat → Nat → St → Hp → Prop, (∃ m, W 0 m σ H1) ∧ ∀ i m σ H, W i m σ H →
  (J.stop i H ∧ D.nx σ H) ∨ (J.go i H ∧ ∃ N : St → Hp → Prop, (∀ σ' H', N σ' H' → ∃ m', m' < m ∧ W (i + 1) m' σ' H') ∧ ∀ x H', J.yld i H x H' → g x σ H' fun σ2 H2 => tb { D with nx := N, ct := N, bk := D.nx } σ2 H2)
/-- the records at fp as they stand -/
def pinsAt (fp : List Addr) (h : Heap) : List (Addr × Obj) := fp.filterMap fun b => (h.get? b).map fun o => (b, o)
theorem mem_pinsAt {fp : List Addr} {h : Heap} {b : Addr} {o : Obj} (hb : b ∈ fp) (e : h.get? b = some o) : (b, o) ∈ pinsAt fp h := List.mem_filterMap.mpr ⟨b, hb, by rw [e]; rfl⟩
theorem of_pinsAt {fp : List Addr} {h : Heap} {p : Addr × Obj} (hp : p ∈ pinsAt fp h) : p.1 ∈ fp ∧ h.get? p.1 = some p.2 := by
  obtain ⟨b, hb, e⟩ := List.mem_filterMap.mp hp
  cases q : h.get? b with
  | none => rw [q] at e; cases e
  | some o =>
    rw [q] at e
    have e' : (b, o) = p := Option.some.inj e
    subst e'
    exact ⟨hb, q⟩
theorem Inv.pinned {pins : List (Addr × Obj)} {σ : St} {H : Hp} {s : Shared} {fp : List Addr} (I : Inv X pins σ H s) (hf : ∀ b ∈ fp, FpOk X pins H b) (ho : ∀ b ∈ fp, ∃ o, s.heap.get? b = some o ∧ ∀ v, o.data ≠ .cell v) : Inv X (pins ++ pinsAt fp s.heap) σ H s :=
  I.pins_of fun p hp => (List.mem_append.mp hp).elim (fun z => I.pin p (List.mem_append_right _ z)) fun z => by
    obtain ⟨hb, e⟩ := of_pinsAt z
    obtain ⟨f0, f1, f2, _⟩ := hf p.1 hb
    obtain ⟨o, e', d⟩ := ho p.1 hb
    rw [e] at e'; cases e'
    exact ⟨e, f0, f1, f2, d⟩
theorem Inv.unpinned {pins pl : List (Addr × Obj)} {σ : St} {H : Hp} {s : Shared} (I : Inv X (pins ++ pl) σ H s) : Inv X pins σ H s := I.pins_of fun p hp => I.pin p (List.mem_append_right _ (List.mem_append_left _ hp))
theorem ps_for {iter : Expr} {body : List Stmt} {wi : TI} {g : TG} {tb : TS} {pos : Pos} (hp : PassesOwn (model X.prog X.w) X.A X.env X.xe) (hc : X.calm = true) (hi : PI X tg iter wi) (hg : PG X tg g) (hb : PSs X body tb)
    (hs : ∀ x, foldedSetIterable iter X.env x = pure x := by intro _; rfl) : PS X (.For tg iter body [] pos) (tFor wi g tb) := by
  intro pins s σ H D I h
  refine wpAny_For (thn (hi pins s σ H _ I h) fun v s1 h1 => thn h1 fun itv s2 h2 => ?_) hs
  obtain ⟨it, fp, tn, J, H2, e, I2, T, st2, f2, W, ⟨m0, w0⟩, turn⟩ := h2
  subst e
  -- what stays true of the iterator's objects through the loop
  have stat : ∀ {H' : Hp}, (∀ b ∈ fp, H' b = none) → ∀ b ∈ fp, FpOk X pins H' b := fun hn b hb => ⟨hn b hb, (f2 b hb).2⟩
  refine codeAny_forLoop_any (fun n s' => ∃ i σ' H', Inv X pins σ' H' s' ∧ tn i s'.heap ∧ (∀ b ∈ fp, H' b = none) ∧ W i n σ' H') ?_ m0 ⟨0, σ, H2, I2, st2, fun b hb => (f2 b hb).1, w0⟩
  rintro n s3 ⟨i, σ3, H3, I3, st3, fr3, w3⟩
  rcases turn i n σ3 H3 w3 with ⟨stop, qn⟩ | ⟨go, N, hN, step⟩
  · refine wpAny_passesOwn hp (thn (T.done X rfl rfl rfl hc i pins s3 σ3 H3 X.xe I3 (stat fr3) st3 stop) fun r s4 ⟨hr, I4⟩ => ?_)
    subst hr
    exact wpAny_execs_nil ⟨σ3, H3, I4, qn⟩
  · refine wpAny_passesOwn hp (thn (T.item X rfl rfl rfl hc i pins s3 σ3 H3 X.xe I3 (stat fr3) st3 go) fun r s4 ⟨u, hr, h4⟩ => ?_)
    subst hr
    refine wpAny_passesOwn hp (thn h4 fun _ s5 ⟨x, H5, I5, r5, y5, st5, fr5⟩ => ?_)
    have I5' := I5.pinned (stat fr5) (T.obj _ _ st5)
    refine wpAny_passesOwn hp (thn (hg _ s5 σ3 H5 x u _ I5' r5 (step x H5 y5)) fun _ s6 ⟨σ6, H6, I6, q6⟩ => ?_)
    refine wpAny_passesOwn hp (thn (hb _ s6 σ6 H6 _ I6 q6) fun f s7 q7 => ?_)
    have again : ∀ {σ7 : St} {H7 : Hp}, Inv X (pins ++ pinsAt fp s5.heap) σ7 H7 s7 → N σ7 H7 → ∃ m, m < n ∧ ∃ i σ' H', Inv X pins σ' H' s7 ∧ tn i s7.heap ∧ (∀ b ∈ fp, H' b = none) ∧ W i m σ' H' := fun {σ7 H7} I7 n7 => by
      obtain ⟨m', hm, w7⟩ := hN σ7 H7 n7
      refine ⟨m', hm, i + 1, σ7, H7, I7.unpinned, T.keep _ _ _ st5 fun b hb o e => (I7.pin (b, o) (List.mem_append_right _ (List.mem_append_right _ (mem_pinsAt hb e)))).1, fun b hb => ?_, w7⟩
      obtain ⟨o, e, d⟩ := T.obj _ _ st5 b hb
      exact (I7.pin (b, o) (List.mem_append_right _ (List.mem_append_right _ (mem_pinsAt hb e)))).2.1
    cases f with
    | next => obtain ⟨σ7, H7, I7, n7⟩ := q7; exact again I7 n7
    | cont => obtain ⟨σ7, H7, I7, n7⟩ := q7; exact again I7 n7
    | brk => obtain ⟨σ7, H7, I7, q7⟩ := q7; exact ⟨σ7, H7, I7.unpinned, q7⟩
    | ret v => obtain ⟨x7, σ7, H7, I7, r7, q7⟩ := q7; exact ⟨x7, σ7, H7, I7.unpinned, r7, q7⟩
end

/-! ### the forms one uses -/
/-- over a list that the body leaves as it is -/
theorem for_list {K : PySem.W.Frag} {a : Addr} {xs : List V} {g : TG} {tb : TS} {D : Ends} {σ : St} {H : Hp} (Pv : Nat → St → Hp → Prop) (h0 : Pv 0 σ H) (hl : ∀ i σ H, i ≤ xs.length → Pv i σ H → SqL K H a xs)
    (hs : ∀ i x σ H, xs[i]? = some x → Pv i σ H → g x σ H fun σ2 H2 => tb { D with nx := Pv (i + 1), ct := Pv (i + 1), bk := D.nx } σ2 H2) (hd : ∀ σ H, Pv xs.length σ H → D.nx σ H) :
    ∃ W : Nat → Nat → St → Hp → Prop, (∃ m, W 0 m σ H) ∧ ∀ i m σ H, W i m σ H →
      ((Itl K a).stop i H ∧ D.nx σ H) ∨ ((Itl K a).go i H ∧ ∃ N : St → Hp → Prop, (∀ σ' H', N σ' H' → ∃ m', m' < m ∧ W (i + 1) m' σ' H') ∧ ∀ x H', (Itl K a).yld i H x H' → g x σ H' fun σ2 H2 => tb { D with nx := N, ct := N, bk := D.nx } σ2 H2) := by
  refine ⟨fun i m σ H => m = xs.length - i ∧ i ≤ xs.length ∧ Pv i σ H, ⟨xs.length, by simp, Nat.zero_le _, h0⟩, ?_⟩
  rintro i m σ H ⟨rfl, hi, p⟩
  have q := hl i σ H hi p
  by_cases hlt : i < xs.length
  · refine .inr ⟨⟨xs, xs[i], q, by simp [hlt]⟩, Pv (i + 1), fun σ' H' p' => ⟨xs.length - (i + 1), by omega, rfl, hlt, p'⟩, fun x H' y => ?_⟩
    obtain ⟨e, y⟩ := y
    subst e
    exact hs i x σ _ (y xs q) p
  · have e : i = xs.length := by omega
    subst e
    exact .inl ⟨⟨xs, q, Nat.le_refl _⟩, hd σ H p⟩
theorem for_tup {K : PySem.W.Frag} {a : Addr} {xs : List V} {g : TG} {tb : TS} {D : Ends} {σ : St} {H : Hp} (Pv : Nat → St → Hp → Prop) (h0 : Pv 0 σ H) (hl : ∀ i σ H, i ≤ xs.length → Pv i σ H → SqT K H a xs)
    (hs : ∀ i x σ H, xs[i]? = some x → Pv i σ H → g x σ H fun σ2 H2 => tb { D with nx := Pv (i + 1), ct := Pv (i + 1), bk := D.nx } σ2 H2) (hd : ∀ σ H, Pv xs.length σ H → D.nx σ H) :
    ∃ W : Nat → Nat → St → Hp → Prop, (∃ m, W 0 m σ H) ∧ ∀ i m σ H, W i m σ H →
      ((Itt K a).stop i H ∧ D.nx σ H) ∨ ((Itt K a).go i H ∧ ∃ N : St → Hp → Prop, (∀ σ' H', N σ' H' → ∃ m', m' < m ∧ W (i + 1) m' σ' H') ∧ ∀ x H', (Itt K a).yld i H x H' → g x σ H' fun σ2 H2 => tb { D with nx := N, ct := N, bk := D.nx } σ2 H2) := by
  refine ⟨fun i m σ H => m = xs.length - i ∧ i ≤ xs.length ∧ Pv i σ H, ⟨xs.length, by simp, Nat.zero_le _, h0⟩, ?_⟩
  rintro i m σ H ⟨rfl, hi, p⟩
  have q := hl i σ H hi p
  by_cases hlt : i < xs.length
  · refine .inr ⟨⟨xs, xs[i], q, by simp [hlt]⟩, Pv (i + 1), fun σ' H' p' => ⟨xs.length - (i + 1), by omega, rfl, hlt, p'⟩, fun x H' y => ?_⟩
    obtain ⟨e, y⟩ := y
    subst e
    exact hs i x σ _ (y xs q) p
  · have e : i = xs.length := by omega
    subst e
    exact .inl ⟨⟨xs, q, Nat.le_refl _⟩, hd σ H p⟩
theorem for_range {lo : Int} {n : Nat} {g : TG} {tb : TS} {D : Ends} {σ : St} {H : Hp} (Pv : Nat → St → Hp → Prop) (h0 : Pv 0 σ H)
    (hs : ∀ i σ H, i < n → Pv i σ H → g (.int (lo + i)) σ H fun σ2 H2 => tb { D with nx := Pv (i + 1), ct := Pv (i + 1), bk := D.nx } σ2 H2) (hd : ∀ σ H, Pv n σ H → D.nx σ H) :
    ∃ W : Nat → Nat → St → Hp → Prop, (∃ m, W 0 m σ H) ∧ ∀ i m σ H, W i m σ H →
      ((Itr lo n).stop i H ∧ D.nx σ H) ∨ ((Itr lo n).go i H ∧ ∃ N : St → Hp → Prop, (∀ σ' H', N σ' H' → ∃ m', m' < m ∧ W (i + 1) m' σ' H') ∧ ∀ x H', (Itr lo n).yld i H x H' → g x σ H' fun σ2 H2 => tb { D with nx := N, ct := N, bk := D.nx } σ2 H2) := by
  refine ⟨fun i m σ H => m = n - i ∧ i ≤ n ∧ Pv i σ H, ⟨n, by simp, Nat.zero_le _, h0⟩, ?_⟩
  rintro i m σ H ⟨rfl, hi, p⟩
  by_cases hlt : i < n
  · refine .inr ⟨hlt, Pv (i + 1), fun σ' H' p' => ⟨n - (i + 1), by omega, rfl, hlt, p'⟩, fun x H' y => ?_⟩
    obtain ⟨e, y⟩ := y
    subst e y
    exact hs i σ _ hlt p
  · have e : i = n := by omega
    subst e
    exact .inl ⟨Nat.le_refl _, hd σ H p⟩
/-- while, by a word and a measure of the state -/
theorem while_by {c : TT} {tb : TS} {D : Ends} {σ : St} {H : Hp} (Pv : St → Hp → Prop) (μ : St → Hp → Nat) (h0 : Pv σ H)
    (hs : ∀ σ H, Pv σ H → c σ H fun b H1 => if b = true then tb { D with nx := fun σ' H' => Pv σ' H' ∧ μ σ' H' < μ σ H, ct := fun σ' H' => Pv σ' H' ∧ μ σ' H' < μ σ H, bk := D.nx } σ H1 else D.nx σ H1)
    (mono : ∀ σ H Q Q', (∀ b H1, Q b H1 → Q' b H1) → c σ H Q → c σ H Q') : tWhile c tb D σ H := by
  refine ⟨fun m σ H => m = μ σ H ∧ Pv σ H, ⟨_, rfl, h0⟩, ?_⟩
  rintro m σ H ⟨rfl, p⟩
  refine mono σ H _ _ (fun b H1 q => ?_) (hs σ H p)
  cases b with
  | true => exact ⟨_, fun σ' H' ⟨p', l⟩ => ⟨_, l, rfl, p'⟩, q⟩
  | false => exact q
end L2

namespace L2
open PySem PySem.Spec PyProof.Rows

abbrev R2 := V → V → Hp → VK → Prop
/-- a two-place operation on values: f is binaryOp op, inplaceOp op or compareOp op -/
def OpR (X : Cx) (f : Value → Value → Sem Value) (r : R2) : Prop :=
  ∀ (pins : List (Addr × Obj)) (s : Shared) (σ : St) (H : Hp) (x y : V) (v u : Value) (Q : VK), Inv X pins σ H s → RelV x v → RelV y u → r x y H Q →
    wpAny (model X.prog X.w) X.A (f v u) (EP X pins σ Q) X.xe s
/-- a one-place operation -/
def UnR (X : Cx) (f : Value → Sem Value) (r : V → Hp → VK → Prop) : Prop :=
  ∀ (pins : List (Addr × Obj)) (s : Shared) (σ : St) (H : Hp) (x : V) (v : Value) (Q : VK), Inv X pins σ H s → RelV x v → r x H Q →
    wpAny (model X.prog X.w) X.A (f v) (EP X pins σ Q) X.xe s
/-- a call of a value that is known (a builtin, a type) with values -/
def CallR (X : Cx) (f : Value) (r : List V → Hp → VK → Prop) : Prop :=
  ∀ (pins : List (Addr × Obj)) (s : Shared) (σ : St) (H : Hp) (xs : List V) (us : List Value) (Q : VK), Inv X pins σ H s → Vals xs us → r xs H Q →
    wpAny (model X.prog X.w) X.A (call f us) (EP X pins σ Q) X.xe s
/-- a value's truth -/
def TruR (X : Cx) (r : V → Hp → (Bool → Hp → Prop) → Prop) : Prop :=
  ∀ (pins : List (Addr × Obj)) (s : Shared) (σ : St) (H : Hp) (x : V) (v : Value) (Q : Bool → Hp → Prop), Inv X pins σ H s → RelV x v → r x H Q →
    wpAny (model X.prog X.w) X.A (truthy v) (TP X pins σ Q) X.xe s

def tOp (r : R2) (ta tb : TE) : TE := fun σ H Q => ta σ H fun x H1 => tb σ H1 fun y H2 => r x y H2 Q
def tUn (r : V → Hp → VK → Prop) (ta : TE) : TE := fun σ H Q => ta σ H fun x H1 => r x H1 Q
/-- ints in, under C, and a value out -/
def rI (C : Int → Int → Prop) (g : Int → Int → V) : R2 := fun x y H Q => ∃ i j, x = .int i ∧ y = .int j ∧ C i j ∧ Q (g i j) H
def rI0 (g : Int → Int → V) : R2 := fun x y H Q => ∃ i j, x = .int i ∧ y = .int j ∧ Q (g i j) H
def rU (g : Int → V) : V → Hp → VK → Prop := fun x H Q => ∃ i, x = .int i ∧ Q (g i) H

section
variable {X : Cx} {a b c : Expr} {ta tb tc : TE} {pos : Pos}

theorem binT (ha : PE X a ta) (hb : PE X b tb) {pins : List (Addr × Obj)} {s : Shared} {σ : St} {H : Hp} {R : V → V → Hp → Prop} (I : Inv X pins σ H s)
    (h : ta σ H fun x H1 => tb σ H1 fun y H2 => R x y H2) {Q : Value → Shared → Prop} {f : Value → Value → Sem Value}
    (hf : ∀ v u s2 x y H2, Inv X pins σ H2 s2 → RelV x v → RelV y u → R x y H2 → wpAny (model X.prog X.w) X.A (f v u) Q X.xe s2) :
    wpAny (model X.prog X.w) X.A (eval a X.env) (fun v s₁ => wpAny (model X.prog X.w) X.A (eval b X.env) (fun u s₂ => wpAny (model X.prog X.w) X.A (f v u) Q X.xe s₂) X.xe s₁) X.xe s := by
  refine thn (ha pins s σ H _ I h) fun v s1 ⟨x, H1, I1, r1, q1⟩ => ?_
  refine thn (hb pins s1 σ H1 _ I1 q1) fun u s2 ⟨y, H2, I2, r2, q2⟩ => ?_
  exact hf v u s2 x y H2 I2 r1 r2 q2

theorem pe_op {op : Operator} {r : R2} (ho : OpR X (binaryOp op) r) (ha : PE X a ta) (hb : PE X b tb) : PE X (.BinOp a op b pos) (tOp r ta tb) := by
  intro pins s σ H Q I h
  exact wpAny_BinOp (binT ha hb I h fun v u s2 x y H2 I2 rx ry q => ho pins s2 σ H2 x y v u Q I2 rx ry q)
theorem pe_un {op : UnaryOp} {r : V → Hp → VK → Prop} (ho : UnR X (unaryOp op) r) (ha : PE X a ta) : PE X (.UnaryOp op a pos) (tUn r ta) := by
  intro pins s σ H Q I h
  exact UnaryOp_ (thn (ha pins s σ H _ I h) fun v s1 ⟨x, H1, I1, r1, q1⟩ => ho pins s1 σ H1 x v Q I1 r1 q1)
/-- a op= e at a name: the name's slot i -/
theorem augR {op : Operator} {r : R2} (ho : OpR X (inplaceOp op) r) {pins : List (Addr × Obj)} {s : Shared} {σ : St} {H : Hp} {x y : V} {v u : Value} {Q : VK} (I : Inv X pins σ H s)
    (rx : RelV x v) (ry : RelV y u) (q : r x y H Q) : wpAny (model X.prog X.w) X.A (inplaceOp op v u) (EP X pins σ Q) X.xe s := ho pins s σ H x y v u Q I rx ry q

/-! ### ints -/
theorem opI {f : Value → Value → Sem Value} {C : Int → Int → Prop} {g : Int → Int → Int}
    (rule : ∀ (i j : Int) (t u : Tok) (s : Shared) (Q : Value → Shared → Prop) (E : Value → Shared → Prop), C i j → Q (.int (g i j) s.toks) { s with toks := s.toks + 1 } → wpAny (model X.prog X.w) X.A (f (.int i t) (.int j u)) Q E s) :
    OpR X f (rI C fun i j => .int (g i j)) := by
  intro pins s σ H x y v u Q I rx ry h
  obtain ⟨i, j, rfl, rfl, hc, q⟩ := h
  obtain ⟨t, rfl⟩ := rx
  obtain ⟨t', rfl⟩ := ry
  exact rule i j t t' s _ _ hc ⟨.int (g i j), H, I.tok _, ⟨_, rfl⟩, q⟩
theorem opI0 {f : Value → Value → Sem Value} {g : Int → Int → Int}
    (rule : ∀ (i j : Int) (t u : Tok) (s : Shared) (Q : Value → Shared → Prop) (E : Value → Shared → Prop), Q (.int (g i j) s.toks) { s with toks := s.toks + 1 } → wpAny (model X.prog X.w) X.A (f (.int i t) (.int j u)) Q E s) :
    OpR X f (rI0 fun i j => .int (g i j)) := by
  intro pins s σ H x y v u Q I rx ry h
  obtain ⟨i, j, rfl, rfl, q⟩ := h
  obtain ⟨t, rfl⟩ := rx
  obtain ⟨t', rfl⟩ := ry
  exact rule i j t t' s _ _ ⟨.int (g i j), H, I.tok _, ⟨_, rfl⟩, q⟩
theorem opB0 {f : Value → Value → Sem Value} {g : Int → Int → Bool}
    (rule : ∀ (i j : Int) (t u : Tok) (s : Shared) (Q : Value → Shared → Prop) (E : Value → Shared → Prop), Q (.bool (g i j)) s → wpAny (model X.prog X.w) X.A (f (.int i t) (.int j u)) Q E s) :
    OpR X f (rI0 fun i j => .bl (g i j)) := by
  intro pins s σ H x y v u Q I rx ry h
  obtain ⟨i, j, rfl, rfl, q⟩ := h
  obtain ⟨t, rfl⟩ := rx
  obtain ⟨t', rfl⟩ := ry
  exact rule i j t t' s _ _ ⟨.bl (g i j), H, I, rfl, q⟩

def CDiv (i j : Int) : Prop := 0 < j ∧ j < 1073741824
def CDivN (i j : Int) : Prop := j ≠ 0 ∧ j.natAbs < 1073741824
def CPow (i j : Int) : Prop := 0 ≤ j ∧ j ≤ 1000000 ∧ i.natAbs < 2 ^ 64
def CMul (i j : Int) : Prop := (-(2 ^ 64) < i ∧ i < 2 ^ 64) ∨ (-(2 ^ 64) < j ∧ j < 2 ^ 64)
theorem CMul.ok {i j : Int} (h : CMul i j) : IntMulOk i j := by
  rcases h with ⟨h1, h2⟩ | ⟨h1, h2⟩
  · exact .of_left (intBits_le_64 h1 h2)
  · exact .of_right (intBits_le_64 h1 h2)
theorem two_pow_nn (k : Nat) : (0 : Int) ≤ 2 ^ k := by
  rw [two_pow_cast]
  exact Int.natCast_nonneg _

theorem op_add : OpR X (binaryOp .Add) (rI0 fun i j => .int (i + j)) := opI0 fun _ _ _ _ _ _ _ q => add_int q
theorem op_sub : OpR X (binaryOp .Sub) (rI0 fun i j => .int (i - j)) := opI0 fun _ _ _ _ _ _ _ q => sub_int q
theorem op_mul : OpR X (binaryOp .Mult) (rI CMul fun i j => .int (i * j)) := opI fun _ _ _ _ _ _ _ hc q => mul_int q hc.ok
/-- // by a positive divisor -/
theorem op_fdiv : OpR X (binaryOp .FloorDiv) (rI CDiv fun i j => .int (i / j)) := opI fun i j _ _ _ _ _ hc q => by
  have h1 : (0 : Int) < j := hc.1
  have h2 : j < 1073741824 := hc.2
  exact floordiv_int (by omega) (by rw [Int.fdiv_eq_ediv_of_nonneg i (by omega)]; exact q) (.inl (PyProof.noPylong_small (by omega)))
theorem op_fdivN : OpR X (binaryOp .FloorDiv) (rI CDivN fun i j => .int (i.fdiv j)) := opI fun _ _ _ _ _ _ _ hc q => floordiv_int hc.1 q (.inl (PyProof.noPylong_small hc.2))
/-- % by a positive divisor of any size -/
theorem op_mod : OpR X (binaryOp .Mod) (rI (fun _ j => 0 < j) fun i j => .int (i % j)) := opI fun i j _ _ _ _ _ hc q => by
  have h1 : (0 : Int) < j := hc
  exact mod_int' (by omega) (by rw [Int.fmod_eq_emod_of_nonneg i (by omega)]; exact q)
theorem op_modN : OpR X (binaryOp .Mod) (rI (fun _ j => j ≠ 0) fun i j => .int (i.fmod j)) := opI fun _ _ _ _ _ _ _ hc q => mod_int' hc q
theorem op_pow : OpR X (binaryOp .Pow) (rI CPow fun i j => .int (i ^ j.toNat)) := opI fun _ _ _ _ _ _ _ hc q => pow_int_small hc.1 hc.2.1 hc.2.2 q
theorem op_shl : OpR X (binaryOp .LShift) (rI CPow fun i j => .int (i * 2 ^ j.toNat)) := opI fun _ _ _ _ _ _ _ hc q => lshift_int_small hc.1 hc.2.1 hc.2.2 q
theorem op_shr : OpR X (binaryOp .RShift) (rI (fun _ j => 0 ≤ j) fun i j => .int (i / 2 ^ j.toNat)) := opI fun i j _ _ _ _ _ hc q =>
  rshift_int hc (by rw [Int.fdiv_eq_ediv_of_nonneg i (two_pow_nn _)]; exact q)
theorem op_and : OpR X (binaryOp .BitAnd) (rI0 fun i j => .int (Builtin.bitAnd i j)) := opI0 fun _ _ _ _ _ _ _ q => and_int q
theorem op_or : OpR X (binaryOp .BitOr) (rI0 fun i j => .int (Builtin.bitOr i j)) := opI0 fun _ _ _ _ _ _ _ q => or_int q
theorem op_xor : OpR X (binaryOp .BitXor) (rI0 fun i j => .int (Builtin.bitXor i j)) := opI0 fun _ _ _ _ _ _ _ q => xor_int q

theorem iop_add : OpR X (inplaceOp .Add) (rI0 fun i j => .int (i + j)) := opI0 fun _ _ _ _ _ _ _ q => iadd_int q
theorem iop_sub : OpR X (inplaceOp .Sub) (rI0 fun i j => .int (i - j)) := opI0 fun _ _ _ _ _ _ _ q => isub_int q
theorem iop_mul : OpR X (inplaceOp .Mult) (rI CMul fun i j => .int (i * j)) := opI fun _ _ _ _ _ _ _ hc q => imul_int q hc.ok
theorem iop_fdiv : OpR X (inplaceOp .FloorDiv) (rI CDiv fun i j => .int (i / j)) := opI fun i j _ _ _ _ _ hc q => by
  have h1 : (0 : Int) < j := hc.1
  have h2 : j < 1073741824 := hc.2
  exact ifloordiv_int (by omega) (by rw [Int.fdiv_eq_ediv_of_nonneg i (by omega)]; exact q) (.inl (PyProof.noPylong_small (by omega)))
theorem iop_mod : OpR X (inplaceOp .Mod) (rI (fun _ j => 0 < j) fun i j => .int (i % j)) := opI fun i j _ _ _ _ _ hc q => by
  have h1 : (0 : Int) < j := hc
  exact imod_int (by omega) (by rw [Int.fmod_eq_emod_of_nonneg i (by omega)]; exact q)
theorem iop_shl : OpR X (inplaceOp .LShift) (rI CPow fun i j => .int (i * 2 ^ j.toNat)) := opI fun _ _ _ _ _ _ _ hc q => ilshift_int_small hc.1 hc.2.1 hc.2.2 q
theorem iop_shr : OpR X (inplaceOp .RShift) (rI (fun _ j => 0 ≤ j) fun i j => .int (i / 2 ^ j.toNat)) := opI fun i j _ _ _ _ _ hc q =>
  irshift_int hc (by rw [Int.fdiv_eq_ediv_of_nonneg i (two_pow_nn _)]; exact q)
theorem iop_and : OpR X (inplaceOp .BitAnd) (rI0 fun i j => .int (Builtin.bitAnd i j)) := opI0 fun _ _ _ _ _ _ _ q => iand_int q
theorem iop_or : OpR X (inplaceOp .BitOr) (rI0 fun i j => .int (Builtin.bitOr i j)) := opI0 fun _ _ _ _ _ _ _ q => ior_int q
theorem iop_xor : OpR X (inplaceOp .BitXor) (rI0 fun i j => .int (Builtin.bitXor i j)) := opI0 fun _ _ _ _ _ _ _ q => ixor_int q

theorem unI {f : Value → Sem Value} {g : Int → Int}
    (rule : ∀ (i : Int) (t : Tok) (s : Shared) (Q : Value → Shared → Prop) (E : Value → Shared → Prop), Q (.int (g i) s.toks) { s with toks := s.toks + 1 } → wpAny (model X.prog X.w) X.A (f (.int i t)) Q E s) :
    UnR X f (rU fun i => .int (g i)) := by
  intro pins s σ H x v Q I rx h
  obtain ⟨i, rfl, q⟩ := h
  obtain ⟨t, rfl⟩ := rx
  exact rule i t s _ _ ⟨.int (g i), H, I.tok _, ⟨_, rfl⟩, q⟩
theorem un_neg : UnR X (unaryOp .USub) (rU fun i => .int (-i)) := unI fun _ _ _ _ _ q => neg_int q
theorem un_inv : UnR X (unaryOp .Invert) (rU fun i => .int (Builtin.bitNot i)) := unI fun _ _ _ _ _ q => invert_int q

/-! ### bools among ints: n += (a < b) -/
theorem op_add_ib : OpR X (binaryOp .Add) (fun x y H Q => ∃ i k, x = .int i ∧ y = .bl k ∧ Q (.int (i + b2i k)) H) := by
  intro pins s σ H x y v u Q I rx ry h
  obtain ⟨i, k, rfl, rfl, q⟩ := h
  obtain ⟨t, rfl⟩ := rx
  cases ry
  exact add_int_bool ⟨.int (i + b2i k), H, I.tok _, ⟨_, rfl⟩, q⟩
end

/-! ### comparisons -/
/-- the scalars that == tells apart as data does -/
def scal : V → V → Bool
  | .non, .non => true | .non, .int _ => true | .int _, .non => true | .non, .bl _ => true | .bl _, .non => true | .non, .str _ => true | .str _, .non => true
  | .int _, .int _ => true | .bl _, .bl _ => true | .str _, .str _ => true | .byt _, .byt _ => true
  | .int _, .str _ => true | .str _, .int _ => true | .bl _, .str _ => true | .str _, .bl _ => true
  | _, _ => false
def rEq : R2 := fun x y H Q => scal x y = true ∧ Q (.bl (decide (x = y))) H
def rNe : R2 := fun x y H Q => scal x y = true ∧ Q (.bl (!decide (x = y))) H

theorem dec_int {i j : Int} : decide (V.int i = V.int j) = (i == j) := by
  rw [Bool.eq_iff_iff]
  simp
theorem dec_bl {i j : Bool} : decide (V.bl i = V.bl j) = (i == j) := by
  rw [Bool.eq_iff_iff]
  simp
theorem dec_str {i j : Str} : decide (V.str i = V.str j) = (i == j) := by
  rw [Bool.eq_iff_iff]
  simp
theorem dec_byt {i j : Array UInt8} : decide (V.byt i = V.byt j) = (i.toList == j.toList) := by
  rw [Bool.eq_iff_iff]
  cases i
  cases j
  simp

section
variable {X : Cx} {a b c : Expr} {ta tb tc : TE} {pos : Pos}
theorem fin_bl {pins : List (Addr × Obj)} {σ : St} {H : Hp} {s : Shared} {Q : VK} {k k' : Bool} (I : Inv X pins σ H s) (q : Q (.bl k) H) (e : k = k') : EP X pins σ Q (.bool k') s := by
  subst e
  exact ⟨.bl k, H, I, rfl, q⟩
theorem op_eq : OpR X (compareOp .Eq) rEq := by
  intro pins s σ H x y v u Q I rx ry h
  obtain ⟨hs, q⟩ := h
  cases x with
  | non =>
    cases rx
    cases y with
    | non => cases ry; exact PySem.EqNone.eq_none_none (fin_bl I q (by simp))
    | bl j => cases ry; exact PySem.EqNone.eq_none_bool (fin_bl I q (by simp))
    | int j => obtain ⟨t', rfl⟩ := ry; exact PySem.EqNone.eq_none_int (fin_bl I q (by simp))
    | str j => obtain ⟨t', rfl⟩ := ry; exact PySem.EqNone.eq_none_str (fin_bl I q (by simp))
    | _ => exact absurd (show false = true from hs) Bool.false_ne_true
  | bl i =>
    cases rx
    cases y with
    | non => cases ry; exact PySem.EqNone.eq_bool_none (fin_bl I q (by simp))
    | bl j => cases ry; exact eq_bool (fin_bl I q dec_bl)
    | str j => obtain ⟨t', rfl⟩ := ry; exact PySem.EqMixed.eq_bool_str (fin_bl I q (by simp))
    | _ => exact absurd (show false = true from hs) Bool.false_ne_true
  | int i =>
    obtain ⟨t, rfl⟩ := rx
    cases y with
    | non => cases ry; exact PySem.EqNone.eq_int_none (fin_bl I q (by simp))
    | int j => obtain ⟨t', rfl⟩ := ry; exact eq_int (fin_bl I q dec_int)
    | str j => obtain ⟨t', rfl⟩ := ry; exact PySem.EqMixed.eq_int_str (fin_bl I q (by simp))
    | _ => exact absurd (show false = true from hs) Bool.false_ne_true
  | str i =>
    obtain ⟨t, rfl⟩ := rx
    cases y with
    | non => cases ry; exact PySem.EqNone.eq_str_none (fin_bl I q (by simp))
    | bl j => cases ry; exact PySem.EqMixed.eq_str_bool (fin_bl I q (by simp))
    | int j => obtain ⟨t', rfl⟩ := ry; exact PySem.EqMixed.eq_str_int (fin_bl I q (by simp))
    | str j => obtain ⟨t', rfl⟩ := ry; exact eq_str (fin_bl I q dec_str)
    | _ => exact absurd (show false = true from hs) Bool.false_ne_true
  | byt i =>
    obtain ⟨t, rfl⟩ := rx
    cases y with
    | byt j => obtain ⟨t', rfl⟩ := ry; exact PySem.W.eq_bytes (fin_bl I q dec_byt)
    | _ => exact absurd (show false = true from hs) Bool.false_ne_true
  | _ => cases y <;> exact absurd (show false = true from hs) Bool.false_ne_true
theorem op_ne : OpR X (compareOp .NotEq) rNe := by
  intro pins s σ H x y v u Q I rx ry h
  obtain ⟨hs, q⟩ := h
  cases x with
  | non =>
    cases rx
    cases y with
    | non => cases ry; exact PySem.EqNone.ne_none_none (fin_bl I q (by simp))
    | bl j => cases ry; exact PySem.EqNone.ne_none_bool (fin_bl I q (by simp))
    | int j => obtain ⟨t', rfl⟩ := ry; exact PySem.EqNone.ne_none_int (fin_bl I q (by simp))
    | str j => obtain ⟨t', rfl⟩ := ry; exact PySem.EqNone.ne_none_str (fin_bl I q (by simp))
    | _ => exact absurd (show false = true from hs) Bool.false_ne_true
  | bl i =>
    cases rx
    cases y with
    | non => cases ry; exact PySem.EqNone.ne_bool_none (fin_bl I q (by simp))
    | bl j => cases ry; exact ne_bool (fin_bl I q (congrArg not dec_bl))
    | str j => obtain ⟨t', rfl⟩ := ry; exact PySem.EqMixed.ne_bool_str (fin_bl I q (by simp))
    | _ => exact absurd (show false = true from hs) Bool.false_ne_true
  | int i =>
    obtain ⟨t, rfl⟩ := rx
    cases y with
    | non => cases ry; exact PySem.EqNone.ne_int_none (fin_bl I q (by simp))
    | int j => obtain ⟨t', rfl⟩ := ry; exact ne_int (fin_bl I q (congrArg not dec_int))
    | str j => obtain ⟨t', rfl⟩ := ry; exact PySem.EqMixed.ne_int_str (fin_bl I q (by simp))
    | _ => exact absurd (show false = true from hs) Bool.false_ne_true
  | str i =>
    obtain ⟨t, rfl⟩ := rx
    cases y with
    | non => cases ry; exact PySem.EqNone.ne_str_none (fin_bl I q (by simp))
    | bl j => cases ry; exact PySem.EqMixed.ne_str_bool (fin_bl I q (by simp))
    | int j => obtain ⟨t', rfl⟩ := ry; exact PySem.EqMixed.ne_str_int (fin_bl I q (by simp))
    | str j => obtain ⟨t', rfl⟩ := ry; exact ne_str (fin_bl I q (congrArg not dec_str))
    | _ => exact absurd (show false = true from hs) Bool.false_ne_true
  | byt i =>
    obtain ⟨t, rfl⟩ := rx
    cases y with
    | byt j => obtain ⟨t', rfl⟩ := ry; exact PySem.W.ne_bytes (fin_bl I q (congrArg not dec_byt))
    | _ => exact absurd (show false = true from hs) Bool.false_ne_true
  | _ => cases y <;> exact absurd (show false = true from hs) Bool.false_ne_true

theorem op_lt : OpR X (compareOp .Lt) (rI0 fun i j => .bl (decide (i < j))) := opB0 fun _ _ _ _ _ _ _ q => lt_int q
theorem op_le : OpR X (compareOp .LtE) (rI0 fun i j => .bl (decide (i ≤ j))) := opB0 fun _ _ _ _ _ _ _ q => le_int q
theorem op_gt : OpR X (compareOp .Gt) (rI0 fun i j => .bl (decide (j < i))) := opB0 fun _ _ _ _ _ _ _ q => gt_int q
theorem op_ge : OpR X (compareOp .GtE) (rI0 fun i j => .bl (decide (j ≤ i))) := opB0 fun _ _ _ _ _ _ _ q => ge_int q
theorem op_lt_str : OpR X (compareOp .Lt) (fun x y H Q => ∃ i j, x = .str i ∧ y = .str j ∧ Q (.bl (decide (i.cps.toList < j.cps.toList))) H) := by
  intro pins s σ H x y v u Q I rx ry h
  obtain ⟨i, j, rfl, rfl, q⟩ := h
  obtain ⟨t, rfl⟩ := rx
  obtain ⟨t', rfl⟩ := ry
  exact lt_str (fin_bl I q rfl)
/-- the one string within the other -/
theorem op_in_str : OpR X (compareOp .In) (fun x y H Q => ∃ i j, x = .str i ∧ y = .str j ∧ Q (.bl (!(Builtin.Str.occurrences j i 0 j.length 1).isEmpty)) H) := by
  intro pins s σ H x y v u Q I rx ry h
  obtain ⟨i, j, rfl, rfl, q⟩ := h
  obtain ⟨t, rfl⟩ := rx
  obtain ⟨t', rfl⟩ := ry
  exact in_str (fin_bl I q rfl)

/-- is None, is not None: the right side a value none -/
theorem op_isN : OpR X (compareOp .Is) (fun x y H Q => y = .non ∧ Q (.bl (decide (x = .non))) H) := by
  intro pins s σ H x y v u Q I rx ry h
  obtain ⟨rfl, q⟩ := h
  cases ry
  refine is_none_gen (fin_bl I q ?_)
  cases x <;> first
    | (cases rx; rfl)
    | (obtain ⟨t, rfl⟩ := rx; rfl)
theorem op_notN : OpR X (compareOp .IsNot) (fun x y H Q => y = .non ∧ Q (.bl (!decide (x = .non))) H) := by
  intro pins s σ H x y v u Q I rx ry h
  obtain ⟨rfl, q⟩ := h
  cases ry
  refine isnot_none_gen (fin_bl I q ?_)
  cases x <;> first
    | (cases rx; rfl)
    | (obtain ⟨t, rfl⟩ := rx; rfl)

theorem op_notin_str : OpR X (compareOp .NotIn) (fun x y H Q => ∃ i j, x = .str i ∧ y = .str j ∧ Q (.bl (!(!(Builtin.Str.occurrences j i 0 j.length 1).isEmpty))) H) := by
  intro pins s σ H x y v u Q I rx ry h
  obtain ⟨i, j, rfl, rfl, q⟩ := h
  obtain ⟨t, rfl⟩ := rx
  obtain ⟨t', rfl⟩ := ry
  exact notIn_str (fin_bl I q rfl)
/-- is, is not of two objects that are tracked lists or instances -/
def isObj : HO → Bool
  | .lst _ => true
  | .ins _ _ _ => true
  | _ => false
theorem obj_there {pins : List (Addr × Obj)} {s : Shared} {σ : St} {H : Hp} {a : Addr} {o : HO} (I : Inv X pins σ H s) (h : H a = some o) (p : isObj o = true) : ∃ ob, s.heap.get? a = some ob ∧ ob.cls ≠ .type "tuple" := by
  cases o with
  | lst xs =>
    obtain ⟨_, its, n, _, e⟩ : xs.length ≤ sizeLine ∧ ∃ (its : List Value) (n : Nat), Vals xs its ∧ s.heap.get? a = some { cls := .type "list", data := .seq its.toArray n } := I.hok a _ h
    exact ⟨_, e, (by show Value.type "list" ≠ .type "tuple"; decide +kernel)⟩
  | ins C dx fs =>
    have x := I.hok a _ h
    obtain ⟨_, _, _, e, _⟩ := x
    exact ⟨_, e, (by show Value.ref C ≠ .type "tuple"; exact fun z => by cases z)⟩
  | _ => exact absurd (show false = true from p) Bool.false_ne_true
theorem op_is_ref : OpR X (compareOp .Is) (fun x y H Q => ∃ a b oa ob, x = .ref a ∧ y = .ref b ∧ H a = some oa ∧ isObj oa = true ∧ H b = some ob ∧ isObj ob = true ∧ Q (.bl (decide (a = b))) H) := by
  intro pins s σ H x y v u Q I rx ry h
  obtain ⟨a, b, oa, ob, rfl, rfl, ha, pa, hb, pb, q⟩ := h
  cases rx
  cases ry
  obtain ⟨o1, e1, n1⟩ := obj_there I ha pa
  obtain ⟨o2, e2, _⟩ := obj_there I hb pb
  by_cases z : a = b
  · subst z
    exact wpAny_is_ref_self (fin_bl I q (by simp))
  · exact wpAny_is_ref_other z e1 e2 n1 (fin_bl I q (by simp [z]))
theorem op_isnot_ref : OpR X (compareOp .IsNot) (fun x y H Q => ∃ a b oa ob, x = .ref a ∧ y = .ref b ∧ H a = some oa ∧ isObj oa = true ∧ H b = some ob ∧ isObj ob = true ∧ Q (.bl (!decide (a = b))) H) := by
  intro pins s σ H x y v u Q I rx ry h
  obtain ⟨a, b, oa, ob, rfl, rfl, ha, pa, hb, pb, q⟩ := h
  cases rx
  cases ry
  obtain ⟨o1, e1, n1⟩ := obj_there I ha pa
  obtain ⟨o2, e2, _⟩ := obj_there I hb pb
  by_cases z : a = b
  · subst z
    exact wpAny_isNot_ref_self (fin_bl I q (by simp))
  · exact wpAny_isNot_ref_other z e1 e2 n1 (fin_bl I q (by simp [z]))

/-- two rules for one operation: by cases -/
theorem OpR.or {f : Value → Value → Sem Value} {r r' : R2} (h : OpR X f r) (h' : OpR X f r') : OpR X f (fun x y H Q => r x y H Q ∨ r' x y H Q) := by
  intro pins s σ H x y v u Q I rx ry q
  rcases q with q | q
  · exact h pins s σ H x y v u Q I rx ry q
  · exact h' pins s σ H x y v u Q I rx ry q

theorem nomark (b : Expr) {op : CmpOp} (h : op ≠ .In := by decide) (h2 : op ≠ .NotIn := by decide) : behindInMarks op b = false := by
  have e1 : (op == CmpOp.In) = false := by cases op <;> first | rfl | exact absurd rfl h
  have e2 : (op == CmpOp.NotIn) = false := by cases op <;> first | rfl | exact absurd rfl h2
  cases b <;> simp [behindInMarks, e1, e2]
/-- a comparison as a value; hm: nomark b, or (for in, not in) by with_unfolding_all rfl -/
theorem pe_cmpR {op : CmpOp} {r : R2} (ho : OpR X (compareOp op) r) (ha : PE X a ta) (hb : PE X b tb) (hm : behindInMarks op b = false) : PE X (.Compare a [op] [b] pos) (tOp r ta tb) := by
  intro pins s σ H Q I h
  exact wpAny_Compare1 (binT ha hb I h fun v u s2 x y H2 I2 rx ry q => ho pins s2 σ H2 x y v u Q I2 rx ry q) hm
/-- a reading of a value as a test -/
def tTest (t : TE) : TT := fun σ H Q => t σ H fun x H' => ∃ k, x = .bl k ∧ Q k H'
theorem pt_cmpR {op : CmpOp} {r : R2} (ho : OpR X (compareOp op) r) (ha : PE X a ta) (hb : PE X b tb) (hm : behindInMarks op b = false) : PT X (.Compare a [op] [b] pos) (tTest (tOp r ta tb)) := by
  intro pins s σ H Q I h
  refine wpAny_isTrue_Compare1 (thn (ha pins s σ H _ I h) fun v s1 ⟨x, H1, I1, r1, q1⟩ => thn (hb pins s1 σ H1 _ I1 q1) fun u s2 ⟨y, H2, I2, r2, q2⟩ =>
    thn (ho pins s2 σ H2 x y v u _ I2 r1 r2 q2) fun c s3 ⟨z, H3, I3, r3, k, e, q3⟩ => ?_) hm
  subst e
  cases r3
  exact wpAny_truthy_bool ⟨H3, I3, q3⟩
/-- a op1 b op2 c -/
def tChain (r r' : R2) (ta tb tc : TE) : TE := fun σ H Q => ta σ H fun x H1 => tb σ H1 fun y H2 => r x y H2 fun z H3 => ∃ k, z = .bl k ∧
  (if k = true then tc σ H3 fun w' H4 => r' y w' H4 Q else Q (.bl false) H3)
theorem pe_chain {op op' : CmpOp} {r r' : R2} (ho : OpR X (compareOp op) r) (ho' : OpR X (compareOp op') r') (ha : PE X a ta) (hb : PE X b tb) (hc : PE X c tc)
    (hm : lastMarks [op, op'] [b, c] = false := by with_unfolding_all rfl) : PE X (.Compare a [op, op'] [b, c] pos) (tChain r r' ta tb tc) := by
  intro pins s σ H Q I h
  refine Compare_chain (thn (ha pins s σ H _ I h) fun v s1 ⟨x, H1, I1, r1, q1⟩ => chain_link (thn (hb pins s1 σ H1 _ I1 q1) fun u s2 ⟨y, H2, I2, r2, q2⟩ =>
    thn (ho pins s2 σ H2 x y v u _ I2 r1 r2 q2) fun d s3 ⟨z, H3, I3, r3, k, e, q3⟩ => ?_)) hm
  subst e
  cases r3
  refine wpAny_truthy_bool ?_
  cases k with
  | false => exact ite_ff ⟨.bl false, H3, I3, rfl, q3⟩
  | true => exact ite_tt (chain_last (thn (hc pins s3 σ H3 _ I3 q3) fun w' s4 ⟨z', H4, I4, r4, q4⟩ => ho' pins s4 σ H4 y z' u w' Q I4 r2 r4 q4))
theorem pt_chain {op op' : CmpOp} {r r' : R2} (ho : OpR X (compareOp op) r) (ho' : OpR X (compareOp op') r') (ha : PE X a ta) (hb : PE X b tb) (hc : PE X c tc)
    (hm : lastMarks [op, op'] [b, c] = false := by with_unfolding_all rfl) : PT X (.Compare a [op, op'] [b, c] pos) (tTest (tChain r r' ta tb tc)) := by
  intro pins s σ H Q I h
  refine isTrue_chain (thn (ha pins s σ H _ I h) fun v s1 ⟨x, H1, I1, r1, q1⟩ => test_link (thn (hb pins s1 σ H1 _ I1 q1) fun u s2 ⟨y, H2, I2, r2, q2⟩ =>
    thn (ho pins s2 σ H2 x y v u _ I2 r1 r2 q2) fun d s3 ⟨z, H3, I3, r3, k, e, q3⟩ => ?_)) hm
  subst e
  cases r3
  refine wpAny_truthy_bool ?_
  cases k with
  | false =>
    obtain ⟨k', e', q'⟩ := q3
    cases e'
    exact ite_ff ⟨H3, I3, q'⟩
  | true =>
    refine ite_tt (test_last (thn (hc pins s3 σ H3 _ I3 q3) fun w' s4 ⟨z', H4, I4, r4, q4⟩ => thn (ho' pins s4 σ H4 y z' u w' _ I4 r2 r4 q4) fun d' s5 ⟨z2, H5, I5, r5, k2, e2, q5⟩ => ?_))
    subst e2
    cases r5
    exact wpAny_truthy_bool ⟨H5, I5, q5⟩

/-! ### truth -/
/-- a value's truth by the abstract heap -/
def TruV (K : PySem.W.Frag) (x : V) (H : Hp) (k : Bool) : Prop :=
  match x with
  | .non => k = false
  | .bl b => k = b
  | .int i => k = (i != 0)
  | .str y => y.length ≤ sizeLine ∧ k = ((y.length : Int) != 0)
  | .byt y => y.size ≤ sizeLine ∧ k = ((y.size : Int) != 0)
  | .ref p => (∃ xs, SqL K H p xs ∧ k = !xs.isEmpty) ∨ (∃ xs, SqT K H p xs ∧ k = !xs.isEmpty) ∨ ∃ kvs, H p = some (.dK kvs) ∧ k = !kvs.isEmpty
  | _ => False
theorem isEmpty_kv {κ : Type} {kvs : List (κ × V)} {vs : List (κ × Value)} (r : KV kvs vs) : (!vs.isEmpty) = !kvs.isEmpty := by
  cases r <;> rfl
theorem isEmpty_of {xs : List V} {its : List Value} (r : Vals xs its) : (!its.toArray.isEmpty) = !xs.isEmpty := by
  cases r <;> simp
theorem line63 : (sizeLine : Nat) < 2 ^ 63 := by rw [sizeLine_eq]; decide
theorem tru_ok : TruR X (fun x H Q => ∃ k, TruV X.K x H k ∧ Q k H) := by
  intro pins s σ H x v Q I rx h
  obtain ⟨k, e, q⟩ := h
  have hl := line63
  have hs : sizeLine = 16777216 := sizeLine_eq
  cases x with
  | non =>
    cases rx
    have e' : k = false := e
    subst e'
    exact truthy_none ⟨H, I, q⟩
  | bl b =>
    cases rx
    have e' : k = b := e
    subst e'
    exact wpAny_truthy_bool ⟨H, I, q⟩
  | int i =>
    obtain ⟨t, rfl⟩ := rx
    have e' : k = (i != 0) := e
    subst e'
    exact PySem.P.truthy_int ⟨H, I, q⟩
  | str y =>
    obtain ⟨t, rfl⟩ := rx
    obtain ⟨hy, e'⟩ : y.length ≤ sizeLine ∧ k = ((y.length : Int) != 0) := e
    subst e'
    exact PySem.P.truthy_str (by omega) ⟨H, I.tok _, q⟩
  | byt y =>
    obtain ⟨t, rfl⟩ := rx
    obtain ⟨hy, e'⟩ : y.size ≤ sizeLine ∧ k = ((y.size : Int) != 0) := e
    subst e'
    exact PySem.W.truthy_bytes (by omega) ⟨H, I.tok _, q⟩
  | ref p =>
    cases rx
    have e' : (∃ xs, SqL X.K H p xs ∧ k = !xs.isEmpty) ∨ (∃ xs, SqT X.K H p xs ∧ k = !xs.isEmpty) ∨ ∃ kvs, H p = some (.dK kvs) ∧ k = !kvs.isEmpty := e
    rcases e' with ⟨xs, hx, e'⟩ | ⟨xs, hx, e'⟩ | ⟨kvs, hx, e'⟩
    · subst e'
      obtain ⟨its, r, pl, hz⟩ := I.list hx
      have hlen := r.length
      exact wpAny_truthy_list pl.isList (by simp only [List.size_toArray]; omega) ⟨H, I.tok _, by rw [isEmpty_of r]; exact q⟩
    · subst e'
      obtain ⟨its, r, pl, hz⟩ := I.tuple hx
      have hlen := r.length
      exact truthy_tuple pl (by simp only [List.size_toArray]; omega) ⟨H, I.tok _, by rw [isEmpty_of r]; exact q⟩
    · subst e'
      obtain ⟨hz, hS, vs, r, m⟩ : kvs.length ≤ sizeLine ∧ (p == sysModules) = false ∧ ∃ vs, KV kvs vs ∧ s.heap.DictOf (mixKind X.prog X.w) p vs := I.hok p _ hx
      have hlen : kvs.length = vs.length := Paired.length r
      exact wpAny_truthy_dict hS m (by omega) ⟨H, I.tok _, by rw [isEmpty_kv r]; exact q⟩
  | _ => exact (show False from e).elim
/-- any expression whose test is its value's truth (a name, a call, a subscript, a field ..: he by fun _ => rfl) -/
theorem pt_truth (ha : PE X a ta) (he : ∀ whole, isTrue a X.env whole = (do let v ← whole; standAt a.pos; holding [v] (truthy v))) :
    PT X a (fun σ H Q => ta σ H fun x H' => ∃ k, TruV X.K x H' k ∧ Q k H') := by
  intro pins s σ H Q I h
  exact isTrue_plain (thn (ha pins s σ H _ I h) fun v s1 ⟨x, H1, I1, r1, q1⟩ => tru_ok pins s1 σ H1 x v Q I1 r1 q1) (he _)

/-! ### strs and bytes -/
theorem pe_byt {x : List UInt8} {k : Nat} : PE X (.Constant (.bytes x) k pos) (fun _ H Q => Q (.byt x.toArray) H) := fun _ _ _ H _ I h => PySem.W.Constant_bytes ⟨.byt x.toArray, H, I.tok _, ⟨_, rfl⟩, h⟩
theorem op_add_str : OpR X (binaryOp .Add) (fun x y H Q => ∃ i j, x = .str i ∧ y = .str j ∧ i.length + j.length ≤ sizeLine ∧ Q (.str (i ++ j)) H) := by
  intro pins s σ H x y v u Q I rx ry h
  obtain ⟨i, j, rfl, rfl, hz, q⟩ := h
  obtain ⟨t, rfl⟩ := rx
  obtain ⟨t', rfl⟩ := ry
  exact add_str (fun t' tk => ⟨.str (i ++ j), H, I.tok _, ⟨_, rfl⟩, q⟩) hz
theorem iop_add_str : OpR X (inplaceOp .Add) (fun x y H Q => ∃ i j, x = .str i ∧ y = .str j ∧ i.length + j.length ≤ sizeLine ∧ Q (.str (i ++ j)) H) := by
  intro pins s σ H x y v u Q I rx ry h
  obtain ⟨i, j, rfl, rfl, hz, q⟩ := h
  obtain ⟨t, rfl⟩ := rx
  obtain ⟨t', rfl⟩ := ry
  exact iadd_str (fun t' tk => ⟨.str (i ++ j), H, I.tok _, ⟨_, rfl⟩, q⟩) hz
theorem op_add_byt : OpR X (binaryOp .Add) (fun x y H Q => ∃ i j, x = .byt i ∧ y = .byt j ∧ i.size + j.size ≤ 16777216 ∧ Q (.byt (i ++ j)) H) := by
  intro pins s σ H x y v u Q I rx ry h
  obtain ⟨i, j, rfl, rfl, hz, q⟩ := h
  obtain ⟨t, rfl⟩ := rx
  obtain ⟨t', rfl⟩ := ry
  exact PySem.W.KBy.add_bytes hz (fun t' tk => ⟨.byt (i ++ j), H, I.tok _, ⟨_, rfl⟩, q⟩)

def PlainIxT (b : Expr) : Prop := ∀ o i, subscripted b false o i = operate [o, i] (getItem o i)
/-- s[i], 0 ≤ i < len -/
theorem pe_item_str (ha : PE X a ta) (hb : PE X b tb) (hs : PlainIxT b) :
    PE X (.Subscript a b pos) (tOp (fun x y H Q => ∃ z i c, x = .str z ∧ y = .int i ∧ 0 ≤ i ∧ i < 2 ^ 63 ∧ i < z.length ∧ z.cps[i.toNat]? = some c ∧ Q (.str ⟨#[c]⟩) H) ta tb) := by
  intro pins s σ H Q I h
  refine Subscript_ (binT ha hb I h fun v u s2 x y H2 I2 rx ry q => ?_)
  obtain ⟨z, i, c, rfl, rfl, h0, h63, h1, hc, q⟩ := q
  obtain ⟨t, rfl⟩ := rx
  obtain ⟨t', rfl⟩ := ry
  have e : seqIndex? i z.length = some i.toNat := PySem.StrLaws.seqIndex_nonneg h0 h1
  exact tail_any (typeIs_str s2 z t) slot_str_getitem.lookup (getItem_str (c := c) (by
    have e1 : decide (i < -(2 ^ 63 : Int)) = false := decide_eq_false (by omega)
    have e2 : decide (i ≥ 2 ^ 63) = false := decide_eq_false (by omega)
    rw [e1, e2] <;> rfl) (by rw [e]; exact hc) ⟨.str ⟨#[c]⟩, H2, I2.tok _, ⟨_, rfl⟩, q⟩) (hs _ _)
/-- b[i], 0 ≤ i < len -/
theorem pe_item_byt (ha : PE X a ta) (hb : PE X b tb) (hs : PlainIxT b) :
    PE X (.Subscript a b pos) (tOp (fun x y H Q => ∃ (z : List UInt8) (i : Int), x = .byt z.toArray ∧ y = .int i ∧ z.length ≤ sizeLine ∧ 0 ≤ i ∧ i < z.length ∧ Q (.int ((z.getD i.toNat 0).toNat : Nat)) H) ta tb) := by
  intro pins s σ H Q I h
  refine Subscript_ (binT ha hb I h fun v u s2 x y H2 I2 rx ry q => ?_)
  obtain ⟨z, i, rfl, rfl, hz, h0, h1, q⟩ := q
  obtain ⟨t, rfl⟩ := rx
  obtain ⟨t', rfl⟩ := ry
  have hl : sizeLine = 16777216 := sizeLine_eq
  exact tail_any (PySem.W.typeIs_bytes s2 z.toArray t) PySem.W.FB.slot_bytes_getitem.lookup (PySem.W.getItem_bytes (by omega) h0 h1 ⟨.int ((z.getD i.toNat 0).toNat : Nat), H2, I2.tok _, ⟨_, rfl⟩, q⟩) (hs _ _)

/-! ### scalar builtins, by CallR -/
theorem vals1 {x : V} {us : List Value} (r : Vals [x] us) : ∃ u, us = [u] ∧ RelV x u := by
  cases r with
  | cons r1 r2 => cases r2; exact ⟨_, rfl, r1⟩
theorem vals2 {x y : V} {us : List Value} (r : Vals [x, y] us) : ∃ u w', us = [u, w'] ∧ RelV x u ∧ RelV y w' := by
  cases r with
  | cons r1 r2 =>
    cases r2 with
    | cons r3 r4 => cases r4; exact ⟨_, _, rfl, r1, r3⟩
theorem call_abs : CallR X (.builtin "abs") (fun xs H Q => ∃ i, xs = [.int i] ∧ Q (.int (if i < 0 then -i else i)) H) := by
  intro pins s σ H xs us Q I r h
  obtain ⟨i, rfl, q⟩ := h
  obtain ⟨u, rfl, t, rfl⟩ := vals1 r
  exact call_abs_int fun u tk => ⟨.int (if i < 0 then -i else i), H, I.tok _, ⟨_, rfl⟩, q⟩
theorem call_max2 (hc : X.calm = true) : CallR X (.builtin "max") (fun xs H Q => ∃ i j, xs = [.int i, .int j] ∧ Q (.int (if j > i then j else i)) H) := by
  intro pins s σ H xs us Q I r h
  obtain ⟨i, j, rfl, q⟩ := h
  obtain ⟨u, w', rfl, ⟨t, rfl⟩, ⟨t', rfl⟩⟩ := vals2 r
  refine max_two_ints (I.ok.hd hc) fun h' tk k => ⟨_, H, I.kept k, ?_, q⟩
  by_cases hj : j > i
  · rw [if_pos hj, if_pos hj]; exact ⟨_, rfl⟩
  · rw [if_neg hj, if_neg hj]; exact ⟨_, rfl⟩
theorem call_min2 (hc : X.calm = true) : CallR X (.builtin "min") (fun xs H Q => ∃ i j, xs = [.int i, .int j] ∧ Q (.int (if j < i then j else i)) H) := by
  intro pins s σ H xs us Q I r h
  obtain ⟨i, j, rfl, q⟩ := h
  obtain ⟨u, w', rfl, ⟨t, rfl⟩, ⟨t', rfl⟩⟩ := vals2 r
  refine min_two_ints (I.ok.hd hc) fun h' tk k => ⟨_, H, I.kept k, ?_, q⟩
  by_cases hj : j < i
  · rw [if_pos hj, if_pos hj]; exact ⟨_, rfl⟩
  · rw [if_neg hj, if_neg hj]; exact ⟨_, rfl⟩
theorem call_int1 : CallR X (.type "int") (fun xs H Q => (∃ i, xs = [.int i] ∧ Q (.int i) H) ∨ ∃ k, xs = [.bl k] ∧ Q (.int (if k then 1 else 0)) H) := by
  intro pins s σ H xs us Q I r h
  rcases h with ⟨i, rfl, q⟩ | ⟨k, rfl, q⟩
  · obtain ⟨u, rfl, t, rfl⟩ := vals1 r
    exact call_int_int ⟨.int i, H, I, ⟨_, rfl⟩, q⟩
  · obtain ⟨u, rfl, r1⟩ := vals1 r
    cases r1
    exact call_int_bool ⟨.int (if k then 1 else 0), H, I.tok _, ⟨_, rfl⟩, q⟩
theorem call_bool1 : CallR X (.type "bool") (fun xs H Q => (∃ i, xs = [.int i] ∧ Q (.bl (i != 0)) H) ∨ ∃ k, xs = [.bl k] ∧ Q (.bl k) H) := by
  intro pins s σ H xs us Q I r h
  rcases h with ⟨i, rfl, q⟩ | ⟨k, rfl, q⟩
  · obtain ⟨u, rfl, t, rfl⟩ := vals1 r
    exact call_bool_int ⟨.bl (i != 0), H, I, rfl, q⟩
  · obtain ⟨u, rfl, r1⟩ := vals1 r
    cases r1
    exact call_bool_bool ⟨.bl k, H, I, rfl, q⟩
theorem call_str_int : CallR X (.type "str") (fun xs H Q => ∃ i, xs = [.int i] ∧ i.natAbs.log2 < 1920 ∧ Q (.str (toString i)) H) := by
  intro pins s σ H xs us Q I r h
  obtain ⟨i, rfl, hz, q⟩ := h
  obtain ⟨u, rfl, t, rfl⟩ := vals1 r
  exact PySem.P.str_of_int hz ⟨.str _, H, I.tok _, ⟨_, rfl⟩, q⟩
theorem call_ord : CallR X (.builtin "ord") (fun xs H Q => ∃ x, xs = [.str x] ∧ x.length = 1 ∧ Q (.int (x.cps.getD 0 0 : Nat)) H) := by
  intro pins s σ H xs us Q I r h
  obtain ⟨x, rfl, hz, q⟩ := h
  obtain ⟨u, rfl, t, rfl⟩ := vals1 r
  exact ord_of_one hz ⟨.int _, H, I.tok _, ⟨_, rfl⟩, q⟩
theorem call_chr : CallR X (.builtin "chr") (fun xs H Q => ∃ i, xs = [.int i] ∧ 0 ≤ i ∧ i ≤ 1114111 ∧ Q (.str ⟨#[i.toNat]⟩) H) := by
  intro pins s σ H xs us Q I r h
  obtain ⟨i, rfl, h0, h1, q⟩ := h
  obtain ⟨u, rfl, t, rfl⟩ := vals1 r
  exact chr_of_range h0 h1 ⟨.str _, H, I.tok _, ⟨_, rfl⟩, q⟩
/-- len of a str, a bytes, a list, a tuple -/
def LenV (K : PySem.W.Frag) (x : V) (H : Hp) (n : Nat) : Prop :=
  match x with
  | .str y => y.length ≤ sizeLine ∧ n = y.length
  | .byt y => y.size ≤ sizeLine ∧ n = y.size
  | .ref p => (∃ xs, SqL K H p xs ∧ n = xs.length) ∨ ∃ xs, SqT K H p xs ∧ n = xs.length
  | _ => False
theorem call_len : CallR X (.builtin "len") (fun xs H Q => ∃ x n, xs = [x] ∧ LenV X.K x H n ∧ Q (.int n) H) := by
  intro pins s σ H xs us Q I r h
  obtain ⟨x, n, rfl, e, q⟩ := h
  obtain ⟨u, rfl, rx⟩ := vals1 r
  have hl := line63
  have hs : sizeLine = 16777216 := sizeLine_eq
  cases x with
  | str y =>
    obtain ⟨t, rfl⟩ := rx
    obtain ⟨hy, e'⟩ : y.length ≤ sizeLine ∧ n = y.length := e
    subst e'
    exact len_str (by omega) ⟨.int _, H, I.tok _, ⟨_, rfl⟩, q⟩
  | byt y =>
    obtain ⟨t, rfl⟩ := rx
    obtain ⟨hy, e'⟩ : y.size ≤ sizeLine ∧ n = y.size := e
    subst e'
    exact PySem.W.len_bytes (by omega) ⟨.int _, H, I.tok _, ⟨_, rfl⟩, q⟩
  | ref p =>
    cases rx
    have e' : (∃ xs, SqL X.K H p xs ∧ n = xs.length) ∨ ∃ xs, SqT X.K H p xs ∧ n = xs.length := e
    rcases e' with ⟨xs, hx, e'⟩ | ⟨xs, hx, e'⟩
    · subst e'
      obtain ⟨its, r', pl, hz⟩ := I.list hx
      have hlen := r'.length
      exact Calls.call_len_list pl.isList (by simp only [List.size_toArray]; omega) ⟨.int xs.length, H, I.tok _, ⟨_, by simp only [List.size_toArray]; rw [hlen]⟩, q⟩
    · subst e'
      obtain ⟨its, r', pl, hz⟩ := I.tuple hx
      have hlen := r'.length
      exact len_tuple pl (by simp only [List.size_toArray]; omega) ⟨.int xs.length, H, I.tok _, ⟨_, by simp only [List.size_toArray]; rw [hlen]⟩, q⟩
  | _ => exact (show False from e).elim
/-- divmod: a new tuple -/
theorem call_divmod : CallR X (.builtin "divmod") (fun xs H Q => ∃ i j, xs = [.int i, .int j] ∧ CDiv i j ∧ ∀ p, H p = none → Q (.ref p) (upd H p (.tup [.int (i / j), .int (i % j)]))) := by
  intro pins s σ H xs us Q I r h
  obtain ⟨i, j, rfl, ⟨h1, h2⟩, q⟩ := h
  obtain ⟨u, w', rfl, ⟨t, rfl⟩, ⟨t', rfl⟩⟩ := vals2 r
  refine divmod_int (by omega) ?_ (.inl (PyProof.noPylong_small (by omega)))
  rw [Int.fdiv_eq_ediv_of_nonneg i (by omega), Int.fmod_eq_emod_of_nonneg i (by omega)]
  have hn : H s.heap.objs.size = none := I.hok.fresh (Nat.le_refl _)
  refine ⟨.ref s.heap.objs.size, _, ?_, rfl, q _ hn⟩
  refine I.laid (fun b o e => Heap.get?_push_of_some _ e) (Nat.le_refl _) ⟨by simp only [List.length_cons, List.length_nil]; rw [sizeLine_eq]; decide, [.int (i / j) s.toks, .int (i % j) (s.toks + 1)], .cons ⟨_, rfl⟩ (.cons ⟨_, rfl⟩ .nil), ?_⟩
  exact ⟨_, Heap.get?_push_size s.heap rfl, rfl, 0, rfl⟩
end
end L2

namespace L2
open PySem PySem.Spec PyProof.Rows

/-! ### an instance, its attributes a map -/
structure ObjM (h : Heap) (x dx C : Addr) (mA : Str → Option Value) : Prop where
  obj : h.get? x = some (PySem.W.instObj C dx)
  ns : h.Ns1 dx mA
  ne : dx ≠ x

theorem lookIn_ns {h : Heap} {dx : Addr} {mA : Str → Option Value} (n : h.Ns1 dx mA) : ∃ od, h.get? dx = some od ∧ ∀ name, PySem.W.lookIn name od = some (mA name) := by
  obtain ⟨o, es, ep, ho, hd, hk, _, hm⟩ := n
  refine ⟨o, ho, fun name => ?_⟩
  have e := hm name
  unfold nsFind findBy at e
  rw [← Array.find?_toList] at e
  unfold PySem.W.lookIn
  rw [hd]
  dsimp only
  split
  · rename_i y q
    rw [q] at e
    exact congrArg some e
  · rename_i q
    rw [q] at e
    have a : es.toList.any (·.refKey) = false := by
      rw [List.any_eq_false]
      intro y hy
      obtain ⟨z, t, hkey⟩ := hk y (Array.mem_toList_iff.mp hy)
      simp [DictEntry.refKey, hkey]
    have a' : ¬ es.toList.any (·.refKey) = true := by rw [a]; exact Bool.false_ne_true
    rw [if_neg a']
    exact congrArg some e

theorem ObjM.look {h : Heap} {x dx C : Addr} {mA : Str → Option Value} (I : ObjM h x dx C mA) : ∃ od, PySem.W.InstAt h x (PySem.W.instObj C dx) C (some od) ∧ ∀ name, PySem.W.lookIn name od = some (mA name) :=
  let ⟨od, ho, hl⟩ := lookIn_ns I.ns
  ⟨od, ⟨I.obj, rfl, rfl, ho⟩, hl⟩

section
variable {prog : Program} {w : World} {A : Around} {E : Value → Shared → Prop} {s : Shared} {K : PySem.W.Frag} {x dx C f : Addr} {mA : Str → Option Value} {name : Str} {v : Value}

theorem get_map {expr : Bool} {Q : Value → Shared → Prop} (X : K.In s.heap) (I : ObjM s.heap x dx C mA) (hg : PySem.W.plainGet K C name = true) (hh : PySem.W.hasDictIn K C = true)
    (ha : PySem.W.findIn K (.ref C) name = some none) (hv : mA name = some v) (hv' : PySem.W.handedIn v = true) (h : Q v { s with toks := s.toks + 1 }) :
    wpAny (model prog w) A (getAttr (.ref x) name expr) Q E s := by
  obtain ⟨od, J, hl⟩ := I.look
  exact PySem.W.get_value X J (PySem.W.plainGet_of hg).1 (PySem.W.findObj_own hh ha rfl (by rw [hl, hv])) hv' h

theorem get_const {expr : Bool} {a : Value} {Q : Value → Shared → Prop} (X : K.In s.heap) (I : ObjM s.heap x dx C mA) (hg : PySem.W.plainGet K C name = true) (hh : PySem.W.hasDictIn K C = true)
    (ha : PySem.W.findIn K (.ref C) name = some (some a)) (hn : PySem.W.specialIn K a "__get__" = some none) (hc : PySem.W.copiedNames.contains name = false) (hv : mA name = none) (hv' : PySem.W.handedIn a = true)
    (h : Q a { s with toks := s.toks + 1 }) : wpAny (model prog w) A (getAttr (.ref x) name expr) Q E s := by
  obtain ⟨od, J, hl⟩ := I.look
  exact PySem.W.get_value X J (PySem.W.plainGet_of hg).1 (PySem.W.findObj_cls hh ha hn hv' hc (by rw [hl, hv])) hv' h

theorem get_meth {pl : Sem Bool} {Q : Value × List Value → Shared → Prop} (X : K.In s.heap) (I : ObjM s.heap x dx C mA) (hg : PySem.W.plainGet K C name = true)
    (hf : PySem.W.findIn K (.ref C) name = some (some (.ref f))) (ht : PySem.W.isFn K (.ref f) = true) (hv : mA name = none) (h : Q (.ref f, [.ref x]) s) :
    wpAny (model prog w) A (getMethod (.ref x) name pl) Q E s := by
  obtain ⟨od, J, hl⟩ := I.look
  exact PySem.W.method_fn X J (PySem.W.plainGet_of hg).1 (PySem.W.plainGet_of hg).2 hf (beq_iff_eq.mp ht) (by show (PySem.W.lookIn name od).map (·.isSome) = some false; rw [hl, hv]; rfl) h

theorem set_map {ns : List Str} {Q : Unit → Shared → Prop} (X : K.In s.heap) (I : ObjM s.heap x dx C mA)
    (hs : PySem.W.findIn K (.ref C) "__setattr__" = some (some (.builtin "object.__setattr__"))) (hp : PySem.W.plainOver K C = true) (ht : PySem.W.takerIn K C name = some none) (hh : PySem.W.hasDictIn K C = true)
    (hw : PySem.Within mA ns) (hsz : ns.length ≤ sizeLine)
    (h : ∀ h', ObjM h' x dx C (fun y => if y = name then some v else mA y) → Heap.SameBut dx s.heap h' → Q () { s with heap := h', toks := s.toks + 2 }) :
    wpAny (model prog w) A (setAttr (.ref x) name v) Q E s := by
  obtain ⟨od, J, hl⟩ := I.look
  refine PySem.W.set_plain X J hs (PySem.W.osa_open (s := { s with toks := s.toks + 1 }) (r := none) X J hp ht fun b => ?_)
  obtain ⟨cd, hc, hd'⟩ := PySem.W.any_some hh
  have hx : s.heap.get? x = some ⟨.ref C, some dx, .plain, #[]⟩ := I.obj
  refine wpAny_bind (wpAny_pure (wpAny_bind (wpAny_bind (wpAny_loadPart hx (wpAny_bind (PySem.W.Looks.here (s := { s with toks := s.toks + 1 }) (PySem.W.looks_clsIn X hc) ?_))))))
  rw [hd']
  refine wpAny_pure (a := some dx) (wpAny_bind (wpAny_pure (wpAny_bind ?_)))
  refine wpAny_nsSet1 (s := { s with toks := s.toks + 1 }) I.ns fun h' hn2 hs2 => ?_
  obtain ⟨oD, esD, epD, hoD, hdD, hcD⟩ := hn2.count (PySem.Within.cons name v hw)
  refine wpAny_bind (wpAny_lookBehind hoD (by rw [hdD]; exact pastItsLine_dict (Nat.le_trans hcD (by rw [List.length_cons]; omega))) ?_)
  exact wpAny_pure (h _ ⟨(hs2.2 _ (Ne.symm I.ne)).trans I.obj, hn2, I.ne⟩ hs2)

/-- C(..): the dict at the heap's end, the instance behind it; then its __init__ -/
theorem make_map {R : Result → Shared → Prop} {vs : List Value} {kw : List (Str × Value)} (X : K.In s.heap) (hm : PySem.W.makesIn K C = true)
    (hi : PySem.W.findIn K (.ref C) "__init__" = some (some (.ref f))) (hf : PySem.W.typeIn K (.ref f) = some (.type "function"))
    (h : codeAny (model prog w) (A.under (.builtin "type.__call__" ⟨.ref C :: vs, kw⟩)) (.call (.ref f) ⟨.ref (s.heap.objs.size + 1) :: vs, kw⟩) (PySem.W.InitBack (s.heap.objs.size + 1) R)
      { s with heap := (s.heap.push PySem.W.emptyDict).push (PySem.W.instObj C s.heap.objs.size) }) :
    codeAny (model prog w) A (.call (.ref C) ⟨vs, kw⟩) R s := by
  obtain ⟨hh, g, d, t, os⟩ := s
  exact PySem.W.make_core (PySem.W.makes_of X hm) (PySem.W.looks_findIn X hi) (fun self => PySem.W.bind_fn X self hf) (.inl rfl) h
/-- C() where there is no __init__ but object's -/
theorem make_map0 {R : Result → Shared → Prop} (X : K.In s.heap) (hm : PySem.W.makesIn K C = true)
    (hi : PySem.W.findIn K (.ref C) "__init__" = some (some (.builtin "object.__init__")))
    (hb : ∀ self, PySem.W.Looks (model prog w) s.heap (bindSpecial (.builtin "object.__init__") self) (.builtin "object.__init__", [self]))
    (h : codeAny (model prog w) (A.under (.builtin "type.__call__" ⟨[.ref C], []⟩)) (.call (.builtin "object.__init__") ⟨[.ref (s.heap.objs.size + 1)], []⟩) (PySem.W.InitBack (s.heap.objs.size + 1) R)
      { s with heap := (s.heap.push PySem.W.emptyDict).push (PySem.W.instObj C s.heap.objs.size) }) :
    codeAny (model prog w) A (.call (.ref C) ⟨[], []⟩) R s := by
  obtain ⟨hh, g, d, t, os⟩ := s
  exact PySem.W.make_core (PySem.W.makes_of X hm) (PySem.W.looks_findIn X hi) hb (.inr ⟨rfl, rfl⟩) h
end

/-! ### the attributes as a list of pairs -/
def putF (f : Str) (v : V) : List (Str × V) → List (Str × V)
  | [] => [(f, v)]
  | (g, x) :: r => if g = f then (g, v) :: r else (g, x) :: putF f v r
theorem lookup_putF (f g : Str) (v : V) : ∀ fs : List (Str × V), (putF f v fs).lookup g = if g = f then some v else fs.lookup g
  | [] => by
    show List.lookup g [(f, v)] = _
    by_cases h : g = f
    · have hb : (g == f) = true := beq_iff_eq.mpr h
      simp only [List.lookup, hb, if_pos h]
    · have hb : (g == f) = false := beq_eq_false_iff_ne.mpr h
      simp only [List.lookup, hb, if_neg h]
  | (k, x) :: r => by
    have ih := lookup_putF f g v r
    rw [show putF f v ((k, x) :: r) = (if k = f then (k, v) :: r else (k, x) :: putF f v r) from rfl]
    by_cases hk : k = f
    · rw [if_pos hk]
      by_cases h : g = k
      · have hb : (g == k) = true := beq_iff_eq.mpr h
        simp only [List.lookup, hb, if_pos (h.trans hk)]
      · have hb : (g == k) = false := beq_eq_false_iff_ne.mpr h
        simp only [List.lookup, hb, if_neg (fun e : g = f => h (e.trans hk.symm))]
    · rw [if_neg hk]
      by_cases h : g = k
      · have hb : (g == k) = true := beq_iff_eq.mpr h
        simp only [List.lookup, hb, if_neg (fun e : g = f => hk (h.symm.trans e))]
      · have hb : (g == k) = false := beq_eq_false_iff_ne.mpr h
        simp only [List.lookup, hb]
        exact ih
theorem keys_putF (f : Str) (v : V) : ∀ fs : List (Str × V), f ∈ (putF f v fs).map (·.1) ∧ ∀ g, g ∈ fs.map (·.1) → g ∈ (putF f v fs).map (·.1)
  | [] => ⟨by simp [putF], fun g h => by simp at h⟩
  | (k, x) :: r => by
    obtain ⟨i1, i2⟩ := keys_putF f v r
    rw [show putF f v ((k, x) :: r) = (if k = f then (k, v) :: r else (k, x) :: putF f v r) from rfl]
    by_cases hk : k = f
    · rw [if_pos hk]
      subst hk
      exact ⟨by simp, fun g h => by simpa using h⟩
    · rw [if_neg hk]
      refine ⟨?_, fun g h => ?_⟩
      · rw [List.map_cons]
        exact List.mem_cons_of_mem _ i1
      · rw [List.map_cons] at h ⊢
        rcases List.mem_cons.mp h with e | e
        · exact List.mem_cons.mpr (.inl e)
        · exact List.mem_cons_of_mem _ (i2 g e)
theorem length_putF (f : Str) (v : V) : ∀ fs : List (Str × V), (putF f v fs).length ≤ fs.length + 1
  | [] => by simp [putF]
  | (k, x) :: r => by
    have ih := length_putF f v r
    rw [show putF f v ((k, x) :: r) = (if k = f then (k, v) :: r else (k, x) :: putF f v r) from rfl]
    by_cases hk : k = f
    · rw [if_pos hk, List.length_cons, List.length_cons]; omega
    · rw [if_neg hk, List.length_cons, List.length_cons]; omega

theorem RelO.some_of {v : V} {o : Option Value} (r : RelO (some v) o) : ∃ u, o = some u ∧ RelV v u := by
  cases o with
  | none => exact (show False from r).elim
  | some u => exact ⟨u, rfl, r⟩
theorem RelO.none_of {o : Option Value} (r : RelO none o) : o = none := by
  cases o with
  | none => rfl
  | some u => exact (show False from r).elim
theorem handed_of {v : V} {u : Value} (r : RelV v u) : PySem.W.handedIn u = true := by
  cases v with
  | non => cases (show u = Value.none from r); rfl
  | bl b => cases (show u = Value.bool b from r); rfl
  | int i => obtain ⟨t, e⟩ := (show ∃ t, u = Value.int i t from r); cases e; rfl
  | str x => obtain ⟨t, e⟩ := (show ∃ t, u = Value.str x t from r); cases e; rfl
  | byt b => obtain ⟨t, e⟩ := (show ∃ t, u = Value.bytes b t from r); cases e; rfl
  | flt b => obtain ⟨t, e⟩ := (show ∃ t, u = Value.float b t from r); cases e; rfl
  | ref a => cases (show u = Value.ref a from r); rfl
  | ty n => cases (show u = Value.type n from r); rfl

section
variable {P : Program} {w : World} {H H' : Hp} {h h' : Heap} {a C dx : Addr} {fs fs' : List (Str × V)}
theorem ins_get (hok : HOk P w H h) (e : H a = some (.ins C dx fs)) : ∃ mA, ObjM h a dx C mA ∧ (∀ f, RelO (fs.lookup f) (mA f)) ∧ PySem.Within mA (fs.map (·.1)) ∧ fs.length ≤ 1000 ∧ H dx = some (.own a) := by
  obtain ⟨d, z, ne, ob, mA, n, r, q⟩ := (show ObjOk P w H h a (.ins C dx fs) from hok a _ e)
  exact ⟨mA, ⟨ob, n, ne⟩, r, q, z, d⟩
end

/-! ### what of the text a class must have -/
structure Cls (K : PySem.W.Frag) (C : Addr) : Prop where
  pg : PySem.W.plainGet K C Str.empty = true
  hd : PySem.W.hasDictIn K C = true
  po : PySem.W.plainOver K C = true
  sa : PySem.W.findIn K (.ref C) "__setattr__" = some (some (.builtin "object.__setattr__"))
theorem Cls.get {K : PySem.W.Frag} {C : Addr} (c : Cls K C) (f : Str) : PySem.W.plainGet K C f = true := c.pg
/-- no class of it has the name -/
def NoAttr (K : PySem.W.Frag) (C : Addr) (f : Str) : Prop := PySem.W.findIn K (.ref C) f = some none
theorem NoAttr.taker {K : PySem.W.Frag} {C : Addr} {f : Str} (n : NoAttr K C f) : PySem.W.takerIn K C f = some none := by
  unfold PySem.W.takerIn
  rw [show PySem.W.findIn K (.ref C) f = some none from n]
  rfl
/-- a constant of the class -/
structure Con (K : PySem.W.Frag) (C : Addr) (f : Str) (v : V) (u : Value) : Prop where
  at_ : PySem.W.findIn K (.ref C) f = some (some u)
  rel : RelV v u
  get : PySem.W.specialIn K u "__get__" = some none
  cp : PySem.W.copiedNames.contains f = false
/-- a method: a plain def of the class or of one above it -/
structure Meth (K : PySem.W.Frag) (C : Addr) (m : Str) (f : Addr) : Prop where
  at_ : PySem.W.findIn K (.ref C) m = some (some (.ref f))
  fn : PySem.W.isFn K (.ref f) = true
  kp : PySem.W.keepIn K (.ref f) = true

section
variable {X : Cx} {pins : List (Addr × Obj)} {σ : St} {H : Hp} {s : Shared} {a C dx : Addr} {fs : List (Str × V)} {f : Str} {v : V} {A : Around} {E : Value → Shared → Prop}

theorem getattr_ok {b : Bool} {Q : Value → Shared → Prop} (I : Inv X pins σ H s) (e : H a = some (.ins C dx fs)) (c : Cls X.K C) (n : NoAttr X.K C f) (l : fs.lookup f = some v)
    (h : ∀ u s', Inv X pins σ H s' → RelV v u → Q u s') : wpAny (model X.prog X.w) A (getAttr (.ref a) f b) Q E s := by
  obtain ⟨mA, O, r, _, _, _⟩ := ins_get I.hok e
  obtain ⟨u, hu, ru⟩ := RelO.some_of (v := v) (o := mA f) (by rw [← l]; exact r f)
  exact get_map I.kIn O (c.get f) c.hd n hu (handed_of ru) (h u _ (I.tok _) ru)

theorem getcon_ok {b : Bool} {u : Value} {Q : Value → Shared → Prop} (I : Inv X pins σ H s) (e : H a = some (.ins C dx fs)) (c : Cls X.K C) (k : Con X.K C f v u) (l : fs.lookup f = none)
    (h : ∀ s', Inv X pins σ H s' → Q u s') : wpAny (model X.prog X.w) A (getAttr (.ref a) f b) Q E s := by
  obtain ⟨mA, O, r, _, _, _⟩ := ins_get I.hok e
  have hn : mA f = none := RelO.none_of (by rw [← l]; exact r f)
  exact get_const I.kIn O (c.get f) c.hd k.at_ k.get k.cp hn (handed_of k.rel) (h _ (I.tok _))

theorem getmeth_ok {m : Str} {g : Addr} {pl : Sem Bool} {Q : Value × List Value → Shared → Prop} (I : Inv X pins σ H s) (e : H a = some (.ins C dx fs)) (c : Cls X.K C) (k : Meth X.K C m g) (l : fs.lookup m = none)
    (h : Q (.ref g, [.ref a]) s) : wpAny (model X.prog X.w) A (getMethod (.ref a) m pl) Q E s := by
  obtain ⟨mA, O, r, _, _, _⟩ := ins_get I.hok e
  have hn : mA m = none := RelO.none_of (by rw [← l]; exact r m)
  exact get_meth I.kIn O (c.get m) k.at_ k.fn hn h

theorem setattr_ok {y : V} {u : Value} {Q : Unit → Shared → Prop} (I : Inv X pins σ H s) (e : H a = some (.ins C dx fs)) (c : Cls X.K C) (n : NoAttr X.K C f) (hl : fs.length < 1000) (ry : RelV y u)
    (h : ∀ s', Inv X pins σ (upd H a (.ins C dx (putF f y fs))) s' → Q () s') : wpAny (model X.prog X.w) A (setAttr (.ref a) f u) Q E s := by
  obtain ⟨mA, O, r, wi, _, ho⟩ := ins_get I.hok e
  have hz : (fs.map (·.1)).length ≤ sizeLine := by rw [List.length_map, sizeLine_eq]; omega
  refine set_map I.kIn O c.sa c.po n.taker c.hd wi hz fun h' O' sb => h _ ?_
  have hd : ∃ o, h'.get? dx = some o := let ⟨o, _, _, e', _⟩ := O'.ns; ⟨o, e'⟩
  refine I.write (x := a) (e := dx) (by rw [e]; exact True.intro) (.inr ho) (fun b q hb z => (sb.2 b hb).trans z) hd ?_
  refine ⟨by rw [upd_ne O.ne]; exact ho, ?_, O.ne, O'.obj, _, O'.ns, fun g => ?_, fun g hg => ?_⟩
  · have := length_putF f y fs; omega
  · show RelO ((putF f y fs).lookup g) (if g = f then some u else mA g)
    rw [lookup_putF]
    by_cases q : g = f
    · rw [if_pos q, if_pos q]; exact ry
    · rw [if_neg q, if_neg q]; exact r g
  · by_cases q : g = f
    · rw [q]; exact (keys_putF f y fs).1
    · refine (keys_putF f y fs).2 g (wi g fun z => hg ?_)
      show (if g = f then some u else mA g) = none
      rw [if_neg q]; exact z

/-- a new instance, tracked, without attributes -/
theorem Inv.made (I : Inv X pins σ H s) : Inv X pins σ (upd (upd H s.heap.objs.size (.own (s.heap.objs.size + 1))) (s.heap.objs.size + 1) (.ins C s.heap.objs.size []))
    { s with heap := (s.heap.push PySem.W.emptyDict).push (PySem.W.instObj C s.heap.objs.size) } := by
  have e1 : (s.heap.push PySem.W.emptyDict).get? s.heap.objs.size = some PySem.W.emptyDict := Heap.get?_push_size s.heap rfl
  have e2 : ((s.heap.push PySem.W.emptyDict).push (PySem.W.instObj C s.heap.objs.size)).get? (s.heap.objs.size + 1) = some (PySem.W.instObj C s.heap.objs.size) := by
    have := Heap.get?_push_size (s.heap.push PySem.W.emptyDict) (o := PySem.W.instObj C s.heap.objs.size) rfl
    rwa [Heap.size_push] at this
  have e3 : (s.heap.push PySem.W.emptyDict).Ns s.heap.objs.size (fun _ => none) := ⟨PySem.W.emptyDict, #[], _, e1, rfl, (fun e he => absurd he (by simp)), fun _ => rfl⟩
  have I1 := I.laid (a := s.heap.objs.size) (o := .own (s.heap.objs.size + 1)) (h' := s.heap.push PySem.W.emptyDict) (t' := s.toks) (fun b u q => Heap.get?_push_of_some _ q) (Nat.le_refl _) ⟨_, e1⟩
  refine I1.laid (a := s.heap.objs.size + 1) (o := .ins C s.heap.objs.size []) (t' := s.toks) (fun b u q => Heap.get?_push_of_some _ q) (Nat.le_of_eq (Heap.size_push _ _)) ?_
  have ne : s.heap.objs.size ≠ s.heap.objs.size + 1 := Nat.ne_of_lt (Nat.lt_succ_self _)
  refine ⟨by rw [upd_ne ne, upd_same], Nat.zero_le _, ne, e2, fun _ => none, (Heap.Ns1.of_empty e3).at fun o q => Heap.get?_push_of_some _ q, fun _ => True.intro, fun y hy => absurd rfl hy⟩

/-- e.f where nothing but the object is asked: through attributeBase (super) and the last hold -/
theorem attr_of {prog : Program} {w : World} {env : Env} {e : Expr} {f : Str} {pos : Pos} {s : Shared} {Q : Value → Shared → Prop} (hb : attributeBase e f env (eval e env) = eval e env)
    (h : wpAny (model prog w) A (eval e env) (fun o s₁ => wpAny (model prog w) A (getAttr o f true) Q E s₁) E s) : wpAny (model prog w) A (eval (.Attribute e f pos) env) Q E s :=
  Attribute_any_ h (by rw [arm_eval_Attribute, hb])
end

/-! ### readings and rules -/
/-- e.f, an attribute of the instance -/
def tFld (K : PySem.W.Frag) (ta : TE) (f : Str) : TE := fun σ H Q => ta σ H fun x H1 => ∃ a C dx fs v, x = .ref a ∧ H1 a = some (.ins C dx fs) ∧ Cls K C ∧ NoAttr K C f ∧ fs.lookup f = some v ∧ Q v H1
/-- e.f, a constant of the class -/
def tCon (K : PySem.W.Frag) (ta : TE) (f : Str) : TE := fun σ H Q => ta σ H fun x H1 => ∃ a C dx fs v u, x = .ref a ∧ H1 a = some (.ins C dx fs) ∧ Cls K C ∧ Con K C f v u ∧ fs.lookup f = none ∧ Q v H1
/-- e.f = value -/
def sFld (K : PySem.W.Frag) (ta tv : TE) (f : Str) : TS := fun D σ H => tv σ H fun y H1 => ta σ H1 fun x H2 => ∃ a C dx fs, x = .ref a ∧ H2 a = some (.ins C dx fs) ∧ Cls K C ∧ NoAttr K C f ∧ fs.length < 1000 ∧
  D.nx σ (upd H2 a (.ins C dx (putF f y fs)))
/-- an augmented operator on two values -/
def InOp (X : Cx) (op : Operator) (rd : V → V → Hp → VK → Prop) : Prop :=
  ∀ (pins : List (Addr × Obj)) (s : Shared) (σ : St) (H : Hp) (x y : V) (u v : Value) (Q : VK), Inv X pins σ H s → RelV x u → RelV y v → rd x y H Q → wpAny (model X.prog X.w) X.A (inplaceOp op u v) (EP X pins σ Q) X.xe s
/-- e.f op= value -/
def sFldAug (K : PySem.W.Frag) (ta tv : TE) (rd : V → V → Hp → VK → Prop) (f : Str) : TS := fun D σ H => ta σ H fun x H1 => ∃ a C dx fs v, x = .ref a ∧ H1 a = some (.ins C dx fs) ∧ Cls K C ∧ NoAttr K C f ∧ fs.lookup f = some v ∧
  tv σ H1 fun y H2 => rd v y H2 fun z H3 => ∃ dx' fs', H3 a = some (.ins C dx' fs') ∧ fs'.length < 1000 ∧ D.nx σ (upd H3 a (.ins C dx' (putF f z fs')))

section
variable {X : Cx} {o e value : Expr} {f : Str} {pos pos' tpos : Pos} {ta tv : TE}
theorem pe_fld (he : PE X e ta) (hb : attributeBase e f X.env (eval e X.env) = eval e X.env) : PE X (.Attribute e f pos) (tFld X.K ta f) := by
  intro pins s σ H Q I h
  refine attr_of hb (thn (he pins s σ H _ I h) fun u s1 ⟨x, H1, I1, rx, a, C, dx, fs, v, ex, ea, c, n, l, q⟩ => ?_)
  subst ex
  obtain rfl : u = Value.ref a := rx
  exact getattr_ok I1 ea c n l fun u' s2 I2 ru => ⟨v, H1, I2, ru, q⟩
theorem pe_con (he : PE X e ta) (hb : attributeBase e f X.env (eval e X.env) = eval e X.env) : PE X (.Attribute e f pos) (tCon X.K ta f) := by
  intro pins s σ H Q I h
  refine attr_of hb (thn (he pins s σ H _ I h) fun u s1 ⟨x, H1, I1, rx, a, C, dx, fs, v, u0, ex, ea, c, k, l, q⟩ => ?_)
  subst ex
  obtain rfl : u = Value.ref a := rx
  exact getcon_ok I1 ea c k l fun s2 I2 => ⟨v, H1, I2, k.rel, q⟩
theorem ps_fld (ha : PE X o ta) (hv : PE X value tv) (hs : swapsWith value (some (.Attribute o f pos')) pos.line X.env = pure false) : PS X (.Assign [.Attribute o f pos'] value pos) (sFld X.K ta tv f) := by
  intro pins s σ H D I h
  refine plainObj_wpAny_Assign_Attribute (thn (hv pins s σ H _ I h) fun u s1 ⟨y, H1, I1, ry, q⟩ => thn (ha pins s1 σ H1 _ I1 q) fun ov s2 ⟨x, H2, I2, rx, a, C, dx, fs, ex, ea, c, n, l, q2⟩ => ?_) hs
  subst ex
  obtain rfl : ov = Value.ref a := rx
  exact setattr_ok I2 ea c n l ry fun s3 I3 => ⟨σ, _, I3, q2⟩
theorem ps_fldaug {op : Operator} {rd : V → V → Hp → VK → Prop} (ha : PE X o ta) (hv : PE X value tv) (hop : InOp X op rd) : PS X (.AugAssign (.Attribute o f tpos) op value pos) (sFldAug X.K ta tv rd f) := by
  intro pins s σ H D I h
  refine wpAny_AugAssign_AttributeAny (thn (ha pins s σ H _ I h) fun ov s1 ⟨x, H1, I1, rx, a, C, dx, fs, v, ex, ea, c, n, l, q⟩ => ?_)
  subst ex
  obtain rfl : ov = Value.ref a := rx
  refine getattr_ok I1 ea c n l fun u s2 I2 ru => thn (hv pins s2 σ H1 _ I2 q) fun w3 s3 ⟨y, H2, I3, ry, q3⟩ => thn (hop pins s3 σ H2 v y u w3 _ I3 ru ry q3) fun w4 s4 ⟨z, H3, I4, rz, dx', fs', ea', l', q4⟩ => ?_
  exact setattr_ok I4 ea' c n l' rz fun s5 I5 => ⟨σ, _, I5, q4⟩
def rAdd : V → V → Hp → VK → Prop := fun x y H Q => ∃ i j, x = .int i ∧ y = .int j ∧ Q (.int (i + j)) H
def rSub : V → V → Hp → VK → Prop := fun x y H Q => ∃ i j, x = .int i ∧ y = .int j ∧ Q (.int (i - j)) H
theorem in_add : InOp X .Add rAdd := by
  rintro pins s σ H x y u v Q I rx ry ⟨i, j, rfl, rfl, q⟩
  obtain ⟨t, rfl⟩ := (show ∃ t, u = Value.int i t from rx)
  obtain ⟨t', rfl⟩ := (show ∃ t', v = Value.int j t' from ry)
  exact PyProof.Rows.iadd_int ⟨.int (i + j), H, I.tok _, ⟨_, rfl⟩, q⟩
theorem in_sub : InOp X .Sub rSub := by
  rintro pins s σ H x y u v Q I rx ry ⟨i, j, rfl, rfl, q⟩
  obtain ⟨t, rfl⟩ := (show ∃ t, u = Value.int i t from rx)
  obtain ⟨t', rfl⟩ := (show ∃ t', v = Value.int j t' from ry)
  exact PyProof.Rows.isub_int ⟨.int (i - j), H, I.tok _, ⟨_, rfl⟩, q⟩

/-- what is between an instance and its method: the tree of a method call -/
theorem methcall_of {pl : Sem Bool} {m : Str} {apos : Pos} {args : List Expr} {pins : List (Addr × Obj)} {s : Shared} {σ : St} {H : Hp} {Q : Value → Shared → Prop} {te : TE} (he : PE X e te) (I : Inv X pins σ H s)
    (h : te σ H fun x H1 => ∃ a C dx fs g, x = .ref a ∧ H1 a = some (.ins C dx fs) ∧ Cls X.K C ∧ Meth X.K C m g ∧ fs.lookup m = none ∧
      ∀ s1, Inv X pins σ H1 s1 → wpAny (model X.prog X.w) X.A (callWith pos (.ref g) [.ref a] (backTo pos (starEach args X.env)) (backToKw pos (keywordEach [] X.env))) Q X.xe s1)
    (ht : eval (.Call (.Attribute e m apos) args [] pos) X.env = (do
      let ov ← eval e X.env
      standAt apos.atName
      let (f, first) ← holding [ov] (getMethod ov m pl)
      callWith pos f first (backTo pos (starEach args X.env)) (backToKw pos (keywordEach [] X.env)))) :
    wpAny (model X.prog X.w) X.A (eval (.Call (.Attribute e m apos) args [] pos) X.env) Q X.xe s := by
  refine PySem.W.methodCall_KW (pl := pl) (thn (he pins s σ H _ I h) fun u s1 ⟨x, H1, I1, rx, a, C, dx, fs, g, ex, ea, c, k, l, q⟩ => ?_) ht
  subst ex
  obtain rfl : u = Value.ref a := rx
  exact getmeth_ok I1 ea c k l (q s1 I1)
end

/-! ### isinstance -/
section
variable {X : Cx} {pins : List (Addr × Obj)} {σ : St} {H : Hp} {s : Shared} {A : Around} {E : Value → Shared → Prop} {Q : Value → Shared → Prop} {c : Value} {b : Bool}
/-- the type of a value, as the fragment's deciders take it; for an instance its class -/
inductive TyOf (K : PySem.W.Frag) (H : Hp) : V → Value → Prop where
  | non : TyOf K H .non (.type "NoneType")
  | bl (x : Bool) : TyOf K H (.bl x) (.type "bool")
  | int (i : Int) : TyOf K H (.int i) (.type "int")
  | str (x : Str) : TyOf K H (.str x) (.type "str")
  | flt (x : UInt64) : TyOf K H (.flt x) (.type "float")
  | lst {a : Addr} {xs : List V} (e : H a = some (.lst xs)) : TyOf K H (.ref a) (.type "list")
  | frz {a : Addr} {o : Obj} {xs : List V} (e : H a = some (.frz o (.lst xs))) : TyOf K H (.ref a) (.type "list")
  | tup {a : Addr} {xs : List V} (e : H a = some (.tup xs)) : TyOf K H (.ref a) (.type "tuple")
  | dK {a : Addr} {kvs : List (Key × V)} (e : H a = some (.dK kvs)) : TyOf K H (.ref a) (.type "dict")
  | dT {a : Addr} {kvs : List (List Key × V)} (e : H a = some (.dT kvs)) : TyOf K H (.ref a) (.type "dict")
  | ins {a C dx : Addr} {fs : List (Str × V)} (e : H a = some (.ins C dx fs)) (cl : Cls K C) (ha : PySem.W.findIn K (.ref C) "__class__" = some (some (.builtin "object.__class__")))
      (hn : PySem.W.specialIn K (.builtin "object.__class__") "__get__" = some (some (.builtin "getset_descriptor.__get__"))) (htk : PySem.W.takesIn K (.builtin "object.__class__") = some true)
      (hm : PySem.W.mroIn K C (.type "object") = some true) : TyOf K H (.ref a) (.ref C)
/-- isinstance(x, c) for one class c, a built-in or an own one: kitOne's answer -/
theorem isinst_ok {x : V} {u t : Value} (I : Inv X pins σ H s) (rx : RelV x u) (ty : TyOf X.K H x t) (e : PySem.W.kitOne X.K t c = some b) (h : ∀ tk, Q (.bool b) { s with toks := tk }) :
    wpAny (model X.prog X.w) A (call (.builtin "isinstance") [u, c]) Q E s := by
  cases ty with
  | non => cases (show u = Value.none from rx); exact PySem.W.kia_one PySem.W.kitx_none I.kIn True.intro e (fun z => nomatch z) h
  | bl y => cases (show u = Value.bool y from rx); exact PySem.W.kia_one PySem.W.kitx_bool I.kIn True.intro e (fun z => nomatch z) h
  | int i => obtain ⟨t, q⟩ := (show ∃ t, u = Value.int i t from rx); cases q; exact PySem.W.kia_one PySem.W.kitx_int I.kIn True.intro e (fun z => nomatch z) h
  | str y => obtain ⟨t, q⟩ := (show ∃ t, u = Value.str y t from rx); cases q; exact PySem.W.kia_one PySem.W.kitx_str I.kIn True.intro e (fun z => nomatch z) h
  | flt y => obtain ⟨t, q⟩ := (show ∃ t, u = Value.float y t from rx); cases q; exact PySem.W.kia_one PySem.W.kitx_float I.kIn True.intro e (fun z => nomatch z) h
  | @lst a xs ea =>
    cases (show u = Value.ref a from rx)
    obtain ⟨_, _, n, _, h1⟩ := (show ObjOk X.prog X.w H s.heap a (.lst xs) from I.hok a _ ea)
    exact PySem.W.kia_one PySem.W.kitx_list I.kIn ⟨_, h1, rfl⟩ e (fun z => nomatch z) h
  | @frz a ob xs ea =>
    cases (show u = Value.ref a from rx)
    obtain ⟨_, _, _, n, _, h1⟩ := (show ObjOk X.prog X.w H s.heap a (.frz ob (.lst xs)) from I.hok a _ ea)
    exact PySem.W.kia_one PySem.W.kitx_list I.kIn ⟨_, h1, rfl⟩ e (fun z => nomatch z) h
  | @tup a xs ea =>
    cases (show u = Value.ref a from rx)
    obtain ⟨_, _, _, p⟩ := (show ObjOk X.prog X.w H s.heap a (.tup xs) from I.hok a _ ea)
    obtain ⟨o, h1, h2, _⟩ := p
    exact PySem.W.kia_one PySem.W.kitx_tuple I.kIn ⟨o, h1, h2⟩ e (fun z => nomatch z) h
  | @dK a kvs ea =>
    cases (show u = Value.ref a from rx)
    obtain ⟨_, _, vs, _, p⟩ := (show ObjOk X.prog X.w H s.heap a (.dK kvs) from I.hok a _ ea)
    obtain ⟨o, es, ep, h1, h2, _⟩ := p
    exact PySem.W.kia_one PySem.W.kitx_dict I.kIn ⟨o, h1, h2.1⟩ e (fun z => nomatch z) h
  | @dT a kvs ea =>
    cases (show u = Value.ref a from rx)
    obtain ⟨_, _, xs, _, o, es, ep, h1, h2, _⟩ := (show ObjOk X.prog X.w H s.heap a (.dT kvs) from I.hok a _ ea)
    exact PySem.W.kia_one PySem.W.kitx_dict I.kIn ⟨o, h1, h2.1⟩ e (fun z => nomatch z) h
  | @ins a C dx fs ea cl ha hn htk hm =>
    cases (show u = Value.ref a from rx)
    obtain ⟨mA, O, _⟩ := ins_get I.hok ea
    obtain ⟨od, J, _⟩ := O.look
    exact PySem.W.kia_one (PySem.W.kitx_own (cl.get _) cl.hd ha hn htk hm) I.kIn J e (fun z => nomatch z) h
end
end L2

namespace L2
open PySem PySem.Spec PyProof.Rows

/-! ### room -/
structure Room (k : Nat) (A : Around) : Prop where
  hd : A.handled = none
  dp : A.depth + 3 * k + 5 < recursionLimit
  un : A.units + 16 * k + 200 < cLine
theorem Room.mono {j k : Nat} {A : Around} (r : Room k A) (h : j ≤ k) : Room j A := ⟨r.hd, by have := r.dp; omega, by have := r.un; omega⟩
theorem Room.deeper {k : Nat} {A : Around} (r : Room (k + 1) A) (env : Env) : Room k (A.deeper env) :=
  ⟨r.hd, by have := r.dp; show A.depth + 1 + 3 * k + 5 < _; omega, by have := r.un; show A.units + 3 + 16 * k + 200 < _; omega⟩
theorem Room.in1 {k : Nat} {A : Around} (r : Room (k + 1) A) : Room k A.in1 :=
  ⟨r.hd, by have := r.dp; show A.depth + 3 * k + 5 < _; omega, by have := r.un; show A.units + 1 + 16 * k + 200 < _; omega⟩
theorem make_depth {A : Around} {C : Addr} {us : List Value} {kw : List (Str × Value)} : (A.under (.builtin "type.__call__" ⟨.ref C :: us, kw⟩)).depth = A.depth + 1 := by
  first | rfl | simp [Around.under, Code.weight, Code.isCreation, Code.isGuard, Code.isCaller, Code.frames, Code.isFrame, guardIds]
theorem make_units {A : Around} {C : Addr} {us : List Value} {kw : List (Str × Value)} : (A.under (.builtin "type.__call__" ⟨.ref C :: us, kw⟩)).units = A.units + 1 := by
  first | rfl | simp [Around.under, Code.cUnits, Code.frames, Code.isFrame]
theorem Room.make {k : Nat} {A : Around} (r : Room (k + 1) A) (C : Addr) (us : List Value) (kw : List (Str × Value)) : Room k (A.under (.builtin "type.__call__" ⟨.ref C :: us, kw⟩)) :=
  ⟨r.hd, by have := r.dp; rw [make_depth]; omega, by have := r.un; rw [make_units]; omega⟩
theorem Room.depth {k : Nat} {A : Around} (r : Room k A) : A.depth < recursionLimit := by have := r.dp; omega
theorem Room.units {k : Nat} {A : Around} (r : Room k A) : A.units + 64 < cLine := by have := r.un; omega
theorem Room.units0 {k : Nat} {A : Around} (r : Room k A) : A.units < cLine := by have := r.un; omega

/-! ### argument lists and displays -/
def tNil : TA := fun _ H Q => Q [] H
def tCons (ta : TE) (tr : TA) : TA := fun σ H Q => ta σ H fun x H1 => tr σ H1 fun xs H2 => Q (x :: xs) H2
section
variable {X : Cx} {e : Expr} {es : List Expr} {te : TE} {t : TA} {pos : Pos}
theorem pa_nil : PA X [] tNil := fun _ _ _ _ H Q I h => Calls.spliced_nil ⟨[], H, I, .nil, h⟩
theorem pa_cons (ha : PE X e te) (hr : PA X es t) (hs : starEach (e :: es) X.env = (false, eval e X.env) :: starEach es X.env := by rfl) : PA X (e :: es) (tCons te t) := by
  intro pos pins s σ H Q I h
  rw [hs]
  show wpAny _ _ (spliced ((false, eval e X.env) :: backTo pos (starEach es X.env))) _ _ s
  refine Calls.spliced_cons (thn (ha pins s σ H _ I h) fun u s1 ⟨x, H1, I1, r1, q1⟩ => ?_)
  exact thn (hr pos pins s1 σ H1 _ I1 q1) fun us s2 ⟨xs, H2, I2, r2, q2⟩ => ⟨x :: xs, H2, I2, .cons r1 r2, q2⟩

/-- a tuple, a list of written items -/
def tTup (t : TA) : TE := fun σ H Q => t σ H fun xs H1 => xs.length ≤ sizeLine ∧ ∀ p, H1 p = none → Q (.ref p) (upd H1 p (.tup xs))
def tLst (t : TA) : TE := fun σ H Q => t σ H fun xs H1 => xs.length ≤ sizeLine ∧ ∀ p, H1 p = none → Q (.ref p) (upd H1 p (.lst xs))
theorem pe_tup {x1} (h : PA X es t) : PE X (.Tuple es x1 pos) (tTup t) := by
  intro pins s σ H Q I hq
  refine wpAny_Tuple_spliced (thn (h pos pins s σ H _ I hq) fun us s1 ⟨xs, H1, I1, r, z, q⟩ => ⟨by rw [← r.length]; exact z, ?_⟩)
  have hf : H1 s1.heap.objs.size = none := I1.hok.fresh (Nat.le_refl _)
  refine ⟨.ref s1.heap.objs.size, upd H1 s1.heap.objs.size (.tup xs), I1.laid (t' := s1.toks) (fun b u e => Heap.get?_push_of_some _ e) (Nat.le_refl _) ?_, rfl, q _ hf⟩
  exact ⟨z, us, r, ⟨_, Heap.get?_push_size _ rfl, rfl, _, rfl⟩⟩
theorem pe_lst (h : PA X es t) : PE X (.List es pos) (tLst t) := by
  intro pins s σ H Q I hq
  refine wpAny_List_spliced (thn (h pos pins s σ H _ I hq) fun us s1 ⟨xs, H1, I1, r, z, q⟩ => ⟨by rw [← r.length]; exact z, ?_⟩)
  have hf : H1 s1.heap.objs.size = none := I1.hok.fresh (Nat.le_refl _)
  refine ⟨.ref s1.heap.objs.size, upd H1 s1.heap.objs.size (.lst xs), I1.laid (t' := s1.toks) (fun b u e => Heap.get?_push_of_some _ e) (Nat.le_refl _) ?_, rfl, q _ hf⟩
  exact ⟨z, us, 0, r, Heap.get?_push_size _ rfl⟩
end

/-! ### what a def promises -/
/-- a def's promise: the bound arguments in the parameters' order, the heap, the wanted end, the wanted exception -/
abbrev Sp := List V → Hp → VK → XK → Prop
/-- how an exception lies behind a call (file 08 gives it): the callers' frames, abstract heap and state ahead of the call, the wish, the exception, the state -/
abbrev CXT := List Env → Hp → Shared → XK → Value → Shared → Prop

/-- the state at a call -/
structure Env0 (P : Program) (w : World) (K : PySem.W.Frag) (mg : Str → Option Value) (base : Heap) (A : Around) (outer : List Env) (s : Shared) (H : Hp) : Prop where
  frames : A.frames = some outer
  mod : Mod K mg base
  bs : ∀ b o, base.get? b = some o → s.heap.get? b = some o ∧ H b = none
  bsz : base.objs.size ≤ s.heap.objs.size
  funs : s.heap.FunFrames base outer
  frf : ∀ b ∈ frs outer, H b = none
  hok : HOk P w H s.heap
  bare : AllBare s.gens
/-- a call's end -/
def CE (outer : List Env) (P : Program) (w : World) (H : Hp) (s : Shared) (Q : VK) (u : Value) (s' : Shared) : Prop :=
  ∃ v H', s'.os = s.os ∧ AllBare s'.gens ∧ Un (frs outer) [] H H' s.heap s'.heap ∧ HOk P w H' s'.heap ∧ RelV v u ∧ Q v H'
def CR (CX : CXT) (outer : List Env) (P : Program) (w : World) (H : Hp) (s : Shared) (Q : VK) (E : XK) (r : Result) (s' : Shared) : Prop :=
  match r with
  | .ok (.ret u) => CE outer P w H s Q u s'
  | .ok _ => False
  | .error e => CX outer H s E e s'
structure FnOk (P : Program) (w : World) (K : PySem.W.Frag) (mg : Str → Option Value) (base : Heap) (CX : CXT) (k : Nat) (f : Addr) (fd : FuncData) (ps : List Str) (sp : Sp) : Prop where
  len : ∀ vs H Q E, sp vs H Q E → vs.length = ps.length
  run : ∀ (A : Around) (outer : List Env) (s : Shared) (H : Hp) (args : Args) (us : List Value) (vs : List V) (Q : VK) (E : XK), Room k A → Env0 P w K mg base A outer s H → BindsTo s fd args (ps.zip us) → Vals vs us → sp vs H Q E →
    codeAny (model P w) A (.call (.ref f) args) (CR CX outer P w H s Q E) s
theorem FnOk.mono {P : Program} {w : World} {K : PySem.W.Frag} {mg : Str → Option Value} {base : Heap} {CX : CXT} {j k : Nat} {f : Addr} {fd : FuncData} {ps : List Str} {sp : Sp} (F : FnOk P w K mg base CX j f fd ps sp) (h : j ≤ k) :
    FnOk P w K mg base CX k f fd ps sp := ⟨F.len, fun A outer s H args us vs Q E hr => F.run A outer s H args us vs Q E (hr.mono h)⟩
/-- a weaker promise -/
theorem FnOk.imp {P : Program} {w : World} {K : PySem.W.Frag} {mg : Str → Option Value} {base : Heap} {CX : CXT} {k : Nat} {f : Addr} {fd : FuncData} {ps : List Str} {sp sp' : Sp} (F : FnOk P w K mg base CX k f fd ps sp)
    (h : ∀ vs H Q E, sp' vs H Q E → sp vs H Q E) : FnOk P w K mg base CX k f fd ps sp' :=
  ⟨fun vs H Q E q => F.len vs H Q E (h _ _ _ _ q), fun A outer s H args us vs Q E hr he hb hv hs => F.run A outer s H args us vs Q E hr he hb hv (h _ _ _ _ hs)⟩

theorem Env0.make {P : Program} {w : World} {K : PySem.W.Frag} {mg : Str → Option Value} {base : Heap} {A : Around} {outer : List Env} {s : Shared} {H : Hp} (e : Env0 P w K mg base A outer s H) (C : Addr) (us : List Value) (kw : List (Str × Value)) :
    Env0 P w K mg base (A.under (.builtin "type.__call__" ⟨.ref C :: us, kw⟩)) outer s H := ⟨by first | exact e.frames | (simpa [Around.under, Code.envs, Code.isFrame, pushEnvs] using e.frames), e.mod, e.bs, e.bsz, e.funs, e.frf, e.hok, e.bare⟩
theorem Env0.in1 {P : Program} {w : World} {K : PySem.W.Frag} {mg : Str → Option Value} {base : Heap} {A : Around} {outer : List Env} {s : Shared} {H : Hp} (e : Env0 P w K mg base A outer s H) :
    Env0 P w K mg base A.in1 outer s H := ⟨e.frames, e.mod, e.bs, e.bsz, e.funs, e.frf, e.hok, e.bare⟩

section
variable {X : Cx} {pins : List (Addr × Obj)} {σ : St} {H : Hp} {s s' : Shared}
/-- from a body: what a callee wants -/
theorem Inv.env0 (I : Inv X pins σ H s) : Env0 X.prog X.w X.K X.mg X.base X.A X.stack s H :=
  ⟨I.ok.frames, I.ok.mod, I.bs, Nat.le_trans I.ok.bsz I.sz, I.stack, I.stkFree, I.hok, I.bare⟩
/-- behind a call -/
theorem Inv.after {Q : VK} {u : Value} (I : Inv X pins σ H s) (h : CE X.stack X.prog X.w H s Q u s') : EP X pins σ Q u s' := by
  obtain ⟨v, H', os, bare, un, hok, r, q⟩ := h
  obtain ⟨hh, g, d, t, os'⟩ := s'
  obtain rfl : os' = s.os := os
  exact ⟨v, H', I.call (h' := hh) (g' := g) (d' := d) (t' := t) (ch := []) un hok bare (fun b z => absurd z (by simp)), r, q⟩
end

/-! ### calls -/
/-- f(..): the written arguments, then the defaults dvs; E: what is wanted of an exception -/
def tCall (sp : Sp) (dvs : List V) (E : XK) (t : TA) : TE := fun σ H Q => t σ H fun vs H1 => sp (vs ++ dvs) H1 Q E
/-- o.m(..) of an instance of the class at C -/
def tMeth (C : Addr) (m : Str) (sp : Sp) (dvs : List V) (E : XK) (ta : TE) (t : TA) : TE := fun σ H Q => ta σ H fun x H1 => ∃ a dx fs, x = .ref a ∧ H1 a = some (.ins C dx fs) ∧ fs.lookup m = none ∧
  t σ H1 fun vs H2 => sp (x :: (vs ++ dvs)) H2 Q E
/-- C(..): a new instance and its dict, then __init__ -/
def tMake (C : Addr) (sp : Sp) (dvs : List V) (E : XK) (t : TA) : TE := fun σ H Q => t σ H fun vs H1 => ∀ x dx, H1 x = none → H1 dx = none → dx ≠ x →
  sp (.ref x :: (vs ++ dvs)) (upd (upd H1 dx (.own x)) x (.ins C dx [])) (fun v H2 => v = .non ∧ Q (.ref x) H2) E

/-- how the parameters are bound: us the positional arguments, kw the keywords' values by name, ds the defaults that fill up -/
def Binds (K : PySem.W.Frag) (fd : FuncData) (ps : List Str) (ds : List Value) : Prop :=
  ∀ (s : Shared) (us : List Value), K.In s.heap → (us ++ ds).length = ps.length → BindsTo s fd ⟨us, []⟩ (ps.zip (us ++ ds))
/-- every parameter is given -/
theorem Binds.all {K : PySem.W.Frag} {fd : FuncData} {ps : List Str} (h : ∀ us : List Value, us.length = ps.length → bindArgs fd ⟨us, []⟩ = pure (ps.zip us)) : Binds K fd ps [] := fun s us _ hl => by
  rw [List.append_nil] at hl ⊢
  exact .of_eq (h us hl)

/-- an exception of a callee reaches what this body wants of exceptions -/
def Passes (CX : CXT) (X : Cx) (E : XK) : Prop := ∀ (pins : List (Addr × Obj)) (σ : St) (H : Hp) (s : Shared) (e : Value) (s' : Shared), Inv X pins σ H s → CX X.stack H s E e s' → X.xe e s'

section
variable {X : Cx} {CX : CXT} {k : Nat} {f C : Addr} {fd : FuncData} {ps : List Str} {sp : Sp} {dvs : List V} {ds : List Value} {E : XK} {x m : Str} {p pos apos : Pos} {e o : Expr} {es : List Expr} {ta : TE} {t : TA}

/-- the callee runs -/
theorem run_fn {pins : List (Addr × Obj)} {σ : St} {H : Hp} {s : Shared} {Q : VK} {us : List Value} {vs : List V} (F : FnOk X.prog X.w X.K X.mg X.base CX k f fd ps sp) (hr : Room k X.A) (hb : Binds X.K fd ps ds) (hd : Vals dvs ds) (hx : Passes CX X E)
    (I : Inv X pins σ H s) (r : Vals vs us) (h : sp (vs ++ dvs) H Q E) : wpAny (model X.prog X.w) X.A (call (.ref f) us) (EP X pins σ Q) X.xe s := by
  have r2 : Vals (vs ++ dvs) (us ++ ds) := r.append hd
  have hl : (us ++ ds).length = ps.length := by rw [← r2.length]; exact F.len _ _ _ _ h
  refine wpAny_call (codeAny_mono (F.run X.A X.stack s H ⟨us, []⟩ (us ++ ds) (vs ++ dvs) Q E hr I.env0 (hb s us I.kIn hl) r2 h) fun r s' hq => ?_)
  cases r with
  | error e => exact hx pins σ H s e s' I hq
  | ok fl =>
    cases fl with
    | ret u => exact I.after hq
    | next => exact False.elim hq
    | brk => exact False.elim hq
    | cont => exact False.elim hq

theorem pe_call (F : FnOk X.prog X.w X.K X.mg X.base CX k f fd ps sp) (hr : Room k X.A) (hg : Gl X x) (hm : X.mg x = some (.ref f)) (hk : PySem.W.keepIn X.K (.ref f) = true) (hb : Binds X.K fd ps ds) (hd : Vals dvs ds) (hx : Passes CX X E)
    (ha : PA X (e :: es) t) (hdb : (x == ("__debug__" : Str)) = false := by decide) (he : starEach (e :: es) X.env = (false, eval e X.env) :: starEach es X.env := by rfl) (hpl : (backTo pos (starEach es X.env)).any (·.1) = false := by rfl) :
    PE X (.Call (.Name x p) (e :: es) [] pos) (tCall sp dvs E t) := by
  intro pins s σ H Q I h
  refine wpAny_Call_Name_kw (ld_glob I hg hm ?_ hdb)
  refine PySem.W.callWith_K (h₀ := X.base) I.ok.mod.kin hk (thn (ha pos pins s σ H _ I h) fun us s1 ⟨vs, H1, I1, r, q⟩ => ⟨I1.kIn, ?_⟩) he hpl
  exact run_fn F hr hb hd hx I1 r q
theorem pe_call0 (F : FnOk X.prog X.w X.K X.mg X.base CX k f fd ps sp) (hr : Room k X.A) (hg : Gl X x) (hm : X.mg x = some (.ref f)) (hk : PySem.W.keepIn X.K (.ref f) = true) (hb : Binds X.K fd ps ds) (hd : Vals dvs ds) (hx : Passes CX X E)
    (hdb : (x == ("__debug__" : Str)) = false := by decide) : PE X (.Call (.Name x p) [] [] pos) (tCall sp dvs E tNil) := by
  intro pins s σ H Q I h
  refine wpAny_Call_Name_kw (ld_glob I hg hm ?_ hdb)
  exact PySem.W.callWith_K0 I.kIn hk (run_fn (us := []) F hr hb hd hx I .nil h)

/-- o.m(e, ..) -/
theorem pe_meth {pl : Sem Bool} (he : PE X o ta) (c : Cls X.K C) (hm : Meth X.K C m f) (F : FnOk X.prog X.w X.K X.mg X.base CX k f fd ps sp) (hr : Room k X.A) (hb : Binds X.K fd ps ds) (hd : Vals dvs ds) (hx : Passes CX X E) (ha : PA X (e :: es) t)
    (hst : starEach (e :: es) X.env = (false, eval e X.env) :: starEach es X.env := by rfl) (hpl : (backTo pos (starEach es X.env)).any (·.1) = false := by rfl)
    (ht : eval (.Call (.Attribute o m apos) (e :: es) [] pos) X.env = (do
      let ov ← eval o X.env
      standAt apos.atName
      let (f, first) ← holding [ov] (getMethod ov m pl)
      callWith pos f first (backTo pos (starEach (e :: es) X.env)) (backToKw pos (keywordEach [] X.env))) := by rfl) :
    PE X (.Call (.Attribute o m apos) (e :: es) [] pos) (tMeth C m sp dvs E ta t) := by
  intro pins s σ H Q I h
  refine PySem.W.methodCall_KW (pl := pl) (thn (he pins s σ H _ I h) fun u s1 ⟨x, H1, I1, rx, a, dx, fs, ex, ea, l, q⟩ => ?_) ht
  subst ex
  obtain rfl : u = Value.ref a := rx
  refine getmeth_ok I1 ea c hm l ?_
  refine PySem.W.callWith_K (first := [.ref a]) (h₀ := X.base) I.ok.mod.kin hm.kp (thn (ha pos pins s1 σ H1 _ I1 q) fun us s2 ⟨vs, H2, I2, r, q2⟩ => ⟨I2.kIn, ?_⟩) hst hpl
  exact run_fn (us := .ref a :: us) (vs := .ref a :: vs) F hr hb hd hx I2 (.cons rfl r) q2
/-- o.m() -/
theorem pe_meth0 {pl : Sem Bool} (he : PE X o ta) (c : Cls X.K C) (hm : Meth X.K C m f) (F : FnOk X.prog X.w X.K X.mg X.base CX k f fd ps sp) (hr : Room k X.A) (hb : Binds X.K fd ps ds) (hd : Vals dvs ds) (hx : Passes CX X E)
    (ht : eval (.Call (.Attribute o m apos) [] [] pos) X.env = (do
      let ov ← eval o X.env
      standAt apos.atName
      let (f, first) ← holding [ov] (getMethod ov m pl)
      callWith pos f first (backTo pos (starEach [] X.env)) (backToKw pos (keywordEach [] X.env))) := by rfl) :
    PE X (.Call (.Attribute o m apos) [] [] pos) (tMeth C m sp dvs E ta tNil) := by
  intro pins s σ H Q I h
  refine PySem.W.methodCall_KW (pl := pl) (thn (he pins s σ H _ I h) fun u s1 ⟨x, H1, I1, rx, a, dx, fs, ex, ea, l, q⟩ => ?_) ht
  subst ex
  obtain rfl : u = Value.ref a := rx
  refine getmeth_ok I1 ea c hm l ?_
  exact PySem.W.callWith_K0 (first := [.ref a]) I1.kIn hm.kp (run_fn (us := [.ref a]) (vs := [.ref a]) F hr hb hd hx I1 (.cons rfl .nil) q)

/-- what a class must have to be made -/
structure Mk (K : PySem.W.Frag) (C f : Addr) : Prop where
  makes : PySem.W.makesIn K C = true
  init : PySem.W.findIn K (.ref C) "__init__" = some (some (.ref f))
  fn : PySem.W.isFn K (.ref f) = true
  kp : PySem.W.keepIn K (.ref C) = true

theorem run_make {pins : List (Addr × Obj)} {σ : St} {H : Hp} {s : Shared} {Q : VK} {us : List Value} {vs : List V} (M : Mk X.K C f) (F : FnOk X.prog X.w X.K X.mg X.base CX k f fd ps sp) (hr : Room (k + 1) X.A) (hb : Binds X.K fd ps ds) (hd : Vals dvs ds)
    (hx : Passes CX X E) (I : Inv X pins σ H s) (r : Vals vs us)
    (h : ∀ x dx, H x = none → H dx = none → dx ≠ x → sp (.ref x :: (vs ++ dvs)) (upd (upd H dx (.own x)) x (.ins C dx [])) (fun v H2 => v = .non ∧ Q (.ref x) H2) E) :
    wpAny (model X.prog X.w) X.A (call (.ref C) us) (EP X pins σ Q) X.xe s := by
  have hq := h (s.heap.objs.size + 1) s.heap.objs.size (I.hok.fresh (Nat.le_succ _)) (I.hok.fresh (Nat.le_refl _)) (Nat.ne_of_lt (Nat.lt_succ_self _))
  have I2 := Inv.made (C := C) I
  have r2 : Vals (V.ref (s.heap.objs.size + 1) :: (vs ++ dvs)) (Value.ref (s.heap.objs.size + 1) :: (us ++ ds)) := .cons rfl (r.append hd)
  have hl : (Value.ref (s.heap.objs.size + 1) :: us ++ ds).length = ps.length := by
    have e := r2.length
    rw [F.len _ _ _ _ hq] at e
    exact e.symm
  refine wpAny_call (make_map (f := f) I.kIn M.makes M.init (beq_iff_eq.mp M.fn) (codeAny_mono (F.run _ X.stack _ _ ⟨Value.ref (s.heap.objs.size + 1) :: us, []⟩ (Value.ref (s.heap.objs.size + 1) :: (us ++ ds)) _ _ E (hr.make C us [])
    (I2.env0.make C us []) (hb _ (Value.ref (s.heap.objs.size + 1) :: us) I2.kIn hl) r2 hq) fun r s' hq' => ?_))
  cases r with
  | error e => exact hx pins σ _ _ e s' I2 hq'
  | ok fl =>
    cases fl with
    | ret u =>
      obtain ⟨v, H', I3, rv, ev, q3⟩ := I2.after hq'
      subst ev
      exact ⟨rv, ⟨V.ref (s.heap.objs.size + 1), H', I3, rfl, q3⟩⟩
    | next => exact False.elim hq'
    | brk => exact False.elim hq'
    | cont => exact False.elim hq'
theorem pe_make (M : Mk X.K C f) (F : FnOk X.prog X.w X.K X.mg X.base CX k f fd ps sp) (hr : Room (k + 1) X.A) (hg : Gl X x) (hm : X.mg x = some (.ref C)) (hb : Binds X.K fd ps ds) (hd : Vals dvs ds) (hx : Passes CX X E)
    (ha : PA X (e :: es) t) (hdb : (x == ("__debug__" : Str)) = false := by decide) (he : starEach (e :: es) X.env = (false, eval e X.env) :: starEach es X.env := by rfl) (hpl : (backTo pos (starEach es X.env)).any (·.1) = false := by rfl) :
    PE X (.Call (.Name x p) (e :: es) [] pos) (tMake C sp dvs E t) := by
  intro pins s σ H Q I h
  refine wpAny_Call_Name_kw (ld_glob I hg hm ?_ hdb)
  refine PySem.W.callWith_K (h₀ := X.base) I.ok.mod.kin M.kp (thn (ha pos pins s σ H _ I h) fun us s1 ⟨vs, H1, I1, r, q⟩ => ⟨I1.kIn, ?_⟩) he hpl
  exact run_make M F hr hb hd hx I1 r q
theorem pe_make0 (M : Mk X.K C f) (F : FnOk X.prog X.w X.K X.mg X.base CX k f fd ps sp) (hr : Room (k + 1) X.A) (hg : Gl X x) (hm : X.mg x = some (.ref C)) (hb : Binds X.K fd ps ds) (hd : Vals dvs ds) (hx : Passes CX X E)
    (hdb : (x == ("__debug__" : Str)) = false := by decide) : PE X (.Call (.Name x p) [] [] pos) (tMake C sp dvs E tNil) := by
  intro pins s σ H Q I h
  refine wpAny_Call_Name_kw (ld_glob I hg hm ?_ hdb)
  exact PySem.W.callWith_K0 I.kIn M.kp (run_make (us := []) M F hr hb hd hx I .nil h)
end

/-! ### keywords -/
/-- the values of the keywords, from the left -/
def PK (X : Cx) (kws : List Keyword) (t : TA) : Prop :=
  ∀ (pos : Pos) (pins : List (Addr × Obj)) (s : Shared) (σ : St) (H : Hp) (Q : List V → Hp → Prop), Inv X pins σ H s → t σ H Q → wpAny (model X.prog X.w) X.A (evalAll ((backToKw pos (keywordEach kws X.env)).map (·.2))) (AP X pins σ Q) X.xe s
section
variable {X : Cx} {CX : CXT} {k : Nat} {f C : Addr} {fd : FuncData} {ps ks : List Str} {sp : Sp} {E : XK} {x m : Str} {p pos apos kpos : Pos} {e o : Expr} {es : List Expr} {kws : List Keyword} {te ta : TE} {t tk : TA} {nm : Option Str}
theorem pk_nil : PK X [] tNil := fun _ _ _ _ H Q I h => wpAny_evalAll_nil ⟨[], H, I, .nil, h⟩
theorem pk_cons (ha : PE X e te) (hr : PK X kws t) : PK X (⟨nm, e, kpos⟩ :: kws) (tCons te t) := by
  intro pos pins s σ H Q I h
  show wpAny _ _ (evalAll ((do let v ← eval e X.env; standAt pos; pure v) :: (backToKw pos (keywordEach kws X.env)).map (·.2))) _ _ s
  refine wpAny_evalAll_cons (wpAny_bind (thn (ha pins s σ H _ I h) fun u s1 ⟨x, H1, I1, r1, q1⟩ => wpAny_bind (wpAny_standAt (wpAny_pure ?_))))
  exact thn (hr pos pins s1 σ H1 _ I1 q1) fun us s2 ⟨xs, H2, I2, r2, q2⟩ => ⟨x :: xs, H2, I2, .cons r1 r2, q2⟩

/-- how a call with keywords binds: g puts the positional values us and the keywords' values ws (names ks) in the parameters' order, defaults among them -/
structure KBinds (K : PySem.W.Frag) (fd : FuncData) (ps ks : List Str) (g : List Value → List Value → List Value) (gV : List V → List V → List V) : Prop where
  to : ∀ (s : Shared) (us ws : List Value), K.In s.heap → (g us ws).length = ps.length → BindsTo s fd ⟨us, ks.zip ws⟩ (ps.zip (g us ws))
  rel : ∀ {vs : List V} {us : List Value} {zs : List V} {ws : List Value}, Vals vs us → Vals zs ws → Vals (gV vs zs) (g us ws)
def tCallK (sp : Sp) (gV : List V → List V → List V) (E : XK) (t tk : TA) : TE := fun σ H Q => t σ H fun vs H1 => tk σ H1 fun zs H2 => sp (gV vs zs) H2 Q E
variable {g : List Value → List Value → List Value} {gV : List V → List V → List V}
theorem run_fnk {pins : List (Addr × Obj)} {σ : St} {H : Hp} {s : Shared} {Q : VK} {us ws : List Value} {vs zs : List V} (F : FnOk X.prog X.w X.K X.mg X.base CX k f fd ps sp) (hr : Room k X.A) (hb : KBinds X.K fd ps ks g gV) (hx : Passes CX X E)
    (I : Inv X pins σ H s) (r : Vals vs us) (rz : Vals zs ws) (h : sp (gV vs zs) H Q E) : wpAny (model X.prog X.w) X.A (call (.ref f) us (ks.zip ws)) (EP X pins σ Q) X.xe s := by
  have r2 := hb.rel r rz
  have hl : (g us ws).length = ps.length := by rw [← r2.length]; exact F.len _ _ _ _ h
  refine wpAny_call (codeAny_mono (F.run X.A X.stack s H ⟨us, ks.zip ws⟩ (g us ws) (gV vs zs) Q E hr I.env0 (hb.to s us ws I.kIn hl) r2 h) fun r s' hq => ?_)
  cases r with
  | error e => exact hx pins σ H s e s' I hq
  | ok fl =>
    cases fl with
    | ret u => exact I.after hq
    | next => exact False.elim hq
    | brk => exact False.elim hq
    | cont => exact False.elim hq
/-- f(e, .., k = v, ..) -/
theorem pe_callK (F : FnOk X.prog X.w X.K X.mg X.base CX k f fd ps sp) (hr : Room k X.A) (hg : Gl X x) (hm : X.mg x = some (.ref f)) (hk : PySem.W.keepIn X.K (.ref f) = true) (hb : KBinds X.K fd ps ks g gV) (hx : Passes CX X E)
    (ha : PA X (e :: es) t) (hkw : PK X kws tk) (hall : (backToKw pos (keywordEach kws X.env)).all (·.1.isSome) = true := by rfl) (hks : (backToKw pos (keywordEach kws X.env)).filterMap (·.1) = ks := by rfl)
    (hdb : (x == ("__debug__" : Str)) = false := by decide) (he : starEach (e :: es) X.env = (false, eval e X.env) :: starEach es X.env := by rfl)
    (hpl : ((backTo pos (starEach (e :: es) X.env)).any (·.1) || (backToKw pos (keywordEach kws X.env)).any (·.1.isNone)) = false := by rfl) :
    PE X (.Call (.Name x p) (e :: es) kws pos) (tCallK sp gV E t tk) := by
  intro pins s σ H Q I h
  refine wpAny_Call_Name_kw (ld_glob I hg hm ?_ hdb)
  refine PySem.W.callWith_KW (h₀ := X.base) I.ok.mod.kin hk hall (thn (ha pos pins s σ H _ I h) fun us s1 ⟨vs, H1, I1, r, q⟩ => ?_) hpl he
  refine thn (hkw pos pins s1 σ H1 _ I1 q) fun ws s2 ⟨zs, H2, I2, rz, q2⟩ => ⟨I2.kIn, ?_⟩
  rw [hks]
  exact run_fnk F hr hb hx I2 r rz q2
end

/-! ### a def's body keeps its promise -/
/-- names: the parameters first -/
structure FnScope (N P : List Str) (sc : Scope) : Prop where
  kind : sc.kind = .function
  co : sc.isCoroutine = false
  gen : sc.isGenerator = false
  nd : N.Nodup
  pre : N.take P.length = P
  par : ∀ x ∈ P, sc.names.lookup x = some .local ∨ sc.names.lookup x = some .cell
  nofree : ∀ y ∈ sc.names, y.2 ≠ .free

theorem bindL_out {kindOf : Str → Option NameKind} {x : Str} : ∀ {binds : List (Str × Value)} {m : Str → Option Value}, (∀ v, (x, v) ∉ binds) → bindL kindOf binds m x = m x
  | [], _, _ => rfl
  | (n, v) :: r, m, h => by
    unfold bindL
    rw [bindL_out fun w hw => h w (List.mem_cons_of_mem _ hw)]
    split
    · have : x ≠ n := by rintro rfl; exact h v List.mem_cons_self
      simp [this]
    · rfl
theorem bindC_out {kindOf : Str → Option NameKind} {x : Str} : ∀ {binds : List (Str × Value)} {m : Str → Option Value}, (∀ v, (x, v) ∉ binds) → bindC kindOf binds m x = m x
  | [], _, _ => rfl
  | (n, v) :: r, m, h => by
    unfold bindC
    rw [bindC_out fun w hw => h w (List.mem_cons_of_mem _ hw)]
    split
    · rfl
    · have : x ≠ n := by rintro rfl; exact h v List.mem_cons_self
      simp [this]
theorem bindL_get {kindOf : Str → Option NameKind} {x : Str} {v : Value} : ∀ {P : List Str} {vs : List Value} {i : Nat} {m : Str → Option Value}, P.Nodup → P[i]? = some x → vs[i]? = some v → kindOf x = some .local →
    bindL kindOf (P.zip vs) m x = some v
  | [], _, _, _, _, h, _, _ => by simp at h
  | _ :: _, [], _, _, _, _, h, _ => by simp at h
  | p :: P, w :: vs, 0, m, nd, h1, h2, hk => by
    simp at h1 h2; subst h1; subst h2
    show bindL kindOf ((p, w) :: P.zip vs) m p = _
    unfold bindL
    rw [bindL_out fun v hv => (List.nodup_cons.mp nd).1 (List.of_mem_zip hv).1, if_pos hk]
    simp
  | p :: P, w :: vs, i + 1, m, nd, h1, h2, hk => by
    show bindL kindOf ((p, w) :: P.zip vs) m x = _
    unfold bindL
    exact bindL_get (i := i) (List.nodup_cons.mp nd).2 (by simpa using h1) (by simpa using h2) hk
theorem bindC_get {kindOf : Str → Option NameKind} {x : Str} {v : Value} : ∀ {P : List Str} {vs : List Value} {i : Nat} {m : Str → Option Value}, P.Nodup → P[i]? = some x → vs[i]? = some v → kindOf x ≠ some .local →
    bindC kindOf (P.zip vs) m x = some v
  | [], _, _, _, _, h, _, _ => by simp at h
  | _ :: _, [], _, _, _, _, h, _ => by simp at h
  | p :: P, w :: vs, 0, m, nd, h1, h2, hk => by
    simp at h1 h2; subst h1; subst h2
    show bindC kindOf ((p, w) :: P.zip vs) m p = _
    unfold bindC
    rw [bindC_out fun v hv => (List.nodup_cons.mp nd).1 (List.of_mem_zip hv).1, if_neg hk]
    simp
  | p :: P, w :: vs, i + 1, m, nd, h1, h2, hk => by
    show bindC kindOf ((p, w) :: P.zip vs) m x = _
    unfold bindC
    exact bindC_get (i := i) (List.nodup_cons.mp nd).2 (by simpa using h1) (by simpa using h2) hk

/-- the names' values at the entry -/
def start (N : List Str) (vs : List V) : St := vs.map some ++ List.replicate (N.length - vs.length) none

/-- the context of a def's body, at its entry; an exception leaves the frame, then lies as CX says -/
def cxOf (CX : CXT) (P : Program) (w : World) (K : PySem.W.Frag) (mg : Str → Option Value) (base : Heap) (N : List Str) (qual : Str) (scope : Scope) (f : Addr) (cd : Value) (A : Around) (outer : List Env) (s : Shared) (H : Hp) (E : XK) : Cx where
  prog := P
  w := w
  K := K
  mg := mg
  base := base
  A := A.deeper (envOfC qual scope s.heap.objs.size f cd)
  N := N
  s₀ := s
  H₀ := H
  env := envOfC qual scope s.heap.objs.size f cd
  outer := outer
  stack := envOfC qual scope s.heap.objs.size f cd :: outer
  ex := []
  calm := true
  fn := fun _ => true
  pn := []
  xe := fun e s' => wpAny (model P w) (A.deeper (envOfC qual scope s.heap.objs.size f cd)) (leaving (envOfC qual scope s.heap.objs.size f cd) e) (fun _ s'' => CX outer H s E e s'') (fun e' s'' => CX outer H s E e' s'') s'

theorem cell_has {sc : Scope} {n : Nat} {x : Str} (h : sc.names.lookup x = some .cell) : ∃ c, (cellsFrom n sc.names []).lookup x = some c := by
  have q := PySem.W.cellsFrom_some sc.names n [] (.inl h)
  exact Option.isSome_iff_exists.mp q

theorem inv_start {CX : CXT} {P : Program} {w : World} {K : PySem.W.Frag} {mg : Str → Option Value} {base : Heap} {N ps : List Str} {qual : Str} {scope : Scope} {f : Addr} {cd : Value} {A : Around} {outer : List Env} {s s1 : Shared} {H : Hp} {E : XK} {us : List Value} {vs : List V}
    (S : FnScope N ps scope) (hd : A.handled = none) (e0 : Env0 P w K mg base A outer s H) (hl : vs.length = ps.length) (r : Vals vs us)
    (x : InCallC s s.heap.objs.size (bindL (envOfC qual scope s.heap.objs.size f cd).kindOf (ps.zip us) fun _ => none) (cellsFrom (s.heap.objs.size + 1) scope.names []) (bindC (envOfC qual scope s.heap.objs.size f cd).kindOf (ps.zip us) fun _ => none) s1) :
    Inv (cxOf CX P w K mg base N qual scope f cd A outer s H E) [] (start N vs) H s1 := by
  have hpl : ps.length ≤ N.length := by have := congrArg List.length S.pre; rw [List.length_take] at this; omega
  obtain ⟨h1, tk, rfl, hk⟩ := x.done
  have noA : ∀ b : Addr, b ∉ (cxOf CX P w K mg base N qual scope f cd A outer s H E).ex := fun b z => absurd (show b ∈ ([] : List Addr) from z) (by simp)
  refine ⟨⟨e0.mod, S.kind, rfl, rfl, Nat.le_refl _, fun y z c h1 h2 => ?_, fun y hy => ?_, fun y c _ h => ?_, fun _ => hd, Around.frames_deeper e0.frames, .inr ⟨rfl, rfl⟩, fun b z => absurd z (noA b), e0.bs, e0.bsz, fun b _ _ => noA b, fun b z => absurd z (noA b), e0.funs, e0.frf⟩,
    rfl, e0.bare, Un.kept hk, ⟨_, x.toInCall.ns, fun i y v h1 h2 h3 => ?_⟩, fun y c h => ⟨_, x.cell y c h⟩, e0.hok.fresh (Nat.le_refl _), fun y c h => ?_, fun p hp => absurd (show p ∈ ([] : List (Addr × Obj)) from hp) (by simp), e0.hok.kept hk, ?_⟩
  · exact name_of_addr x.apart (PySem.mem_of_lookup h1) (PySem.mem_of_lookup h2)
  · have hy : scope.names.lookup y = some .cell ∨ scope.names.lookup y = some .free := hy
    rcases hy with hy | hy
    · exact cell_has hy
    · exact absurd rfl (S.nofree _ (PySem.mem_of_lookup hy))
  · exact Nat.le_of_lt (x.above y c (PySem.mem_of_lookup h))
  · have hi : i < vs.length := by
      unfold start at h2
      by_cases hi : i < vs.length
      · exact hi
      · rw [List.getElem?_append_right (by simpa using hi)] at h2
        rw [List.getElem?_replicate] at h2
        split at h2 <;> cases h2
    have ha : vs[i]? = some v := by
      unfold start at h2
      rw [List.getElem?_append_left (by simpa using hi), List.getElem?_map] at h2
      cases e : vs[i]? with
      | none => rw [e] at h2; cases h2
      | some a => rw [e] at h2; cases h2; rfl
    obtain ⟨u, hu, rv⟩ := r.get ha
    have hp : ps[i]? = some y := by
      rw [← S.pre, List.getElem?_take_of_lt (by omega)]; exact h1
    have ndP : ps.Nodup := by rw [← S.pre]; exact S.nd.sublist (List.take_sublist _ _)
    refine ⟨u, rv, ?_⟩
    rcases S.par y (List.mem_of_getElem? hp) with k | k
    · exact .inl ⟨k, bindL_get ndP hp hu k⟩
    · obtain ⟨c, e⟩ := cell_has (n := s.heap.objs.size + 1) k
      refine .inr ⟨.inl k, c, e, ?_⟩
      have q := x.cell y c e
      rw [bindC_get ndP hp hu (by show scope.names.lookup y ≠ _; rw [k]; decide)] at q
      exact q
  · exact e0.hok.fresh (Nat.le_of_lt (x.above y c (PySem.mem_of_lookup h)))
  · unfold start
    show _ = N.length
    rw [List.length_append, List.length_map, List.length_replicate]
    omega

/-- THE RULE: a def (or a method) of the text, by its body. The body's reading t is chosen for each entry; it is run at the parameters' values -/
theorem fn_of {CX : CXT} {P : Program} {w : World} {K : PySem.W.Frag} {mg : Str → Option Value} {base : Heap} {k : Nat} {f : Addr} {name qual : Str} {params : Arguments} {body : List Stmt} {scope : Scope} {dV kV doc pm cdv ct oc : Value} {an od : Option Addr}
    {osl : Array (Option Value)} {N ps : List Str} {sp : Sp} (lk : K.lookup f = some ⟨oc, od, .func (PySem.W.fnOf name qual params body scope dV kV doc pm an cdv ct), osl⟩) (hcd : PySem.W.codeIn K cdv qual = true) (S : FnScope N ps scope)
    (len : ∀ vs H Q E, sp vs H Q E → vs.length = ps.length)
    (hbody : ∀ (A : Around) (outer : List Env) (s : Shared) (H : Hp) (vs : List V) (Q : VK) (E : XK), Room k (A.deeper (envOfC qual scope s.heap.objs.size f cdv)) → sp vs H Q E →
      ∃ t, PSs (cxOf CX P w K mg base N qual scope f cdv A outer s H E) body t ∧ t { nx := fun _ H' => Q .non H', rt := Q } (start N vs) H) :
    FnOk P w K mg base CX (k + 1) f (PySem.W.fnOf name qual params body scope dV kV doc pm an cdv ct) ps sp := by
  refine ⟨len, fun A outer s H args us vs Q E hr e0 hb r hsp => ?_⟩
  have hl := len _ _ _ _ hsp
  have KX : K.In s.heap := e0.mod.kin.keeps fun b o e => (e0.bs b o e).1
  have lim : s.heap.NoLimit := e0.mod.nolimit.keeps fun b o e => (e0.bs b o e).1
  have hkind : ∀ y ∈ ps.zip us, scope.names.lookup y.1 = some .local ∨ (scope.names.lookup y.1 = some .cell ∧ ((cellsFrom (s.heap.objs.size + 1) scope.names []).lookup y.1).isSome = true) := fun ⟨n, v⟩ hy => by
    rcases S.par n (List.of_mem_zip hy).1 with q | q
    · exact .inl q
    · exact .inr ⟨q, PySem.W.cellsFrom_some _ _ _ (.inl q)⟩
  refine codeAny_call_function hr.depth (KX _ _ lk) rfl S.co S.gen rfl (PySem.W.codeRec_of KX hcd) (hb _ _ _ _ ?_)
  refine wpAny_newFunctionEnv_cells S.kind hkind fun env he s1 x => ?_
  subst he
  refine ⟨lim.keeps x.toInCall.keep, codeAny_func ?_⟩
  obtain ⟨t, ht, hq⟩ := hbody A outer s H vs Q E (hr.deeper _) hsp
  have I : Inv (cxOf CX P w K mg base N qual scope f cdv A outer s H E) [] (start N vs) H s1 := inv_start S hr.hd e0 hl r x
  refine wpAny_mono (ht [] s1 (start N vs) H _ I hq) (fun fl s' hs => ?_) fun e s' hs => hs
  have fin : ∀ {σ' : St} {H' : Hp} {v : V} {u : Value}, Inv (cxOf CX P w K mg base N qual scope f cdv A outer s H E) [] σ' H' s' → RelV v u → Q v H' → CE outer P w H s Q u s' :=
    fun {σ' H' v u} J rv q => ⟨v, H', J.os, J.bare, J.base, J.hok, rv, q⟩
  cases fl with
  | ret u =>
    obtain ⟨v, σ', H', J, rv, q⟩ := hs
    exact fin J rv q
  | next =>
    obtain ⟨σ', H', J, q⟩ := hs
    exact fin (v := V.non) (u := Value.none) J rfl q
  | brk =>
    obtain ⟨_, _, _, q⟩ := hs
    exact False.elim q
  | cont =>
    obtain ⟨_, _, _, q⟩ := hs
    exact False.elim q
end L2

namespace L2
open PySem PySem.Spec PyProof.Rows
section
variable {X : Cx} {x : Str} {p pos : Pos} {e : Expr} {es : List Expr} {t : TA} {id T : String} {r : List V → Hp → VK → Prop}

def tCB (r : List V → Hp → VK → Prop) (t : TA) : TE := fun σ H Q => t σ H fun vs H1 => r vs H1 Q
/-- f(e, ..), f a built-in function -/
theorem pe_callB (hc : CallR X (.builtin id) r) (hg : Gl X x) (hm : X.mg x = none) (hv : bootBuiltins x = some (.builtin id)) (ha : PA X (e :: es) t) (hn : x ≠ "__name__" := by decide) (hdb : (x == ("__debug__" : Str)) = false := by decide)
    (he : starEach (e :: es) X.env = (false, eval e X.env) :: starEach es X.env := by rfl) (hpl : (backTo pos (starEach es X.env)).any (·.1) = false := by rfl) : PE X (.Call (.Name x p) (e :: es) [] pos) (tCB r t) := by
  intro pins s σ H Q I h
  refine wpAny_Call_Name_kw (ld_blt I hg hm hv ?_ hn hdb)
  exact PyProof.Rows.callWith_builtin1 (thn (ha pos pins s σ H _ I h) fun us s1 ⟨vs, H1, I1, r1, q1⟩ => hc pins s1 σ H1 vs us Q I1 r1 q1) he hpl
/-- T(e, ..), T a built-in type -/
theorem pe_callTy (hc : CallR X (.type T) r) (hg : Gl X x) (hm : X.mg x = none) (hv : bootBuiltins x = some (.type T)) (ha : PA X (e :: es) t) (hn : x ≠ "__name__" := by decide) (hdb : (x == ("__debug__" : Str)) = false := by decide)
    (he : starEach (e :: es) X.env = (false, eval e X.env) :: starEach es X.env := by rfl) (hpl : (backTo pos (starEach es X.env)).any (·.1) = false := by rfl) : PE X (.Call (.Name x p) (e :: es) [] pos) (tCB r t) := by
  intro pins s σ H Q I h
  refine wpAny_Call_Name_kw (ld_blt I hg hm hv ?_ hn hdb)
  exact PyProof.Rows.callWith_type1 (thn (ha pos pins s σ H _ I h) fun us s1 ⟨vs, H1, I1, r1, q1⟩ => hc pins s1 σ H1 vs us Q I1 r1 q1) he hpl
/-- T() -/
theorem pe_callTy0 (hc : CallR X (.type T) r) (hg : Gl X x) (hm : X.mg x = none) (hv : bootBuiltins x = some (.type T)) (hn : x ≠ "__name__" := by decide) (hdb : (x == ("__debug__" : Str)) = false := by decide) :
    PE X (.Call (.Name x p) [] [] pos) (tCB r tNil) := by
  intro pins s σ H Q I h
  refine wpAny_Call_Name_kw (ld_blt I hg hm hv ?_ hn hdb)
  exact PyProof.Rows.callWith_type0 (hc pins s σ H [] [] Q I .nil h)
end
end L2

namespace HT
open PySem PyProof.Rows

/-- t < u of tuples of ints -/
def lexLt : List Int → List Int → Bool
  | [], [] => false
  | [], _ :: _ => true
  | _ :: _, [] => false
  | x :: xs, y :: ys => if x = y then lexLt xs ys else decide (x < y)
theorem lexLt_cons (x y : Int) (xs ys : List Int) : lexLt (x :: xs) (y :: ys) = if x = y then lexLt xs ys else decide (x < y) := rfl
theorem lexLt_nil_nil : lexLt [] [] = false := rfl
theorem lexLt_nil_cons (y : Int) (ys : List Int) : lexLt [] (y :: ys) = true := rfl
theorem lexLt_cons_nil (x : Int) (xs : List Int) : lexLt (x :: xs) [] = false := rfl

theorem eqAt_int (A : Around) (s : Shared) (a : Int) (t : Tok) (c : Int) (u : Tok) : ∃ e, SeqAt.EqAt A s (.int a t) (.int c u) e ∧ (e = true ↔ a = c) :=
  ⟨(a == c), SeqAt.EqAt.int_int a t c u, by simp⟩
theorem rcLt_int (A : Around) (s : Shared) (a : Int) (t : Tok) (c : Int) (u : Tok) (prog : Program) (w : World) (E : Value → Shared → Prop) (Q : Value → Shared → Prop) (h : Q (.bool (decide (a < c))) s) :
    wpAny (model prog w) A (richCompare .Lt (.int a t) (.int c u)) Q E s :=
  (PyProof.Rows.lt_int h : wpAny (model prog w) A (compareOp .Lt (.int a t) (.int c u)) Q E s)

section
open PySem.SeqAt
open PySem.AutoSeq1 (wpAny_loadPart')
open PySem.MeetsSeq PySem.MeetsSeq2 PySem.MeetsSeq3

theorem tuple_lt_ints (l b : Addr) (items items2 : Array Value) (n n2 : Nat) (dd dd2 : Option Addr) (sl sl2 : Array (Option Value)) (ns ms : List Int) (hi : IntsAre items.toList ns) (hj : IntsAre items2.toList ms) :
    Meets (Builtin.«tuple.__lt__» ⟨[.ref l, .ref b], []⟩)
      (fun _ R s => s.heap.get? l = some { cls := .type "tuple", dict := dd, data := .seq items n, slots := sl } ∧ s.heap.get? b = some { cls := .type "tuple", dict := dd2, data := .seq items2 n2, slots := sl2 } ∧
        R (.ok (.ret (.bool (lexLt ns ms)))) s) :=
  .of_wp fun prog w A R s h => by
    obtain ⟨hp, g, d, tk, os⟩ := s; obtain ⟨hl, hb, h⟩ := h
    have f2 := AutoSeq1.sub_tuple_tuple
    have z1 : items.size = ns.length := by rw [← hi.length]; simp
    have z2 : items2.size = ms.length := by rw [← hj.length]; simp
    wp_walk using wpAny_loadPart' hl, wpAny_loadPart' hb, wpAny_forIn_list _ (fun rest b s' => b.1 = none ∧ s' = ⟨hp, g, d, tk, os⟩ ∧ ∃ (vs ws : List Value) (ns' ms' : List Int), rest = vs.zip ws ∧
      IntsAre vs ns' ∧ IntsAre ws ms' ∧ ns'.length + items2.size = ms'.length + items.size ∧ R (.ok (.ret (.bool (lexLt ns' ms')))) ⟨hp, g, d, tk, os⟩) _
    case turn =>
      rintro ⟨y, x⟩ rest b s' ⟨hb', rfl, vs, ws, ns', ms', hz, hvi, hwi, hlen, hR⟩
      cases hvi with
      | nil => rw [List.zip_nil_left] at hz; cases hz
      | cons a t hvi' =>
        cases hwi with
        | nil => rw [List.zip_nil_right] at hz; cases hz
        | cons c u hwi' =>
          rw [List.zip_cons_cons] at hz
          injection hz with hyx hrest
          injection hyx with hy hx
          subst hy hx
          rw [lexLt_cons] at hR
          simp only [List.length_cons] at hlen
          obtain ⟨e, he, hiff⟩ := eqAt_int A.in1 ⟨hp, g, d, tk, os⟩ a t c u
          refine wpAny_bind (he prog w _ _ ?_)
          cases e with
          | true =>
            rw [if_pos (hiff.mp rfl)] at hR
            wp_walk
            exact ⟨rfl, rfl, _, _, _, _, hrest, hvi', hwi', by omega, hR⟩
          | false =>
            rw [if_neg (fun q => absurd (hiff.mpr q) Bool.false_ne_true)] at hR
            have hri := rcLt_int A.in1 ⟨hp, g, d, tk, os⟩ a t c u prog w
            wp_walk using hri
            exact ⟨_, rfl, by simpa using hR⟩
    case fin =>
      rintro ⟨b1, b2⟩ s' ⟨hb', rfl, vs, ws, ns', ms', hz, hvi, hwi, hlen, hR⟩
      simp only at hb'
      subst hb'
      have hv : lexLt ns' ms' = decide (items.size < items2.size) := by
        cases hvi with
        | nil =>
          cases hwi with
          | nil =>
            simp only [List.length_nil] at hlen
            rw [lexLt_nil_nil]
            exact (decide_eq_false (by omega)).symm
          | cons c u hw =>
            simp only [List.length_nil, List.length_cons] at hlen
            rw [lexLt_nil_cons]
            exact (decide_eq_true (by omega)).symm
        | cons a t hv =>
          cases hwi with
          | nil =>
            simp only [List.length_nil, List.length_cons] at hlen
            rw [lexLt_cons_nil]
            exact (decide_eq_false (by omega)).symm
          | cons c u hw =>
            rw [List.zip_cons_cons] at hz
            cases hz
      rw [hv] at hR
      wp_walk
      exact ⟨_, rfl, by simpa [Builtin.Tuple.tupleCompareSizes] using hR⟩
    case h =>
      exact ⟨rfl, rfl, items.toList, items2.toList, ns, ms, rfl, hi, hj, by omega, h⟩
end

section
variable {prog : Program} {w : World} {A : Around} {E : Value → Shared → Prop} {s : Shared}

theorem lt_tupInts {l b : Addr} {items items2 : Array Value} {ns ms : List Int} {Q : Value → Shared → Prop} (hl : IsTup s.heap l items) (hb : IsTup s.heap b items2) (hi : IntsAre items.toList ns) (hj : IntsAre items2.toList ms)
    (hu : A.units < cLine) (h : Q (.bool (lexLt ns ms)) s) : wpAny (model prog w) A (compareOp .Lt (.ref l) (.ref b)) Q E s := by
  obtain ⟨⟨cls, dd, data, sl⟩, ho, hc, n, hd⟩ := id hl
  obtain ⟨⟨cls2, dd2, data2, sl2⟩, ho2, hc2, n2, hd2⟩ := id hb
  simp only at hc hd hc2 hd2
  subst hc hd hc2 hd2
  exact richCompare_meets_room (op := .Lt) ⟨_, ho, rfl⟩ ⟨_, ho2, rfl⟩ PySem.F.slot_tuple_lt PySem.F.entry_tuple_lt (PySem.F.args_tuple_lt_2 _ _) (tuple_lt_ints l b items items2 n n2 dd dd2 sl sl2 ns ms hi hj)
    ⟨ho, ho2, show Value.bool (lexLt ns ms) ≠ Value.notImplemented ∧ Q (.bool (lexLt ns ms)) s from ⟨(fun x => nomatch x), h⟩⟩ hu

/-- t + u, t not empty -/
theorem cat_tup {t b : Addr} {vs ws : List Value} {Q : Value → Shared → Prop} (ht : IsTup s.heap t vs.toArray) (hb : IsTup s.heap b ws.toArray) (hv : vs ≠ [])
    (h1 : ws = [] → Q (.ref t) s) (h2 : ws ≠ [] → Q (.ref s.heap.objs.size) { s with heap := s.heap.push { cls := .type "tuple", data := .seq (vs ++ ws).toArray } })
    (hsz : vs.length + ws.length ≤ sizeLine) : wpAny (model prog w) A (binaryOp .Add (.ref t) (.ref b)) Q E s := by
  obtain ⟨⟨cls, dd, data, sl⟩, ho, hc, n, hd⟩ := id ht
  obtain ⟨⟨cls2, dd2, data2, sl2⟩, ho2, hc2, n2, hd2⟩ := id hb
  simp only at hc hd hc2 hd2
  subst hc hd hc2 hd2
  have e : vs.toArray ++ ws.toArray = (vs ++ ws).toArray := by simp
  by_cases hw : ws = []
  · exact concat_meets ⟨_, ho, rfl⟩ ⟨_, ho2, rfl⟩ noFill_tuple_add seq_tuple_add PySem.F.slot_tuple_add PySem.F.entry_tuple_add (PySem.F.args_tuple_add_2 _ _)
      (tuple_addW1 t b vs.toArray ws.toArray n n2 dd dd2 sl sl2 (by simpa using hv) (by simp [hw])) ⟨ho, ho2, h1 hw⟩
  · refine concat_meets ⟨_, ho, rfl⟩ ⟨_, ho2, rfl⟩ noFill_tuple_add seq_tuple_add PySem.F.slot_tuple_add PySem.F.entry_tuple_add (PySem.F.args_tuple_add_2 _ _)
      (tuple_addW2 t b vs.toArray ws.toArray n n2 dd dd2 sl sl2 (by simpa using hv) (by simpa using hw) (by rw [List.size_toArray, List.size_toArray]; exact hsz)) ⟨ho, ho2, ?_⟩
    rw [e]
    exact h2 hw

/-! ### t[a:b], not the whole -/
/-- a slice's bound as a place among n (d where it is left out) -/
def sIx (n d : Nat) : Option Int → Nat
  | none => d
  | some v => if v < 0 then (v + (n : Int)).toNat else min v.toNat n
theorem sIx_none (n d : Nat) : sIx n d none = d := rfl
theorem sIx_nat (n d k : Nat) : sIx n d (some (k : Int)) = min k n := by
  show (if (k : Int) < 0 then ((k : Int) + (n : Int)).toNat else min (k : Int).toNat n) = min k n
  rw [if_neg (by omega), Int.toNat_natCast]
theorem sIx_le (n d : Nat) (hd : d ≤ n) (o : Option Int) : sIx n d o ≤ n := by
  cases o with
  | none => exact hd
  | some v =>
    show (if v < 0 then (v + (n : Int)).toNat else min v.toNat n) ≤ n
    by_cases hv : v < 0
    · rw [if_pos hv]; omega
    · rw [if_neg hv]; exact Nat.min_le_right _ _
theorem clip_eq (v : Int) (n d : Nat) : (if v < 0 then max (v + (n : Int)) 0 else min v (n : Int)) = ((sIx n d (some v) : Nat) : Int) := by
  show (if v < 0 then max (v + (n : Int)) 0 else min v (n : Int)) = (((if v < 0 then (v + (n : Int)).toNat else min v.toNat n) : Nat) : Int)
  by_cases hv : v < 0
  · simp only [if_pos hv]; omega
  · simp only [if_neg hv]; omega
theorem adjust_gen (lo hi : Option Int) (n : Nat) : Builtin.Slice.sliceAdjust lo hi 1 (n : Int) = (((sIx n 0 lo : Nat) : Int), ((sIx n n hi : Nat) : Int)) := by
  have h1 : ¬ ((1 : Int) < 0) := by omega
  unfold Builtin.Slice.sliceAdjust
  simp only [h1, if_false]
  refine Prod.ext ?_ ?_
  · cases lo with
    | none => rfl
    | some v => exact clip_eq v n 0
  · cases hi with
    | none => rfl
    | some v => exact clip_eq v n n
theorem places_gen (i j : Nat) : Builtin.Slice.slicePlaces (i : Int) (j : Int) 1 = j - i := by
  unfold Builtin.Slice.slicePlaces
  have h1 : (1 : Int) > 0 := by omega
  simp only [h1, if_true, Int.ediv_one]
  split <;> omega
theorem slicePart_ {v : Value} {o : Option Int} {Q : Option Int → Shared → Prop} (p : IsPart v o) (h : Q o s) : wpAny (model prog w) A (Builtin.Slice.slicePartIndex v) Q E s := by
  cases p with
  | none => exact slicePart_none h
  | int i t => exact slicePart_int h
theorem sliceApplied_gen {sl : Addr} {vl vu : Value} {lo hi : Option Int} {n : Nat} {Q : Int × Int × Nat → Shared → Prop} (hs : s.heap.IsSliceOf sl vl vu .none) (pl : IsPart vl lo) (pu : IsPart vu hi)
    (h : Q (((sIx n 0 lo : Nat) : Int), 1, sIx n n hi - sIx n 0 lo) s) : wpAny (model prog w) A (Builtin.Slice.sliceApplied (.ref sl) (pure (n : Int))) Q E s := by
  obtain ⟨os, hos, hcs, hds⟩ := id hs
  unfold Builtin.Slice.sliceApplied Builtin.Slice.sliceFields
  refine wpAny_bind (wpAny_bind (wpAny_field hos hds (x := vl) rfl (wpAny_bind (wpAny_field hos hds (x := vu) rfl (wpAny_bind (wpAny_field hos hds (x := .none) rfl (wpAny_pure ?_)))))))
  refine wpAny_bind (slicePart_none ?_)
  show wpAny _ _ (if ((1 : Int) == 0) = true then _ else _) _ _ s
  rw [if_neg (by decide)]
  refine wpAny_bind (slicePart_ pl (wpAny_bind (slicePart_ pu (wpAny_bind (wpAny_pure ?_)))))
  show wpAny _ _ (match Builtin.Slice.sliceAdjust lo hi 1 (n : Int) with | (lo, hi) => pure (lo, (1 : Int), Builtin.Slice.slicePlaces lo hi 1)) _ _ s
  rw [adjust_gen lo hi n]
  show wpAny _ _ (pure (((sIx n 0 lo : Nat) : Int), (1 : Int), Builtin.Slice.slicePlaces ((sIx n 0 lo : Nat) : Int) ((sIx n n hi : Nat) : Int) 1)) _ _ s
  rw [places_gen]
  exact wpAny_pure h
theorem pick_gen (xs : Array Value) (i k : Nat) : ((List.range k).filterMap fun (m : Nat) => xs[((i : Int) + (m : Int) * 1).toNat]?).toArray = ((xs.toList.drop i).take k).toArray := by
  have e : (fun (m : Nat) => xs[((i : Int) + (m : Int) * 1).toNat]?) = fun m => xs[i + m]? := by
    funext m
    have : ((i : Int) + (m : Int) * 1).toNat = i + m := by omega
    rw [this]
  rw [e]
  have := pick_run xs i k
  rw [List.filterMap_map] at this
  have e2 : ((fun x => xs[x]?) ∘ fun x => i + x) = fun m => xs[i + m]? := rfl
  rw [e2] at this
  rw [this]

theorem getItem_tuple_cut {t sl : Addr} {items : Array Value} {vl vu : Value} {lo hi : Option Int} {Q : Value → Shared → Prop} (ht : IsTup s.heap t items) (hs : s.heap.IsSliceOf sl vl vu .none) (pl : IsPart vl lo) (pu : IsPart vu hi)
    (hw : ¬ (sIx items.size 0 lo = 0 ∧ sIx items.size items.size hi = items.size))
    (h : Q (.ref s.heap.objs.size) { s with heap := s.heap.push { cls := .type "tuple", data := .seq ((items.toList.drop (sIx items.size 0 lo)).take (sIx items.size items.size hi - sIx items.size 0 lo)).toArray } })
    (hsz : items.size ≤ sizeLine) : wpAny (model prog w) A (getItem (.ref t) (.ref sl)) Q E s := by
  have htake : sizeOk (.seq ((items.toList.drop (sIx items.size 0 lo)).take (sIx items.size items.size hi - sIx items.size 0 lo)).toArray) := by
    show ((items.toList.drop (sIx items.size 0 lo)).take (sIx items.size items.size hi - sIx items.size 0 lo)).toArray.size ≤ sizeLine
    rw [List.size_toArray, List.length_take, List.length_drop, Array.length_toList]
    omega
  have hj : sIx items.size items.size hi ≤ items.size := sIx_le _ _ (Nat.le_refl _) hi
  obtain ⟨os, hos, hcs, hds⟩ := id hs
  have hTs : s.TypeIs (.ref sl) "slice" := ⟨os, hos, hcs⟩
  unfold getItem
  try with_reducible refine wpAny_holding ?_
  first | refine wpAny_bind (wpAny_pure ?_) | skip
  refine wpAny_bind (wpAny_sequenceKey ht.typeIs (by decide) ?_)
  refine wpAny_bind (wpAny_callSpecial?_slot (name := Str.ofString "__getitem__") ht.typeIs PyProof.Rows.slot_tuple_getitem
    (wpAny_call_entry PyProof.Rows.slot_tuple_getitem ht.typeIs entry_tuple_getitem ?_ (args_tuple_getitem _ _)))
  show wpAny _ _ (Builtin.Tuple.tupleItemsOf (.ref t) >>= _) _ _ s
  refine wpAny_bind (tupleItemsOf_ ht ?_)
  refine wpAny_bind (wpAny_typeOf hTs ?_)
  rw [if_pos (by decide)]
  refine wpAny_bind (sliceApplied_gen hs pl pu ?_)
  have hno : ¬ ((((sIx items.size 0 lo : Nat) : Int) == 0 && (1 : Int) == 1 && (sIx items.size items.size hi - sIx items.size 0 lo) == items.size) = true) := by
    intro q
    rw [Bool.and_eq_true, Bool.and_eq_true] at q
    have q1 : ((sIx items.size 0 lo : Nat) : Int) = 0 := eq_of_beq q.1.1
    have q2 : sIx items.size items.size hi - sIx items.size 0 lo = items.size := eq_of_beq q.2
    exact hw ⟨by omega, by omega⟩
  show wpAny _ _ (if (((sIx items.size 0 lo : Nat) : Int) == 0 && (1 : Int) == 1 && (sIx items.size items.size hi - sIx items.size 0 lo) == items.size) = true then _ else _) _ _ s
  rw [if_neg hno, pick_gen]
  first
    | exact wpAny_bind (m := Builtin.Tuple.tupleExact _) (wpAny_newObj_type (wpAny_pure ⟨_, rfl, wpAny_pure h⟩) htake)
    | exact wpAny_bind (m := Builtin.Tuple.tupleExact _) (wpAny_newObj_type (wpAny_bind (wpAny_pure (wpAny_pure ⟨_, rfl, wpAny_pure h⟩))) htake)
    | exact wpAny_bind (wpAny_bind (m := Builtin.Tuple.tupleExact _) (wpAny_newObj_type (wpAny_pure (wpAny_pure ⟨_, rfl, wpAny_pure h⟩)) htake))
    | exact wpAny_bind (wpAny_bind (m := Builtin.Tuple.tupleExact _) (wpAny_newObj_type (wpAny_pure ⟨_, rfl, wpAny_pure h⟩) htake))
end
end HT

namespace L2
open PySem PySem.Spec PyProof.Rows

/-! ### the parts of a slice -/
abbrev TO := St → Hp → (Option Int → Hp → Prop) → Prop
/-- a slice's part (left out, or an int) -/
def PO (X : Cx) (e : Option Expr) (t : TO) : Prop :=
  ∀ (pins : List (Addr × Obj)) (s : Shared) (σ : St) (H : Hp) (Q : Option Int → Hp → Prop), Inv X pins σ H s → t σ H Q →
    wpAny (model X.prog X.w) X.A (evalPart e X.env) (fun u s' => ∃ o H', Inv X pins σ H' s' ∧ IsPart u o ∧ Q o H') X.xe s
def tNoPart : TO := fun _ H Q => Q none H
def tPart (t : TE) : TO := fun σ H Q => t σ H fun x H1 => ∃ i, x = .int i ∧ Q (some i) H1

theorem intsAre_of {ns : List Int} : ∀ {us : List Value}, Vals (ns.map V.int) us → IntsAre us ns := by
  induction ns with
  | nil => intro us r; rw [List.map_nil] at r; cases r; exact .nil
  | cons n ns ih =>
    intro us r
    rw [List.map_cons] at r
    cases r with
    | cons r1 r2 =>
      obtain ⟨t, e⟩ := r1
      subst e
      exact .cons n t (ih r2)

section
variable {X : Cx} {e : Expr} {te : TE} {lo hi : Option Expr} {tl th : TO} {pos p2 : Pos}

theorem po_none : PO X none tNoPart := by
  intro pins s σ H Q I h
  rw [evalPart_none]
  exact wpAny_pure ⟨none, H, I, .none, h⟩
theorem po_some (h : PE X e te) : PO X (some e) (tPart te) := by
  intro pins s σ H Q I hw
  rw [evalPart_some]
  refine thn (h pins s σ H _ I hw) fun u s1 ⟨x, H1, I1, r1, q1⟩ => ?_
  obtain ⟨i, rfl, q⟩ := q1
  obtain ⟨t, rfl⟩ := r1
  exact ⟨some i, H1, I1, .int i t, q⟩

/-- what a slice of a value is, by values: the slice object stands at sl -/
def SlR (X : Cx) (r : V → Option Int → Option Int → Hp → VK → Prop) : Prop :=
  ∀ (pins : List (Addr × Obj)) (s : Shared) (σ : St) (H : Hp) (x : V) (v vl vu : Value) (lo hi : Option Int) (sl : Addr) (Q : VK), Inv X pins σ H s → RelV x v → s.heap.IsSliceOf sl vl vu .none → IsPart vl lo → IsPart vu hi → r x lo hi H Q →
    ∃ T id, typeLookup (.type T) "__getitem__" = pure (some (.builtin id)) ∧ s.TypeIs v T ∧ wpAny (model X.prog X.w) X.A (getItem v (.ref sl)) (EP X pins σ Q) X.xe s
theorem SlR.or {r r' : V → Option Int → Option Int → Hp → VK → Prop} (h : SlR X r) (h' : SlR X r') : SlR X (fun x lo hi H Q => r x lo hi H Q ∨ r' x lo hi H Q) := by
  intro pins s σ H x v vl vu lo hi sl Q I rx hs pl pu q
  rcases q with q | q
  · exact h pins s σ H x v vl vu lo hi sl Q I rx hs pl pu q
  · exact h' pins s σ H x v vl vu lo hi sl Q I rx hs pl pu q
def tSl (r : V → Option Int → Option Int → Hp → VK → Prop) (te : TE) (tl th : TO) : TE := fun σ H Q => te σ H fun x H1 => tl σ H1 fun l H2 => th σ H2 fun u H3 => r x l u H3 Q
/-- a[lo:hi], any a -/
theorem pe_slice {r : V → Option Int → Option Int → Hp → VK → Prop} (hr : SlR X r) (he : PE X e te) (hl : PO X lo tl) (hu : PO X hi th) : PE X (.Subscript e (.Slice lo hi none p2) pos) (tSl r te tl th) := by
  intro pins s σ H Q I h
  refine Subscript_ (thn (he pins s σ H _ I h) fun v s1 ⟨x, H1, I1, r1, q1⟩ => ?_)
  refine wpAny_Slice (thn (hl pins s1 σ H1 _ I1 q1) fun vl s2 ⟨l, H2, I2, pl, q2⟩ => thn (hu pins s2 σ H2 _ I2 q2) fun vu s3 ⟨u, H3, I3, pu, q3⟩ => ?_)
  rw [evalPart_none]
  refine wpAny_pure ?_
  have I4 : Inv X pins σ H3 { s3 with heap := s3.heap.push { cls := .type "slice", data := .fields #[vl, vu, .none] } } := I3.kept (t' := s3.toks) fun b ob q => Heap.get?_push_of_some _ q
  obtain ⟨T, id, hT, ht, hg⟩ := hr pins { s3 with heap := s3.heap.push { cls := .type "slice", data := .fields #[vl, vu, .none] } } σ H3 x v vl vu l u s3.heap.objs.size Q I4 r1 (Heap.IsSliceOf.new ..) pl pu q3
  show wpAny (model X.prog X.w) X.A (subscriptTail e (.Slice lo hi none p2) v (.ref s3.heap.objs.size)) (EP X pins σ Q) X.xe { s3 with heap := s3.heap.push { cls := .type "slice", data := .fields #[vl, vu, .none] } }
  exact tail_any (ops := [.ref s3.heap.objs.size, v]) ht hT hg (by with_unfolding_all rfl)

/-- the items of xs[lo:hi] -/
def cutV (xs : List V) (lo hi : Option Int) : List V := (xs.drop (HT.sIx xs.length 0 lo)).take (HT.sIx xs.length xs.length hi - HT.sIx xs.length 0 lo)
theorem cutV_length (xs : List V) (lo hi : Option Int) : (cutV xs lo hi).length ≤ xs.length := by
  unfold cutV
  rw [List.length_take, List.length_drop]
  omega
/-- t[lo:hi], not the whole of it (the whole would be t itself) -/
def rSlT (K : PySem.W.Frag) : V → Option Int → Option Int → Hp → VK → Prop := fun x lo hi H Q => ∃ a xs, x = .ref a ∧ SqT K H a xs ∧
  ¬ (HT.sIx xs.length 0 lo = 0 ∧ HT.sIx xs.length xs.length hi = xs.length) ∧ ∀ p, H p = none → Q (.ref p) (upd H p (.tup (cutV xs lo hi)))
theorem sl_tup : SlR X (rSlT X.K) := by
  intro pins s σ H x v vl vu lo hi sl Q I rx hs pl pu h
  obtain ⟨a, xs, rfl, hx, hw, q⟩ := h
  cases rx
  obtain ⟨its, r, ht, hz⟩ := I.tuple hx
  have hlen : its.toArray.size = xs.length := by rw [List.size_toArray]; exact r.length.symm
  refine ⟨"tuple", _, PyProof.Rows.slot_tuple_getitem.lookup, ht.typeIs, ?_⟩
  refine HT.getItem_tuple_cut ht hs pl pu (by rw [hlen]; exact hw) ?_ (by rw [hlen]; exact hz)
  rw [hlen]
  refine ⟨.ref s.heap.objs.size, _, I.laid (t' := s.toks) (o := .tup (cutV xs lo hi)) (fun b ob q => Heap.get?_push_of_some _ q) (Nat.le_refl _) ?_, rfl, q _ (I.hok.fresh (Nat.le_refl _))⟩
  exact ⟨Nat.le_trans (cutV_length xs lo hi) hz, _, (r.drop (HT.sIx xs.length 0 lo)).take (HT.sIx xs.length xs.length hi - HT.sIx xs.length 0 lo), IsTup.new _ _⟩

/-! ### t < u, t + u -/
def rLtT (K : PySem.W.Frag) : R2 := fun x y H Q => ∃ a b ns ms, x = .ref a ∧ y = .ref b ∧ SqT K H a (ns.map V.int) ∧ SqT K H b (ms.map V.int) ∧ Q (.bl (HT.lexLt ns ms)) H
theorem op_ltT (hu : X.A.units < cLine) : OpR X (compareOp .Lt) (rLtT X.K) := by
  intro pins s σ H x y v u Q I rx ry h
  obtain ⟨a, b, ns, ms, rfl, rfl, ha, hb, q⟩ := h
  cases rx
  cases ry
  obtain ⟨its, r1, p1, _⟩ := I.tuple ha
  obtain ⟨its2, r2, p2, _⟩ := I.tuple hb
  have i1 : IntsAre its.toArray.toList ns := intsAre_of r1
  have i2 : IntsAre its2.toArray.toList ms := intsAre_of r2
  exact HT.lt_tupInts p1 p2 i1 i2 hu ⟨.bl (HT.lexLt ns ms), H, I, rfl, q⟩
/-- t + u, t not empty: u empty gives t itself -/
def rCatT (K : PySem.W.Frag) : R2 := fun x y H Q => ∃ a b xs ys, x = .ref a ∧ y = .ref b ∧ SqT K H a xs ∧ SqT K H b ys ∧ xs ≠ [] ∧ xs.length + ys.length ≤ sizeLine ∧
  (ys = [] → Q (.ref a) H) ∧ (ys ≠ [] → ∀ p, H p = none → Q (.ref p) (upd H p (.tup (xs ++ ys))))
theorem Vals.nil_iff {xs : List V} {us : List Value} (r : Vals xs us) : us = [] ↔ xs = [] := by
  cases r with
  | nil => simp
  | cons _ _ => simp
theorem op_catT : OpR X (binaryOp .Add) (rCatT X.K) := by
  intro pins s σ H x y v u Q I rx ry h
  obtain ⟨a, b, xs, ys, rfl, rfl, ha, hb, hx, hz, q1, q2⟩ := h
  cases rx
  cases ry
  obtain ⟨its, r1, p1, _⟩ := I.tuple ha
  obtain ⟨its2, r2, p2, _⟩ := I.tuple hb
  refine HT.cat_tup p1 p2 (fun z => hx (r1.nil_iff.mp z)) (fun z => ⟨.ref a, H, I, rfl, q1 (r2.nil_iff.mp z)⟩) (fun z => ?_) (by rw [← r1.length, ← r2.length]; exact hz)
  refine ⟨.ref s.heap.objs.size, _, I.laid (t' := s.toks) (o := .tup (xs ++ ys)) (fun b ob q => Heap.get?_push_of_some _ q) (Nat.le_refl _) ?_, rfl, q2 (fun w => z (r2.nil_iff.mpr w)) _ (I.hok.fresh (Nat.le_refl _))⟩
  exact ⟨by rw [List.length_append]; exact hz, _, r1.append r2, IsTup.new _ _⟩
/-- tuple(t) -/
theorem call_tupleT : CallR X (.type "tuple") (fun xs H Q => ∃ a ys, xs = [.ref a] ∧ SqT X.K H a ys ∧ Q (.ref a) H) := by
  intro pins s σ H xs us Q I r h
  obtain ⟨a, ys, rfl, ha, q⟩ := h
  obtain ⟨u, rfl, ru⟩ := vals1 r
  cases ru
  obtain ⟨its, _, p1, _⟩ := I.tuple ha
  exact call_tuple_same (items := its.toArray) p1 ⟨.ref a, H, I, rfl, q⟩
end
end L2

namespace L2
open PySem PySem.Spec PyProof.Rows

/-! ### places -/
/-- the place that an index of any sign means -/
def ixN (n : Nat) (i : Int) : Option Nat := if 0 ≤ i then (if i < n then some i.toNat else none) else if -(n : Int) ≤ i then some (i + n).toNat else none
def atI {α : Type} (xs : List α) (i : Int) : Option α := (ixN xs.length i).bind fun j => xs[j]?
theorem ixN_seq {n : Nat} {i : Int} {j : Nat} (h : ixN n i = some j) : seqIndex? i n = some j ∧ j < n ∧ -(n : Int) ≤ i ∧ i < n := by
  unfold ixN at h
  by_cases h0 : 0 ≤ i
  · rw [if_pos h0] at h
    by_cases h1 : i < n
    · rw [if_pos h1] at h
      have e : i.toNat = j := Option.some.inj h
      exact ⟨by rw [seqIndex_of h0 h1, e], by omega, by omega, h1⟩
    · rw [if_neg h1] at h; cases h
  · rw [if_neg h0] at h
    by_cases h1 : -(n : Int) ≤ i
    · rw [if_pos h1] at h
      have e : (i + n).toNat = j := Option.some.inj h
      exact ⟨by rw [seqIndex_neg (by omega) h1, e], by omega, h1, by omega⟩
    · rw [if_neg h1] at h; cases h
theorem atI_get {α : Type} {xs : List α} {i : Int} {v : α} (h : atI xs i = some v) : ∃ j, seqIndex? i xs.length = some j ∧ xs[j]? = some v ∧ j < xs.length ∧ -(xs.length : Int) ≤ i ∧ i < xs.length := by
  unfold atI at h
  cases e : ixN xs.length i with
  | none => rw [e] at h; cases h
  | some j =>
    rw [e] at h
    obtain ⟨h1, h2, h3, h4⟩ := ixN_seq e
    exact ⟨j, h1, h, h2, h3, h4⟩
theorem atI_nat {α : Type} {xs : List α} {j : Nat} {v : α} (h : xs[j]? = some v) : atI xs (j : Int) = some v := by
  have hj : j < xs.length := (List.getElem?_eq_some_iff.mp h).1
  have e : ixN xs.length (j : Int) = some j := by
    unfold ixN
    rw [if_pos (by omega), if_pos (by omega)]; simp
  unfold atI; rw [e]; exact h
theorem atI_last {α : Type} (xs : List α) (v : α) : atI (xs ++ [v]) (-1) = some v := by
  have hl : (xs ++ [v]).length = xs.length + 1 := by simp
  have e : ixN (xs ++ [v]).length (-1) = some xs.length := by
    unfold ixN
    rw [hl, if_neg (by decide), if_pos (by omega)]
    congr 1
    omega
  unfold atI
  rw [e]
  show (xs ++ [v])[xs.length]? = some v
  simp

/-! ### what may be subscripted -/
/-- what stands as an index of a plain subscript -/
def PlainIx (b : Expr) : Prop := ∀ o i, subscripted b false o i = operate [o, i] (getItem o i)
/-- a subscript by values -/
def IxR (X : Cx) (r : R2) : Prop :=
  ∀ (value slice : Expr) (pins : List (Addr × Obj)) (s : Shared) (σ : St) (H : Hp) (x y : V) (v u : Value) (Q : VK), Inv X pins σ H s → RelV x v → RelV y u → r x y H Q →
    subscripted slice false v u = operate [v, u] (getItem v u) → wpAny (model X.prog X.w) X.A (subscriptTail value slice v u) (EP X pins σ Q) X.xe s
/-- a call of a builtin's method by values: the receiver, the arguments -/
def MtR (X : Cx) (id : String) (r : V → List V → Hp → VK → Prop) : Prop :=
  ∀ (pins : List (Addr × Obj)) (s : Shared) (σ : St) (H : Hp) (x : V) (xs : List V) (v : Value) (us : List Value) (Q : VK), Inv X pins σ H s → RelV x v → Vals xs us → r x xs H Q →
    wpAny (model X.prog X.w) X.A (call (.builtin id) (v :: us)) (EP X pins σ Q) X.xe s
section
variable {X : Cx} {a b : Expr} {ta tb : TE} {pos : Pos}
theorem IxR.or {r r' : R2} (h : IxR X r) (h' : IxR X r') : IxR X (fun x y H Q => r x y H Q ∨ r' x y H Q) := by
  intro value slice pins s σ H x y v u Q I rx ry q hs
  rcases q with q | q
  · exact h value slice pins s σ H x y v u Q I rx ry q hs
  · exact h' value slice pins s σ H x y v u Q I rx ry q hs
theorem MtR.or {id : String} {r r' : V → List V → Hp → VK → Prop} (h : MtR X id r) (h' : MtR X id r') : MtR X id (fun x xs H Q => r x xs H Q ∨ r' x xs H Q) := by
  intro pins s σ H x xs v us Q I rx rs q
  rcases q with q | q
  · exact h pins s σ H x xs v us Q I rx rs q
  · exact h' pins s σ H x xs v us Q I rx rs q
/-- a[b] -/
theorem pe_ix {r : R2} (hr : IxR X r) (ha : PE X a ta) (hb : PE X b tb) (hs : PlainIx b) : PE X (.Subscript a b pos) (tOp r ta tb) := by
  intro pins s σ H Q I h
  exact Subscript_ (binT ha hb I h fun v u s2 x y H2 I2 rx ry q => hr a b pins s2 σ H2 x y v u Q I2 rx ry q (hs _ _))

def rIxL (K : PySem.W.Frag) : R2 := fun x y H Q => ∃ p xs i v, x = .ref p ∧ y = .int i ∧ SqL K H p xs ∧ atI xs i = some v ∧ Q v H
def rIxT (K : PySem.W.Frag) : R2 := fun x y H Q => ∃ p xs i v, x = .ref p ∧ y = .int i ∧ SqT K H p xs ∧ atI xs i = some v ∧ Q v H
def rIxS : R2 := fun x y H Q => ∃ z i c, x = .str z ∧ y = .int i ∧ z.length ≤ sizeLine ∧ atI z.cps.toList i = some c ∧ Q (.str ⟨#[c]⟩) H
theorem ix_list : IxR X (rIxL X.K) := by
  intro value slice pins s σ H x y v u Q I rx ry h hs
  obtain ⟨p, xs, i, z, rfl, rfl, hq, he, q⟩ := h
  cases rx
  obtain ⟨t, rfl⟩ := ry
  obtain ⟨its, r, pl, hz⟩ := I.list hq
  obtain ⟨j, h1, h2, h3, h4, h5⟩ := atI_get he
  obtain ⟨w, ew, rw'⟩ := r.get h2
  have hl := r.length
  have hn := line63
  have fin : EP X pins σ Q w s := ⟨z, H, I, rw', q⟩
  by_cases h0 : 0 ≤ i
  · have hj : i.toNat = j := by
      rw [seqIndex_of h0 h5] at h1
      exact Option.some.inj h1
    exact item_listR pl.isList h0 (by omega) (by rw [hj]; simpa using ew) fin hs
  · have hj : (i + (its.toArray.size : Int)).toNat = j := by
      rw [seqIndex_neg (by omega) h4] at h1
      rw [List.size_toArray, ← hl]
      exact Option.some.inj h1
    exact subscriptTail_builtinR (x := w) pl.isList.typeIs slot_list_getitem.lookup
      (wpAny_getItem_list_neg (Q := fun r s' => r = w ∧ EP X pins σ Q r s') pl.isList (by omega) (by rw [List.size_toArray] <;> omega) (by omega) (by rw [hj]; simpa using ew) ⟨rfl, fin⟩) hs
theorem ix_tup : IxR X (rIxT X.K) := by
  intro value slice pins s σ H x y v u Q I rx ry h hs
  obtain ⟨p, xs, i, z, rfl, rfl, hq, he, q⟩ := h
  cases rx
  obtain ⟨t, rfl⟩ := ry
  obtain ⟨its, r, pl, hz⟩ := I.tuple hq
  obtain ⟨j, h1, h2, h3, h4, h5⟩ := atI_get he
  obtain ⟨w, ew, rw'⟩ := r.get h2
  have hl := r.length
  have hn := line63
  have fin : EP X pins σ Q w s := ⟨z, H, I, rw', q⟩
  exact subscriptTail_builtinR (x := w) pl.typeIs slot_tuple_getitem.lookup
    (getItem_tuple (j := j) (Q := fun r s' => r = w ∧ EP X pins σ Q r s') pl (by omega) (by omega) (by rw [List.size_toArray, ← hl]; exact h1) (by simpa using ew) ⟨rfl, fin⟩) hs
theorem ix_str : IxR X rIxS := by
  intro value slice pins s σ H x y v u Q I rx ry h hs
  obtain ⟨z, i, c, rfl, rfl, hz, he, q⟩ := h
  obtain ⟨t, rfl⟩ := rx
  obtain ⟨t', rfl⟩ := ry
  obtain ⟨j, h1, h2, h3, h4, h5⟩ := atI_get he
  have hl : z.cps.toList.length = z.length := by simp [Str.length]
  rw [hl] at h1 h4 h5
  have hn := line63
  exact tail_any (typeIs_str s z t) slot_str_getitem.lookup (getItem_str (c := c) (by
    have e1 : decide (i < -(2 ^ 63 : Int)) = false := decide_eq_false (by omega)
    have e2 : decide (i ≥ 2 ^ 63) = false := decide_eq_false (by omega)
    rw [e1, e2, Bool.or_false]) (by rw [h1]; simpa using h2) ⟨.str ⟨#[c]⟩, H, I.tok _, ⟨_, rfl⟩, q⟩) hs
/-- list, tuple or str -/
def rIx (K : PySem.W.Frag) : R2 := fun x y H Q => rIxL K x y H Q ∨ rIxT K x y H Q ∨ rIxS x y H Q
theorem ix_seq : IxR X (rIx X.K) := ix_list.or (ix_tup.or ix_str)

/-! ### xs[i] = v, any sign -/
/-- the list's object behind a store -/
theorem mapSeq_set (its : List Value) (n j : Nat) (u : Value) : Obj.mapSeq (·.setIfInBounds j u) { cls := .type "list", data := .seq its.toArray n } = { cls := .type "list", data := .seq (its.set j u).toArray n } := by
  simp [Obj.mapSeq]
theorem Inv.lst {pins : List (Addr × Obj)} {σ : St} {H : Hp} {s : Shared} {p : Addr} {xs : List V} (I : Inv X pins σ H s) (h : H p = some (.lst xs)) :
    ∃ (its : List Value) (n : Nat), Vals xs its ∧ s.heap.get? p = some { cls := .type "list", data := .seq its.toArray n } ∧ xs.length ≤ sizeLine := by
  obtain ⟨z, its, n, r, e⟩ := I.hok p _ h
  exact ⟨its, n, r, e, z⟩
/-- the list at p is written by an update of its object -/
theorem Inv.lstUpd {pins : List (Addr × Obj)} {σ : St} {H : Hp} {s : Shared} {p : Addr} {xs ys : List V} {its its' : List Value} {n n' : Nat} {f : Obj → Obj} (I : Inv X pins σ H s) (h : H p = some (.lst xs))
    (ho : s.heap.get? p = some { cls := .type "list", data := .seq its.toArray n }) (hf : f { cls := .type "list", data := .seq its.toArray n } = { cls := .type "list", data := .seq its'.toArray n' }) (r : Vals ys its') (hz : ys.length ≤ sizeLine) (t : Nat) :
    Inv X pins σ (upd H p (.lst ys)) { s with heap := s.heap.update p f, toks := t } := by
  have e : (s.heap.update p f).get? p = some { cls := .type "list", data := .seq its'.toArray n' } := by
    rw [Heap.get?_update_self f ho (by rw [hf] <;> rfl), hf]
  refine I.write (x := p) (e := p) (by rw [h]; trivial) (.inl rfl) (fun b u hb q => (Heap.get?_update_other _ _ (Ne.symm hb)).trans q) ⟨_, e⟩ ?_
  exact ⟨hz, its', n', r, e⟩
def rSetL : V → V → V → Hp → (Hp → Prop) → Prop := fun o i v H Q => ∃ p xs k j, o = .ref p ∧ i = .int k ∧ H p = some (.lst xs) ∧ ixN xs.length k = some j ∧ Q (upd H p (.lst (xs.set j v)))
theorem set_list : PSet X rSetL := by
  intro pins s σ H o i v ov iv u Q I ro ri rv h
  obtain ⟨p, xs, k, j, rfl, rfl, hp, hj, q⟩ := h
  cases ro
  obtain ⟨t, rfl⟩ := ri
  obtain ⟨its, n, r, ho, hz⟩ := I.lst hp
  obtain ⟨h1, h2, h3, h4⟩ := ixN_seq hj
  have hl := r.length
  have hn := line63
  have I' : Inv X pins σ (upd H p (.lst (xs.set j v))) { s with heap := s.heap.update p (Obj.mapSeq (·.setIfInBounds j u)) } :=
    I.lstUpd hp ho (mapSeq_set its n j u) (r.set rv j) (by rw [List.length_set]; exact hz) s.toks
  by_cases h0 : 0 ≤ k
  · have hk : k.toNat = j := by
      rw [seqIndex_of h0 h4] at h1
      exact Option.some.inj h1
    exact PySem.W.ki_setAt ho h0 (by omega) (by rw [List.size_toArray, ← hl]; exact h4) (by rw [hk]; exact ⟨_, I', q⟩)
  · have hk : (k + (its.toArray.size : Int)).toNat = j := by
      rw [seqIndex_neg (by omega) h3] at h1
      rw [List.size_toArray, ← hl]
      exact Option.some.inj h1
    exact PySem.W.ki_setBack ho (by omega) (by rw [List.size_toArray, ← hl]; exact h3) (by omega) (by rw [hk]; exact ⟨_, I', q⟩)

/-! ### slices -/
theorem slice_bounds (lo hi : Option Int) (n : Nat) : (sliceBounds lo hi none n).1 = ((HT.sIx n 0 lo : Nat) : Int) ∧ (sliceBounds lo hi none n).2.1 = ((HT.sIx n n hi : Nat) : Int) ∧ (sliceBounds lo hi none n).2.2 = 1 := by
  refine ⟨?_, ?_, rfl⟩
  · cases lo with
    | none => simp [sliceBounds, HT.sIx]
    | some i =>
      simp only [sliceBounds, HT.sIx, Option.getD_none, show (1 : Int) > 0 by decide, if_true]
      by_cases h : i < 0
      · simp only [h, if_true] <;> omega
      · simp only [h, if_false] <;> omega
  · cases hi with
    | none => simp [sliceBounds, HT.sIx]
    | some i =>
      simp only [sliceBounds, HT.sIx, Option.getD_none, show (1 : Int) > 0 by decide, if_true]
      by_cases h : i < 0
      · simp only [h, if_true] <;> omega
      · simp only [h, if_false] <;> omega
theorem slicePick_cut (its : List Value) (lo hi : Option Int) : slicePick its.toArray lo hi none = ((its.drop (HT.sIx its.length 0 lo)).take (HT.sIx its.length its.length hi - HT.sIx its.length 0 lo)).toArray := by
  obtain ⟨h1, h2, h3⟩ := slice_bounds lo hi its.toArray.size
  unfold slicePick
  rw [h1, h2, h3]
  simp only [sliceRange_one, pick_run, List.size_toArray] <;> rfl
/-- xs[lo:hi] of a list: a new list -/
def rSlL (K : PySem.W.Frag) : V → Option Int → Option Int → Hp → VK → Prop := fun x lo hi H Q => ∃ a xs, x = .ref a ∧ SqL K H a xs ∧ ∀ p, H p = none → Q (.ref p) (upd H p (.lst (cutV xs lo hi)))
theorem sl_list : SlR X (rSlL X.K) := by
  intro pins s σ H x v vl vu lo hi sl Q I rx hs pl pu h
  obtain ⟨a, xs, rfl, hx, q⟩ := h
  cases rx
  obtain ⟨its, r, ht, hz⟩ := I.list hx
  have hlen := r.length
  refine ⟨"list", _, slot_list_getitem.lookup, ht.isList.typeIs, ?_⟩
  refine wpAny_getItem_list_slice ht.isList hs pl pu .none (by simp) ?_ (by rw [List.size_toArray] <;> omega)
  rw [slicePick_cut, ← hlen]
  refine ⟨.ref s.heap.objs.size, _, I.laid (t' := s.toks) (o := .lst (cutV xs lo hi)) (fun b ob q => Heap.get?_push_of_some _ q) (Nat.le_refl _) ?_, rfl, q _ (I.hok.fresh (Nat.le_refl _))⟩
  exact ⟨Nat.le_trans (cutV_length xs lo hi) hz, _, 0, (r.drop (HT.sIx xs.length 0 lo)).take (HT.sIx xs.length xs.length hi - HT.sIx xs.length 0 lo), Heap.get?_push_size _ rfl⟩

/-! ### in, not in: flat items -/
def flatV : V → Bool
  | .non => true
  | .bl _ => true
  | .int _ => true
  | .str _ => true
  | _ => false
/-- == of flat values -/
def eqV : V → V → Bool
  | .non, .non => true
  | .bl a, .bl b => a == b
  | .bl a, .int b => (if a then 1 else 0) == b
  | .int a, .bl b => a == (if b then 1 else 0)
  | .int a, .int b => a == b
  | .str a, .str b => a == b
  | _, _ => false
theorem eqAt_V {A : Around} {s : Shared} {y x : V} {u v : Value} (ry : RelV y u) (rx : RelV x v) (fy : flatV y = true) (fx : flatV x = true) : SeqAt.EqAt A s u v (eqV y x) := by
  cases y with
  | non =>
    cases ry
    cases x with
    | non => cases rx; exact SeqAt.EqAt.same _
    | bl b => cases rx; exact SeqAt.EqAt.none_bool b
    | int b => obtain ⟨t, rfl⟩ := rx; exact SeqAt.EqAt.none_int b t
    | str b => obtain ⟨t, rfl⟩ := rx; exact SeqAt.EqAt.none_str b t
    | _ => exact absurd (show false = true from fx) Bool.false_ne_true
  | bl a =>
    cases ry
    cases x with
    | non => cases rx; exact SeqAt.EqAt.bool_none a
    | bl b => cases rx; exact SeqAt.EqAt.bool_bool a b
    | int b => obtain ⟨t, rfl⟩ := rx; exact SeqAt.EqAt.bool_int a b t
    | str b => obtain ⟨t, rfl⟩ := rx; exact SeqAt.EqAt.bool_str a b t
    | _ => exact absurd (show false = true from fx) Bool.false_ne_true
  | int a =>
    obtain ⟨t', rfl⟩ := ry
    cases x with
    | non => cases rx; exact SeqAt.EqAt.int_none a t'
    | bl b => cases rx; exact SeqAt.EqAt.int_bool a t' b
    | int b => obtain ⟨t, rfl⟩ := rx; exact SeqAt.EqAt.int_int a t' b t
    | str b => obtain ⟨t, rfl⟩ := rx; exact SeqAt.EqAt.int_str a t' b t
    | _ => exact absurd (show false = true from fx) Bool.false_ne_true
  | str a =>
    obtain ⟨t', rfl⟩ := ry
    cases x with
    | non => cases rx; exact SeqAt.EqAt.str_none a t'
    | bl b => cases rx; exact SeqAt.EqAt.str_bool a t' b
    | int b => obtain ⟨t, rfl⟩ := rx; exact SeqAt.EqAt.str_int a t' b t
    | str b => obtain ⟨t, rfl⟩ := rx; exact SeqAt.EqAt.str_str a t' b t
    | _ => exact absurd (show false = true from fx) Bool.false_ne_true
  | _ => exact absurd (show false = true from fy) Bool.false_ne_true
/-- the items' answers, read off the values (a value's own answer does not lean on its token) -/
def eqU (x : V) (u : Value) : Bool := match u with
  | .none => eqV .non x
  | .bool b => eqV (.bl b) x
  | .int i _ => eqV (.int i) x
  | .str z _ => eqV (.str z) x
  | _ => false
theorem eqU_of {x y : V} {u : Value} (r : RelV y u) (f : flatV y = true) : eqU x u = eqV y x := by
  cases y with
  | non => cases r; rfl
  | bl b => cases r; rfl
  | int i => obtain ⟨t, rfl⟩ := r; rfl
  | str z => obtain ⟨t, rfl⟩ := r; rfl
  | _ => exact absurd (show false = true from f) Bool.false_ne_true
theorem any_eqU {x : V} : ∀ {xs : List V} {us : List Value}, Vals xs us → xs.all flatV = true → us.any (eqU x) = xs.any fun y => eqV y x
  | _, _, .nil, _ => rfl
  | y :: xs, u :: us, .cons r t, f => by
    rw [List.all_cons, Bool.and_eq_true] at f
    rw [List.any_cons, List.any_cons, eqU_of r f.1, any_eqU t f.2]
theorem mem_eqAt {A : Around} {s : Shared} {x : V} {v : Value} (rx : RelV x v) (fx : flatV x = true) : ∀ {xs : List V} {us : List Value}, Vals xs us → xs.all flatV = true → ∀ u ∈ us, SeqAt.EqAt A s u v (eqU x u)
  | _, _, .nil, _ => fun u hu => by cases hu
  | y :: xs, u :: us, .cons r t, f => fun u' hu => by
    rw [List.all_cons, Bool.and_eq_true] at f
    rcases List.mem_cons.mp hu with rfl | hu
    · rw [eqU_of r f.1]; exact eqAt_V r rx f.1 fx
    · exact mem_eqAt rx fx t f.2 u' hu
def inV (x : V) (xs : List V) : Bool := xs.any fun y => eqV y x
/-- x in a list or tuple of flat items -/
def rIn (K : PySem.W.Frag) (neg : Bool) : R2 := fun x y H Q => ∃ p xs, y = .ref p ∧ (SqL K H p xs ∨ SqT K H p xs) ∧ flatV x = true ∧ xs.all flatV = true ∧ Q (.bl (if neg then !inV x xs else inV x xs)) H
theorem op_in_seq : OpR X (compareOp .In) (rIn X.K false) := by
  intro pins s σ H x y v u Q I rx ry h
  obtain ⟨p, xs, rfl, hq, fx, fs, q⟩ := h
  cases ry
  rcases hq with hq | hq
  · obtain ⟨its, r, pl, hz⟩ := I.list hq
    refine SeqAt.in_listAt (eqU x) pl.isList (fun w hw => mem_eqAt rx fx r fs w (by simpa using hw)) ⟨.bl _, H, I, rfl, ?_⟩
    rw [show its.toArray.any (eqU x) = its.any (eqU x) by simp, any_eqU r fs]
    exact q
  · obtain ⟨its, r, pl, hz⟩ := I.tuple hq
    refine SeqAt.in_tupleAt (eqU x) pl (fun w hw => mem_eqAt rx fx r fs w (by simpa using hw)) ⟨.bl _, H, I, rfl, ?_⟩
    rw [show its.toArray.any (eqU x) = its.any (eqU x) by simp, any_eqU r fs]
    exact q
theorem op_notIn_seq : OpR X (compareOp .NotIn) (rIn X.K true) := by
  intro pins s σ H x y v u Q I rx ry h
  obtain ⟨p, xs, rfl, hq, fx, fs, q⟩ := h
  cases ry
  rcases hq with hq | hq
  · obtain ⟨its, r, pl, hz⟩ := I.list hq
    refine SeqAt.notIn_listAt (eqU x) pl.isList (fun w hw => mem_eqAt rx fx r fs w (by simpa using hw)) ⟨.bl _, H, I, rfl, ?_⟩
    rw [show its.toArray.any (eqU x) = its.any (eqU x) by simp, any_eqU r fs]
    exact q
  · obtain ⟨its, r, pl, hz⟩ := I.tuple hq
    refine SeqAt.notIn_tupleAt (eqU x) pl (fun w hw => mem_eqAt rx fx r fs w (by simpa using hw)) ⟨.bl _, H, I, rfl, ?_⟩
    rw [show its.toArray.any (eqU x) = its.any (eqU x) by simp, any_eqU r fs]
    exact q
theorem op_notIn_str : OpR X (compareOp .NotIn) (fun x y H Q => ∃ i j, x = .str i ∧ y = .str j ∧ Q (.bl (!(!(Builtin.Str.occurrences j i 0 j.length 1).isEmpty))) H) := by
  intro pins s σ H x y v u Q I rx ry h
  obtain ⟨i, j, rfl, rfl, q⟩ := h
  obtain ⟨t, rfl⟩ := rx
  obtain ⟨t', rfl⟩ := ry
  exact notIn_str ⟨.bl _, H, I, rfl, q⟩

/-! ### len, list(x), tuple(x) of any list or tuple that is read -/
theorem call_len_seq : CallR X (.builtin "len") (fun xs H Q => ∃ p ys, xs = [.ref p] ∧ (SqL X.K H p ys ∨ SqT X.K H p ys) ∧ Q (.int ys.length) H) := by
  intro pins s σ H xs us Q I r h
  obtain ⟨p, ys, rfl, hq, q⟩ := h
  obtain ⟨u, rfl, rx⟩ := vals1 r
  cases rx
  have hn := line63
  rcases hq with hq | hq
  · obtain ⟨its, r', pl, hz⟩ := I.list hq
    have hlen := r'.length
    exact Calls.call_len_list pl.isList (by simp only [List.size_toArray] <;> omega) ⟨.int ys.length, H, I.tok _, ⟨s.toks + 1, by rw [List.size_toArray, hlen]⟩, q⟩
  · obtain ⟨its, r', pl, hz⟩ := I.tuple hq
    have hlen := r'.length
    exact len_tuple pl (by simp only [List.size_toArray] <;> omega) ⟨.int ys.length, H, I.tok _, ⟨s.toks + 1, by rw [List.size_toArray, hlen]⟩, q⟩
theorem call_len_str : CallR X (.builtin "len") (fun xs H Q => ∃ z, xs = [.str z] ∧ z.length ≤ sizeLine ∧ Q (.int z.length) H) := by
  intro pins s σ H xs us Q I r h
  obtain ⟨z, rfl, hz, q⟩ := h
  obtain ⟨u, rfl, t, rfl⟩ := vals1 r
  have hn := line63
  exact len_str (by omega) ⟨.int z.length, H, I.tok _, ⟨_, rfl⟩, q⟩
theorem CallR.or {f : Value} {r r' : List V → Hp → VK → Prop} (h : CallR X f r) (h' : CallR X f r') : CallR X f (fun xs H Q => r xs H Q ∨ r' xs H Q) := by
  intro pins s σ H xs us Q I rs q
  rcases q with q | q
  · exact h pins s σ H xs us Q I rs q
  · exact h' pins s σ H xs us Q I rs q
theorem call_list_of : CallR X (.type "list") (fun xs H Q => ∃ p ys, xs = [.ref p] ∧ (SqL X.K H p ys ∨ SqT X.K H p ys) ∧ ∀ l, H l = none → Q (.ref l) (upd H l (.lst ys))) := by
  intro pins s σ H xs us Q I r h
  obtain ⟨p, ys, rfl, hq, q⟩ := h
  obtain ⟨u, rfl, rx⟩ := vals1 r
  cases rx
  have fin : ∀ (its : List Value), Vals ys its → ys.length ≤ sizeLine → ∀ (h' : Heap) (c' : Nat), (∀ b o', s.heap.get? b = some o' → h'.get? b = some o') →
      h'.get? s.heap.objs.size = some { cls := .type "list", dict := none, data := .seq its.toArray c', slots := #[] } → EP X pins σ Q (.ref s.heap.objs.size) { s with heap := h' } := fun its r' hz h' c' kp e =>
    ⟨.ref s.heap.objs.size, _, I.laid (t' := s.toks) kp (Nat.le_refl _) (show ObjOk X.prog X.w _ h' _ (.lst ys) from ⟨hz, its, c', r', e⟩), rfl, q _ (I.hok.fresh (Nat.le_refl _))⟩
  rcases hq with hq | hq
  · obtain ⟨its, r', pl, hz⟩ := I.list hq
    have hlen := r'.length
    obtain ⟨o, ho, hc, n, hd⟩ := pl.isList
    exact call_list_seq p (.inl rfl) ho hc hd (fun h' c' kp e => fin its r' hz h' c' kp e) (by simp only [List.size_toArray] <;> omega)
  · obtain ⟨its, r', pl, hz⟩ := I.tuple hq
    have hlen := r'.length
    obtain ⟨o, ho, hc, n, hd⟩ := pl
    exact call_list_seq p (.inr rfl) ho hc hd (fun h' c' kp e => fin its r' hz h' c' kp e) (by simp only [List.size_toArray] <;> omega)
theorem call_tuple_of : CallR X (.type "tuple") (fun xs H Q => ∃ p ys, xs = [.ref p] ∧ ((SqL X.K H p ys ∧ ∀ l, H l = none → Q (.ref l) (upd H l (.tup ys))) ∨ (SqT X.K H p ys ∧ Q (.ref p) H))) := by
  intro pins s σ H xs us Q I r h
  obtain ⟨p, ys, rfl, h⟩ := h
  obtain ⟨u, rfl, rx⟩ := vals1 r
  cases rx
  rcases h with ⟨hq, q⟩ | ⟨hq, q⟩
  · obtain ⟨its, r', pl, hz⟩ := I.list hq
    have hlen := r'.length
    refine call_tuple_list pl.isList (fun h' kp => ?_) (by simp only [List.size_toArray] <;> omega)
    have I1 : Inv X pins σ H { s with heap := h' } := I.kept (t' := s.toks) kp
    have I2 : Inv X pins σ (upd H h'.objs.size (.tup ys)) { s with heap := h'.push { cls := .type "tuple", data := .seq its.toArray } } :=
      I1.laid (t' := s.toks) (fun b o e => Heap.get?_push_of_some _ e) (Nat.le_refl _) (show ObjOk X.prog X.w _ _ _ (.tup ys) from ⟨hz, its, r', IsTup.new _ _⟩)
    exact ⟨.ref h'.objs.size, _, I2, rfl, q _ (I1.hok.fresh (Nat.le_refl _))⟩
  · obtain ⟨its, r', pl, hz⟩ := I.tuple hq
    exact call_tuple_same pl ⟨.ref p, H, I, rfl, q⟩

/-! ### the call of a builtin's method: o.m(..) -/
/-- the value is of that builtin type -/
def tyV (K : PySem.W.Frag) (T : String) (x : V) (H : Hp) : Prop := match x with
  | .str _ => T = "str"
  | .int _ => T = "int"
  | .ref p => (T = "list" ∧ ∃ xs, SqL K H p xs) ∨ (T = "tuple" ∧ ∃ o, K.lookup p = some o ∧ o.cls = .type "tuple" ∧ o.dict = none) ∨
      (T = "dict" ∧ ((∃ kvs, H p = some (.dK kvs)) ∨ ∃ kvs, H p = some (.dT kvs))) ∨ (T = "set" ∧ ∃ S n, H p = some (.set S n))
  | _ => False
theorem tyV_is {pins : List (Addr × Obj)} {σ : St} {H : Hp} {s : Shared} {T : String} {x : V} {v : Value} (I : Inv X pins σ H s) (r : RelV x v) (ty : tyV X.K T x H) :
    s.TypeIs v T ∧ ∀ a, v = .ref a → ∃ ob, s.heap.get? a = some ob ∧ ob.dict = none := by
  cases x with
  | str z =>
    obtain ⟨t, rfl⟩ := r
    cases (show T = "str" from ty)
    exact ⟨typeIs_str s z t, fun _ e => nomatch e⟩
  | int i =>
    obtain ⟨t, rfl⟩ := r
    cases (show T = "int" from ty)
    exact ⟨typeIs_int s i t, fun _ e => nomatch e⟩
  | ref p =>
    cases r
    rcases ty with ⟨rfl, xs, hq⟩ | ⟨rfl, o, hk, hc, hd⟩ | ⟨rfl, hk⟩ | ⟨rfl, S, n, hk⟩
    · obtain ⟨its, _, pl, _⟩ := I.list hq
      refine ⟨pl.isList.typeIs, fun a e => ?_⟩
      cases e
      obtain ⟨o, n, e, c, hd, _⟩ := pl
      exact ⟨o, e, hd⟩
    · refine ⟨⟨o, I.kIn p o hk, hc⟩, fun a e => ?_⟩
      cases e
      exact ⟨o, I.kIn _ o hk, hd⟩
    · have z : ∃ o, s.heap.get? p = some o ∧ o.ExactDict := by
        rcases hk with ⟨kvs, hk⟩ | ⟨kvs, hk⟩
        · obtain ⟨_, _, _, _, o, _, _, e, ex, _⟩ := I.hok p _ hk
          exact ⟨o, e, ex⟩
        · obtain ⟨_, _, _, _, o, _, _, e, ex, _⟩ := I.hok p _ hk
          exact ⟨o, e, ex⟩
      obtain ⟨o, e, ex⟩ := z
      refine ⟨⟨o, e, ex.1⟩, fun a e2 => ?_⟩
      cases e2
      exact ⟨o, e, ex.2.1⟩
    · obtain ⟨o, _, _, _, e, ex, _⟩ := I.hok p _ hk
      refine ⟨⟨o, e, ex.1⟩, fun a e2 => ?_⟩
      cases e2
      exact ⟨o, e, ex.2.1⟩
  | _ => exact False.elim ty
def tBM0 (K : PySem.W.Frag) (T : String) (r : V → List V → Hp → VK → Prop) (to : TE) : TE := fun σ H Q => to σ H fun x H1 => tyV K T x H1 ∧ r x [] H1 Q
def tBM (K : PySem.W.Frag) (T : String) (r : V → List V → Hp → VK → Prop) (to : TE) (t : TA) : TE := fun σ H Q => to σ H fun x H1 => tyV K T x H1 ∧ t σ H1 fun xs H2 => r x xs H2 Q
variable {o e : Expr} {es : List Expr} {to : TE} {t : TA} {name : Str} {apos cpos : Pos} {T id : String} {r : V → List V → Hp → VK → Prop}
theorem pe_bm0 (pa : PlainAttrs T) (slot : Slot T name id) (hty : typeOf (.builtin id) = pure (.type "method_descriptor")) (hm : MtR X id r) (ho : PE X o to)
    (hbase : attributeBase o name X.env (eval o X.env) = eval o X.env := by rfl) (hline : (apos.endLine == cpos.line) = true := by rfl) : PE X (.Call (.Attribute o name apos) [] [] cpos) (tBM0 X.K T r to) := by
  intro pins s σ H Q I h
  refine wpAny_Call_method0_late hbase hline (thn (ho pins s σ H _ I h) fun v s1 ⟨x, H1, I1, r1, ty, q1⟩ => ?_)
  obtain ⟨h1, h2⟩ := tyV_is I1 r1 ty
  exact ⟨T, id, pa, slot, hty, h1, h2, Calls.callWith_builtin rfl (PySem.evalArgs_none (hm pins s1 σ H1 x [] v [] Q I1 r1 .nil q1))⟩
theorem pe_bm (pa : PlainAttrs T) (slot : Slot T name id) (hty : typeOf (.builtin id) = pure (.type "method_descriptor")) (hm : MtR X id r) (ho : PE X o to) (ha : PA X (e :: es) t)
    (hbase : attributeBase o name X.env (eval o X.env) = eval o X.env := by rfl)
    (hfew : ((backTo cpos (starEach (e :: es) X.env)).all (fun x => !x.1) && (backToKw cpos (keywordEach [] X.env)).all (fun x => x.1.isSome)
      && decide ((e :: es).length + ([] : List Keyword).length + (if ([] : List Keyword).isEmpty then 0 else 1) < 30)) = true := by rfl)
    (hline : (apos.endLine == cpos.line) = true := by rfl) (hs : starEach (e :: es) X.env = (false, eval e X.env) :: starEach es X.env := by rfl) (hplain : (backTo cpos (starEach es X.env)).any (·.1) = false := by rfl) :
    PE X (.Call (.Attribute o name apos) (e :: es) [] cpos) (tBM X.K T r to t) := by
  intro pins s σ H Q I h
  refine wpAny_Call_method_late hbase hfew hline rfl (thn (ho pins s σ H _ I h) fun v s1 ⟨x, H1, I1, r1, ty, q1⟩ => ?_)
  obtain ⟨h1, h2⟩ := tyV_is I1 r1 ty
  refine ⟨T, id, pa, slot, hty, h1, h2, ?_⟩
  have hA := ha cpos pins s1 σ H1 _ I1 q1
  rw [hs] at hA ⊢
  refine Calls.callWith_builtin (by show (false || (backTo cpos (starEach es X.env)).any (·.1)) = false; rw [hplain] <;> rfl) (Calls.evalArgs_plain ?_)
  exact thn hA fun us s2 ⟨vs, H2, I2, r2, q2⟩ => hm pins s2 σ H2 x vs v us Q I2 r1 r2 q2
/- xs.append(e), list.index on a module's tuple .. are MtR facts of 06m -/
end
end L2

namespace L2
open PySem PySem.Spec PyProof.Rows

def MtM (X : Cx) (id : String) (r : V → List V → Hp → VK → Prop) : Prop :=
  ∀ (pins : List (Addr × Obj)) (s : Shared) (σ : St) (H : Hp) (x : V) (xs : List V) (v : Value) (us : List Value) (Q : VK), Inv X pins σ H s → RelV x v → Vals xs us → r x xs H Q →
    wpAny (model X.prog X.w) X.A (call (.builtin id) (v :: us)) (EP X pins σ Q) X.xe s

/-! ### lists of values -/
theorem Vals.one : ∀ {x : V} {us : List Value}, Vals [x] us → ∃ u, us = [u] ∧ RelV x u
  | _, _, .cons r .nil => ⟨_, rfl, r⟩
theorem Vals.two : ∀ {x y : V} {us : List Value}, Vals [x, y] us → ∃ u v, us = [u, v] ∧ RelV x u ∧ RelV y v
  | _, _, _, .cons r (.cons q .nil) => ⟨_, _, rfl, r, q⟩
theorem Vals.zero : ∀ {us : List Value}, Vals [] us → us = []
  | _, .nil => rfl
theorem Vals.dropLast {xs : List V} {us : List Value} (h : Vals xs us) : Vals xs.dropLast us.dropLast := by
  induction h with
  | nil => exact .nil
  | cons r t ih =>
    cases t with
    | nil => exact .nil
    | cons q t' => exact .cons r ih
theorem Vals.eraseIdx : ∀ {xs : List V} {us : List Value} (i : Nat), Vals xs us → Vals (xs.eraseIdx i) (us.eraseIdx i)
  | _, _, _, .nil => .nil
  | _, _, 0, .cons _ t => t
  | _, _, i + 1, .cons r t => .cons r (Vals.eraseIdx i t)
theorem Vals.reverse {xs : List V} {us : List Value} (h : Vals xs us) : Vals xs.reverse us.reverse := by
  induction h with
  | nil => exact .nil
  | cons r t ih => rw [List.reverse_cons, List.reverse_cons]; exact Vals.append ih (.cons r .nil)
theorem Vals.rep {xs : List V} {us : List Value} (h : Vals xs us) : ∀ k : Nat, Vals (List.replicate k xs).flatten (List.replicate k us).flatten
  | 0 => .nil
  | k + 1 => by
    rw [List.replicate_succ, List.replicate_succ, List.flatten_cons, List.flatten_cons]
    exact Vals.append h (Vals.rep h k)
theorem erase_last {α : Type} (l : List α) : l.eraseIdx (l.length - 1) = l.dropLast := by
  induction l with
  | nil => rfl
  | cons a r ih =>
    cases r with
    | nil => rfl
    | cons b r =>
      have e : (a :: b :: r).length - 1 = ((b :: r).length - 1) + 1 := by
        have h1 : (a :: b :: r).length = r.length + 2 := rfl
        have h2 : (b :: r).length = r.length + 1 := rfl
        omega
      rw [e, List.eraseIdx_cons_succ, ih]
      all_goals rfl
theorem len_erase {α : Type} : ∀ (l : List α) (i : Nat), (l.eraseIdx i).length ≤ l.length
  | [], _ => Nat.le_refl _
  | _ :: _, 0 => Nat.le_succ _
  | _ :: r, i + 1 => Nat.succ_le_succ (len_erase r i)
theorem foldl_rep (its : List Value) : ∀ (k : Nat) (acc : List Value),
    List.foldl (fun x1 x2 => x1 ++ x2) acc.toArray (List.replicate k its.toArray) = (acc ++ (List.replicate k its).flatten).toArray
  | 0, acc => by simp
  | k + 1, acc => by
    have e : acc.toArray ++ its.toArray = (acc ++ its).toArray := by simp
    have e2 : (acc ++ its) ++ (List.replicate k its).flatten = acc ++ (List.replicate (k + 1) its).flatten := by
      rw [List.replicate_succ, List.flatten_cons, List.append_assoc]
    rw [← e2, ← foldl_rep its k (acc ++ its), ← e, List.replicate_succ, List.foldl_cons]

section
variable {X : Cx} {pins : List (Addr × Obj)} {σ : St} {H : Hp} {s : Shared} {l b : Addr} {xs ys zs : List V}

/-! ### the two steps: a tracked list is rewritten, a new list is laid -/
theorem Inv.lset {its its' : List Value} {n : Nat} {f : Array Value → Array Value} {t' : Nat} (I : Inv X pins σ H s) (hH : H l = some (.lst xs))
    (e : s.heap.get? l = some { cls := .type "list", data := .seq its.toArray n }) (hf : f its.toArray = its'.toArray) (hv : Vals ys its') (hz : ys.length ≤ sizeLine) :
    Inv X pins σ (upd H l (.lst ys)) { s with heap := s.heap.update l (Obj.mapSeq f), toks := t' } := by
  have q := PySem.IsL.update e f
  rw [hf] at q
  refine I.write (x := l) (e := l) (by rw [hH]; exact trivial) (.inl rfl) (fun b' u hb hu => (Heap.get?_update_other s.heap (Obj.mapSeq f) (Ne.symm hb)).trans hu) ⟨_, q⟩ ?_
  exact ⟨hz, its', _, hv, q⟩
theorem Inv.lnew {its : List Value} {t' : Nat} (I : Inv X pins σ H s) (hv : Vals ys its) (hz : ys.length ≤ sizeLine) :
    Inv X pins σ (upd H s.heap.objs.size (.lst ys)) { s with heap := s.heap.push { cls := .type "list", data := .seq its.toArray }, toks := t' } :=
  I.laid (fun _ _ q => Heap.get?_push_of_some _ q) (Nat.le_refl _) ⟨hz, its, 0, hv, Heap.get?_push_size _ rfl⟩
theorem Inv.fresh (I : Inv X pins σ H s) : H s.heap.objs.size = none := I.hok.fresh (Nat.le_refl _)
theorem Inv.lstM (I : Inv X pins σ H s) (hH : H l = some (.lst xs)) : xs.length ≤ sizeLine ∧ ∃ (its : List Value) (n : Nat), Vals xs its ∧ xs.length = its.length ∧ s.heap.get? l = some { cls := .type "list", data := .seq its.toArray n } := by
  obtain ⟨z, its, n, r, e⟩ := I.hok l _ hH
  exact ⟨z, its, n, r, r.length, e⟩

theorem notLongL {n : Nat} (h : n ≤ sizeLine) : Builtin.List.listTooLong n = false := by
  unfold Builtin.List.listTooLong
  exact decide_eq_false (by omega)
end

section
variable {X : Cx}

/-! ### methods -/
def rAppend : V → List V → Hp → VK → Prop := fun x vs H Q => ∃ l xs y, x = .ref l ∧ vs = [y] ∧ H l = some (.lst xs) ∧ xs.length < sizeLine ∧ Q .non (upd H l (.lst (xs ++ [y])))
theorem mt_append : MtM X "list.append" rAppend := by
  intro pins s σ H x vs v us Q I rx rv h
  obtain ⟨l, xs, y, rfl, rfl, hH, hz, q⟩ := h
  cases rx
  obtain ⟨u, rfl, ru⟩ := rv.one
  obtain ⟨z, its, n, r, hl, e⟩ := I.lstM hH
  refine call_meets F.slot_list_append ⟨_, e, rfl⟩ F.entry_list_append (F.args_list_append_2 _ _) (PySem.list_append l its.toArray n u (by rw [List.size_toArray]; omega)) ⟨e, ?_⟩
  refine ⟨.non, _, I.lset (its' := its ++ [u]) hH e (by simp) (r.append (.cons ru .nil)) ?_, rfl, q⟩
  rw [List.length_append, List.length_singleton]
  omega

def rExtend : V → List V → Hp → VK → Prop := fun x vs H Q => ∃ l b xs zs, x = .ref l ∧ vs = [.ref b] ∧ H l = some (.lst xs) ∧ H b = some (.lst zs) ∧ xs.length + zs.length ≤ sizeLine ∧ Q .non (upd H l (.lst (xs ++ zs)))
theorem mt_extend : MtM X "list.extend" rExtend := by
  intro pins s σ H x vs v us Q I rx rv h
  obtain ⟨l, b, xs, zs, rfl, rfl, hH, hB, hz, q⟩ := h
  cases rx
  obtain ⟨u, rfl, ru⟩ := rv.one
  cases ru
  obtain ⟨z, its, n, r, hl, e⟩ := I.lstM hH
  obtain ⟨z2, its2, n2, r2, hl2, e2⟩ := I.lstM hB
  have hsz : its.toArray.size + its2.toArray.size ≤ sizeLine := by rw [List.size_toArray, List.size_toArray]; omega
  have hlong : ¬ (!its.toArray.isEmpty && Builtin.List.listTooLong (its.toArray.size + its2.toArray.size)) = true := by
    rw [notLongL hsz, Bool.and_false]
    exact Bool.false_ne_true
  refine call_meets F.slot_list_extend ⟨_, e, rfl⟩ F.entry_list_extend (F.args_list_extend_2 _ _)
    (AutoSeq1.list_extend_list_list_0 l its.toArray n b its2.toArray n2 hlong (by rw [List.size_toArray]; omega) (by omega)) ⟨e, e2, ?_⟩
  refine ⟨.non, _, I.lset (its' := its ++ its2) hH e (by simp) (r.append r2) ?_, rfl, q⟩
  rw [List.length_append]
  omega

def rPop : V → List V → Hp → VK → Prop := fun x vs H Q => ∃ l xs y, x = .ref l ∧ vs = [] ∧ H l = some (.lst xs) ∧ xs[xs.length - 1]? = some y ∧ Q y (upd H l (.lst xs.dropLast))
theorem mt_pop : MtM X "list.pop" rPop := by
  intro pins s σ H x vs v us Q I rx rv h
  obtain ⟨l, xs, y, rfl, rfl, hH, hy, q⟩ := h
  cases rx
  have hus := rv.zero
  subst hus
  obtain ⟨z, its, n, r, hl, e⟩ := I.lstM hH
  obtain ⟨u, hu, ru⟩ := r.get hy
  have hy' : its.toArray[its.toArray.size - 1]? = some u := by
    show its.toArray[its.length - 1]? = some u
    rw [← Array.getElem?_toList, ← hl]
    exact hu
  refine call_meets F.slot_list_pop ⟨_, e, rfl⟩ F.entry_list_pop (F.args_list_pop_1 _) (MeetsSeq.list_pop_last l its.toArray n u hy' (by rw [List.size_toArray]; omega)) ⟨e, ?_⟩
  refine ⟨y, _, I.lset (its' := its.dropLast) hH e ?_ r.dropLast ?_, ru, q⟩
  · show its.toArray.eraseIdxIfInBounds (its.toArray.size - 1) = its.dropLast.toArray
    rw [List.size_toArray, List.eraseIdxIfInBounds_toArray, erase_last]
  · rw [List.length_dropLast]
    omega

def rPopAt : V → List V → Hp → VK → Prop := fun x vs H Q => ∃ l xs i k y, x = .ref l ∧ vs = [.int i] ∧ H l = some (.lst xs) ∧ -(2 ^ 63) ≤ i ∧ i < 2 ^ 63 ∧ seqIndex? i xs.length = some k ∧ xs[k]? = some y ∧ Q y (upd H l (.lst (xs.eraseIdx k)))
theorem mt_popAt : MtM X "list.pop" rPopAt := by
  intro pins s σ H x vs v us Q I rx rv h
  obtain ⟨l, xs, i, k, y, rfl, rfl, hH, h1, h2, hk, hy, q⟩ := h
  cases rx
  obtain ⟨u, rfl, ru⟩ := rv.one
  obtain ⟨t, rfl⟩ := ru
  obtain ⟨z, its, n, r, hl, e⟩ := I.lstM hH
  obtain ⟨w, hw, rw'⟩ := r.get hy
  refine call_meets F.slot_list_pop ⟨_, e, rfl⟩ F.entry_list_pop (F.args_list_pop_2 _ _)
    (MeetsSeq.list_pop_at l its.toArray n i t k w (fitsIndex_both h1 h2) (by rw [List.size_toArray, ← hl]; exact hk) (by rw [← Array.getElem?_toList]; exact hw) (by rw [List.size_toArray]; omega)) ⟨e, ?_⟩
  refine ⟨y, _, I.lset (its' := its.eraseIdx k) hH e ?_ (r.eraseIdx k) ?_, rw', q⟩
  · show its.toArray.eraseIdxIfInBounds k = (its.eraseIdx k).toArray
    rw [List.eraseIdxIfInBounds_toArray]
  · have := len_erase xs k
    omega

def rReverse : V → List V → Hp → VK → Prop := fun x vs H Q => ∃ l xs, x = .ref l ∧ vs = [] ∧ H l = some (.lst xs) ∧ Q .non (upd H l (.lst xs.reverse))
theorem mt_reverse : MtM X "list.reverse" rReverse := by
  intro pins s σ H x vs v us Q I rx rv h
  obtain ⟨l, xs, rfl, rfl, hH, q⟩ := h
  cases rx
  have hus := rv.zero
  subst hus
  obtain ⟨z, its, n, r, hl, e⟩ := I.lstM hH
  refine call_meets F.slot_list_reverse ⟨_, e, rfl⟩ F.entry_list_reverse (F.args_list_reverse_1 _) (AutoSeq1.list_reverse_list_0 l its.toArray n (by rw [List.size_toArray]; omega)) ⟨e, ?_⟩
  refine ⟨.non, _, I.lset (its' := its.reverse) hH e (by simp) r.reverse ?_, rfl, q⟩
  rw [List.length_reverse]
  omega

def rClear : V → List V → Hp → VK → Prop := fun x vs H Q => ∃ l xs, x = .ref l ∧ vs = [] ∧ H l = some (.lst xs) ∧ Q .non (upd H l (.lst []))
theorem mt_clear : MtM X "list.clear" rClear := by
  intro pins s σ H x vs v us Q I rx rv h
  obtain ⟨l, xs, rfl, rfl, hH, q⟩ := h
  cases rx
  have hus := rv.zero
  subst hus
  obtain ⟨z, its, n, r, hl, e⟩ := I.lstM hH
  refine call_meets F.slot_list_clear ⟨_, e, rfl⟩ F.entry_list_clear (F.args_list_clear_1 _) (AutoSeq1.list_clear_list_0 l its.toArray n (by rw [List.size_toArray]; omega)) ⟨e, ?_⟩
  exact ⟨.non, _, I.lset (its' := []) (ys := []) hH e rfl .nil (Nat.zero_le _), rfl, q⟩

/-! ### list + list, list += list, list * int -/
def rCat : R2 := fun x y H Q => ∃ l b xs zs, x = .ref l ∧ y = .ref b ∧ H l = some (.lst xs) ∧ H b = some (.lst zs) ∧ xs.length + zs.length ≤ sizeLine ∧ ∀ p, H p = none → Q (.ref p) (upd H p (.lst (xs ++ zs)))
theorem op_cat : OpR X (binaryOp .Add) rCat := by
  intro pins s σ H x y v u Q I rx ry h
  obtain ⟨l, b, xs, zs, rfl, rfl, hH, hB, hz, q⟩ := h
  cases rx
  cases ry
  obtain ⟨z, its, n, r, hl, e⟩ := I.lstM hH
  obtain ⟨z2, its2, n2, r2, hl2, e2⟩ := I.lstM hB
  refine PySem.P.add_list e e2 ?_ (by rw [List.size_toArray, List.size_toArray]; omega)
  have ea : its.toArray ++ its2.toArray = (its ++ its2).toArray := by simp
  rw [ea]
  exact ⟨.ref _, _, I.lnew (t' := s.toks) (r.append r2) (by rw [List.length_append]; omega), rfl, q _ I.fresh⟩
/-- a list times an int (a negative one is nothing) -/
def rRep : R2 := fun x y H Q => ∃ l k xs, x = .ref l ∧ y = .int k ∧ H l = some (.lst xs) ∧ -(2 ^ 63) ≤ k ∧ k < 2 ^ 63 ∧ xs.length * k.toNat ≤ sizeLine ∧
  ∀ p, H p = none → Q (.ref p) (upd H p (.lst (List.replicate k.toNat xs).flatten))
theorem len_rep {α : Type} (xs : List α) (k : Nat) : (List.replicate k xs).flatten.length = k * xs.length := by
  induction k with
  | zero => simp
  | succ k ih => rw [List.replicate_succ, List.flatten_cons, List.length_append, ih, Nat.succ_mul, Nat.add_comm]
theorem op_rep : OpR X (binaryOp .Mult) rRep := by
  intro pins s σ H x y v u Q I rx ry h
  obtain ⟨l, k, xs, rfl, rfl, hH, h1, h2, hz, q⟩ := h
  cases rx
  obtain ⟨t, rfl⟩ := ry
  obtain ⟨z, its, n, r, hl, e⟩ := I.lstM hH
  have hlen : its.toArray.size * k.toNat ≤ sizeLine := by rw [List.size_toArray, ← hl]; exact hz
  have hcap : ¬ its.toArray.size * k.toNat > (2 ^ 63 - 1) / 8 := by
    have : (sizeLine : Nat) ≤ (2 ^ 63 - 1) / 8 := by decide
    omega
  have hfit : ¬ (!Builtin.List.listFitsIndex k) = true := by
    rw [fitsIndex_both h1 h2]
    exact Bool.false_ne_true
  have hlong : ¬ Builtin.List.listTooLong (its.toArray.size * k.toNat) = true := by
    rw [notLongL hlen]
    exact Bool.false_ne_true
  have hnew : List.foldl (fun x1 x2 => x1 ++ x2) #[] (List.replicate (if its.toArray.isEmpty = true then 0 else k.toNat) its.toArray) = (List.replicate k.toNat its).flatten.toArray := by
    have f0 : ∀ m : Nat, List.foldl (fun x1 x2 => x1 ++ x2) #[] (List.replicate m its.toArray) = (List.replicate m its).flatten.toArray := fun m => by
      have := foldl_rep its m []
      rw [List.nil_append] at this
      exact this
    rw [f0]
    cases its with
    | nil => simp
    | cons a r' => rw [if_neg (by simp)]
  refine wpAny_binaryOp_repeat_ref (T := "list") (U := "int") (by decide) ⟨_, e, rfl⟩ (fun s' => typeIs_int s' k t) noFill_list_mul F.fills_int_mul F.slot_int_rmul repeat_list F.slot_int_index.lookup
    (call_meets F.slot_int_rmul (typeIs_int s k t) F.entry_int_rmul (F.args_int_rmul_2 _ _) (int___rmul___int_list k t l its.toArray n)
      ⟨e, rfl, ⟨_, e, rfl⟩, call_meets F.slot_list_mul ⟨_, e, rfl⟩ F.entry_list_mul (F.args_list_mul_2 _ _) (AutoListH.list___mul___list_int_3 l its.toArray n k t hfit hcap hlong) ⟨e, ?_⟩⟩)
  rw [hnew]
  exact ⟨.ref _, _, I.lnew (t' := s.toks) (r.rep k.toNat) (by rw [len_rep, Nat.mul_comm]; exact hz), rfl, q _ I.fresh⟩

/-! ### del xs[i] -/
theorem del_list {pins : List (Addr × Obj)} {s : Shared} {σ : St} {H : Hp} {l : Addr} {xs : List V} {i : Int} {t : Tok} {k : Nat} {Q : Unit → Shared → Prop} (I : Inv X pins σ H s) (hH : H l = some (.lst xs))
    (h1 : -(2 ^ 63) ≤ i) (h2 : i < 2 ^ 63) (hk : seqIndex? i xs.length = some k) (h : ∀ s', Inv X pins σ (upd H l (.lst (xs.eraseIdx k))) s' → Q () s') :
    wpAny (model X.prog X.w) X.A (delItem (.ref l) (.int i t)) Q X.xe s := by
  obtain ⟨z, its, n, r, hl, e⟩ := I.lstM hH
  refine PySem.P.delItem_list (k := k) e (fitsIndex_both h1 h2) (by rw [List.size_toArray, ← hl]; exact hk) (h _ ?_) (by rw [List.size_toArray]; omega)
  refine I.lset (its' := its.eraseIdx k) (t' := s.toks) hH e ?_ (r.eraseIdx k) ?_
  · show its.toArray.eraseIdxIfInBounds k = (its.eraseIdx k).toArray
    rw [List.eraseIdxIfInBounds_toArray]
  · have := len_erase xs k
    omega
end

/-! ### xs[a:b] = ys -/
section
variable {prog : Program} {w : World} {A : Around} {E : Value → Shared → Prop} {s : Shared}
theorem splice_eq (its its2 : List Value) (a c : Nat) : its.toArray.extract 0 a ++ its2.toArray ++ its.toArray.extract c its.toArray.size = (its.take a ++ its2 ++ its.drop c).toArray := by
  apply Array.toList_inj.mp
  first
    | (simp
       exact List.take_of_length_le (by simp))
    | simp [List.take_of_length_le]
    | simp
theorem bounds_run {a c n : Nat} (hac : a ≤ c) (hc : c ≤ n) : sliceBounds (some (a : Int)) (some (c : Int)) none n = ((a : Int), (c : Int), 1) := by
  simp only [sliceBounds, Option.getD_none]
  have h1 : ¬ ((a : Int) < 0) := by omega
  have h2 : ¬ ((c : Int) < 0) := by omega
  simp only [h1, h2, if_false, show (1 : Int) > 0 by decide, if_true]
  congr 1
  · omega
  · congr 1; omega
set_option maxRecDepth 100000 in
/-- list.__setitem__ with a slice of step one and another list -/
theorem setItem_slice {l b sl : Addr} {items new : Array Value} {n n2 : Nat} {vl vu : Value} {a c : Nat} {Q : Unit → Shared → Prop}
    (e : s.heap.get? l = some { cls := .type "list", data := .seq items n }) (e2 : s.heap.get? b = some { cls := .type "list", data := .seq new n2 }) (hne : l ≠ b)
    (hs : s.heap.IsSliceOf sl vl vu .none) (pl : IsPart vl (some (a : Int))) (pu : IsPart vu (some (c : Int))) (hac : a ≤ c) (hc : c ≤ items.size)
    (hsz : items.size + new.size ≤ sizeLine) (h : Q () { s with heap := s.heap.update l (Obj.mapSeq fun xs => xs.extract 0 a ++ new ++ xs.extract c xs.size) }) :
    wpAny (model prog w) A (setItem (.ref l) (.ref sl) (.ref b)) Q E s := by
  have hl : s.heap.IsList l items := PySem.IsL.isList e
  have hb : s.heap.IsList b new := PySem.IsL.isList e2
  obtain ⟨os, hos, hcs, hds⟩ := id hs
  have hTs : s.TypeIs (.ref sl) "slice" := ⟨os, hos, hcs⟩
  have hstep : ¬ ((rawPart none == rawInt 0) = true) := Bool.false_ne_true
  have hsame : Builtin.List.listSameRef (.ref l) (.ref b) = false := by
    unfold Builtin.List.listSameRef
    exact beq_eq_false_iff_ne.mpr hne
  have hmax : (max (a : Int) (c : Int)).toNat = c := by omega
  have hz' : ((fun xs : Array Value => xs.extract 0 a ++ new ++ xs.extract c xs.size) items).size ≤ sizeLine + 1 := by
    simp only [Array.size_append, Array.size_extract]
    omega
  unfold setItem
  try with_reducible refine wpAny_holding ?_
  first | refine wpAny_bind (wpAny_pure ?_) | skip
  refine wpAny_bind (wpAny_sequenceKey hl.typeIs (by decide) ?_)
  refine wpAny_bind (wpAny_callSpecial?_slot (name := Str.ofString "__setitem__") hl.typeIs slot_list_setitem
    (wpAny_call_entry slot_list_setitem hl.typeIs entry_list_setitem ?_ (args_list_setitem _ _ _)))
  show wpAny _ _ (Builtin.List.listSubscript? (.ref sl) >>= _) _ _ s
  refine wpAny_bind ?_
  unfold Builtin.List.listSubscript?
  refine wpAny_bind (wpAny_specialOf hTs slice_no_index ?_)
  simp only [Option.isNone_none, if_true]
  refine wpAny_pure ?_
  show wpAny _ _ (typeOf (.ref sl) >>= _) _ _ s
  refine wpAny_bind (wpAny_typeOf hTs ?_)
  first
    | rw [if_neg (by decide)]
    | refine PySem.W.KFB.if_not (by decide) ?_
  rw [listSliceParts_eq]
  refine wpAny_bind (wpAny_bind (wpAny_field hos hds (x := .none) rfl (wpAny_bind (wpAny_listPart .none ?_))))
  rw [if_neg hstep]
  refine wpAny_bind (wpAny_field hos hds (x := vl) rfl (wpAny_bind (wpAny_listPart pl ?_)))
  refine wpAny_bind (wpAny_field hos hds (x := vu) rfl (wpAny_bind (wpAny_listPart pu (wpAny_pure ?_))))
  first
    | simp only [hsame, Bool.false_eq_true, if_false]
    | refine PySem.W.KFB.if_not hsame ?_
    | (dsimp only
       rw [if_neg (by rw [hsame]; exact Bool.false_ne_true)])
  refine wpAny_bind (m := Builtin.List.listAllItems (.ref b) "must assign iterable to extended slice") ?_
  unfold Builtin.List.listAllItems
  refine wpAny_bind (wpAny_typeOf hb.typeIs ?_)
  first
    | refine PySem.W.KFB.if_so (by decide) ?_
    | rw [if_pos (by decide)]
    | simp only [beq_self_eq_true, Bool.true_or, if_true]
  unfold Builtin.List.listItems
  refine wpAny_bind (wpAny_seqItems e2 rfl (wpAny_pure ?_))
  refine wpAny_bind (wpAny_bind (wpAny_seqItems e rfl (wpAny_pure ?_)))
  refine wpAny_bind (wpAny_of_eq ((sliceIndices_raw (some (a : Int)) (some (c : Int)) none items.size (by simp)).trans (congrArg (pure : Int × Int × Int → Sem (Int × Int × Int)) (bounds_run hac hc))) ?_)
  show wpAny _ _ (if ((1 : Int) == 1) = true then _ else _) _ _ s
  rw [if_pos (by decide)]
  refine wpAny_bind (wpAny_rule ?_)
  first
    | simp only [notLongL hsz, Bool.false_eq_true, if_false]
    | refine PySem.W.KFB.if_not (notLongL hsz) ?_
  first | refine wpAny_bind (wpAny_pure ?_) | skip
  show wpAny _ _ (updateSeq l (fun xs => xs.extract 0 ((a : Int)).toNat ++ new ++ xs.extract (max (a : Int) (c : Int)).toNat xs.size) >>= _) _ _ s
  rw [hmax, Int.toNat_natCast]
  refine wpAny_bind (wpAny_updateSeq (hz := Nat.le_trans (Nat.le_add_right _ _) hsz) (_hz' := hz') e rfl ?_)
  refine wpAny_bind (wpAny_letGo ?_)
  first
    | exact wpAny_bind (wpAny_pure (wpAny_pure ⟨.none, rfl, wpAny_pure h⟩))
    | exact wpAny_pure ⟨.none, rfl, wpAny_pure h⟩
end

section
variable {X : Cx}
/-- xs[a:c] = ys of another list, at the value level: sl is the slice object that was just made -/
theorem set_slice {pins : List (Addr × Obj)} {s : Shared} {σ : St} {H : Hp} {l b sl : Addr} {xs ys : List V} {a c : Int} {vl vu : Value} {Q : Unit → Shared → Prop} (I : Inv X pins σ H s)
    (hH : H l = some (.lst xs)) (hB : H b = some (.lst ys)) (hne : l ≠ b) (hs : s.heap.IsSliceOf sl vl vu .none) (ra : RelV (.int a) vl) (rc : RelV (.int c) vu) (h0 : 0 ≤ a) (hac : a ≤ c) (hc : c ≤ xs.length)
    (hz : xs.length + ys.length ≤ sizeLine) (h : ∀ s', Inv X pins σ (upd H l (.lst (xs.take a.toNat ++ ys ++ xs.drop c.toNat))) s' → Q () s') :
    wpAny (model X.prog X.w) X.A (setItem (.ref l) (.ref sl) (.ref b)) Q X.xe s := by
  obtain ⟨ta, rfl⟩ := ra
  obtain ⟨tc, rfl⟩ := rc
  obtain ⟨z, its, n, r, hl, e⟩ := I.lstM hH
  obtain ⟨z2, its2, n2, r2, hl2, e2⟩ := I.lstM hB
  obtain ⟨a', rfl⟩ := Int.eq_ofNat_of_zero_le h0
  obtain ⟨c', rfl⟩ := Int.eq_ofNat_of_zero_le (Int.le_trans h0 hac)
  simp only [Int.toNat_natCast] at h
  refine setItem_slice (a := a') (c := c') e e2 hne hs (.int _ _) (.int _ _) (by omega) (by rw [List.size_toArray]; omega) (by rw [List.size_toArray, List.size_toArray]; omega) (h _ ?_)
  refine I.lset (its' := its.take a' ++ its2 ++ its.drop c') (t' := s.toks) hH e ?_ (Vals.append (Vals.append (r.take _) r2) (r.drop _)) ?_
  · exact splice_eq its its2 a' c'
  · rw [List.length_append, List.length_append, List.length_take, List.length_drop]
    omega
end
end L2

namespace L2
open PySem PySem.Spec PyProof.Rows

/-! ### lists of pairs as tables -/
section
variable {κ : Type} [DecidableEq κ]
def valV (kvs : List (κ × V)) (k : κ) : Option V := (kvs.find? fun kv => decide (kv.1 = k)).map (·.2)
/-- in its place, or at the end -/
def putK (kvs : List (κ × V)) (k : κ) (v : V) : List (κ × V) :=
  if (kvs.any fun kv => decide (kv.1 = k)) = true then kvs.map (fun kv => if kv.1 = k then (kv.1, v) else kv) else kvs ++ [(k, v)]
def dropK (kvs : List (κ × V)) (k : κ) : List (κ × V) := kvs.filter fun kv => decide (kv.1 ≠ k)

theorem valV_nil {k : κ} : valV ([] : List (κ × V)) k = none := rfl
theorem valV_pos {p : κ × V} {r : List (κ × V)} {k : κ} (e : p.1 = k) : valV (p :: r) k = some p.2 := by simp [valV, List.find?_cons, e]
theorem valV_neg {p : κ × V} {r : List (κ × V)} {k : κ} (e : ¬ p.1 = k) : valV (p :: r) k = valV r k := by simp [valV, List.find?_cons, e]
theorem valV_any (k : κ) : ∀ kvs : List (κ × V), (kvs.any fun kv => decide (kv.1 = k)) = (valV kvs k).isSome
  | [] => rfl
  | p :: r => by
    rw [List.any_cons]
    by_cases e : p.1 = k
    · simp only [valV_pos e, decide_eq_true e, Bool.true_or, Option.isSome_some]
    · rw [valV_neg e, decide_eq_false e, Bool.false_or]; exact valV_any k r
theorem valV_map (k j : κ) (y : V) : ∀ kvs : List (κ × V), valV (kvs.map fun kv => if kv.1 = k then (kv.1, y) else kv) j = (valV kvs j).map fun x => if j = k then y else x
  | [] => rfl
  | p :: r => by
    have ih := valV_map k j y r
    rw [List.map_cons]
    by_cases h : p.1 = k
    · rw [if_pos h]
      by_cases e : p.1 = j
      · rw [valV_pos (p := (p.1, y)) e, valV_pos e, Option.map_some, if_pos (e.symm.trans h)]
      · rw [valV_neg (p := (p.1, y)) e, valV_neg e, ih]
    · rw [if_neg h]
      by_cases e : p.1 = j
      · rw [valV_pos (p := p) e, valV_pos e, Option.map_some, if_neg (fun z => h (e.trans z))]
      · rw [valV_neg (p := p) e, valV_neg e, ih]
theorem valV_snoc (k j : κ) (y : V) : ∀ kvs : List (κ × V), valV kvs k = none → valV (kvs ++ [(k, y)]) j = if j = k then some y else valV kvs j
  | [], _ => by
    by_cases e : k = j
    · rw [if_pos e.symm]; exact valV_pos (p := (k, y)) e
    · rw [if_neg (fun z => e z.symm)]; exact valV_neg (p := (k, y)) e
  | p :: r, hn => by
    rw [List.cons_append]
    have hk : ¬ p.1 = k := fun z => by rw [valV_pos z] at hn; cases hn
    rw [valV_neg hk] at hn
    have ih := valV_snoc k j y r hn
    by_cases e : p.1 = j
    · rw [valV_pos e, valV_pos e, if_neg (fun z => hk (e.trans z))]
    · rw [valV_neg e, valV_neg e, ih]
theorem valV_put (kvs : List (κ × V)) (k j : κ) (y : V) : valV (putK kvs k y) j = if j = k then some y else valV kvs j := by
  unfold putK
  by_cases a : (kvs.any fun kv => decide (kv.1 = k)) = true
  · rw [if_pos a, valV_map]
    rw [valV_any] at a
    by_cases e : j = k
    · obtain ⟨x, hx⟩ := Option.isSome_iff_exists.mp a
      rw [if_pos e, e, hx, Option.map_some, if_pos rfl]
    · rw [if_neg e]
      cases valV kvs j with
      | none => rfl
      | some x => rw [Option.map_some, if_neg e]
  · rw [if_neg a]
    refine valV_snoc k j y kvs ?_
    rw [valV_any] at a
    cases q : valV kvs k with
    | none => rfl
    | some x => rw [q] at a; exact (a rfl).elim
theorem length_putK (kvs : List (κ × V)) (k : κ) (v : V) : (putK kvs k v).length ≤ kvs.length + 1 := by
  unfold putK
  split
  · rw [List.length_map]; omega
  · rw [List.length_append, List.length_cons, List.length_nil]; omega
theorem putK_new {kvs : List (κ × V)} {k : κ} (v : V) (h : valV kvs k = none) : putK kvs k v = kvs ++ [(k, v)] := by
  unfold putK
  rw [valV_any, h]
  exact if_neg (by decide)

theorem RelO.isSome_eq {o : Option V} {u : Option Value} (r : RelO o u) : o.isSome = u.isSome := by
  cases o with
  | none => cases u with
    | none => rfl
    | some _ => exact (show False from r).elim
  | some _ => cases u with
    | none => exact (show False from r).elim
    | some _ => rfl
theorem RelO.getD {o : Option V} {u : Option Value} {d : V} {d' : Value} (r : RelO o u) (rd : RelV d d') : RelV (o.getD d) (u.getD d') := by
  cases o with
  | none => cases u with
    | none => exact rd
    | some _ => exact (show False from r).elim
  | some _ => cases u with
    | none => exact (show False from r).elim
    | some _ => exact r

/-- raw tables of the same keys -/
theorem KV.val {kvs : List (κ × V)} {vs : List (κ × Value)} (r : KV kvs vs) (k : κ) : RelO (valV kvs k) (valueAt vs k) := by
  unfold KV at r
  induction r with
  | nil => exact True.intro
  | @cons p q ps qs h t ih =>
    obtain ⟨h1, h2⟩ := h
    by_cases e : p.1 = k
    · have e' : q.1 = k := h1.symm.trans e
      have b : valueAt (q :: qs) k = some q.2 := by simp [valueAt, List.find?_cons, e']
      rw [valV_pos e, b]; exact h2
    · have e' : ¬ q.1 = k := fun z => e (h1.trans z)
      have b : valueAt (q :: qs) k = valueAt qs k := by simp [valueAt, List.find?_cons, e']
      rw [valV_neg e, b]; exact ih
theorem KV.any {kvs : List (κ × V)} {vs : List (κ × Value)} (r : KV kvs vs) (k : κ) : (kvs.any fun kv => decide (kv.1 = k)) = vs.any fun kv => decide (kv.1 = k) := by
  unfold KV at r
  induction r with
  | nil => rfl
  | cons h t ih => rw [List.any_cons, List.any_cons, ih, h.1]
theorem KV.repl {kvs : List (κ × V)} {vs : List (κ × Value)} (r : KV kvs vs) (k : κ) {y : V} {u : Value} (ry : RelV y u) :
    KV (kvs.map fun kv => if kv.1 = k then (kv.1, y) else kv) (vs.map fun kv => if kv.1 = k then (kv.1, u) else kv) := by
  unfold KV at r ⊢
  induction r with
  | nil => exact .nil
  | @cons p q ps qs h t ih =>
    rw [List.map_cons, List.map_cons]
    refine .cons ?_ ih
    obtain ⟨h1, h2⟩ := h
    by_cases e : p.1 = k
    · rw [if_pos e, if_pos (h1.symm.trans e)]; exact ⟨h1, ry⟩
    · rw [if_neg e, if_neg (fun z => e (h1.trans z))]; exact ⟨h1, h2⟩
theorem KV.put {kvs : List (κ × V)} {vs : List (κ × Value)} (r : KV kvs vs) (k : κ) {y : V} {u : Value} (ry : RelV y u) : KV (putK kvs k y) (stored vs k u) := by
  unfold putK stored
  rw [r.any k]
  by_cases e : (vs.any fun kv => decide (kv.1 = k)) = true
  · rw [if_pos e, if_pos e]; exact r.repl k ry
  · rw [if_neg e, if_neg e]; exact Paired.snoc r ⟨rfl, ry⟩
theorem KV.drop {kvs : List (κ × V)} {vs : List (κ × Value)} (r : KV kvs vs) (k : κ) : KV (dropK kvs k) (without vs k) := by
  unfold KV at r ⊢
  unfold dropK without
  induction r with
  | nil => exact .nil
  | @cons p q ps qs h t ih =>
    obtain ⟨h1, h2⟩ := h
    rw [List.filter_cons, List.filter_cons]
    by_cases e : p.1 = k
    · have a : ¬ decide (p.1 ≠ k) = true := by simp [e]
      have b : ¬ decide (q.1 ≠ k) = true := by simp [h1.symm.trans e]
      rw [if_neg a, if_neg b]; exact ih
    · have e' : ¬ q.1 = k := fun z => e (h1.trans z)
      have a : decide (p.1 ≠ k) = true := by simp [e]
      have b : decide (q.1 ≠ k) = true := by simp [e']
      rw [if_pos a, if_pos b]; exact .cons ⟨h1, h2⟩ ih
theorem KV.keys {kvs : List (κ × V)} {vs : List (κ × Value)} (r : KV kvs vs) : kvs.map (·.1) = vs.map (·.1) := by
  unfold KV at r
  induction r with
  | nil => rfl
  | cons h t ih => rw [List.map_cons, List.map_cons, ih, h.1]
theorem KV.length {kvs : List (κ × V)} {vs : List (κ × Value)} (r : KV kvs vs) : kvs.length = vs.length := Paired.length r
theorem dropK_le (kvs : List (κ × V)) (k : κ) : (dropK kvs k).length ≤ kvs.length := List.length_filter_le _ _
end


/-! ### a tracked dict, its keys ints and texts or tuples of these -/
theorem kV_is {P : Program} {w : World} {k : Key} {u : Value} (r : RelV (kV k) u) : (mixKind P w).is k u = true := by
  cases k with
  | inl i => obtain ⟨t, e⟩ := (show ∃ t, u = Value.int i t from r); subst e; exact mixKind_int P w i t
  | inr x => obtain ⟨t, e⟩ := (show ∃ t, u = Value.str x t from r); subst e; exact mixKind_str P w x t
theorem kV_inj {a b : Key} (e : kV a = kV b) : a = b := by
  cases a with
  | inl i => cases b with
    | inl j => have e' : V.int i = V.int j := e; injection e' with e'; rw [e']
    | inr y => exact nomatch (show V.int i = V.str y from e)
  | inr x => cases b with
    | inl j => exact nomatch (show V.str x = V.int j from e)
    | inr y => have e' : V.str x = V.str y := e; injection e' with e'; rw [e']
theorem kVs_inj : ∀ {a b : List Key}, a.map kV = b.map kV → a = b
  | [], [], _ => rfl
  | [], _ :: _, e => by simp at e
  | _ :: _, [], e => by simp at e
  | x :: xs, y :: ys, e => by
    rw [List.map_cons, List.map_cons] at e
    injection e with e1 e2
    rw [kV_inj e1, kVs_inj e2]
theorem items_are {P : Program} {w : World} : ∀ {ks : List Key} {us : List Value}, Vals (ks.map kV) us → ItemsAre (mixKind P w) ks us
  | [], _, r => by rw [List.map_nil] at r; cases r; exact .nil
  | k :: ks, _, r => by
    rw [List.map_cons] at r
    cases r with
    | cons h t => exact .cons (kV_is h) (items_are t)

/-- raw entries of a dict with tuple keys -/
abbrev KT (H : Hp) : List (List Key × V) → List (List Key × Addr × Value) → Prop := Paired fun p q => p.1 = q.1 ∧ H q.2.1 = some (.tup (p.1.map kV)) ∧ RelV p.2 q.2.2
theorem KT.val {H : Hp} {kvs : List (List Key × V)} {xs : List (List Key × Addr × Value)} (r : KT H kvs xs) (k : List Key) : RelO (valV kvs k) ((atKey xs k).map (·.2)) := by
  induction r with
  | nil => exact True.intro
  | @cons p q ps qs h t ih =>
    obtain ⟨h1, _, h2⟩ := h
    by_cases e : p.1 = k
    · have e' : q.1 = k := h1.symm.trans e
      have b : atKey (q :: qs) k = some q.2 := by simp [atKey, List.find?_cons, e']
      rw [valV_pos e, b]; exact h2
    · have e' : ¬ q.1 = k := fun z => e (h1.trans z)
      have b : atKey (q :: qs) k = atKey qs k := by simp [atKey, List.find?_cons, e']
      rw [valV_neg e, b]; exact ih
theorem KT.repl {H : Hp} {kvs : List (List Key × V)} {xs : List (List Key × Addr × Value)} (r : KT H kvs xs) (k : List Key) {y : V} {u : Value} (ry : RelV y u) :
    KT H (kvs.map fun kv => if kv.1 = k then (kv.1, y) else kv) (xs.map (putAt k u)) := by
  induction r with
  | nil => exact .nil
  | @cons p q ps qs h t ih =>
    rw [List.map_cons, List.map_cons]
    refine .cons ?_ ih
    obtain ⟨h1, h2, h3⟩ := h
    unfold putAt
    by_cases e : p.1 = k
    · rw [if_pos e, if_pos (h1.symm.trans e)]; exact ⟨h1, h2, ry⟩
    · rw [if_neg e, if_neg (fun z => e (h1.trans z))]; exact ⟨h1, h2, h3⟩
theorem KT.put {H : Hp} {kvs : List (List Key × V)} {xs : List (List Key × Addr × Value)} (r : KT H kvs xs) (k : List Key) {b : Addr} {y : V} {u : Value} (hb : H b = some (.tup (k.map kV))) (ry : RelV y u) :
    KT H (putK kvs k y) (storedH xs k b u) := by
  have e : (kvs.any fun kv => decide (kv.1 = k)) = (atKey xs k).isSome := by
    rw [valV_any, (r.val k).isSome_eq, Option.isSome_map]
  unfold putK storedH
  rw [e]
  by_cases q : (atKey xs k).isSome = true
  · rw [if_pos q, if_pos q]; exact r.repl k ry
  · rw [if_neg q, if_neg q]; exact Paired.snoc r ⟨rfl, hb, ry⟩
theorem KT.keeps {H H' : Hp} {kvs : List (List Key × V)} {xs : List (List Key × Addr × Value)} (r : KT H kvs xs) (ht : ∀ b ys, H b = some (.tup ys) → H' b = some (.tup ys)) : KT H' kvs xs :=
  Paired.mapP r fun _ _ z => ⟨z.1, ht _ _ z.2.1, z.2.2⟩

section
variable {P : Program} {w : World} {H : Hp} {h : Heap} {a : Addr}
theorem rd_of {u : HO} (ok : HOk P w H h) (e : Rd H a u) : ObjOk P w H h a u := e.ok ok
theorem dk_rd {kvs : List (Key × V)} (ok : HOk P w H h) (e : Rd H a (.dK kvs)) : kvs.length ≤ sizeLine ∧ (a == sysModules) = false ∧ ∃ vs, KV kvs vs ∧ h.DictOf (mixKind P w) a vs :=
  show ObjOk P w H h a (.dK kvs) from rd_of ok e
theorem dk_of {kvs : List (Key × V)} (ok : HOk P w H h) (e : H a = some (.dK kvs)) : kvs.length ≤ sizeLine ∧ (a == sysModules) = false ∧ ∃ vs, KV kvs vs ∧ h.DictOf (mixKind P w) a vs := dk_rd ok (.inl e)
/-- a tracked tuple of ints and texts is a key -/
theorem key_of {ks : List Key} (ok : HOk P w H h) (e : H a = some (.tup (ks.map kV))) : (tupleKind (mixKind P w)).is h ks a := by
  obtain ⟨_, its, r, o, h1, h2, n, h3⟩ := (show ObjOk P w H h a (.tup (ks.map kV)) from ok a _ e)
  exact ⟨o, its.toArray, n, h1, h2, h3, by simpa using items_are r⟩
theorem dt_rd {kvs : List (List Key × V)} (ok : HOk P w H h) (e : Rd H a (.dT kvs)) : kvs.length ≤ sizeLine ∧ (a == sysModules) = false ∧
    ∃ xs, KT H kvs xs ∧ h.DictOfH (tupleKind (mixKind P w)) a xs := by
  obtain ⟨z, y, xs, r, o, es, ep, h1, h2, h3, h4, h5⟩ := (show ObjOk P w H h a (.dT kvs) from rd_of ok e)
  refine ⟨z, y, xs, r, o, es, ep, h1, h2, h3, h4, fun x hx => ?_, h5⟩
  have all : ∀ {l : List (List Key × V)} {m : List (List Key × Addr × Value)}, KT H l m → ∀ x ∈ m, (tupleKind (mixKind P w)).is h x.1 x.2.1 := by
    intro l m q
    induction q with
    | nil => intro x hx; exact nomatch hx
    | @cons p q ps qs hq t ih =>
      intro x hx
      rcases List.mem_cons.mp hx with e | hx
      · subst e
        exact key_of ok (by rw [← hq.1]; exact hq.2.1)
      · exact ih x hx
  exact all r x hx
theorem dt_of {kvs : List (List Key × V)} (ok : HOk P w H h) (e : H a = some (.dT kvs)) : kvs.length ≤ sizeLine ∧ (a == sysModules) = false ∧
    ∃ xs, KT H kvs xs ∧ h.DictOfH (tupleKind (mixKind P w)) a xs := dt_rd ok (.inl e)
end

/-- what the dict at a holds at the key y -/
def DGet (H : Hp) (a : Addr) (y : V) (r : Option V) : Prop :=
  (∃ kvs k, Rd H a (.dK kvs) ∧ y = kV k ∧ r = valV kvs k) ∨ ∃ kvs k b, Rd H a (.dT kvs) ∧ y = .ref b ∧ H b = some (.tup (k.map kV)) ∧ r = valV kvs k
/-- the heap behind a[y] = v -/
def DPut (H : Hp) (a : Addr) (y v : V) (H' : Hp) : Prop :=
  (∃ kvs k, H a = some (.dK kvs) ∧ y = kV k ∧ kvs.length < sizeLine ∧ H' = upd H a (.dK (putK kvs k v))) ∨
  ∃ kvs k b, H a = some (.dT kvs) ∧ y = .ref b ∧ H b = some (.tup (k.map kV)) ∧ kvs.length < sizeLine ∧ H' = upd H a (.dT (putK kvs k v))
theorem DGet.k {H : Hp} {a : Addr} {kvs : List (Key × V)} {k : Key} (e : H a = some (.dK kvs)) : DGet H a (kV k) (valV kvs k) := .inl ⟨kvs, k, .inl e, rfl, rfl⟩
theorem DGet.t {H : Hp} {a b : Addr} {kvs : List (List Key × V)} {k : List Key} (e : H a = some (.dT kvs)) (eb : H b = some (.tup (k.map kV))) : DGet H a (.ref b) (valV kvs k) := .inr ⟨kvs, k, b, .inl e, rfl, eb, rfl⟩
theorem DPut.k {H : Hp} {a : Addr} {kvs : List (Key × V)} {k : Key} {v : V} (e : H a = some (.dK kvs)) (hl : kvs.length < sizeLine) : DPut H a (kV k) v (upd H a (.dK (putK kvs k v))) := .inl ⟨kvs, k, e, rfl, hl, rfl⟩
theorem DPut.t {H : Hp} {a b : Addr} {kvs : List (List Key × V)} {k : List Key} {v : V} (e : H a = some (.dT kvs)) (eb : H b = some (.tup (k.map kV))) (hl : kvs.length < sizeLine) :
    DPut H a (.ref b) v (upd H a (.dT (putK kvs k v))) := .inr ⟨kvs, k, b, e, rfl, eb, hl, rfl⟩


section
variable {X : Cx} {pins : List (Addr × Obj)} {σ : St} {H : Hp} {s : Shared} {a : Addr} {y v : V} {u r : Value} {o : Option V} {A : Around} {E : Value → Shared → Prop}

theorem Inv.big (I : Inv X pins σ H s) : sysModules < s.heap.objs.size := by
  have h : mainGlobals < s.heap.objs.size := (I.mod.glob.keeps I.bk).lt
  exact Nat.lt_trans (by decide) h

/-- d[y], there -/
theorem d_getItem {Q : Value → Shared → Prop} (hu : A.units + 1 < cLine) (I : Inv X pins σ H s) (g : DGet H a y (some v)) (ry : RelV y u) (h : ∀ w' s', Inv X pins σ H s' → RelV v w' → Q w' s') :
    wpAny (model X.prog X.w) A (getItem (.ref a) u) Q E s := by
  rcases g with ⟨kvs, k, e, ey, l⟩ | ⟨kvs, k, b, e, ey, eb, l⟩
  · subst ey
    obtain ⟨z, hd, vs, rel, dd⟩ := dk_rd I.hok e
    obtain ⟨w', hw, rw'⟩ := RelO.some_of (v := v) (o := valueAt vs k) (by rw [l]; exact rel.val k)
    exact wpAny_getItem_of (kV_is ry) dd.mapOf hw (h w' _ (I.tok _) rw')
  · subst ey
    cases (show u = Value.ref b from ry)
    obtain ⟨z, hd, xs, rel, dd⟩ := dt_rd I.hok e
    obtain ⟨w', hw, rw'⟩ := RelO.some_of (v := v) (o := (atKey xs k).map (·.2)) (by rw [l]; exact rel.val k)
    obtain ⟨p, hp, hp2⟩ := Option.map_eq_some_iff.mp hw
    refine wpAny_getItem_heap (tupleKind_room_in1 hu) (key_of I.hok eb) dd hp ?_
    rw [hp2]
    exact h w' _ (I.tok _) rw'
/-- y in d -/
theorem d_in {Q : Value → Shared → Prop} (hu : A.units + 1 < cLine) (I : Inv X pins σ H s) (g : DGet H a y o) (ry : RelV y u) (h : ∀ s', Inv X pins σ H s' → Q (.bool o.isSome) s') :
    wpAny (model X.prog X.w) A (compareOp .In u (.ref a)) Q E s := by
  rcases g with ⟨kvs, k, e, ey, l⟩ | ⟨kvs, k, b, e, ey, eb, l⟩
  · subst ey
    obtain ⟨z, hd, vs, rel, dd⟩ := dk_rd I.hok e
    refine wpAny_in_of (kV_is ry) hd dd.mapOf ?_
    rw [← (rel.val k).isSome_eq, ← l]
    exact h _ (I.tok _)
  · subst ey
    cases (show u = Value.ref b from ry)
    obtain ⟨z, hd, xs, rel, dd⟩ := dt_rd I.hok e
    refine wpAny_in_heap (tupleKind_room_in1 hu) (key_of I.hok eb) hd dd ?_
    have q := (rel.val k).isSome_eq
    rw [Option.isSome_map] at q
    rw [← q, ← l]
    exact h _ (I.tok _)
theorem d_notIn {Q : Value → Shared → Prop} (hu : A.units + 1 < cLine) (I : Inv X pins σ H s) (g : DGet H a y o) (ry : RelV y u) (h : ∀ s', Inv X pins σ H s' → Q (.bool (!o.isSome)) s') :
    wpAny (model X.prog X.w) A (compareOp .NotIn u (.ref a)) Q E s := by
  rcases g with ⟨kvs, k, e, ey, l⟩ | ⟨kvs, k, b, e, ey, eb, l⟩
  · subst ey
    obtain ⟨z, hd, vs, rel, dd⟩ := dk_rd I.hok e
    refine wpAny_notIn_of (kV_is ry) hd dd.mapOf ?_
    rw [← (rel.val k).isSome_eq, ← l]
    exact h _ (I.tok _)
  · subst ey
    cases (show u = Value.ref b from ry)
    obtain ⟨z, hd, xs, rel, dd⟩ := dt_rd I.hok e
    refine wpAny_notIn_heap (tupleKind_room_in1 hu) (key_of I.hok eb) hd dd ?_
    have q := (rel.val k).isSome_eq
    rw [Option.isSome_map] at q
    rw [← q, ← l]
    exact h _ (I.tok _)
/-- a dict's object is replaced -/
theorem d_write {h' : Heap} {t' : Nat} {ob : HO} (I : Inv X pins σ H s) (mu : Mut (H a)) (hs : Heap.SameBut a s.heap h') (he : ∃ q, h'.get? a = some q) (new : ObjOk X.prog X.w (upd H a ob) h' a ob) :
    Inv X pins σ (upd H a ob) { s with heap := h', toks := t' } :=
  I.write (x := a) (e := a) mu (.inl rfl) (fun b q hb z => (hs.2 b hb).trans z) he new
theorem dk_new {P : Program} {w : World} {H' : Hp} {h' : Heap} {kvs : List (Key × V)} {vs : List (Key × Value)} (z : kvs.length ≤ sizeLine) (hd : (a == sysModules) = false) (rel : KV kvs vs) (dd : h'.DictOf (mixKind P w) a vs) :
    ObjOk P w H' h' a (.dK kvs) := ⟨z, hd, vs, rel, dd⟩
/-- d[y] = v -/
theorem d_setItem {H' : Hp} {Q : Unit → Shared → Prop} (hu : A.units + 1 < cLine) (I : Inv X pins σ H s) (g : DPut H a y v H') (ry : RelV y u) (rv : RelV v r) (h : ∀ s', Inv X pins σ H' s' → Q () s') :
    wpAny (model X.prog X.w) A (setItem (.ref a) u r) Q E s := by
  rcases g with ⟨kvs, k, e, ey, l, eH⟩ | ⟨kvs, k, b, e, ey, eb, l, eH⟩
  · subst ey eH
    obtain ⟨z, hd, vs, rel, dd⟩ := dk_of I.hok e
    have hz : vs.length ≤ sizeLine := by rw [← rel.length]; exact z
    have hl : (putK kvs k v).length ≤ sizeLine := by have := length_putK kvs k v; omega
    refine wpAny_setItem_pairs (hsz := hz) (kV_is ry) dd fun h' dd' hs => h _ ?_
    have he : ∃ q, h'.get? a = some q := let ⟨q, _, _, hq, _⟩ := dd'; ⟨q, hq⟩
    exact d_write I (by rw [e]; exact True.intro) hs he (dk_new hl hd (rel.put k rv) dd')
  · subst ey eH
    cases (show u = Value.ref b from ry)
    obtain ⟨z, hd, xs, rel, dd⟩ := dt_of I.hok e
    have hz : xs.length ≤ sizeLine := by rw [← Paired.length rel]; exact z
    have hl : (putK kvs k v).length ≤ sizeLine := by have := length_putK kvs k v; omega
    refine wpAny_setItem_heap (hsz := hz) (tupleKind_room_in1 hu) (key_of I.hok eb) dd fun h' dd' hs => h _ ?_
    obtain ⟨q, es, ep, hq, h2, h3, h4, _, h5⟩ := dd'
    refine d_write I (by rw [e]; exact True.intro) hs ⟨q, hq⟩ ⟨hl, hd, _, (rel.put k eb rv).keeps fun c ys ec => ?_, q, es, ep, hq, h2, h3, h4, h5⟩
    rw [upd_ne (ne_of ec e (fun z => nomatch z))]
    exact ec
end

section
variable {X : Cx} {pins : List (Addr × Obj)} {σ : St} {H : Hp} {s : Shared} {a : Addr} {kvs : List (Key × V)} {k : Key} {u : Value} {A : Around} {E : Value → Shared → Prop}
/-- del d[k] -/
theorem d_delItem {Q : Unit → Shared → Prop} (I : Inv X pins σ H s) (e : H a = some (.dK kvs)) (ry : RelV (kV k) u) (l : (valV kvs k).isSome = true) (h : ∀ s', Inv X pins σ (upd H a (.dK (dropK kvs k))) s' → Q () s') :
    wpAny (model X.prog X.w) A (delItem (.ref a) u) Q E s := by
  obtain ⟨z, hd, vs, rel, dd⟩ := dk_of I.hok e
  refine wpAny_delItem_slot dd.typeIs (by decide) PySem.F.slot_dict_delitem
    (call_meetsIn PySem.F.slot_dict_delitem dd.typeIs PySem.F.entry_dict_delitem (PySem.F.args_dict_delitem_2 _ _) (meets_dict_delitem_pairs (mixKind X.prog X.w) a (kV_is ry)) ⟨vs, dd, by rw [← rel.length]; exact z, by rw [← (rel.val k).isSome_eq]; exact l, fun h' dd' hs => h _ ?_⟩)
  have he : ∃ q, h'.get? a = some q := let ⟨q, _, _, hq, _⟩ := dd'; ⟨q, hq⟩
  exact d_write I (by rw [e]; exact True.intro) hs he (dk_new (Nat.le_trans (dropK_le kvs k) z) hd (rel.drop k) dd')
/-- d.pop(k[, x]), there -/
theorem d_pop {v : V} {more : List Value} {Q : Value → Shared → Prop} (I : Inv X pins σ H s) (e : H a = some (.dK kvs)) (ry : RelV (kV k) u) (l : valV kvs k = some v) (hm : more = [] ∨ ∃ x, more = [x])
    (h : ∀ w' s', Inv X pins σ (upd H a (.dK (dropK kvs k))) s' → RelV v w' → Q w' s') : wpAny (model X.prog X.w) A (call (.builtin "dict.pop") (.ref a :: u :: more)) Q E s := by
  obtain ⟨z, hd, vs, rel, dd⟩ := dk_of I.hok e
  obtain ⟨w', hw, rw'⟩ := RelO.some_of (v := v) (o := valueAt vs k) (by rw [← l]; exact rel.val k)
  have hp : (keyPart u).isSome = true := by
    cases k with
    | inl i => obtain ⟨t, q⟩ := (show ∃ t, u = Value.int i t from ry); subst q; rfl
    | inr x => obtain ⟨t, q⟩ := (show ∃ t, u = Value.str x t from ry); subst q; rfl
  have ha : argsOk "dict.pop" ⟨.ref a :: u :: more, []⟩ := by
    rcases hm with q | ⟨x, q⟩
    · subst q; exact PySem.F.args_dict_pop_2 _ _
    · subst q; exact PySem.F.args_dict_pop_3 _ _ _
  refine call_meetsIn PySem.F.slot_dict_pop dd.typeIs PySem.F.entry_dict_pop ha (meets_dict_pop_there (mixKind X.prog X.w) a (kV_is ry) more hm hp)
    ⟨vs, w', dd, by rw [← rel.length]; exact z, hw, fun h' dd' hs => h w' _ ?_ rw'⟩
  have he : ∃ q, h'.get? a = some q := let ⟨q, _, _, hq, _⟩ := dd'; ⟨q, hq⟩
  exact d_write I (by rw [e]; exact True.intro) hs he (dk_new (Nat.le_trans (dropK_le kvs k) z) hd (rel.drop k) dd')
/-- d.pop(k, x), not there -/
theorem d_popD {r : Value} {Q : Value → Shared → Prop} (I : Inv X pins σ H s) (e : H a = some (.dK kvs)) (ry : RelV (kV k) u) (l : valV kvs k = none) (h : ∀ s', Inv X pins σ H s' → Q r s') :
    wpAny (model X.prog X.w) A (call (.builtin "dict.pop") [.ref a, u, r]) Q E s := by
  obtain ⟨z, hd, vs, rel, dd⟩ := dk_of I.hok e
  have hn : valueAt vs k = none := RelO.none_of (by rw [← l]; exact rel.val k)
  have hp : (keyPart u).isSome = true := by
    cases k with
    | inl i => obtain ⟨t, q⟩ := (show ∃ t, u = Value.int i t from ry); subst q; rfl
    | inr x => obtain ⟨t, q⟩ := (show ∃ t, u = Value.str x t from ry); subst q; rfl
  exact call_meetsIn PySem.F.slot_dict_pop dd.typeIs PySem.F.entry_dict_pop (PySem.F.args_dict_pop_3 _ _ _) (meets_dict_pop_default (mixKind X.prog X.w) a (kV_is ry) hd hp r) ⟨vs, dd, hn, h _ (I.tok _)⟩
/-- d.clear() -/
theorem d_clear {Q : Value → Shared → Prop} (I : Inv X pins σ H s) (e : H a = some (.dK kvs)) (h : ∀ s', Inv X pins σ (upd H a (.dK [])) s' → Q .none s') : wpAny (model X.prog X.w) A (call (.builtin "dict.clear") [.ref a]) Q E s := by
  obtain ⟨z, hd, vs, rel, dd⟩ := dk_of I.hok e
  refine call_meetsIn PySem.F.slot_dict_clear dd.typeIs PySem.F.entry_dict_clear (PySem.F.args_dict_clear_1 _) (meets_dict_clear (mixKind X.prog X.w) a) ⟨vs, dd, by rw [← rel.length]; exact z, fun h' dd' hs => h _ ?_⟩
  have he : ∃ q, h'.get? a = some q := let ⟨q, _, _, hq, _⟩ := dd'; ⟨q, hq⟩
  exact d_write (t' := s.toks) I (by rw [e]; exact True.intro) hs he (dk_new (Nat.zero_le _) hd .nil dd')
/-- len(d) -/
theorem d_len {Q : Value → Shared → Prop} (I : Inv X pins σ H s) (e : Rd H a (.dK kvs)) (h : ∀ t s', Inv X pins σ H s' → Q (.int kvs.length t) s') : wpAny (model X.prog X.w) A (call (.builtin "len") [.ref a]) Q E s := by
  obtain ⟨z, hd, vs, rel, dd⟩ := dk_rd I.hok e
  refine call_len_dict hd dd (by rw [← rel.length]; rw [sizeLine_eq] at z; omega) ?_
  rw [← rel.length]
  exact h _ _ (I.tok _)
/-- if d -/
theorem d_truth {Q : Bool → Shared → Prop} (I : Inv X pins σ H s) (e : Rd H a (.dK kvs)) (h : ∀ s', Inv X pins σ H s' → Q (!kvs.isEmpty) s') : wpAny (model X.prog X.w) A (truthy (.ref a)) Q E s := by
  obtain ⟨z, hd, vs, rel, dd⟩ := dk_rd I.hok e
  refine wpAny_truthy_dict hd dd (by rw [← rel.length]; rw [sizeLine_eq] at z; omega) ?_
  have q : kvs.isEmpty = vs.isEmpty := by cases rel <;> rfl
  rw [← q]
  exact h _ (I.tok _)
end


/-! ### readings and rules -/
/-- the element of a subscription, not a slice -/
def NoSl (i : Expr) : Prop := ∀ ov iv, subscripted i false ov iv = operate [ov, iv] (getItem ov iv)
theorem subD_of {prog : Program} {w : World} {A : Around} {E : Value → Shared → Prop} {s : Shared} {env : Env} {value slice : Expr} {pos : Pos} {T id : String} {Q : Value → Shared → Prop}
    (hl : typeLookup (.type T) "__getitem__" = pure (some (.builtin id))) (hs : NoSl slice)
    (h : wpAny (model prog w) A (eval value env) (fun o s₁ => wpAny (model prog w) A (eval slice env) (fun i s₂ => s₂.TypeIs o T ∧ wpAny (model prog w) A (getItem o i) Q E s₂) E s₁) E s) :
    wpAny (model prog w) A (eval (.Subscript value slice pos) env) Q E s := by
  refine Subscript_ (wpAny_mono h (fun o s₁ h₁ => wpAny_mono h₁ (fun i s₂ h₂ => ?_) fun _ _ x => x) fun _ _ x => x)
  obtain ⟨hT, h₂⟩ := h₂
  unfold subscriptTail
  refine wpAny_bind ?_
  rw [getitemInPython_of_ne hT.not_modules]
  refine wpAny_bind (wpAny_specialOf hT hl ?_)
  have fin : wpAny (model prog w) A (subscripted slice false o i) (fun r s₃ => wpAny (model prog w) A (letTemporaryGo value o r >>= fun _ => pure r) Q E s₃) E s₂ := by
    rw [hs o i]
    exact wpAny_operating (wpAny_mono h₂ (fun r s₃ h₃ => wpAny_bind (wpAny_letTemporaryGo (wpAny_pure h₃))) fun _ _ x => x)
  first
    | exact wpAny_pure (wpAny_bind fin)
    | exact wpAny_bind (wpAny_pure (wpAny_bind fin))
    | exact wpAny_bind fin

theorem dict_typeIs {X : Cx} {pins : List (Addr × Obj)} {σ : St} {H : Hp} {s : Shared} {a : Addr} {y : V} {o : Option V} (I : Inv X pins σ H s) (g : DGet H a y o) : s.TypeIs (.ref a) "dict" := by
  rcases g with ⟨kvs, k, e, _, _⟩ | ⟨kvs, k, b, e, _, _, _⟩
  · obtain ⟨_, _, vs, _, dd⟩ := dk_rd I.hok e
    exact dd.typeIs
  · obtain ⟨_, _, xs, _, dd⟩ := dt_rd I.hok e
    exact dd.typeIs
theorem dict_noDict {X : Cx} {pins : List (Addr × Obj)} {σ : St} {H : Hp} {s : Shared} {a : Addr} {y : V} {o : Option V} (I : Inv X pins σ H s) (g : DGet H a y o) :
    ∀ b, Value.ref a = .ref b → ∃ ob, s.heap.get? b = some ob ∧ ob.dict = none := fun b q => by
  cases q
  rcases g with ⟨kvs, k, e, _, _⟩ | ⟨kvs, k, b, e, _, _, _⟩
  · obtain ⟨_, _, vs, _, ob, _, _, h1, h2, _⟩ := dk_rd I.hok e
    exact ⟨ob, h1, h2.2.1⟩
  · obtain ⟨_, _, xs, _, ob, _, _, h1, h2, _⟩ := dt_rd I.hok e
    exact ⟨ob, h1, h2.2.1⟩

/-- d[y] -/
def tDGet (td ty : TE) : TE := fun σ H Q => td σ H fun x H1 => ty σ H1 fun y H2 => ∃ a v, x = .ref a ∧ DGet H2 a y (some v) ∧ Q v H2
/-- y in d, y not in d -/
def tDIn (ty td : TE) : TE := fun σ H Q => ty σ H fun y H1 => td σ H1 fun x H2 => ∃ a o, x = .ref a ∧ DGet H2 a y o ∧ Q (.bl o.isSome) H2
def tDNotIn (ty td : TE) : TE := fun σ H Q => ty σ H fun y H1 => td σ H1 fun x H2 => ∃ a o, x = .ref a ∧ DGet H2 a y o ∧ Q (.bl (!o.isSome)) H2
/-- d[y] = v -/
def sDPut (td ty tv : TE) : TS := fun D σ H => tv σ H fun v H1 => td σ H1 fun x H2 => ty σ H2 fun y H3 => ∃ a H4, x = .ref a ∧ DPut H3 a y v H4 ∧ D.nx σ H4
/-- d[y] op= v -/
def sDAug (td ty tv : TE) (rd : V → V → Hp → VK → Prop) : TS := fun D σ H => td σ H fun x H1 => ty σ H1 fun y H2 => ∃ a v, x = .ref a ∧ DGet H2 a y (some v) ∧
  tv σ H2 fun y2 H3 => rd v y2 H3 fun z H4 => ∃ H5, DPut H4 a y z H5 ∧ D.nx σ H5
/-- del d[y] -/
def sDDel (td ty : TE) : TS := fun D σ H => td σ H fun x H1 => ty σ H1 fun y H2 => ∃ a kvs k, x = .ref a ∧ H2 a = some (.dK kvs) ∧ y = kV k ∧ (valV kvs k).isSome = true ∧ D.nx σ (upd H2 a (.dK (dropK kvs k)))

section
variable {X : Cx} {o i e value : Expr} {pos pos' tpos : Pos} {td ty tv : TE}
theorem pe_dget (hu : X.A.units + 1 < cLine) (ho : PE X o td) (hi : PE X i ty) (hs : NoSl i) : PE X (.Subscript o i pos) (tDGet td ty) := by
  intro pins s σ H Q I h
  refine subD_of PySem.F.slot_dict_getitem.lookup hs (thn (ho pins s σ H _ I h) fun u s1 ⟨x, H1, I1, rx, q1⟩ => thn (hi pins s1 σ H1 _ I1 q1) fun iv s2 ⟨y, H2, I2, ry, a, v, ex, g, q2⟩ => ?_)
  subst ex
  obtain rfl : u = Value.ref a := rx
  exact ⟨dict_typeIs I2 g, d_getItem hu I2 g ry fun w' s3 I3 rw' => ⟨v, H2, I3, rw', q2⟩⟩
theorem pc_din (hu : X.A.units + 1 < cLine) (hi : PE X i ty) (ho : PE X o td) : PC X .In i o (tDIn ty td) := by
  intro pins s σ H Q I h
  refine thn (hi pins s σ H _ I h) fun iv s1 ⟨y, H1, I1, ry, q1⟩ => thn (ho pins s1 σ H1 _ I1 q1) fun u s2 ⟨x, H2, I2, rx, a, ov, ex, g, q2⟩ => ?_
  subst ex
  obtain rfl : u = Value.ref a := rx
  exact d_in hu I2 g ry fun s3 I3 => ⟨.bl ov.isSome, H2, I3, rfl, q2⟩
theorem pc_dnotin (hu : X.A.units + 1 < cLine) (hi : PE X i ty) (ho : PE X o td) : PC X .NotIn i o (tDNotIn ty td) := by
  intro pins s σ H Q I h
  refine thn (hi pins s σ H _ I h) fun iv s1 ⟨y, H1, I1, ry, q1⟩ => thn (ho pins s1 σ H1 _ I1 q1) fun u s2 ⟨x, H2, I2, rx, a, ov, ex, g, q2⟩ => ?_
  subst ex
  obtain rfl : u = Value.ref a := rx
  exact d_notIn hu I2 g ry fun s3 I3 => ⟨.bl (!ov.isSome), H2, I3, rfl, q2⟩
theorem ps_dput (hu : X.A.units + 1 < cLine) (ho : PE X o td) (hi : PE X i ty) (hv : PE X value tv) (hs : swapsWith value (some (.Subscript o i pos')) pos.line X.env = pure false) :
    PS X (.Assign [.Subscript o i pos'] value pos) (sDPut td ty tv) := by
  intro pins s σ H D I h
  refine wpAny_Assign_Subscript (thn (hv pins s σ H _ I h) fun r s1 ⟨v, H1, I1, rv, q1⟩ => thn (ho pins s1 σ H1 _ I1 q1) fun u s2 ⟨x, H2, I2, rx, q2⟩ => thn (hi pins s2 σ H2 _ I2 q2) fun iv s3 ⟨y, H3, I3, ry, a, H4, ex, g, q3⟩ => ?_) hs
  subst ex
  obtain rfl : u = Value.ref a := rx
  exact d_setItem hu I3 g ry rv fun s4 I4 => ⟨σ, H4, I4, q3⟩
theorem ps_daug {op : Operator} {rd : V → V → Hp → VK → Prop} (hu : X.A.units + 1 < cLine) (ho : PE X o td) (hi : PE X i ty) (hv : PE X value tv) (hop : InOp X op rd)
    (ha : ∀ ov iv new, augStore i ov iv new = (do holding [new, ov, iv] (setItem ov iv new); release [new, ov, iv] []; pure .next)) : PS X (.AugAssign (.Subscript o i tpos) op value pos) (sDAug td ty tv rd) := by
  intro pins s σ H D I h
  refine wpAny_AugAssign_SubscriptAny (thn (ho pins s σ H _ I h) fun u s1 ⟨x, H1, I1, rx, q1⟩ => thn (hi pins s1 σ H1 _ I1 q1) fun iv s2 ⟨y, H2, I2, ry, a, v, ex, g, q2⟩ => ?_) ha
  subst ex
  obtain rfl : u = Value.ref a := rx
  refine d_getItem hu I2 g ry fun w' s3 I3 rw' => thn (hv pins s3 σ H2 _ I3 q2) fun w2 s4 ⟨y2, H3, I4, ry2, q3⟩ => thn (hop pins s4 σ H3 v y2 w' w2 _ I4 rw' ry2 q3) fun w3 s5 ⟨z, H4, I5, rz, H5, g5, q4⟩ => ?_
  exact d_setItem hu I5 g5 ry rz fun s6 I6 => ⟨σ, H5, I6, q4⟩
theorem ps_ddel (ho : PE X o td) (hi : PE X i ty) : PS X (.Delete [.Subscript o i tpos] pos) (sDDel td ty) := by
  intro pins s σ H D I h
  refine wpAny_Delete (wpAny_deleteEach_cons (wpAny_delete_Subscript (thn (ho pins s σ H _ I h) fun u s1 ⟨x, H1, I1, rx, q1⟩ => thn (hi pins s1 σ H1 _ I1 q1) fun iv s2 ⟨y, H2, I2, ry, a, kvs, k, ex, e, ey, l, q2⟩ => ?_)))
  subst ex ey
  obtain rfl : u = Value.ref a := rx
  exact d_delItem I2 e ry l fun s3 I3 => wpAny_deleteEach_nil ⟨σ, _, I3, q2⟩
end


/-! ### displays -/
theorem dk_empty {P : Program} {w : World} {H : Hp} (h : Heap) (hb : sysModules < h.objs.size) : ObjOk P w H (h.push { cls := .type "dict", data := .dict #[] }) h.objs.size (.dK []) :=
  ⟨Nat.zero_le _, beq_eq_false_iff_ne.mpr (Ne.symm (Nat.ne_of_lt hb)), [], .nil, Heap.DictOf.new h⟩
theorem dt_empty {P : Program} {w : World} {H : Hp} (h : Heap) (hb : sysModules < h.objs.size) : ObjOk P w H (h.push { cls := .type "dict", data := .dict #[] }) h.objs.size (.dT []) :=
  ⟨Nat.zero_le _, beq_eq_false_iff_ne.mpr (Ne.symm (Nat.ne_of_lt hb)), [], .nil, _, #[], 0, Heap.get?_push_size _ rfl, ⟨rfl, rfl, rfl⟩, rfl, rfl, List.nodup_nil⟩
/-- {}, to be a dict of the kind that is wanted -/
def tDNewK : TE := fun _ H Q => ∀ p, H p = none → Q (.ref p) (upd H p (.dK []))
def tDNewT : TE := fun _ H Q => ∀ p, H p = none → Q (.ref p) (upd H p (.dT []))
section
variable {X : Cx} {pos : Pos}
theorem pe_dnewK : PE X (.Dict [] [] pos) tDNewK := fun pins s σ H Q I h =>
  wpAny_Dict_empty ⟨.ref s.heap.objs.size, _, I.laid (a := s.heap.objs.size) (o := .dK []) (t' := s.toks) (fun _ _ q => Heap.get?_push_of_some _ q) (Nat.le_refl _) (dk_empty s.heap I.big), rfl, h _ (I.hok.fresh (Nat.le_refl _))⟩
theorem pe_dnewT : PE X (.Dict [] [] pos) tDNewT := fun pins s σ H Q I h =>
  wpAny_Dict_empty ⟨.ref s.heap.objs.size, _, I.laid (a := s.heap.objs.size) (o := .dT []) (t' := s.toks) (fun _ _ q => Heap.get?_push_of_some _ q) (Nat.le_refl _) (dt_empty s.heap I.big), rfl, h _ (I.hok.fresh (Nat.le_refl _))⟩
end

/-- the pairs of a display, from the left -/
def tPairs : List (TE × TE) → St → Hp → (List (V × V) → Hp → Prop) → Prop
  | [], _, H, Q => Q [] H
  | (tk, tv) :: r, σ, H, Q => tk σ H fun x H1 => tv σ H1 fun y H2 => tPairs r σ H2 fun ps H3 => Q ((x, y) :: ps) H3
abbrev VV : List (V × V) → List (Value × Value) → Prop := Paired fun p q => RelV p.1 q.1 ∧ RelV p.2 q.2
def PPs (X : Cx) (pos : Pos) (keys : List (Option Expr)) (values : List Expr) (trs : List (TE × TE)) : Prop :=
  ∀ (pins : List (Addr × Obj)) (s : Shared) (σ : St) (H : Hp) (Q : List (V × V) → Hp → Prop), Inv X pins σ H s → tPairs trs σ H Q →
    wpAny (model X.prog X.w) X.A (evalPairs (pairTrees keys values X.env pos)) (fun vs s' => ∃ ps H', Inv X pins σ H' s' ∧ VV ps vs ∧ Q ps H') X.xe s
theorem pps_nil {X : Cx} {pos : Pos} : PPs X pos [] [] [] := fun pins s σ H Q I h => pairTrees_nil_walk ⟨[], H, I, .nil, h⟩
theorem pps_cons {X : Cx} {pos : Pos} {k v : Expr} {ks : List (Option Expr)} {vs : List Expr} {tk tv : TE} {trs : List (TE × TE)} (hk : PE X k tk) (hv : PE X v tv) (hr : PPs X pos ks vs trs) :
    PPs X pos (some k :: ks) (v :: vs) ((tk, tv) :: trs) := fun pins s σ H Q I h =>
  pairTrees_cons_walk (thn (hk pins s σ H _ I h) fun u s1 ⟨x, H1, I1, rx, q1⟩ => thn (hv pins s1 σ H1 _ I1 q1) fun w2 s2 ⟨y, H2, I2, ry, q2⟩ =>
    thn (hr pins s2 σ H2 _ I2 q2) fun ws s3 ⟨ps, H3, I3, rel, q3⟩ => ⟨(x, y) :: ps, H3, I3, .cons ⟨rx, ry⟩ rel, q3⟩)

def mergeK (kvs more : List (Key × V)) : List (Key × V) := more.foldl (fun acc kv => putK acc kv.1 kv.2) kvs
theorem KV.merge : ∀ {more : List (Key × V)} {rs : List (Key × Value)} {kvs : List (Key × V)} {vs : List (Key × Value)}, KV more rs → KV kvs vs → KV (mergeK kvs more) (merged vs rs) := by
  intro more rs kvs vs r
  unfold KV at r
  induction r generalizing kvs vs with
  | nil => intro q; exact q
  | @cons p q ps qs h t ih =>
    intro r0
    have e : KV (putK kvs p.1 p.2) (stored vs q.1 q.2) := by
      have := r0.put p.1 h.2
      rw [← h.1]; exact this
    exact ih e
theorem length_mergeK : ∀ (more kvs : List (Key × V)), (mergeK kvs more).length ≤ kvs.length + more.length
  | [], kvs => by show kvs.length ≤ kvs.length + 0; omega
  | p :: r, kvs => by
    have h1 := length_mergeK r (putK kvs p.1 p.2)
    have h2 := length_putK kvs p.1 p.2
    show (mergeK (putK kvs p.1 p.2) r).length ≤ _
    rw [List.length_cons]; omega
theorem carries_of {P : Program} {w : World} : ∀ {kvs : List (Key × V)} {ws : List (Value × Value)}, VV (kvs.map fun kv => (kV kv.1, kv.2)) ws → ∃ rs, Carries (mixKind P w) ws rs ∧ KV kvs rs
  | [], _, r => by rw [List.map_nil] at r; cases r; exact ⟨[], True.intro, .nil⟩
  | p :: kvs, _, r => by
    rw [List.map_cons] at r
    cases r with
    | @cons a b as bs h t =>
      obtain ⟨rs, c, q⟩ := carries_of (P := P) (w := w) t
      obtain ⟨b1, b2⟩ := b
      exact ⟨(p.1, b2) :: rs, ⟨kV_is h.1, rfl, c⟩, .cons ⟨rfl, h.2⟩ q⟩
/-- {k: v, ..} with keys ints and texts; the new dict stands empty while the pairs are made -/
def tDisp (trs : List (TE × TE)) : TE := fun σ H Q => ∀ p, H p = none → tPairs trs σ (upd H p (.dK [])) fun ps H2 => H2 p = some (.dK []) ∧ ∃ kvs : List (Key × V), ps = kvs.map (fun kv => (kV kv.1, kv.2)) ∧ kvs.length ≤ 15 ∧ Q (.ref p) (upd H2 p (.dK (mergeK [] kvs)))
theorem pe_disp {X : Cx} {pos : Pos} {keys : List (Option Expr)} {values : List Expr} {trs : List (TE × TE)} (h : PPs X pos keys values trs) (hall : keys.all (·.isSome) = true) (hl : keys.length = values.length) (h0 : keys ≠ [])
    (h15 : keys.length ≤ 15) : PE X (.Dict keys values pos) (tDisp trs) := by
  intro pins s σ H Q I q
  have hn := I.hok.fresh (Nat.le_refl s.heap.objs.size)
  have I1 := I.laid (a := s.heap.objs.size) (o := .dK []) (h' := s.heap.push { cls := .type "dict", data := .dict #[] }) (t' := s.toks) (fun _ _ q => Heap.get?_push_of_some _ q) (Nat.le_refl _) (dk_empty s.heap I.big)
  refine wpAny_Dict_walk (knd := mixKind X.prog X.w) hall hl h0 h15 (thn (h pins _ σ _ _ I1 (q _ hn)) fun ws s2 ⟨ps, H2, I2, rel, e, kvs, ep, lk, q2⟩ => ?_)
  subst ep
  obtain ⟨rs, c, rk⟩ := carries_of (P := X.prog) (w := X.w) rel
  obtain ⟨z, hd, vs0, r0, dd⟩ := dk_of I2.hok e
  cases r0
  refine ⟨rs, c, dd, fun h' dd' hs => ⟨.ref s.heap.objs.size, _, ?_, rfl, q2⟩⟩
  have hz : (mergeK [] kvs).length ≤ sizeLine := by
    have h1 := length_mergeK kvs []
    rw [List.length_nil] at h1
    rw [sizeLine_eq]; omega
  have he : ∃ q, h'.get? s.heap.objs.size = some q := let ⟨q, _, _, hq, _⟩ := dd'; ⟨q, hq⟩
  exact d_write I2 (by rw [e]; exact True.intro) hs he (dk_new hz hd (rk.merge .nil) dd')


/-! ### methods -/
/-- a method call o.m(e) of a built-in, with one argument: what must be seen of the text -/
structure M1 (X : Cx) (o : Expr) (m : Str) (apos : Pos) (e : Expr) (cpos : Pos) : Prop where
  base : attributeBase o m X.env (eval o X.env) = eval o X.env
  few : ((backTo cpos (starEach [e] X.env)).all (fun x => !x.1) && (backToKw cpos (keywordEach [] X.env)).all (fun x => x.1.isSome)
    && decide (([e] : List Expr).length + ([] : List Keyword).length + (if ([] : List Keyword).isEmpty then 0 else 1) < 30)) = true
  line : (apos.endLine == cpos.line) = true
  trees : backTo cpos (starEach [e] X.env) = [(false, eval e X.env)]
structure M2 (X : Cx) (o : Expr) (m : Str) (apos : Pos) (e f : Expr) (cpos : Pos) : Prop where
  base : attributeBase o m X.env (eval o X.env) = eval o X.env
  few : ((backTo cpos (starEach [e, f] X.env)).all (fun x => !x.1) && (backToKw cpos (keywordEach [] X.env)).all (fun x => x.1.isSome)
    && decide (([e, f] : List Expr).length + ([] : List Keyword).length + (if ([] : List Keyword).isEmpty then 0 else 1) < 30)) = true
  line : (apos.endLine == cpos.line) = true
  trees : backTo cpos (starEach [e, f] X.env) = [(false, eval e X.env), (false, eval f X.env)]

/-- a is a dict, whatever its keys -/
def IsD (H : Hp) (a : Addr) : Prop := (∃ kvs, Rd H a (.dK kvs)) ∨ ∃ kvs, Rd H a (.dT kvs)
theorem isD_at {X : Cx} {pins : List (Addr × Obj)} {σ : St} {H : Hp} {s : Shared} {a : Addr} (I : Inv X pins σ H s) (d : IsD H a) :
    s.TypeIs (.ref a) "dict" ∧ (∀ b, Value.ref a = .ref b → ∃ ob, s.heap.get? b = some ob ∧ ob.dict = none) ∧ (a == sysModules) = false := by
  rcases d with ⟨kvs, e⟩ | ⟨kvs, e⟩
  · obtain ⟨_, hd, vs, _, dd⟩ := dk_rd I.hok e
    refine ⟨dd.typeIs, fun b q => ?_, hd⟩
    cases q
    obtain ⟨ob, _, _, h1, h2, _⟩ := dd
    exact ⟨ob, h1, h2.2.1⟩
  · obtain ⟨_, hd, xs, _, dd⟩ := dt_rd I.hok e
    refine ⟨dd.typeIs, fun b q => ?_, hd⟩
    cases q
    obtain ⟨ob, _, _, h1, h2, _⟩ := dd
    exact ⟨ob, h1, h2.2.1⟩

section
variable {X : Cx} {pins : List (Addr × Obj)} {σ : St} {H : Hp} {s : Shared} {a : Addr} {y d : V} {u r : Value} {o : Option V} {A : Around} {E : Value → Shared → Prop}
/-- d.get(y) -/
theorem d_get1 {Q : Value → Shared → Prop} (hu : A.units + 1 < cLine) (I : Inv X pins σ H s) (g : DGet H a y o) (ry : RelV y u) (h : ∀ w' s', Inv X pins σ H s' → RelV (o.getD .non) w' → Q w' s') :
    wpAny (model X.prog X.w) A (call (.builtin "dict.get") [.ref a, u]) Q E s := by
  rcases g with ⟨kvs, k, e, ey, l⟩ | ⟨kvs, k, b, e, ey, eb, l⟩
  · subst ey
    obtain ⟨z, hd, vs, rel, dd⟩ := dk_rd I.hok e
    refine call_meetsIn PySem.F.slot_dict_get dd.typeIs PySem.F.entry_dict_get (PySem.F.args_dict_get_2 _ _) (meets_dict_get (mixKind X.prog X.w) a (kV_is ry) hd) ⟨_, dd.mapOf, h _ _ (I.tok _) ?_⟩
    rw [l]
    exact (rel.val k).getD rfl
  · subst ey
    cases (show u = Value.ref b from ry)
    obtain ⟨z, hd, xs, rel, dd⟩ := dt_rd I.hok e
    refine call_meetsIn PySem.F.slot_dict_get dd.typeIs PySem.F.entry_dict_get (PySem.F.args_dict_get_2 _ _) (meetsH_dict_get (tupleKind (mixKind X.prog X.w)) a b hd) ⟨tupleKind_room_in1 hu, k, xs, key_of I.hok eb, dd, h _ _ (I.tok _) ?_⟩
    rw [l]
    exact (rel.val k).getD rfl
/-- d.get(y, x) -/
theorem d_get2 {Q : Value → Shared → Prop} (hu : A.units + 1 < cLine) (I : Inv X pins σ H s) (g : DGet H a y o) (ry : RelV y u) (rd : RelV d r) (h : ∀ w' s', Inv X pins σ H s' → RelV (o.getD d) w' → Q w' s') :
    wpAny (model X.prog X.w) A (call (.builtin "dict.get") [.ref a, u, r]) Q E s := by
  rcases g with ⟨kvs, k, e, ey, l⟩ | ⟨kvs, k, b, e, ey, eb, l⟩
  · subst ey
    obtain ⟨z, hd, vs, rel, dd⟩ := dk_rd I.hok e
    refine call_meetsIn PySem.F.slot_dict_get dd.typeIs PySem.F.entry_dict_get (PySem.F.args_dict_get_3 _ _ _) (meets_dict_get_default (mixKind X.prog X.w) a (kV_is ry) hd r) ⟨_, dd.mapOf, h _ _ (I.tok _) ?_⟩
    rw [l]
    exact (rel.val k).getD rd
  · subst ey
    cases (show u = Value.ref b from ry)
    obtain ⟨z, hd, xs, rel, dd⟩ := dt_rd I.hok e
    refine call_meetsIn PySem.F.slot_dict_get dd.typeIs PySem.F.entry_dict_get (PySem.F.args_dict_get_3 _ _ _) (meetsH_dict_get_default (tupleKind (mixKind X.prog X.w)) a b hd r) ⟨tupleKind_room_in1 hu, k, xs, key_of I.hok eb, dd, h _ _ (I.tok _) ?_⟩
    rw [l]
    exact (rel.val k).getD rd
end

def tDGet1 (td ty : TE) : TE := fun σ H Q => td σ H fun x H1 => ∃ a, x = .ref a ∧ IsD H1 a ∧ ty σ H1 fun y H2 => ∃ o, DGet H2 a y o ∧ Q (o.getD .non) H2
def tDGet2 (td ty tx : TE) : TE := fun σ H Q => td σ H fun x H1 => ∃ a, x = .ref a ∧ IsD H1 a ∧ ty σ H1 fun y H2 => tx σ H2 fun z H3 => ∃ o, DGet H3 a y o ∧ Q (o.getD z) H3
/-- d.pop(k): there; d.pop(k, x): there or not -/
def tDPop1 (td ty : TE) : TE := fun σ H Q => td σ H fun x H1 => ∃ a, x = .ref a ∧ IsD H1 a ∧ ty σ H1 fun y H2 => ∃ kvs k v, H2 a = some (.dK kvs) ∧ y = kV k ∧ valV kvs k = some v ∧ Q v (upd H2 a (.dK (dropK kvs k)))
def tDPop2 (td ty tx : TE) : TE := fun σ H Q => td σ H fun x H1 => ∃ a, x = .ref a ∧ IsD H1 a ∧ ty σ H1 fun y H2 => tx σ H2 fun z H3 => ∃ kvs k, H3 a = some (.dK kvs) ∧ y = kV k ∧
  (∀ v, valV kvs k = some v → Q v (upd H3 a (.dK (dropK kvs k)))) ∧ (valV kvs k = none → Q z H3)
section
variable {X : Cx} {o e f : Expr} {apos cpos : Pos} {td ty tx : TE}
theorem pe_dget1 (hu : X.A.units + 1 < cLine) (ho : PE X o td) (he : PE X e ty) (m : M1 X o "get" apos e cpos) : PE X (.Call (.Attribute o "get" apos) [e] [] cpos) (tDGet1 td ty) := by
  intro pins s σ H Q I h
  refine wpAny_Call_method m.base m.few m.line PySem.F.plainAttrs_dict PySem.F.slot_dict_get PySem.F.type_dict_get (thn (ho pins s σ H _ I h) fun u s1 ⟨x, H1, I1, rx, a, ex, d, q1⟩ => ?_)
  subst ex
  obtain rfl : u = Value.ref a := rx
  obtain ⟨t1, t2, _⟩ := isD_at I1 d
  refine ⟨t1, t2, ?_⟩
  rw [m.trees]
  refine Calls.callWith_builtin rfl (Calls.evalArgs_plain (Calls.spliced_cons (thn (he pins s1 σ H1 _ I1 q1) fun iv s2 ⟨y, H2, I2, ry, ov, g, q2⟩ => Calls.spliced_nil ?_)))
  exact d_get1 hu I2 g ry fun w' s3 I3 rw' => ⟨_, H2, I3, rw', q2⟩
theorem pe_dget2 (hu : X.A.units + 1 < cLine) (ho : PE X o td) (he : PE X e ty) (hf : PE X f tx) (m : M2 X o "get" apos e f cpos) : PE X (.Call (.Attribute o "get" apos) [e, f] [] cpos) (tDGet2 td ty tx) := by
  intro pins s σ H Q I h
  refine wpAny_Call_method m.base m.few m.line PySem.F.plainAttrs_dict PySem.F.slot_dict_get PySem.F.type_dict_get (thn (ho pins s σ H _ I h) fun u s1 ⟨x, H1, I1, rx, a, ex, d, q1⟩ => ?_)
  subst ex
  obtain rfl : u = Value.ref a := rx
  obtain ⟨t1, t2, _⟩ := isD_at I1 d
  refine ⟨t1, t2, ?_⟩
  rw [m.trees]
  refine Calls.callWith_builtin rfl (Calls.evalArgs_plain (Calls.spliced_cons (thn (he pins s1 σ H1 _ I1 q1) fun iv s2 ⟨y, H2, I2, ry, q2⟩ =>
    Calls.spliced_cons (thn (hf pins s2 σ H2 _ I2 q2) fun fv s3 ⟨z, H3, I3, rz, ov, g, q3⟩ => Calls.spliced_nil ?_))))
  exact d_get2 hu I3 g ry rz fun w' s4 I4 rw' => ⟨_, H3, I4, rw', q3⟩
theorem pe_dpop1 (ho : PE X o td) (he : PE X e ty) (m : M1 X o "pop" apos e cpos) : PE X (.Call (.Attribute o "pop" apos) [e] [] cpos) (tDPop1 td ty) := by
  intro pins s σ H Q I h
  refine wpAny_Call_method m.base m.few m.line PySem.F.plainAttrs_dict PySem.F.slot_dict_pop PySem.F.type_dict_pop (thn (ho pins s σ H _ I h) fun u s1 ⟨x, H1, I1, rx, a, ex, d, q1⟩ => ?_)
  subst ex
  obtain rfl : u = Value.ref a := rx
  obtain ⟨t1, t2, _⟩ := isD_at I1 d
  refine ⟨t1, t2, ?_⟩
  rw [m.trees]
  refine Calls.callWith_builtin rfl (Calls.evalArgs_plain (Calls.spliced_cons (thn (he pins s1 σ H1 _ I1 q1) fun iv s2 ⟨y, H2, I2, ry, kvs, k, v, ea, ey, l, q2⟩ => Calls.spliced_nil ?_)))
  subst ey
  exact d_pop I2 ea ry l (.inl rfl) fun w' s3 I3 rw' => ⟨v, _, I3, rw', q2⟩
theorem pe_dpop2 (ho : PE X o td) (he : PE X e ty) (hf : PE X f tx) (m : M2 X o "pop" apos e f cpos) : PE X (.Call (.Attribute o "pop" apos) [e, f] [] cpos) (tDPop2 td ty tx) := by
  intro pins s σ H Q I h
  refine wpAny_Call_method m.base m.few m.line PySem.F.plainAttrs_dict PySem.F.slot_dict_pop PySem.F.type_dict_pop (thn (ho pins s σ H _ I h) fun u s1 ⟨x, H1, I1, rx, a, ex, d, q1⟩ => ?_)
  subst ex
  obtain rfl : u = Value.ref a := rx
  obtain ⟨t1, t2, _⟩ := isD_at I1 d
  refine ⟨t1, t2, ?_⟩
  rw [m.trees]
  refine Calls.callWith_builtin rfl (Calls.evalArgs_plain (Calls.spliced_cons (thn (he pins s1 σ H1 _ I1 q1) fun iv s2 ⟨y, H2, I2, ry, q2⟩ =>
    Calls.spliced_cons (thn (hf pins s2 σ H2 _ I2 q2) fun fv s3 ⟨z, H3, I3, rz, kvs, k, ea, ey, q3, q4⟩ => Calls.spliced_nil ?_))))
  subst ey
  cases l : valV kvs k with
  | some v => exact d_pop I3 ea ry l (.inr ⟨fv, rfl⟩) fun w' s4 I4 rw' => ⟨v, _, I4, rw', q3 v l⟩
  | none => exact d_popD I3 ea ry l fun s4 I4 => ⟨z, H3, I4, rz, q4 l⟩
end

/-! ### dict(d): a copy -/
section
variable {X : Cx} {pins : List (Addr × Obj)} {σ : St} {H : Hp} {s : Shared} {a : Addr} {kvs : List (Key × V)} {A : Around} {E : Value → Shared → Prop}
theorem d_copyOf {Q : Value → Shared → Prop} (I : Inv X pins σ H s) (e : Rd H a (.dK kvs)) (h : ∀ p s', H p = none → Inv X pins σ (upd H p (.dK kvs)) s' → Q (.ref p) s') : wpAny (model X.prog X.w) A (call (.type "dict") [.ref a]) Q E s := by
  obtain ⟨z, hd, vs, rel, dd⟩ := dk_rd I.hok e
  refine kt_call_dict hd dd (by rw [← rel.length]; exact z) fun h' dd' hs => ?_
  refine h _ _ (I.hok.fresh (Nat.le_refl _)) (I.laid (a := s.heap.objs.size) (o := .dK kvs) (t' := s.toks) (fun b q hq => ?_) (Nat.le_refl _) (dk_new z (beq_eq_false_iff_ne.mpr (Ne.symm (Nat.ne_of_lt I.big))) rel dd'))
  exact (hs.2 b (Nat.ne_of_lt (Heap.lt_size hq))).trans (Heap.get?_push_of_some _ hq)
end


section
variable {X : Cx} {pins : List (Addr × Obj)} {σ : St} {H : Hp} {s : Shared} {a : Addr} {y : V} {u : Value} {A : Around} {E : Value → Shared → Prop}
/-- d[y], not there: a KeyError -/
theorem d_missing {Q : Value → Shared → Prop} (hu : A.units + 1 < cLine) (hh : A.handled = none) (I : Inv X pins σ H s) (g : DGet H a y none) (ry : RelV y u)
    (h : ∀ h' e t', Heap.NewExc s.heap h' e "KeyError" → E (.ref e) { s with heap := h', toks := t' }) : wpAny (model X.prog X.w) A (getItem (.ref a) u) Q E s := by
  rcases g with ⟨kvs, k, e, ey, l⟩ | ⟨kvs, k, b, e, ey, eb, l⟩
  · subst ey
    obtain ⟨z, hd, vs, rel, dd⟩ := dk_rd I.hok e
    have hn : valueAt vs k = none := RelO.none_of (by rw [l]; exact rel.val k)
    exact wpAny_getItem_missing_of (kV_is ry) hd hh dd.mapOf hn fun h' ex ne => h h' ex _ ne
  · subst ey
    cases (show u = Value.ref b from ry)
    obtain ⟨z, hd, xs, rel, dd⟩ := dt_rd I.hok e
    have hn : (atKey xs k).map (·.2) = none := RelO.none_of (by rw [l]; exact rel.val k)
    exact wpAny_getItem_missing_heap (tupleKind_room_in1 hu) (key_of I.hok eb) hd hh dd (Option.map_eq_none_iff.mp hn) fun h' ex ne => h h' ex _ ne
end
end L2

namespace Att
open PySem PySem.W PySem.Calls PyProof.Rows

/-! ### the script -/
theorem ints_of_wellAll {P : Params} {h : Heap} : ∀ (ns : List Int) (vs : List Value), WellAll P h vs (ns.map WData.int) → IntsAre vs ns := by
  intro ns
  induction ns with
  | nil =>
    intro vs w
    rw [List.map_nil] at w
    cases w
    exact .nil
  | cons n ns ih =>
    intro vs w
    rw [List.map_cons] at w
    cases w with
    | cons a b =>
      cases a
      exact .cons _ _ (ih _ b)

theorem script_of {l : OpenLaw} {n : Nat} (hn : l.most = some n) {P : Params} {h : Heap} {args : List WData} {vals : List Value}
    (hpre : l.row.toRowW.claim.pre args = true) (hwl : WellAll P h vals args) :
    ∃ a vs ns, vals = [Value.ref a] ∧ args = [WData.list (ns.map WData.int)] ∧ h.get? a = some { cls := .type "list", data := .seq vs.toArray } ∧ IntsAre vs ns ∧ ns.length ≤ n := by
  have hsh : WShape.hasAll [] args [.list .int] = true := (pre_splitW hpre).1
  have hc : l.pre.holds [] { args := args } = true := (pre_splitW hpre).2
  obtain ⟨d, r, rfl, h1, h2⟩ := hasAllW_cons hsh
  obtain rfl := hasAllW_nil h2
  obtain ⟨xs, rfl, h3⟩ := hasW_list h1
  obtain ⟨ns, rfl⟩ := items_int h3
  have hlen : ns.length ≤ n := by
    unfold OpenLaw.pre at hc
    have h4 : (WTm.not (.lt (.lit (.int (n : Int))) (.len (.arg 0)))).holds [] { args := [.list (ns.map .int)] } = true := by
      have h4 := (holds_andW hc).1
      rw [hn] at h4
      exact h4
    have h5 := condW_of h4 (w_not (w_lt w_lit (w_len_list (w_arg rfl))))
    rw [List.length_map] at h5
    refine Nat.le_of_not_lt fun q => ?_
    have q' : (n : Int) < ((ns.length : Nat) : Int) := by omega
    first
      | (rw [decide_eq_true q'] at h5; exact absurd h5 (by decide))
      | (simp at h5; omega)
  cases hwl with
  | cons w1 w2 =>
    cases w2
    cases w1 with
    | list ho hall => exact ⟨_, _, ns, rfl, rfl, ho, ints_of_wellAll ns _ hall, hlen⟩

theorem post_true (l : OpenLaw) (args : List WData) : l.row.toRowW.claim.post args (.bool true) args = true :=
  postW_of (r := l.row.toRowW) (X := (true == true))
    (show WShape.has [] (.bool true) .bool = true by first | rfl | decide | simp [WShape.has, WShape.arms, WShape.armsAll])
    (show (WTm.eq .res (.lit (.bool true))).value [] { args := args, res := some (.bool true), after := args } = some (.bool (true == true)) from w_eq_bool (w_res rfl) w_lit) rfl

/-! ### the attachment: holds_open's last premise (the goal 'hc' behind k_head) from a wpAny of the law's body -/
theorem attach {l : OpenLaw} {n : Nat} {q : Program} {loose : List Str} {XP : (Str → Option Value) → Heap → Prop} {YP : World → Heap → Prop} {d : DefRec} {x : Str}
    (hn : l.most = some n) (hdf : d.params.defaults = [])
    (hbind : ∀ pm cd doc v : Value, bindArgs (docDef d.name d.params d.body d.scope pm cd doc) ⟨[v], []⟩ = pure [(x, v)])
    (hx : d.scope.names.lookup x = some .local ∨ d.scope.names.lookup x = some .cell)
    (hk : d.scope.kind = .function) (hco : d.scope.isCoroutine = false) (hgen : d.scope.isGenerator = false)
    (body : ∀ (w : World) (s₀ s₁ s : Shared) (mg mb : Str → Option Value) (fa : Addr) (o : Obj) (pm cd doc : Value) (a : Addr) (vs : List Value) (ns : List Int),
      Ground q loose [] XP w s₀ mg mb s₁.heap → YP w s₁.heap →
      s₁.heap.get? fa = some o → o.data = .func (docDef d.name d.params d.body d.scope pm cd doc) → s₁.heap.CodeRec cd d.name → mg d.name = some (.ref fa) →
      s₁.heap.get? a = some { cls := .type "list", data := .seq vs.toArray } → IntsAre vs ns → ns.length ≤ n →
      s.gens = #[] → s.os = s₁.os →
      Fr s₁.heap s₁.heap.objs.size s.heap (bindL (envOfC d.name d.scope s₁.heap.objs.size fa cd).kindOf [(x, .ref a)] fun _ => none) →
      Cl s₁.heap.objs.size (cellsFrom (s₁.heap.objs.size + 1) d.scope.names []) s.heap (bindC (envOfC d.name d.scope s₁.heap.objs.size fa cd).kindOf [(x, .ref a)] fun _ => none) →
      wpAny (model l.prog w) (callerA.deeper (envOfC d.name d.scope s₁.heap.objs.size fa cd)) (execs d.body (envOfC d.name d.scope s₁.heap.objs.size fa cd))
        (fun f s' => f = .ret (.bool true) ∧ OldK s₁.heap s'.heap ∧ s'.os = s₁.os ∧ AllBare s'.gens) (fun _ _ => False) s) :
    WalkO q loose XP YP l.row.toRowW d [] (fun f vs => PySem.call f vs) := by
  intro w s₀ s₁ mg mb G Y fa o pm cd doc dV kV ho hd hcd hD hmg hg args vals as hpre hlay hrd hwl hlo
  obtain rfl : dV = .none := Dflts.none hD hdf
  obtain rfl : kV = .none := Dflts.noKw hD
  obtain ⟨a, vs, ns, rfl, rfl, hobj, hints, hlen⟩ := script_of hn hpre hwl
  refine enter_call ?_
  refine call_cells_ret (o := o) (by rw [depth_caller]; decide) ho (fd_plain hd) G.T.nolimit hcd (hbind pm cd doc (.ref a)) (fun y hy => ?_) (fun h₁ tk F X => ?_) hco hgen hk
  · obtain rfl : y = (x, Value.ref a) := List.mem_singleton.mp hy
    rcases hx with e | e
    · exact .inl e
    · exact .inr ⟨e, cellsFrom_some _ _ _ (.inl e)⟩
  · refine wpAny_mono (body w s₀ s₁ { s₁ with heap := h₁, toks := tk } mg mb fa o pm cd doc a vs ns G Y ho (fd_plain hd) hcd hmg hobj hints hlen hg rfl F X) (fun f s' hq => ?_) (fun _ _ hq => hq)
    obtain ⟨rfl, h2, h3, h4⟩ := hq
    exact ⟨.inl ⟨.bool true, .bool true, [], rfl, fun _ => rfl, .bool true, post_true l _, fun _ => ⟨List.Pairwise.nil, fun _ hm => (nomatch hm)⟩⟩, h2, h3, h4⟩

/-- the same from a codeAny of the CALL (for a layer whose function contracts speak of calls) -/
theorem attach_call {l : OpenLaw} {n : Nat} {q : Program} {loose : List Str} {XP : (Str → Option Value) → Heap → Prop} {YP : World → Heap → Prop} {d : DefRec}
    (hn : l.most = some n) (hdf : d.params.defaults = [])
    (call : ∀ (w : World) (s₀ s₁ : Shared) (mg mb : Str → Option Value) (fa : Addr) (o : Obj) (pm cd doc : Value) (a : Addr) (vs : List Value) (ns : List Int),
      Ground q loose [] XP w s₀ mg mb s₁.heap → YP w s₁.heap →
      s₁.heap.get? fa = some o → o.data = .func (docDef d.name d.params d.body d.scope pm cd doc) → s₁.heap.CodeRec cd d.name → mg d.name = some (.ref fa) →
      s₁.heap.get? a = some { cls := .type "list", data := .seq vs.toArray } → IntsAre vs ns → ns.length ≤ n → s₁.gens = #[] →
      codeAny (model l.prog w) callerA (.call (.ref fa) ⟨[.ref a], []⟩) (fun r s' => r = .ok (.ret (.bool true)) ∧ OldK s₁.heap s'.heap ∧ s'.os = s₁.os ∧ AllBare s'.gens) s₁) :
    WalkO q loose XP YP l.row.toRowW d [] (fun f vs => PySem.call f vs) := by
  intro w s₀ s₁ mg mb G Y fa o pm cd doc dV kV ho hd hcd hD hmg hg args vals as hpre hlay hrd hwl hlo
  obtain rfl : dV = .none := Dflts.none hD hdf
  obtain rfl : kV = .none := Dflts.noKw hD
  obtain ⟨a, vs, ns, rfl, rfl, hobj, hints, hlen⟩ := script_of hn hpre hwl
  refine enter_call (codeAny_mono (call w s₀ s₁ mg mb fa o pm cd doc a vs ns G Y ho (fd_plain hd) hcd hmg hobj hints hlen hg) fun r s' hq => ?_)
  obtain ⟨rfl, h2, h3, h4⟩ := hq
  exact ⟨.inl ⟨.bool true, .bool true, [], rfl, fun _ => rfl, .bool true, post_true l _, fun _ => ⟨List.Pairwise.nil, fun _ hm => (nomatch hm)⟩⟩, h2, h3, h4⟩

/-- the same where the top left finished generators (o_head chose holds_openN): nothing may have changed at all and no generator may be left -/
theorem attachN {l : OpenLaw} {n : Nat} {q : Program} {loose : List Str} {XP : (Str → Option Value) → Heap → Prop} {YP : World → Heap → Prop} {d : DefRec} {x : Str}
    (hn : l.most = some n) (hdf : d.params.defaults = [])
    (hbind : ∀ pm cd doc v : Value, bindArgs (docDef d.name d.params d.body d.scope pm cd doc) ⟨[v], []⟩ = pure [(x, v)])
    (hx : d.scope.names.lookup x = some .local ∨ d.scope.names.lookup x = some .cell)
    (hk : d.scope.kind = .function) (hco : d.scope.isCoroutine = false) (hgen : d.scope.isGenerator = false)
    (body : ∀ (w : World) (s₀ s₁ s : Shared) (mg mb : Str → Option Value) (fa : Addr) (o : Obj) (pm cd doc : Value) (a : Addr) (vs : List Value) (ns : List Int),
      Ground q loose [] XP w s₀ mg mb s₁.heap → YP w s₁.heap →
      s₁.heap.get? fa = some o → o.data = .func (docDef d.name d.params d.body d.scope pm cd doc) → s₁.heap.CodeRec cd d.name → mg d.name = some (.ref fa) →
      s₁.heap.get? a = some { cls := .type "list", data := .seq vs.toArray } → IntsAre vs ns → ns.length ≤ n →
      s.gens = #[] → s.os = s₁.os →
      Fr s₁.heap s₁.heap.objs.size s.heap (bindL (envOfC d.name d.scope s₁.heap.objs.size fa cd).kindOf [(x, .ref a)] fun _ => none) →
      Cl s₁.heap.objs.size (cellsFrom (s₁.heap.objs.size + 1) d.scope.names []) s.heap (bindC (envOfC d.name d.scope s₁.heap.objs.size fa cd).kindOf [(x, .ref a)] fun _ => none) →
      wpAny (model l.prog w) (callerA.deeper (envOfC d.name d.scope s₁.heap.objs.size fa cd)) (execs d.body (envOfC d.name d.scope s₁.heap.objs.size fa cd))
        (fun f s' => f = .ret (.bool true) ∧ (∀ b o, s₁.heap.get? b = some o → s'.heap.get? b = some o) ∧ s'.os = s₁.os ∧ s'.gens = #[]) (fun _ _ => False) s) :
    WalkN q loose XP YP l.row.toRowW d [] (fun f vs => PySem.call f vs) := by
  intro w s₀ s₁ mg mb G Y fa o pm cd doc dV kV ho hd hcd hD hmg hg args vals as hpre hlay hrd hwl hlo
  obtain rfl : dV = .none := Dflts.none hD hdf
  obtain rfl : kV = .none := Dflts.noKw hD
  obtain ⟨a, vs, ns, rfl, rfl, hobj, hints, hlen⟩ := script_of hn hpre hwl
  refine enter_callW ?_
  refine call_cells_ret (o := o) (by rw [depth_caller]; decide) ho (fd_plain hd) G.T.nolimit hcd (hbind pm cd doc (.ref a)) (fun y hy => ?_) (fun h₁ tk F X => ?_) hco hgen hk
  · obtain rfl : y = (x, Value.ref a) := List.mem_singleton.mp hy
    rcases hx with e | e
    · exact .inl e
    · exact .inr ⟨e, cellsFrom_some _ _ _ (.inl e)⟩
  · refine wpAny_mono (body w s₀ s₁ { s₁ with heap := h₁, toks := tk } mg mb fa o pm cd doc a vs ns G Y ho (fd_plain hd) hcd hmg hobj hints hlen hg rfl F X) (fun f s' hq => ?_) (fun _ _ hq => hq)
    obtain ⟨rfl, h2, h3, h4⟩ := hq
    exact ⟨.inl ⟨.bool true, .bool true, [], rfl, fun _ => rfl, .bool true, post_true l _, fun _ => ⟨List.Pairwise.nil, fun _ hm => (nomatch hm)⟩⟩, h2, h3, h4⟩

/-! ### rules over ANY heap (no ledger) from facts about the written part K: the library's own take a ledger (News) for what they write -/
section
variable {prog : Program} {w : World} {A : Around} {E : Value → Shared → Prop} {s : Shared} {K : Frag}

/-- a def of the module, or a method (qual 'C.m'), entered: the frame is the next address; cells behind it -/
theorem call_fn {R : Result → Shared → Prop} {name qual : Str} {params : Arguments} {body : List Stmt} {scope : Scope} {dV kV doc pm cdv ct oc : Value} {an od : Option Addr} {osl : Array (Option Value)} {f : Addr} {args : Args} {binds : List (Str × Value)}
    (X : K.In s.heap) (hlim : s.heap.NoLimit) (ho : K.lookup f = some ⟨oc, od, .func (fnOf name qual params body scope dV kV doc pm an cdv ct), osl⟩) (hcd : codeIn K cdv qual = true) (hroom : A.depth < recursionLimit)
    (hbind : BindsTo s (fnOf name qual params body scope dV kV doc pm an cdv ct) args binds)
    (hkind : (binds.all fun y => scope.names.lookup y.1 == some .local || scope.names.lookup y.1 == some .cell) = true)
    (h : ∀ s₁, InCallC s s.heap.objs.size (bindL (envOfC qual scope s.heap.objs.size f cdv).kindOf binds fun _ => none) (cellsFrom (s.heap.objs.size + 1) scope.names [])
        (bindC (envOfC qual scope s.heap.objs.size f cdv).kindOf binds fun _ => none) s₁ →
      wpAny (model prog w) (A.deeper (envOfC qual scope s.heap.objs.size f cdv)) (execs body (envOfC qual scope s.heap.objs.size f cdv))
        (fun fl s' => R (.ok (.ret (match fl with | .ret v => v | _ => .none))) s')
        (fun e s' => wpAny (model prog w) (A.deeper (envOfC qual scope s.heap.objs.size f cdv)) (leaving (envOfC qual scope s.heap.objs.size f cdv) e) (fun _ s'' => R (.error e) s'') (fun e' s'' => R (.error e') s'') s') s₁)
    (hco : scope.isCoroutine = false) (hgen : scope.isGenerator = false) (hk : scope.kind = .function) : codeAny (model prog w) A (.call (.ref f) args) R s := by
  refine codeAny_call_function hroom (X _ _ ho) rfl hco hgen rfl (codeRec_of X hcd) (hbind _ _ _ _ ?_)
  refine wpAny_newFunctionEnv_cells hk (kindsX hkind _) fun env he s₁ x => ?_
  subst he
  exact ⟨hlim.keeps x.toInCall.keep, codeAny_func (h s₁ x)⟩

/-- C(..): dict at size, instance at size + 1, then __init__ -/
theorem make_obj {R : Result → Shared → Prop} {C fI : Addr} {rest : List Value} {kw : List (Str × Value)}
    (X : K.In s.heap) (hm : makesIn K C = true) (hi : findIn K (.ref C) "__init__" = some (some (.ref fI))) (hf : isFn K (.ref fI) = true)
    (h : codeAny (model prog w) (A.under (.builtin "type.__call__" ⟨.ref C :: rest, kw⟩)) (.call (.ref fI) ⟨.ref (s.heap.objs.size + 1) :: rest, kw⟩) (InitBack (s.heap.objs.size + 1) R)
      { s with heap := (s.heap.push emptyDict).push (instObj C s.heap.objs.size) }) : codeAny (model prog w) A (.call (.ref C) ⟨rest, kw⟩) R s := by
  obtain ⟨hh, g, d, t, os⟩ := s
  exact make_core (makes_of X hm) (looks_findIn X hi) (fun self => bind_fn X self (beq_iff_eq.mp hf)) (.inl rfl) h

/-- x.name where the instance's dict holds the name and the class does not -/
theorem get_field {x C : Addr} {ox : Obj} {es : List DictEntry} {n : Nat} {name : Str} {expr : Bool} {v : Value} {Q : Value → Shared → Prop}
    (X : K.In s.heap) (I : PySem.W.InstAt s.heap x ox C (some (dictOf es n))) (hg : plainGet K C name = true) (hh : hasDictIn K C = true) (ha : findIn K (.ref C) name = some none)
    (hl : getL name es = some (some v)) (hv : handedIn v = true) (h : Q v { s with toks := s.toks + 1 }) : wpAny (model prog w) A (getAttr (.ref x) name expr) Q E s :=
  get_value X I (plainGet_of hg).1 (findObj_own hh ha rfl hl) hv h

/-- x.m(..): the method found in the class -/
theorem get_method {x C f : Addr} {ox : Obj} {es : List DictEntry} {n : Nat} {name : Str} {pl : Sem Bool} {Q : Value × List Value → Shared → Prop}
    (X : K.In s.heap) (I : PySem.W.InstAt s.heap x ox C (some (dictOf es n))) (hg : plainGet K C name = true) (hf : findIn K (.ref C) name = some (some (.ref f))) (ht : isFn K (.ref f) = true)
    (hl : getL name es = some none) (h : Q (.ref f, [.ref x]) s) : wpAny (model prog w) A (getMethod (.ref x) name pl) Q E s :=
  method_fn X I (plainGet_of hg).1 (plainGet_of hg).2 hf (beq_iff_eq.mp ht) (by show (lookIn name (dictOf es n)).map _ = _; rw [lookIn_dict, hl]; rfl) h

/-! the whole heap as the ledger: makes every rule that writes through a ledger a rule over any heap -/
def noObjs (h : Heap) : Heap := { h with objs := #[] }
theorem noObjs_get (h : Heap) (b : Addr) : (noObjs h).get? b = none := by
  cases e : (noObjs h).get? b with
  | none => rfl
  | some o => exact absurd (Heap.lt_size e) (Nat.not_lt_zero _)
def ledger (h : Heap) (L d : Addr) : List (Addr × Obj) := (List.range h.objs.size).filterMap fun a => if a = L ∨ a = d then none else (h.get? a).map fun o => (a, o)
theorem mem_ledger {h : Heap} {L d a : Addr} {o : Obj} : (a, o) ∈ ledger h L d ↔ a ≠ L ∧ a ≠ d ∧ h.get? a = some o := by
  unfold ledger
  rw [List.mem_filterMap]
  constructor
  · rintro ⟨b, _, e⟩
    split at e
    · cases e
    · rename_i hb
      obtain ⟨o', ho, e'⟩ := Option.map_eq_some_iff.mp e
      cases e'
      exact ⟨fun q => hb (.inl q), fun q => hb (.inr q), ho⟩
  · rintro ⟨n1, n2, ho⟩
    refine ⟨a, List.mem_range.mpr (Heap.lt_size ho), ?_⟩
    rw [if_neg (show ¬ (a = L ∨ a = d) from fun q => q.elim n1 n2), ho] <;> rfl
theorem news_ledger {h : Heap} {L d : Addr} {od : Obj} (hne : d ≠ L) (ho : h.get? d = some od) : News (noObjs h) L h ([] ++ (d, od) :: ledger h L d) := by
  rintro ⟨a, o⟩ hp
  rcases List.mem_cons.mp hp with e | hp
  · cases e
    exact ⟨ho, hne, noObjs_get _ _⟩
  · obtain ⟨n1, n2, e⟩ := mem_ledger.mp hp
    exact ⟨e, n1, noObjs_get _ _⟩
theorem fr_all {h : Heap} {L : Addr} {m : Str → Option Value} (n : h.Ns L m) : Fr (noObjs h) L h m :=
  ⟨n, fun b o e => (by rw [noObjs_get] at e; cases e), Nat.zero_le _⟩
/-- Upd of the head entry (for append_K, setItem_K ..) -/
theorem upd_ledger {h : Heap} {L d : Addr} {o o' : Obj} : Upd d o o' ((d, o) :: ledger h L d) ((d, o') :: ledger h L d) :=
  .head fun ⟨_, _⟩ hp => (mem_ledger.mp hp).2.1

/-- x.name = v over any heap: L is any namespace of the heap (the frame's, say): its map stays, its object is not told; all else but the dict stays -/
theorem set_field {x C dx L : Addr} {ox : Obj} {m : Str → Option Value} {es es' : List DictEntry} {n n' : Nat} {name : Str} {v : Value} {Q : Unit → Shared → Prop}
    (X : K.In s.heap) (I : PySem.W.InstAt s.heap x ox C (some (dictOf es n))) (hd : ox.dict = some dx) (hL : s.heap.Ns L m) (hne : dx ≠ L)
    (hs : findIn K (.ref C) "__setattr__" = some (some (.builtin "object.__setattr__"))) (hp : plainOver K C = true) (ht : takerIn K C name = some none) (hh : hasDictIn K C = true) (hl : (getL name es).isSome = true)
    (e : (putL name (PyData.keyHash w.params name) (.str name (s.toks + 1)) v es, putN name es n) = (es', n')) (hz : es'.length ≤ 1000)
    (h : ∀ h' : Heap, h'.Ns L m → h'.get? dx = some (dictOf es' n') → (∀ b o, b ≠ dx → b ≠ L → s.heap.get? b = some o → h'.get? b = some o) → Q () { s with heap := h', toks := s.toks + 2 }) :
    wpAny (model prog w) A (setAttr (.ref x) name v) Q E s := by
  obtain ⟨e1, e2⟩ := Prod.mk.inj e
  have hdx : s.heap.get? dx = some (dictOf es n) := by
    have := I.dict
    rw [hd] at this
    exact this
  refine set_plain X I hs (osa_dict (s := { s with toks := s.toks + 1 }) (h₀ := noObjs s.heap) (L := L) (m := m) (od := dictOf es n) (od' := dictOf es' n') (es := es') (n := n') (pre := []) (post := ledger s.heap L dx)
    (fr_all hL) (news_ledger hne hdx) X I hd hp ht hh hl (fun _ q => nomatch q) (fun ⟨_, _⟩ q => (mem_ledger.mp q).2.1) (by rw [putName_dict, e1, e2]) rfl hz fun h' F' N' => ?_)
  exact h h' F'.ns (N'.get (List.Mem.head _)) fun b o n1 n2 ho => N'.get (List.Mem.tail _ (mem_ledger.mpr ⟨n2, n1, ho⟩))
end
end Att

namespace L2
open PySem PySem.Spec PyProof.Rows

theorem vals_ints : ∀ {vs : List Value} {ns : List Int}, IntsAre vs ns → Vals (ns.map V.int) vs
  | _, _, .nil => .nil
  | _, _, .cons n t h => .cons ⟨t, rfl⟩ (vals_ints h)

/-- nothing is tracked but the script, known to the object (or it is an object of the module) -/
def Only (H : Hp) : Prop := ∀ b, H b = none ∨ ∃ o xs, H b = some (.frz o (.lst xs))

/-- THE HEAD: the law's promise, at the heap behind the top. F, the promise of the law's def, may use that base is part of the heap (so K.In base, base.Ns mainGlobals mg stand in Mod) -/
theorem law_call {P : Program} {w : World} {K : PySem.W.Frag} {mg mb : Str → Option Value} {CX : CXT} {k : Nat} {fa a : Addr} {fd : FuncData} {x : Str} {sp : Sp} {s₁ : Shared} {vs : List Value} {ns : List Int}
    (KX : K.In s₁.heap) (hns : s₁.heap.Ns mainGlobals mg) (hb : s₁.heap.Ns builtinsNs mb) (hbb : ∀ x : Str, x ≠ "__name__" → mb x = bootBuiltins x) (hlim : s₁.heap.NoLimit) (hg : s₁.gens = #[])
    (ha : s₁.heap.get? a = some { cls := .type "list", data := .seq vs.toArray }) (hi : IntsAre vs ns) (hl : ns.length ≤ sizeLine) (hr : Room k callerA)
    (F : ∀ base : Heap, K.In base → base.Ns mainGlobals mg → FnOk P w K mg base CX k fa fd [x] sp) (hbind : ∀ (s : Shared) (u : Value), BindsTo s fd ⟨[u], []⟩ [(x, u)])
    (hsp : ∀ H : Hp, Only H → SqL K H a (ns.map V.int) → sp [.ref a] H (fun v _ => v = .bl true) fun _ _ _ => False)
    (hCX : ∀ H e s', CX [] H s₁ (fun _ _ _ => False) e s' → False) :
    codeAny (model P w) callerA (.call (.ref fa) ⟨[.ref a], []⟩) (fun r s' => r = .ok (.ret (.bool true)) ∧ OldK s₁.heap s'.heap ∧ s'.os = s₁.os ∧ AllBare s'.gens) s₁ := by
  have rv := vals_ints hi
  have lenV := hi.length
  -- from an abstract heap in which nothing but the script may be tracked
  have core : ∀ H : Hp, Only H → SqL K H a (ns.map V.int) → HOk P w H s₁.heap → (∀ b, H b ≠ none → b = a) → (H a ≠ none → K.lookup a = none) →
      codeAny (model P w) callerA (.call (.ref fa) ⟨[.ref a], []⟩) (fun r s' => r = .ok (.ret (.bool true)) ∧ OldK s₁.heap s'.heap ∧ s'.os = s₁.os ∧ AllBare s'.gens) s₁ := by
    intro H hO hS hok hA hK
    have base_of : ∀ {b : Addr} {o : Obj}, s₁.heap.get? b = some o → H b = none → (hidT s₁.heap H).get? b = some o := fun e n => hidT_get e n
    have noA : ∀ {b : Addr} {o : Obj} {es : Array DictEntry} {ep : Nat}, s₁.heap.get? b = some o → o.data = .dict es ep → H b = none := fun {b o es ep} e d => by
      cases q : H b with
      | none => rfl
      | some u =>
        have e' : b = a := hA b (by rw [q]; simp)
        subst e'
        rw [ha] at e; cases e
        have d' : Data.seq vs.toArray _ = Data.dict es ep := d
        cases d'
    have nsK : ∀ {b : Addr} {m : Str → Option Value}, s₁.heap.Ns b m → (hidT s₁.heap H).Ns b m := fun {b m} ⟨o, es, ep, e, d, r⟩ => ⟨o, es, ep, base_of e (noA e d), d, r⟩
    have hKb : K.In (hidT s₁.heap H) := fun b o e => base_of (KX b o e) (by
      cases q : H b with
      | none => rfl
      | some u =>
        have e' : b = a := hA b (by rw [q]; simp)
        subst e'
        rw [hK (by rw [q]; simp)] at e; cases e)
    have hM : Mod K mg (hidT s₁.heap H) := ⟨hKb, nsK hns, ⟨mb, nsK hb, hbb⟩, let ⟨mc, h1, h2⟩ := hlim; ⟨mc, nsK h1, h2⟩⟩
    have e0 : Env0 P w K mg (hidT s₁.heap H) callerA [] s₁ H := ⟨rfl, hM, fun b o e => of_hidT e, Nat.le_of_eq (hidT_size _ _), trivial, fun b hb => absurd (show b ∈ ([] : List Addr) from hb) (by simp), hok, .of_eq hg⟩
    refine codeAny_mono ((F _ hKb (nsK hns)).run callerA [] s₁ H ⟨[.ref a], []⟩ [.ref a] [.ref a] _ _ hr e0 (hbind s₁ (.ref a)) (.cons rfl .nil) (hsp H hO hS)) fun r s' h => ?_
    cases r with
    | error e => exact (hCX H e s' h).elim
    | ok fl =>
      cases fl with
      | next => exact False.elim h
      | brk => exact False.elim h
      | cont => exact False.elim h
      | ret u =>
        obtain ⟨v, H', os, bare, un, hok', r', q⟩ := h
        have q' : v = .bl true := q
        subst q'
        obtain rfl : u = Value.bool true := r'
        refine ⟨rfl, OldK.of_keep fun b o e => ?_, os, bare⟩
        cases q : H b with
        | none => exact un.keep b o e q (by intro z; exact absurd (show b ∈ ([] : List Addr) from z) (by simp)) (by simp)
        | some u =>
          rcases hO b with z | ⟨ob, xs, z⟩
          · rw [q] at z; cases z
          · have z2 := un.frzs b ob _ z
            obtain ⟨e1, _⟩ := hok b _ z
            obtain ⟨e2, _⟩ := hok' b _ z2
            rw [e] at e1; cases e1
            exact e2
  cases hk : K.lookup a with
  | some o =>
    -- the script is one of the module's own objects
    have e := KX a o hk
    rw [ha] at e
    cases e
    refine core (fun _ => none) (fun _ => .inl rfl) (.inr ⟨_, vs.toArray, _, hk, rfl, rfl, rfl, by rw [List.size_toArray, lenV]; exact hl, by simpa using rv⟩) (fun b u z => by have z' : (none : Option HO) = some u := z; cases z') (fun b z => absurd rfl z) fun z => absurd rfl z
  | none =>
    refine core (fun b => if b = a then some (.frz { cls := .type "list", data := .seq vs.toArray } (.lst (ns.map V.int))) else none) (fun b => ?_) (.inl (.inr ⟨{ cls := .type "list", data := .seq vs.toArray }, if_pos rfl⟩)) (fun b u z => ?_) (fun b z => ?_) fun _ => hk
    · by_cases hb : b = a
      · exact .inr ⟨_, _, if_pos hb⟩
      · exact .inl (if_neg hb)
    · by_cases hb : b = a
      · have z' := (if_pos hb).symm.trans z
        cases z'
        subst hb
        exact ⟨ha, by rw [List.length_map]; exact hl, vs, _, rv, ha⟩
      · have z' := (if_neg hb).symm.trans z
        cases z'
    · by_cases hb : b = a
      · exact hb
      · exact absurd (if_neg hb) z
end L2

namespace L2
open PySem PySem.Spec PyProof.Rows

abbrev KOf {K : PySem.W.Frag} {h : Heap} (_ : K.In h) : PySem.W.Frag := K

/-- the goal that k_head leaves (case hc), from the law's promise. F gives the function object fd (K's own) once, then the promise over every base -/
theorem walk_of {l : PySem.W.OpenLaw} {n k : Nat} {q : Program} {loose : List Str} {XP : (Str → Option Value) → Heap → Prop} {YP : World → Heap → Prop} {d : DefRec} {K : Params → PySem.W.Frag} {CX : World → CXT} {sp : World → Sp} {x : Str}
    (hn : l.most = some n) (hn2 : n ≤ sizeLine) (hdf : d.params.defaults = []) (hr : Room k callerA)
    (hY : ∀ (w : World) (h : Heap), YP w h → (K w.params).In h)
    (F : ∀ (w : World) (mg : Str → Option Value) (fa : Addr) (h : Heap), (K w.params).In h → h.Ns mainGlobals mg → mg d.name = some (.ref fa) →
      ∃ fd : FuncData, (∀ (s : Shared) (u : Value), BindsTo s fd ⟨[u], []⟩ [(x, u)]) ∧
        ∀ base : Heap, (K w.params).In base → base.Ns mainGlobals mg → FnOk l.prog w (K w.params) mg base (CX w) k fa fd [x] (sp w))
    (hsp : ∀ (w : World) (H : Hp) (a : Addr) (ns : List Int), ns.length ≤ n → Only H → SqL (K w.params) H a (ns.map V.int) → sp w [.ref a] H (fun v _ => v = .bl true) fun _ _ _ => False)
    (hCX : ∀ (w : World) (H : Hp) (s : Shared) (e : Value) (s' : Shared), CX w [] H s (fun _ _ _ => False) e s' → False) :
    PySem.W.WalkO q loose XP YP l.row.toRowW d [] (fun f vs => PySem.call f vs) := by
  refine Att.attach_call hn hdf fun w s₀ s₁ mg mb fa o pm cd doc a vs ns G Y ho hd hcd hmg hobj hints hlen hg => ?_
  have KX := hY w _ Y
  obtain ⟨fd, hb, hF⟩ := F w mg fa _ KX G.T.g hmg
  exact law_call KX G.T.g G.T.b G.T.builtins G.T.nolimit hg hobj hints (Nat.le_trans hlen hn2) hr hF hb (fun H hO hS => hsp w H a ns hlen hO hS) fun H e s' => hCX w H s₁ e s'
/-- the same where the promise hangs on the written part alone: (sp := My.sp_law), no hole under a binder -/
theorem walk_ofK {l : PySem.W.OpenLaw} {n k : Nat} {q : Program} {loose : List Str} {XP : (Str → Option Value) → Heap → Prop} {YP : World → Heap → Prop} {d : DefRec} {K : Params → PySem.W.Frag} {CX : CXT} {sp : PySem.W.Frag → Sp} {x : Str}
    (hn : l.most = some n) (hn2 : n ≤ sizeLine) (hdf : d.params.defaults = []) (hr : Room k callerA)
    (hY : ∀ (w : World) (h : Heap), YP w h → (K w.params).In h)
    (F : ∀ (w : World) (mg : Str → Option Value) (fa : Addr) (h : Heap), (K w.params).In h → h.Ns mainGlobals mg → mg d.name = some (.ref fa) →
      ∃ fd : FuncData, (∀ (s : Shared) (u : Value), BindsTo s fd ⟨[u], []⟩ [(x, u)]) ∧
        ∀ base : Heap, (K w.params).In base → base.Ns mainGlobals mg → FnOk l.prog w (K w.params) mg base CX k fa fd [x] (sp (K w.params)))
    (hsp : ∀ (K : PySem.W.Frag) (H : Hp) (a : Addr) (ns : List Int), ns.length ≤ n → Only H → SqL K H a (ns.map V.int) → sp K [.ref a] H (fun v _ => v = .bl true) fun _ _ _ => False)
    (hCX : ∀ (H : Hp) (s : Shared) (e : Value) (s' : Shared), CX [] H s (fun _ _ _ => False) e s' → False) :
    PySem.W.WalkO q loose XP YP l.row.toRowW d [] (fun f vs => PySem.call f vs) :=
  walk_of (K := K) (CX := fun _ => CX) (sp := fun w => sp (K w.params)) hn hn2 hdf hr hY F (fun w H a ns h1 h2 h3 => hsp (K w.params) H a ns h1 h2 h3) fun _ H s e s' => hCX H s e s'
end L2

/- THE LAST THEOREM (shape; LID, My.* are yours):
   My.Adr: a structure of the addresses that your layer names (classes, functions); My.Txt K t: a structure (Prop) of the equations over K;
   My.txt_mk : {K} {implicit addresses ..} (e1 : nsIn K mainGlobals "law" = some (some (.ref f))) (e2 : K.lookup f = some ⟨oc, od, .func (fnOf "law" "law" params body scope dV kV doc pm an cdv ct), sl⟩) (e3 : codeIn K cdv "law" = true) .. : ∃ t, My.Txt K t

set_option maxRecDepth 100000 in
set_option maxHeartbeats 0 in
theorem PySem.Challenge.cw_LID_holds : PySem.Challenge.rw_LID.Holds := by
  w_on; o_law; k_head; (case hw => w_witness2)
  k_fill
  refine L2.walk_of (l := PySem.Challenge.rw_LID) (n := 63) (k := 40) (x := "script") (CX := fun w => ..) (sp := fun _ => My.sp_law) rfl (by decide) rfl ⟨rfl, by decide, by decide⟩ (fun w h Y => PySem.W.kIn_of Y) ?F ?S ?C
  case F =>
    intro w mg fa h KX G hmg
    have T : ∃ t, My.Txt (L2.KOf KX) t := by
      dsimp only [L2.KOf]                          -- K must stand as «<heap const> w.params» for k_is
      refine' My.txt_mk ?e1 ?e2 ?e3 ..
      (case e1 => PySem.W.k_is)                    -- in the order: a name -> its address -> its object -> its parts
      (case e2 => PySem.W.k_is)
      ..
    obtain ⟨t, T⟩ := T
    have e0 := hmg.symm.trans (PySem.W.mg_of KX G T.law)
    cases e0                                       -- fa is the law's own address
    exact ⟨_, fun s u => .of_eq rfl, fun base kb nb => My.law_fn T kb nb⟩     -- if «.of_eq rfl» comes too early: refine' ⟨_, ?b, fun base kb nb => My.law_fn T kb nb⟩; exact fun s u => .of_eq rfl
  case S => exact fun w H a ns hl hO hS => ..
  case C => exact ..
(the tactic k_is has no namespace: write k_is) -/

/-! SHORT WORDS over the layer: a def of the text, its body, what a loop and a test want. -/
namespace L2
open PySem PySem.Spec PyProof.Rows

/-! ### the text by places -/
/-- the j-th statement of a class's body -/
def inClass (s : Stmt) (j : Nat) : Stmt := match s with
  | .ClassDef _ _ _ body _ _ _ _ _ _ _ => body.getD j (.Pass ⟨0, 0, 0, 0⟩)
  | _ => .Pass ⟨0, 0, 0, 0⟩
def defArgs (s : Stmt) : Arguments := match s with
  | .FunctionDef _ a _ _ _ _ _ _ _ _ => a
  | _ => { posonlyargs := [], args := [], vararg := none, kwonlyargs := [], kw_defaults := [], kwarg := none, defaults := [] }
def defBody (s : Stmt) : List Stmt := match s with
  | .FunctionDef _ _ b _ _ _ _ _ _ _ => b
  | _ => []
def defScope (s : Stmt) : Scope := match s with
  | .FunctionDef _ _ _ _ _ _ sc _ _ _ => sc
  | _ => { kind := .function, names := [], isGenerator := false, isCoroutine := false }

/-! ### no exception leaves a def -/
abbrev CX0 : CXT := fun _ _ _ _ _ _ => False
abbrev E0 : XK := fun _ _ _ => False
theorem pass0 {X : Cx} : Passes CX0 X E0 := fun _ _ _ _ _ _ _ h => h.elim

/-! ### a def (or method) of the text as it stands behind the top -/
structure Fun (K : PySem.W.Frag) (x qual : Str) (st : Stmt) (f : Addr) (fd : FuncData) : Prop where
  ex : ∃ (oc : Value) (od : Option Addr) (kV doc pm : Value) (an : Option Addr) (cdv ct : Value) (osl : Array (Option Value)),
    fd = PySem.W.fnOf x qual (defArgs st) (defBody st) (defScope st) .none kV doc pm an cdv ct ∧ K.lookup f = some ⟨oc, od, .func fd, osl⟩ ∧ PySem.W.codeIn K cdv qual = true
  kp : PySem.W.keepIn K (.ref f) = true
section
variable {P : Program} {w : World} {K : PySem.W.Frag} {mg : Str → Option Value} {base : Heap}
/-- THE RULE for a def: its body as a term of rules, and the reading of that term -/
theorem Fun.ok {x qual : Str} {st : Stmt} {f : Addr} {fd : FuncData} {N ps : List Str} {k : Nat} {sp : Sp} (F : Fun K x qual st f fd) (S : FnScope N ps (defScope st)) (len : ∀ vs H Q E, sp vs H Q E → vs.length = ps.length)
    (hbody : ∀ (cdv : Value) (A : Around) (outer : List Env) (s : Shared) (H : Hp) (vs : List V) (Q : VK) (E : XK), Room k (A.deeper (envOfC qual (defScope st) s.heap.objs.size f cdv)) → sp vs H Q E →
      ∃ t, PSs (cxOf CX0 P w K mg base N qual (defScope st) f cdv A outer s H E).nox (defBody st) t ∧ t { nx := fun _ H' => Q .non H', rt := Q } (start N vs) H) : FnOk P w K mg base CX0 (k + 1) f fd ps sp := by
  obtain ⟨oc, od, kV, doc, pm, an, cdv, ct, osl, rfl, lk, hcd⟩ := F.ex
  refine fn_of lk hcd S len fun A outer s H vs Q E hr hsp => ?_
  obtain ⟨t, h, q⟩ := hbody cdv A outer s H vs Q E hr hsp
  exact ⟨t, h.nox, q⟩
/-- how its arguments bind (no defaults): h is «fun _ _ _ _ _ _ us hl => match us, hl with | [_, _], _ => rfl», one _ a parameter -/
theorem Fun.binds {x qual : Str} {st : Stmt} {f : Addr} {fd : FuncData} {ps : List Str} (F : Fun K x qual st f fd)
    (h : ∀ (kV doc pm : Value) (an : Option Addr) (cdv ct : Value) (us : List Value), us.length = ps.length → bindArgs (PySem.W.fnOf x qual (defArgs st) (defBody st) (defScope st) .none kV doc pm an cdv ct) ⟨us, []⟩ = pure (ps.zip us)) : Binds K fd ps [] := by
  obtain ⟨oc, od, kV, doc, pm, an, cdv, ct, osl, rfl, lk, hcd⟩ := F.ex
  exact .all (h kV doc pm an cdv ct)
theorem fun_mk {x qual : Str} {st : Stmt} {f : Addr} {oc : Value} {od an : Option Addr} {osl : Array (Option Value)} {kV doc pm cdv ct : Value} (l : K.lookup f = some ⟨oc, od, .func (PySem.W.fnOf x qual (defArgs st) (defBody st) (defScope st) .none kV doc pm an cdv ct), osl⟩)
    (c : PySem.W.codeIn K cdv qual = true) (k : PySem.W.keepIn K (.ref f) = true) : Fun K x qual st f (PySem.W.fnOf x qual (defArgs st) (defBody st) (defScope st) .none kV doc pm an cdv ct) := ⟨⟨oc, od, kV, doc, pm, an, cdv, ct, osl, rfl, l, c⟩, k⟩
end
theorem hu_of {A : Around} {k : Nat} (hr : Room k A) : A.units + 1 < cLine := Nat.lt_of_le_of_lt (Nat.add_le_add_left (by decide : 1 ≤ 64) _) hr.units
theorem small1000 {n : Nat} (h : n ≤ 1000) : n < sizeLine := Nat.lt_of_le_of_lt h (by decide)

/-! ### expressions in short: the name that stands in the i-th slot -/
section
variable {X : Cx}
theorem pv (i : Nat) {x : Str} {pos : Pos} (hN : X.N[i]? = some x := by rfl) (hv : Vis X.env.scope x := by first | exact Or.inl rfl | exact Or.inr (Or.inl rfl) | exact Or.inr (Or.inr rfl)) (hd : (x == ("__debug__" : Str)) = false := by decide)
    (hcd : (x == ("__classdict__" : Str)) = false := by decide) : PE X (.Name x pos) (tVar i) := pe_var hN hv hd hcd
end

/-! ### tests -/
theorem iteF {A B : Prop} (h : B) : if false = true then A else B := by
  rw [if_neg Bool.false_ne_true]
  exact h
theorem iteT {A B : Prop} (h : A) : if true = true then A else B := by
  rw [if_pos rfl]
  exact h
theorem ite2 {c A B : Prop} [Decidable c] (h1 : c → A) (h2 : ¬ c → B) : if c then A else B := by
  by_cases h : c
  · rw [if_pos h]
    exact h1 h
  · rw [if_neg h]
    exact h2 h
theorem iteNS {c A B : Prop} [Decidable c] (hc : c) (h : B) : if (!decide c) = true then A else B := by
  rw [decide_eq_true hc]
  exact iteF h

/-! ### heaps -/
/-- all that was tracked is as it was -/
def Same (H H' : Hp) : Prop := ∀ b o, H b = some o → H' b = some o
theorem Same.refl (H : Hp) : Same H H := fun _ _ h => h
theorem Same.trans {H H1 H2 : Hp} (a : Same H H1) (b : Same H1 H2) : Same H H2 := fun c o h => b c o (a c o h)
theorem Same.free {H H' : Hp} (e : Same H H') {l : Addr} (h : H' l = Option.none) : H l = Option.none := by
  cases q : H l with
  | none => rfl
  | some o =>
    rw [e l o q] at h
    cases h
theorem Same.seq {K : PySem.W.Frag} {H H' : Hp} {a : Addr} {xs : List V} (e : Same H H') (h : SqL K H a xs) : SqL K H' a xs := by
  rcases h with (h | ⟨o, h⟩) | h
  · exact .inl (.inl (e _ _ h))
  · exact .inl (.inr ⟨o, e _ _ h⟩)
  · exact .inr h

section
variable {X : Cx}
/-- len of a dict -/
theorem call_lenD : CallR X (.builtin "len") (fun xs H Q => ∃ a kvs, xs = [V.ref a] ∧ H a = some (.dK kvs) ∧ Q (.int kvs.length) H) := by
  intro pins s σ H xs us Q I r h
  obtain ⟨a, kvs, rfl, ha, q⟩ := h
  obtain ⟨u, rfl, ru⟩ := vals1 r
  cases ru
  exact d_len I (.inl ha) fun t s' I' => ⟨.int kvs.length, H, I', ⟨t, rfl⟩, q⟩
end
/-! ### a dict's pairs: keys that differ -/
section
variable {κ : Type} [DecidableEq κ]
theorem valV_not {kvs : List (κ × V)} {k : κ} (h : valV kvs k = none) : ¬ k ∈ kvs.map (·.1) := by
  intro m
  obtain ⟨p, hp, e⟩ := List.mem_map.mp m
  have q : (kvs.any fun kv => decide (kv.1 = k)) = true := List.any_eq_true.mpr ⟨p, hp, decide_eq_true e⟩
  rw [valV_any, h] at q
  exact absurd q (by simp)
theorem valV_in {kvs : List (κ × V)} {k : κ} {v : V} (h : valV kvs k = some v) : k ∈ kvs.map (·.1) := by
  have q : (kvs.any fun kv => decide (kv.1 = k)) = true := by
    rw [valV_any, h]
    all_goals rfl
  obtain ⟨p, hp, e⟩ := List.any_eq_true.mp q
  exact List.mem_map.mpr ⟨p, hp, of_decide_eq_true e⟩
theorem nd_snoc : ∀ {l : List κ} {k : κ}, l.Nodup → ¬ k ∈ l → (l ++ [k]).Nodup
  | [], k, _, _ => by simp
  | a :: r, k, h, hk => by
    obtain ⟨h1, h2⟩ := List.nodup_cons.mp h
    show (a :: (r ++ [k])).Nodup
    refine List.nodup_cons.mpr ⟨fun m => ?_, nd_snoc h2 fun m => hk (List.mem_cons.mpr (Or.inr m))⟩
    rcases List.mem_append.mp m with q | q
    · exact h1 q
    · exact hk (List.mem_cons.mpr (Or.inl (List.mem_singleton.mp q).symm))
theorem nd_putK {kvs : List (κ × V)} {k : κ} (v : V) (hn : (kvs.map (·.1)).Nodup) (h : valV kvs k = none) : ((putK kvs k v).map (·.1)).Nodup := by
  rw [putK_new v h, List.map_append]
  exact nd_snoc hn (valV_not h)
theorem dropK_pos {p : κ × V} {r : List (κ × V)} {k : κ} (e : p.1 = k) : dropK (p :: r) k = dropK r k := by
  unfold dropK
  rw [List.filter_cons, if_neg (by simp [e])]
theorem dropK_neg {p : κ × V} {r : List (κ × V)} {k : κ} (e : ¬ p.1 = k) : dropK (p :: r) k = p :: dropK r k := by
  unfold dropK
  rw [List.filter_cons, if_pos (by simp [e])]
theorem dropK_no : ∀ {kvs : List (κ × V)} {k : κ}, ¬ k ∈ kvs.map (·.1) → dropK kvs k = kvs
  | [], _, _ => rfl
  | p :: r, k, h => by
    have h' : ¬ k ∈ r.map (·.1) := fun m => by
      obtain ⟨q, hq, e⟩ := List.mem_map.mp m
      exact h (List.mem_map.mpr ⟨q, List.mem_cons.mpr (Or.inr hq), e⟩)
    rw [dropK_neg fun e => h (List.mem_map.mpr ⟨p, List.mem_cons.mpr (Or.inl rfl), e⟩), dropK_no h']
theorem dropK_mem {kvs : List (κ × V)} {k : κ} {p : κ × V} (h : p ∈ dropK kvs k) : p ∈ kvs := (List.mem_filter.mp h).1
theorem nd_dropK : ∀ {kvs : List (κ × V)} {k : κ}, (kvs.map (·.1)).Nodup → ((dropK kvs k).map (·.1)).Nodup
  | [], _, _ => List.nodup_nil
  | p :: r, k, h => by
    have h : (p.1 :: r.map (·.1)).Nodup := h
    obtain ⟨h1, h2⟩ := List.nodup_cons.mp h
    by_cases e : p.1 = k
    · rw [dropK_pos e]
      exact nd_dropK h2
    · rw [dropK_neg e]
      show (p.1 :: (dropK r k).map (·.1)).Nodup
      refine List.nodup_cons.mpr ⟨fun m => h1 ?_, nd_dropK h2⟩
      obtain ⟨q, hq, eq⟩ := List.mem_map.mp m
      exact List.mem_map.mpr ⟨q, dropK_mem hq, eq⟩
theorem dropK_len : ∀ {kvs : List (κ × V)} {k : κ}, (kvs.map (·.1)).Nodup → k ∈ kvs.map (·.1) → (dropK kvs k).length + 1 = kvs.length
  | [], _, _, m => by simp at m
  | p :: r, k, h, m => by
    have h : (p.1 :: r.map (·.1)).Nodup := h
    have m : k = p.1 ∨ k ∈ r.map (·.1) := List.mem_cons.mp m
    obtain ⟨h1, h2⟩ := List.nodup_cons.mp h
    by_cases e : p.1 = k
    · subst e
      rw [dropK_pos rfl, dropK_no h1]
      all_goals rfl
    · have m' : k ∈ r.map (·.1) := m.resolve_left fun z => e z.symm
      have q := dropK_len h2 m'
      rw [dropK_neg e, List.length_cons, List.length_cons]
      omega
end
end L2
set_option maxRecDepth 100000
set_option maxHeartbeats 4000000
/-! Comprehensions over the layer. -/
namespace L2
open PySem PySem.Spec PyProof.Rows

/-! ### the cells that a block takes from around -/
def closL (cells : List (Str × Addr)) : List (Str × NameKind) → List (Str × Addr) → List (Str × Addr)
  | [], acc => acc
  | (n, k) :: r, acc => if k == NameKind.free then (match cells.lookup n with
    | some c => closL cells r ((n, c) :: acc)
    | none => closL cells r acc) else closL cells r acc

theorem closL_sound (cells : List (Str × Addr)) : ∀ (ns : List (Str × NameKind)) (acc : List (Str × Addr)), (∀ x c, acc.lookup x = some c → cells.lookup x = some c) →
    ∀ x c, (closL cells ns acc).lookup x = some c → cells.lookup x = some c
  | [], acc, h, x, c, e => h x c e
  | (n, k) :: r, acc, h, x, c, e => by
    unfold closL at e
    by_cases hk : (k == NameKind.free) = true
    · rw [if_pos hk] at e
      cases hc : cells.lookup n with
      | none =>
        rw [hc] at e
        exact closL_sound cells r acc h x c e
      | some d =>
        rw [hc] at e
        refine closL_sound cells r _ (fun y z q => ?_) x c e
        rw [List.lookup_cons] at q
        by_cases hy : (y == n) = true
        · rw [hy] at q
          have : d = z := Option.some.inj q
          subst this
          rw [eq_of_beq hy]
          exact hc
        · have hy' : (y == n) = false := by simpa using hy
          rw [hy'] at q
          exact h y z q
    · rw [if_neg hk] at e
      exact closL_sound cells r acc h x c e

theorem closL_keep (cells : List (Str × Addr)) : ∀ (ns : List (Str × NameKind)) (acc : List (Str × Addr)) (x : Str), (acc.lookup x).isSome = true → ((closL cells ns acc).lookup x).isSome = true
  | [], _, _, h => h
  | (n, k) :: r, acc, x, h => by
    unfold closL
    by_cases hk : (k == NameKind.free) = true
    · rw [if_pos hk]
      cases hc : cells.lookup n with
      | none => exact closL_keep cells r acc x h
      | some d =>
        refine closL_keep cells r _ x ?_
        rw [List.lookup_cons]
        by_cases hy : (x == n) = true
        · rw [hy]; rfl
        · have hy' : (x == n) = false := by simpa using hy
          rw [hy']; exact h
    · rw [if_neg hk]
      exact closL_keep cells r acc x h

theorem closL_has (cells : List (Str × Addr)) : ∀ (ns : List (Str × NameKind)) (acc : List (Str × Addr)) (x : Str) (c : Addr), (x, NameKind.free) ∈ ns → cells.lookup x = some c → (closL cells ns acc).lookup x ≠ none
  | [], _, _, _, h, _ => absurd h (by simp)
  | (n, k) :: r, acc, x, c, h, hc => by
    rcases List.mem_cons.mp h with e | h
    · have e1 : x = n := congrArg Prod.fst e
      have e2 : NameKind.free = k := congrArg Prod.snd e
      subst e1; subst e2
      unfold closL
      rw [if_pos (by decide), hc]
      have q := closL_keep cells r ((x, c) :: acc) x (by rw [List.lookup_cons]; simp)
      intro z
      rw [z] at q
      cases q
    · unfold closL
      by_cases hk : (k == NameKind.free) = true
      · rw [if_pos hk]
        cases cells.lookup n with
        | none => exact closL_has cells r acc x c h hc
        | some d => exact closL_has cells r _ x c h hc
      · rw [if_neg hk]
        exact closL_has cells r acc x c h hc

theorem closL_fun (env : Env) : ∀ (ns : List (Str × NameKind)) (acc : List (Str × Addr)), (∀ n, (n, NameKind.free) ∈ ns → ∃ c, env.cells.lookup n = some c) →
    (forIn ns acc fun (x : Str × NameKind) (cs : List (Str × Addr)) =>
      (match x with
      | (name, kind) => if (kind == NameKind.free) = true then do let a ← cellOf env name; pure (ForInStep.yield ((name, a) :: cs)) else pure (ForInStep.yield cs) : Sem (ForInStep (List (Str × Addr))))) = pure (closL env.cells ns acc)
  | [], acc, _ => by rw [List.forIn_nil]; rfl
  | (n, k) :: r, acc, h => by
    rw [List.forIn_cons]
    unfold closL
    by_cases hk : (k == NameKind.free) = true
    · obtain ⟨c, hc⟩ := h n (by rw [eq_of_beq hk]; exact List.mem_cons_self)
      have e : cellOf env n = pure c := by unfold cellOf; rw [hc]
      simp only [hk, if_true, hc, e, pure_bind]
      exact closL_fun env r _ fun m hm => h m (List.mem_cons_of_mem _ hm)
    · simp only [hk, if_false, pure_bind]
      exact closL_fun env r _ fun m hm => h m (List.mem_cons_of_mem _ hm)

theorem closureFor_eq {scope : Scope} {env : Env} (h : ∀ n, (n, NameKind.free) ∈ scope.names → ∃ c, env.cells.lookup n = some c) : closureFor scope env = pure (closL env.cells scope.names []) := by
  have e := closL_fun env scope.names [] h
  unfold closureFor
  first
    | (simp only [e, pure_bind]; done)
    | (rw [show (forIn scope.names ([] : List (Str × Addr)) _ : Sem _) = _ from e]; rfl)

/-! ### the names of a block -/
theorem relabel_kind (env : Env) : ∀ {names : List (Str × NameKind)} {x : Str} {k : NameKind},
    (names.map fun (n, k) => if (k == NameKind.free && env.scope.kind == .function && env.kindOf n == some .cell) then (n, NameKind.cell) else (n, k)).lookup x = some k →
    ∃ k', names.lookup x = some k' ∧ (k = k' ∨ (k = .cell ∧ k' = .free))
  | [], _, _, h => by simp at h
  | (n, j) :: r, x, k, h => by
    by_cases hc : (j == NameKind.free && env.scope.kind == .function && env.kindOf n == some .cell) = true
    · rw [List.map_cons] at h
      simp only [hc, if_true] at h
      rw [List.lookup_cons] at h ⊢
      by_cases hx : (x == n) = true
      · rw [hx] at h ⊢
        have e1 : k = NameKind.cell := (Option.some.inj h).symm
        have e2 : j = NameKind.free := by
          have := hc
          simp only [Bool.and_eq_true] at this
          exact eq_of_beq this.1.1
        exact ⟨j, rfl, .inr ⟨e1, e2⟩⟩
      · have hx' : (x == n) = false := by simpa using hx
        rw [hx'] at h ⊢
        exact relabel_kind env h
    · rw [List.map_cons] at h
      simp only [hc, Bool.false_eq_true, if_false] at h
      rw [List.lookup_cons] at h ⊢
      by_cases hx : (x == n) = true
      · rw [hx] at h ⊢
        exact ⟨j, rfl, .inl (Option.some.inj h).symm⟩
      · have hx' : (x == n) = false := by simpa using hx
        rw [hx'] at h ⊢
        exact relabel_kind env h

theorem relabel_free (env : Env) : ∀ {names : List (Str × NameKind)} {x : Str}, names.lookup x = some .free →
    (names.map fun (n, k) => if (k == NameKind.free && env.scope.kind == .function && env.kindOf n == some .cell) then (n, NameKind.cell) else (n, k)).lookup x = some .cell ∨
    (names.map fun (n, k) => if (k == NameKind.free && env.scope.kind == .function && env.kindOf n == some .cell) then (n, NameKind.cell) else (n, k)).lookup x = some .free
  | [], _, h => by simp at h
  | (n, j) :: r, x, h => by
    rw [List.lookup_cons] at h
    by_cases hx : (x == n) = true
    · rw [hx] at h
      have e : j = NameKind.free := Option.some.inj h
      subst e
      by_cases hc : (NameKind.free == NameKind.free && env.scope.kind == .function && env.kindOf n == some .cell) = true
      · left
        rw [List.map_cons]
        simp only [hc, if_true]
        rw [List.lookup_cons, hx]
      · right
        rw [List.map_cons]
        simp only [hc, Bool.false_eq_true, if_false]
        rw [List.lookup_cons, hx]
    · have hx' : (x == n) = false := by simpa using hx
      rw [hx'] at h
      rw [List.map_cons]
      by_cases hc : (j == NameKind.free && env.scope.kind == .function && env.kindOf n == some .cell) = true
      · simp only [hc, if_true]
        rw [List.lookup_cons, hx']
        exact relabel_free env h
      · simp only [hc, Bool.false_eq_true, if_false]
        rw [List.lookup_cons, hx']
        exact relabel_free env h

theorem mem_of_look {α : Type} : ∀ {l : List (Str × α)} {x : Str} {k : α}, l.lookup x = some k → (x, k) ∈ l
  | [], _, _, h => by simp at h
  | (n, j) :: r, x, k, h => by
    rw [List.lookup_cons] at h
    by_cases hx : (x == n) = true
    · rw [hx] at h
      have e : j = k := Option.some.inj h
      rw [eq_of_beq hx, e]
      exact List.mem_cons_self
    · have hx' : (x == n) = false := by simpa using hx
      rw [hx'] at h
      exact List.mem_cons_of_mem _ (mem_of_look h)

/-! ### the block's context -/
/-- the slots of a block: its own k names (none yet), then those that it takes from around -/
def inner (k : Nat) (caps : List Nat) (σ : St) : St := List.replicate k none ++ caps.map fun j => (σ[j]?).join

abbrev pushD (s : Shared) : Shared := { s with heap := s.heap.push { cls := .type "list", dict := none, data := .seq ([] : List Value).toArray } }

def cxComp (X : Cx) (N : List Str) (scope : Scope) (pins : List (Addr × Obj)) (fp : List Addr) (s : Shared) (H : Hp) : Cx where
  prog := X.prog
  w := X.w
  K := X.K
  mg := X.mg
  base := X.base
  A := X.A
  N := N
  s₀ := pushD s
  H₀ := upd H s.heap.objs.size (.lst [])
  env := compEnvC scope (closL X.env.cells scope.names []) (s.heap.objs.size + 1) X.env
  outer := X.stack
  stack := X.stack
  ex := fp
  fn := fun _ => false
  calm := X.calm
  pn := X.pn ++ pins
  xe := fun _ _ => False

/-- what is asked of a block's text: k own names, then the captured ones with their slots around -/
structure Block (X : Cx) (N : List Str) (scope : Scope) (k : Nat) (caps : List Nat) : Prop where
  kind : scope.kind = .function
  nocell : ∀ y ∈ scope.names, y.2 ≠ .cell
  frees : ∀ y ∈ scope.names, y.2 = .free → X.env.scope.names.lookup y.1 = some .cell ∨ X.env.scope.names.lookup y.1 = some .free
  locals : ∀ y ∈ scope.names, y.2 = .local → scope.names.lookup y.1 = some .local
  len : N.length = k + caps.length
  cap : ∀ i j, caps[i]? = some j → ∃ x, N[k + i]? = some x ∧ X.N[j]? = some x ∧ scope.names.lookup x = some .free

section
variable {X : Cx} {N : List Str} {scope : Scope} {k : Nat} {caps : List Nat} {pins : List (Addr × Obj)} {fp : List Addr} {σ : St} {H : Hp} {s : Shared} {h₁ : Heap} {tk : Nat}

theorem comp_start (B : Block X N scope k caps) (I : Inv X pins σ H s) (hf : ∀ b ∈ fp, FpOk X pins H b) (ho : ∀ b ∈ fp, ∃ o, s.heap.get? b = some o)
    (hn : h₁.Ns (s.heap.objs.size + 1) (fun _ => none)) (hk : ∀ b o, (pushD s).heap.get? b = some o → h₁.get? b = some o) :
    Inv (cxComp X N scope pins fp s H) [] (inner k caps σ) (upd H s.heap.objs.size (.lst [])) { s with heap := h₁, toks := tk } := by
  have szD : (pushD s).heap.objs.size = s.heap.objs.size + 1 := Heap.size_push ..
  have upD : ∀ b o, s.heap.get? b = some o → (pushD s).heap.get? b = some o := fun b o e => Heap.get?_push_of_some _ e
  have up : ∀ b o, s.heap.get? b = some o → h₁.get? b = some o := fun b o e => hk b o (upD b o e)
  have lt : ∀ {b o}, s.heap.get? b = some o → b ≠ s.heap.objs.size := fun e => Nat.ne_of_lt (Heap.lt_size e)
  have ltC : ∀ {b o}, s.heap.get? b = some o → b ≠ s.heap.objs.size + 1 := fun e => Nat.ne_of_lt (Nat.lt_succ_of_lt (Heap.lt_size e))
  have snd : ∀ x c, (closL X.env.cells scope.names []).lookup x = some c → X.env.cells.lookup x = some c := closL_sound _ _ _ fun x c e => by simp at e
  have isfree : ∀ x, (relabel scope X.env).names.lookup x = some .cell ∨ (relabel scope X.env).names.lookup x = some .free → scope.names.lookup x = some .free := fun x h => by
    rcases h with h | h
    · obtain ⟨k', e, z⟩ := relabel_kind X.env h
      rcases z with z | ⟨_, z⟩
      · rw [← z] at e; exact absurd rfl (B.nocell _ (mem_of_look e))
      · rw [z] at e; exact e
    · obtain ⟨k', e, z⟩ := relabel_kind X.env h
      rcases z with z | ⟨z, _⟩
      · rw [← z] at e; exact e
      · cases z
  have hasC : ∀ x, scope.names.lookup x = some .free → ∃ c, X.env.cells.lookup x = some c := fun x h => I.ok.has x (B.frees _ (mem_of_look h) rfl)
  have hasL : ∀ x c, scope.names.lookup x = some .free → X.env.cells.lookup x = some c → (closL X.env.cells scope.names []).lookup x = some c := fun x c h hc => by
    cases e : (closL X.env.cells scope.names []).lookup x with
    | none => exact absurd e (closL_has _ _ _ x c (mem_of_look h) hc)
    | some d => rw [← hc, snd x d e]
  have stk : ∀ b ∈ frs X.stack, H b = none ∧ b ≠ s.heap.objs.size := fun b hb => ⟨I.stkFree b hb, by
    obtain ⟨_, o, e, _⟩ := I.stack.mem hb
    exact lt e⟩
  refine ⟨⟨I.ok.mod, B.kind, I.ok.glob, I.ok.blt, Nat.le_of_eq szD, fun x y c h1 h2 => I.ok.inj x y c (snd x c h1) (snd y c h2), fun x h => ?_, fun x c h => absurd h (by simp [cxComp]), I.ok.hd, I.ok.frames, .inl rfl, fun b hb => ?_, fun b o e => ?_, ?_, fun b o e hb => ?_, fun b hb hs => ?_, ?_, fun b hb => ?_⟩,
    rfl, I.bare, Un.kept hk, ⟨_, hn, fun i x v h1 h2 h3 => ?_⟩, fun x c h => ?_, ?_, fun x c h => ?_, fun p hp => ?_, ?_, ?_⟩
  · -- has
    have hfx := isfree x h
    obtain ⟨c, hc⟩ := hasC x hfx
    exact ⟨c, hasL x c hfx hc⟩
  · -- exf
    obtain ⟨o, e⟩ := ho b hb
    exact ⟨ltC e, fun x c h => (hf b hb).2.2.2.2.1 x c (snd x c h)⟩
  · -- bs
    obtain ⟨e1, e2⟩ := I.bs b o e
    refine ⟨upD b o e1, ?_⟩
    show upd H _ _ b = none
    rw [upd_ne (lt e1)]; exact e2
  · -- bsz
    show X.base.objs.size ≤ (pushD s).heap.objs.size
    have := I.sz
    have := I.ok.bsz
    omega
  · -- noex
    rcases (hf b hb).2.2.2.1 with z | z
    · exact I.ok.noex b o e z
    · exact absurd (Nat.lt_of_lt_of_le (Heap.lt_size e) (Nat.le_trans I.ok.bsz z)) (Nat.lt_irrefl _)
  · -- exfs
    rcases List.mem_cons.mp (I.stkSub b hs) with z | z
    · exact (hf b hb).2.1 z
    · exact (hf b hb).2.2.1 z
  · -- funs
    exact I.stack.of_keeps fun b o e _ => ⟨o, upD b o e, rfl⟩
  · -- frf
    show upd H _ _ b = none
    rw [upd_ne (stk b hb).2]; exact (stk b hb).1
  · -- loc
    have hlt : ¬ i < k := fun hlt => by
      unfold inner at h2
      rw [List.getElem?_append_left (by simpa using hlt), List.getElem?_replicate, if_pos hlt] at h2
      cases h2
    obtain ⟨j, rfl⟩ : ∃ j, i = k + j := ⟨i - k, by omega⟩
    unfold inner at h2
    rw [List.getElem?_append_right (by simp), List.length_replicate, Nat.add_sub_cancel_left, List.getElem?_map] at h2
    cases hj : caps[j]? with
    | none => rw [hj] at h2; cases h2
    | some q =>
      rw [hj] at h2
      obtain ⟨y, hy1, hy2, hy3⟩ := B.cap j q hj
      have exy : y = x := Option.some.inj (hy1.symm.trans h1)
      subst exy
      have hv : σ[q]? = some (some v) := by
        have h2' : (σ[q]?).join = some v := Option.some.inj h2
        cases hq : σ[q]? with
        | none => rw [hq] at h2'; cases h2'
        | some w' => rw [hq] at h2'; rw [show w' = some v from h2']
      obtain ⟨m, hnm, hl⟩ := I.loc
      have fr := B.frees _ (mem_of_look hy3) rfl
      obtain ⟨u, ru, lk⟩ := hl q y v hy2 hv (.inr fr)
      refine ⟨u, ru, .inr ⟨relabel_free X.env hy3, ?_⟩⟩
      rcases lk with ⟨z, _⟩ | ⟨_, c, hc, ic⟩
      · exfalso
        have z' : X.env.scope.names.lookup y = some .local := z
        rcases fr with fr | fr
        · rw [z'] at fr; cases fr
        · rw [z'] at fr; cases fr
      · exact ⟨c, hasL y c hy3 hc, ic.keeps up⟩
  · -- cell
    obtain ⟨v, ic⟩ := I.cell x c (snd x c h)
    exact ⟨v, ic.keeps up⟩
  · -- free
    show upd H _ _ (s.heap.objs.size + 1) = none
    rw [upd_ne (Nat.succ_ne_self _)]
    exact I.hok.fresh (Nat.le_succ _)
  · -- freeC
    obtain ⟨v, o, e, _⟩ := I.cell x c (snd x c h)
    show upd H _ _ c = none
    rw [upd_ne (lt e)]
    exact I.freeC x c (snd x c h)
  · -- pin
    have hp' : p ∈ X.pn ++ pins := by
      have hp2 : p ∈ (X.pn ++ pins) ++ [] := hp
      rw [List.append_nil] at hp2
      exact hp2
    obtain ⟨e, n, ne, nf, d⟩ := I.pin p hp'
    refine ⟨up _ _ e, ?_, ltC e, fun z => ?_, d⟩
    · show upd H _ _ p.1 = none
      rw [upd_ne (lt e)]; exact n
    · rcases List.mem_cons.mp (I.stkSub p.1 z) with z | z
      · exact ne z
      · exact nf z
  · -- hok
    refine I.hok.laid up (Nat.le_refl _) ?_
    exact ⟨Nat.zero_le _, [], 0, .nil, hk _ _ (Heap.get?_push_size _ rfl)⟩
  · -- len
    unfold inner
    rw [List.length_append, List.length_replicate, List.length_map]
    exact B.len.symm

/-- behind the block: what stands around is as it was, but the iterator's records -/
theorem comp_end {σ' : St} {H' : Hp} {s' : Shared} {h' : Heap} {pins' : List (Addr × Obj)} (I : Inv X pins σ H s) (hf : ∀ b ∈ fp, FpOk X pins H b) (J : Inv (cxComp X N scope pins fp s H) pins' σ' H' s')
    (hs : Heap.SameBut (s.heap.objs.size + 1) s'.heap h') : Inv X pins σ H' { s' with heap := h' } := by
  have freeD : H s.heap.objs.size = none := I.hok.fresh (Nat.le_refl _)
  have lt : ∀ {b o}, s.heap.get? b = some o → b ≠ s.heap.objs.size := fun e => Nat.ne_of_lt (Heap.lt_size e)
  have ltC : ∀ {b o}, s.heap.get? b = some o → b ≠ s.heap.objs.size + 1 := fun e => Nat.ne_of_lt (Nat.lt_succ_of_lt (Heap.lt_size e))
  have upD : ∀ b o, s.heap.get? b = some o → (pushD s).heap.get? b = some o := fun b o e => Heap.get?_push_of_some _ e
  have U : Un (frs X.stack) fp (upd H s.heap.objs.size (.lst [])) H' (pushD s).heap s'.heap := J.base
  have freeC : H' (s.heap.objs.size + 1) = none := J.free
  refine I.call' (s' := { s' with heap := h' }) (ch := fp) J.os ⟨fun b o e n hb hx => ?_, fun b o e n hb hx => ?_, fun b o e n hx => ?_, fun b o e hx => ?_, fun b xs e => ?_, fun b o u e => ?_, fun b ps e => ?_⟩ (fun b o e => ?_) J.bare fun b hb => ?_
  · show h'.get? b = some o
    rw [hs.2 b (ltC e)]
    exact U.keep b o (upD b o e) (by rw [upd_ne (lt e)]; exact n) hb hx
  · obtain ⟨sl, q⟩ := U.slot b o (upD b o e) (by rw [upd_ne (lt e)]; exact n) hb hx
    exact ⟨sl, by show h'.get? b = _; rw [hs.2 b (ltC e)]; exact q⟩
  · exact U.free b o (upD b o e) (by rw [upd_ne (lt e)]; exact n) hx
  · obtain ⟨o', q⟩ := U.there b o (upD b o e) hx
    exact ⟨o', by show h'.get? b = _; rw [hs.2 b (ltC e)]; exact q⟩
  · exact U.tups b xs (by rw [upd_ne (ne_of_none e freeD)]; exact e)
  · exact U.frzs b o u (by rw [upd_ne (ne_of_none e freeD)]; exact e)
  · exact U.tbls b ps (by rw [upd_ne (ne_of_none e freeD)]; exact e)
  · refine (J.hok b o e).stay (fun c v hc q => ?_) (fun _ q => q) fun _ _ q => q
    have hne : c ≠ s.heap.objs.size + 1 := by
      rcases hc with z | z
      · rw [z]; intro w'; rw [w', freeC] at e; cases e
      · intro w'; rw [w', freeC] at z; cases z
    show h'.get? c = some v
    rw [hs.2 c hne]; exact q
  · obtain ⟨f0, f1, f2, f3, f4, f5⟩ := hf b hb
    exact ⟨f3, f1, f4, f5⟩
end

/-! ### the loop of a list comprehension, whatever it walks -/
section
variable {prog : Program} {w : World} {A : Around} {R : Result → Shared → Prop} {s : Shared}
theorem comp_turns {elt target iter : Expr} {ifs : List Expr} {scope : Scope} {pos : Pos} {it acc : Value} {env : Env} (J : Nat → Shared → Prop) (n : Nat) (h0 : J n s)
    (turn : ∀ n s, J n s → wpAny (model prog w) A (pyNext it) (fun r s1 => match r with
      | none => R (.ok .next) s1
      | some v => wpAny (model prog w) A (letOwnedTupleGo target it v) (fun _ s2 => wpAny (model prog w) A (assign target env v) (fun _ s3 =>
          wpAny (model prog w) A (forIn ifs true fun c r => if r = true then do let ok ← isTrue c env (eval c env); pure (ForInStep.yield ok) else pure (ForInStep.yield r)) (fun ok s4 =>
            if ok = true then wpAny (model prog w) A (eval elt env) (fun x s5 =>
              wpAny (model prog w) A (call (.builtin "list.append") [acc, x]) (fun _ s6 => ∃ m, m < n ∧ J m s6) (fun _ _ => False) s5) (fun _ _ => False) s4
            else ∃ m, m < n ∧ J m s4) (fun _ _ => False) s3) (fun _ _ => False) s2) (fun _ _ => False) s1) (fun _ _ => False) s) :
    codeAny (model prog w) A (.compLoop (.ListComp elt [⟨target, iter, ifs, 0⟩] scope pos) 0 it acc env) R s := by
  have no : ∀ {e : Value} {s' : Shared}, False → notedBy (model prog w) A env (fun e s' => R (.error e) s') e s' := fun h => False.elim h
  refine codeAny_loop rfl J (fun n s hJ => ?_) n h0
  show wpAny (model prog w) A ((compTurn (.ListComp elt [⟨target, iter, ifs, 0⟩] scope pos) 0 it acc env).onRaise (fun x => do noteFrame x env; theTreesLotGoes x)) _ _ s
  refine wpAny_noted ?_
  rw [compTurn_list]
  refine wpAny_bind (wpAny_standAt (wpAny_bind (wpAny_mono (turn n s hJ) (fun r s1 h1 => ?_) fun _ _ h' => no h')))
  cases r with
  | none => exact wpAny_pure h1
  | some v =>
    refine wpAny_bind (wpAny_mono h1 (fun _ s2 h2 => ?_) fun _ _ h' => no h')
    refine wpAny_bind (wpAny_mono h2 (fun _ s3 h3 => wpAny_bind (wpAny_mono h3 (fun ok s4 h4 => ?_) fun _ _ h' => no h')) fun _ _ h' => no h')
    cases ok with
    | false => exact wpAny_pure ⟨rfl, h4⟩
    | true =>
      have h4' := h4
      rw [if_pos rfl] at h4'
      exact wpAny_bind (wpAny_bind (wpAny_mono h4' (fun x s5 h5 => wpAny_bind (wpAny_mono h5 (fun _ s6 h6 => wpAny_pure (wpAny_pure ⟨rfl, h6⟩)) fun _ _ h' => no h')) fun _ _ h' => no h'))
end

/-! ### the rule -/
/-- the tests of a clause: none, or one -/
inductive PIfs (X : Cx) : List Expr → TT → Prop
  | none : PIfs X [] (fun _ H Q => Q true H)
  | one {c : Expr} {t : TT} : PT X c t → PIfs X [c] t

/-- W: the turn, a measure, the items so far, the heap; D: where the items are laid -/
def CompAt (D : Addr) (J : It) (g : TG) (ti : TT) (te : TE) (k : Nat) (caps : List Nat) (σ : St) (Q : VK) (H1 : Hp) : Prop :=
  ∃ W : Nat → Nat → List V → Hp → Prop, (∃ m, W 0 m [] (upd H1 D (.lst []))) ∧
    ∀ i m ys H2, W i m ys H2 → H2 D = some (.lst ys) ∧ ((J.stop i H2 ∧ Q (.ref D) H2) ∨ (J.go i H2 ∧ ys.length < sizeLine ∧ ∀ x H3, J.yld i H2 x H3 →
      g x (inner k caps σ) H3 fun σ4 H4 => (σ4.length = (inner k caps σ).length ∧ σ4.drop k = (inner k caps σ).drop k) ∧
        ti σ4 H4 fun b H5 => if b = true then te σ4 H5 fun y H6 => H6 D = some (.lst ys) ∧ ∃ m', m' < m ∧ W (i + 1) m' (ys ++ [y]) (upd H6 D (.lst (ys ++ [y]))) else ∃ m', m' < m ∧ W (i + 1) m' ys H5))
def CompBody (J : It) (g : TG) (ti : TT) (te : TE) (k : Nat) (caps : List Nat) (σ : St) (Q : VK) (H1 : Hp) : Prop := ∀ D, H1 D = none → CompAt D J g ti te k caps σ Q H1
def tComp (wi : TI) (g : TG) (ti : TT) (te : TE) (k : Nat) (caps : List Nat) : TE := fun σ H Q => wi σ H fun J H1 => CompBody J g ti te k caps σ Q H1

section
variable {X : Cx} {N : List Str} {scope : Scope} {k : Nat} {caps : List Nat} {tg elt iter : Expr} {ifs : List Expr} {wi : TI} {g : TG} {ti : TT} {te : TE} {pos : Pos}

theorem inner_weak {σ σ4 : St} (h1 : σ4.length = (inner k caps σ).length) (h2 : σ4.drop k = (inner k caps σ).drop k) (i : Nat) (v : V) (h : (inner k caps σ)[i]? = some (some v)) : σ4[i]? = some (some v) := by
  have hlt : ¬ i < k := fun hlt => by
    unfold inner at h
    rw [List.getElem?_append_left (by simpa using hlt), List.getElem?_replicate, if_pos hlt] at h
    cases h
  obtain ⟨j, rfl⟩ : ∃ j, i = k + j := ⟨i - k, by omega⟩
  have e1 : (σ4.drop k)[j]? = σ4[k + j]? := List.getElem?_drop
  have e2 : ((inner k caps σ).drop k)[j]? = (inner k caps σ)[k + j]? := List.getElem?_drop
  rw [← e1, h2, e2, h]

/-- the block, from the iterator on: for the value, or for the store that follows -/
theorem comp_block {E : Value → Shared → Prop} {pins : List (Addr × Obj)} {σ : St} {H : Hp} {s : Shared} {it : Addr} {fp : List Addr} {tn : Nat → Heap → Prop} {J : It} {RR : Value → Addr → Result → Shared → Prop} (B : Block X N scope k caps) (hcalm : X.calm = true)
    (hg : ∀ pins fp s H, ∃ t, PG (cxComp X N scope pins fp s H) tg t ∧ t = g) (hi : ∀ pins fp s H, ∃ t, PIfs (cxComp X N scope pins fp s H) ifs t ∧ t = ti) (he : ∀ pins fp s H, ∃ t, PE (cxComp X N scope pins fp s H) elt t ∧ t = te)
    (I : Inv X pins σ H s) (T : Turn X.prog X.w X.K tg J fp it tn) (st : tn 0 s.heap) (hf : ∀ b ∈ fp, FpOk X pins H b) (Q : VK)
    (hw : CompAt s.heap.objs.size J g ti te k caps σ Q H)
    (hRR : ∀ s' H', (∃ m, s'.heap.Ns (s.heap.objs.size + 1) m) → H' (s.heap.objs.size + 1) = none → (∀ h', Heap.SameBut (s.heap.objs.size + 1) s'.heap h' → Inv X pins σ H' { s' with heap := h' }) → Q (.ref s.heap.objs.size) H' → RR (.ref s.heap.objs.size) (s.heap.objs.size + 1) (.ok .next) s') :
    wpAny (model X.prog X.w) X.A (newList []) (fun acc s3 => wpAny (model X.prog X.w) X.A (newFunctionEnv scope X.env.globals (closL X.env.cells scope.names []) [] X.env.qual none .none (some X.env)) (fun cenv s4 =>
      codeAny (model X.prog X.w) X.A (.compStart (.ListComp elt [⟨tg, iter, ifs, 0⟩] scope pos) 0 (.ref it) acc { cenv with scope := relabel scope X.env }) (RR acc cenv.locals) s4) E s3) E s := by
  obtain ⟨W, ⟨m0, w0⟩, turn⟩ := hw
  obtain ⟨tg', hg1, eg⟩ := hg pins fp s H
  clear hg
  subst eg
  obtain ⟨ti', hi1, ei⟩ := hi pins fp s H
  clear hi
  subst ei
  obtain ⟨te', he1, ee⟩ := he pins fp s H
  clear he
  subst ee
  refine wpAny_newObj_type (wpAny_newFunctionEnv B.nocell (by intro y hy; simp at hy) (fun h₁ hns₁ hsb₁ => ?_) B.kind)
  dsimp only at hns₁ hsb₁ ⊢
  have szD : (pushD s).heap.objs.size = s.heap.objs.size + 1 := Heap.size_push ..
  have eC : (s.heap.push { cls := .type "list", dict := none, data := .seq ([] : List Value).toArray }).objs.size = s.heap.objs.size + 1 := szD
  rw [eC] at hns₁ hsb₁ ⊢
  have hk₁ : ∀ b o, (pushD s).heap.get? b = some o → h₁.get? b = some o := fun b o e => by
    have l : b ≠ s.heap.objs.size + 1 := by
      have l1 := Heap.lt_size e
      rw [szD] at l1
      exact Nat.ne_of_lt l1
    exact hsb₁.extBut b o l (Heap.get?_push_of_some _ e)
  have st₁ : tn 0 h₁ := T.keep 0 s.heap h₁ st fun b _ o e => hk₁ b o (Heap.get?_push_of_some _ e)
  have ho : ∀ b ∈ fp, ∃ o, s.heap.get? b = some o := fun b hb => let ⟨o, e, _⟩ := T.obj 0 _ st b hb; ⟨o, e⟩
  have loop : ∀ s1 : Shared, s1 = { s with heap := h₁, toks := s.toks + ([] : List (Str × Value)).length } →
      codeAny (model X.prog X.w) X.A (.compLoop (.ListComp elt [⟨tg, iter, ifs, 0⟩] scope pos) 0 (.ref it) (.ref s.heap.objs.size) (cxComp X N scope pins fp s H).env) (RR (.ref s.heap.objs.size) (s.heap.objs.size + 1)) s1 := by
    rintro s1 rfl
    have I₁ := comp_start (N := N) (tk := s.toks + ([] : List (Str × Value)).length) B I hf ho hns₁ hk₁
    have stat : ∀ {H' : Hp}, (∀ b ∈ fp, H' b = none) → ∀ b ∈ fp, FpOk (cxComp X N scope pins fp s H) [] H' b := fun hn b hb => by
      obtain ⟨_, z⟩ := I₁.ok.exf b hb
      refine ⟨hn b hb, (I₁.ok.exf b hb).1, I₁.ok.exfs b hb, .inl hb, fun x c e => (I₁.ok.exf b hb).2 x c e, fun p hp => ?_⟩
      have hp2 : p ∈ (X.pn ++ pins) ++ [] := hp
      rw [List.append_nil] at hp2
      exact (hf b hb).2.2.2.2.2 p hp2
    refine comp_turns (fun n s' => ∃ i ys H', Inv (cxComp X N scope pins fp s H) [] (inner k caps σ) H' s' ∧ tn i s'.heap ∧ (∀ b ∈ fp, H' b = none) ∧ W i n ys H') m0 ⟨0, [], _, I₁, st₁, fun b hb => ?_, w0⟩ ?_
    · obtain ⟨o, e⟩ := ho b hb
      rw [upd_ne (Nat.ne_of_lt (Heap.lt_size e))]
      exact (hf b hb).1
    · rintro n s2 ⟨i, ys, H2, I2, st2, fr2, w2⟩
      obtain ⟨hD, alt⟩ := turn i n ys H2 w2
      rcases alt with ⟨stop, q⟩ | ⟨go, hz, step⟩
      · refine thn (T.done (cxComp X N scope pins fp s H) rfl rfl rfl hcalm i [] s2 _ H2 _ I2 (stat fr2) st2 stop) fun r s3 ⟨hr, I3⟩ => ?_
        subst hr
        obtain ⟨m, hnm, _⟩ := id I3.loc
        exact hRR s3 H2 ⟨m, hnm⟩ I3.free (fun h' hs => comp_end I hf I3 hs) q
      · refine thn (T.item (cxComp X N scope pins fp s H) rfl rfl rfl hcalm i [] s2 _ H2 _ I2 (stat fr2) st2 go) fun r s3 ⟨u, hr, h3⟩ => ?_
        subst hr
        refine thn h3 fun _ s4 ⟨x, H4, I4, r4, y4, st4, fr4⟩ => ?_
        have I4' := I4.pinned (stat fr4) (T.obj _ _ st4)
        refine thn (hg1 _ s4 _ H4 x u _ I4' r4 (step x H4 y4)) fun _ s5 ⟨σ5, H5, I5, ⟨k1, k2⟩, q5⟩ => ?_
        have back : ∀ {H7 : Hp} {s7 : Shared}, Inv (cxComp X N scope pins fp s H) ([] ++ pinsAt fp s4.heap) σ5 H7 s7 → Inv (cxComp X N scope pins fp s H) [] (inner k caps σ) H7 s7 ∧ tn (i + 1) s7.heap ∧ (∀ b ∈ fp, H7 b = none) := fun {H7 s7} I7 => by
          refine ⟨I7.unpinned.weak k1.symm (inner_weak k1 k2), T.keep _ _ _ st4 fun b hb o e => (I7.pin (b, o) (List.mem_append_right _ (List.mem_append_right _ (mem_pinsAt hb e)))).1, fun b hb => ?_⟩
          obtain ⟨o, e, d⟩ := T.obj _ _ st4 b hb
          exact (I7.pin (b, o) (List.mem_append_right _ (List.mem_append_right _ (mem_pinsAt hb e)))).2.1
        have body : ∀ (ok : Bool) (s6 : Shared) (H6 : Hp), Inv (cxComp X N scope pins fp s H) ([] ++ pinsAt fp s4.heap) σ5 H6 s6 →
            (if ok = true then te' σ5 H6 fun y H6 => H6 s.heap.objs.size = some (.lst ys) ∧ ∃ m', m' < n ∧ W (i + 1) m' (ys ++ [y]) (upd H6 s.heap.objs.size (.lst (ys ++ [y]))) else ∃ m', m' < n ∧ W (i + 1) m' ys H6) →
            (if ok = true then wpAny (model X.prog X.w) X.A (eval elt (cxComp X N scope pins fp s H).env) (fun x s5 =>
              wpAny (model X.prog X.w) X.A (call (.builtin "list.append") [.ref s.heap.objs.size, x]) (fun _ s6 => ∃ m, m < n ∧ ∃ i ys H', Inv (cxComp X N scope pins fp s H) [] (inner k caps σ) H' s6 ∧ tn i s6.heap ∧ (∀ b ∈ fp, H' b = none) ∧ W i m ys H') (fun _ _ => False) s5) (fun _ _ => False) s6
            else ∃ m, m < n ∧ ∃ i ys H', Inv (cxComp X N scope pins fp s H) [] (inner k caps σ) H' s6 ∧ tn i s6.heap ∧ (∀ b ∈ fp, H' b = none) ∧ W i m ys H') := fun ok s6 H6 I6 q6 => by
          cases ok with
          | false =>
            rw [if_neg Bool.false_ne_true] at q6 ⊢
            obtain ⟨m', hm, w6⟩ := q6
            obtain ⟨b1, b2, b3⟩ := back I6
            exact ⟨m', hm, i + 1, ys, H6, b1, b2, b3, w6⟩
          | true =>
            rw [if_pos rfl] at q6 ⊢
            refine thn (he1 _ s6 σ5 H6 _ I6 q6) fun y s7 ⟨yv, H7, I7, r7, hD7, m', hm, w7⟩ => ?_
            refine thn (mt_append (X := cxComp X N scope pins fp s H) _ s7 σ5 H7 (.ref s.heap.objs.size) [yv] (.ref s.heap.objs.size) [y] (fun v H8 => v = .non ∧ H8 = upd H7 s.heap.objs.size (.lst (ys ++ [yv]))) I7 rfl (.cons r7 .nil) ⟨_, ys, yv, rfl, rfl, hD7, hz, rfl, rfl⟩) fun _ s8 ⟨_, H8, I8, _, _, e8⟩ => ?_
            subst e8
            obtain ⟨b1, b2, b3⟩ := back I8
            exact ⟨m', hm, i + 1, _, _, b1, b2, b3, w7⟩
        cases hi1 with
        | none => exact wpAny_tests_nil (body true s5 H5 I5 q5)
        | one hc => exact wpAny_tests_one (thn (hc _ s5 σ5 H5 _ I5 q5) fun ok s6 ⟨H6, I6, q6⟩ => body ok s6 H6 I6 q6)
  exact codeAny_compStart_list (loop _ rfl) (T.self X.A 0 _ _ _ st₁ (loop _ rfl))

/-- [elt for tg in iter if ..] -/
theorem pe_comp (B : Block X N scope k caps) (hcalm : X.calm = true) (hwi : PI X tg iter wi)
    (hg : ∀ pins fp s H, ∃ t, PG (cxComp X N scope pins fp s H) tg t ∧ t = g) (hi : ∀ pins fp s H, ∃ t, PIfs (cxComp X N scope pins fp s H) ifs t ∧ t = ti) (he : ∀ pins fp s H, ∃ t, PE (cxComp X N scope pins fp s H) elt t ∧ t = te)
    (hs : ∀ x, foldedSetIterable iter X.env x = pure x := by intro _; rfl) : PE X (.ListComp elt [⟨tg, iter, ifs, 0⟩] scope pos) (tComp wi g ti te k caps) := by
  intro pins s σ H Q I h
  rw [eval_ListComp]
  have hcl : closureFor scope X.env = pure (closL X.env.cells scope.names []) := closureFor_eq fun n hn => I.ok.has n (B.frees _ hn rfl)
  refine wpAny_comprehension_free (use := none) rfl hs hcl B.kind B.locals (thn (hwi pins s σ H _ I h) fun xv s1 h1 => thn h1 fun itv s2 h2 => ?_)
  obtain ⟨it, fp, tn, J, H2, e, I2, T, st2, f2, hw⟩ := h2
  subst e
  refine comp_block (RR := fun acc C => compPost (model X.prog X.w) X.A X.xe none (EP X pins σ Q) acc C) B hcalm hg hi he I2 T st2 f2 Q (hw _ (I2.hok.fresh (Nat.le_refl _))) fun s' H' hm _ hI q => ?_
  obtain ⟨m, hnm⟩ := hm
  exact ⟨m, hnm, fun h' hs' => ⟨.ref _, H', hI h' hs', rfl, q⟩⟩

/-- x = [elt for tg in iter if ..], the store made within -/
theorem ps_comp {x : Str} {i : Nat} {px spos : Pos} (B : Block X N scope k caps) (hcalm : X.calm = true) (hwi : PI X tg iter wi)
    (hg : ∀ pins fp s H, ∃ t, PG (cxComp X N scope pins fp s H) tg t ∧ t = g) (hi : ∀ pins fp s H, ∃ t, PIfs (cxComp X N scope pins fp s H) ifs t ∧ t = ti) (he : ∀ pins fp s H, ∃ t, PE (cxComp X N scope pins fp s H) elt t ∧ t = te)
    (hN : X.N.Nodup) (hx : X.N[i]? = some x) (hl : X.env.scope.names.lookup x = some .local)
    (hsw : swapsWith (.ListComp elt [⟨tg, iter, ifs, 0⟩] scope pos) (some (.Name x px)) spos.line X.env = pure true)
    (hs : ∀ x, foldedSetIterable iter X.env x = pure x := by intro _; rfl) : PS X (.Assign [.Name x px] (.ListComp elt [⟨tg, iter, ifs, 0⟩] scope pos) spos) (tAsg (tComp wi g ti te k caps) (gName i)) := by
  intro pins s σ H D I h
  rw [exec_Assign_Name_used _ _ _ _ hsw]
  have hcl : closureFor scope X.env = pure (closL X.env.cells scope.names []) := closureFor_eq fun n hn => I.ok.has n (B.frees _ hn rfl)
  refine wpAny_bind (wpAny_standAt (wpAny_bind ?_))
  show wpAny _ X.A (do let _ ← comprehension (.ListComp elt [⟨tg, iter, ifs, 0⟩] scope pos) scope X.env _ (newList []) false (eval iter X.env) (some (assign (.Name x px) X.env))) _ _ s
  refine wpAny_bind (wpAny_mono (wpAny_comprehension_free (use := some (assign (.Name x px) X.env)) (Q := fun _ s' => SP X pins D .next s') rfl hs hcl B.kind B.locals (thn (hwi pins s σ H _ I h) fun xv s1 h1 => thn h1 fun itv s2 h2 => ?_)) (fun _ s' hq => wpAny_pure (wpAny_pure hq)) fun _ _ e => e)
  obtain ⟨it, fp, tn, J, H2, e, I2, T, st2, f2, hw⟩ := h2
  subst e
  refine comp_block (RR := fun acc C => compPost (model X.prog X.w) X.A X.xe (some (assign (.Name x px) X.env)) (fun _ s' => SP X pins D .next s') acc C) B hcalm hg hi he I2 T st2 f2 (fun v H' => D.nx (σ.set i (some v)) H') (hw _ (I2.hok.fresh (Nat.le_refl _))) fun s' H' hm hfC hI q => ?_
  obtain ⟨m, hnm⟩ := hm
  show wpAny _ X.A (assign (.Name x px) X.env (.ref s2.heap.objs.size)) _ _ s'
  have I3 : Inv X pins σ H' s' := hI s'.heap ⟨rfl, fun _ _ => rfl⟩
  refine wpAny_assign_Name ?_
  have neL : X.env.locals ≠ s2.heap.objs.size + 1 := Nat.ne_of_lt (Nat.lt_succ_of_lt I2.lt)
  refine store_ok2 I3 hN hx (.inl hl) (v := .ref s2.heap.objs.size) rfl (fun s4 I4 ⟨a, hs4, ha⟩ => ?_) (.inr hl)
  have haL : a = X.env.locals ∨ (∃ v, s2.heap.IsCell a v) := ha.imp id fun e => I2.cell x a e
  have neC : s2.heap.objs.size + 1 ≠ a := by
    rcases haL with z | ⟨v, o, e, _⟩
    · rw [z]; exact Ne.symm neL
    · exact Nat.ne_of_gt (Nat.lt_succ_of_lt (Heap.lt_size e))
  refine ⟨m, hnm.sameBut hs4 neC, fun h' hs' => ⟨_, H', ?_, q⟩⟩
  -- the block's names are let go: nothing else changes
  refine I4.turned (t' := s4.toks) (it := s2.heap.objs.size + 1) (fun b o hb e => (hs'.2 b hb).trans e) ?_ (Ne.symm neL) (.inr ?_) (fun y c e => ?_) fun p hp => ?_
  · exact hfC
  · exact Nat.le_trans I2.sz (Nat.le_succ _)
  · obtain ⟨v, o, e, _⟩ := I2.cell y c e
    exact Nat.ne_of_lt (Nat.lt_succ_of_lt (Heap.lt_size e))
  · exact Nat.ne_of_lt (Nat.lt_succ_of_lt (Heap.lt_size (I2.pin p hp).1))
end
end L2
set_option maxRecDepth 100000
set_option maxHeartbeats 4000000
/-! zip, enumerate; walks by the list of what comes. -/
namespace L2
open PySem PySem.Spec PyProof.Rows

section
variable {X : Cx} {pins : List (Addr × Obj)} {σ : St} {H : Hp} {s : Shared} {h' : Heap}
/-- records of ours have turned, a new object is laid and tracked -/
theorem Inv.turnedL {ch : List Addr} {T : Addr} {o : HO} {t' : Nat} (I : Inv X pins σ H s) (hch : ∀ b ∈ ch, FpOk X pins H b)
    (kp : ∀ b u, b ∉ ch → s.heap.get? b = some u → h'.get? b = some u) (hT : s.heap.objs.size ≤ T) (new : ObjOk X.prog X.w (upd H T o) h' T o) : Inv X pins σ (upd H T o) { s with heap := h', toks := t' } := by
  have fT : H T = none := I.hok.fresh hT
  have ltT : ∀ {b u}, s.heap.get? b = some u → b ≠ T := fun e => Nat.ne_of_lt (Nat.lt_of_lt_of_le (Heap.lt_size e) hT)
  have noch : ∀ b u, H b = some u → b ∉ ch := fun b u e z => by rw [(hch b z).1] at e; cases e
  refine I.step (g' := s.gens) (d' := s.drawn) (ch := ch) (fun b hb => ?_) (fun b u _ _ hc e _ => kp b u hc e) (fun b u _ _ hc e _ => ⟨u.slots, kp b u hc e⟩) (fun b u _ e n => by rw [upd_ne (ltT e)]; exact n)
    (fun b u hc e => ⟨u, kp b u hc e⟩) (fun b xs e => by rw [upd_ne (ne_of_none e fT)]; exact e) (fun b u v e => by rw [upd_ne (ne_of_none e fT)]; exact e) (fun b ps e => ⟨#[], by rw [upd_ne (ne_of_none e fT), e]; simp⟩) (fun m hm => ?_) (fun b u e => ?_) I.bare
  · obtain ⟨_, f1, _, f3, f4, f5⟩ := hch b hb
    exact ⟨f3, f1, f4, f5⟩
  · obtain ⟨u, es, ep, e, r⟩ := hm
    exact ⟨u, es, ep, kp _ u (fun z => (hch _ z).2.1 rfl) e, r⟩
  · by_cases hb : b = T
    · subst hb
      rw [upd_same] at e
      cases e
      exact new
    · rw [upd_ne hb] at e
      refine (I.hok b u e).stay (fun c v hc q => kp c v ?_ q) (fun c q => by rw [upd_ne (ne_of_none q fT)]; exact q) fun c xs q => by rw [upd_ne (ne_of_none q fT)]; exact q
      rcases hc with z | z
      · rw [z]; exact noch b u e
      · exact noch c _ z
/-- records of ours have turned -/
theorem Inv.turnedN {ch : List Addr} {t' : Nat} (I : Inv X pins σ H s) (hch : ∀ b ∈ ch, FpOk X pins H b)
    (kp : ∀ b u, b ∉ ch → s.heap.get? b = some u → h'.get? b = some u) : Inv X pins σ H { s with heap := h', toks := t' } := by
  have noch : ∀ b u, H b = some u → b ∉ ch := fun b u e z => by rw [(hch b z).1] at e; cases e
  refine I.step (g' := s.gens) (d' := s.drawn) (ch := ch) (fun b hb => ?_) (fun b u _ _ hc e _ => kp b u hc e) (fun b u _ _ hc e _ => ⟨u.slots, kp b u hc e⟩) (fun _ _ _ _ n => n)
    (fun b u hc e => ⟨u, kp b u hc e⟩) (fun _ _ e => e) (fun _ _ _ e => e) (fun b ps e => ⟨#[], by rw [e]; simp⟩) (fun m hm => ?_) (fun b u e => ?_) I.bare
  · obtain ⟨_, f1, _, f3, f4, f5⟩ := hch b hb
    exact ⟨f3, f1, f4, f5⟩
  · obtain ⟨u, es, ep, e, r⟩ := hm
    exact ⟨u, es, ep, kp _ u (fun z => (hch _ z).2.1 rfl) e, r⟩
  · refine (I.hok b u e).stay (fun c v hc q => kp c v ?_ q) (fun _ q => q) fun _ _ q => q
    rcases hc with z | z
    · rw [z]; exact noch b u e
    · exact noch c _ z
end

/-! ### zip of two lists -/
def Itz (K : PySem.W.Frag) (a b : Addr) : It :=
  ⟨fun i H => ∃ xs ys x y, SqL K H a xs ∧ SqL K H b ys ∧ xs[i]? = some x ∧ ys[i]? = some y,
   fun i H v H' => ∃ T x y, H T = none ∧ v = .ref T ∧ H' = upd H T (.tup [x, y]) ∧ (∀ xs, SqL K H a xs → xs[i]? = some x) ∧ ∀ ys, SqL K H b ys → ys[i]? = some y,
   fun i H => ∃ xs ys, SqL K H a xs ∧ SqL K H b ys ∧ (xs.length ≤ i ∨ ys.length ≤ i)⟩

theorem tup_new {P : Program} {w : World} {H : Hp} {h : Heap} {T : Addr} {xs : List V} {us : List Value} (hz : xs.length ≤ sizeLine) (r : Vals xs us) (e : h.get? T = some { cls := .type "tuple", data := .seq us.toArray }) : ObjOk P w H h T (.tup xs) :=
  ⟨hz, us, r, ⟨_, e, rfl, _, rfl⟩⟩

theorem turn_zip {P : Program} {w : World} {K : PySem.W.Frag} {es : List Expr} {kk : Nat} {tp : Pos} {a b z TI TO i1 i2 : Addr} (D : ZipApart z TI TO i1 i2 a b) :
    Turn P w K (.Tuple es kk tp) (Itz K a b) [z, TI, TO, i1, i2] z (fun i h => IsZip h z TI TO .none ∧ IsPair h TI (.ref i1) (.ref i2) ∧ (∃ u v, IsPair h TO u v) ∧ h.IsListIter i1 a i ∧ h.IsListIter i2 b i) where
  mem := by simp
  obj := fun i h st c hc => by
    obtain ⟨h1, h2, ⟨u, v, h3⟩, ⟨o4, e4, c4, d4⟩, ⟨o5, e5, c5, d5⟩⟩ := st
    simp only [List.mem_cons, List.not_mem_nil, or_false] at hc
    rcases hc with rfl | rfl | rfl | rfl | rfl
    · exact ⟨_, h1, fun v z => by cases z⟩
    · exact ⟨_, h2, fun v z => by cases z⟩
    · exact ⟨_, h3, fun v z => by cases z⟩
    · exact ⟨o4, e4, fun v z => by rw [d4] at z; cases z⟩
    · exact ⟨o5, e5, fun v z => by rw [d5] at z; cases z⟩
  keep := fun i h h' st kp => by
    obtain ⟨h1, h2, ⟨u, v, h3⟩, h4, h5⟩ := st
    exact ⟨kp z (by simp) _ h1, kp TI (by simp) _ h2, ⟨u, v, kp TO (by simp) _ h3⟩, h4.at fun o e => kp i1 (by simp) o e, h5.at fun o e => kp i2 (by simp) o e⟩
  item := by
    intro X hP hw hK hc i pins s σ H E I hf st hg
    subst hP hw hK
    obtain ⟨h1, h2, ⟨u, v, h3⟩, h4, h5⟩ := st
    obtain ⟨xs, ys, x, y, q1, q2, ex, ey⟩ := hg
    obtain ⟨its, rv, p, hz⟩ := I.list q1
    obtain ⟨jts, rw', p', hz'⟩ := I.list q2
    obtain ⟨ux, eu, ru⟩ := rv.get ex
    obtain ⟨uy, ev, rv'⟩ := rw'.get ey
    refine wpAny_pyNext_zip_item D h1 h2 h3 h4 h5 p.isList p'.isList (x := ux) (y := uy) (by simpa using eu) (by simpa using ev) fun g a1 a2 a3 a4 a5 a6 kp => ?_
    refine ⟨_, rfl, wpAny_letOwnedTupleGo_zip a1 fun g' b1 b2 => ?_⟩
    have up : ∀ c o, c ∉ [z, TO, i1, i2] → s.heap.get? c = some o → g'.get? c = some o := fun c o hcn e => by
      simp only [List.mem_cons, List.not_mem_nil, or_false, not_or] at hcn
      exact (b2.2 c hcn.1).trans (kp c o hcn.1 hcn.2.1 hcn.2.2.1 hcn.2.2.2 e)
    have ltz : z < s.heap.objs.size := Heap.lt_size h1
    have fT : H s.heap.objs.size = none := I.hok.fresh (Nat.le_refl _)
    have newT : g'.get? s.heap.objs.size = some { cls := .type "tuple", data := .seq #[ux, uy] } := (b2.2 _ (Nat.ne_of_gt ltz)).trans a5
    have sub : ∀ c ∈ [z, TO, i1, i2], c ∈ [z, TI, TO, i1, i2] := fun c hc => by
      simp only [List.mem_cons, List.not_mem_nil, or_false] at hc ⊢
      rcases hc with rfl | rfl | rfl | rfl <;> simp
    refine ⟨.ref s.heap.objs.size, upd H s.heap.objs.size (.tup [x, y]), I.turnedL (t' := s.toks) (ch := [z, TO, i1, i2]) (fun c hc => hf c (sub c hc)) up (Nat.le_refl _) (tup_new (us := [ux, uy]) (by simp [sizeLine_eq]) (.cons ru (.cons rv' .nil)) newT), rfl, ?_, ?_, fun c hc => ?_⟩
    · exact ⟨_, x, y, fT, rfl, rfl, fun zs hq => by rw [I.list_inj hq q1]; exact ex, fun zs hq => by rw [I.list_inj hq q2]; exact ey⟩
    · exact ⟨b1, (b2.2 _ D.TIz).trans (kp _ _ D.TIz D.TITO D.TIi1 D.TIi2 h2), ⟨_, _, (b2.2 _ D.TOz).trans a2⟩, a3.at fun o e => (b2.2 _ D.i1z).trans e, a4.at fun o e => (b2.2 _ D.i2z).trans e⟩
    · obtain ⟨f0, _⟩ := hf c hc
      obtain ⟨o, e, _⟩ := (show ∃ o, s.heap.get? c = some o ∧ True from by
        simp only [List.mem_cons, List.not_mem_nil, or_false] at hc
        obtain ⟨o4, e4, _⟩ := h4
        obtain ⟨o5, e5, _⟩ := h5
        rcases hc with rfl | rfl | rfl | rfl | rfl
        · exact ⟨_, h1, trivial⟩
        · exact ⟨_, h2, trivial⟩
        · exact ⟨_, h3, trivial⟩
        · exact ⟨_, e4, trivial⟩
        · exact ⟨_, e5, trivial⟩)
      rw [upd_ne (Nat.ne_of_lt (Heap.lt_size e))]
      exact f0
  done := by
    intro X hP hw hK hc i pins s σ H E I hf st hg
    subst hP hw hK
    obtain ⟨h1, h2, ⟨u, v, h3⟩, h4, h5⟩ := st
    obtain ⟨xs, ys, q1, q2, hend⟩ := hg
    obtain ⟨its, rv, p, hz⟩ := I.list q1
    obtain ⟨jts, rw', p', hz'⟩ := I.list q2
    have l1 := rv.length
    have l2 := rw'.length
    refine wpAny_pyNext_zip_end (I.ok.hd hc) D h1 h2 h3 h4 h5 p.isList p'.isList ?_ fun g kp => ⟨rfl, ?_⟩
    · rcases hend with z | z
      · left; simp; omega
      · right; simp; omega
    · refine I.turnedN (t' := s.toks) (ch := [z, TO, i1, i2]) (fun c hc => hf c ?_) fun c o hcn e => ?_
      · simp only [List.mem_cons, List.not_mem_nil, or_false] at hc ⊢
        rcases hc with rfl | rfl | rfl | rfl <;> simp
      · simp only [List.mem_cons, List.not_mem_nil, or_false, not_or] at hcn
        exact kp c o hcn.1 hcn.2.1 hcn.2.2.1 hcn.2.2.2 e
  self := fun _ _ _ _ _ st h => wpAny_pyIter_zip st.1 h

def iZip (K : PySem.W.Frag) (ta : TA) : TI := fun σ H R => ta σ H fun vs H1 => ∃ a b, vs = [.ref a, .ref b] ∧ (∃ xs, SqL K H1 a xs) ∧ (∃ ys, SqL K H1 b ys) ∧ R (Itz K a b) H1
theorem pi_zip {X : Cx} {es : List Expr} {kk : Nat} {tp : Pos} {e f : Expr} {ta : TA} {p pos : Pos} (hg : Gl X "zip") (hm : X.mg "zip" = none) (hv : bootBuiltins "zip" = some (.type "zip")) (ha : PA X [e, f] ta)
    (hs : starEach [e, f] X.env = [(false, eval e X.env), (false, eval f X.env)] := by rfl) (hs2 : starEach [f] X.env = [(false, eval f X.env)] := by rfl) :
    PI X (.Tuple es kk tp) (.Call (.Name "zip" p) [e, f] [] pos) (iZip X.K ta) := by
  intro pins s σ H R I h
  refine Call_ (ld_blt I hg hm hv (PyProof.Rows.callWith_type1 (thn (ha pos pins s σ H _ I h) fun us s1 ⟨vs, H1, I1, r1, q1⟩ => ?_) (by rw [hs, hs2]) (by rw [hs2]; rfl)))
  obtain ⟨a, b, e1, ⟨xs, hq⟩, ⟨ys, hq'⟩, q⟩ := q1
  subst e1
  cases r1 with
  | cons r rr =>
    cases rr with
    | cons r' rr =>
      cases rr
      cases r
      cases r'
      obtain ⟨its, rv, pl, hz⟩ := I1.list hq
      obtain ⟨jts, rw', pl', hz'⟩ := I1.list hq'
      obtain ⟨oa, ea, _⟩ := pl.isList
      obtain ⟨ob, eb, _⟩ := pl'.isList
      have la : @LT.lt Nat _ a s1.heap.objs.size := Heap.lt_size ea
      have lb : @LT.lt Nat _ b s1.heap.objs.size := Heap.lt_size eb
      refine call_zip_2 pl.isList pl'.isList fun g a1 a2 a3 a4 a5 a6 kp => ?_
      have D : ZipApart (s1.heap.objs.size + 4) (s1.heap.objs.size + 2) (s1.heap.objs.size + 3) s1.heap.objs.size (s1.heap.objs.size + 1) a b := by
        constructor <;> (apply show ∀ {x y : Nat}, x ≠ y → x ≠ y from fun h => h) <;> omega
      refine wpAny_pyIter_zip a1 ?_
      have I2 : Inv X pins σ H1 { s1 with heap := g } := I1.kept (t' := s1.toks) kp
      refine ⟨_, _, _, _, H1, rfl, I2, turn_zip D, ⟨a1, a2, ⟨_, _, a3⟩, a4, a5⟩, fun c hc => ?_, q⟩
      have lc : s1.heap.objs.size ≤ c := by
        simp only [List.mem_cons, List.not_mem_nil, or_false] at hc
        rcases hc with rfl | rfl | rfl | rfl | rfl <;> omega
      exact I1.fpOk lc (I1.hok.fresh lc)

/-! ### enumerate of a list -/
def Ite (K : PySem.W.Frag) (a : Addr) : It :=
  ⟨fun i H => ∃ xs x, SqL K H a xs ∧ xs[i]? = some x,
   fun i H v H' => ∃ T x, H T = none ∧ v = .ref T ∧ H' = upd H T (.tup [.int i, x]) ∧ ∀ xs, SqL K H a xs → xs[i]? = some x,
   fun i H => ∃ xs, SqL K H a xs ∧ xs.length ≤ i⟩

theorem turn_enum {P : Program} {w : World} {K : PySem.W.Frag} {es : List Expr} {kk : Nat} {tp : Pos} {a e it : Addr} (hei : e ≠ it) (hae : a ≠ e) (hai : a ≠ it) :
    Turn P w K (.Tuple es kk tp) (Ite K a) [e, it] e (fun i h => (∃ old, IsEnum h e it i old) ∧ h.IsListIter it a i) where
  mem := by simp
  obj := fun i h st c hc => by
    obtain ⟨⟨old, h1⟩, ⟨o4, e4, c4, d4⟩⟩ := st
    simp only [List.mem_cons, List.not_mem_nil, or_false] at hc
    rcases hc with rfl | rfl
    · exact ⟨_, h1, fun v z => by cases z⟩
    · exact ⟨o4, e4, fun v z => by rw [d4] at z; cases z⟩
  keep := fun i h h' st kp => by
    obtain ⟨⟨old, h1⟩, h4⟩ := st
    exact ⟨⟨old, kp e (by simp) _ h1⟩, h4.at fun o q => kp it (by simp) o q⟩
  item := by
    intro X hP hw hK hc i pins s σ H E I hf st hg
    subst hP hw hK
    obtain ⟨⟨old, h1⟩, h4⟩ := st
    obtain ⟨xs, x, q1, ex⟩ := hg
    obtain ⟨its, rv, p, hz⟩ := I.list q1
    obtain ⟨ux, eu, ru⟩ := rv.get ex
    refine wpAny_pyNext_enum_item h1 h4 p.isList (x := ux) (by simpa using eu) hei fun g a1 a3 a5 a6 kp => ?_
    refine ⟨_, rfl, wpAny_letOwnedTupleGo_enum a1 fun g' b1 b2 => ?_⟩
    have up : ∀ c o, c ∉ [e, it] → s.heap.get? c = some o → g'.get? c = some o := fun c o hcn q => by
      simp only [List.mem_cons, List.not_mem_nil, or_false, not_or] at hcn
      exact (b2.2 c hcn.1).trans (kp c o hcn.1 hcn.2 q)
    have lte : e < s.heap.objs.size := Heap.lt_size h1
    have fT : H s.heap.objs.size = none := I.hok.fresh (Nat.le_refl _)
    have newT : g'.get? s.heap.objs.size = some { cls := .type "tuple", data := .seq #[.int i s.toks, ux] } := (b2.2 _ (Nat.ne_of_gt lte)).trans a5
    refine ⟨.ref s.heap.objs.size, upd H s.heap.objs.size (.tup [.int i, x]), I.turnedL (t' := s.toks + 1) (ch := [e, it]) hf up (Nat.le_refl _) (tup_new (us := [.int i s.toks, ux]) (by simp [sizeLine_eq]) (.cons ⟨_, rfl⟩ (.cons ru .nil)) newT), rfl, ?_, ?_, fun c hc => ?_⟩
    · exact ⟨_, x, fT, rfl, rfl, fun zs hq => by rw [I.list_inj hq q1]; exact ex⟩
    · exact ⟨⟨_, by simpa using b1⟩, a3.at fun o q => (b2.2 _ (Ne.symm hei)).trans q⟩
    · obtain ⟨f0, _⟩ := hf c hc
      have lc : c < s.heap.objs.size := by
        simp only [List.mem_cons, List.not_mem_nil, or_false] at hc
        obtain ⟨o4, e4, _⟩ := h4
        rcases hc with rfl | rfl
        · exact lte
        · exact Heap.lt_size e4
      rw [upd_ne (Nat.ne_of_lt lc)]
      exact f0
  done := by
    intro X hP hw hK hc i pins s σ H E I hf st hg
    subst hP hw hK
    obtain ⟨⟨old, h1⟩, h4⟩ := st
    obtain ⟨xs, q1, hend⟩ := hg
    obtain ⟨its, rv, p, hz⟩ := I.list q1
    have l1 := rv.length
    refine wpAny_pyNext_enum_end (I.ok.hd hc) h1 h4 p.isList (by simp; omega) fun g kp => ⟨rfl, ?_⟩
    refine I.turnedN (t' := s.toks) (ch := [e, it]) hf fun c o hcn q => ?_
    simp only [List.mem_cons, List.not_mem_nil, or_false, not_or] at hcn
    exact kp c o hcn.2 q
  self := fun _ _ _ _ _ st h => let ⟨⟨_, e1⟩, _⟩ := st; wpAny_pyIter_enum e1 h

def iEnum (K : PySem.W.Frag) (ta : TA) : TI := fun σ H R => ta σ H fun vs H1 => ∃ a, vs = [.ref a] ∧ (∃ xs, SqL K H1 a xs) ∧ R (Ite K a) H1
theorem pi_enum {X : Cx} {es : List Expr} {kk : Nat} {tp : Pos} {e : Expr} {ta : TA} {p pos : Pos} (hg : Gl X "enumerate") (hm : X.mg "enumerate" = none) (hv : bootBuiltins "enumerate" = some (.type "enumerate")) (ha : PA X [e] ta)
    (hs : starEach [e] X.env = [(false, eval e X.env)] := by rfl) : PI X (.Tuple es kk tp) (.Call (.Name "enumerate" p) [e] [] pos) (iEnum X.K ta) := by
  intro pins s σ H R I h
  refine Call_ (ld_blt I hg hm hv (PyProof.Rows.callWith_type1 (thn (ha pos pins s σ H _ I h) fun us s1 ⟨vs, H1, I1, r1, q1⟩ => ?_) hs rfl))
  obtain ⟨a, e1, ⟨xs, hq⟩, q⟩ := q1
  subst e1
  cases r1 with
  | cons r rr =>
    cases rr
    cases r
    obtain ⟨its, rv, pl, hz⟩ := I1.list hq
    obtain ⟨oa, ea, _⟩ := pl.isList
    have la : @LT.lt Nat _ a s1.heap.objs.size := Heap.lt_size ea
    refine call_enumerate_list pl.isList fun g a1 a4 a6 kp => ?_
    refine wpAny_pyIter_enum a1 ?_
    have I2 : Inv X pins σ H1 { s1 with heap := g } := I1.kept (t' := s1.toks) kp
    refine ⟨_, _, _, _, H1, rfl, I2, turn_enum (a := a) (show @Ne Nat _ _ by omega) (show @Ne Nat _ _ by omega) (show @Ne Nat _ _ by omega), ⟨⟨_, a1⟩, a4⟩, fun c hc => ?_, q⟩
    have lc : s1.heap.objs.size ≤ c := by
      simp only [List.mem_cons, List.not_mem_nil, or_false] at hc
      rcases hc with rfl | rfl <;> omega
    exact I1.fpOk lc (I1.hok.fresh lc)

/-! ### what comes, as a list -/
structure Ov {α : Type} (J : It) (l : List α) (kp : Hp → Prop) (rep : α → V → Hp → Hp → Prop) : Prop where
  go : ∀ (i : Nat) H, kp H → i < l.length → J.go i H
  stop : ∀ (i : Nat) H, kp H → l.length ≤ i → J.stop i H
  yld : ∀ (i : Nat) H x H' y, kp H → l[i]? = some y → J.yld i H x H' → rep y x H H'

theorem ov_list {K : PySem.W.Frag} {a : Addr} {xs : List V} : Ov (Itl K a) xs (fun H => SqL K H a xs) (fun y x H H' => x = y ∧ H' = H) where
  go := fun i H h hi => ⟨xs, xs[i], h, by simp [hi]⟩
  stop := fun i H h hi => ⟨xs, h, hi⟩
  yld := fun i H x H' y h hy ⟨e, q⟩ => ⟨Option.some.inj ((q xs h).symm.trans hy), e⟩
theorem ov_tup {K : PySem.W.Frag} {a : Addr} {xs : List V} : Ov (Itt K a) xs (fun H => SqT K H a xs) (fun y x H H' => x = y ∧ H' = H) where
  go := fun i H h hi => ⟨xs, xs[i], h, by simp [hi]⟩
  stop := fun i H h hi => ⟨xs, h, hi⟩
  yld := fun i H x H' y h hy ⟨e, q⟩ => ⟨Option.some.inj ((q xs h).symm.trans hy), e⟩
theorem ov_range {lo : Int} {n : Nat} : Ov (Itr lo n) (List.range n) (fun _ => True) (fun y x H H' => x = .int (lo + (y : Nat)) ∧ H' = H) where
  go := fun i H _ hi => by rw [List.length_range] at hi; exact hi
  stop := fun i H _ hi => by rw [List.length_range] at hi; exact hi
  yld := fun i H x H' y _ hy ⟨e, q⟩ => by
    obtain ⟨h1, h2⟩ := List.getElem?_eq_some_iff.mp hy
    rw [List.getElem_range] at h2
    subst h2
    exact ⟨q, e⟩
theorem ov_zip {K : PySem.W.Frag} {a b : Addr} {xs ys : List V} : Ov (Itz K a b) (xs.zip ys) (fun H => SqL K H a xs ∧ SqL K H b ys) (fun y x H H' => ∃ T, H T = none ∧ x = .ref T ∧ H' = upd H T (.tup [y.1, y.2])) where
  go := fun i H h hi => by
    rw [List.length_zip] at hi
    exact ⟨xs, ys, xs[i]'(by omega), ys[i]'(by omega), h.1, h.2, by simp, by simp⟩
  stop := fun i H h hi => by
    rw [List.length_zip] at hi
    exact ⟨xs, ys, h.1, h.2, by omega⟩
  yld := fun i H x H' y h hy ⟨T, u, v, f, e1, e2, q1, q2⟩ => by
    have w1 := q1 xs h.1
    have w2 := q2 ys h.2
    rw [List.getElem?_zip_eq_some] at hy
    rw [hy.1] at w1
    rw [hy.2] at w2
    refine ⟨T, f, e1, ?_⟩
    rw [e2, ← Option.some.inj w1, ← Option.some.inj w2]
theorem ov_enum {K : PySem.W.Frag} {a : Addr} {xs : List V} : Ov (Ite K a) xs.zipIdx (fun H => SqL K H a xs) (fun y x H H' => ∃ T, H T = none ∧ x = .ref T ∧ H' = upd H T (.tup [.int (y.2 : Nat), y.1])) where
  go := fun i H h hi => by
    rw [List.length_zipIdx] at hi
    exact ⟨xs, xs[i]'hi, h, by simp⟩
  stop := fun i H h hi => by
    rw [List.length_zipIdx] at hi
    exact ⟨xs, h, hi⟩
  yld := fun i H x H' y h hy ⟨T, u, f, e1, e2, q1⟩ => by
    have w1 := q1 xs h
    rw [List.getElem?_zipIdx, w1] at hy
    have e : (u, 0 + i) = y := Option.some.inj hy
    subst e
    refine ⟨T, f, e1, ?_⟩
    rw [e2]
    simp

/-- a for over what comes, by a word -/
theorem for_ov {α : Type} {J : It} {l : List α} {kp : Hp → Prop} {rep : α → V → Hp → Hp → Prop} (O : Ov J l kp rep) {g : TG} {tb : TS} {D : Ends} {σ : St} {H : Hp} (Pv : Nat → St → Hp → Prop) (h0 : Pv 0 σ H) (hk : ∀ i σ H, i ≤ l.length → Pv i σ H → kp H)
    (hs : ∀ i y x σ H H', l[i]? = some y → Pv i σ H → rep y x H H' → g x σ H' fun σ2 H2 => tb { D with nx := Pv (i + 1), ct := Pv (i + 1), bk := D.nx } σ2 H2) (hd : ∀ σ H, Pv l.length σ H → D.nx σ H) :
    ∃ W : Nat → Nat → St → Hp → Prop, (∃ m, W 0 m σ H) ∧ ∀ i m σ H, W i m σ H →
      (J.stop i H ∧ D.nx σ H) ∨ (J.go i H ∧ ∃ N : St → Hp → Prop, (∀ σ' H', N σ' H' → ∃ m', m' < m ∧ W (i + 1) m' σ' H') ∧ ∀ x H', J.yld i H x H' → g x σ H' fun σ2 H2 => tb { D with nx := N, ct := N, bk := D.nx } σ2 H2) := by
  refine ⟨fun i m σ H => m = l.length - i ∧ i ≤ l.length ∧ Pv i σ H, ⟨l.length, by simp, Nat.zero_le _, h0⟩, ?_⟩
  rintro i m σ H ⟨rfl, hi, p⟩
  by_cases hlt : i < l.length
  · refine .inr ⟨O.go i H (hk i σ H hi p) hlt, Pv (i + 1), fun σ' H' p' => ⟨l.length - (i + 1), by omega, rfl, hlt, p'⟩, fun x H' y => ?_⟩
    have e : l[i]? = some l[i] := by simp [hlt]
    exact hs i _ x σ H H' e p (O.yld i H x H' _ (hk i σ H hi p) e y)
  · have e : i = l.length := by omega
    subst e
    exact .inl ⟨O.stop _ H (hk _ σ H hi p) (Nat.le_refl _), hd σ H p⟩

theorem Same.upd_new {H : Hp} {a : Addr} {o : HO} (h : H a = none) : Same H (upd H a o) := fun b u e => by rw [upd_ne (ne_of_none e h)]; exact e
theorem take_snoc {α : Type} {l : List α} {i : Nat} {y : α} (h : l[i]? = some y) : l.take (i + 1) = l.take i ++ [y] := by
  rw [List.take_add_one, h]; rfl
theorem Paired.snoc {α β : Type} {F : α → β → Prop} : ∀ {l₁ : List α} {l₂ : List β} {a : α} {b : β}, Paired F l₁ l₂ → F a b → Paired F (l₁ ++ [a]) (l₂ ++ [b])
  | _, _, _, _, .nil, h => .cons h .nil
  | _, _, _, _, .cons r t, h => .cons r (Paired.snoc t h)

/-- a comprehension whose turns change nothing that is tracked: its items bear Rv -/
theorem comp_rel {α : Type} {J : It} {l : List α} {kp : Hp → Prop} {rep : α → V → Hp → Hp → Prop} (O : Ov J l kp rep) {g : TG} {ti : TT} {te : TE} {k : Nat} {caps : List Nat} {σ : St} {H1 : Hp} {Q : VK}
    (p : α → Bool) (Rv : Addr → α → V → Hp → Prop) (mono : ∀ D y v H H', (∀ b o, b ≠ D → H b = some o → H' b = some o) → Rv D y v H → Rv D y v H') (hk : ∀ H, Same H1 H → kp H) (hl : l.length ≤ sizeLine)
    (turn : ∀ D (i : Nat) y x H3 H4 (R : V → Hp → Prop) (R' : Hp → Prop), l[i]? = some y → Same H1 H3 → (∃ ys, H3 D = some (.lst ys)) → rep y x H3 H4 → (p y = true → ∀ v H7, Same H3 H7 → Rv D y v H7 → R v H7) → (p y = false → ∀ H7, Same H3 H7 → R' H7) →
      g x (inner k caps σ) H4 fun σ4 H5 => (σ4.length = (inner k caps σ).length ∧ σ4.drop k = (inner k caps σ).drop k) ∧ ti σ4 H5 fun b H6 => if b = true then te σ4 H6 R else R' H6)
    (fin : ∀ D H' ys, H1 D = none → Same H1 H' → H' D = some (.lst ys) → Paired (fun y v => Rv D y v H') (l.filter p) ys → Q (.ref D) H') :
    CompBody J g ti te k caps σ Q H1 := by
  intro D hD
  refine ⟨fun i m ys H => m = l.length - i ∧ i ≤ l.length ∧ Same H1 H ∧ H D = some (.lst ys) ∧ Paired (fun y v => Rv D y v H) ((l.take i).filter p) ys ∧ ys.length ≤ i, ⟨l.length, by simp, Nat.zero_le _, Same.upd_new hD, upd_same, .nil, Nat.le_refl _⟩, ?_⟩
  rintro i m ys H2 ⟨rfl, hi, s2, d2, pr, hy⟩
  refine ⟨d2, ?_⟩
  by_cases hlt : i < l.length
  · refine .inr ⟨O.go i H2 (hk _ s2) hlt, by omega, fun x H3 y3 => ?_⟩
    have e : l[i]? = some l[i] := by simp [hlt]
    have tk := take_snoc e
    refine turn D i _ x H2 H3 _ _ e s2 ⟨ys, d2⟩ (O.yld i H2 x H3 _ (hk _ s2) e y3) (fun hp v H7 s7 rv => ?_) fun hp H7 s7 => ?_
    · refine ⟨s7 _ _ d2, l.length - (i + 1), by omega, rfl, hlt, ?_, upd_same, ?_, ?_⟩
      · intro b u eb
        rw [upd_ne (ne_of_none eb hD)]
        exact s7 _ _ (s2 _ _ eb)
      · rw [tk, List.filter_append]
        have ef : List.filter p [l[i]] = [l[i]] := by simp [hp]
        rw [ef]
        have up : ∀ b o, b ≠ D → H7 b = some o → upd H7 D (.lst (ys ++ [v])) b = some o := fun b o hb q => by rw [upd_ne hb]; exact q
        exact Paired.snoc (Paired.mapP pr fun y u r => mono D y u _ _ (fun b o hb q => up b o hb (s7 b o q)) r) (mono D _ _ _ _ up rv)
      · rw [List.length_append, List.length_singleton]; omega
    · refine ⟨l.length - (i + 1), by omega, rfl, hlt, s2.trans s7, s7 _ _ d2, ?_, by omega⟩
      rw [tk, List.filter_append]
      have ef : List.filter p [l[i]] = [] := by simp [hp]
      rw [ef, List.append_nil]
      exact Paired.mapP pr fun y v r => mono D y v _ _ (fun b o _ q => s7 b o q) r
  · have e : i = l.length := by omega
    subst e
    refine .inl ⟨O.stop _ H2 (hk _ s2) (Nat.le_refl _), fin D H2 ys hD s2 d2 ?_⟩
    rw [List.take_length] at pr
    exact pr

theorem paired_map {α β : Type} {f : α → β} : ∀ {l : List α} {ys : List β}, Paired (fun y v => v = f y) l ys → ys = l.map f
  | _, _, .nil => rfl
  | _, _, .cons r t => by rw [List.map_cons, r, paired_map t]

/-- .. the same where the items are values -/
theorem comp_pure {α : Type} {J : It} {l : List α} {kp : Hp → Prop} {rep : α → V → Hp → Hp → Prop} (O : Ov J l kp rep) {g : TG} {ti : TT} {te : TE} {k : Nat} {caps : List Nat} {σ : St} {H1 : Hp} {Q : VK}
    (p : α → Bool) (f : α → V) (hk : ∀ H, Same H1 H → kp H) (hl : l.length ≤ sizeLine)
    (turn : ∀ (i : Nat) y x H3 H4 (R : V → Hp → Prop) (R' : Hp → Prop), l[i]? = some y → Same H1 H3 → rep y x H3 H4 → (p y = true → ∀ H7, Same H3 H7 → R (f y) H7) → (p y = false → ∀ H7, Same H3 H7 → R' H7) →
      g x (inner k caps σ) H4 fun σ4 H5 => (σ4.length = (inner k caps σ).length ∧ σ4.drop k = (inner k caps σ).drop k) ∧ ti σ4 H5 fun b H6 => if b = true then te σ4 H6 R else R' H6)
    (fin : ∀ D H', H1 D = none → Same H1 H' → H' D = some (.lst ((l.filter p).map f)) → Q (.ref D) H') :
    CompBody J g ti te k caps σ Q H1 :=
  comp_rel O p (fun _ y v _ => v = f y) (fun _ _ _ _ _ _ r => r) hk hl (fun _ i y x H3 H4 R R' e s _ r h1 h2 => turn i y x H3 H4 R R' e s r (fun hp H7 s7 => h1 hp _ H7 s7 rfl) h2)
    fun D H' ys hD s d pr => fin D H' hD s (by rw [d, paired_map pr])
end L2
set_option maxRecDepth 100000
set_option maxHeartbeats 4000000
/-! Builtins of lists, deep equality, slices with a step, truths by identity. -/
namespace L2
open PySem PySem.Spec PyProof.Rows

/-! ### all, any -/
section
variable {X : Cx}
theorem bl_at {bs : List Bool} {its : List Value} (r : Vals (bs.map V.bl) its) {i : Nat} {v : Value} (h : its.toArray[i]? = some v) : v = .bool (bs.getD i true) := by
  have h' : its[i]? = some v := by simpa using h
  have hl := r.length
  rw [List.length_map] at hl
  have hi : i < its.length := (List.getElem?_eq_some_iff.mp h').1
  have hb : (bs.map V.bl)[i]? = some (.bl (bs.getD i true)) := by
    rw [List.getElem?_map, List.getD_eq_getElem?_getD]
    have : i < bs.length := by omega
    simp [this]
  obtain ⟨u, e, ru⟩ := r.get hb
  rw [h'] at e
  cases e
  exact ru
theorem all_range (bs : List Bool) : ∀ n, n = bs.length → (List.range n).all (fun i => bs.getD i true) = bs.all id := by
  intro n hn
  subst hn
  rw [Bool.eq_iff_iff, List.all_eq_true, List.all_eq_true]
  constructor
  · intro h x hx
    obtain ⟨i, hi, rfl⟩ := List.mem_iff_getElem.mp hx
    have := h i (List.mem_range.mpr hi)
    rw [List.getD_eq_getElem?_getD] at this
    simpa [hi] using this
  · intro h i hi
    have hi' := List.mem_range.mp hi
    rw [List.getD_eq_getElem?_getD]
    have := h bs[i] (List.getElem_mem hi')
    simpa [hi'] using this
theorem any_range (bs : List Bool) : ∀ n, n = bs.length → (List.range n).any (fun i => bs.getD i true) = bs.any id := by
  intro n hn
  subst hn
  rw [Bool.eq_iff_iff, List.any_eq_true, List.any_eq_true]
  constructor
  · rintro ⟨i, hi, h⟩
    have hi' := List.mem_range.mp hi
    rw [List.getD_eq_getElem?_getD] at h
    exact ⟨bs[i], List.getElem_mem hi', by simpa [hi'] using h⟩
  · rintro ⟨x, hx, h⟩
    obtain ⟨i, hi, rfl⟩ := List.mem_iff_getElem.mp hx
    refine ⟨i, List.mem_range.mpr hi, ?_⟩
    rw [List.getD_eq_getElem?_getD]
    simpa [hi] using h

theorem call_all (hc : X.calm = true) : CallR X (.builtin "all") (fun xs H Q => ∃ (p : Addr) (bs : List Bool), xs = [.ref p] ∧ SqL X.K H p (bs.map V.bl) ∧ Q (.bl (bs.all id)) H) := by
  intro pins s σ H xs us Q I r h
  obtain ⟨p, bs, rfl, hq, q⟩ := h
  obtain ⟨u, rfl, ru⟩ := vals1 r
  cases ru
  obtain ⟨its, rv, pl, hz⟩ := I.list hq
  obtain ⟨o, e, _⟩ := pl.isList
  have hl := rv.length
  rw [List.length_map] at hl
  refine call_all_walk (wpAny_pyIter_list pl.isList ?_)
  refine ⟨s.heap.objs.size, _, _, _, _, _, fun i => bs.getD i true, rfl, Walks.list (A := X.A.in1) (I.ok.hd hc) s.heap.objs.size p (Nat.ne_of_lt (Heap.lt_size e)) its.toArray, ⟨⟨_, Heap.get?_push_size _ rfl, rfl, rfl⟩, pl.isList.push _⟩, fun i v s' Q' E' hP hQ => ?_, fun h' tk kp => ?_⟩
  · rw [bl_at rv hP]
    exact wpAny_truthy_bool hQ
  · have e1 : (List.range its.toArray.size).all (fun i => bs.getD i true) = bs.all id := all_range bs _ (by rw [List.size_toArray]; omega)
    rw [e1]
    exact ⟨.bl _, H, I.kept (t' := tk) fun b ob q => kp b ob (fun z => absurd (List.mem_singleton.mp z) (Nat.ne_of_lt (Heap.lt_size q))) (Heap.get?_push_of_some _ q), rfl, q⟩
theorem call_any (hc : X.calm = true) : CallR X (.builtin "any") (fun xs H Q => ∃ (p : Addr) (bs : List Bool), xs = [.ref p] ∧ SqL X.K H p (bs.map V.bl) ∧ Q (.bl (bs.any id)) H) := by
  intro pins s σ H xs us Q I r h
  obtain ⟨p, bs, rfl, hq, q⟩ := h
  obtain ⟨u, rfl, ru⟩ := vals1 r
  cases ru
  obtain ⟨its, rv, pl, hz⟩ := I.list hq
  obtain ⟨o, e, _⟩ := pl.isList
  have hl := rv.length
  rw [List.length_map] at hl
  refine call_any_walk (wpAny_pyIter_list pl.isList ?_)
  refine ⟨s.heap.objs.size, _, _, _, _, _, fun i => bs.getD i true, rfl, Walks.list (A := X.A.in1) (I.ok.hd hc) s.heap.objs.size p (Nat.ne_of_lt (Heap.lt_size e)) its.toArray, ⟨⟨_, Heap.get?_push_size _ rfl, rfl, rfl⟩, pl.isList.push _⟩, fun i v s' Q' E' hP hQ => ?_, fun h' tk kp => ?_⟩
  · rw [bl_at rv hP]
    exact wpAny_truthy_bool hQ
  · have e1 : (List.range its.toArray.size).any (fun i => bs.getD i true) = bs.any id := any_range bs _ (by rw [List.size_toArray]; omega)
    rw [e1]
    exact ⟨.bl _, H, I.kept (t' := tk) fun b ob q => kp b ob (fun z => absurd (List.mem_singleton.mp z) (Nat.ne_of_lt (Heap.lt_size q))) (Heap.get?_push_of_some _ q), rfl, q⟩

/-! ### sum, min of ints -/
theorem call_sumI (hc : X.calm = true) : CallR X (.builtin "sum") (fun xs H Q => ∃ (p : Addr) (ns : List Int), xs = [.ref p] ∧ SqL X.K H p (ns.map V.int) ∧ Q (.int ns.sum) H) := by
  intro pins s σ H xs us Q I r h
  obtain ⟨p, ns, rfl, hq, q⟩ := h
  obtain ⟨u, rfl, ru⟩ := vals1 r
  cases ru
  obtain ⟨its, rv, pl, hz⟩ := I.list hq
  obtain ⟨o, e, _⟩ := pl.isList
  have hl := rv.length
  rw [List.length_map] at hl
  refine call_sum_walkG (wpAny_pyIter_list pl.isList ?_)
  refine ⟨s.heap.objs.size, _, _, _, _, _, fun i => ns.getD i 0, rfl, Walks.list (A := X.A.in1) (I.ok.hd hc) s.heap.objs.size p (Nat.ne_of_lt (Heap.lt_size e)) its.toArray, ⟨⟨_, Heap.get?_push_size _ rfl, rfl, rfl⟩, pl.isList.push _⟩, fun b hb => ?_, fun i v hP => ?_, fun h' tk t' kp => ?_⟩
  · rw [Heap.size_push]
    simp only [List.mem_cons, List.not_mem_nil, or_false] at hb
    rcases hb with rfl | rfl
    · exact Nat.lt_succ_self _
    · exact Nat.lt_succ_of_lt (Heap.lt_size e)
  · have hP' : its[i]? = some v := by simpa using hP
    have hi : i < its.length := (List.getElem?_eq_some_iff.mp hP').1
    have hb : (ns.map V.int)[i]? = some (.int (ns.getD i 0)) := by
      rw [List.getElem?_map, List.getD_eq_getElem?_getD]
      have : i < ns.length := by omega
      simp [this]
    obtain ⟨u, e, ru⟩ := rv.get hb
    rw [hP'] at e
    cases e
    exact ru
  · have e1 : preSum (fun i => ns.getD i 0) its.toArray.size = ns.sum := by
      rw [preSum_getD, List.size_toArray, ← hl, List.take_length]
    rw [e1]
    exact ⟨.int _, H, I.kept (t' := tk) fun b ob q => kp b ob (fun z => absurd (List.mem_singleton.mp z) (Nat.ne_of_lt (Heap.lt_size q))) (Heap.get?_push_of_some _ q), ⟨_, rfl⟩, q⟩

theorem call_minI (hc : X.calm = true) : CallR X (.builtin "min") (fun xs H Q => ∃ (p : Addr) (ns : List Int), xs = [.ref p] ∧ SqL X.K H p (ns.map V.int) ∧ ns ≠ [] ∧ ∀ M, M ∈ ns → (∀ a ∈ ns, M ≤ a) → Q (.int M) H) := by
  intro pins s σ H xs us Q I r h
  obtain ⟨p, ns, rfl, hq, hne, q⟩ := h
  obtain ⟨u, rfl, ru⟩ := vals1 r
  cases ru
  obtain ⟨its, rv, pl, hz⟩ := I.list hq
  have hi := intsAre_of rv
  obtain ⟨ps, e⟩ := hi.allInts.items
  have en : ns = ps.toList.map (·.1) := by
    have e2 := nums_intItems ps
    rw [← e] at e2
    exact hi.numsOf.symm.trans e2
  have hsz : 0 < ps.size := by
    rcases Nat.eq_zero_or_pos ps.size with z | z
    · exfalso
      apply hne
      rw [en, List.map_eq_nil_iff, ← List.length_eq_zero_iff, Array.length_toList, z]
    · exact z
  have pl2 := pl.isList
  rw [e] at pl2
  refine min_intList (I.ok.hd hc) pl2 hsz fun v h' tk hv kp => ?_
  obtain ⟨t, rfl⟩ := intItems_at hv
  obtain ⟨b1, b2⟩ := argBest_lt (numAt ps) (ps.size - 1)
  have len : (ps.toList.map (·.1)).length = ps.size := by rw [List.length_map, Array.length_toList]
  refine ⟨.int _, H, I.kept (t' := tk) kp, ⟨_, rfl⟩, q _ ?_ fun a ha => ?_⟩
  · rw [numAt_eq, ← en]
    refine PySem.getD_mem ?_
    rw [en, len]
    omega
  · rw [en] at ha
    obtain ⟨j, hj, rfl⟩ := PySem.mem_getD ha
    rw [len] at hj
    rw [← numAt_eq]
    exact b2 j (by omega)

/-! ### isinstance -/
def clsOf : V → Option Value
  | .ty n => some (.type n)
  | .ref a => some (.ref a)
  | _ => none
def rIsi (K : PySem.W.Frag) (xs : List V) (H : Hp) (Q : VK) : Prop := ∃ x c cv t b, xs = [x, c] ∧ clsOf c = some cv ∧ TyOf K H x t ∧ PySem.W.kitOne K t cv = some b ∧ Q (.bl b) H
theorem call_isinst : CallR X (.builtin "isinstance") (rIsi X.K) := by
  intro pins s σ H xs us Q I r h
  obtain ⟨x, c, cv, t, b, rfl, hcv, ty, e, q⟩ := h
  obtain ⟨u, w', rfl, ru, rw'⟩ := vals2 r
  have ec : w' = cv := by
    cases c with
    | ty n => cases hcv; exact rw'
    | ref a => cases hcv; exact rw'
    | _ => cases hcv
  subst ec
  exact isinst_ok I ru ty e fun tk => ⟨.bl b, H, I.tok tk, rfl, q⟩

/-! ### x is True, x is False -/
theorem op_isB : OpR X (compareOp .Is) (fun x y H Q => ∃ a b, x = .bl a ∧ y = .bl b ∧ Q (.bl (a == b)) H) := by
  intro pins s σ H x y v u Q I rx ry h
  obtain ⟨a, b, rfl, rfl, q⟩ := h
  cases rx
  cases ry
  exact is_bool ⟨.bl _, H, I, rfl, q⟩
theorem op_isnotB : OpR X (compareOp .IsNot) (fun x y H Q => ∃ a b, x = .bl a ∧ y = .bl b ∧ Q (.bl (a != b)) H) := by
  intro pins s σ H x y v u Q I rx ry h
  obtain ⟨a, b, rfl, rfl, q⟩ := h
  cases rx
  cases ry
  exact isnot_bool ⟨.bl _, H, I, rfl, q⟩
end

/-! ### values read as data -/
mutual
inductive RdV (K : PySem.W.Frag) (H : Hp) : V → PyData → Prop
  | non : RdV K H .non .none
  | bl (b : Bool) : RdV K H (.bl b) (.bool b)
  | int (i : Int) : RdV K H (.int i) (.int i)
  | str (x : Str) : RdV K H (.str x) (.str x)
  | lst {a : Addr} {xs : List V} {ds : List PyData} : SqL K H a xs → RdVs K H xs ds → RdV K H (.ref a) (.list ds)
  | tup {a : Addr} {xs : List V} {ds : List PyData} : SqT K H a xs → RdVs K H xs ds → RdV K H (.ref a) (.tuple ds)
inductive RdVs (K : PySem.W.Frag) (H : Hp) : List V → List PyData → Prop
  | nil : RdVs K H [] []
  | cons {x : V} {d : PyData} {xs : List V} {ds : List PyData} : RdV K H x d → RdVs K H xs ds → RdVs K H (x :: xs) (d :: ds)
end
section
variable {X : Cx} {pins : List (Addr × Obj)} {σ : St} {H : Hp} {s : Shared}
mutual
theorem RdV.reads (I : Inv X pins σ H s) : ∀ {v : V} {d : PyData} {u : Value}, RdV X.K H v d → RelV v u → ∃ as, Reads s.heap u d as
  | _, _, u, .non, r => by cases (show u = Value.none from r); exact ⟨_, .none⟩
  | _, _, u, .bl b, r => by cases (show u = Value.bool b from r); exact ⟨_, .bool b⟩
  | _, _, u, .int i, r => by obtain ⟨t, rfl⟩ := (show ∃ t, u = Value.int i t from r); exact ⟨_, .int i t⟩
  | _, _, u, .str x, r => by obtain ⟨t, rfl⟩ := (show ∃ t, u = Value.str x t from r); exact ⟨_, .str x t⟩
  | _, _, u, .lst (a := a) q rs, r => by
    cases (show u = Value.ref a from r)
    obtain ⟨its, rv, pl, _⟩ := I.list q
    obtain ⟨as, ra⟩ := RdVs.reads I rs rv
    obtain ⟨o, e, c, n, d⟩ := pl.isList
    exact ⟨_, .list e c d (by simpa using ra)⟩
  | _, _, u, .tup (a := a) q rs, r => by
    cases (show u = Value.ref a from r)
    obtain ⟨its, rv, pl, _⟩ := I.tuple q
    obtain ⟨as, ra⟩ := RdVs.reads I rs rv
    obtain ⟨o, e, c, n, d⟩ := pl
    exact ⟨_, .tuple e c d (by simpa using ra)⟩
theorem RdVs.reads (I : Inv X pins σ H s) : ∀ {vs : List V} {ds : List PyData} {us : List Value}, RdVs X.K H vs ds → Vals vs us → ∃ as, ReadsAll s.heap us ds as
  | _, _, _, .nil, r => by cases r; exact ⟨_, .nil⟩
  | _, _, _, .cons h t, r => by
    cases r with
    | cons r1 r2 =>
      obtain ⟨as, h1⟩ := RdV.reads I h r1
      obtain ⟨bs, h2⟩ := RdVs.reads I t r2
      exact ⟨_, .cons h1 h2⟩
end
end
mutual
theorem RdV.same {K : PySem.W.Frag} {H H' : Hp} (e : Same H H') : ∀ {v : V} {d : PyData}, RdV K H v d → RdV K H' v d
  | _, _, .non => .non
  | _, _, .bl b => .bl b
  | _, _, .int i => .int i
  | _, _, .str x => .str x
  | _, _, .lst q rs => .lst (e.seq q) (RdVs.same e rs)
  | _, _, .tup q rs => .tup (by
      rcases q with (h | ⟨o, h⟩) | h
      · exact .inl (.inl (e _ _ h))
      · exact .inl (.inr ⟨o, e _ _ h⟩)
      · exact .inr h) (RdVs.same e rs)
theorem RdVs.same {K : PySem.W.Frag} {H H' : Hp} (e : Same H H') : ∀ {vs : List V} {ds : List PyData}, RdVs K H vs ds → RdVs K H' vs ds
  | _, _, .nil => .nil
  | _, _, .cons h t => .cons (RdV.same e h) (RdVs.same e t)
end
theorem RdVs.ints {K : PySem.W.Frag} {H : Hp} : ∀ ns : List Int, RdVs K H (ns.map V.int) (ns.map PyData.int)
  | [] => .nil
  | n :: r => .cons (.int n) (RdVs.ints r)
/-- a list of ints as data -/
abbrev dI (ns : List Int) : PyData := .list (ns.map PyData.int)
theorem RdV.ints {K : PySem.W.Frag} {H : Hp} {a : Addr} {ns : List Int} (h : SqL K H a (ns.map V.int)) : RdV K H (.ref a) (dI ns) := .lst h (RdVs.ints ns)

/-! ### == and != of any data -/
def rEqD (K : PySem.W.Frag) (neg : Bool) : R2 := fun x y H Q => ∃ d e, RdV K H x d ∧ RdV K H y e ∧ SeqAt.shaped d = true ∧ SeqAt.shaped e = true ∧ Q (.bl (if neg then !PyData.eqv d e else PyData.eqv d e)) H
section
variable {X : Cx}
theorem op_eqD (hu : X.A.units + 64 < cLine) : OpR X (compareOp .Eq) (rEqD X.K false) := by
  intro pins s σ H x y v u Q I rx ry h
  obtain ⟨d, e, h1, h2, h3, h4, q⟩ := h
  obtain ⟨as, r1⟩ := h1.reads I rx
  obtain ⟨bs, r2⟩ := h2.reads I ry
  exact eq_dataH r1 r2 h3 h4 hu ⟨.bl _, H, I, rfl, q⟩
theorem op_neD (hu : X.A.units + 64 < cLine) : OpR X (compareOp .NotEq) (rEqD X.K true) := by
  intro pins s σ H x y v u Q I rx ry h
  obtain ⟨d, e, h1, h2, h3, h4, q⟩ := h
  obtain ⟨as, r1⟩ := h1.reads I rx
  obtain ⟨bs, r2⟩ := h2.reads I ry
  exact ne_dataH r1 r2 h3 h4 hu ⟨.bl _, H, I, rfl, q⟩
/-- ints, bools, texts by themselves; else as data -/
theorem op_eqG (hu : X.A.units + 64 < cLine) : OpR X (compareOp .Eq) (fun x y H Q => rEq x y H Q ∨ rEqD X.K false x y H Q) := op_eq.or (op_eqD hu)
theorem op_neG (hu : X.A.units + 64 < cLine) : OpR X (compareOp .NotEq) (fun x y H Q => rNe x y H Q ∨ rEqD X.K true x y H Q) := op_ne.or (op_neD hu)

/-! ### in, not in: any data -/
def rInD (K : PySem.W.Frag) (neg : Bool) : R2 := fun x y H Q => ∃ p xs d ds, y = .ref p ∧ (SqL K H p xs ∨ SqT K H p xs) ∧ RdV K H x d ∧ RdVs K H xs ds ∧ SeqAt.shaped d = true ∧ (∀ e ∈ ds, SeqAt.shaped e = true) ∧
  Q (.bl (if neg then !(ds.any fun e => PyData.eqv e d) else ds.any fun e => PyData.eqv e d)) H
end

/-! ### slices with a step -/
def pickV (xs : List V) (lo hi st : Option Int) : List V := (sliceRange (sliceBounds lo hi st xs.length).1 (sliceBounds lo hi st xs.length).2.1 (sliceBounds lo hi st xs.length).2.2).filterMap fun i => xs[i]?
theorem Vals.pick {xs : List V} {us : List Value} (r : Vals xs us) : ∀ l : List Nat, Vals (l.filterMap fun i => xs[i]?) (l.filterMap fun i => us[i]?)
  | [] => .nil
  | i :: t => by
    rw [List.filterMap_cons, List.filterMap_cons]
    cases hx : xs[i]? with
    | none =>
      rw [r.none_of hx]
      exact Vals.pick r t
    | some x =>
      obtain ⟨u, hu, ru⟩ := r.get hx
      rw [hu]
      exact .cons ru (Vals.pick r t)
theorem pickV_eq {xs : List V} {its : List Value} (r : Vals xs its) (lo hi st : Option Int) : Vals (pickV xs lo hi st) (slicePick its.toArray lo hi st).toList := by
  unfold pickV slicePick
  rw [List.size_toArray, r.length]
  simp only [List.getElem?_toArray]
  exact r.pick _
section
variable {X : Cx} {e : Expr} {te : TE} {lo hi : Option Expr} {st : Expr} {tl th : TO} {ts : TE} {pos p2 : Pos}
def Sl3K (K : PySem.W.Frag) (x : V) (l u : Option Int) (z : V) (H4 : Hp) (Q : VK) : Prop := ∃ k a xs, z = .int k ∧ k ≠ 0 ∧ x = .ref a ∧ SqL K H4 a xs ∧ ∀ p, H4 p = none → Q (.ref p) (upd H4 p (.lst (pickV xs l u (some k))))
def tSl3 (K : PySem.W.Frag) (te : TE) (tl th : TO) (ts : TE) : TE := fun σ H Q => te σ H fun x H1 => tl σ H1 fun l H2 => th σ H2 fun u H3 => ts σ H3 fun z H4 => Sl3K K x l u z H4 Q
/-- xs[lo:hi:step] of a list -/
theorem pe_slice3 (he : PE X e te) (hl : PO X lo tl) (hu : PO X hi th) (hst : PE X st ts) : PE X (.Subscript e (.Slice lo hi (some st) p2) pos) (tSl3 X.K te tl th ts) := by
  intro pins s σ H Q I h
  refine Subscript_ (thn (he pins s σ H _ I h) fun v s1 ⟨x, H1, I1, r1, q1⟩ => ?_)
  refine wpAny_Slice (thn (hl pins s1 σ H1 _ I1 q1) fun vl s2 ⟨l, H2, I2, pl, q2⟩ => thn (hu pins s2 σ H2 _ I2 q2) fun vu s3 ⟨u, H3, I3, pu, q3⟩ => ?_)
  rw [evalPart_some]
  refine thn (hst pins s3 σ H3 _ I3 q3) fun vk s4 ⟨z, H4, I4, r4, q4⟩ => ?_
  obtain ⟨k, a, xs, rfl, hk, rfl, hq, q⟩ := q4
  obtain ⟨tk, rfl⟩ := r4
  cases r1
  have I5 : Inv X pins σ H4 { s4 with heap := s4.heap.push { cls := .type "slice", data := .fields #[vl, vu, .int k tk] } } := I4.kept (t' := s4.toks) fun b ob w' => Heap.get?_push_of_some _ w'
  obtain ⟨its, rv, pt, hz⟩ := I5.list hq
  have hlen := rv.length
  show wpAny (model X.prog X.w) X.A (subscriptTail e (.Slice lo hi (some st) p2) (.ref a) (.ref s4.heap.objs.size)) (EP X pins σ Q) X.xe _
  refine tail_any (ops := [.ref a, .ref s4.heap.objs.size]) pt.isList.typeIs slot_list_getitem.lookup ?_ (by with_unfolding_all rfl)
  refine wpAny_getItem_list_slice pt.isList (Heap.IsSliceOf.new ..) pl pu (.int k tk) (by simpa using hk) ?_ (by rw [List.size_toArray] <;> omega)
  refine ⟨.ref _, _, I5.laid (t' := s4.toks) (o := .lst (pickV xs l u (some k))) (fun b ob w' => Heap.get?_push_of_some _ w') (Nat.le_refl _) ?_, rfl, q _ (I5.hok.fresh (Nat.le_refl _))⟩
  have pv := pickV_eq rv l u (some k)
  have e2 : (slicePick its.toArray l u (some k)).toList.toArray = slicePick its.toArray l u (some k) := by simp
  refine ⟨?_, _, 0, pv, by rw [e2]; exact Heap.get?_push_size _ rfl⟩
  have sz := slicePick_size_le its.toArray l u (some k)
  have e1 := pv.length
  have e3 : (slicePick its.toArray l u (some k)).toList.length = (slicePick its.toArray l u (some k)).size := by simp
  have e4 : its.toArray.size = its.length := by simp
  rw [e3] at e1
  rw [e4] at sz
  rw [e1]
  exact Nat.le_trans sz (by rw [← hlen]; exact hz)
end
end L2
set_option maxRecDepth 100000
set_option maxHeartbeats 4000000
/-! Rules by any kind of value, small words. -/
namespace L2
open PySem PySem.Spec PyProof.Rows
section
variable {X : Cx} {a b e : Expr} {ta tb te : TE} {pos : Pos}

/-- a built-in type by its name; a def or class of the text as a value -/
theorem pe_bty {x : Str} {n : String} {pos : Pos} (hg : Gl X x) (hm : X.mg x = none) (hv : bootBuiltins x = some (.type n)) (hn : x ≠ "__name__" := by decide) (hd : (x == ("__debug__" : Str)) = false := by decide) : PE X (.Name x pos) (tC (.ty n)) := pe_bltn hg hm hv rfl hn hd
theorem pe_gref {x : Str} {c : Addr} {pos : Pos} (hg : Gl X x) (hm : X.mg x = some (.ref c)) (hd : (x == ("__debug__" : Str)) = false := by decide) : PE X (.Name x pos) (tC (.ref c)) := pe_glob hg hm rfl hd
/-- two readings of one expression -/
theorem pe_or2 {t u : TE} (h : PE X e t) (h' : PE X e u) : PE X e (fun σ H Q => t σ H Q ∨ u σ H Q) := by
  intro pins s σ H Q I q
  rcases q with q | q
  · exact h pins s σ H Q I q
  · exact h' pins s σ H Q I q
def rAddG : R2 := fun x y H Q => rI0 (fun i j => .int (i + j)) x y H Q ∨ rCat x y H Q
theorem op_addG : OpR X (binaryOp .Add) rAddG := op_add.or op_cat
theorem op_mulG : OpR X (binaryOp .Mult) (rI IntMulOk fun i j => .int (i * j)) := opI fun _ _ _ _ _ _ _ hc q => mul_int q hc
def rIxG (K : PySem.W.Frag) : R2 := fun x y H Q => rIxL K x y H Q ∨ rIxT K x y H Q
theorem ix_G : IxR X (rIxG X.K) := ix_list.or ix_tup
def rLenG (K : PySem.W.Frag) : List V → Hp → VK → Prop := fun xs H Q => (∃ p ys, xs = [.ref p] ∧ (SqL K H p ys ∨ SqT K H p ys) ∧ Q (.int ys.length) H) ∨ (∃ a kvs, xs = [V.ref a] ∧ H a = some (.dK kvs) ∧ Q (.int kvs.length) H)
theorem len_G : CallR X (.builtin "len") (rLenG X.K) := call_len_seq.or call_lenD
def rIsG : R2 := fun x y H Q => (∃ a b, x = .bl a ∧ y = .bl b ∧ Q (.bl (a == b)) H) ∨ (y = .non ∧ Q (.bl (decide (x = .non))) H)
theorem op_isG : OpR X (compareOp .Is) rIsG := op_isB.or op_isN
def rIsnotG : R2 := fun x y H Q => (∃ a b, x = .bl a ∧ y = .bl b ∧ Q (.bl (a != b)) H) ∨ (y = .non ∧ Q (.bl (!decide (x = .non))) H)
theorem op_isnotG : OpR X (compareOp .IsNot) rIsnotG := op_isnotB.or op_notN
end

/-! ### a block's text, reckoned -/
def blockOk (env : List (Str × NameKind)) (XN N : List Str) (scope : Scope) (k : Nat) (caps : List Nat) : Bool :=
  (match scope.kind with | .function => true | _ => false) &&
  scope.names.all (fun y => (match y.2 with
    | .cell => false
    | .free => (match env.lookup y.1 with | some .cell => true | some .free => true | _ => false)
    | .local => (match scope.names.lookup y.1 with | some .local => true | _ => false)
    | _ => true)) &&
  Nat.beq N.length (k + caps.length) &&
  (List.range caps.length).all fun i => match caps[i]? with
    | some j => (match N[k + i]?, XN[j]? with
      | some x, some y => decide (x = y) && (match scope.names.lookup x with | some .free => true | _ => false)
      | _, _ => false)
    | none => false
theorem Block.of {X : Cx} {N : List Str} {scope : Scope} {k : Nat} {caps : List Nat} (h : blockOk X.env.scope.names X.N N scope k caps = true) : Block X N scope k caps := by
  unfold blockOk at h
  simp only [Bool.and_eq_true] at h
  obtain ⟨⟨⟨h1, h2⟩, h3⟩, h4⟩ := h
  have h2 := List.all_eq_true.mp h2
  have h4 := List.all_eq_true.mp h4
  refine ⟨?_, fun y hy => ?_, fun y hy e => ?_, fun y hy e => ?_, Nat.eq_of_beq_eq_true h3, fun i j hj => ?_⟩
  · revert h1
    cases scope.kind <;> intro h1 <;> first | rfl | cases h1
  · have := h2 y hy
    intro e
    rw [e] at this
    cases this
  · have := h2 y hy
    rw [e] at this
    simp only at this
    revert this
    cases X.env.scope.names.lookup y.1 with
    | none => intro z; cases z
    | some q => cases q <;> intro z <;> first | exact .inl rfl | exact .inr rfl | cases z
  · have := h2 y hy
    rw [e] at this
    simp only at this
    revert this
    cases scope.names.lookup y.1 with
    | none => intro z; cases z
    | some q => cases q <;> intro z <;> first | rfl | cases z
  · have hi : i < caps.length := (List.getElem?_eq_some_iff.mp hj).1
    have := h4 i (List.mem_range.mpr hi)
    rw [hj] at this
    simp only at this
    revert this
    cases hN : N[k + i]? with
    | none => intro z; cases z
    | some x =>
      cases hX : X.N[j]? with
      | none => intro z; cases z
      | some y =>
        intro z
        simp only [Bool.and_eq_true, decide_eq_true_eq] at z
        obtain ⟨z1, z2⟩ := z
        refine ⟨x, rfl, by rw [z1], ?_⟩
        revert z2
        cases scope.names.lookup x with
        | none => intro z; cases z
        | some q => cases q <;> intro z <;> first | rfl | cases z

/-! ### a, b, c = x, y, z of plain local names -/
section
variable {X : Cx} {pos : Pos}
def tPar3 (i j k : Nat) (ta : TA) : TS := fun D σ H => ta σ H fun vs H1 => ∃ u v w, vs = [u, v, w] ∧ D.nx (((σ.set i (some u)).set j (some v)).set k (some w)) H1
theorem ps_par3 {i j k : Nat} {x y z : Str} {a b c : Expr} {ta : TA} {px py pz pt : Pos} {kt k2 pt2} (hc : X.calm = true) (hN : X.N.Nodup) (hi : X.N[i]? = some x) (hj : X.N[j]? = some y) (hk : X.N[k]? = some z) (hij : i ≠ j) (hik : i ≠ k) (hjk : j ≠ k)
    (hx : X.env.scope.names.lookup x = some .local) (hy : X.env.scope.names.lookup y = some .local) (hz : X.env.scope.names.lookup z = some .local) (ha : PA X [a, b, c] ta)
    (hw : swappedStores [.Tuple [.Name x px, .Name y py, .Name z pz] kt pt] (.Tuple [a, b, c] k2 pt2) X.env = pure (some [x, y, z]))
    (hs : swapsWithSole [.Tuple [.Name x px, .Name y py, .Name z pz] kt pt] (.Tuple [a, b, c] k2 pt2) pos.line X.env = pure false := by rfl) :
    PS X (.Assign [.Tuple [.Name x px, .Name y py, .Name z pz] kt pt] (.Tuple [a, b, c] k2 pt2) pos) (tPar3 i j k ta) := by
  intro pins s σ H D I h
  rw [exec_Assign_arm]
  refine wpAny_bind (wpAny_standAt ?_)
  rw [hs]
  refine wpAny_bind (wpAny_pure ?_)
  rw [if_neg (by decide)]
  refine wpAny_bind (Tuple_ (thn (ha _ pins s σ H _ I h) fun us s1 ⟨vs, H1, I1, r1, q1⟩ => ?_))
  obtain ⟨v1, v2, v3, e1, q1⟩ := q1
  subst e1
  obtain ⟨u1, u2, u3, rfl, r1, r2, r3⟩ : ∃ u1 u2 u3, us = [u1, u2, u3] ∧ RelV v1 u1 ∧ RelV v2 u2 ∧ RelV v3 u3 := by
    cases r1 with
    | cons p q =>
      cases q with
      | cons p' q' =>
        cases q' with
        | cons p'' q'' =>
          cases q''
          exact ⟨_, _, _, rfl, p, p', p''⟩
  refine wpAny_newObj_type ?_ (by show 3 ≤ sizeLine; decide)
  have I2 : Inv X pins σ H1 { s1 with heap := s1.heap.push { cls := .type "tuple", data := .seq [u1, u2, u3].toArray } } := I1.kept (t' := s1.toks) fun b o e => Heap.get?_push_of_some _ e
  rw [hw]
  refine wpAny_bind (wpAny_pure ?_)
  show wpAny (model X.prog X.w) X.A (do rule "assign.swapped-stores"; let items ← unpackItems (.ref s1.heap.objs.size) 3 none; assignInOrder [fun v => bindName X.env z v, fun v => bindName X.env y v, fun v => bindName X.env x v] items.reverse; pure Flow.next) _ _ _
  refine wpAny_bind (wpAny_rule (wpAny_bind (unpackItems_tuple (items := #[u1, u2, u3]) (I.ok.hd hc) (IsTup.new s1.heap _) fun h' hx' => ?_)))
  have I3 := I2.kept (h' := h') (t' := s1.toks) fun b o e => hx' b o (Nat.ne_of_lt (Heap.lt_size e)) e
  show wpAny _ _ (assignInOrder [fun v => bindName X.env z v, fun v => bindName X.env y v, fun v => bindName X.env x v] [u3, u2, u1] >>= fun _ => pure Flow.next) _ _ _
  refine wpAny_bind (assignInOrder_cons (wpAny_bindName (store_ok I3 hN hk (.inl hz) r3 (fun s2 I4 => ?_) (.inr hz))))
  refine assignInOrder_cons (wpAny_bindName (store_ok I4 hN hj (.inl hy) r2 (fun s3 I5 => ?_) (.inr hy)))
  refine assignInOrder_cons (wpAny_bindName (store_ok I5 hN hi (.inl hx) r1 (fun s4 I6 => assignInOrder_nil (wpAny_pure ?_)) (.inr hx)))
  have e : ((σ.set k (some v3)).set j (some v2)).set i (some v1) = ((σ.set i (some v1)).set j (some v2)).set k (some v3) := by
    rw [List.set_comm _ _ (Ne.symm hjk), List.set_comm _ _ (Ne.symm hik), List.set_comm _ _ (Ne.symm hij)]
  rw [e] at I6
  exact ⟨_, H1, I6, q1⟩
end
end L2
set_option maxRecDepth 100000
set_option maxHeartbeats 4000000
/-! Reading a term of rules step by step: one lemma a shape. -/
namespace L2
open PySem PySem.Spec PyProof.Rows
section
variable {σ : St} {H H' : Hp} {Q : VK} {D : Ends} {K : PySem.W.Frag}

/-! ### facts about heaps -/
theorem upd_keep {q p : Addr} {u o : HO} (h : H q = some u) (hp : H p = none) : upd H p o q = some u := by rw [upd_ne (ne_of_none h hp)]; exact h
theorem upd_keepNe {q p : Addr} {u o : HO} (h : H q = some u) (hne : q ≠ p) : upd H p o q = some u := by rw [upd_ne hne]; exact h
theorem Same.at {q : Addr} {u : HO} (s : Same H H') (h : H q = some u) : H' q = some u := s q u h
theorem sq_keep {q p : Addr} {xs : List V} {o : HO} (h : SqL K H q xs) (hp : H p = none) : SqL K (upd H p o) q xs := (Same.upd_new hp).seq h
theorem sq_keepNe {q p : Addr} {xs : List V} {o : HO} (h : SqL K H q xs) (hne : q ≠ p) : SqL K (upd H p o) q xs := by
  rcases h with (h | ⟨u, h⟩) | h
  · exact .inl (.inl (upd_keepNe h hne))
  · exact .inl (.inr ⟨u, upd_keepNe h hne⟩)
  · exact .inr h
/-- all that was tracked, but what stands at l, is as it was -/
def SameBut (ls : List Addr) (H H' : Hp) : Prop := ∀ b o, H b = some o → b ∉ ls → H' b = some o
theorem Same.but {ls : List Addr} (s : Same H H') : SameBut ls H H' := fun b o h _ => s b o h
theorem SameBut.at {ls : List Addr} {q : Addr} {u : HO} (s : SameBut ls H H') (h : H q = some u) (hn : q ∉ ls) : H' q = some u := s q u h hn
theorem SameBut.seq {ls : List Addr} {q : Addr} {xs : List V} (s : SameBut ls H H') (h : SqL K H q xs) (hn : q ∉ ls) : SqL K H' q xs := by
  rcases h with (h | ⟨u, h⟩) | h
  · exact .inl (.inl (s _ _ h hn))
  · exact .inl (.inr ⟨u, s _ _ h hn⟩)
  · exact .inr h
theorem SameBut.upd {ls : List Addr} {p : Addr} {o : HO} (s : SameBut ls H H') (hp : p ∈ ls) : SameBut ls H (upd H' p o) := fun b u h hn => by
  rw [upd_ne (fun e => by subst e; exact hn hp)]; exact s b u h hn
theorem SameBut.new {ls : List Addr} {p : Addr} {o : HO} (s : SameBut ls H H') (hp : H' p = none) : SameBut ls H (L2.upd H' p o) := fun b u h hn => upd_keep (s b u h hn) hp
theorem SameBut.trans {ls : List Addr} {H1 H2 : Hp} (a : SameBut ls H H1) (b : SameBut ls H1 H2) : SameBut ls H H2 := fun c o h hn => b c o (a c o h hn) hn
theorem SameBut.ofNil (s : SameBut [] H H') : Same H H' := fun b o h => s b o h (by simp)

/-! ### structure -/
theorem r_seq {t u : TS} (h : t { D with nx := u D } σ H) : tSeq t u D σ H := h
theorem r_asg {te : TE} {g : TG} (h : te σ H fun x H1 => g x σ H1 D.nx) : tAsg te g D σ H := h
theorem r_name {i : Nat} {v : V} {R : St → Hp → Prop} (h : R (σ.set i (some v)) H) : gName i v σ H R := h
theorem r_ifs {c : TT} {t u : TS} (h : c σ H fun b H1 => if b = true then t D σ H1 else u D σ H1) : tIfS c t u D σ H := h
theorem r_ret {te : TE} (h : te σ H D.rt) : tRet te D σ H := h
theorem r_next (h : D.nx σ H) : tNext D σ H := h
theorem r_drop {te : TE} (h : te σ H fun _ H1 => D.nx σ H1) : tDrop te D σ H := h
theorem r_break (h : D.bk σ H) : tBreak D σ H := h
theorem r_cont (h : D.ct σ H) : tCont D σ H := h
theorem r_var {i : Nat} {v : V} (e : σ[i]? = some (some v)) (h : Q v H) : tVar i σ H Q := ⟨v, e, h⟩
theorem r_c {v : V} (h : Q v H) : tC v σ H Q := h
theorem r_op {r : R2} {ta tb : TE} (h : ta σ H fun x H1 => tb σ H1 fun y H2 => r x y H2 Q) : tOp r ta tb σ H Q := h
theorem r_un {r : V → Hp → VK → Prop} {ta : TE} (h : ta σ H fun x H1 => r x H1 Q) : tUn r ta σ H Q := h
theorem r_cb {r : List V → Hp → VK → Prop} {t : TA} (h : t σ H fun vs H1 => r vs H1 Q) : tCB r t σ H Q := h
theorem r_cons {ta : TE} {tr : TA} {R : List V → Hp → Prop} (h : ta σ H fun x H1 => tr σ H1 fun xs H2 => R (x :: xs) H2) : tCons ta tr σ H R := h
theorem r_nil {R : List V → Hp → Prop} (h : R [] H) : tNil σ H R := h
theorem r_test {t : TE} {R : Bool → Hp → Prop} (h : t σ H fun x H1 => ∃ k, x = .bl k ∧ R k H1) : tTest t σ H R := h
theorem r_tB {t : TE} {R : Bool → Hp → Prop} (h : t σ H fun x H1 => ∃ k, x = .bl k ∧ R k H1) : tB t σ H R := h
theorem r_bl {b : Bool} {R : Bool → Prop} (h : R b) : ∃ k, V.bl b = .bl k ∧ R k := ⟨b, rfl, h⟩
theorem r_not {t : TT} {R : Bool → Hp → Prop} (h : t σ H fun c H1 => R (!c) H1) : tNot t σ H R := h
theorem r_and {t u : TT} {R : Bool → Hp → Prop} (h : t σ H fun c H1 => if c = true then u σ H1 R else R false H1) : tAnd t u σ H R := h
theorem r_or {t u : TT} {R : Bool → Hp → Prop} (h : t σ H fun c H1 => if c = true then R true H1 else u σ H1 R) : tOr t u σ H R := h
theorem r_andV {ta tb : TE} (h : ta σ H fun x H1 => ∃ c, x = .bl c ∧ if c = true then tb σ H1 Q else Q (.bl false) H1) : tAndV ta tb σ H Q := h
theorem r_orV {ta tb : TE} (h : ta σ H fun x H1 => ∃ c, x = .bl c ∧ if c = true then Q (.bl true) H1 else tb σ H1 Q) : tOrV ta tb σ H Q := h
theorem r_notV {ta : TE} (h : ta σ H fun x H1 => ∃ c, x = .bl c ∧ Q (.bl (!c)) H1) : tNotV ta σ H Q := h
theorem r_ifE {t : TT} {ta tb : TE} (h : t σ H fun c H1 => if c = true then ta σ H1 Q else tb σ H1 Q) : tIf t ta tb σ H Q := h
theorem r_call {sp : Sp} {dvs : List V} {E : XK} {t : TA} (h : t σ H fun vs H1 => sp (vs ++ dvs) H1 Q E) : tCall sp dvs E t σ H Q := h
theorem r_chain {r r' : R2} {ta tb tc : TE} (h : ta σ H fun x H1 => tb σ H1 fun y H2 => r x y H2 fun z H3 => ∃ k, z = .bl k ∧ (if k = true then tc σ H3 fun w' H4 => r' y w' H4 Q else Q (.bl false) H3)) : tChain r r' ta tb tc σ H Q := h
def NewL (Q : VK) (xs : List V) (H1 : Hp) : Prop := xs.length ≤ sizeLine ∧ ∀ p, H1 p = none → Q (.ref p) (upd H1 p (.lst xs))
def NewT (Q : VK) (xs : List V) (H1 : Hp) : Prop := xs.length ≤ sizeLine ∧ ∀ p, H1 p = none → Q (.ref p) (upd H1 p (.tup xs))
theorem r_lst {t : TA} (h : t σ H fun xs H1 => NewL Q xs H1) : tLst t σ H Q := h
theorem r_tup {t : TA} (h : t σ H fun xs H1 => NewT Q xs H1) : tTup t σ H Q := h
theorem r_newL {xs : List V} (hn : xs.length ≤ 1000) (h : ∀ p, H p = none → Q (.ref p) (upd H p (.lst xs))) : NewL Q xs H := ⟨Nat.le_trans hn (by decide), h⟩
theorem r_newT {xs : List V} (hn : xs.length ≤ 1000) (h : ∀ p, H p = none → Q (.ref p) (upd H p (.tup xs))) : NewT Q xs H := ⟨Nat.le_trans hn (by decide), h⟩
theorem r_sl {r : V → Option Int → Option Int → Hp → VK → Prop} {te : TE} {tl th : TO} (h : te σ H fun x H1 => tl σ H1 fun l H2 => th σ H2 fun u H3 => r x l u H3 Q) : tSl r te tl th σ H Q := h
theorem r_part {t : TE} {R : Option Int → Hp → Prop} (h : t σ H fun x H1 => ∃ i, x = .int i ∧ R (some i) H1) : tPart t σ H R := h
theorem r_noPart {R : Option Int → Hp → Prop} (h : R none H) : tNoPart σ H R := h
theorem r_int {i : Int} {R : Int → Prop} (h : R i) : ∃ k, V.int i = .int k ∧ R k := ⟨i, rfl, h⟩
theorem r_comp {wi : TI} {g : TG} {ti : TT} {te : TE} {k : Nat} {caps : List Nat} (h : wi σ H fun J H1 => CompBody J g ti te k caps σ Q H1) : tComp wi g ti te k caps σ H Q := h
def ForBody (J : It) (g : TG) (tb : TS) (D : Ends) (σ : St) (H1 : Hp) : Prop := ∃ W : Nat → Nat → St → Hp → Prop, (∃ m, W 0 m σ H1) ∧ ∀ i m σ H, W i m σ H →
  (J.stop i H ∧ D.nx σ H) ∨ (J.go i H ∧ ∃ N : St → Hp → Prop, (∀ σ' H', N σ' H' → ∃ m', m' < m ∧ W (i + 1) m' σ' H') ∧ ∀ x H', J.yld i H x H' → g x σ H' fun σ2 H2 => tb { D with nx := N, ct := N, bk := D.nx } σ2 H2)
theorem r_for {wi : TI} {g : TG} {tb : TS} (h : wi σ H fun J H1 => ForBody J g tb D σ H1) : tFor wi g tb D σ H := h
def AtL (K : PySem.W.Frag) (R : It → Hp → Prop) (x : V) (H1 : Hp) : Prop := ∃ a, x = .ref a ∧ (∃ xs, SqL K H1 a xs) ∧ R (Itl K a) H1
theorem r_iList {tl : TE} {R : It → Hp → Prop} (h : tl σ H fun x H1 => AtL K R x H1) : iList K tl σ H R := h
theorem r_AtL {a : Addr} {xs : List V} {R : It → Hp → Prop} (hs : SqL K H a xs) (h : R (Itl K a) H) : AtL K R (.ref a) H := ⟨a, rfl, ⟨xs, hs⟩, h⟩
def AtZ (K : PySem.W.Frag) (R : It → Hp → Prop) (vs : List V) (H1 : Hp) : Prop := ∃ a b, vs = [.ref a, .ref b] ∧ (∃ xs, SqL K H1 a xs) ∧ (∃ ys, SqL K H1 b ys) ∧ R (Itz K a b) H1
theorem r_iZip {ta : TA} {R : It → Hp → Prop} (h : ta σ H fun vs H1 => AtZ K R vs H1) : iZip K ta σ H R := h
theorem r_AtZ {a b : Addr} {xs ys : List V} {R : It → Hp → Prop} (hs : SqL K H a xs) (ht : SqL K H b ys) (h : R (Itz K a b) H) : AtZ K R [.ref a, .ref b] H := ⟨a, b, rfl, ⟨xs, hs⟩, ⟨ys, ht⟩, h⟩
def AtE (K : PySem.W.Frag) (R : It → Hp → Prop) (vs : List V) (H1 : Hp) : Prop := ∃ a, vs = [.ref a] ∧ (∃ xs, SqL K H1 a xs) ∧ R (Ite K a) H1
theorem r_iEnum {ta : TA} {R : It → Hp → Prop} (h : ta σ H fun vs H1 => AtE K R vs H1) : iEnum K ta σ H R := h
theorem r_AtE {a : Addr} {xs : List V} {R : It → Hp → Prop} (hs : SqL K H a xs) (h : R (Ite K a) H) : AtE K R [.ref a] H := ⟨a, rfl, ⟨xs, hs⟩, h⟩
def AtR1 (R : It → Hp → Prop) (vs : List V) (H1 : Hp) : Prop := ∃ j : Int, vs = [.int j] ∧ -(2 ^ 62) ≤ j ∧ j < 2 ^ 62 ∧ R (Itr 0 j.toNat) H1
theorem r_iRng1 {ta : TA} {R : It → Hp → Prop} (h : ta σ H fun vs H1 => AtR1 R vs H1) : iRng1 ta σ H R := h
theorem r_AtR1 {j : Int} {R : It → Hp → Prop} (h1 : -1000000 ≤ j) (h2 : j ≤ 1000000) (h : R (Itr 0 j.toNat) H) : AtR1 R [.int j] H := ⟨j, rfl, by omega, by omega, h⟩
theorem r_gTup {n : Nat} {t : TGs} {T : Addr} {xs : List V} {R : St → Hp → Prop} (ht : H T = some (.tup xs)) (hn : xs.length = n) (h : t xs σ H R) : gTup K n t (.ref T) σ H R := ⟨T, xs, rfl, SqT.of ht, hn, h⟩
theorem r_gCons {t : TG} {u : TGs} {v : V} {r : List V} {R : St → Hp → Prop} (h : t v σ H fun σ' H' => u r σ' H' R) : gCons t u (v :: r) σ H R := ⟨v, r, rfl, h⟩
theorem r_gNil {R : St → Hp → Prop} (h : R σ H) : gNil [] σ H R := ⟨rfl, h⟩

/-! ### ints -/
theorem r_rI0 {g : Int → Int → V} {i j : Int} (h : Q (g i j) H) : rI0 g (.int i) (.int j) H Q := ⟨i, j, rfl, rfl, h⟩
theorem r_rI {C : Int → Int → Prop} {g : Int → Int → V} {i j : Int} (hc : C i j) (h : Q (g i j) H) : rI C g (.int i) (.int j) H Q := ⟨i, j, rfl, rfl, hc, h⟩
theorem r_rU {g : Int → V} {i : Int} (h : Q (g i) H) : rU g (.int i) H Q := ⟨i, rfl, h⟩
theorem r_addI {i j : Int} (h : Q (.int (i + j)) H) : rAddG (.int i) (.int j) H Q := .inl ⟨i, j, rfl, rfl, h⟩
theorem r_eqI {i j : Int} (h : Q (.bl (decide (i = j))) H) : rEq (.int i) (.int j) H Q ∨ rEqD K false (.int i) (.int j) H Q := .inl ⟨rfl, by
  have e : decide (V.int i = V.int j) = decide (i = j) := by rw [dec_int]; by_cases z : i = j <;> simp [z]
  rw [e]; exact h⟩
theorem r_neI {i j : Int} (h : Q (.bl (!decide (i = j))) H) : rNe (.int i) (.int j) H Q ∨ rEqD K true (.int i) (.int j) H Q := .inl ⟨rfl, by
  have e : decide (V.int i = V.int j) = decide (i = j) := by rw [dec_int]; by_cases z : i = j <;> simp [z]
  rw [e]; exact h⟩
theorem r_eqB {i j : Bool} (h : Q (.bl (i == j)) H) : rEq (.bl i) (.bl j) H Q ∨ rEqD K false (.bl i) (.bl j) H Q := .inl ⟨rfl, by rw [dec_bl]; exact h⟩
theorem r_neB {i j : Bool} (h : Q (.bl (!(i == j))) H) : rNe (.bl i) (.bl j) H Q ∨ rEqD K true (.bl i) (.bl j) H Q := .inl ⟨rfl, by rw [dec_bl]; exact h⟩
theorem r_isB {a b : Bool} (h : Q (.bl (a == b)) H) : rIsG (.bl a) (.bl b) H Q := .inl ⟨a, b, rfl, rfl, h⟩
theorem r_isnotB {a b : Bool} (h : Q (.bl (a != b)) H) : rIsnotG (.bl a) (.bl b) H Q := .inl ⟨a, b, rfl, rfl, h⟩

/-! ### lists -/
theorem r_lenL {p : Addr} {ys : List V} (hs : SqL K H p ys) (h : Q (.int ys.length) H) : rLenG K [.ref p] H Q := .inl ⟨p, ys, rfl, .inl hs, h⟩
theorem r_lenI {p : Addr} {ns : List Int} (hs : SqL K H p (ns.map V.int)) (h : Q (.int ns.length) H) : rLenG K [.ref p] H Q := r_lenL hs (by rw [List.length_map]; exact h)
theorem r_lenD {p : Addr} {kvs : List (Key × V)} (hs : H p = some (.dK kvs)) (h : Q (.int kvs.length) H) : rLenG K [.ref p] H Q := .inr ⟨p, kvs, rfl, hs, h⟩
theorem r_catI {l b : Addr} {xs zs : List Int} (h1 : H l = some (.lst (xs.map V.int))) (h2 : H b = some (.lst (zs.map V.int))) (hz : xs.length + zs.length ≤ 1000000) (h : ∀ p, H p = none → Q (.ref p) (upd H p (.lst ((xs ++ zs).map V.int)))) : rAddG (.ref l) (.ref b) H Q := by
  refine .inr ⟨l, b, _, _, rfl, rfl, h1, h2, ?_, fun p hp => ?_⟩
  · rw [List.length_map, List.length_map]; exact Nat.le_trans hz (by decide)
  · rw [← List.map_append]; exact h p hp
theorem atI_int {ns : List Int} {i : Int} (h0 : 0 ≤ i) (h1 : i < ns.length) : atI (ns.map V.int) i = some (.int (ns.getD i.toNat 0)) := by
  obtain ⟨j, rfl⟩ : ∃ j : Nat, i = j := ⟨i.toNat, by omega⟩
  have hj : j < ns.length := by omega
  refine atI_nat ?_
  rw [List.getElem?_map, Int.toNat_natCast, List.getD_eq_getElem?_getD]
  simp [hj]
theorem atI_lastI {ns : List Int} (h : ns ≠ []) : atI (ns.map V.int) (-1) = some (.int (ns.getLast h)) := by
  have e : ns.map V.int = (ns.dropLast).map V.int ++ [.int (ns.getLast h)] := by
    conv => lhs; rw [← List.dropLast_concat_getLast h]
    rw [List.map_append]; rfl
  rw [e]
  exact atI_last _ _
theorem r_ixI {p : Addr} {ns : List Int} {i : Int} (hs : SqL K H p (ns.map V.int)) (h0 : 0 ≤ i) (h1 : i < ns.length) (h : Q (.int (ns.getD i.toNat 0)) H) : rIxG K (.ref p) (.int i) H Q := .inl ⟨p, _, i, _, rfl, rfl, hs, atI_int h0 h1, h⟩
theorem r_ixLast {p : Addr} {ns : List Int} (hs : SqL K H p (ns.map V.int)) (hn : ns ≠ []) (h : Q (.int (ns.getLast hn)) H) : rIxG K (.ref p) (.int (-1)) H Q := .inl ⟨p, _, _, _, rfl, rfl, hs, atI_lastI hn, h⟩
theorem r_ixL {p : Addr} {xs : List V} {i : Int} {v : V} (hs : SqL K H p xs) (e : atI xs i = some v) (h : Q v H) : rIxG K (.ref p) (.int i) H Q := .inl ⟨p, _, i, _, rfl, rfl, hs, e, h⟩
theorem r_ixT {p : Addr} {xs : List V} {i : Int} {v : V} (hs : H p = some (.tup xs)) (e : atI xs i = some v) (h : Q v H) : rIxG K (.ref p) (.int i) H Q := .inr ⟨p, _, i, _, rfl, rfl, SqT.of hs, e, h⟩
theorem shaped_dI (ns : List Int) : SeqAt.shaped (dI ns) = true := PySem.W.ke_shaped_ints ns
theorem eqv_dI (xs ys : List Int) : PyData.eqv (dI xs) (dI ys) = decide (xs = ys) := by rw [PyData.eqv]; exact PySem.W.ked_eqvAll xs ys
theorem r_eqL {a b : Addr} {xs ys : List Int} (h1 : SqL K H a (xs.map V.int)) (h2 : SqL K H b (ys.map V.int)) (h : Q (.bl (decide (xs = ys))) H) : rEq (.ref a) (.ref b) H Q ∨ rEqD K false (.ref a) (.ref b) H Q :=
  .inr ⟨dI xs, dI ys, RdV.ints h1, RdV.ints h2, shaped_dI _, shaped_dI _, by rw [if_neg (by decide), eqv_dI]; exact h⟩
theorem r_neL {a b : Addr} {xs ys : List Int} (h1 : SqL K H a (xs.map V.int)) (h2 : SqL K H b (ys.map V.int)) (h : Q (.bl (!decide (xs = ys))) H) : rNe (.ref a) (.ref b) H Q ∨ rEqD K true (.ref a) (.ref b) H Q :=
  .inr ⟨dI xs, dI ys, RdV.ints h1, RdV.ints h2, shaped_dI _, shaped_dI _, by rw [if_pos rfl, eqv_dI]; exact h⟩
theorem inV_ints (x : Int) : ∀ ns : List Int, inV (.int x) (ns.map V.int) = decide (x ∈ ns)
  | [] => by simp [inV]
  | n :: r => by
    have ih := inV_ints x r
    unfold inV at ih ⊢
    rw [List.map_cons, List.any_cons, ih]
    show ((n == x) || _) = _
    by_cases e : n = x
    · subst e; simp
    · have e' : ¬ x = n := fun z => e z.symm
      simp [e, e']
theorem flat_ints : ∀ ns : List Int, (ns.map V.int).all flatV = true
  | [] => rfl
  | n :: r => by rw [List.map_cons, List.all_cons, flat_ints r]; rfl
theorem r_inI {p : Addr} {x : Int} {ns : List Int} (hs : SqL K H p (ns.map V.int)) (h : Q (.bl (decide (x ∈ ns))) H) : rIn K false (.int x) (.ref p) H Q := ⟨p, _, rfl, .inl hs, rfl, flat_ints ns, by rw [if_neg (by decide), inV_ints]; exact h⟩
theorem r_notInI {p : Addr} {x : Int} {ns : List Int} (hs : SqL K H p (ns.map V.int)) (h : Q (.bl (!decide (x ∈ ns))) H) : rIn K true (.int x) (.ref p) H Q := ⟨p, _, rfl, .inl hs, rfl, flat_ints ns, by rw [if_pos rfl, inV_ints]; exact h⟩
/-- xs[lo:hi] of ints -/
def cutI (xs : List Int) (lo hi : Option Int) : List Int := (xs.drop (HT.sIx xs.length 0 lo)).take (HT.sIx xs.length xs.length hi - HT.sIx xs.length 0 lo)
theorem cutV_ints (ns : List Int) (lo hi : Option Int) : cutV (ns.map V.int) lo hi = (cutI ns lo hi).map V.int := by
  unfold cutV cutI
  rw [List.length_map, List.map_take, List.map_drop]
theorem r_slI {a : Addr} {ns : List Int} {lo hi : Option Int} (hs : SqL K H a (ns.map V.int)) (h : ∀ p, H p = none → Q (.ref p) (upd H p (.lst ((cutI ns lo hi).map V.int)))) : rSlL K (.ref a) lo hi H Q := ⟨a, _, rfl, hs, fun p hp => by rw [cutV_ints]; exact h p hp⟩
theorem filt_range {α : Type} (ys : List α) : ∀ n, n ≤ ys.length → ((List.range n).filterMap fun k => ys[k]?) = ys.take n
  | 0, _ => by simp
  | n + 1, h => by
    rw [List.range_succ, List.filterMap_append, filt_range ys n (by omega), List.take_add_one]
    have hn : n < ys.length := by omega
    simp [hn]
theorem sr_rev (n : Nat) : sliceRange ((n : Int) - 1) (-1) (-1) = (List.range n).map fun k => n - 1 - k := by
  unfold sliceRange
  have e : (if ((-1 : Int) > 0) then (if ((n : Int) - 1 < -1) then ((-1) - ((n : Int) - 1) + (-1) - 1) / (-1) else 0) else (if ((n : Int) - 1 > -1) then ((n : Int) - 1 - (-1) - (-1) - 1) / (-(-1)) else 0)).toNat = n := by
    rw [if_neg (by decide)]
    have e1 : (-(-1) : Int) = 1 := by decide
    rw [e1, Int.ediv_one]
    split <;> omega
  simp only [e]
  refine List.map_congr_left fun k hk => ?_
  have := List.mem_range.mp hk
  omega
theorem filt_congr {α β : Type} {f g : α → Option β} : ∀ {l : List α}, (∀ x ∈ l, f x = g x) → l.filterMap f = l.filterMap g
  | [], _ => rfl
  | x :: r, h => by
    rw [List.filterMap_cons, List.filterMap_cons, h x List.mem_cons_self, filt_congr fun y hy => h y (List.mem_cons_of_mem _ hy)]
theorem pickV_rev (xs : List V) : pickV xs none none (some (-1)) = xs.reverse := by
  unfold pickV
  have eb : sliceBounds none none (some (-1)) xs.length = ((xs.length : Int) - 1, -1, -1) := PySem.W.krv_bounds _
  rw [eb]
  simp only
  rw [sr_rev, List.filterMap_map]
  have e : ((List.range xs.length).filterMap ((fun i => xs[i]?) ∘ fun k => xs.length - 1 - k)) = (List.range xs.length).filterMap fun k => xs.reverse[k]? := by
    refine filt_congr fun k hk => ?_
    have := List.mem_range.mp hk
    show xs[xs.length - 1 - k]? = _
    rw [List.getElem?_reverse (by omega)]
  rw [e, filt_range _ _ (by rw [List.length_reverse]; omega), ← List.length_reverse (as := xs), List.take_length]
/-- each second one, from the first on -/
def evens {α : Type} : List α → List α
  | [] => []
  | [x] => [x]
  | x :: _ :: r => x :: evens r
theorem evens_map {α β : Type} (f : α → β) : ∀ l : List α, evens (l.map f) = (evens l).map f
  | [] => rfl
  | [x] => rfl
  | x :: y :: r => by
    show f x :: evens (r.map f) = f x :: (evens r).map f
    rw [evens_map f r]
theorem evens_len {α : Type} : ∀ l : List α, (evens l).length ≤ l.length
  | [] => Nat.le_refl _
  | [x] => Nat.le_refl _
  | x :: y :: r => by
    have := evens_len r
    show (evens r).length + 1 ≤ r.length + 2
    omega
theorem filt_evens {α : Type} : ∀ (xs : List α), ((List.range ((xs.length + 1) / 2)).filterMap fun k => xs[2 * k]?) = evens xs
  | [] => by simp [evens]
  | [x] => by simp [evens, List.range_succ]
  | x :: y :: r => by
    have ih := filt_evens r
    have e : ((x :: y :: r).length + 1) / 2 = (r.length + 1) / 2 + 1 := by simp only [List.length_cons]; omega
    rw [e, List.range_succ_eq_map, List.filterMap_cons]
    show x :: _ = x :: evens r
    rw [← ih, List.filterMap_map]
    congr 1
theorem sr_two (a n : Nat) (h : a ≤ n) : sliceRange (a : Int) (n : Int) 2 = (List.range ((n - a + 1) / 2)).map fun k => a + 2 * k := by
  unfold sliceRange
  have e : (if ((2 : Int) > 0) then (if ((a : Int) < n) then ((n : Int) - a + 2 - 1) / 2 else 0) else (if ((a : Int) > n) then ((a : Int) - n - 2 - 1) / (-2) else 0)).toNat = (n - a + 1) / 2 := by
    rw [if_pos (by decide)]
    split <;> omega
  simp only [e]
  refine List.map_congr_left fun k hk => ?_
  omega
theorem pickV_two (xs : List V) : pickV xs none none (some 2) = evens xs := by
  unfold pickV
  have eb : sliceBounds none none (some 2) xs.length = (((0 : Nat) : Int), (xs.length : Int), 2) := rfl
  rw [eb]
  simp only
  rw [sr_two 0 xs.length (Nat.zero_le _), List.filterMap_map, ← filt_evens xs, Nat.sub_zero]
  refine filt_congr fun k _ => ?_
  show xs[0 + 2 * k]? = _
  rw [Nat.zero_add]
theorem pickV_two1 (xs : List V) : pickV xs (some 1) none (some 2) = evens xs.tail := by
  unfold pickV
  cases xs with
  | nil => rfl
  | cons x r =>
    have eb : sliceBounds (some 1) none (some 2) (x :: r).length = (((1 : Nat) : Int), ((r.length + 1 : Nat) : Int), 2) := by
      unfold sliceBounds
      simp only [Option.getD_some, List.length_cons]
      have z1 : ¬ ((1 : Int) < 0) := by decide
      have z2 : ((2 : Int) > 0) := by decide
      simp only [z1, z2, if_true, if_false]
      have : max 0 (min (1 : Int) ((r.length + 1 : Nat) : Int)) = ((1 : Nat) : Int) := by omega
      rw [this]
    rw [eb]
    simp only
    rw [sr_two 1 (r.length + 1) (by omega), List.filterMap_map]
    show _ = evens r
    rw [← filt_evens r, Nat.add_sub_cancel]
    refine filt_congr fun k _ => ?_
    show (x :: r)[1 + 2 * k]? = _
    rw [Nat.add_comm 1, List.getElem?_cons_succ]
theorem r_sl3 {te : TE} {tl th : TO} {ts : TE} (h : te σ H fun x H1 => tl σ H1 fun l H2 => th σ H2 fun u H3 => ts σ H3 fun z H4 => Sl3K K x l u z H4 Q) : tSl3 K te tl th ts σ H Q := h
theorem r_rev {a : Addr} {ns : List Int} (hs : SqL K H a (ns.map V.int)) (h : ∀ p, H p = none → Q (.ref p) (upd H p (.lst (ns.reverse.map V.int)))) : Sl3K K (.ref a) none none (.int (-1)) H Q :=
  ⟨-1, a, _, rfl, by decide, rfl, hs, fun p hp => by rw [pickV_rev, ← List.map_reverse]; exact h p hp⟩
theorem r_ev {a : Addr} {ns : List Int} (hs : SqL K H a (ns.map V.int)) (h : ∀ p, H p = none → Q (.ref p) (upd H p (.lst ((evens ns).map V.int)))) : Sl3K K (.ref a) none none (.int 2) H Q :=
  ⟨2, a, _, rfl, by decide, rfl, hs, fun p hp => by rw [pickV_two, evens_map]; exact h p hp⟩
theorem r_od {a : Addr} {ns : List Int} (hs : SqL K H a (ns.map V.int)) (h : ∀ p, H p = none → Q (.ref p) (upd H p (.lst ((evens ns.tail).map V.int)))) : Sl3K K (.ref a) (some 1) none (.int 2) H Q :=
  ⟨2, a, _, rfl, by decide, rfl, hs, fun p hp => by
    have e : evens (ns.map V.int).tail = (evens ns.tail).map V.int := by rw [← List.map_tail, evens_map]
    rw [pickV_two1, e]; exact h p hp⟩
theorem r_append {l : Addr} {xs : List V} {y : V} (hl : H l = some (.lst xs)) (hz : xs.length < 1000000) (h : Q .non (upd H l (.lst (xs ++ [y])))) : rAppend (.ref l) [y] H Q := ⟨l, xs, y, rfl, rfl, hl, Nat.lt_of_lt_of_le hz (by decide), h⟩
def AtM (K : PySem.W.Frag) (x : V) (H1 : Hp) (R : Prop) : Prop := tyV K "list" x H1 ∧ R
theorem r_tBM {r : V → List V → Hp → VK → Prop} {to : TE} {t : TA} (h : to σ H fun x H1 => AtM K x H1 (t σ H1 fun xs H2 => r x xs H2 Q)) : tBM K "list" r to t σ H Q := h
theorem r_tBM0 {r : V → List V → Hp → VK → Prop} {to : TE} (h : to σ H fun x H1 => AtM K x H1 (r x [] H1 Q)) : tBM0 K "list" r to σ H Q := h
theorem r_AtM {p : Addr} {xs : List V} {R : Prop} (hs : SqL K H p xs) (h : R) : AtM K (.ref p) H R := ⟨.inl ⟨rfl, xs, hs⟩, h⟩
end
end L2
namespace L2
open PySem PySem.Spec PyProof.Rows
/-! ### walks over ints -/
theorem ov_ints {K : PySem.W.Frag} {a : Addr} {ns : List Int} : Ov (Itl K a) ns (fun H => SqL K H a (ns.map V.int)) (fun z x H H' => x = .int z ∧ H' = H) where
  go := fun i H h hi => (ov_list (K := K) (a := a) (xs := ns.map V.int)).go i H h (by rw [List.length_map]; exact hi)
  stop := fun i H h hi => (ov_list (K := K) (a := a) (xs := ns.map V.int)).stop i H h (by rw [List.length_map]; exact hi)
  yld := fun i H x H' y h hy q => (ov_list (K := K) (a := a) (xs := ns.map V.int)).yld i H x H' (.int y) h (by rw [List.getElem?_map, hy]; rfl) q
theorem ov_zipI {K : PySem.W.Frag} {a b : Addr} {xs ys : List Int} : Ov (Itz K a b) (xs.zip ys) (fun H => SqL K H a (xs.map V.int) ∧ SqL K H b (ys.map V.int)) (fun y x H H' => ∃ T, H T = none ∧ x = .ref T ∧ H' = upd H T (.tup [.int y.1, .int y.2])) where
  go := fun i H h hi => (ov_zip (K := K) (a := a) (b := b) (xs := xs.map V.int) (ys := ys.map V.int)).go i H h (by rw [List.length_zip] at hi ⊢; rw [List.length_map, List.length_map]; exact hi)
  stop := fun i H h hi => (ov_zip (K := K) (a := a) (b := b) (xs := xs.map V.int) (ys := ys.map V.int)).stop i H h (by rw [List.length_zip] at hi ⊢; rw [List.length_map, List.length_map]; exact hi)
  yld := fun i H x H' y h hy q => by
    obtain ⟨u, v⟩ := y
    exact (ov_zip (K := K) (a := a) (b := b) (xs := xs.map V.int) (ys := ys.map V.int)).yld i H x H' (.int u, .int v) h (by
      rw [List.getElem?_zip_eq_some] at hy ⊢
      rw [List.getElem?_map, List.getElem?_map, hy.1, hy.2]; exact ⟨rfl, rfl⟩) q
theorem ov_enumI {K : PySem.W.Frag} {a : Addr} {xs : List Int} : Ov (Ite K a) xs.zipIdx (fun H => SqL K H a (xs.map V.int)) (fun y x H H' => ∃ T, H T = none ∧ x = .ref T ∧ H' = upd H T (.tup [.int (y.2 : Nat), .int y.1])) where
  go := fun i H h hi => (ov_enum (K := K) (a := a) (xs := xs.map V.int)).go i H h (by rw [List.length_zipIdx] at hi ⊢; rw [List.length_map]; exact hi)
  stop := fun i H h hi => (ov_enum (K := K) (a := a) (xs := xs.map V.int)).stop i H h (by rw [List.length_zipIdx] at hi ⊢; rw [List.length_map]; exact hi)
  yld := fun i H x H' y h hy q => by
    obtain ⟨u, v⟩ := y
    refine (ov_enum (K := K) (a := a) (xs := xs.map V.int)).yld i H x H' (.int u, v) h ?_ q
    rw [List.getElem?_zipIdx] at hy ⊢
    rw [List.getElem?_map]
    cases e : xs[i]? with
    | none => rw [e] at hy; cases hy
    | some z =>
      rw [e] at hy
      have e2 : (z, 0 + i) = (u, v) := Option.some.inj hy
      have e3 : z = u := congrArg Prod.fst e2
      have e4 : 0 + i = v := congrArg Prod.snd e2
      rw [e3, e4]; rfl
/-- a for over what comes, by a word -/
theorem for_by {α : Type} {J : It} {l : List α} {kp : Hp → Prop} {rep : α → V → Hp → Hp → Prop} (O : Ov J l kp rep) {g : TG} {tb : TS} {D : Ends} {σ : St} {H : Hp} (Pv : Nat → St → Hp → Prop) (h0 : Pv 0 σ H) (hk : ∀ i σ H, i ≤ l.length → Pv i σ H → kp H)
    (hs : ∀ i y x σ H H', l[i]? = some y → Pv i σ H → rep y x H H' → g x σ H' fun σ2 H2 => tb { D with nx := Pv (i + 1), ct := Pv (i + 1), bk := D.nx } σ2 H2) (hd : ∀ σ H, Pv l.length σ H → D.nx σ H) : ForBody J g tb D σ H := for_ov O Pv h0 hk hs hd
end L2
namespace L2
theorem iteNT {A B : Prop} (h : B) : if (!true) = true then A else B := by rw [if_neg (by decide)]; exact h
theorem iteNF {A B : Prop} (h : A) : if (!false) = true then A else B := iteT h
theorem iteD {P A B : Prop} [Decidable P] (h1 : P → A) (h2 : ¬ P → B) : if decide P = true then A else B := by
  by_cases h : P
  · rw [if_pos (decide_eq_true h)]; exact h1 h
  · rw [if_neg (by simp [h])]; exact h2 h
theorem iteND {P A B : Prop} [Decidable P] (h1 : ¬ P → A) (h2 : P → B) : if (!decide P) = true then A else B := by
  by_cases h : P
  · rw [if_neg (by simp [h])]; exact h2 h
  · rw [if_pos (by simp [h])]; exact h1 h
theorem iteB {b : Bool} {A B : Prop} (h1 : b = true → A) (h2 : b = false → B) : if b = true then A else B := by
  cases b
  · exact iteF (h2 rfl)
  · exact iteT (h1 rfl)
theorem iteNB {b : Bool} {A B : Prop} (h1 : b = false → A) (h2 : b = true → B) : if (!b) = true then A else B := by
  cases b
  · exact iteT (h1 rfl)
  · exact iteF (h2 rfl)
end L2
namespace L2
open PySem PySem.Spec PyProof.Rows
/-! ### what is asked of the top -/
structure Blt (mg : Str → Option Value) : Prop where
  no_len : mg "len" = none
  no_zip : mg "zip" = none
  no_enumerate : mg "enumerate" = none
  no_range : mg "range" = none
  no_list : mg "list" = none
  no_int : mg "int" = none
  no_bool : mg "bool" = none
  no_tuple : mg "tuple" = none
  no_set : mg "set" = none
  no_all : mg "all" = none
  no_any : mg "any" = none
  no_sum : mg "sum" = none
  no_min : mg "min" = none
  no_max : mg "max" = none
  no_sorted : mg "sorted" = none
  no_isinstance : mg "isinstance" = none
/-- a def of the text, to be called by its name -/
structure Cal (K : PySem.W.Frag) (mg : Str → Option Value) (x : Str) (f : Addr) (fd : FuncData) (ps : List Str) : Prop where
  mg : mg x = some (.ref f)
  kp : PySem.W.keepIn K (.ref f) = true
  b : Binds K fd ps []
/-- a class of the text, to be made by its name -/
structure Mak (K : PySem.W.Frag) (mg : Str → Option Value) (x : Str) (C f : Addr) (fd : FuncData) (ps : List Str) : Prop where
  mg : mg x = some (.ref C)
  mkk : Mk K C f
  cl : Cls K C
  b : Binds K fd ps []
/-- a method -/
structure Met (K : PySem.W.Frag) (C : Addr) (m : Str) (f : Addr) (fd : FuncData) (ps : List Str) : Prop where
  m : Meth K C m f
  b : Binds K fd ps []
end L2
namespace L2
open PySem PySem.Spec PyProof.Rows
theorem kit_ii {K : PySem.W.Frag} : PySem.W.kitOne K (.type "int") (.type "int") = some true := rfl
theorem kit_ib {K : PySem.W.Frag} : PySem.W.kitOne K (.type "int") (.type "bool") = some false := rfl
theorem kit_ll {K : PySem.W.Frag} : PySem.W.kitOne K (.type "list") (.type "list") = some true := rfl
theorem r_isi {K : PySem.W.Frag} {H : Hp} {Q : VK} {x c : V} {cv t : Value} {b : Bool} (hc : clsOf c = some cv) (ty : TyOf K H x t) (e : PySem.W.kitOne K t cv = some b) (h : Q (.bl b) H) :
    rIsi K [x, c] H Q := ⟨x, c, cv, t, b, rfl, hc, ty, e, h⟩
theorem r_isi_ii {K : PySem.W.Frag} {H : Hp} {Q : VK} {z : Int} (h : Q (.bl true) H) : rIsi K [.int z, .ty "int"] H Q := r_isi rfl (.int z) kit_ii h
theorem r_isi_ib {K : PySem.W.Frag} {H : Hp} {Q : VK} {z : Int} (h : Q (.bl false) H) : rIsi K [.int z, .ty "bool"] H Q := r_isi rfl (.int z) kit_ib h
theorem r_isi_ll {K : PySem.W.Frag} {H : Hp} {Q : VK} {a : Addr} {vs : List V} (ha : H a = some (.lst vs)) (h : Q (.bl true) H) : rIsi K [.ref a, .ty "list"] H Q := r_isi rfl (.lst ha) kit_ll h
end L2
namespace L2
open PySem PySem.Spec PyProof.Rows
/-- a comprehension without a test, its items values -/
theorem comp_map {α : Type} {J : It} {l : List α} {kp : Hp → Prop} {rep : α → V → Hp → Hp → Prop} (O : Ov J l kp rep) {g : TG} {ti : TT} {te : TE} {k : Nat} {caps : List Nat} {σ : St} {H1 : Hp} {Q : VK}
    (f : α → V) (hk : ∀ H, Same H1 H → kp H) (hl : l.length ≤ 1000000)
    (turn : ∀ (i : Nat) y x H3 H4 (R : V → Hp → Prop) (R' : Hp → Prop), l[i]? = some y → Same H1 H3 → rep y x H3 H4 → (∀ H7, Same H3 H7 → R (f y) H7) →
      g x (inner k caps σ) H4 fun σ4 H5 => (σ4.length = (inner k caps σ).length ∧ σ4.drop k = (inner k caps σ).drop k) ∧ ti σ4 H5 fun b H6 => if b = true then te σ4 H6 R else R' H6)
    (fin : ∀ D H', H1 D = none → Same H1 H' → H' D = some (.lst (l.map f)) → Q (.ref D) H') : CompBody J g ti te k caps σ Q H1 :=
  comp_pure O (fun _ => true) f hk (Nat.le_trans hl (by decide)) (fun i y x H3 H4 R R' e s r h1 _ => turn i y x H3 H4 R R' e s r (h1 rfl))
    fun D H' hD s d => fin D H' hD s (by rw [d, List.filter_eq_self.mpr (fun _ _ => rfl)])
theorem mulOk200 {a b : Int} (ha : a.natAbs < 2 ^ 200) (hb : b.natAbs < 2 ^ 200) : IntMulOk a b := IntMulOk.of_bits (Nat.le_trans (intBits_le ha) (by decide)) (Nat.le_trans (intBits_le hb) (by decide))
theorem all_true {α : Type} (l : List α) : (l.map fun _ => true).all id = true := by simp
end L2
set_option maxHeartbeats 4000000
/-! Mathematics of the law's own looks: rows, places, what is left. -/
namespace Lf

/-- another row stands at places of a row, behind the place 'last' (the law's loop) -/
def standsFrom (row : List Int) : Int → List Int → List Int → Bool
  | last, p :: ps, x :: xs => decide (last < p) && decide (p < (row.length : Int)) && decide (row.getD p.toNat 0 = x) && standsFrom row p ps xs
  | _, _, _ => true
def stands (row places other : List Int) : Bool := decide (places.length = other.length) && standsFrom row (-1) places other

/-- the look from behind: what is left over of 'rest' (told backwards) when the row's signs come backwards -/
def strike : List Int → List Int → List Int
  | [], rest => rest
  | y :: ys, rest => strike ys (match rest with | [] => [] | x :: r => if x = y then r else x :: r)
def isLeft (row other : List Int) : Bool := (strike row.reverse other.reverse).isEmpty

/-- the greedy: a sublist, from the front -/
theorem strike_nil : ∀ ys : List Int, strike ys [] = []
  | [] => rfl
  | _ :: ys => by rw [strike]; exact strike_nil ys
theorem strike_sub : ∀ (ys rest : List Int), strike ys rest = [] ↔ rest.Sublist ys
  | [], rest => by
    rw [strike]
    constructor
    · intro h; rw [h]; exact List.nil_sublist _
    · intro h; exact List.sublist_nil.mp h
  | y :: ys, [] => by
    rw [strike]
    simp [strike_nil]
  | y :: ys, x :: r => by
    rw [strike]
    by_cases h : x = y
    · subst h
      simp only [if_true]
      rw [strike_sub ys r]
      exact List.cons_sublist_cons.symm
    · simp only [h, if_false]
      rw [strike_sub ys (x :: r)]
      constructor
      · intro q; exact q.cons y
      · intro q
        cases q with
        | cons _ q => exact q
        | cons_cons _ q => exact absurd rfl h
theorem isLeft_iff (row other : List Int) : isLeft row other = true ↔ other.Sublist row := by
  unfold isLeft
  rw [List.isEmpty_iff, strike_sub, List.reverse_sublist]

/-- a row that stands at places is left -/
theorem standsFrom_sub (row : List Int) : ∀ (ps xs : List Int) (last : Int), -1 ≤ last → ps.length = xs.length → standsFrom row last ps xs = true → xs.Sublist (row.drop (last + 1).toNat)
  | [], [], _, _, _, _ => List.nil_sublist _
  | [], _ :: _, _, _, h, _ => by simp at h
  | _ :: _, [], _, _, h, _ => by simp at h
  | p :: ps, x :: xs, last, hl, h, e => by
    rw [standsFrom] at e
    simp only [Bool.and_eq_true, decide_eq_true_eq] at e
    obtain ⟨⟨⟨e1, e2⟩, e3⟩, e4⟩ := e
    have ih := standsFrom_sub row ps xs p (by omega) (by simpa using h) e4
    have hp : p.toNat < row.length := by omega
    have d : row.drop p.toNat = x :: row.drop (p + 1).toNat := by
      rw [List.drop_eq_getElem_cons hp]
      have : (p + 1).toNat = p.toNat + 1 := by omega
      rw [this]
      congr 1
      rw [← e3, List.getD_eq_getElem?_getD]
      simp [hp]
    have s1 : (x :: xs).Sublist (row.drop p.toNat) := by
      rw [d]
      exact ih.cons_cons x
    have s2 : (row.drop p.toNat).Sublist (row.drop (last + 1).toNat) := by
      have : p.toNat = (p.toNat - (last + 1).toNat) + (last + 1).toNat := by omega
      rw [this, ← List.drop_drop]
      rw [show (row.drop (p.toNat - (last + 1).toNat)).drop (last + 1).toNat = (row.drop (last + 1).toNat).drop (p.toNat - (last + 1).toNat) from by rw [List.drop_drop, List.drop_drop, Nat.add_comm]]
      exact List.drop_sublist _ _
    exact s1.trans s2
theorem stands_left {row places other : List Int} (h : stands row places other = true) : isLeft row other = true := by
  unfold stands at h
  simp only [Bool.and_eq_true, decide_eq_true_eq] at h
  rw [isLeft_iff]
  have := standsFrom_sub row places other (-1) (by omega) h.1 h.2
  simpa using this

/-- places as told of one that isn't left: the law's loop over range(many + 1) -/
def beginAt (places : List Int) (at' : Nat) : Int := if at' = 0 then 0 else places.getD (at' - 1) 0 + 1
def endAt (row places : List Int) (at' : Nat) : Int := (places ++ [(row.length : Int)]).getD at' 0
/-- row[b:e] for 0 ≤ b -/
def cut (row : List Int) (b e : Int) : List Int := (row.drop b.toNat).take (e.toNat - b.toNat)
def short (row other places : List Int) : Bool :=
  decide (places.length < other.length) && stands row places (other.take places.length) &&
  (List.range (places.length + 1)).all fun i => !((cut row (beginAt places i) (endAt row places i)).contains (other.getD i 0))

end Lf
namespace Lf
/-- the law's rows -/
def most (code : Int) : Int := if code % 4 = 0 then 2 else if code % 4 = 1 then 3 else if code % 4 = 2 then 5 else 10 ^ 30
def lrow (cells : List Int) (code : Int) : List Int := if code / 4 % 3 = 2 then cells.map fun c => (c % most code - 1) * 10 ^ 30 else cells.map fun c => c % most code
theorem most_pos (code : Int) : 0 < most code := by unfold most; split <;> (try split) <;> (try split) <;> decide
theorem most_le (code : Int) : most code ≤ 10 ^ 30 := by unfold most; split <;> (try split) <;> (try split) <;> decide
theorem lrow_len (cells : List Int) (code : Int) : (lrow cells code).length = cells.length := by unfold lrow; split <;> simp
end Lf
namespace Lf
/-- what stands rises, and lies in the row -/
theorem standsFrom_rise (row : List Int) : ∀ (ps xs : List Int) (last : Int), -1 ≤ last → ps.length = xs.length → standsFrom row last ps xs = true → ∀ i, i < ps.length → last < ps.getD i 0 ∧ ps.getD i 0 < (row.length : Int)
  | [], _, _, _, _, _ => fun i hi => by simp at hi
  | _ :: _, [], _, _, h, _ => by simp at h
  | p :: ps, x :: xs, last, hl, h, e => fun i hi => by
    rw [standsFrom] at e
    simp only [Bool.and_eq_true, decide_eq_true_eq] at e
    obtain ⟨⟨⟨e1, e2⟩, e3⟩, e4⟩ := e
    cases i with
    | zero => exact ⟨e1, e2⟩
    | succ i =>
      have ih := standsFrom_rise row ps xs p (by omega) (by simpa using h) e4 i (by simpa using hi)
      simp only [List.getD_cons_succ]
      omega
theorem stands_rise {row ps xs : List Int} (h : stands row ps xs = true) (i : Nat) (hi : i < ps.length) : 0 ≤ ps.getD i 0 ∧ ps.getD i 0 < (row.length : Int) := by
  unfold stands at h
  simp only [Bool.and_eq_true, decide_eq_true_eq] at h
  have := standsFrom_rise row ps xs (-1) (by omega) h.1 h.2 i hi
  omega
end Lf
namespace Lf
def rising : Int → Int → List Int → Bool
  | _, _, [] => true
  | ahead, count, p :: ps => decide (ahead < p) && decide (p < count) && rising p count ps
def fits (row : List Int) (ps xs : List Int) : Bool := (ps.zip xs).all fun y => decide (row.getD y.1.toNat 0 = y.2)
theorem standsFrom_eq (row : List Int) : ∀ (ps xs : List Int) (last : Int), ps.length = xs.length → standsFrom row last ps xs = (rising last row.length ps && fits row ps xs)
  | [], [], _, _ => rfl
  | [], _ :: _, _, h => by simp at h
  | _ :: _, [], _, h => by simp at h
  | p :: ps, x :: xs, last, h => by
    rw [standsFrom, rising, standsFrom_eq row ps xs p (by simpa using h)]
    unfold fits
    rw [List.zip_cons_cons, List.all_cons]
    cases decide (last < p) <;> cases decide (p < (row.length : Int)) <;> cases rising p row.length ps <;> simp
theorem stands_eq (row ps xs : List Int) (h : ps.length = xs.length) : stands row ps xs = (rising (-1) row.length ps && fits row ps xs) := by
  unfold stands
  rw [standsFrom_eq row ps xs _ h]
  simp [h]
theorem rising_in : ∀ (ps : List Int) (ahead count : Int), rising ahead count ps = true → ∀ p ∈ ps, ahead < p ∧ p < count
  | [], _, _, _ => fun p hp => by simp at hp
  | q :: ps, ahead, count, h => fun p hp => by
    rw [rising] at h
    simp only [Bool.and_eq_true, decide_eq_true_eq] at h
    rcases List.mem_cons.mp hp with e | hp
    · subst e; exact ⟨h.1.1, h.1.2⟩
    · have := rising_in ps q count h.2 p hp
      omega
/-- the earliest places of the first signs -/
def earl : Int → List Int → List Int → List Int
  | i, x :: row, y :: other => if x = y then i :: earl (i + 1) row other else earl (i + 1) row (y :: other)
  | _, _, _ => []
def earliest (row other : List Int) : List Int := earl 0 row other
theorem earl_nil (i : Int) (row : List Int) : earl i row [] = [] := by cases row <;> rfl
theorem earl_none (i : Int) (other : List Int) : earl i [] other = [] := by cases other <;> rfl
theorem earl_len : ∀ (row other : List Int) (i : Int), (earl i row other).length ≤ other.length
  | [], other, i => by rw [earl_none]; simp
  | x :: row, [], i => by rw [earl_nil]; simp
  | x :: row, y :: other, i => by
    rw [earl]
    split
    · have := earl_len row other (i + 1)
      simp only [List.length_cons]
      omega
    · exact earl_len row (y :: other) (i + 1)
/-- all the other's signs have a place just where it is left -/
theorem earl_all : ∀ (row other : List Int) (i : Int), (earl i row other).length = other.length ↔ other.Sublist row
  | [], other, i => by
    rw [earl_none, List.sublist_nil]
    cases other <;> simp
  | x :: row, [], i => by rw [earl_nil]; simp
  | x :: row, y :: other, i => by
    rw [earl]
    by_cases h : x = y
    · subst h
      rw [if_pos rfl, List.length_cons, List.length_cons, List.cons_sublist_cons]
      rw [← earl_all row other (i + 1)]
      omega
    · rw [if_neg h, earl_all row (y :: other) (i + 1)]
      constructor
      · intro q; exact q.cons x
      · intro q
        cases q with
        | cons _ q => exact q
        | cons_cons _ q => exact absurd rfl h
end Lf
namespace Lf
theorem sub_skip {x : Int} {r l2 : List Int} : ∀ l1 : List Int, x ∉ l1 → (x :: r).Sublist (l1 ++ l2) → (x :: r).Sublist l2
  | [], _, h => h
  | y :: l1, hx, h => by
    have hne : x ≠ y := fun e => hx (e ▸ List.mem_cons_self)
    cases h with
    | cons _ h => exact sub_skip l1 (fun m => hx (List.mem_cons_of_mem _ m)) h
    | cons_cons _ h => exact absurd rfl hne
theorem sub_tail {x y : Int} {r l : List Int} (h : (x :: r).Sublist (y :: l)) : r.Sublist l := by
  cases h with
  | cons _ h => exact (List.sublist_cons_self x r).trans h
  | cons_cons _ h => exact h
theorem rising_get : ∀ (ps : List Int) (a c : Int), rising a c ps = true → ∀ i, i + 1 < ps.length → ps.getD i 0 < ps.getD (i + 1) 0
  | [], _, _, _, i, hi => by simp at hi
  | [p], _, _, _, i, hi => by simp at hi
  | p :: q :: ps, a, c, h, i, hi => by
    rw [rising] at h
    simp only [Bool.and_eq_true, decide_eq_true_eq] at h
    cases i with
    | zero =>
      have h2 := h.2
      rw [rising] at h2
      simp only [Bool.and_eq_true, decide_eq_true_eq] at h2
      exact h2.1.1
    | succ i =>
      have := rising_get (q :: ps) p c h.2 i (by simpa using hi)
      simpa using this
theorem short_parts {row other ps : List Int} (h : short row other ps = true) : ps.length < other.length ∧ stands row ps (other.take ps.length) = true ∧ ∀ i, i ≤ ps.length → other.getD i 0 ∉ cut row (beginAt ps i) (endAt row ps i) := by
  unfold short at h
  simp only [Bool.and_eq_true, decide_eq_true_eq] at h
  refine ⟨h.1.1, h.1.2, fun i hi => ?_⟩
  have := List.all_eq_true.mp h.2 i (List.mem_range.mpr (by omega))
  simpa using this
theorem drop_at {l : List Int} {i : Nat} (h : i < l.length) : l.drop i = l.getD i 0 :: l.drop (i + 1) := by
  rw [List.drop_eq_getElem_cons h]
  congr 1
  rw [List.getD_eq_getElem?_getD]
  simp [h]
theorem short_not_left {row other ps : List Int} (h : short row other ps = true) : isLeft row other = false := by
  obtain ⟨h1, h2, h3⟩ := short_parts h
  refine Bool.eq_false_iff.mpr fun hl => ?_
  rw [isLeft_iff] at hl
  have hlen : ps.length = (other.take ps.length).length := by rw [List.length_take]; omega
  have hri : rising (-1) row.length ps = true := by
    rw [stands_eq _ _ _ hlen] at h2
    exact (Bool.and_eq_true_iff.mp h2).1
  have hin : ∀ i, i < ps.length → 0 ≤ ps.getD i 0 ∧ ps.getD i 0 < (row.length : Int) := fun i hi => stands_rise h2 i hi
  have key : ∀ i, i ≤ ps.length → (other.drop i).Sublist (row.drop (beginAt ps i).toNat) := by
    intro i
    induction i with
    | zero => intro _; simpa [beginAt] using hl
    | succ i ih =>
      intro hi
      have ih := ih (by omega)
      have hpi := hin i (by omega)
      have e : endAt row ps i = ps.getD i 0 := by
        unfold endAt
        rw [List.getD_eq_getElem?_getD, List.getElem?_append_left (by omega), ← List.getD_eq_getElem?_getD]
      have hb : 0 ≤ beginAt ps i ∧ beginAt ps i ≤ ps.getD i 0 := by
        unfold beginAt
        split
        · omega
        · have a := hin (i - 1) (by omega)
          have b := rising_get ps _ _ hri (i - 1) (by omega)
          have : i - 1 + 1 = i := by omega
          rw [this] at b
          omega
      have hx := h3 i (by omega)
      rw [e] at hx
      rw [drop_at (l := other) (i := i) (by omega)] at ih
      have split : row.drop (beginAt ps i).toNat = cut row (beginAt ps i) (ps.getD i 0) ++ row.drop (ps.getD i 0).toNat := by
        unfold cut
        conv => lhs; rw [← List.take_append_drop ((ps.getD i 0).toNat - (beginAt ps i).toNat) (row.drop (beginAt ps i).toNat)]
        rw [List.drop_drop]
        congr 2
        omega
      rw [split] at ih
      have ih := sub_skip _ hx ih
      rw [drop_at (l := row) (i := (ps.getD i 0).toNat) (by omega)] at ih
      have ih := sub_tail ih
      have e2 : (beginAt ps (i + 1)).toNat = (ps.getD i 0).toNat + 1 := by
        unfold beginAt
        rw [if_neg (by omega)]
        simp only [Nat.add_sub_cancel]
        omega
      rw [e2]
      exact ih
  have last := key ps.length (Nat.le_refl _)
  have hx := h3 ps.length (Nat.le_refl _)
  rw [drop_at (l := other) (i := ps.length) h1] at last
  have hm : other.getD ps.length 0 ∈ row.drop (beginAt ps ps.length).toNat := last.subset List.mem_cons_self
  refine hx ?_
  have e : endAt row ps ps.length = row.length := by
    unfold endAt
    rw [List.getD_eq_getElem?_getD, List.getElem?_append_right (Nat.le_refl _)]
    simp
  unfold cut
  rw [e, Int.toNat_natCast, List.take_of_length_le (by rw [List.length_drop]; omega)]
  exact hm
theorem stands_more {row ps other : List Int} (z : Int) (h : stands row ps other = true) : stands row (ps ++ [z]) other = false := by
  unfold stands at h ⊢
  simp only [Bool.and_eq_true, decide_eq_true_eq] at h
  have : ¬ (ps ++ [z]).length = other.length := by simp; omega
  simp [this]
  intro e
  omega
theorem short_more {row other ps : List Int} : short row other (ps ++ [(row.length : Int)]) = false := by
  refine Bool.eq_false_iff.mpr fun h => ?_
  obtain ⟨_, h2, _⟩ := short_parts h
  have := stands_rise h2 ps.length (by simp)
  rw [List.getD_eq_getElem?_getD, List.getElem?_append_right (Nat.le_refl _)] at this
  simp at this
theorem stands_len {row ps other : List Int} (h : stands row ps other = true) : ps.length = other.length := by
  unfold stands at h
  simp only [Bool.and_eq_true, decide_eq_true_eq] at h
  exact h.1
end Lf
namespace Lf
theorem drop_cons_of {row : List Int} {x : Int} {r : List Int} {i : Nat} (h : x :: r = row.drop i) : i < row.length ∧ row.getD i 0 = x ∧ r = row.drop (i + 1) := by
  have hi : i < row.length := by
    rcases Nat.lt_or_ge i row.length with q | q
    · exact q
    · rw [List.drop_of_length_le q] at h; cases h
  rw [drop_at hi] at h
  obtain ⟨a, b⟩ := List.cons.inj h
  exact ⟨hi, a.symm, b⟩
theorem earl_stands (row : List Int) : ∀ (r o : List Int) (i : Nat) (last : Int), r = row.drop i → last < i → standsFrom row last (earl i r o) (o.take (earl i r o).length) = true
  | [], o, i, last, _, _ => by rw [earl_none]; rfl
  | x :: r, [], i, last, _, _ => by rw [earl_nil]; rfl
  | x :: r, y :: o, i, last, h, hl => by
    obtain ⟨hi, hx, hr⟩ := drop_cons_of h
    rw [earl]
    by_cases e : x = y
    · rw [if_pos e]
      have ih := earl_stands row r o (i + 1) (i : Int) hr (by omega)
      have ec : ((i : Int) + 1) = ((i + 1 : Nat) : Int) := by omega
      rw [ec]
      rw [List.length_cons, List.take_succ_cons, standsFrom, ih]
      have : row.getD (i : Int).toNat 0 = y := by rw [Int.toNat_natCast, hx, e]
      rw [this]
      simp
      omega
    · rw [if_neg e]
      have ec : ((i : Int) + 1) = ((i + 1 : Nat) : Int) := by omega
      rw [ec]
      exact earl_stands row r (y :: o) (i + 1) last hr (by omega)
theorem earl_ge (row : List Int) : ∀ (r o : List Int) (i : Nat), ∀ p ∈ earl i r o, (i : Int) ≤ p
  | [], o, i, p, hp => by rw [earl_none] at hp; simp at hp
  | x :: r, [], i, p, hp => by rw [earl_nil] at hp; simp at hp
  | x :: r, y :: o, i, p, hp => by
    have ec : ((i : Int) + 1) = ((i + 1 : Nat) : Int) := by omega
    rw [earl, ec] at hp
    split at hp
    · rcases List.mem_cons.mp hp with rfl | hp
      · exact Int.le_refl _
      · have := earl_ge row r o (i + 1) p hp; omega
    · have := earl_ge row r (y :: o) (i + 1) p hp; omega
def bAt (i : Int) (ps : List Int) (j : Nat) : Int := if j = 0 then i else ps.getD (j - 1) 0 + 1
theorem cut_step {row : List Int} {i : Nat} {e : Int} (hi : i < row.length) (he : (i : Int) < e) : cut row i e = row.getD i 0 :: cut row ((i : Int) + 1) e := by
  unfold cut
  have e1 : ((i : Int) + 1).toNat = i + 1 := by omega
  rw [e1, Int.toNat_natCast, drop_at hi]
  have : e.toNat - i = (e.toNat - (i + 1)) + 1 := by omega
  rw [this, List.take_succ_cons]
theorem cut_none {row : List Int} {b e : Int} (h : e ≤ b) : cut row b e = [] := by
  unfold cut
  have : e.toNat - b.toNat = 0 := by omega
  rw [this]; rfl
theorem earl_cuts (row : List Int) : ∀ (r o : List Int) (i : Nat), r = row.drop i → i ≤ row.length → ∀ j, j ≤ (earl i r o).length → j < o.length → o.getD j 0 ∉ cut row (bAt i (earl i r o) j) ((earl i r o ++ [(row.length : Int)]).getD j 0)
  | [], o, i, h, hi, j, hj, hjo => by
    rw [earl_none] at hj ⊢
    have j0 : j = 0 := by simpa using hj
    subst j0
    have hr : row.length ≤ i := by
      rcases Nat.lt_or_ge i row.length with q | q
      · rw [drop_at q] at h; cases h
      · exact q
    have : cut row (bAt i [] 0) (([] ++ [(row.length : Int)]).getD 0 0) = [] := cut_none (by show (row.length : Int) ≤ i; omega)
    rw [this]; simp
  | x :: r, [], i, h, hi, j, hj, hjo => by simp at hjo
  | x :: r, y :: o, i, h, hi, j, hj, hjo => by
    obtain ⟨hi', hx, hr⟩ := drop_cons_of h
    have ec : ((i : Int) + 1) = ((i + 1 : Nat) : Int) := by omega
    by_cases e : x = y
    · rw [earl, if_pos e] at hj ⊢
      rw [ec] at hj ⊢
      cases j with
      | zero =>
        have : cut row (bAt i ((i : Int) :: earl ((i + 1 : Nat) : Int) r o) 0) (((i : Int) :: earl ((i + 1 : Nat) : Int) r o ++ [(row.length : Int)]).getD 0 0) = [] := cut_none (Int.le_refl _)
        rw [this]; simp
      | succ j =>
        have ih := earl_cuts row r o (i + 1) hr (by omega) j (by simpa using hj) (by simpa using hjo)
        have b1 : bAt i ((i : Int) :: earl ((i + 1 : Nat) : Int) r o) (j + 1) = bAt ((i + 1 : Nat) : Int) (earl ((i + 1 : Nat) : Int) r o) j := by
          unfold bAt
          rw [if_neg (by omega)]
          cases j with
          | zero => simp
          | succ j => simp
        rw [b1]
        simpa using ih
    · rw [earl, if_neg e] at hj ⊢
      rw [ec] at hj ⊢
      have ih := earl_cuts row r (y :: o) (i + 1) hr (by omega) j hj hjo
      cases j with
      | succ j => exact ih
      | zero =>
        have b0 : bAt i (earl ((i + 1 : Nat) : Int) r (y :: o)) 0 = i := rfl
        have b1 : bAt ((i + 1 : Nat) : Int) (earl ((i + 1 : Nat) : Int) r (y :: o)) 0 = ((i + 1 : Nat) : Int) := rfl
        rw [b1] at ih
        rw [b0]
        have he : (i : Int) < (earl ((i + 1 : Nat) : Int) r (y :: o) ++ [(row.length : Int)]).getD 0 0 := by
          cases q : earl ((i + 1 : Nat) : Int) r (y :: o) with
          | nil => simp; omega
          | cons p ps =>
            have := earl_ge row r (y :: o) (i + 1) p (by rw [q]; exact List.mem_cons_self)
            simp
            omega
        rw [cut_step hi' he, hx, ec]
        intro m
        rcases List.mem_cons.mp m with q | q
        · exact e q.symm
        · exact ih q
theorem earliest_stands {row other : List Int} (h : (earliest row other).length = other.length) : stands row (earliest row other) other = true := by
  unfold stands
  rw [h]
  have := earl_stands row row other 0 (-1) (by simp) (by omega)
  unfold earliest at h
  simp only [Int.ofNat_zero, Int.natCast_zero] at this
  rw [h, List.take_length] at this
  unfold earliest
  rw [this]; simp
theorem earliest_short {row other : List Int} (h : ¬ (earliest row other).length = other.length) : short row other (earliest row other) = true := by
  have hl : (earliest row other).length < other.length := by
    have := earl_len row other 0
    unfold earliest at h ⊢
    omega
  have s := earl_stands row row other 0 (-1) (by simp) (by omega)
  simp only [Int.natCast_zero] at s
  have c := earl_cuts row row other 0 (by simp) (Nat.zero_le _)
  simp only [Int.natCast_zero] at c
  unfold short
  have e1 : decide ((earliest row other).length < other.length) = true := decide_eq_true hl
  have e2 : stands row (earliest row other) (other.take (earliest row other).length) = true := by
    unfold stands
    have : (earliest row other).length = (other.take (earliest row other).length).length := by rw [List.length_take]; omega
    rw [decide_eq_true this]
    unfold earliest
    rw [s]; rfl
  rw [e1, e2, Bool.true_and, Bool.true_and, List.all_eq_true]
  intro j hj
  have hj := List.mem_range.mp hj
  have := c j (by unfold earliest at hj; omega) (by omega)
  simp only [Bool.not_eq_true', List.contains_eq_mem, decide_eq_false_iff_not]
  exact this
end Lf
set_option maxRecDepth 100000
set_option maxHeartbeats 4000000
/-! More readers: copies, pops, short lists, heaps that keep what was. -/
namespace L2
open PySem PySem.Spec PyProof.Rows
section
variable {σ : St} {H H' : Hp} {Q : VK} {D : Ends} {K : PySem.W.Frag} {X : Cx}
theorem same_upd {H2 : Hp} {r : Addr} {o : HO} (s : Same H H2) (hr : H r = none) : Same H (upd H2 r o) := fun b u h => upd_keepNe (s b u h) (ne_of_none h hr)
theorem free_upd {r q : Addr} {o : HO} (h : upd H r o q = none) : H q = none := by
  by_cases e : q = r
  · subst e; rw [upd_same] at h; cases h
  · rw [upd_ne e] at h; exact h
theorem ne_upd {r q : Addr} {o : HO} (h : upd H r o q = none) : q ≠ r := fun e => by subst e; rw [upd_same] at h; cases h
theorem same_trans {H1 H2 : Hp} (b : Same H1 H2) (a : Same H H1) : Same H H2 := a.trans b
/-- an expression's value and heap, said ahead -/
theorem r_cut {t : TE} (v : V) (H' : Hp) (h : ∀ Q' : VK, Q' v H' → t σ H Q') (k : Q v H') : t σ H Q := h Q k
/-- a test's answer and heap, said ahead -/
theorem r_cutT {t : TT} {R : Bool → Hp → Prop} (v : Bool) (H' : Hp) (h : ∀ Q' : Bool → Hp → Prop, Q' v H' → t σ H Q') (k : R v H') : t σ H R := h R k
def rLOf (K : PySem.W.Frag) (xs : List V) (H : Hp) (Q : VK) : Prop := ∃ p ys, xs = [.ref p] ∧ (SqL K H p ys ∨ SqT K H p ys) ∧ ∀ l, H l = none → Q (.ref l) (upd H l (.lst ys))
theorem call_listOf : CallR X (.type "list") (rLOf X.K) := call_list_of
theorem r_lofI {p : Addr} {ns : List Int} (hs : SqL K H p (ns.map V.int)) (h : ∀ l, H l = none → Q (.ref l) (upd H l (.lst (ns.map V.int)))) : rLOf K [.ref p] H Q := ⟨p, _, rfl, .inl hs, h⟩
theorem r_lof {p : Addr} {xs : List V} (hs : SqL K H p xs) (h : ∀ l, H l = none → Q (.ref l) (upd H l (.lst xs))) : rLOf K [.ref p] H Q := ⟨p, _, rfl, .inl hs, h⟩
theorem r_new0 (h : ∀ p, H p = none → Q (.ref p) (upd H p (.lst (([] : List Int).map V.int)))) : NewL Q [] H := r_newL (by decide) h
theorem r_new1 {a : Int} (h : ∀ p, H p = none → Q (.ref p) (upd H p (.lst (([a] : List Int).map V.int)))) : NewL Q [.int a] H := r_newL (by simp) h
theorem r_new2 {a b : Int} (h : ∀ p, H p = none → Q (.ref p) (upd H p (.lst (([a, b] : List Int).map V.int)))) : NewL Q [.int a, .int b] H := r_newL (by simp) h
theorem r_popI {l : Addr} {ns : List Int} (hl : H l = some (.lst (ns.map V.int))) (hn : ns ≠ []) (h : Q (.int (ns.getLast hn)) (upd H l (.lst (ns.dropLast.map V.int)))) : rPop (.ref l) [] H Q := by
  refine ⟨l, _, .int (ns.getLast hn), rfl, rfl, hl, ?_, ?_⟩
  · rw [List.length_map, List.getElem?_map, List.getLast_eq_getElem]
    have : ns.length - 1 < ns.length := by have := List.length_pos_iff.mpr hn; omega
    rw [List.getElem?_eq_getElem this]; rfl
  · rw [← List.map_dropLast]; exact h
theorem r_appI {l : Addr} {ns : List Int} {y : Int} (hl : H l = some (.lst (ns.map V.int))) (hz : ns.length < 1000000) (h : Q .non (upd H l (.lst ((ns ++ [y]).map V.int)))) : rAppend (.ref l) [.int y] H Q :=
  r_append hl (by rw [List.length_map]; exact hz) (by rw [List.map_append] at h; exact h)
theorem mr_append : MtR X "list.append" rAppend := mt_append
theorem mr_extend : MtR X "list.extend" rExtend := mt_extend
theorem mr_pop : MtR X "list.pop" rPop := mt_pop
theorem mr_reverse : MtR X "list.reverse" rReverse := mt_reverse
theorem mr_clear : MtR X "list.clear" rClear := mt_clear
theorem sIx_pos (n d : Nat) {k : Int} (h : 0 ≤ k) : HT.sIx n d (some k) = min k.toNat n := by
  obtain ⟨j, rfl⟩ : ∃ j : Nat, k = j := ⟨k.toNat, by omega⟩
  rw [HT.sIx_nat, Int.toNat_natCast]
theorem cutI_to (xs : List Int) {k : Int} (h : 0 ≤ k) : cutI xs none (some k) = xs.take k.toNat := by
  unfold cutI
  rw [sIx_pos _ _ h, HT.sIx_none, List.drop_zero, Nat.sub_zero, List.take_eq_take_iff]
  omega
theorem cutI_from (xs : List Int) {k : Int} (h : 0 ≤ k) : cutI xs (some k) none = xs.drop k.toNat := by
  unfold cutI
  rw [sIx_pos _ _ h, HT.sIx_none]
  rw [List.take_of_length_le (by rw [List.length_drop]; omega)]
  by_cases hk : k.toNat ≤ xs.length
  · rw [Nat.min_eq_left hk]
  · rw [Nat.min_eq_right (by omega), List.drop_of_length_le (Nat.le_refl _), List.drop_of_length_le (by omega)]
theorem cutI_mid (xs : List Int) {b e : Int} (hb : 0 ≤ b) (he : 0 ≤ e) : cutI xs (some b) (some e) = Lf.cut xs b e := by
  unfold cutI Lf.cut
  rw [sIx_pos _ _ hb, sIx_pos _ _ he]
  by_cases hk : b.toNat ≤ xs.length
  · rw [Nat.min_eq_left hk, List.take_eq_take_iff, List.length_drop]
    omega
  · rw [List.drop_of_length_le (by omega), List.drop_of_length_le (by omega), List.take_nil, List.take_nil]
theorem r_slTo {a : Addr} {ns : List Int} {k : Int} (hs : SqL K H a (ns.map V.int)) (hk : 0 ≤ k) (h : ∀ p, H p = none → Q (.ref p) (upd H p (.lst ((ns.take k.toNat).map V.int)))) : rSlL K (.ref a) none (some k) H Q := r_slI hs (by rw [cutI_to _ hk]; exact h)
theorem r_slFrom {a : Addr} {ns : List Int} {k : Int} (hs : SqL K H a (ns.map V.int)) (hk : 0 ≤ k) (h : ∀ p, H p = none → Q (.ref p) (upd H p (.lst ((ns.drop k.toNat).map V.int)))) : rSlL K (.ref a) (some k) none H Q := r_slI hs (by rw [cutI_from _ hk]; exact h)
theorem r_slMid {a : Addr} {ns : List Int} {b e : Int} (hs : SqL K H a (ns.map V.int)) (hb : 0 ≤ b) (he : 0 ≤ e) (h : ∀ p, H p = none → Q (.ref p) (upd H p (.lst ((Lf.cut ns b e).map V.int)))) : rSlL K (.ref a) (some b) (some e) H Q := r_slI hs (by rw [cutI_mid _ hb he]; exact h)
end
end L2
namespace L2
open PySem PySem.Spec PyProof.Rows
/-- a comprehension without a test, its items ints -/
theorem comp_mapI {α : Type} {J : It} {l : List α} {kp : Hp → Prop} {rep : α → V → Hp → Hp → Prop} (O : Ov J l kp rep) {g : TG} {ti : TT} {te : TE} {k : Nat} {caps : List Nat} {σ : St} {H1 : Hp} {Q : VK}
    (f : α → Int) (hk : ∀ H, Same H1 H → kp H) (hl : l.length ≤ 1000000)
    (turn : ∀ (i : Nat) y x H3 H4 (R : V → Hp → Prop) (R' : Hp → Prop), l[i]? = some y → Same H1 H3 → rep y x H3 H4 → (∀ H7, Same H3 H7 → R (.int (f y)) H7) →
      g x (inner k caps σ) H4 fun σ4 H5 => (σ4.length = (inner k caps σ).length ∧ σ4.drop k = (inner k caps σ).drop k) ∧ ti σ4 H5 fun b H6 => if b = true then te σ4 H6 R else R' H6)
    (fin : ∀ D H', H1 D = none → Same H1 H' → H' D = some (.lst ((l.map f).map V.int)) → Q (.ref D) H') : CompBody J g ti te k caps σ Q H1 :=
  comp_map O (fun y => .int (f y)) hk hl turn fun D H' hD s d => fin D H' hD s (by rw [d, List.map_map]; rfl)
/-- a comprehension with a test, its items ints -/
theorem comp_filtI {α : Type} {J : It} {l : List α} {kp : Hp → Prop} {rep : α → V → Hp → Hp → Prop} (O : Ov J l kp rep) {g : TG} {ti : TT} {te : TE} {k : Nat} {caps : List Nat} {σ : St} {H1 : Hp} {Q : VK}
    (c : α → Bool) (f : α → Int) (hk : ∀ H, Same H1 H → kp H) (hl : l.length ≤ 1000000)
    (turn : ∀ (i : Nat) y x H3 H4 (R : V → Hp → Prop) (R' : Hp → Prop), l[i]? = some y → Same H1 H3 → rep y x H3 H4 → (c y = true → ∀ H7, Same H3 H7 → R (.int (f y)) H7) → (c y = false → ∀ H7, Same H3 H7 → R' H7) →
      g x (inner k caps σ) H4 fun σ4 H5 => (σ4.length = (inner k caps σ).length ∧ σ4.drop k = (inner k caps σ).drop k) ∧ ti σ4 H5 fun b H6 => if b = true then te σ4 H6 R else R' H6)
    (fin : ∀ D H', H1 D = none → Same H1 H' → H' D = some (.lst (((l.filter c).map f).map V.int)) → Q (.ref D) H') : CompBody J g ti te k caps σ Q H1 :=
  comp_pure O c (fun y => .int (f y)) hk (Nat.le_trans hl (by decide)) turn fun D H' hD s d => fin D H' hD s (by rw [d, List.map_map]; rfl)
theorem mul2Ok {x : Int} : IntMulOk 2 x := IntMulOk.of_left (by decide)
end L2
namespace L2
open PySem PySem.Spec PyProof.Rows
/-! ### dicts with ints as keys -/
section
variable {σ : St} {H H' : Hp} {Q : VK} {D : Ends} {K : PySem.W.Frag} {X : Cx}
theorem m2_get {o e f : Expr} {apos cpos : Pos} (h1 : attributeBase o "get" X.env (eval o X.env) = eval o X.env := by rfl) (h2 : ((backTo cpos (starEach [e, f] X.env)).all (fun x => !x.1) && (backToKw cpos (keywordEach [] X.env)).all (fun x => x.1.isSome)
    && decide (([e, f] : List Expr).length + ([] : List Keyword).length + (if ([] : List Keyword).isEmpty then 0 else 1) < 30)) = true := by rfl) (h3 : (apos.endLine == cpos.line) = true := by rfl) (h4 : backTo cpos (starEach [e, f] X.env) = [(false, eval e X.env), (false, eval f X.env)] := by rfl) : M2 X o "get" apos e f cpos := ⟨h1, h2, h3, h4⟩
def AtD2 (ty tx : TE) (σ : St) (Q : VK) (x : V) (H1 : Hp) : Prop := ∃ a, x = .ref a ∧ IsD H1 a ∧ ty σ H1 fun y H2 => tx σ H2 fun z H3 => ∃ o, DGet H3 a y o ∧ Q (o.getD z) H3
theorem r_dget2 {td ty tx : TE} (h : td σ H fun x H1 => AtD2 ty tx σ Q x H1) : tDGet2 td ty tx σ H Q := h
def DG2 (a : Addr) (Q : VK) (y z : V) (H3 : Hp) : Prop := ∃ o, DGet H3 a y o ∧ Q (o.getD z) H3
theorem r_AtD2 {ty tx : TE} {a : Addr} {kvs : List (Key × V)} (ha : H a = some (.dK kvs)) (h : ty σ H fun y H2 => tx σ H2 fun z H3 => DG2 a Q y z H3) : AtD2 ty tx σ Q (.ref a) H := ⟨a, rfl, .inl ⟨kvs, .inl ha⟩, h⟩
theorem r_DG2 {a : Addr} {i : Int} {z : V} {kvs : List (Key × V)} (ha : H a = some (.dK kvs)) (h : Q ((valV kvs (.inl i)).getD z) H) : DG2 a Q (.int i) z H := ⟨_, DGet.k (k := .inl i) ha, h⟩
def DP (R : Hp → Prop) (x y v : V) (H3 : Hp) : Prop := ∃ a H4, x = .ref a ∧ DPut H3 a y v H4 ∧ R H4
theorem r_dput {td ty tv : TE} (h : tv σ H fun v H1 => td σ H1 fun x H2 => ty σ H2 fun y H3 => DP (fun H4 => D.nx σ H4) x y v H3) : sDPut td ty tv D σ H := h
theorem r_DP {R : Hp → Prop} {a : Addr} {i : Int} {v : V} {kvs : List (Key × V)} (ha : H a = some (.dK kvs)) (hl : kvs.length < 1000000) (h : R (upd H a (.dK (putK kvs (.inl i) v)))) : DP R (.ref a) (.int i) v H := ⟨a, _, rfl, DPut.k (k := .inl i) ha (Nat.lt_of_lt_of_le hl (by decide)), h⟩
theorem r_dnewK (h : ∀ p, H p = none → Q (.ref p) (upd H p (.dK []))) : tDNewK σ H Q := h
theorem putK_len (kvs : List (Key × V)) (k : Key) (v : V) : (putK kvs k v).length ≤ kvs.length + 1 := by
  unfold putK
  split
  · rw [List.length_map]; omega
  · simp
def Par2 (i j : Nat) (σ : St) (D : Ends) (vs : List V) (H1 : Hp) : Prop := ∃ v w, vs = [v, w] ∧ D.nx ((σ.set i (some v)).set j (some w)) H1
theorem r_par {i j : Nat} {ta : TA} (h : ta σ H fun vs H1 => Par2 i j σ D vs H1) : tPar i j ta D σ H := h
theorem r_Par2 {i j : Nat} {x y : V} (h : D.nx ((σ.set i (some x)).set j (some y)) H) : Par2 i j σ D [x, y] H := ⟨x, y, rfl, h⟩
theorem atI_last2 {α : Type} (xs : List α) (u v : α) : atI (xs ++ [u, v]) (-2) = some u := by
  have hl : (xs ++ [u, v]).length = xs.length + 2 := by simp
  have e : ixN (xs ++ [u, v]).length (-2) = some xs.length := by
    unfold ixN
    rw [hl, if_neg (by decide), if_pos (by omega)]
    congr 1
    omega
  unfold atI
  rw [e]
  simp
theorem r_ixLast2 {p : Addr} {ns : List Int} {u v : Int} (hs : SqL K H p ((ns ++ [u, v]).map V.int)) (h : Q (.int u) H) : rIxG K (.ref p) (.int (-2)) H Q := r_ixL hs (by rw [List.map_append]; exact atI_last2 _ _ _) h
theorem r_ixLast1 {p : Addr} {ns : List Int} {v : Int} (hs : SqL K H p ((ns ++ [v]).map V.int)) (h : Q (.int v) H) : rIxG K (.ref p) (.int (-1)) H Q := r_ixL hs (by rw [List.map_append]; exact atI_last _ _) h
end
end L2
namespace L2
open PySem PySem.Spec PyProof.Rows
section
variable {σ : St} {H H' : Hp} {Q : VK} {D : Ends} {K : PySem.W.Frag} {X : Cx}
/-! ### list.index of ints -/
theorem ints_kf : ∀ {ns : List Int} {its : List Value}, Vals (ns.map V.int) its → PySem.W.kf_ints its = true ∧ ∀ z, z ∈ ns → PySem.W.kf_at z its = some (ns.idxOf z)
  | [], _, .nil => ⟨rfl, fun z hz => by simp at hz⟩
  | n :: r, _, .cons rx rv => by
    obtain ⟨t, rfl⟩ := rx
    obtain ⟨h1, h2⟩ := ints_kf rv
    refine ⟨h1, fun z hz => ?_⟩
    unfold PySem.W.kf_at
    by_cases e : n = z
    · subst e
      have : isInt n (Value.int n t) = true := by simp [isInt]
      rw [this, List.idxOf_cons_self]; rfl
    · have e1 : isInt z (Value.int n t) = false := by simp [isInt, e]
      have hz' : z ∈ r := by
        rcases List.mem_cons.mp hz with q | q
        · exact absurd q.symm e
        · exact q
      rw [e1, h2 z hz', List.idxOf_cons]
      have : (n == z) = false := by simpa using e
      rw [this]; rfl
def rIdx : V → List V → Hp → VK → Prop := fun x vs H Q => ∃ (l : Addr) (ns : List Int) (z : Int), x = .ref l ∧ vs = [.int z] ∧ H l = some (.lst (ns.map V.int)) ∧ z ∈ ns ∧ Q (.int (ns.idxOf z : Nat)) H
theorem mr_index : MtR X "list.index" rIdx := by
  intro pins s σ H x vs v us Q I rx rv h
  obtain ⟨l, ns, z, rfl, rfl, hH, hz, q⟩ := h
  cases rx
  obtain ⟨u, rfl, ru⟩ := rv.one
  obtain ⟨t, rfl⟩ := ru
  obtain ⟨hsz, its, n, r, hl, e⟩ := I.lstM hH
  obtain ⟨h1, h2⟩ := ints_kf r
  obtain ⟨a, b, c⟩ := PySem.W.kf_at_spec (h2 z hz)
  have hs : its.length ≤ sizeLine := by omega
  rw [sizeLine_eq] at hs
  refine call_meets F.slot_list_index ⟨_, e, rfl⟩ F.entry_list_index (F.args_list_index_2 _ _)
    (MeetsSeq.list_index l its.toArray n (.int z t) (isInt z) (fun y hy => PySem.W.kf_eq h1 y (by simpa using hy)) (ns.idxOf z) (by simpa using a) (by omega) (by simpa using b) (fun i hi hlt => by simpa using c i (by simpa using hi) hlt)) ⟨e, ?_⟩
  exact ⟨.int (ns.idxOf z : Nat), H, I.tok _, ⟨_, rfl⟩, q⟩
theorem r_idx {l : Addr} {ns : List Int} {z : Int} (hl : H l = some (.lst (ns.map V.int))) (hz : z ∈ ns) (h : Q (.int (ns.idxOf z : Nat)) H) : rIdx (.ref l) [.int z] H Q := ⟨l, ns, z, rfl, rfl, hl, hz, h⟩
def rMinI (K : PySem.W.Frag) (xs : List V) (H : Hp) (Q : VK) : Prop := ∃ (p : Addr) (ns : List Int), xs = [.ref p] ∧ SqL K H p (ns.map V.int) ∧ ns ≠ [] ∧ ∀ M, M ∈ ns → (∀ a ∈ ns, M ≤ a) → Q (.int M) H
theorem call_min (hc : X.calm = true) : CallR X (.builtin "min") (rMinI X.K) := call_minI hc
theorem r_minI {p : Addr} {ns : List Int} (hs : SqL K H p (ns.map V.int)) (hn : ns ≠ []) (h : ∀ M, M ∈ ns → (∀ a ∈ ns, M ≤ a) → Q (.int M) H) : rMinI K [.ref p] H Q := ⟨p, ns, rfl, hs, hn, h⟩
end
end L2
set_option maxHeartbeats 4000000
/-! Mathematics of counts: the ways, the kin. -/
namespace Lf

/-- the ways, from the front -/
def ways : List Int → List Int → Int
  | _, [] => 1
  | [], _ :: _ => 0
  | x :: row, y :: other => ways row (y :: other) + (if x = y then ways row other else 0)
theorem ways_nil (row : List Int) : ways row [] = 1 := by cases row <;> rfl
theorem ways_none (y : Int) (other : List Int) : ways [] (y :: other) = 0 := rfl
theorem ways_cons (x y : Int) (row other : List Int) : ways (x :: row) (y :: other) = ways row (y :: other) + (if x = y then ways row other else 0) := rfl
theorem ways_empty (other : List Int) (h : other ≠ []) : ways [] other = 0 := by
  cases other with
  | nil => exact absurd rfl h
  | cons y o => rfl

/-- the same by the last signs -/
theorem ways_snoc : ∀ (row other : List Int) (x y : Int), ways (row ++ [x]) (other ++ [y]) = ways row (other ++ [y]) + (if x = y then ways row other else 0)
  | [], [], x, y => by
    show ways [x] [y] = ways [] [y] + _
    rw [ways_cons, ways_none, ways_nil]
  | [], z :: o, x, y => by
    show ways [x] (z :: (o ++ [y])) = ways [] (z :: (o ++ [y])) + _
    rw [ways_cons, ways_none, ways_empty (o ++ [y]) (by simp), ways_none]
    simp
  | r :: rs, [], x, y => by
    show ways (r :: (rs ++ [x])) [y] = ways (r :: rs) [y] + _
    have ih := ways_snoc rs [] x y
    simp only [List.nil_append] at ih
    rw [ways_cons, ways_cons, ih, ways_nil, ways_nil, ways_nil]
    omega
  | r :: rs, z :: o, x, y => by
    show ways (r :: (rs ++ [x])) (z :: (o ++ [y])) = ways (r :: rs) (z :: (o ++ [y])) + (if x = y then ways (r :: rs) (z :: o) else 0)
    have i1 := ways_snoc rs (z :: o) x y
    have i2 := ways_snoc rs o x y
    simp only [List.cons_append] at i1
    rw [ways_cons, ways_cons, ways_cons, i1, i2]
    by_cases h1 : x = y <;> by_cases h2 : r = z <;> simp [h1, h2] <;> omega

theorem ways_rev : ∀ (row other : List Int), ways row.reverse other.reverse = ways row other
  | row, [] => by simp [ways_nil]
  | [], y :: o => by
    rw [List.reverse_nil, ways_empty _ (by simp)]
    rfl
  | x :: row, y :: o => by
    rw [List.reverse_cons, List.reverse_cons, ways_snoc, ways_cons]
    have i1 := ways_rev row (y :: o)
    have i2 := ways_rev row o
    rw [List.reverse_cons] at i1
    rw [i1, i2]
  termination_by row other => row.length + other.length

theorem ways_self : ∀ (row : List Int), ways row row = 1 ∧ ∀ z, ways row (z :: row) = 0
  | [] => ⟨rfl, fun _ => rfl⟩
  | x :: r => by
    have key : ∀ (r' o : List Int), r'.length < o.length → ways r' o = 0 := by
      intro r'
      induction r' with
      | nil =>
        intro o h
        cases o with
        | nil => simp at h
        | cons _ _ => rfl
      | cons a t ih =>
        intro o h
        cases o with
        | nil => simp at h
        | cons b u =>
          rw [ways_cons, ih (b :: u) (by simp at h ⊢; omega), ih u (by simp at h ⊢; omega)]
          simp
    refine ⟨?_, fun z => key _ _ (by simp)⟩
    rw [ways_cons, (ways_self r).1, key r (x :: r) (by simp)]
    simp

/-! kin: all different rows that are left -/
/-- what lies behind the first x -/
def after (x : Int) : List Int → Option (List Int)
  | [] => none
  | y :: ys => if y = x then some ys else after x ys
theorem after_len (x : Int) : ∀ (s t : List Int), after x s = some t → t.length < s.length
  | [], _, h => by cases h
  | y :: ys, t, h => by
    unfold after at h
    split at h
    · cases h; simp
    · have := after_len x ys t h
      simp; omega
theorem after_sub (x : Int) : ∀ (s u : List Int), (x :: u).Sublist s ↔ ∃ t, after x s = some t ∧ u.Sublist t
  | [], u => by simp [after]
  | y :: ys, u => by
    unfold after
    by_cases h : y = x
    · subst h
      simp
    · simp only [h, if_false]
      rw [← after_sub x ys u]
      constructor
      · intro q
        cases q with
        | cons _ q => exact q
        | cons_cons _ q => exact absurd rfl h
      · intro q; exact q.cons y

/-- the count, from the front: by the law's own reckoning told from behind -/
def kin : List Int → Int
  | [] => 1
  | x :: s => 2 * kin s - (match h : after x s with | some t => kin t | none => 0)
termination_by s => s.length
decreasing_by
  · simp
  · have := after_len x s t h
    simp; omega
theorem kin_nil : kin [] = 1 := by unfold kin; rfl
theorem kin_cons (x : Int) (s : List Int) : kin (x :: s) = 2 * kin s - (match after x s with | some t => kin t | none => 0) := by
  rw [kin]
  split <;> rename_i h <;> rw [h]

/-- all that is left, each once -/
def kins : List Int → List (List Int)
  | [] => [[]]
  | x :: s => kins s ++ ((kins s).filter fun u => !decide ((x :: u).Sublist s)).map (x :: ·)
theorem kins_mem : ∀ (s u : List Int), u ∈ kins s ↔ u.Sublist s
  | [], u => by simp [kins]
  | x :: s, u => by
    unfold kins
    rw [List.mem_append, kins_mem s u, List.mem_map]
    constructor
    · rintro (h | ⟨v, hv, rfl⟩)
      · exact h.cons x
      · exact ((kins_mem s v).mp (List.mem_filter.mp hv).1).cons_cons x
    · intro h
      cases h with
      | cons _ h => exact .inl h
      | @cons_cons v _ _ h =>
        by_cases q : (x :: v).Sublist s
        · exact .inl q
        · exact .inr ⟨v, List.mem_filter.mpr ⟨(kins_mem s v).mpr h, by simp [q]⟩, rfl⟩
theorem kins_nodup : ∀ s : List Int, (kins s).Nodup
  | [] => by simp [kins]
  | x :: s => by
    unfold kins
    rw [List.nodup_append]
    refine ⟨kins_nodup s, ?_, ?_⟩
    · refine List.Pairwise.map _ (fun a b h e => h (List.cons.inj e).2) ((kins_nodup s).filter _)
    · intro a ha b hb e
      subst e
      obtain ⟨v, hv, rfl⟩ := List.mem_map.mp hb
      have := (List.mem_filter.mp hv).2
      rw [kins_mem] at ha
      simp [ha] at this
/-- as many as the other where each is in it -/
theorem len_le_of_sub {α : Type} [DecidableEq α] : ∀ (l m : List α), l.Nodup → (∀ a ∈ l, a ∈ m) → l.length ≤ m.length
  | [], m, _, _ => by simp
  | a :: l, m, hn, hs => by
    have hn' := List.nodup_cons.mp hn
    have ham := hs a List.mem_cons_self
    have := len_le_of_sub l (m.erase a) hn'.2 fun b hb => by
      have hne : b ≠ a := fun e => hn'.1 (e ▸ hb)
      exact (List.mem_erase_of_ne hne).mpr (hs b (List.mem_cons_of_mem _ hb))
    rw [List.length_erase_of_mem ham] at this
    have : 0 < m.length := List.length_pos_of_mem ham
    simp; omega
theorem len_eq_of_same {α : Type} [DecidableEq α] {l m : List α} (h1 : l.Nodup) (h2 : m.Nodup) (h : ∀ a, a ∈ l ↔ a ∈ m) : l.length = m.length :=
  Nat.le_antisymm (len_le_of_sub l m h1 fun a ha => (h a).mp ha) (len_le_of_sub m l h2 fun a ha => (h a).mpr ha)
theorem filt_split {α : Type} (p : α → Bool) : ∀ l : List α, l.length = (l.filter fun a => !p a).length + (l.filter p).length
  | [] => rfl
  | a :: l => by
    have ih := filt_split p l
    rw [List.filter_cons, List.filter_cons]
    cases p a <;> simp <;> omega
theorem kin_kins : ∀ s : List Int, kin s = ((kins s).length : Int)
  | [] => by rw [kin_nil]; rfl
  | x :: s => by
    have ih := kin_kins s
    have split : (kins s).length = ((kins s).filter fun u => !decide ((x :: u).Sublist s)).length + ((kins s).filter fun u => decide ((x :: u).Sublist s)).length := by
      exact filt_split _ _
    have cnt : (((kins s).filter fun u => decide ((x :: u).Sublist s)).length : Int) = (match after x s with | some t => kin t | none => 0) := by
      cases h : after x s with
      | none =>
        have : ((kins s).filter fun u => decide ((x :: u).Sublist s)) = [] := by
          rw [List.filter_eq_nil_iff]
          intro u _ q
          obtain ⟨t, ht, _⟩ := (after_sub x s u).mp (of_decide_eq_true q)
          rw [h] at ht; cases ht
        rw [this]; rfl
      | some t =>
        have hl := after_len x s t h
        show _ = kin t
        rw [kin_kins t]
        congr 1
        refine len_eq_of_same ((kins_nodup s).filter _) (kins_nodup t) fun u => ?_
        rw [List.mem_filter, kins_mem, kins_mem]
        constructor
        · rintro ⟨_, q⟩
          obtain ⟨t', ht, hu⟩ := (after_sub x s u).mp (of_decide_eq_true q)
          rw [h] at ht; cases ht
          exact hu
        · intro q
          have q' : (x :: u).Sublist s := (after_sub x s u).mpr ⟨t, h, q⟩
          exact ⟨(List.sublist_cons_self x u).trans q', decide_eq_true q'⟩
    have ek : (kins (x :: s)).length = (kins s).length + ((kins s).filter fun u => !decide ((x :: u).Sublist s)).length := by
      show (kins s ++ _).length = _
      rw [List.length_append, List.length_map]
    rw [kin_cons, ih, ek, ← cnt]
    omega
termination_by s => s.length
decreasing_by
  all_goals first | omega | (simp; done) | (simp; omega)
theorem kin_rev (s : List Int) : kin s.reverse = kin s := by
  rw [kin_kins, kin_kins]
  congr 1
  have e : (kins s).length = ((kins s).map List.reverse).length := by simp
  rw [e]
  refine len_eq_of_same (kins_nodup _) ?_ fun u => ?_
  · refine List.Pairwise.map _ (fun a b h q => h ?_) (kins_nodup s)
    simpa using congrArg List.reverse q
  · rw [kins_mem, List.mem_map]
    constructor
    · intro q
      refine ⟨u.reverse, (kins_mem _ _).mpr ?_, by simp⟩
      have := q.reverse
      simpa using this
    · rintro ⟨v, hv, rfl⟩
      exact ((kins_mem _ _).mp hv).reverse
end Lf
namespace Lf
/-- the ways of each end of the other one -/
def wl (r o : List Int) : List Int := (List.range o.length).map (fun j => ways r (o.drop j)) ++ [1]
theorem wl_len (r o : List Int) : (wl r o).length = o.length + 1 := by unfold wl; simp
theorem wl_get (r o : List Int) (j : Nat) (h : j ≤ o.length) : (wl r o).getD j 0 = ways r (o.drop j) := by
  unfold wl
  rw [List.getD_eq_getElem?_getD]
  by_cases hj : j < o.length
  · rw [List.getElem?_append_left (by simpa using hj), List.getElem?_map, List.getElem?_range hj]
    rfl
  · have : j = o.length := by omega
    subst this
    rw [List.getElem?_append_right (by simp)]
    simp [ways_nil]
theorem wl_nil (o : List Int) : wl [] o = o.map (fun _ => 0) ++ [1] := by
  unfold wl
  congr 1
  refine List.ext_getElem (by simp) fun j h1 h2 => ?_
  simp only [List.length_map, List.length_range] at h1
  simp only [List.getElem_map, List.getElem_range]
  exact ways_empty _ (by simp; omega)
theorem wl_cons (x : Int) (r o : List Int) : wl (x :: r) o = (List.range o.length).map (fun j => (wl r o).getD j 0 + (if o.getD j 0 = x then (wl r o).getD (j + 1) 0 else 0)) ++ [1] := by
  conv => lhs; unfold wl
  congr 1
  refine List.map_congr_left fun j hj => ?_
  have hj := List.mem_range.mp hj
  rw [wl_get _ _ _ (by omega), wl_get _ _ _ (by omega), List.drop_eq_getElem_cons hj, ways_cons]
  have : o.getD j 0 = o[j] := by rw [List.getD_eq_getElem?_getD]; simp [hj]
  rw [this]
  by_cases h : o[j] = x
  · rw [if_pos h, if_pos h.symm]
  · rw [if_neg h, if_neg (fun e => h e.symm)]
theorem wl_zero (r o : List Int) : (wl r o).getD 0 0 = ways r o := by rw [wl_get _ _ _ (Nat.zero_le _), List.drop_zero]
end Lf
namespace Lf
theorem after_cons (x y : Int) (s : List Int) : after y (x :: s) = if x = y then some s else after y s := rfl
theorem kin_get (x : Int) (s : List Int) : kin (x :: s) = 2 * kin s - ((after x s).map kin).getD 0 := by
  rw [kin_cons]
  cases after x s <;> rfl
end Lf
namespace Lf
def lmin : List Int → Int
  | [] => 0
  | [x] => x
  | x :: y :: r => if x ≤ lmin (y :: r) then x else lmin (y :: r)
theorem lmin_le : ∀ (l : List Int), ∀ a ∈ l, lmin l ≤ a
  | [], a, h => by simp at h
  | [x], a, h => by simp at h; subst h; exact Int.le_refl _
  | x :: y :: r, a, h => by
    have ih := lmin_le (y :: r)
    rw [lmin]
    rcases List.mem_cons.mp h with e | h
    · subst e; split <;> omega
    · have := ih a h
      split <;> omega
theorem lmin_mem : ∀ (l : List Int), l ≠ [] → lmin l ∈ l
  | [], h => absurd rfl h
  | [x], _ => by simp [lmin]
  | x :: y :: r, _ => by
    have ih := lmin_mem (y :: r) (by simp)
    rw [lmin]
    split
    · simp
    · exact List.mem_cons_of_mem _ ih
theorem lmin_eq {l : List Int} {M : Int} (h1 : M ∈ l) (h2 : ∀ a ∈ l, M ≤ a) : M = lmin l := by
  have a := lmin_le l M h1
  have b := h2 _ (lmin_mem l (List.ne_nil_of_mem h1))
  omega
/-- the least of so many signs, sign by sign -/
def least : Nat → List Int → List Int
  | 0, _ => []
  | m + 1, row => lmin (row.take (row.length - m)) :: least m (row.drop ((row.take (row.length - m)).idxOf (lmin (row.take (row.length - m))) + 1))
theorem least_len : ∀ (m : Nat) (row : List Int), (least m row).length = m
  | 0, _ => rfl
  | m + 1, row => by rw [least, List.length_cons, least_len m]
theorem least_all : ∀ (row : List Int), least row.length row = row
  | [] => rfl
  | x :: r => by
    have e : (x :: r).length - r.length = 1 := by simp
    rw [List.length_cons, least, e]
    have t : (x :: r).take 1 = [x] := rfl
    rw [t]
    have : lmin [x] = x := rfl
    rw [this]
    simp [least_all r]
end Lf
set_option maxRecDepth 100000
set_option maxHeartbeats 4000000
/-! Lists of lists of ints; longer displays; fixed places. -/
namespace L2
open PySem PySem.Spec PyProof.Rows
section
variable {σ : St} {H H' : Hp} {Q : VK} {D : Ends} {K : PySem.W.Frag} {X : Cx}
theorem upd_keepA {q p : Addr} {u o : HO} (hp : H p = none) (h : H q = some u) : upd H p o q = some u := upd_keep h hp
theorem upd_keepNeA {q p : Addr} {u o : HO} (hne : q ≠ p) (h : H q = some u) : upd H p o q = some u := upd_keepNe h hne
theorem sq_keepA {q p : Addr} {xs : List V} {o : HO} (hp : H p = none) (h : SqL K H q xs) : SqL K (upd H p o) q xs := sq_keep h hp
theorem sq_keepNeA {q p : Addr} {xs : List V} {o : HO} (hne : q ≠ p) (h : SqL K H q xs) : SqL K (upd H p o) q xs := sq_keepNe h hne
theorem mk_keep {x dx q : Addr} {o o' u : HO} (hx : H x = none) (hdx : H dx = none) (h : H q = some u) : upd (upd H dx o') x o q = some u := upd_keepNe (upd_keep h hdx) (ne_of_none h hx)
theorem mk_sq {x dx q : Addr} {o o' : HO} {xs : List V} (hx : H x = none) (hdx : H dx = none) (h : SqL K H q xs) : SqL K (upd (upd H dx o') x o) q xs := by
  rcases h with (h | ⟨u, h⟩) | h
  · exact .inl (.inl (mk_keep hx hdx h))
  · exact .inl (.inr ⟨u, mk_keep hx hdx h⟩)
  · exact .inr h
theorem free_of {l : Addr} (h : H' l = none) (e : Same H H') : H l = none := e.free h
abbrev dL (xss : List (List Int)) : PyData := .list (xss.map dI)
theorem eqvAll_dI : ∀ xss yss : List (List Int), PyData.eqvAll (xss.map dI) (yss.map dI) = decide (xss = yss)
  | [], [] => by simp [PyData.eqvAll]
  | [], _ :: _ => by simp [PyData.eqvAll]
  | _ :: _, [] => by simp [PyData.eqvAll]
  | a :: r, b :: t => by
    rw [List.map_cons, List.map_cons, PyData.eqvAll, eqvAll_dI r t, eqv_dI]
    by_cases h : a = b <;> by_cases h' : r = t <;> simp [h, h']
theorem eqv_dL (xss yss : List (List Int)) : PyData.eqv (dL xss) (dL yss) = decide (xss = yss) := by rw [PyData.eqv]; exact eqvAll_dI xss yss
theorem shapes_dI : ∀ xss : List (List Int), PyData.canLayAll0 (xss.map dI) = true ∧ PyData.depthAll (xss.map dI) ≤ 8
  | [] => by simp [PyData.canLayAll0, PyData.depthAll]
  | a :: r => by
    obtain ⟨h1, h2⟩ := shapes_dI r
    have h3 := shaped_dI a
    have h4 : PyData.depth (dI a) ≤ 8 := by simp [PyData.depth, PySem.W.ke_depthAll]
    have h5 := SeqAt.canLay_of_shaped h3
    rw [List.map_cons]
    refine ⟨?_, ?_⟩
    · rw [PyData.canLayAll0, h5, h1]; rfl
    · rw [PyData.depthAll]
      omega
theorem shaped_dL (xss : List (List Int)) : SeqAt.shaped (dL xss) = true := by
  obtain ⟨h1, h2⟩ := shapes_dI xss
  unfold SeqAt.shaped
  rw [PyData.canLay0, h1, PyData.depth]
  simp
  omega
theorem RdV.two {a p q : Addr} {xs ys : List Int} (h : SqL K H a [.ref p, .ref q]) (h1 : SqL K H p (xs.map V.int)) (h2 : SqL K H q (ys.map V.int)) : RdV K H (.ref a) (dL [xs, ys]) := .lst h (.cons (RdV.ints h1) (.cons (RdV.ints h2) .nil))
theorem r_neL2 {a b p q p' q' : Addr} {xs ys xs' ys' : List Int} (h : SqL K H a [.ref p, .ref q]) (h1 : SqL K H p (xs.map V.int)) (h2 : SqL K H q (ys.map V.int)) (h' : SqL K H b [.ref p', .ref q']) (h1' : SqL K H p' (xs'.map V.int)) (h2' : SqL K H q' (ys'.map V.int))
    (hq : Q (.bl (!decide ([xs, ys] = [xs', ys']))) H) : rNe (.ref a) (.ref b) H Q ∨ rEqD K true (.ref a) (.ref b) H Q :=
  .inr ⟨_, _, RdV.two h h1 h2, RdV.two h' h1' h2', shaped_dL _, shaped_dL _, by rw [if_pos rfl, eqv_dL]; exact hq⟩
theorem r_new3 {a b c : Int} (h : ∀ p, H p = none → Q (.ref p) (upd H p (.lst (([a, b, c] : List Int).map V.int)))) : NewL Q [.int a, .int b, .int c] H := r_newL (by simp) h
theorem r_new4 {a b c d : Int} (h : ∀ p, H p = none → Q (.ref p) (upd H p (.lst (([a, b, c, d] : List Int).map V.int)))) : NewL Q [.int a, .int b, .int c, .int d] H := r_newL (by simp) h
theorem r_new5 {a b c d e : Int} (h : ∀ p, H p = none → Q (.ref p) (upd H p (.lst (([a, b, c, d, e] : List Int).map V.int)))) : NewL Q [.int a, .int b, .int c, .int d, .int e] H := r_newL (by simp) h
def rSum (K : PySem.W.Frag) (xs : List V) (H : Hp) (Q : VK) : Prop := ∃ (p : Addr) (ns : List Int), xs = [.ref p] ∧ SqL K H p (ns.map V.int) ∧ Q (.int ns.sum) H
theorem call_sum (hc : X.calm = true) : CallR X (.builtin "sum") (rSum X.K) := call_sumI hc
theorem r_ixLit {p : Addr} {xs : List V} {i : Int} {v : V} (hs : SqL K H p xs) (e : atI xs i = some v) (h : Q v H) : rIxG K (.ref p) (.int i) H Q := r_ixL hs e h
theorem r_sum {p : Addr} {ns : List Int} (hs : SqL K H p (ns.map V.int)) (h : Q (.int ns.sum) H) : rSum K [.ref p] H Q := ⟨p, ns, rfl, hs, h⟩
/-! ### instances -/
structure Ins (K : PySem.W.Frag) (C : Addr) : Prop where
  cl : Cls K C
  ha : PySem.W.findIn K (.ref C) "__class__" = some (some (.builtin "object.__class__"))
  hn : PySem.W.specialIn K (.builtin "object.__class__") "__get__" = some (some (.builtin "getset_descriptor.__get__"))
  htk : PySem.W.takesIn K (.builtin "object.__class__") = some true
  hm : PySem.W.mroIn K C (.type "object") = some true
theorem r_isi_cls {x C D' dx : Addr} {fs : List (Str × V)} {b : Bool} (ha : H x = some (.ins C dx fs)) (i : Ins K C) (hk : PySem.W.kitOne K (.ref C) (.ref D') = some b) (h : Q (.bl b) H) : rIsi K [.ref x, .ref D'] H Q := r_isi rfl (.ins ha i.cl i.ha i.hn i.htk i.hm) hk h
def AtF (K : PySem.W.Frag) (f : Str) (Q : VK) (x : V) (H1 : Hp) : Prop := ∃ a C dx fs v, x = .ref a ∧ H1 a = some (.ins C dx fs) ∧ Cls K C ∧ NoAttr K C f ∧ fs.lookup f = some v ∧ Q v H1
theorem r_fld {ta : TE} {f : Str} (h : ta σ H fun x H1 => AtF K f Q x H1) : tFld K ta f σ H Q := h
theorem r_AtF {a C dx : Addr} {fs : List (Str × V)} {f : Str} {v : V} (ha : H a = some (.ins C dx fs)) (i : Ins K C) (n : NoAttr K C f) (l : fs.lookup f = some v) (h : Q v H) : AtF K f Q (.ref a) H := ⟨a, C, dx, fs, v, rfl, ha, i.cl, n, l, h⟩
def SetF (K : PySem.W.Frag) (f : Str) (R : Hp → Prop) (y x : V) (H2 : Hp) : Prop := ∃ a C dx fs, x = .ref a ∧ H2 a = some (.ins C dx fs) ∧ Cls K C ∧ NoAttr K C f ∧ fs.length < 1000 ∧ R (upd H2 a (.ins C dx (putF f y fs)))
theorem r_sfld {ta tv : TE} {f : Str} (h : tv σ H fun y H1 => ta σ H1 fun x H2 => SetF K f (fun H3 => D.nx σ H3) y x H2) : sFld K ta tv f D σ H := h
theorem r_SetF {a C dx : Addr} {fs : List (Str × V)} {f : Str} {y : V} {R : Hp → Prop} (ha : H a = some (.ins C dx fs)) (i : Ins K C) (n : NoAttr K C f) (l : fs.length < 1000) (h : R (upd H a (.ins C dx (putF f y fs)))) : SetF K f R y (.ref a) H := ⟨a, C, dx, fs, rfl, ha, i.cl, n, l, h⟩
def AtMe (C : Addr) (m : Str) (x : V) (H1 : Hp) (R : Prop) : Prop := ∃ a dx fs, x = .ref a ∧ H1 a = some (.ins C dx fs) ∧ fs.lookup m = none ∧ R
theorem r_meth {C : Addr} {m : Str} {sp : Sp} {dvs : List V} {E : XK} {ta : TE} {t : TA} (h : ta σ H fun x H1 => AtMe C m x H1 (t σ H1 fun vs H2 => sp (x :: (vs ++ dvs)) H2 Q E)) : tMeth C m sp dvs E ta t σ H Q := h
theorem r_AtMe {C a dx : Addr} {m : Str} {fs : List (Str × V)} {R : Prop} (ha : H a = some (.ins C dx fs)) (l : fs.lookup m = none) (h : R) : AtMe C m (.ref a) H R := ⟨a, dx, fs, rfl, ha, l, h⟩
theorem r_make {C : Addr} {sp : Sp} {dvs : List V} {E : XK} {t : TA} (h : t σ H fun vs H1 => ∀ x dx, H1 x = none → H1 dx = none → dx ≠ x →
    sp (.ref x :: (vs ++ dvs)) (upd (upd H1 dx (.own x)) x (.ins C dx [])) (fun v H2 => v = .non ∧ Q (.ref x) H2) E) : tMake C sp dvs E t σ H Q := h
/-! ### one of two readings -/
def tEi (t u : TE) : TE := fun σ H Q => t σ H Q ∨ u σ H Q
theorem pe_ei {e : Expr} {t u : TE} (h : PE X e t) (h' : PE X e u) : PE X e (tEi t u) := pe_or2 h h'
theorem r_eiL {t u : TE} (h : t σ H Q) : tEi t u σ H Q := .inl h
theorem r_eiR {t u : TE} (h : u σ H Q) : tEi t u σ H Q := .inr h
/-! ### any, all of bools that are written out -/
theorem r_catL {l b : Addr} {xs ys : List V} (h1 : H l = some (.lst xs)) (h2 : H b = some (.lst ys)) (hz : xs.length + ys.length ≤ 1000000) (h : ∀ p, H p = none → Q (.ref p) (upd H p (.lst (xs ++ ys)))) : rAddG (.ref l) (.ref b) H Q := .inr ⟨l, b, _, _, rfl, rfl, h1, h2, Nat.le_trans hz (by decide), h⟩
def rAny (K : PySem.W.Frag) (xs : List V) (H : Hp) (Q : VK) : Prop := ∃ (p : Addr) (bs : List Bool), xs = [.ref p] ∧ SqL K H p (bs.map V.bl) ∧ Q (.bl (bs.any id)) H
def rAll (K : PySem.W.Frag) (xs : List V) (H : Hp) (Q : VK) : Prop := ∃ (p : Addr) (bs : List Bool), xs = [.ref p] ∧ SqL K H p (bs.map V.bl) ∧ Q (.bl (bs.all id)) H
theorem call_anyB (hc : X.calm = true) : CallR X (.builtin "any") (rAny X.K) := call_any hc
theorem call_allB (hc : X.calm = true) : CallR X (.builtin "all") (rAll X.K) := call_all hc
theorem r_any3F {p : Addr} (hs : SqL K H p [.bl false, .bl false, .bl false]) (h : Q (.bl false) H) : rAny K [.ref p] H Q := ⟨p, [false, false, false], rfl, hs, h⟩
theorem r_any2F {p : Addr} (hs : SqL K H p [.bl false, .bl false]) (h : Q (.bl false) H) : rAny K [.ref p] H Q := ⟨p, [false, false], rfl, hs, h⟩
theorem r_allT {α : Type} {p : Addr} {l : List α} {g : α → V} (hs : SqL K H p (l.map g)) (hg : ∀ x ∈ l, g x = .bl true) (h : Q (.bl true) H) : rAll K [.ref p] H Q := by
  refine ⟨p, l.map (fun _ => true), rfl, ?_, ?_⟩
  · have e : l.map g = (l.map (fun _ => true)).map V.bl := by
      rw [List.map_map]
      exact List.map_congr_left hg
    rw [← e]; exact hs
  · rw [all_true]; exact h
theorem iteTeF {A B : Prop} (h : B) : if (true == false) = true then A else B := h
theorem iteFeT {A B : Prop} (h : B) : if (false == true) = true then A else B := h
theorem iteTeT {A B : Prop} (h : A) : if (true == true) = true then A else B := h
theorem iteFeF {A B : Prop} (h : A) : if (false == false) = true then A else B := h
theorem iteTnT {A B : Prop} (h : B) : if (true != true) = true then A else B := h
theorem iteFnF {A B : Prop} (h : B) : if (false != false) = true then A else B := h
theorem iteTnF {A B : Prop} (h : A) : if (true != false) = true then A else B := h
theorem iteFnT {A B : Prop} (h : A) : if (false != true) = true then A else B := h
theorem iteNTT {A B : Prop} (h : B) : if (!(true == true)) = true then A else B := h
theorem iteNFF {A B : Prop} (h : B) : if (!(false == false)) = true then A else B := h
theorem iteNBB {b : Bool} {A B : Prop} (h : B) : if (!(b == b)) = true then A else B := by cases b <;> exact h
theorem iteNDD {α : Type} [DecidableEq α] {x : α} {A B : Prop} (h : B) : if (!decide (x = x)) = true then A else B := by rw [decide_eq_true rfl]; exact h
theorem iteDD {α : Type} [DecidableEq α] {x : α} {A B : Prop} (h : A) : if decide (x = x) = true then A else B := by rw [decide_eq_true rfl, if_pos rfl]; exact h
end
end L2
set_option maxHeartbeats 4000000
/-! Mathematics of the table for two rows. -/
namespace Lf
/-- the number in line i at place j -/
def tg (tb : List (List Int)) (i j : Nat) : Int := (tb.getD i []).getD j 0
structure TabAt (one other : List Int) (tb : List (List Int)) (i j : Nat) : Prop where
  up : 0 < i → tg tb (i - 1) j ≤ tg tb i j
  lf : 0 < j → tg tb i (j - 1) ≤ tg tb i j
  dg : 0 < i → 0 < j → one.getD (i - 1) 0 = other.getD (j - 1) 0 → tg tb (i - 1) (j - 1) < tg tb i j
structure TabOk (one other : List Int) (tb : List (List Int)) : Prop where
  len : tb.length = one.length + 1
  first : 0 ≤ tg tb 0 0
  lens : ∀ i, i ≤ one.length → (tb.getD i []).length = other.length + 1
  all : ∀ i j, i ≤ one.length → j ≤ other.length → TabAt one other tb i j
noncomputable def tab (one other : List Int) (tb : List (List Int)) : Bool := @decide (TabOk one other tb) (Classical.propDecidable _)
theorem tab_true {one other : List Int} {tb : List (List Int)} (h : TabOk one other tb) : tab one other tb = true := by
  unfold tab
  exact @decide_eq_true _ (Classical.propDecidable _) h
theorem tab_false {one other : List Int} {tb : List (List Int)} (h : ¬ TabOk one other tb) : tab one other tb = false := by
  unfold tab
  exact @decide_eq_false _ (Classical.propDecidable _) h
theorem tab_iff {one other : List Int} {tb : List (List Int)} : tab one other tb = true ↔ TabOk one other tb := by
  refine ⟨fun h => ?_, tab_true⟩
  rcases Classical.em (TabOk one other tb) with q | q
  · exact q
  · rw [tab_false q] at h
    cases h
end Lf
namespace Lf
/-- the last number of the last line -/
def tlast (tb : List (List Int)) : Int := (tb.getD (tb.length - 1) []).getD ((tb.getD (tb.length - 1) []).length - 1) 0
theorem tlast_eq {one other : List Int} {tb : List (List Int)} (h : TabOk one other tb) : tlast tb = tg tb one.length other.length := by
  unfold tlast tg
  have e1 : tb.length - 1 = one.length := by have := h.len; omega
  rw [e1, h.lens _ (Nat.le_refl _), Nat.add_sub_cancel]
def inside (n : Nat) (ps : List Int) : Bool := !(ps.any fun p => !(decide (0 ≤ p) && decide (p < (n : Int))))
theorem inside_mem {n : Nat} {ps : List Int} (h : inside n ps = true) : ∀ p ∈ ps, 0 ≤ p ∧ p < (n : Int) := by
  intro p hp
  unfold inside at h
  simp only [Bool.not_eq_true', List.any_eq_false] at h
  have := h p hp
  simpa using this
def picks (row ps : List Int) : List Int := ps.map fun p => row.getD p.toNat 0
end Lf
set_option maxHeartbeats 4000000
/-! Mathematics of the longest row of both. -/
namespace Lf
noncomputable def long (one other mine theirs : List Int) (tb : List (List Int)) : Bool :=
  inside one.length mine && tab one other tb && stands one mine (picks one mine) && stands other theirs (picks one mine) && decide (tlast tb = (mine.length : Int))
theorem sub_snoc {s l : List Int} {x : Int} (h : s.Sublist (l ++ [x])) : s.Sublist l ∨ ∃ s', s = s' ++ [x] ∧ s'.Sublist l := by
  obtain ⟨s1, s2, e, h1, h2⟩ := List.sublist_append_iff.mp h
  cases s2 with
  | nil => left; rw [e, List.append_nil]; exact h1
  | cons y r =>
    right
    have hl := h2.length_le
    have : r = [] := by
      cases r with
      | nil => rfl
      | cons _ _ => simp at hl
    subst this
    have : y = x := by
      have := h2.subset (List.mem_singleton.mpr rfl)
      simpa using this
    subst this
    exact ⟨s1, e, h1⟩
theorem take_snoc {l : List Int} {i : Nat} (h0 : 0 < i) (h : i ≤ l.length) : l.take i = l.take (i - 1) ++ [l.getD (i - 1) 0] := by
  have e : i = (i - 1) + 1 := by omega
  conv => lhs; rw [e]
  rw [List.take_add_one]
  congr 1
  rw [List.getD_eq_getElem?_getD]
  have : i - 1 < l.length := by omega
  simp [this]
theorem tab_nonneg {one other : List Int} {tb : List (List Int)} (T : TabOk one other tb) : ∀ (n i j : Nat), i + j = n → i ≤ one.length → j ≤ other.length → 0 ≤ tg tb i j
  | 0, i, j, h, _, _ => by
    have : i = 0 := by omega
    have : j = 0 := by omega
    subst_vars
    exact T.first
  | n + 1, i, j, h, hi, hj => by
    by_cases h0 : 0 < i
    · have := (T.all i j hi hj).up h0
      have := tab_nonneg T n (i - 1) j (by omega) (by omega) hj
      omega
    · have := (T.all i j hi hj).lf (by omega)
      have := tab_nonneg T n i (j - 1) (by omega) hi (by omega)
      omega
/-- the table bounds all -/
theorem tab_bounds {one other : List Int} {tb : List (List Int)} (T : TabOk one other tb) : ∀ (n i j : Nat) (s : List Int), i + j = n → i ≤ one.length → j ≤ other.length → s.Sublist (one.take i) → s.Sublist (other.take j) → (s.length : Int) ≤ tg tb i j
  | n, i, j, s, h, hi, hj, h1, h2 => by
    by_cases h0 : 0 < i
    · by_cases h0' : 0 < j
      · rw [take_snoc h0 hi] at h1
        rw [take_snoc h0' hj] at h2
        rcases sub_snoc h1 with h1 | ⟨s1, e1, h1⟩
        · rw [← take_snoc h0' hj] at h2
          have := tab_bounds T (n - 1) (i - 1) j s (by omega) (by omega) hj h1 h2
          have := (T.all i j hi hj).up h0
          omega
        · rcases sub_snoc h2 with h2 | ⟨s2, e2, h2⟩
          · have h1' : s.Sublist (one.take i) := by rw [take_snoc h0 hi, e1]; exact h1.append (List.Sublist.refl _)
            have := tab_bounds T (n - 1) i (j - 1) s (by omega) hi (by omega) h1' h2
            have := (T.all i j hi hj).lf h0'
            omega
          · have e3 := e1.symm.trans e2
            have e4 := List.append_inj' e3 rfl
            have e5 : one.getD (i - 1) 0 = other.getD (j - 1) 0 := by simpa using e4.2
            have e6 : s1 = s2 := e4.1
            subst e6
            have := tab_bounds T (n - 2) (i - 1) (j - 1) s1 (by omega) (by omega) (by omega) h1 h2
            have := (T.all i j hi hj).dg h0 h0' e5
            rw [e1, List.length_append]
            simp only [List.length_singleton]
            omega
      · have : j = 0 := by omega
        subst this
        rw [List.take_zero, List.sublist_nil] at h2
        subst h2
        have := tab_nonneg T _ i 0 rfl hi hj
        simpa using this
    · have : i = 0 := by omega
      subst this
      rw [List.take_zero, List.sublist_nil] at h1
      subst h1
      have := tab_nonneg T _ 0 j rfl hi hj
      simpa using this
termination_by n => n
theorem tab_bound {one other : List Int} {tb : List (List Int)} (T : TabOk one other tb) {s : List Int} (h1 : s.Sublist one) (h2 : s.Sublist other) : (s.length : Int) ≤ tlast tb := by
  rw [tlast_eq T]
  exact tab_bounds T _ one.length other.length s rfl (Nat.le_refl _) (Nat.le_refl _) (by rw [List.take_length]; exact h1) (by rw [List.take_length]; exact h2)
theorem long_parts {one other mine theirs : List Int} {tb : List (List Int)} (h : long one other mine theirs tb = true) : inside one.length mine = true ∧ TabOk one other tb ∧ stands one mine (picks one mine) = true ∧ stands other theirs (picks one mine) = true ∧ tlast tb = (mine.length : Int) := by
  unfold long at h
  simp only [Bool.and_eq_true, decide_eq_true_eq] at h
  exact ⟨h.1.1.1.1, tab_iff.mp h.1.1.1.2, h.1.1.2, h.1.2, h.2⟩
/-- rising places below n, n of them: all -/
theorem rising_all : ∀ (ps : List Int) (a n : Int), -1 ≤ a → rising a n ps = true → n - 1 - a ≤ ps.length → ps = (List.range ps.length).map (fun k : Nat => a + 1 + (k : Int)) ∧ (ps.length : Int) ≤ max 0 (n - 1 - a)
  | [], a, n, _, _, h => ⟨rfl, by simp only [List.length_nil] at h ⊢; omega⟩
  | p :: ps, a, n, ha, h, hl => by
    rw [rising] at h
    simp only [Bool.and_eq_true, decide_eq_true_eq] at h
    have hb : ∀ (qs : List Int) (b m : Int), rising b m qs = true → (qs.length : Int) ≤ max 0 (m - 1 - b) := by
      intro qs
      induction qs with
      | nil => intro b m _; simp; omega
      | cons q qs ih =>
        intro b m hq
        rw [rising] at hq
        simp only [Bool.and_eq_true, decide_eq_true_eq] at hq
        have := ih q m hq.2
        simp only [List.length_cons]
        omega
    have h1 := hb ps p n h.2
    simp only [List.length_cons] at hl
    have ep : p = a + 1 := by omega
    subst ep
    obtain ⟨e, l⟩ := rising_all ps (a + 1) n (by omega) h.2 (by omega)
    refine ⟨?_, by simp only [List.length_cons]; omega⟩
    conv => lhs; rw [e]
    rw [List.length_cons, List.range_succ_eq_map, List.map_cons, List.map_map]
    congr 1
    · simp
    · refine List.map_congr_left fun k _ => ?_
      simp only [Function.comp]
      omega
theorem long_self {one theirs mine : List Int} {tb : List (List Int)} (h : long one one mine theirs tb = true) : mine = (List.range one.length).map (fun k : Nat => (k : Int)) := by
  obtain ⟨h1, h2, h3, h4, h5⟩ := long_parts h
  have hb := tab_bound h2 (List.Sublist.refl one) (List.Sublist.refl one)
  have hl : mine.length = (picks one mine).length := by unfold picks; simp
  rw [stands_eq _ _ _ hl] at h3
  have hr := (Bool.and_eq_true_iff.mp h3).1
  obtain ⟨e, l⟩ := rising_all mine (-1) one.length (by omega) hr (by omega)
  have : mine.length = one.length := by omega
  rw [this] at e
  rw [e]
  refine List.map_congr_left fun k _ => ?_
  omega
theorem rising_len : ∀ (qs : List Int) (b m : Int), rising b m qs = true → (qs.length : Int) ≤ max 0 (m - 1 - b)
  | [], b, m, _ => by simp only [List.length_nil]; omega
  | q :: qs, b, m, hq => by
    rw [rising] at hq
    simp only [Bool.and_eq_true, decide_eq_true_eq] at hq
    have := rising_len qs q m hq.2
    simp only [List.length_cons]
    omega
theorem stands_le {row ps xs : List Int} (h : stands row ps xs = true) : ps.length ≤ row.length := by
  have hl := stands_len h
  rw [stands_eq _ _ _ hl] at h
  have := rising_len ps _ _ (Bool.and_eq_true_iff.mp h).1
  omega
theorem long_sizes {one other mine theirs : List Int} {tb : List (List Int)} (h : long one other mine theirs tb = true) : mine.length ≤ one.length ∧ theirs.length = mine.length ∧ tb.length = one.length + 1 ∧ ∀ i, i < tb.length → (tb.getD i []).length = other.length + 1 := by
  obtain ⟨h1, h2, h3, h4, h5⟩ := long_parts h
  refine ⟨stands_le h3, ?_, h2.len, fun i hi => h2.lens i (by have := h2.len; omega)⟩
  have := stands_len h4
  rw [this]; unfold picks; simp
theorem long_no_last {one other mine theirs : List Int} {tb : List (List Int)} (h : tlast tb ≠ (mine.length : Int)) : long one other mine theirs tb = false := by
  unfold long
  rw [decide_eq_false h, Bool.and_false]
theorem long_no_len {one other mine theirs : List Int} {tb : List (List Int)} (h : (tb.getD 0 []).length ≠ other.length + 1) : long one other mine theirs tb = false := by
  unfold long
  rw [tab_false (fun z => h (z.lens 0 (Nat.zero_le _))), Bool.and_false]; rfl
theorem set_getD {α : Type} {l : List α} {i : Nat} {x d : α} (h : i < l.length) : (l.set i x).getD i d = x := by
  rw [List.getD_eq_getElem?_getD]
  simp [h]
theorem tlast_set {tb : List (List Int)} {line : List Int} (h : 0 < tb.length) (hl : 0 < line.length) {v : Int} : tlast (tb.set (tb.length - 1) (line.set (line.length - 1) v)) = v := by
  unfold tlast
  rw [List.length_set, set_getD (by omega), List.length_set, set_getD (by omega)]
theorem lens_set {tb : List (List Int)} {n k : Nat} {line : List Int} (h : ∀ i, i < tb.length → (tb.getD i []).length = n) (hl : line.length = n) : ∀ i, i < (tb.set k line).length → ((tb.set k line).getD i []).length = n := by
  intro i hi
  rw [List.length_set] at hi
  by_cases e : k = i
  · subst e
    rw [set_getD hi]; exact hl
  · have : (tb.set k line).getD i [] = tb.getD i [] := by
      rw [List.getD_eq_getElem?_getD, List.getD_eq_getElem?_getD]
      simp [e]
    rw [this]
    exact h i hi
/-! ### the shortest of both -/
noncomputable def both (one other row mine theirs : List Int) (tb : List (List Int)) : Bool :=
  stands row mine one && stands row theirs other && tab one other tb && decide ((row.length : Int) + tlast tb = (one.length : Int) + other.length)
theorem both_parts {one other row mine theirs : List Int} {tb : List (List Int)} (h : both one other row mine theirs tb = true) : stands row mine one = true ∧ stands row theirs other = true ∧ TabOk one other tb ∧ (row.length : Int) + tlast tb = (one.length : Int) + other.length := by
  unfold both at h
  simp only [Bool.and_eq_true, decide_eq_true_eq] at h
  exact ⟨h.1.1.1, h.1.1.2, tab_iff.mp h.1.2, h.2⟩
theorem both_sizes {one other row mine theirs : List Int} {tb : List (List Int)} (h : both one other row mine theirs tb = true) : mine.length = one.length ∧ theirs.length = other.length ∧ row.length ≤ one.length + other.length ∧ tb.length = one.length + 1 ∧ ∀ i, i < tb.length → (tb.getD i []).length = other.length + 1 := by
  obtain ⟨h1, h2, h3, h4⟩ := both_parts h
  have hb := tab_bound h3 (List.nil_sublist one) (List.nil_sublist other)
  simp only [List.length_nil] at hb
  exact ⟨stands_len h1, stands_len h2, by omega, h3.len, fun i hi => h3.lens i (by have := h3.len; omega)⟩
theorem both_row {one other row mine theirs : List Int} {tb : List (List Int)} (z : Int) (h : both one other row mine theirs tb = true) : both one other (row ++ [z]) mine theirs tb = false := by
  obtain ⟨_, _, _, h4⟩ := both_parts h
  unfold both
  rw [decide_eq_false (by rw [List.length_append]; simp only [List.length_singleton]; omega), Bool.and_false]
theorem both_mine {one other row mine theirs : List Int} {tb : List (List Int)} (z : Int) (h : both one other row mine theirs tb = true) : both one other row (mine ++ [z]) theirs tb = false := by
  obtain ⟨h1, _, _, _⟩ := both_parts h
  unfold both
  rw [stands_more z h1]; rfl
theorem both_theirs {one other row mine theirs : List Int} {tb : List (List Int)} (z : Int) (h : both one other row mine theirs tb = true) : both one other row mine (theirs ++ [z]) tb = false := by
  obtain ⟨_, h1, _, _⟩ := both_parts h
  unfold both
  rw [stands_more z h1, Bool.and_false]; rfl
theorem both_no_len {one other row mine theirs : List Int} {tb : List (List Int)} (h : (tb.getD 0 []).length ≠ other.length + 1) : both one other row mine theirs tb = false := by
  unfold both
  rw [tab_false (fun z => h (z.lens 0 (Nat.zero_le _))), Bool.and_false]; rfl
theorem both_self {one row mine theirs : List Int} {tb : List (List Int)} (h : both one one row mine theirs tb = true) : row.length = one.length := by
  obtain ⟨h1, h2, h3, h4⟩ := both_parts h
  have hb := tab_bound h3 (List.Sublist.refl one) (List.Sublist.refl one)
  have := stands_le h1
  have := stands_len h1
  omega
end Lf
set_option maxRecDepth 100000
set_option maxHeartbeats 4000000
/-! Tables: lists of lists of ints. -/
namespace L2
open PySem PySem.Spec PyProof.Rows
/-- a list of lists of ints -/
structure Tab (H : Hp) (t : Addr) (ls : List Addr) (tb : List (List Int)) : Prop where
  at_ : H t = some (.lst (ls.map V.ref))
  len : ls.length = tb.length
  row : ∀ (i : Nat) (l : Addr), ls[i]? = some l → H l = some (.lst ((tb.getD i []).map V.int))
section
variable {σ : St} {H H' : Hp} {Q : VK} {D : Ends} {K : PySem.W.Frag} {X : Cx}
theorem Tab.same {t : Addr} {ls : List Addr} {tb : List (List Int)} (T : Tab H t ls tb) (s : Same H H') : Tab H' t ls tb := ⟨s.at T.at_, T.len, fun i l h => s.at (T.row i l h)⟩
theorem r_lenTab {t : Addr} {ls : List Addr} {tb : List (List Int)} (T : Tab H t ls tb) (h : Q (.int tb.length) H) : rLenG K [.ref t] H Q := r_lenL (SqL.of T.at_) (by rw [List.length_map, T.len]; exact h)
theorem r_ixTab {t : Addr} {ls : List Addr} {tb : List (List Int)} {i : Int} (T : Tab H t ls tb) (h0 : 0 ≤ i) (h1 : i < tb.length) (h : ∀ l, ls[i.toNat]? = some l → H l = some (.lst ((tb.getD i.toNat []).map V.int)) → Q (.ref l) H) : rIxG K (.ref t) (.int i) H Q := by
  obtain ⟨n, rfl⟩ : ∃ n : Nat, i = n := ⟨i.toNat, by omega⟩
  rw [Int.toNat_natCast] at h
  have hl : n < ls.length := by rw [T.len]; omega
  obtain ⟨l, e⟩ : ∃ l, ls[n]? = some l := ⟨ls[n], by simp [hl]⟩
  refine r_ixL (SqL.of T.at_) (v := .ref l) (atI_nat ?_) (h l e (T.row n l e))
  rw [List.getElem?_map, e]; rfl
theorem r_ixTabLast {t : Addr} {ls : List Addr} {tb : List (List Int)} (T : Tab H t ls tb) (h1 : 0 < tb.length) (h : ∀ l, ls[tb.length - 1]? = some l → H l = some (.lst ((tb.getD (tb.length - 1) []).map V.int)) → Q (.ref l) H) : rIxG K (.ref t) (.int (-1)) H Q := by
  have hl : tb.length - 1 < ls.length := by rw [T.len]; omega
  obtain ⟨l, e⟩ : ∃ l, ls[tb.length - 1]? = some l := ⟨ls[tb.length - 1], by simp [hl]⟩
  have hne : ls ≠ [] := fun z => by rw [z] at hl; simp at hl
  have e2 : ls.getLast hne = l := by
    rw [List.getLast_eq_getElem]
    have := List.getElem?_eq_some_iff.mp e
    obtain ⟨_, q⟩ := this
    rw [← q]
    congr 1
    rw [T.len]
  refine r_ixL (SqL.of T.at_) (v := .ref l) ?_ (h l e (T.row _ l e))
  have e3 : ls.map V.ref = (ls.dropLast).map V.ref ++ [.ref l] := by
    conv => lhs; rw [← List.dropLast_concat_getLast hne, e2]
    rw [List.map_append]; rfl
  rw [e3]
  exact atI_last _ _
theorem tg_of {tb : List (List Int)} {i j : Nat} : (tb.getD i []).getD j 0 = Lf.tg tb i j := rfl
theorem getLast_getD {ns : List Int} (h : ns ≠ []) : ns.getLast h = ns.getD (ns.length - 1) 0 := by
  rw [List.getLast_eq_getElem, List.getD_eq_getElem?_getD]
  have : ns.length - 1 < ns.length := by have := List.length_pos_iff.mpr h; omega
  simp [this]
theorem r_ixLastD {p : Addr} {ns : List Int} (hs : SqL K H p (ns.map V.int)) (hn : 0 < ns.length) (h : Q (.int (ns.getD (ns.length - 1) 0)) H) : rIxG K (.ref p) (.int (-1)) H Q :=
  r_ixLast hs (List.length_pos_iff.mp hn) (by rw [getLast_getD]; exact h)
theorem r_anyM {α : Type} {p : Addr} {l : List α} {g : α → Bool} (hs : SqL K H p (l.map fun x => V.bl (g x))) (h : Q (.bl (l.any g)) H) : rAny K [.ref p] H Q := by
  refine ⟨p, l.map g, rfl, ?_, ?_⟩
  · rw [List.map_map]; exact hs
  · rw [List.any_map]; exact h
theorem r_allM {α : Type} {p : Addr} {l : List α} {g : α → Bool} (hs : SqL K H p (l.map fun x => V.bl (g x))) (h : Q (.bl (l.all g)) H) : rAll K [.ref p] H Q := by
  refine ⟨p, l.map g, rfl, ?_, ?_⟩
  · rw [List.map_map]; exact hs
  · rw [List.all_map]; exact h
theorem getD_set_eq {α : Type} {l : List α} {i : Nat} {x d : α} (h : i < l.length) : (l.set i x).getD i d = x := by
  rw [List.getD_eq_getElem?_getD]
  simp [h]
theorem getD_set_ne {α : Type} {l : List α} {i k : Nat} {x d : α} (h : i ≠ k) : (l.set i x).getD k d = l.getD k d := by
  rw [List.getD_eq_getElem?_getD, List.getD_eq_getElem?_getD]
  simp [h]
theorem nodup_at {ls : List Addr} (nd : ls.Nodup) {i k : Nat} {l l' : Addr} (hi : ls[i]? = some l) (hk : ls[k]? = some l') (h : k ≠ i) : l' ≠ l := by
  intro e
  subst e
  exact h ((List.getElem?_inj (List.getElem?_eq_some_iff.mp hk).1 nd).mp (hk.trans hi.symm))
theorem Tab.set {t l : Addr} {ls : List Addr} {tb : List (List Int)} {i : Nat} {line : List Int} (T : Tab H t ls tb) (nd : ls.Nodup) (hl : ls[i]? = some l) (tl : t ≠ l) : Tab (upd H l (.lst (line.map V.int))) t ls (tb.set i line) := by
  have hi : i < tb.length := by rw [← T.len]; exact (List.getElem?_eq_some_iff.mp hl).1
  refine ⟨upd_keepNe T.at_ tl, by rw [List.length_set]; exact T.len, fun k l' hk => ?_⟩
  by_cases e : k = i
  · subst e
    rw [hl] at hk
    cases hk
    rw [upd_same, getD_set_eq hi]
  · rw [upd_ne (nodup_at nd hl hk e), getD_set_ne (fun z => e z.symm)]
    exact T.row k l' hk
theorem r_gsub {to ti : TE} {t : TSet} {v : V} {R : St → Hp → Prop} (h : to σ H fun o H1 => ti σ H1 fun i H2 => t o i v H2 fun H3 => R σ H3) : gSub to ti t v σ H R := h
theorem r_setLast {l : Addr} {ns : List Int} {v : Int} {R : Hp → Prop} (hl : H l = some (.lst (ns.map V.int))) (hn : 0 < ns.length) (h : R (upd H l (.lst ((ns.set (ns.length - 1) v).map V.int)))) : rSetL (.ref l) (.int (-1)) (.int v) H R := by
  refine ⟨l, _, _, ns.length - 1, rfl, rfl, hl, ?_, ?_⟩
  · rw [List.length_map]
    unfold ixN
    rw [if_neg (by decide), if_pos (by omega)]
    congr 1
    omega
  · rw [← List.map_set]; exact h
theorem r_setI {l : Addr} {ns : List Int} {i v : Int} {R : Hp → Prop} (hl : H l = some (.lst (ns.map V.int))) (h0 : 0 ≤ i) (h1 : i < ns.length) (h : R (upd H l (.lst ((ns.set i.toNat v).map V.int)))) : rSetL (.ref l) (.int i) (.int v) H R := by
  refine ⟨l, _, _, i.toNat, rfl, rfl, hl, ?_, ?_⟩
  · rw [List.length_map]
    unfold ixN
    rw [if_pos h0, if_pos h1]
  · rw [← List.map_set]; exact h
theorem cutI_neg1 (xs : List Int) : cutI xs none (some (-1)) = xs.dropLast := by
  unfold cutI
  rw [HT.sIx_none, List.drop_zero, Nat.sub_zero]
  have : HT.sIx xs.length xs.length (some (-1)) = xs.length - 1 := by
    show (if (-1 : Int) < 0 then ((-1 : Int) + (xs.length : Int)).toNat else min (-1 : Int).toNat xs.length) = _
    rw [if_pos (by decide)]
    omega
  rw [this, List.dropLast_eq_take]
theorem r_slNeg1 {a : Addr} {ns : List Int} (hs : SqL K H a (ns.map V.int)) (h : ∀ p, H p = none → Q (.ref p) (upd H p (.lst (ns.dropLast.map V.int)))) : rSlL K (.ref a) none (some (-1)) H Q := r_slI hs (by rw [cutI_neg1]; exact h)
end
end L2
namespace L2
open PySem PySem.Spec PyProof.Rows
section
variable {X : Cx} {σ : St} {H : Hp} {Q : VK}
def LR (Q : VK) (i n : Int) (H1 : Hp) : Prop := i ≤ 2 ^ 20 ∧ n ≤ 2 ^ 20 ∧ -(2 ^ 20) ≤ n ∧ -(2 ^ 20) ≤ i ∧ ∀ l, H1 l = none → Q (.ref l) (upd H1 l (.lst (((List.range (n - i).toNat).map fun k : Nat => i + (k : Int)).map V.int)))
def tLR1 (ta : TA) : TE := fun σ H Q => ta σ H fun vs H1 => ∃ j : Int, vs = [.int j] ∧ LR Q 0 j H1
theorem vals_intsJ : ∀ (ns : List Int) (us : List Value), us.length = ns.length → (∀ j v, us[j]? = some v → ∃ t, v = Value.int (ns.getD j 0) t) → Vals (ns.map V.int) us
  | [], [], _, _ => .nil
  | [], _ :: _, h, _ => by simp at h
  | _ :: _, [], h, _ => by simp at h
  | n :: ns, u :: us, h, f => .cons (f 0 u rfl) (vals_intsJ ns us (by simpa using h) fun j v e => f (j + 1) v e)
theorem items_ints {n : Nat} {a : Int} {acc : Array Value} (h : ItemsOf (fun i v => ∃ t, v = Value.int (a + i * 1) t) acc n) : Vals (((List.range n).map fun k : Nat => a + (k : Int)).map V.int) acc.toList := by
  refine vals_intsJ _ _ (by simp [h.1]) fun j v e => ?_
  have e' : acc[j]? = some v := by simpa using e
  obtain ⟨t, rfl⟩ := h.2 j v e'
  have hj : j < n := by
    have := (Array.getElem?_eq_some_iff.mp e').1
    rw [h.1] at this; exact this
  refine ⟨t, ?_⟩
  congr 1
  rw [List.getD_eq_getElem?_getD, List.getElem?_map, List.getElem?_range hj]
  show a + (j : Int) * 1 = a + (j : Int)
  omega
theorem list_range {pins : List (Addr × Obj)} {s : Shared} {lo hi : Int} {t u v : Tok} {tk : Nat} (hc : X.calm = true) (I : Inv X pins σ H s) (q : LR Q lo hi H) :
    wpAny (model X.prog X.w) X.A (call (.type "list") [.ref s.heap.objs.size]) (EP X pins σ Q) X.xe { s with heap := s.heap.push { cls := .type "range", data := .fields #[.int lo t, .int hi u, .int 1 v] }, toks := tk } := by
  obtain ⟨h1, h2, h3, h4, q⟩ := q
  have I1 : Inv X pins σ H { s with heap := s.heap.push { cls := .type "range", data := .fields #[.int lo t, .int hi u, .int 1 v] }, toks := tk } := I.kept fun b o e => Heap.get?_push_of_some _ e
  refine call_list_range (n := (hi - lo).toNat) (I.ok.hd hc) (IsRange.new ..) (small_one (by omega) (by omega) (by omega) (by omega)) (by rw [rangeSize_one]; split <;> omega) (by omega) fun h' tk' acc c hk hS hI => ?_
  refine ⟨.ref _, _, ?_, rfl, q _ (I1.hok.fresh (Nat.le_refl _))⟩
  refine I1.laid (fun b u e => hk b u e) (Nat.le_refl _) ⟨?_, acc.toList, c, items_ints hI, by rw [Array.toArray_toList]; exact hS⟩
  rw [List.length_map, List.length_map, List.length_range]
  refine Nat.le_trans ?_ (by decide : 2 ^ 22 ≤ sizeLine)
  omega
theorem pe_listRange1 {a : Expr} {ta : TA} {p p' pos pos' : Pos} (hc : X.calm = true) (hg : Gl X "list") (hm : X.mg "list" = none) (hg' : Gl X "range") (hm' : X.mg "range" = none) (ha : PA X [a] ta) (hs : starEach [a] X.env = [(false, eval a X.env)] := by rfl)
    (hs2 : starEach [.Call (.Name "range" p') [a] [] pos'] X.env = [(false, eval (.Call (.Name "range" p') [a] [] pos') X.env)] := by rfl) : PE X (.Call (.Name "list" p) [.Call (.Name "range" p') [a] [] pos'] [] pos) (tLR1 ta) := by
  intro pins s σ H Q I h
  refine wpAny_Call_Name_kw (ld_blt I hg hm boot_list ?_)
  refine PyProof.Rows.callWith_type1 ?_ hs2 rfl
  rw [hs2]
  show wpAny _ _ (spliced ((false, eval (.Call (.Name "range" p') [a] [] pos') X.env) :: [])) _ _ s
  refine Calls.spliced_cons ?_
  refine Call_ (ld_blt I hg' hm' boot_range (PyProof.Rows.callWith_type1 (thn (ha pos' pins s σ H _ I h) fun us s1 ⟨vs, H1, I1, r1, q1⟩ => ?_) hs rfl))
  obtain ⟨j, e, q⟩ := q1
  subst e
  cases r1 with
  | cons r rr =>
    cases rr
    obtain ⟨t, rfl⟩ := r
    refine call_range_1 (Calls.spliced_nil ?_)
    exact list_range hc I1 q
def tLR2 (ta : TA) : TE := fun σ H Q => ta σ H fun vs H1 => ∃ i j : Int, vs = [.int i, .int j] ∧ LR Q i j H1
theorem pe_listRange2 {a b : Expr} {ta : TA} {p p' pos pos' : Pos} (hc : X.calm = true) (hg : Gl X "list") (hm : X.mg "list" = none) (hg' : Gl X "range") (hm' : X.mg "range" = none) (ha : PA X [a, b] ta) (hs : starEach [a, b] X.env = [(false, eval a X.env), (false, eval b X.env)] := by rfl) (hs1 : starEach [b] X.env = [(false, eval b X.env)] := by rfl)
    (hs2 : starEach [.Call (.Name "range" p') [a, b] [] pos'] X.env = [(false, eval (.Call (.Name "range" p') [a, b] [] pos') X.env)] := by rfl) : PE X (.Call (.Name "list" p) [.Call (.Name "range" p') [a, b] [] pos'] [] pos) (tLR2 ta) := by
  intro pins s σ H Q I h
  refine wpAny_Call_Name_kw (ld_blt I hg hm boot_list ?_)
  refine PyProof.Rows.callWith_type1 ?_ hs2 rfl
  rw [hs2]
  show wpAny _ _ (spliced ((false, eval (.Call (.Name "range" p') [a, b] [] pos') X.env) :: [])) _ _ s
  refine Calls.spliced_cons ?_
  refine Call_ (ld_blt I hg' hm' boot_range (PyProof.Rows.callWith_type1 (thn (ha pos' pins s σ H _ I h) fun us s1 ⟨vs, H1, I1, r1, q1⟩ => ?_) (by rw [hs, hs1]) (by rw [hs1]; rfl)))
  obtain ⟨i, j, e, q⟩ := q1
  subst e
  cases r1 with
  | cons r rr =>
    cases rr with
    | cons r' rr =>
      cases rr
      obtain ⟨t, rfl⟩ := r
      obtain ⟨t', rfl⟩ := r'
      refine call_range_2 (Calls.spliced_nil ?_)
      exact list_range hc I1 q
def LR1 (Q : VK) (vs : List V) (H1 : Hp) : Prop := ∃ j : Int, vs = [.int j] ∧ LR Q 0 j H1
def LR2 (Q : VK) (vs : List V) (H1 : Hp) : Prop := ∃ i j : Int, vs = [.int i, .int j] ∧ LR Q i j H1
theorem r_lr1 {ta : TA} (h : ta σ H fun vs H1 => LR1 Q vs H1) : tLR1 ta σ H Q := h
theorem r_lr2 {ta : TA} (h : ta σ H fun vs H1 => LR2 Q vs H1) : tLR2 ta σ H Q := h
theorem r_LR1 {n : Nat} (hn : n ≤ 100000) (h : ∀ l, H l = none → Q (.ref l) (upd H l (.lst (((List.range n).map fun k : Nat => (k : Int)).map V.int)))) : LR1 Q [.int (n : Int)] H := by
  refine ⟨n, rfl, by omega, by omega, by omega, by omega, fun l hl => ?_⟩
  have e : ((List.range ((n : Int) - 0).toNat).map fun k : Nat => (0 : Int) + (k : Int)) = (List.range n).map fun k : Nat => (k : Int) := by
    have : ((n : Int) - 0).toNat = n := by omega
    rw [this]
    exact List.map_congr_left fun k _ => by omega
  rw [e]
  exact h l hl
end
end L2
set_option maxHeartbeats 4000000
/-! Mathematics of mixed rows. -/
namespace Lf
/-- what stands at none of the places -/
def others (row ps : List Int) : List Int := (row.zipIdx.filter fun y => !decide ((y.2 : Int) ∈ ps)).map fun y => y.1
def mixed (row one other ps : List Int) : Bool := stands row ps one && decide (others row ps = other)
structure UnAt (row one other : List Int) (ps : List (Int × Int)) (i j : Int) : Prop where
  i0 : 0 ≤ i
  i1 : i ≤ (one.length : Int)
  j0 : 0 ≤ j
  j1 : j ≤ (other.length : Int)
  nx : i < (one.length : Int) → one.getD i.toNat 0 = row.getD (i + j).toNat 0 → (i + 1, j) ∈ ps
  ny : j < (other.length : Int) → other.getD j.toNat 0 = row.getD (i + j).toNat 0 → (i, j + 1) ∈ ps
structure UnOk (row one other : List Int) (ps : List (Int × Int)) : Prop where
  len : row.length = one.length + other.length
  first : ((0, 0) : Int × Int) ∈ ps
  last : ((one.length : Int), (other.length : Int)) ∉ ps
  all : ∀ p ∈ ps, UnAt row one other ps p.1 p.2
noncomputable def unmixed (row one other : List Int) (ps : List (Int × Int)) : Bool := @decide (UnOk row one other ps) (Classical.propDecidable _)
theorem unmixed_true {row one other : List Int} {ps : List (Int × Int)} (h : UnOk row one other ps) : unmixed row one other ps = true := by
  unfold unmixed
  exact @decide_eq_true _ (Classical.propDecidable _) h
theorem unmixed_false {row one other : List Int} {ps : List (Int × Int)} (h : ¬ UnOk row one other ps) : unmixed row one other ps = false := by
  unfold unmixed
  exact @decide_eq_false _ (Classical.propDecidable _) h
theorem unmixed_iff {row one other : List Int} {ps : List (Int × Int)} : unmixed row one other ps = true ↔ UnOk row one other ps := by
  refine ⟨fun h => ?_, unmixed_true⟩
  rcases Classical.em (UnOk row one other ps) with q | q
  · exact q
  · rw [unmixed_false q] at h
    cases h
/-- a row mixed of two -/
inductive Mix : List Int → List Int → List Int → Prop
  | nil : Mix [] [] []
  | left {x : Int} {r o t : List Int} : Mix r o t → Mix (x :: r) (x :: o) t
  | right {x : Int} {r o t : List Int} : Mix r o t → Mix (x :: r) o (x :: t)
theorem Mix.swap {r o t : List Int} (h : Mix r o t) : Mix r t o := by
  induction h with
  | nil => exact .nil
  | left _ ih => exact .right ih
  | right _ ih => exact .left ih
theorem Mix.ones : ∀ o : List Int, Mix o o []
  | [] => .nil
  | x :: o => .left (Mix.ones o)
theorem Mix.others : ∀ t : List Int, Mix t [] t
  | [] => .nil
  | x :: t => .right (Mix.others t)
theorem Mix.append {r o t r' o' t' : List Int} (h : Mix r o t) (h' : Mix r' o' t') : Mix (r ++ r') (o ++ o') (t ++ t') := by
  induction h with
  | nil => exact h'
  | left _ ih => exact .left ih
  | right _ ih => exact .right ih
theorem Mix.snocL {r o t : List Int} {x : Int} (h : Mix r o t) : Mix (r ++ [x]) (o ++ [x]) t := by
  have := h.append (Mix.left (x := x) .nil)
  simpa using this
theorem Mix.snocR {r o t : List Int} {x : Int} (h : Mix r o t) : Mix (r ++ [x]) o (t ++ [x]) := by
  have := h.append (Mix.right (x := x) .nil)
  simpa using this
theorem Mix.behind (o t : List Int) : Mix (o ++ t) o t := by
  have := (Mix.ones o).append (Mix.others t)
  simpa using this
theorem Mix.ahead (o t : List Int) : Mix (t ++ o) o t := by
  have := (Mix.others t).append (Mix.ones o)
  simpa using this
theorem drop_head {l : List Int} {x : Int} {r : List Int} {i : Nat} (h : x :: r = l.drop i) : i < l.length ∧ l.getD i 0 = x ∧ r = l.drop (i + 1) := by
  have hi : i < l.length := by
    rcases Nat.lt_or_ge i l.length with q | q
    · exact q
    · rw [List.drop_of_length_le q] at h; cases h
  rw [List.drop_eq_getElem_cons hi] at h
  obtain ⟨a, b⟩ := List.cons.inj h
  refine ⟨hi, ?_, b⟩
  rw [List.getD_eq_getElem?_getD]
  simp [hi, a]
/-- pairs that show that there are none: then it is mixed of no such two -/
theorem un_not_mix {row one other : List Int} {ps : List (Int × Int)} (U : UnOk row one other ps) : ¬ Mix row one other := by
  have key : ∀ (r o t : List Int), Mix r o t → ∀ i j : Nat, r = row.drop (i + j) → o = one.drop i → t = other.drop j → i ≤ one.length → j ≤ other.length → ((i : Int), (j : Int)) ∈ ps → False := by
    intro r o t h
    induction h with
    | nil =>
      intro i j h1 h2 h3 hi hj hm
      have e1 : i = one.length := by
        rcases Nat.lt_or_ge i one.length with q | q
        · rw [List.drop_eq_getElem_cons q] at h2; cases h2
        · omega
      have e2 : j = other.length := by
        rcases Nat.lt_or_ge j other.length with q | q
        · rw [List.drop_eq_getElem_cons q] at h3; cases h3
        · omega
      rw [e1, e2] at hm
      exact U.last hm
    | @left x r o t _ ih =>
      intro i j h1 h2 h3 hi hj hm
      obtain ⟨a1, a2, a3⟩ := drop_head h1
      obtain ⟨b1, b2, b3⟩ := drop_head h2
      have ua := U.all _ hm
      have := ua.nx (by show (i : Int) < _; omega) (by
        show one.getD (i : Int).toNat 0 = row.getD ((i : Int) + (j : Int)).toNat 0
        have e : ((i : Int) + (j : Int)).toNat = i + j := by omega
        rw [e, Int.toNat_natCast, a2, b2])
      refine ih (i + 1) j (by rw [a3]; congr 1; omega) b3 h3 (by omega) hj ?_
      have e : ((i + 1 : Nat) : Int) = (i : Int) + 1 := by omega
      rw [e]
      exact this
    | @right x r o t _ ih =>
      intro i j h1 h2 h3 hi hj hm
      obtain ⟨a1, a2, a3⟩ := drop_head h1
      obtain ⟨b1, b2, b3⟩ := drop_head h3
      have ua := U.all _ hm
      have := ua.ny (by show (j : Int) < _; omega) (by
        show other.getD (j : Int).toNat 0 = row.getD ((i : Int) + (j : Int)).toNat 0
        have e : ((i : Int) + (j : Int)).toNat = i + j := by omega
        rw [e, Int.toNat_natCast, a2, b2])
      refine ih i (j + 1) (by rw [a3]; congr 1) h2 b3 hi (by omega) ?_
      have e : ((j + 1 : Nat) : Int) = (j : Int) + 1 := by omega
      rw [e]
      exact this
  intro h
  exact key row one other h 0 0 (by simp) (by simp) (by simp) (Nat.zero_le _) (Nat.zero_le _) U.first
theorem mixed_parts {row one other ps : List Int} (h : mixed row one other ps = true) : stands row ps one = true ∧ others row ps = other := by
  unfold mixed at h
  simpa using h
theorem mixed_more {row one other ps : List Int} (z : Int) (h : mixed row one other ps = true) : mixed row one other (ps ++ [z]) = false := by
  unfold mixed
  rw [stands_more z (mixed_parts h).1]; rfl
theorem unmixed_more {row one other : List Int} {ps : List (Int × Int)} : unmixed row one other (ps ++ [((one.length : Int), (other.length : Int))]) = false :=
  unmixed_false fun z => z.last (by simp)
end Lf
set_option maxRecDepth 100000
set_option maxHeartbeats 4000000
/-! Lists of pairs; dicts with pairs as keys; in, not in by data. -/
namespace L2
open PySem PySem.Spec PyProof.Rows
abbrev dP (p : Int × Int) : PyData := .tuple [.int p.1, .int p.2]
theorem eqv_dP (p q : Int × Int) : PyData.eqv (dP p) (dP q) = decide (p = q) := by
  obtain ⟨a, b⟩ := p
  obtain ⟨c, d⟩ := q
  rw [PyData.eqv]
  simp only [PyData.eqvAll, PyData.eqv]
  by_cases h1 : a = c <;> by_cases h2 : b = d <;> simp [h1, h2]
theorem any_dP (p : Int × Int) : ∀ ps : List (Int × Int), ((ps.map dP).any fun e => PyData.eqv e (dP p)) = decide (p ∈ ps)
  | [] => by simp
  | q :: r => by
    rw [List.map_cons, List.any_cons, any_dP p r, eqv_dP]
    by_cases h1 : q = p
    · subst h1; simp
    · have h2 : ¬ p = q := fun z => h1 z.symm
      simp [h1, h2]
theorem lay_dP : ∀ ps : List (Int × Int), PyData.canLayAll0 (ps.map dP) = true
  | [] => rfl
  | q :: r => by
    rw [List.map_cons, PyData.canLayAll0, lay_dP r]
    simp [PyData.canLay0, PyData.canLayAll0]
/-- a list of pairs of ints -/
structure Prs (H : Hp) (p : Addr) (ts : List Addr) (ps : List (Int × Int)) : Prop where
  at_ : H p = some (.lst (ts.map V.ref))
  len : ts.length = ps.length
  row : ∀ (i : Nat) (t : Addr), ts[i]? = some t → H t = some (.tup [.int (ps.getD i (0, 0)).1, .int (ps.getD i (0, 0)).2])
section
variable {σ : St} {H H' : Hp} {Q : VK} {D : Ends} {K : PySem.W.Frag} {X : Cx}
theorem Prs.same {p : Addr} {ts : List Addr} {ps : List (Int × Int)} (T : Prs H p ts ps) (s : Same H H') : Prs H' p ts ps := ⟨s.at T.at_, T.len, fun i l h => s.at (T.row i l h)⟩
theorem rdvs_pairs : ∀ (ts : List Addr) (ps : List (Int × Int)), ts.length = ps.length → (∀ (i : Nat) (t : Addr), ts[i]? = some t → H t = some (.tup [.int (ps.getD i (0, 0)).1, .int (ps.getD i (0, 0)).2])) → RdVs K H (ts.map V.ref) (ps.map dP)
  | [], [], _, _ => .nil
  | [], _ :: _, h, _ => by simp at h
  | _ :: _, [], h, _ => by simp at h
  | t :: ts, p :: ps, h, f => .cons (.tup (SqT.of (f 0 t rfl)) (.cons (.int _) (.cons (.int _) .nil))) (rdvs_pairs ts ps (by simpa using h) fun i u e => f (i + 1) u e)
theorem Prs.rd {p : Addr} {ts : List Addr} {ps : List (Int × Int)} (T : Prs H p ts ps) : RdV K H (.ref p) (.list (ps.map dP)) := .lst (SqL.of T.at_) (rdvs_pairs ts ps T.len T.row)
def rInP (K : PySem.W.Frag) (neg : Bool) : R2 := fun x y H Q => ∃ ds d, RdV K H y (.list ds) ∧ RdV K H x d ∧ PyData.canLayAll0 ds = true ∧ PyData.canLay0 d = true ∧ PyData.depth d ≤ 8 ∧ Q (.bl (if neg = true then !(ds.any fun e => PyData.eqv e d) else ds.any fun e => PyData.eqv e d)) H
theorem op_inD (hu : X.A.units + 64 < cLine) : OpR X (compareOp .In) (rInP X.K false) := by
  intro pins s σ H x y v u Q I rx ry h
  obtain ⟨ds, d, h1, h2, h3, h4, h5, q⟩ := h
  obtain ⟨as, r1⟩ := h1.reads I ry
  obtain ⟨bs, r2⟩ := h2.reads I rx
  refine SeqAt.in_list_reads r1 r2 h3 h4 ?_ ⟨.bl _, H, I, rfl, q⟩
  have : min (PyData.depthAll ds) d.depth ≤ d.depth := Nat.min_le_right _ _
  omega
theorem op_notInD (hu : X.A.units + 64 < cLine) : OpR X (compareOp .NotIn) (rInP X.K true) := by
  intro pins s σ H x y v u Q I rx ry h
  obtain ⟨ds, d, h1, h2, h3, h4, h5, q⟩ := h
  obtain ⟨as, r1⟩ := h1.reads I ry
  obtain ⟨bs, r2⟩ := h2.reads I rx
  refine SeqAt.notIn_list_reads r1 r2 h3 h4 ?_ ⟨.bl _, H, I, rfl, q⟩
  have : min (PyData.depthAll ds) d.depth ≤ d.depth := Nat.min_le_right _ _
  omega
theorem r_inP {p t : Addr} {ts : List Addr} {ps : List (Int × Int)} {i j : Int} (ht : H t = some (.tup [.int i, .int j])) (T : Prs H p ts ps) (h : Q (.bl (decide ((i, j) ∈ ps))) H) : rInP K false (.ref t) (.ref p) H Q :=
  ⟨_, dP (i, j), T.rd, .tup (SqT.of ht) (.cons (.int _) (.cons (.int _) .nil)), lay_dP ps, by simp [PyData.canLay0, PyData.canLayAll0], by simp [PyData.depth, PyData.depthAll], by rw [if_neg (by decide), any_dP]; exact h⟩
theorem r_notInP {p t : Addr} {ts : List Addr} {ps : List (Int × Int)} {i j : Int} (ht : H t = some (.tup [.int i, .int j])) (T : Prs H p ts ps) (h : Q (.bl (!decide ((i, j) ∈ ps))) H) : rInP K true (.ref t) (.ref p) H Q :=
  ⟨_, dP (i, j), T.rd, .tup (SqT.of ht) (.cons (.int _) (.cons (.int _) .nil)), lay_dP ps, by simp [PyData.canLay0, PyData.canLayAll0], by simp [PyData.depth, PyData.depthAll], by rw [if_pos rfl, any_dP]; exact h⟩
/-! a dict with pairs as keys -/
abbrev kP (i j : Int) : List Key := [.inl i, .inl j]
theorem r_dnewT (h : ∀ p, H p = none → Q (.ref p) (upd H p (.dT []))) : tDNewT σ H Q := h
theorem r_DPt {R : Hp → Prop} {a t : Addr} {i j : Int} {v : V} {kvs : List (List Key × V)} (ha : H a = some (.dT kvs)) (ht : H t = some (.tup [.int i, .int j])) (hl : kvs.length < 1000000) (h : R (upd H a (.dT (putK kvs (kP i j) v)))) : DP R (.ref a) (.ref t) v H :=
  ⟨a, _, rfl, DPut.t (k := kP i j) ha ht (Nat.lt_of_lt_of_le hl (by decide)), h⟩
def DIn (neg : Bool) (Q : VK) (y x : V) (H2 : Hp) : Prop := ∃ a o, x = .ref a ∧ DGet H2 a y o ∧ Q (.bl (if neg = true then !o.isSome else o.isSome)) H2
theorem r_din {ty td : TE} (h : ty σ H fun y H1 => td σ H1 fun x H2 => DIn false Q y x H2) : tDIn ty td σ H Q := h
theorem r_dnotin {ty td : TE} (h : ty σ H fun y H1 => td σ H1 fun x H2 => DIn true Q y x H2) : tDNotIn ty td σ H Q := h
theorem r_DInT {neg : Bool} {a t : Addr} {i j : Int} {kvs : List (List Key × V)} (ha : H a = some (.dT kvs)) (ht : H t = some (.tup [.int i, .int j])) (h : Q (.bl (if neg = true then !(valV kvs (kP i j)).isSome else (valV kvs (kP i j)).isSome)) H) : DIn neg Q (.ref t) (.ref a) H :=
  ⟨a, _, rfl, DGet.t (k := kP i j) ha ht, h⟩
theorem r_DInK {neg : Bool} {a : Addr} {i : Int} {kvs : List (Key × V)} (ha : H a = some (.dK kvs)) (h : Q (.bl (if neg = true then !(valV kvs (.inl i)).isSome else (valV kvs (.inl i)).isSome)) H) : DIn neg Q (.int i) (.ref a) H :=
  ⟨a, _, rfl, DGet.k (k := .inl i) ha, h⟩
theorem putT_len (kvs : List (List Key × V)) (k : List Key) (v : V) : (putK kvs k v).length ≤ kvs.length + 1 := by
  unfold putK
  split
  · rw [List.length_map]; omega
  · simp
theorem kP_inj {i j i' j' : Int} : kP i j = kP i' j' ↔ (i, j) = (i', j') := by
  unfold kP
  constructor
  · intro h
    injection h with h1 h2
    injection h2 with h3 _
    rw [Sum.inl.inj h1, Sum.inl.inj h3]
  · intro h
    injection h with h1 h2
    rw [h1, h2]
/-- what holds behind a statement that keeps the names, said ahead -/
theorem r_seqC {t u : TS} (R : Hp → Prop) (h : ∀ N' : St → Hp → Prop, (∀ H', R H' → N' σ H') → t { D with nx := N' } σ H) (k : ∀ H', R H' → u D σ H') : tSeq t u D σ H := h (u D) k
theorem RdV.three {a p q r : Addr} {xs ys zs : List Int} (h : SqL K H a [.ref p, .ref q, .ref r]) (h1 : SqL K H p (xs.map V.int)) (h2 : SqL K H q (ys.map V.int)) (h3 : SqL K H r (zs.map V.int)) : RdV K H (.ref a) (dL [xs, ys, zs]) := .lst h (.cons (RdV.ints h1) (.cons (RdV.ints h2) (.cons (RdV.ints h3) .nil)))
theorem r_neL3 {a b p q r p' q' r' : Addr} {xs ys zs xs' ys' zs' : List Int} (h : SqL K H a [.ref p, .ref q, .ref r]) (h1 : SqL K H p (xs.map V.int)) (h2 : SqL K H q (ys.map V.int)) (h3 : SqL K H r (zs.map V.int)) (h' : SqL K H b [.ref p', .ref q', .ref r']) (h1' : SqL K H p' (xs'.map V.int)) (h2' : SqL K H q' (ys'.map V.int)) (h3' : SqL K H r' (zs'.map V.int))
    (hq : Q (.bl (!decide ([xs, ys, zs] = [xs', ys', zs']))) H) : rNe (.ref a) (.ref b) H Q ∨ rEqD K true (.ref a) (.ref b) H Q :=
  .inr ⟨_, _, RdV.three h h1 h2 h3, RdV.three h' h1' h2' h3', shaped_dL _, shaped_dL _, by rw [if_pos rfl, eqv_dL]; exact hq⟩
theorem kit_tt {K : PySem.W.Frag} : PySem.W.kitOne K (.type "tuple") (.type "tuple") = some true := rfl
theorem r_isi_tt {a : Addr} {vs : List V} (ha : H a = some (.tup vs)) (h : Q (.bl true) H) : rIsi K [.ref a, .ty "tuple"] H Q := r_isi rfl (.tup ha) kit_tt h
theorem r_lenT {p : Addr} {ys : List V} (hs : H p = some (.tup ys)) (h : Q (.int ys.length) H) : rLenG K [.ref p] H Q := .inl ⟨p, ys, rfl, .inr (SqT.of hs), h⟩
theorem Prs.ne {p : Addr} {ts : List Addr} {ps : List (Int × Int)} (T : Prs H p ts ps) {i : Nat} {t : Addr} (h : ts[i]? = some t) : t ≠ p := fun e => by
  have := T.row i t h
  rw [e, T.at_] at this
  cases this
theorem Prs.snoc {p t : Addr} {ts : List Addr} {ps : List (Int × Int)} {i j : Int} (T : Prs H p ts ps) (ht : H t = some (.tup [.int i, .int j])) : Prs (upd H p (.lst (ts.map V.ref ++ [.ref t]))) p (ts ++ [t]) (ps ++ [(i, j)]) := by
  have tp : t ≠ p := fun e => by rw [e, T.at_] at ht; cases ht
  refine ⟨by rw [upd_same, List.map_append]; rfl, by simp [T.len], fun k u hk => ?_⟩
  have hlen := T.len
  by_cases hkl : k < ts.length
  · rw [List.getElem?_append_left hkl] at hk
    rw [upd_ne (T.ne hk)]
    have e : (ps ++ [(i, j)]).getD k (0, 0) = ps.getD k (0, 0) := by
      rw [List.getD_eq_getElem?_getD, List.getElem?_append_left (by omega), ← List.getD_eq_getElem?_getD]
    rw [e]
    exact T.row k u hk
  · have hk2 := (List.getElem?_eq_some_iff.mp hk).1
    rw [List.length_append, List.length_singleton] at hk2
    have ek : k = ts.length := by omega
    subst ek
    rw [List.getElem?_append_right (Nat.le_refl _)] at hk
    simp at hk
    subst hk
    rw [upd_ne tp]
    have e : (ps ++ [(i, j)]).getD ts.length (0, 0) = (i, j) := by
      rw [List.getD_eq_getElem?_getD, hlen, List.getElem?_append_right (Nat.le_refl _)]
      simp
    rw [e]
    exact ht
def rMax2 (xs : List V) (H : Hp) (Q : VK) : Prop := ∃ i j, xs = [.int i, .int j] ∧ Q (.int (if j > i then j else i)) H
theorem call_max2N (hc : X.calm = true) : CallR X (.builtin "max") rMax2 := call_max2 hc
theorem r_max2 {i j : Int} (h : Q (.int (max i j)) H) : rMax2 [.int i, .int j] H Q := by
  refine ⟨i, j, rfl, ?_⟩
  have e : (if j > i then j else i) = max i j := by split <;> omega
  rw [e]; exact h
theorem evens_both {α : Type} : ∀ l : List α, (evens l).length + (evens l.tail).length = l.length
  | [] => rfl
  | [x] => rfl
  | x :: y :: r => by
    have ih := evens_both r
    have e1 : evens (x :: y :: r) = x :: evens r := rfl
    have e2 : (x :: y :: r).tail = y :: r := rfl
    rw [e1, e2]
    cases r with
    | nil => rfl
    | cons z t =>
      have e3 : evens (y :: z :: t) = y :: evens t := rfl
      rw [e3]
      simp only [List.tail_cons] at ih
      simp only [List.length_cons] at ih ⊢
      omega
def Par3 (i j k : Nat) (σ : St) (D : Ends) (vs : List V) (H1 : Hp) : Prop := ∃ u v w, vs = [u, v, w] ∧ D.nx (((σ.set i (some u)).set j (some v)).set k (some w)) H1
theorem r_par3 {i j k : Nat} {ta : TA} (h : ta σ H fun vs H1 => Par3 i j k σ D vs H1) : tPar3 i j k ta D σ H := h
theorem r_Par3 {i j k : Nat} {x y z : V} (h : D.nx (((σ.set i (some x)).set j (some y)).set k (some z)) H) : Par3 i j k σ D [x, y, z] H := ⟨x, y, z, rfl, h⟩
end
end L2
set_option maxHeartbeats 4000000
/-! Mathematics of the landed program's ways: places and the earliest ones. -/
namespace Lf
theorem fits_picks (row : List Int) : ∀ ps xs : List Int, ps.length = xs.length → fits row ps xs = decide (picks row ps = xs)
  | [], [], _ => rfl
  | [], _ :: _, h => by simp at h
  | _ :: _, [], h => by simp at h
  | p :: ps, x :: xs, h => by
    have ih := fits_picks row ps xs (by simpa using h)
    unfold fits at ih ⊢
    unfold picks at ih ⊢
    rw [List.zip_cons_cons, List.all_cons, ih, List.map_cons]
    by_cases e : row.getD p.toNat 0 = x
    · subst e; simp
    · simp only [decide_eq_false e, Bool.false_and, List.cons.injEq, e, false_and, decide_false]
theorem stands_picks (row ps xs : List Int) : stands row ps xs = (rising (-1) row.length ps && decide (picks row ps = xs)) := by
  by_cases h : ps.length = xs.length
  · rw [stands_eq _ _ _ h, fits_picks _ _ _ h]
  · have e : ¬ picks row ps = xs := fun z => h (by rw [← z]; unfold picks; simp)
    unfold stands
    rw [decide_eq_false h, decide_eq_false e, Bool.and_false, Bool.false_and]
theorem earl_uniq (row : List Int) : ∀ (r o ps : List Int) (i : Nat), r = row.drop i → i ≤ row.length → ps.length < o.length → standsFrom row ((i : Int) - 1) ps (o.take ps.length) = true →
    (∀ j, j ≤ ps.length → o.getD j 0 ∉ cut row (bAt i ps j) ((ps ++ [(row.length : Int)]).getD j 0)) → earl i r o = ps
  | [], o, [], i, h, hi, hl, hs, hc => earl_none _ _
  | [], [], p :: ps, i, h, hi, hl, hs, hc => by simp at hl
  | [], y :: o, p :: ps, i, h, hi, hl, hs, hc => by
    have hr : row.length ≤ i := by
      rcases Nat.lt_or_ge i row.length with q | q
      · rw [drop_at q] at h; cases h
      · exact q
    rw [List.length_cons, List.take_succ_cons, standsFrom] at hs
    simp only [Bool.and_eq_true, decide_eq_true_eq] at hs
    omega
  | x :: r, [], ps, i, h, hi, hl, hs, hc => by simp at hl
  | x :: r, y :: o, ps, i, h, hi, hl, hs, hc => by
    obtain ⟨hi', hx, hr⟩ := drop_cons_of h
    have ec : ((i : Int) + 1) = ((i + 1 : Nat) : Int) := by omega
    by_cases e : x = y
    · rw [earl, if_pos e]
      have here : ∀ e : Int, (i : Int) < e → y ∈ cut row i e := fun e' he => by
        rw [cut_step hi' he, hx, e]; exact List.mem_cons_self
      cases ps with
      | nil => exact absurd (here _ (by simp; omega)) (hc 0 (Nat.zero_le _))
      | cons p ps =>
        rw [List.length_cons, List.take_succ_cons, standsFrom] at hs
        simp only [Bool.and_eq_true, decide_eq_true_eq] at hs
        obtain ⟨⟨⟨h1, h2⟩, h3⟩, h4⟩ := hs
        have hp : p = (i : Int) := by
          rcases Int.lt_or_le (i : Int) p with q | q
          · exact absurd (here p q) (hc 0 (Nat.zero_le _))
          · omega
        subst hp
        rw [ec]
        congr 1
        refine earl_uniq row r o ps (i + 1) hr (by omega) (by simpa using hl) (by have : ((i + 1 : Nat) : Int) - 1 = i := by omega
                                                                                  rw [this]; exact h4) fun j hj => ?_
        have := hc (j + 1) (by simpa using hj)
        have b1 : bAt i ((i : Int) :: ps) (j + 1) = bAt ((i + 1 : Nat) : Int) ps j := by
          unfold bAt
          rw [if_neg (by omega)]
          cases j with
          | zero => simp
          | succ j => simp
        rw [b1] at this
        simpa using this
    · rw [earl, if_neg e, ec]
      refine earl_uniq row r (y :: o) ps (i + 1) hr (by omega) hl ?_ fun j hj => ?_
      · cases ps with
        | nil => rfl
        | cons p ps =>
          rw [List.length_cons, List.take_succ_cons, standsFrom] at hs ⊢
          simp only [Bool.and_eq_true, decide_eq_true_eq] at hs ⊢
          obtain ⟨⟨⟨h1, h2⟩, h3⟩, h4⟩ := hs
          refine ⟨⟨⟨?_, h2⟩, h3⟩, h4⟩
          have : p ≠ (i : Int) := fun q => e (by rw [← h3, q, Int.toNat_natCast, hx])
          omega
      · have q := hc j hj
        cases j with
        | succ j => exact q
        | zero =>
          have b0 : bAt i ps 0 = i := rfl
          have b1 : bAt ((i + 1 : Nat) : Int) ps 0 = ((i + 1 : Nat) : Int) := rfl
          rw [b0] at q
          rw [b1]
          intro m
          refine q ?_
          rcases Int.lt_or_le (i : Int) ((ps ++ [(row.length : Int)]).getD 0 0) with u | u
          · rw [cut_step hi' u, ec]
            exact List.mem_cons_of_mem _ m
          · rw [cut_none (by omega)] at m
            simp at m
theorem short_earliest {row other ps : List Int} (h : short row other ps = true) : ps = earliest row other := by
  obtain ⟨h1, h2, h3⟩ := short_parts h
  unfold stands at h2
  rw [Bool.and_eq_true] at h2
  refine (earl_uniq row row other ps 0 (by simp) (Nat.zero_le _) h1 h2.2 fun j hj => ?_).symm
  have := h3 j hj
  have e : bAt ((0 : Nat) : Int) ps j = beginAt ps j := by unfold bAt beginAt; rfl
  rw [e]
  exact this
theorem short_eq (row other ps : List Int) : short row other ps = (decide (ps.length < other.length) && decide (ps = earliest row other)) := by
  by_cases h : short row other ps = true
  · rw [h, decide_eq_true (short_parts h).1, decide_eq_true (short_earliest h)]; rfl
  · rw [Bool.eq_false_iff.mpr h]
    by_cases h1 : ps.length < other.length
    · by_cases h2 : ps = earliest row other
      · subst h2
        exact absurd (earliest_short (by omega)) h
      · rw [decide_eq_false h2, Bool.and_false]
    · rw [decide_eq_false h1, Bool.false_and]
end Lf
namespace Lf
theorem least_cons (m : Nat) (a : Int) (r : List Int) (hm : m ≤ r.length) : least (m + 1) (a :: r) = if ∀ y ∈ r.take (r.length - m), a ≤ y then a :: least m r else least (m + 1) r := by
  have ew : (a :: r).take ((a :: r).length - m) = a :: r.take (r.length - m) := by
    rw [List.length_cons, Nat.succ_sub hm, List.take_succ_cons]
  rw [least, ew]
  by_cases h : ∀ y ∈ r.take (r.length - m), a ≤ y
  · rw [if_pos h]
    have e : lmin (a :: r.take (r.length - m)) = a := (lmin_eq List.mem_cons_self (fun y hy => by
      rcases List.mem_cons.mp hy with q | q
      · omega
      · exact h y q)).symm
    rw [e]
    simp
  · rw [if_neg h]
    have hne : r.take (r.length - m) ≠ [] := fun e => h (by rw [e]; simp)
    have hm2 : m + 1 ≤ r.length := by
      rcases Nat.lt_or_ge m r.length with q | q
      · omega
      · exact absurd (by rw [show r.length - m = 0 by omega, List.take_zero]) hne
    have hlt : lmin (r.take (r.length - m)) < a := by
      refine Int.not_le.mp fun q => h fun y hy => ?_
      have := lmin_le _ y hy
      omega
    have e : lmin (a :: r.take (r.length - m)) = lmin (r.take (r.length - m)) := (lmin_eq (List.mem_cons_of_mem _ (lmin_mem _ hne)) (fun y hy => by
      rcases List.mem_cons.mp hy with q | q
      · omega
      · exact lmin_le _ y q)).symm
    rw [e, least]
    congr 1
    have ei : (a :: r.take (r.length - m)).idxOf (lmin (r.take (r.length - m))) = (r.take (r.length - m)).idxOf (lmin (r.take (r.length - m))) + 1 := by
      rw [List.idxOf_cons]
      have : (a == lmin (r.take (r.length - m))) = false := by
        rw [beq_eq_false_iff_ne]; omega
      rw [this]; rfl
    rw [ei, List.drop_succ_cons]
theorem take_ins {t r : List Int} {b y : Int} : ∀ {k : Nat}, y ∈ (t ++ b :: r).take (k + 1) → y ∈ t ∨ y = b ∨ y ∈ (t ++ r).take k := by
  induction t with
  | nil =>
    intro k h
    rw [List.nil_append, List.take_succ_cons] at h
    rcases List.mem_cons.mp h with q | q
    · exact .inr (.inl q)
    · exact .inr (.inr (by simpa using q))
  | cons c t ih =>
    intro k h
    rw [List.cons_append, List.take_succ_cons] at h
    rcases List.mem_cons.mp h with q | q
    · subst q; exact .inl List.mem_cons_self
    · cases k with
      | zero => simp at q
      | succ k =>
        rcases ih q with u | u | u
        · exact .inl (List.mem_cons_of_mem _ u)
        · exact .inr (.inl u)
        · exact .inr (.inr (by rw [List.cons_append, List.take_succ_cons]; exact List.mem_cons_of_mem _ u))
theorem take_del {t r : List Int} {b y : Int} : ∀ {k : Nat}, y ∈ (t ++ r).take k → y ∈ (t ++ b :: r).take (k + 1) := by
  induction t with
  | nil =>
    intro k h
    rw [List.nil_append, List.take_succ_cons]
    exact List.mem_cons_of_mem _ (by simpa using h)
  | cons c t ih =>
    intro k h
    cases k with
    | zero => simp at h
    | succ k =>
      rw [List.cons_append, List.take_succ_cons] at h ⊢
      rcases List.mem_cons.mp h with q | q
      · subst q; exact List.mem_cons_self
      · exact List.mem_cons_of_mem _ (ih q)
/-- a greater sign gives way to a lesser one behind it -/
theorem least_del {b x : Int} {r : List Int} (hx : x < b) : ∀ (t : List Int) (m : Nat), (t ++ [b]).Pairwise (· ≤ ·) → m ≤ t.length + 1 + r.length → least m (t ++ b :: x :: r) = least m (t ++ x :: r)
  | _, 0, _, _ => rfl
  | [], m + 1, _, hm => by
    rw [List.nil_append, List.nil_append, least_cons _ _ _ (by simp at hm ⊢; omega), if_neg]
    intro h
    have := h x (by rw [List.length_cons, Nat.succ_sub (by simp at hm; omega), List.take_succ_cons]; exact List.mem_cons_self)
    omega
  | a :: t, m + 1, hs, hm => by
    rw [List.cons_append] at hs
    obtain ⟨ha, hs⟩ := List.pairwise_cons.mp hs
    have e1 : (t ++ b :: x :: r).length = t.length + 2 + r.length := by simp; omega
    have e2 : (t ++ x :: r).length = t.length + 1 + r.length := by simp; omega
    rw [List.length_cons] at hm
    rw [List.cons_append, List.cons_append, least_cons _ _ _ (by omega), least_cons _ _ _ (by omega), e1, e2]
    have ek : t.length + 2 + r.length - m = (t.length + 1 + r.length - m) + 1 := by omega
    rw [ek]
    by_cases h : ∀ y ∈ (t ++ x :: r).take (t.length + 1 + r.length - m), a ≤ y
    · rw [if_pos h, if_pos]
      · rw [least_del hx t m hs (by omega)]
      · intro y hy
        rcases take_ins hy with u | u | u
        · exact ha y (List.mem_append_left _ u)
        · exact ha y (List.mem_append_right _ (by simp [u]))
        · exact h y u
    · rw [if_neg h, if_neg fun q => h fun y hy => q y (take_del hy)]
      refine least_del hx t (m + 1) hs ?_
      rcases Nat.lt_or_ge m (r.length + 1) with q | q
      · omega
      · refine absurd (fun y hy => ?_) h
        have : (t ++ x :: r).take (t.length + 1 + r.length - m) = t.take (t.length + 1 + r.length - m) := by
          rw [List.take_append_of_le_length (by omega)]
        rw [this] at hy
        exact ha y (List.mem_append_left _ (List.mem_of_mem_take hy))
/-- of a rising row the first ones -/
theorem least_sorted : ∀ (t : List Int) (m : Nat), t.Pairwise (· ≤ ·) → m ≤ t.length → least m t = t.take m
  | _, 0, _, _ => by simp [least]
  | [], m + 1, _, hm => by simp at hm
  | a :: t, m + 1, hs, hm => by
    obtain ⟨ha, hs⟩ := List.pairwise_cons.mp hs
    rw [least_cons _ _ _ (by simpa using hm), if_pos (fun y hy => ha y (List.mem_of_mem_take hy)), List.take_succ_cons, least_sorted t m hs (by simpa using hm)]
end Lf
namespace Lf
/-- the ways of first signs: by how many of the other one -/
def wf (r o : List Int) : List Int := (List.range (o.length + 1)).map fun j => ways r (o.take j)
/-- so far, within one sign: k of the counts, from behind, with it -/
def wm (r o : List Int) (x : Int) (k : Nat) : List Int := (List.range (o.length + 1)).map fun j => if o.length - k < j then ways (r ++ [x]) (o.take j) else ways r (o.take j)
theorem wf_nil (o : List Int) : wf [] o = 1 :: List.replicate o.length 0 := by
  unfold wf
  rw [List.range_succ_eq_map, List.map_cons, List.take_zero, ways_nil, List.map_map]
  congr 1
  refine List.ext_getElem (by simp) fun j h1 h2 => ?_
  have h3 : j < o.length := by rw [List.length_replicate] at h2; exact h2
  rw [List.getElem_map, List.getElem_range, List.getElem_replicate]
  refine ways_empty _ fun e => ?_
  have := congrArg List.length e
  rw [List.length_take, List.length_nil] at this
  omega
theorem wm_zero (r o : List Int) (x : Int) : wm r o x 0 = wf r o := by
  unfold wm wf
  refine List.map_congr_left fun j hj => ?_
  have := List.mem_range.mp hj
  rw [if_neg (by omega)]
theorem wm_all (r o : List Int) (x : Int) : wm r o x o.length = wf (r ++ [x]) o := by
  unfold wm wf
  refine List.map_congr_left fun j hj => ?_
  cases j with
  | zero => rw [if_neg (by omega), List.take_zero, ways_nil, ways_nil]
  | succ j => rw [if_pos (by omega)]
theorem wm_len (r o : List Int) (x : Int) (k : Nat) : (wm r o x k).length = o.length + 1 := by unfold wm; simp
theorem wf_len (r o : List Int) : (wf r o).length = o.length + 1 := by unfold wf; simp
theorem wm_get (r o : List Int) (x : Int) (k j : Nat) (hj : j ≤ o.length) : (wm r o x k).getD j 0 = if o.length - k < j then ways (r ++ [x]) (o.take j) else ways r (o.take j) := by
  unfold wm
  rw [List.getD_eq_getElem?_getD, List.getElem?_map, List.getElem?_range (by omega)]
  rfl
theorem range_set {N i : Nat} {f : Nat → Int} {v : Int} : ((List.range N).map f).set i v = (List.range N).map fun j => if j = i then v else f j := by
  refine List.ext_getElem (by simp) fun j h1 h2 => ?_
  rw [List.getElem_set, List.getElem_map, List.getElem_range, List.getElem_map, List.getElem_range]
  by_cases h : i = j
  · rw [if_pos h, if_pos h.symm]
  · rw [if_neg h, if_neg fun z => h z.symm]
theorem ways_take (r o : List Int) (x : Int) (j : Nat) (hj : j < o.length) : ways (r ++ [x]) (o.take (j + 1)) = ways r (o.take (j + 1)) + (if x = o.getD j 0 then ways r (o.take j) else 0) := by
  have e : o.take (j + 1) = o.take j ++ [o.getD j 0] := by
    rw [List.take_succ_eq_append_getElem hj, List.getD_eq_getElem?_getD]
    simp [hj]
  rw [e, ways_snoc]
theorem wm_step (r o : List Int) (x : Int) (k j : Nat) (hk : j + 1 + k = o.length) (h : o.getD j 0 = x) : (wm r o x k).set (j + 1) ((wm r o x k).getD (j + 1) 0 + (wm r o x k).getD j 0) = wm r o x (k + 1) := by
  rw [wm_get _ _ _ _ _ (by omega), wm_get _ _ _ _ _ (by omega), if_neg (by omega), if_neg (by omega)]
  unfold wm
  rw [range_set]
  refine List.map_congr_left fun i hi => ?_
  have := List.mem_range.mp hi
  by_cases e : i = j + 1
  · subst e
    rw [if_pos rfl, if_pos (by omega), ways_take _ _ _ _ (by omega), if_pos h.symm]
  · rw [if_neg e]
    by_cases q : o.length - k < i
    · rw [if_pos q, if_pos (by omega)]
    · rw [if_neg q, if_neg (by omega)]
theorem wm_skip (r o : List Int) (x : Int) (k j : Nat) (hk : j + 1 + k = o.length) (h : ¬ o.getD j 0 = x) : wm r o x k = wm r o x (k + 1) := by
  unfold wm
  refine List.map_congr_left fun i hi => ?_
  have := List.mem_range.mp hi
  by_cases e : i = j + 1
  · subst e
    rw [if_neg (by omega), if_pos (by omega), ways_take _ _ _ _ (by omega), if_neg (fun z => h z.symm), Int.add_zero]
  · by_cases q : o.length - k < i
    · rw [if_pos q, if_pos (by omega)]
    · rw [if_neg q, if_neg (by omega)]
theorem wf_last (r o : List Int) : (wf r o).getD o.length 0 = ways r o := by
  have := wm_get r o 0 0 o.length (Nat.le_refl _)
  rw [wm_zero, if_neg (by omega), List.take_length] at this
  exact this
/-- the stack: rising, or nothing more is struck out -/
structure Stk (row told rest : List Int) (many spare : Nat) : Prop where
  up : spare = 0 ∨ told.Pairwise (· ≤ ·)
  len : told.length + rest.length = many + spare
  same : least many (told ++ rest) = least many row
theorem Stk.pop {row t rest : List Int} {b x : Int} {many spare : Nat} (S : Stk row (t ++ [b]) (x :: rest) many (spare + 1)) (h : x < b) : Stk row t (x :: rest) many spare := by
  obtain ⟨h1, h2, h3⟩ := S
  have hs : (t ++ [b]).Pairwise (· ≤ ·) := h1.resolve_left (by omega)
  refine ⟨.inr (List.pairwise_append.mp hs).1, by simp at h2 ⊢; omega, ?_⟩
  rw [← h3, List.append_assoc]
  exact (least_del h t many hs (by simp at h2; omega)).symm
theorem Stk.push {row told rest : List Int} {x : Int} {many spare : Nat} (S : Stk row told (x :: rest) many spare) (h : spare = 0 ∨ ∀ b, told.getLast? = some b → b ≤ x) : Stk row (told ++ [x]) rest many spare := by
  obtain ⟨h1, h2, h3⟩ := S
  refine ⟨?_, by simp at h2 ⊢; omega, by rw [List.append_assoc]; exact h3⟩
  rcases h1 with h1 | h1
  · exact .inl h1
  rcases h with h | h
  · exact .inl h
  refine .inr (List.pairwise_append.mpr ⟨h1, by simp, fun a ha y hy => ?_⟩)
  have e : y = x := by simpa using hy
  subst e
  have hne : told ≠ [] := List.ne_nil_of_mem ha
  have hb := h _ (List.getLast?_eq_some_getLast hne)
  rw [← List.dropLast_concat_getLast hne] at ha h1
  rcases List.mem_append.mp ha with q | q
  · have := (List.pairwise_append.mp h1).2.2 a q (told.getLast hne) (by simp)
    omega
  · have : a = told.getLast hne := by simpa using q
    omega
theorem Stk.done {row told : List Int} {many spare : Nat} (S : Stk row told [] many spare) : told.take many = least many row := by
  obtain ⟨h1, h2, h3⟩ := S
  rw [List.append_nil] at h3
  rw [List.length_nil] at h2
  rw [← h3]
  rcases h1 with h1 | h1
  · have e : told.length = many := by omega
    subst e
    rw [least_all, List.take_length]
  · exact (least_sorted told many h1 (by omega)).symm
end Lf
set_option maxRecDepth 100000
set_option maxHeartbeats 4000000
/-! Loops that go down, while, op=, the greatest of a list, a list taken so often. -/
namespace L2
open PySem PySem.Spec PyProof.Rows
section
variable {σ : St} {H H' : Hp} {Q : VK} {D : Ends} {K : PySem.W.Frag} {X : Cx} {tg : Expr}
/-- hi, hi - 1, .. (n of them) -/
def Itd (hi : Int) (n : Nat) : It := ⟨fun i _ => i < n, fun i H x H' => H' = H ∧ x = .int (hi - i), fun i _ => n ≤ i⟩
theorem turn_down {P : Program} {w : World} {K : PySem.W.Frag} {tg : Expr} (it : Addr) (hi : Int) (n : Nat) : Turn P w K tg (Itd hi n) [it] it (fun i h => IsRangeIter h it (hi + (i : Nat) * (-1)) ((n : Int) - (i : Nat)) (-1)) where
  mem := by simp
  obj := fun i h st b hb => by
    have e : b = it := by simpa using hb
    subst e
    exact ⟨_, st, fun v z => by
      have z' : Data.fields _ = Data.cell v := z
      cases z'⟩
  keep := fun i h h' st k => k it (by simp) _ st
  item := by
    intro X hP hw hK hc i pins s σ H E I hf st hg
    subst hP hw hK
    obtain ⟨f0, f1, f2, f3, f4, f5⟩ := hf it (by simp)
    have W := Walks.range (prog := X.prog) (w := X.w) (I.ok.hd hc) it hi (-1) n
    refine W.item i s _ _ hg st fun v h' tk hv st' kk => ?_
    obtain ⟨t, rfl⟩ := hv
    have I1 : Inv X pins σ H { s with heap := h', toks := tk } := I.turned (fun b o hb e => kk b o (by simpa using hb) e) f0 f1 f3 f4 f5
    refine ⟨_, rfl, go_of (s := { s with heap := h', toks := tk }) (n := "range_iterator") st' rfl rfl (by decide) ⟨.int (hi - i), H, I1, ⟨t, ?_⟩, ⟨rfl, rfl⟩, st', fun b hb => (hf b hb).1⟩⟩
    have : hi + (i : Int) * (-1) = hi - i := by omega
    rw [this]
  done := by
    intro X hP hw hK hc i pins s σ H E I hf st hg
    subst hP hw hK
    obtain ⟨f0, f1, f2, f3, f4, f5⟩ := hf it (by simp)
    exact wpAny_pyNext_range_end (I.ok.hd hc) st (by have : n ≤ i := hg; omega) fun h' eb => ⟨rfl, I.turned (t' := s.toks) (fun b o hb e => eb b o hb e) f0 f1 f3 f4 f5⟩
  self := fun _ _ _ _ _ st h => wpAny_pyIter_rangeiter st h
theorem rangeSize_down (a b : Int) : Builtin.Range.rangeSize a b (-1) = if b < a then a - b else 0 := by
  unfold Builtin.Range.rangeSize
  rw [if_neg (by decide)]
  have : (-(-1) : Int) = 1 := rfl
  rw [this, Int.ediv_one]
  split <;> omega
theorem small_down {a b : Int} (ha : -(2 ^ 60) ≤ a) (ha' : a < 2 ^ 60) (hb : -(2 ^ 60) ≤ b) (hb' : b < 2 ^ 60) : Builtin.Range.small a b (-1) = true := by
  unfold Builtin.Range.small
  rw [rangeSize_down]
  simp only [Builtin.Range.rangeFitsLong, Bool.and_eq_true, Bool.or_eq_true, decide_eq_true_eq, beq_iff_eq, show ¬ (-1 : Int) > 0 by decide, if_false]
  split <;> omega
theorem range_itD {pins : List (Addr × Obj)} {s : Shared} {R : It → Hp → Prop} {E : Value → Shared → Prop} {lo hi : Int} {t u v : Tok} {tk : Nat} (I : Inv X pins σ H s) (h1 : -(2 ^ 60) ≤ lo) (h2 : lo < 2 ^ 60) (h3 : -(2 ^ 60) ≤ hi) (h4 : hi < 2 ^ 60)
    (q : R (Itd hi (hi - lo).toNat) H) : wpAny (model X.prog X.w) X.A (pyIter (.ref s.heap.objs.size)) (PIE X pins σ tg R) E { s with heap := s.heap.push { cls := .type "range", data := .fields #[.int hi t, .int lo u, .int (-1) v] }, toks := tk } := by
  refine wpAny_pyIter_range (IsRange.new ..) (small_down h3 h4 h1 h2) ?_
  have I1 : Inv X pins σ H { s with heap := s.heap.push { cls := .type "range", data := .fields #[.int hi t, .int lo u, .int (-1) v] }, toks := tk } := I.kept fun b o e => Heap.get?_push_of_some _ e
  refine ⟨(s.heap.push { cls := .type "range", data := .fields #[.int hi t, .int lo u, .int (-1) v] }).objs.size, [(s.heap.push { cls := .type "range", data := .fields #[.int hi t, .int lo u, .int (-1) v] }).objs.size], _, _, H, rfl,
    I1.kept (t' := tk) fun b o e => Heap.get?_push_of_some _ e, turn_down _ hi (hi - lo).toNat, ?_, fun b hb => ?_, q⟩
  · have e1 : hi + ((0 : Nat) : Int) * (-1) = hi := by simp
    have e2 : (((hi - lo).toNat : Nat) : Int) - ((0 : Nat) : Int) = Builtin.Range.rangeSize hi lo (-1) := by rw [rangeSize_down]; split <;> omega
    show IsRangeIter _ _ (hi + ((0 : Nat) : Int) * (-1)) ((((hi - lo).toNat : Nat) : Int) - ((0 : Nat) : Int)) (-1)
    rw [e1, e2]
    exact Heap.get?_push_size _ rfl
  · have e : b = (s.heap.push { cls := .type "range", data := .fields #[.int hi t, .int lo u, .int (-1) v] }).objs.size := by simpa using hb
    subst e
    exact I1.fpOk (Nat.le_refl _) (I1.hok.fresh (Nat.le_refl _))
def AtR3 (R : It → Hp → Prop) (vs : List V) (H1 : Hp) : Prop := ∃ i j : Int, vs = [.int i, .int j, .int (-1)] ∧ (-(2 ^ 60) ≤ i ∧ i < 2 ^ 60 ∧ -(2 ^ 60) ≤ j ∧ j < 2 ^ 60) ∧ R (Itd i (i - j).toNat) H1
def iRng3 (ta : TA) : TI := fun σ H R => ta σ H fun vs H1 => AtR3 R vs H1
theorem pi_range3 {a b c : Expr} {ta : TA} {p pos : Pos} (hg : Gl X "range") (hm : X.mg "range" = none) (ha : PA X [a, b, c] ta) (hs : starEach [a, b, c] X.env = [(false, eval a X.env), (false, eval b X.env), (false, eval c X.env)] := by rfl) (hs2 : starEach [b, c] X.env = [(false, eval b X.env), (false, eval c X.env)] := by rfl) :
    PI X tg (.Call (.Name "range" p) [a, b, c] [] pos) (iRng3 ta) := by
  intro pins s σ H R I h
  refine Call_ (ld_blt I hg hm boot_range (PyProof.Rows.callWith_type1 (thn (ha pos pins s σ H _ I h) fun us s1 ⟨vs, H1, I1, r1, q1⟩ => ?_) (by rw [hs, hs2]) (by rw [hs2]; rfl)))
  obtain ⟨i, j, e, ⟨q1, q2, q3, q4⟩, q⟩ := q1
  subst e
  cases r1 with
  | cons r rr =>
    cases rr with
    | cons r' rr =>
      cases rr with
      | cons r'' rr =>
        cases rr
        obtain ⟨t, rfl⟩ := r
        obtain ⟨t', rfl⟩ := r'
        obtain ⟨t'', rfl⟩ := r''
        exact call_range_3 (by decide) (range_itD I1 q3 q4 q1 q2 q) (.inl (PyProof.noPylong_small (by omega)))
theorem ov_down {hi : Int} {n : Nat} : Ov (Itd hi n) (List.range n) (fun _ => True) (fun y x H H' => x = .int (hi - (y : Nat)) ∧ H' = H) where
  go := fun i H _ hi => by rw [List.length_range] at hi; exact hi
  stop := fun i H _ hi => by rw [List.length_range] at hi; exact hi
  yld := fun i H x H' y _ hy ⟨e, q⟩ => by
    obtain ⟨h1, h2⟩ := List.getElem?_eq_some_iff.mp hy
    rw [List.getElem_range] at h2
    subst h2
    exact ⟨q, e⟩
theorem r_iRng3 {ta : TA} {R : It → Hp → Prop} (h : ta σ H fun vs H1 => AtR3 R vs H1) : iRng3 ta σ H R := h
theorem r_AtR3 {i j : Int} {R : It → Hp → Prop} (h1 : -1000000 ≤ i) (h2 : i ≤ 1000000) (h3 : -1000000 ≤ j) (h4 : j ≤ 1000000) (h : R (Itd i (i - j).toNat) H) : AtR3 R [.int i, .int j, .int (-1)] H := ⟨i, j, rfl, ⟨by omega, by omega, by omega, by omega⟩, h⟩
/-! ### op= -/
theorem get_list : PGet X (rIxL X.K) := by
  intro pins s σ H x y v u Q I rx ry h
  obtain ⟨p, xs, i, z, rfl, rfl, hq, he, q⟩ := h
  cases rx
  obtain ⟨t, rfl⟩ := ry
  obtain ⟨its, r, pl, hz⟩ := I.list hq
  obtain ⟨j, h1, h2, h3, h4, h5⟩ := atI_get he
  obtain ⟨w, ew, rw'⟩ := r.get h2
  have hl := r.length
  have hn := line63
  have fin : EP X pins σ Q w s := ⟨z, H, I, rw', q⟩
  by_cases h0 : 0 ≤ i
  · have hj : i.toNat = j := by
      rw [seqIndex_of h0 h5] at h1
      exact Option.some.inj h1
    exact wpAny_getItem_list pl.isList h0 (by omega) (by rw [hj]; simpa using ew) fin
  · have hj : (i + (its.toArray.size : Int)).toNat = j := by
      rw [seqIndex_neg (by omega) h4] at h1
      rw [List.size_toArray, ← hl]
      exact Option.some.inj h1
    exact wpAny_getItem_list_neg pl.isList (by omega) (by rw [List.size_toArray] <;> omega) (by omega) (by rw [hj]; simpa using ew) fin
def AugAt (i : Nat) (te : TE) (ti : TIp) (σ : St) (H : Hp) (D : Ends) : Prop := ∃ x, σ[i]? = some (some x) ∧ te σ H fun y H1 => ti x y H1 fun z H2 => D.nx (σ.set i (some z)) H2
theorem r_aug {i : Nat} {te : TE} {ti : TIp} {v : V} (e : σ[i]? = some (some v)) (h : te σ H fun y H1 => ti v y H1 fun z H2 => D.nx (σ.set i (some z)) H2) : tAug i te ti D σ H := ⟨v, e, h⟩
theorem r_ipI {f : Int → Int → Int} {i j : Int} (h : Q (.int (f i j)) H) : ipI f (.int i) (.int j) H Q := ⟨i, j, rfl, rfl, h⟩
theorem r_augS {to ti te : TE} {tget : V → V → Hp → VK → Prop} {tip : TIp} {tset : TSet} (h : to σ H fun o H1 => ti σ H1 fun i H2 => tget o i H2 fun x H3 => te σ H3 fun y H4 => tip x y H4 fun z H5 => tset o i z H5 fun H6 => D.nx σ H6) : tAugS to ti te tget tip tset D σ H := h
theorem r_getI {p : Addr} {ns : List Int} {i : Int} (hs : SqL K H p (ns.map V.int)) (h0 : 0 ≤ i) (h1 : i < ns.length) (h : Q (.int (ns.getD i.toNat 0)) H) : rIxL K (.ref p) (.int i) H Q := ⟨p, _, i, _, rfl, rfl, hs, atI_int h0 h1, h⟩
/-! ### while -/
theorem r_while {c : TT} {tb : TS} (W : Nat → St → Hp → Prop) (m : Nat) (h0 : W m σ H) (hs : ∀ m σ H, W m σ H → c σ H fun b H1 => if b = true then ∃ N : St → Hp → Prop, (∀ σ' H', N σ' H' → ∃ m', m' < m ∧ W m' σ' H') ∧ tb { D with nx := N, ct := N, bk := D.nx } σ H1 else D.nx σ H1) : tWhile c tb D σ H := ⟨W, ⟨m, h0⟩, hs⟩
theorem r_turn {W : Nat → St → Hp → Prop} {m : Nat} {tb : TS} (h : tb { D with nx := fun σ' H' => ∃ m', m' < m ∧ W m' σ' H', ct := fun σ' H' => ∃ m', m' < m ∧ W m' σ' H', bk := D.nx } σ H) : ∃ N : St → Hp → Prop, (∀ σ' H', N σ' H' → ∃ m', m' < m ∧ W m' σ' H') ∧ tb { D with nx := N, ct := N, bk := D.nx } σ H := ⟨_, fun _ _ z => z, h⟩
/-! ### the greatest of a list -/
def rMaxI (K : PySem.W.Frag) (xs : List V) (H : Hp) (Q : VK) : Prop := ∃ (p : Addr) (ns : List Int), xs = [.ref p] ∧ SqL K H p (ns.map V.int) ∧ ns ≠ [] ∧ ∀ M, M ∈ ns → (∀ a ∈ ns, a ≤ M) → Q (.int M) H
theorem call_maxI (hc : X.calm = true) : CallR X (.builtin "max") (rMaxI X.K) := by
  intro pins s σ H xs us Q I r h
  obtain ⟨p, ns, rfl, hq, hne, q⟩ := h
  obtain ⟨u, rfl, ru⟩ := vals1 r
  cases ru
  obtain ⟨its, rv, pl, hz⟩ := I.list hq
  have hi := intsAre_of rv
  obtain ⟨ps, e⟩ := hi.allInts.items
  have en : ns = ps.toList.map (·.1) := by
    have e2 := nums_intItems ps
    rw [← e] at e2
    exact hi.numsOf.symm.trans e2
  have hsz : 0 < ps.size := by
    rcases Nat.eq_zero_or_pos ps.size with z | z
    · exfalso
      apply hne
      rw [en, List.map_eq_nil_iff, ← List.length_eq_zero_iff, Array.length_toList, z]
    · exact z
  have pl2 := pl.isList
  rw [e] at pl2
  refine max_intList (I.ok.hd hc) pl2 hsz fun v h' tk hv kp => ?_
  obtain ⟨t, rfl⟩ := intItems_at hv
  obtain ⟨b1, b2⟩ := argBest_gt (numAt ps) (ps.size - 1)
  have len : (ps.toList.map (·.1)).length = ps.size := by rw [List.length_map, Array.length_toList]
  refine ⟨.int _, H, I.kept (t' := tk) kp, ⟨_, rfl⟩, q _ ?_ fun a ha => ?_⟩
  · rw [numAt_eq, ← en]
    refine PySem.getD_mem ?_
    rw [en, len]
    omega
  · rw [en] at ha
    obtain ⟨j, hj, rfl⟩ := PySem.mem_getD ha
    rw [len] at hj
    rw [← numAt_eq]
    exact b2 j (by omega)
theorem r_maxI {p : Addr} {ns : List Int} {M : Int} (hs : SqL K H p (ns.map V.int)) (h1 : M ∈ ns) (h2 : ∀ a ∈ ns, a ≤ M) (h : Q (.int M) H) : rMaxI K [.ref p] H Q := ⟨p, ns, rfl, hs, List.ne_nil_of_mem h1, fun N a b => by
  have e : N = M := by have := b M h1; have := h2 N a; omega
  rw [e]; exact h⟩
/-! ### a list so often -/
def rMulG : R2 := fun x y H Q => rI IntMulOk (fun i j => .int (i * j)) x y H Q ∨ rRep x y H Q
theorem op_mulL : OpR X (binaryOp .Mult) rMulG := op_mulG.or op_rep
theorem r_repI {l : Addr} {z : Int} {n : Nat} (hl : H l = some (.lst [.int z])) (hn : n ≤ 1000000) (h : ∀ p, H p = none → Q (.ref p) (upd H p (.lst ((List.replicate n z).map V.int)))) : rMulG (.ref l) (.int n) H Q := by
  refine .inr ⟨l, n, _, rfl, rfl, hl, by omega, by omega, ?_, fun p hp => ?_⟩
  · rw [Int.toNat_natCast]
    have : (1000000 : Nat) ≤ sizeLine := by decide
    show 1 * n ≤ _
    omega
  · have e : ∀ n : Nat, (List.replicate n [V.int z]).flatten = (List.replicate n z).map V.int := fun n => by
      induction n with
      | zero => rfl
      | succ n ih => rw [List.replicate_succ, List.flatten_cons, ih, List.replicate_succ]; rfl
    rw [Int.toNat_natCast, e]
    exact h p hp
end
end L2
set_option maxHeartbeats 4000000
/-! Mathematics of the landed program's tables: the least one, and the pairs that it tells. -/
namespace Lf
/-- the numbers that the one for these counts is no less than -/
def bnds (one other : List Int) (tb : List (List Int)) (i j : Nat) : List Int :=
  [0] ++ (if 0 < i then [tg tb (i - 1) j] else []) ++ (if 0 < j then [tg tb i (j - 1)] else []) ++ (if 0 < i ∧ 0 < j ∧ one.getD (i - 1) 0 = other.getD (j - 1) 0 then [tg tb (i - 1) (j - 1) + 1] else [])
def lmax : List Int → Int
  | [] => 0
  | [x] => x
  | x :: y :: r => if lmax (y :: r) ≤ x then x else lmax (y :: r)
theorem lmax_le : ∀ (l : List Int), ∀ a ∈ l, a ≤ lmax l
  | [], a, h => by simp at h
  | [x], a, h => by simp at h; subst h; exact Int.le_refl _
  | x :: y :: r, a, h => by
    have ih := lmax_le (y :: r)
    rw [lmax]
    rcases List.mem_cons.mp h with e | h
    · subst e; split <;> omega
    · have := ih a h
      split <;> omega
theorem lmax_mem : ∀ (l : List Int), l ≠ [] → lmax l ∈ l
  | [], h => absurd rfl h
  | [x], _ => by simp [lmax]
  | x :: y :: r, _ => by
    have ih := lmax_mem (y :: r) (by simp)
    rw [lmax]
    split
    · simp
    · exact List.mem_cons_of_mem _ ih
def bnd (one other : List Int) (tb : List (List Int)) (i j : Nat) : Int := lmax (bnds one other tb i j)
theorem bnds_mem {one other : List Int} {tb : List (List Int)} {i j : Nat} {a : Int} : a ∈ bnds one other tb i j ↔ a = 0 ∨ (0 < i ∧ a = tg tb (i - 1) j) ∨ (0 < j ∧ a = tg tb i (j - 1)) ∨ (0 < i ∧ 0 < j ∧ one.getD (i - 1) 0 = other.getD (j - 1) 0 ∧ a = tg tb (i - 1) (j - 1) + 1) := by
  unfold bnds
  by_cases h1 : 0 < i <;> by_cases h2 : 0 < j <;> by_cases h3 : one.getD (i - 1) 0 = other.getD (j - 1) 0 <;> simp [h1, h2, h3, or_assoc]
theorem bnds_ne {one other : List Int} {tb : List (List Int)} {i j : Nat} : bnds one other tb i j ≠ [] := fun e => by
  have : (0 : Int) ∈ bnds one other tb i j := bnds_mem.mpr (.inl rfl)
  rw [e] at this
  simp at this
theorem bnd_mem {one other : List Int} {tb : List (List Int)} {i j : Nat} : bnd one other tb i j ∈ bnds one other tb i j := lmax_mem _ bnds_ne
theorem bnd_le {one other : List Int} {tb : List (List Int)} {i j : Nat} {a : Int} (h : a ∈ bnds one other tb i j) : a ≤ bnd one other tb i j := lmax_le _ a h
theorem bnd_same {one other : List Int} {tb tb' : List (List Int)} {i j : Nat} (h1 : 0 < i → tg tb (i - 1) j = tg tb' (i - 1) j) (h2 : 0 < j → tg tb i (j - 1) = tg tb' i (j - 1)) (h3 : 0 < i → 0 < j → tg tb (i - 1) (j - 1) = tg tb' (i - 1) (j - 1)) : bnd one other tb i j = bnd one other tb' i j := by
  unfold bnd
  congr 1
  unfold bnds
  by_cases q1 : 0 < i <;> by_cases q2 : 0 < j <;> simp [q1, q2]
  · simp [h1 q1, h2 q2, h3 q1 q2]
  · exact h1 q1
  · exact h2 q2
/-- no number below its bound: a table -/
theorem tab_bnd {one other : List Int} {tb : List (List Int)} (h1 : tb.length = one.length + 1) (h2 : ∀ i, i ≤ one.length → (tb.getD i []).length = other.length + 1) :
    TabOk one other tb ↔ ∀ i j, i ≤ one.length → j ≤ other.length → bnd one other tb i j ≤ tg tb i j := by
  constructor
  · intro T i j hi hj
    rcases bnds_mem.mp (bnd_mem (one := one) (other := other) (tb := tb) (i := i) (j := j)) with q | ⟨q, e⟩ | ⟨q, e⟩ | ⟨q1, q2, q3, e⟩
    · rw [q]; exact tab_nonneg T _ i j rfl hi hj
    · rw [e]; exact (T.all i j hi hj).up q
    · rw [e]; exact (T.all i j hi hj).lf q
    · rw [e]; have := (T.all i j hi hj).dg q1 q2 q3; omega
  · intro h
    refine ⟨h1, ?_, h2, fun i j hi hj => ⟨fun q => ?_, fun q => ?_, fun q1 q2 q3 => ?_⟩⟩
    · exact Int.le_trans (bnd_le (bnds_mem.mpr (.inl rfl))) (h 0 0 (Nat.zero_le _) (Nat.zero_le _))
    · exact Int.le_trans (bnd_le (bnds_mem.mpr (.inr (.inl ⟨q, rfl⟩)))) (h i j hi hj)
    · exact Int.le_trans (bnd_le (bnds_mem.mpr (.inr (.inr (.inl ⟨q, rfl⟩))))) (h i j hi hj)
    · have := Int.le_trans (bnd_le (bnds_mem.mpr (.inr (.inr (.inr ⟨q1, q2, q3, rfl⟩))))) (h i j hi hj)
      omega
/-- the least table -/
structure LT (one other : List Int) (tb : List (List Int)) : Prop where
  len : tb.length = one.length + 1
  lens : ∀ i, i ≤ one.length → (tb.getD i []).length = other.length + 1
  eq : ∀ i j, i ≤ one.length → j ≤ other.length → tg tb i j = bnd one other tb i j
theorem LT.ok {one other : List Int} {tb : List (List Int)} (L : LT one other tb) : TabOk one other tb := (tab_bnd L.len L.lens).mpr fun i j hi hj => Int.le_of_eq (L.eq i j hi hj).symm
theorem LT.zero {one other : List Int} {tb : List (List Int)} (L : LT one other tb) : ∀ (n i j : Nat), i + j = n → i ≤ one.length → j ≤ other.length → (i = 0 ∨ j = 0) → tg tb i j = 0
  | 0, i, j, hn, hi, hj, h => by
    have e1 : i = 0 := by omega
    have e2 : j = 0 := by omega
    subst e1; subst e2
    rw [L.eq 0 0 hi hj]
    rcases bnds_mem.mp (bnd_mem (one := one) (other := other) (tb := tb) (i := 0) (j := 0)) with q | ⟨q, e⟩ | ⟨q, e⟩ | ⟨q1, q2, q3, e⟩ <;> omega
  | n + 1, i, j, hn, hi, hj, h => by
    rw [L.eq i j hi hj]
    rcases bnds_mem.mp (bnd_mem (one := one) (other := other) (tb := tb) (i := i) (j := j)) with q | ⟨q, e⟩ | ⟨q, e⟩ | ⟨q1, q2, q3, e⟩
    · exact q
    · rw [e]; exact L.zero n (i - 1) j (by omega) (by omega) hj (by omega)
    · rw [e]; exact L.zero n i (j - 1) (by omega) hi (by omega) (by omega)
    · omega
theorem LT.pos {one other : List Int} {tb : List (List Int)} (L : LT one other tb) {i j : Nat} (hi : i ≤ one.length) (hj : j ≤ other.length) (h : 0 < tg tb i j) : 0 < i ∧ 0 < j := by
  constructor
  · rcases Nat.eq_zero_or_pos i with q | q
    · have := L.zero _ i j rfl hi hj (.inl q); omega
    · exact q
  · rcases Nat.eq_zero_or_pos j with q | q
    · have := L.zero _ i j rfl hi hj (.inr q); omega
    · exact q
theorem LT.diag {one other : List Int} {tb : List (List Int)} (L : LT one other tb) {i j : Nat} (hi : i ≤ one.length) (hj : j ≤ other.length) (h : 0 < tg tb i j) (h1 : ¬ tg tb (i - 1) j = tg tb i j) (h2 : ¬ tg tb i (j - 1) = tg tb i j) :
    one.getD (i - 1) 0 = other.getD (j - 1) 0 ∧ tg tb i j = tg tb (i - 1) (j - 1) + 1 := by
  have e0 := L.eq i j hi hj
  rcases bnds_mem.mp (bnd_mem (one := one) (other := other) (tb := tb) (i := i) (j := j)) with q | ⟨q, e⟩ | ⟨q, e⟩ | ⟨q1, q2, q3, e⟩
  · omega
  · exact absurd (by omega) h1
  · exact absurd (by omega) h2
  · exact ⟨q3, by omega⟩
/-- pairs of places, rising in both, with alike signs -/
structure AP (one other : List Int) (a b : Int) (ps : List (Int × Int)) : Prop where
  mine : rising a one.length (ps.map (·.1)) = true
  theirs : rising b other.length (ps.map (·.2)) = true
  alike : ∀ p ∈ ps, one.getD p.1.toNat 0 = other.getD p.2.toNat 0
theorem rising_low : ∀ (ps : List Int) (a a' c : Int), a' ≤ a → rising a c ps = true → rising a' c ps = true
  | [], _, _, _, _, _ => rfl
  | p :: ps, a, a', c, h, e => by
    rw [rising] at e ⊢
    simp only [Bool.and_eq_true, decide_eq_true_eq] at e ⊢
    exact ⟨⟨by omega, e.1.2⟩, e.2⟩
theorem AP.low {one other : List Int} {a b a' b' : Int} {ps : List (Int × Int)} (A : AP one other a b ps) (h1 : a' ≤ a) (h2 : b' ≤ b) : AP one other a' b' ps := ⟨rising_low _ _ _ _ h1 A.mine, rising_low _ _ _ _ h2 A.theirs, A.alike⟩
theorem AP.cons {one other : List Int} {ps : List (Int × Int)} {x y a b : Int} (A : AP one other x y ps) (h1 : a < x) (h2 : b < y) (h3 : x < one.length) (h4 : y < other.length) (h : one.getD x.toNat 0 = other.getD y.toNat 0) : AP one other a b ((x, y) :: ps) := by
  refine ⟨?_, ?_, fun p hp => ?_⟩
  · rw [List.map_cons, rising, decide_eq_true h1, decide_eq_true h3]
    exact A.mine
  · rw [List.map_cons, rising, decide_eq_true h2, decide_eq_true h4]
    exact A.theirs
  · rcases List.mem_cons.mp hp with e | e
    · subst e; exact h
    · exact A.alike p e
theorem rising_stands {row ps : List Int} (h : rising (-1) row.length ps = true) : stands row ps (picks row ps) = true := by
  rw [stands_picks, h, decide_eq_true rfl]; rfl
theorem rising_inside {n : Nat} {ps : List Int} (h : rising (-1) n ps = true) : inside n ps = true := by
  unfold inside
  rw [Bool.not_eq_true', List.any_eq_false]
  intro p hp
  have := rising_in ps _ _ h p hp
  rw [decide_eq_true (by omega : 0 ≤ p), decide_eq_true this.2]
  decide
theorem long_eq (one other mine theirs : List Int) (tb : List (List Int)) : long one other mine theirs tb = (rising (-1) one.length mine && stands other theirs (picks one mine) && (tab one other tb && decide (tlast tb = (mine.length : Int)))) := by
  unfold long
  by_cases h : rising (-1) one.length mine = true
  · rw [h, rising_inside h, rising_stands h]
    cases stands other theirs (picks one mine) <;> cases tab one other tb <;> simp
  · have e : stands one mine (picks one mine) = false := by
      rw [stands_picks, Bool.eq_false_iff.mpr h, Bool.false_and]
    rw [e, Bool.eq_false_iff.mpr h]
    simp
theorem AP.long {one other : List Int} {tb : List (List Int)} {ps : List (Int × Int)} (A : AP one other (-1) (-1) ps) (L : LT one other tb) (h : (ps.length : Int) = tg tb one.length other.length) : long one other (ps.map (·.1)) (ps.map (·.2)) tb = true := by
  rw [long_eq, A.mine, tab_true L.ok, tlast_eq L.ok, stands_picks, A.theirs, List.length_map]
  have e : picks other (ps.map (·.2)) = picks one (ps.map (·.1)) := by
    unfold picks
    rw [List.map_map, List.map_map]
    exact List.map_congr_left fun p hp => (A.alike p hp).symm
  rw [decide_eq_true e, decide_eq_true h.symm]
  rfl
/-- a table so far: i lines, and j numbers of the next one -/
structure LTp (one other : List Int) (tb : List (List Int)) (i j : Nat) : Prop where
  len : tb.length = i + 1
  lens : ∀ k, k < i → (tb.getD k []).length = other.length + 1
  last : (tb.getD i []).length = j
  eq : ∀ k l, k ≤ i → (k < i → l ≤ other.length) → (k = i → l < j) → tg tb k l = bnd one other tb k l
theorem tg_set {tb : List (List Int)} {i k l : Nat} {line : List Int} (hi : i < tb.length) : tg (tb.set i line) k l = if k = i then line.getD l 0 else tg tb k l := by
  unfold tg
  by_cases h : k = i
  · subst h
    rw [if_pos rfl, set_getD hi]
  · rw [if_neg h]
    congr 1
    rw [List.getD_eq_getElem?_getD, List.getElem?_set_ne (fun z => h z.symm), ← List.getD_eq_getElem?_getD]
theorem getD_app {l : List Int} {v : Int} {k : Nat} : (l ++ [v]).getD k 0 = if k = l.length then v else l.getD k 0 := by
  by_cases h : k = l.length
  · subst h; rw [if_pos rfl]; simp
  · rw [if_neg h]
    rcases Nat.lt_or_ge k l.length with q | q
    · rw [List.getD_eq_getElem?_getD, List.getElem?_append_left q, ← List.getD_eq_getElem?_getD]
    · rw [List.getD_eq_getElem?_getD, List.getD_eq_getElem?_getD, List.getElem?_eq_none (by simp; omega), List.getElem?_eq_none q]
theorem LTp.step {one other : List Int} {tb : List (List Int)} {i j : Nat} (L : LTp one other tb i j) (hj : j ≤ other.length) : LTp one other (tb.set i (tb.getD i [] ++ [bnd one other tb i j])) i (j + 1) := by
  have hi : i < tb.length := by have := L.len; omega
  have e : ∀ k l, (k = i → l < j) → tg (tb.set i (tb.getD i [] ++ [bnd one other tb i j])) k l = tg tb k l := fun k l h => by
    rw [tg_set hi]
    by_cases q : k = i
    · rw [if_pos q, getD_app, if_neg (by have := h q; have := L.last; omega)]
      subst q; rfl
    · rw [if_neg q]
  refine ⟨by rw [List.length_set]; exact L.len, fun k hk => ?_, ?_, fun k l hk h1 h2 => ?_⟩
  · rw [List.getD_eq_getElem?_getD, List.getElem?_set_ne (by omega), ← List.getD_eq_getElem?_getD]
    exact L.lens k hk
  · rw [set_getD hi, List.length_append, L.last]; rfl
  · have eb : bnd one other (tb.set i (tb.getD i [] ++ [bnd one other tb i j])) k l = bnd one other tb k l := bnd_same (fun q => e _ _ (by omega)) (fun q => e _ _ (by omega)) (fun q q' => e _ _ (by omega))
    rw [eb]
    by_cases q : k = i ∧ l = j
    · obtain ⟨rfl, rfl⟩ := q
      rw [tg_set hi, if_pos rfl, getD_app, if_pos L.last.symm]
    · have h3 : k = i → l < j := fun z => by have := h2 z; omega
      rw [e k l h3]
      exact L.eq k l hk h1 h3
theorem LTp.line {one other : List Int} {tb : List (List Int)} {i : Nat} (L : LTp one other tb i (other.length + 1)) : LTp one other (tb ++ [[]]) (i + 1) 0 := by
  have g : ∀ k, k < tb.length → (tb ++ [[]]).getD k [] = tb.getD k [] := fun k hk => by
    rw [List.getD_eq_getElem?_getD, List.getElem?_append_left hk, ← List.getD_eq_getElem?_getD]
  have e : ∀ k l, k ≤ i → tg (tb ++ [[]]) k l = tg tb k l := fun k l hk => by
    unfold tg
    rw [g k (by have := L.len; omega)]
  refine ⟨by rw [List.length_append, L.len]; rfl, fun k hk => ?_, ?_, fun k l hk h1 h2 => ?_⟩
  · rw [g k (by have := L.len; omega)]
    rcases Nat.lt_or_ge k i with q | q
    · exact L.lens k q
    · have : k = i := by omega
      subst this
      exact L.last
  · rw [List.getD_eq_getElem?_getD, List.getElem?_append_right (by have := L.len; omega), L.len]
    simp
  · have hk' : k ≤ i := by
      rcases Nat.lt_or_ge k (i + 1) with q | q
      · omega
      · have := h2 (by omega); omega
    have eb : bnd one other (tb ++ [[]]) k l = bnd one other tb k l := bnd_same (fun q => e _ _ (by omega)) (fun q => e _ _ (by omega)) (fun q q' => e _ _ (by omega))
    rw [eb, e k l hk']
    exact L.eq k l hk' (fun q => h1 (by omega)) fun q => by have := h1 (by omega); omega
theorem LTp.start (one other : List Int) : LTp one other [[]] 0 0 := ⟨rfl, fun k hk => by omega, rfl, fun k l hk h1 h2 => by have := h2 (by omega); omega⟩
theorem LTp.done {one other : List Int} {tb : List (List Int)} (L : LTp one other tb one.length (other.length + 1)) : LT one other tb := by
  refine ⟨L.len, fun i hi => ?_, fun i j hi hj => L.eq i j hi (fun _ => hj) fun _ => by omega⟩
  rcases Nat.lt_or_ge i one.length with q | q
  · exact L.lens i q
  · have : i = one.length := by omega
    subst this
    exact L.last
end Lf
set_option maxHeartbeats 4000000
/-! Mathematics of the landed program's row for both. -/
namespace Lf
theorem rising_more : ∀ (ps : List Int) (a c c' : Int), c ≤ c' → rising a c ps = true → rising a c' ps = true
  | [], _, _, _, _, _ => rfl
  | p :: ps, a, c, c', h, e => by
    rw [rising] at e ⊢
    simp only [Bool.and_eq_true, decide_eq_true_eq] at e ⊢
    exact ⟨⟨e.1.1, by omega⟩, rising_more ps p c c' h e.2⟩
theorem rising_snoc : ∀ (ps : List Int) (a c x : Int), rising a c ps = true → a < x → (∀ p ∈ ps, p < x) → x < c → rising a c (ps ++ [x]) = true
  | [], a, c, x, _, h1, _, h2 => by
    rw [List.nil_append, rising, decide_eq_true h1, decide_eq_true h2]; rfl
  | p :: ps, a, c, x, e, h1, h3, h2 => by
    rw [List.cons_append, rising] at *
    simp only [Bool.and_eq_true, decide_eq_true_eq] at e ⊢
    exact ⟨e.1, rising_snoc ps p c x e.2 (h3 p List.mem_cons_self) (fun q hq => h3 q (List.mem_cons_of_mem _ hq)) h2⟩
/-- so many places behind -/
def upTo (r k : Nat) : List Int := (List.range k).map fun i : Nat => (r : Int) + i
theorem upTo_len (r k : Nat) : (upTo r k).length = k := by unfold upTo; simp
theorem upTo_succ (r k : Nat) : upTo r (k + 1) = upTo r k ++ [(r : Int) + k] := by
  unfold upTo; rw [List.range_succ, List.map_append]; rfl
theorem upTo_mem {r k : Nat} {p : Int} (h : p ∈ upTo r k) : (r : Int) ≤ p ∧ p < (r : Int) + k := by
  unfold upTo at h
  obtain ⟨i, hi, rfl⟩ := List.mem_map.mp h
  have := List.mem_range.mp hi
  omega
theorem rising_upTo (ps : List Int) (r : Nat) (h : rising (-1) r ps = true) : ∀ k : Nat, rising (-1) ((r : Int) + k) (ps ++ upTo r k) = true
  | 0 => by
    have : upTo r 0 = [] := rfl
    rw [this, List.append_nil]
    exact rising_more _ _ _ _ (by omega) h
  | k + 1 => by
    rw [upTo_succ, ← List.append_assoc]
    refine rising_snoc _ _ _ _ (rising_more _ _ _ _ (by omega) (rising_upTo ps r h k)) (by omega) (fun p hp => ?_) (by omega)
    rcases List.mem_append.mp hp with q | q
    · have := rising_in _ _ _ h p q; omega
    · have := upTo_mem q; omega
theorem picks_app {row seg ps : List Int} (h : ∀ p ∈ ps, 0 ≤ p ∧ p < (row.length : Int)) : picks (row ++ seg) ps = picks row ps := by
  unfold picks
  refine List.map_congr_left fun p hp => ?_
  have := h p hp
  rw [List.getD_eq_getElem?_getD, List.getElem?_append_left (by omega), ← List.getD_eq_getElem?_getD]
theorem picks_upTo (row seg : List Int) : picks (row ++ seg) (upTo row.length seg.length) = seg := by
  unfold picks upTo
  rw [List.map_map]
  refine List.ext_getElem (by simp) fun i h1 h2 => ?_
  rw [List.getElem_map, List.getElem_range]
  show (row ++ seg).getD ((row.length : Int) + (i : Int)).toNat 0 = seg[i]
  rw [show ((row.length : Int) + (i : Int)).toNat = row.length + i by omega, List.getD_eq_getElem?_getD, List.getElem?_append_right (by omega), Nat.add_sub_cancel_left, List.getElem?_eq_getElem h2]
  rfl
theorem picks_append (row ps qs : List Int) : picks row (ps ++ qs) = picks row ps ++ picks row qs := by unfold picks; rw [List.map_append]
/-- a row so far: first signs of both stand in it; c of them once for two -/
structure Sh (one other row mine theirs : List Int) (m n c : Nat) : Prop where
  lm : mine.length = m
  ln : theirs.length = n
  rm : rising (-1) row.length mine = true
  rn : rising (-1) row.length theirs = true
  pm : picks row mine = one.take m
  pn : picks row theirs = other.take n
  len : row.length + c = m + n
theorem seg_len {l : List Int} {m m' : Nat} (h1 : m ≤ m') (h2 : m' ≤ l.length) : ((l.drop m).take (m' - m)).length = m' - m := by
  rw [List.length_take, List.length_drop]; omega
theorem take_seg {l : List Int} {m m' : Nat} (h1 : m ≤ m') : l.take m ++ (l.drop m).take (m' - m) = l.take m' := by
  have := List.take_add (l := l) (i := m) (j := m' - m)
  rw [show m + (m' - m) = m' by omega] at this
  exact this.symm
theorem Sh.mine {one other row mine theirs : List Int} {m n c m' : Nat} (S : Sh one other row mine theirs m n c) (h1 : m ≤ m') (h2 : m' ≤ one.length) : Sh one other (row ++ (one.drop m).take (m' - m)) (mine ++ upTo row.length (m' - m)) theirs m' n c := by
  have sl := seg_len h1 h2
  have inm : ∀ p ∈ mine, 0 ≤ p ∧ p < (row.length : Int) := fun p hp => by have := rising_in _ _ _ S.rm p hp; omega
  have inn : ∀ p ∈ theirs, 0 ≤ p ∧ p < (row.length : Int) := fun p hp => by have := rising_in _ _ _ S.rn p hp; omega
  have rl : (((row ++ (one.drop m).take (m' - m)).length : Nat) : Int) = (row.length : Int) + ((m' - m : Nat) : Int) := by rw [List.length_append, sl]; omega
  refine ⟨by rw [List.length_append, S.lm, upTo_len]; omega, S.ln, ?_, ?_, ?_, ?_, ?_⟩
  · rw [rl]; exact rising_upTo _ _ S.rm _
  · rw [rl]; exact rising_more _ _ _ _ (by omega) S.rn
  · rw [picks_append, picks_app inm, S.pm]
    conv => lhs; rw [← sl]
    rw [sl]
    have := picks_upTo row ((one.drop m).take (m' - m))
    rw [sl] at this
    rw [this, take_seg h1]
  · rw [picks_app inn, S.pn]
  · rw [List.length_append, sl]; have := S.len; omega
theorem Sh.theirs {one other row mine theirs : List Int} {m n c n' : Nat} (S : Sh one other row mine theirs m n c) (h1 : n ≤ n') (h2 : n' ≤ other.length) : Sh one other (row ++ (other.drop n).take (n' - n)) mine (theirs ++ upTo row.length (n' - n)) m n' c := by
  have S' : Sh other one row theirs mine n m c := ⟨S.ln, S.lm, S.rn, S.rm, S.pn, S.pm, by have := S.len; omega⟩
  have T := S'.mine h1 h2
  exact ⟨T.ln, T.lm, T.rn, T.rm, T.pn, T.pm, by have := T.len; omega⟩
/-- the last sign of the one, for both -/
theorem Sh.pair {one other row mine theirs : List Int} {i j c : Nat} {m : Nat} (S : Sh one other row mine theirs m j c) (h1 : m ≤ i) (h2 : i < one.length) (h3 : j < other.length) (h : one.getD i 0 = other.getD j 0) :
    Sh one other (row ++ (one.drop m).take (i + 1 - m)) (mine ++ upTo row.length (i + 1 - m)) (theirs ++ [((row.length + (i - m) : Nat) : Int)]) (i + 1) (j + 1) (c + 1) := by
  have T := S.mine (m' := i + 1) (by omega) (by omega)
  have sl := seg_len (l := one) (m := m) (m' := i + 1) (by omega) (by omega)
  have inn : ∀ p ∈ theirs, 0 ≤ p ∧ p < (row.length : Int) := fun p hp => by have := rising_in _ _ _ S.rn p hp; omega
  refine ⟨T.lm, by rw [List.length_append, T.ln]; rfl, T.rm, ?_, T.pm, ?_, by have := T.len; omega⟩
  · refine rising_snoc _ _ _ _ T.rn (by omega) (fun p hp => ?_) ?_
    · have := inn p hp; omega
    · rw [List.length_append, sl]; omega
  · rw [picks_append, T.pn]
    have : picks (row ++ (one.drop m).take (i + 1 - m)) [((row.length + (i - m) : Nat) : Int)] = [other.getD j 0] := by
      unfold picks
      rw [List.map_singleton, Int.toNat_natCast, List.getD_eq_getElem?_getD, List.getElem?_append_right (by omega), Nat.add_sub_cancel_left, List.getElem?_take_of_lt (by omega), List.getElem?_drop, show m + (i - m) = i by omega, ← List.getD_eq_getElem?_getD, h]
    rw [this]
    have := List.take_succ_eq_append_getElem h3
    rw [this, List.getD_eq_getElem?_getD, List.getElem?_eq_getElem h3]
    rfl
theorem upTo_last (r : Nat) {k : Nat} (h : 0 < k) (ps : List Int) : (ps ++ upTo r k).getD ((ps ++ upTo r k).length - 1) 0 = ((r + (k - 1) : Nat) : Int) := by
  obtain ⟨j, rfl⟩ : ∃ j, k = j + 1 := ⟨k - 1, by omega⟩
  rw [upTo_succ, ← List.append_assoc, List.length_append, List.length_singleton, Nat.add_sub_cancel, List.getD_eq_getElem?_getD, List.getElem?_append_right (Nat.le_refl _), Nat.sub_self]
  simp
theorem Sh.both {one other row mine theirs : List Int} {tb : List (List Int)} {c : Nat} (S : Sh one other row mine theirs one.length other.length c) (L : LT one other tb) (h : (c : Int) = tg tb one.length other.length) : Lf.both one other row mine theirs tb = true := by
  unfold Lf.both
  have p1 := S.pm
  have p2 := S.pn
  rw [List.take_length] at p1 p2
  rw [stands_picks, stands_picks, S.rm, S.rn, p1, p2, tab_true L.ok, tlast_eq L.ok, ← h, decide_eq_true rfl, decide_eq_true rfl, decide_eq_true (by have := S.len; omega)]
  rfl
theorem Sh.start (one other : List Int) : Sh one other [] [] [] 0 0 0 := ⟨rfl, rfl, rfl, rfl, by simp [picks], by simp [picks], rfl⟩
end Lf
set_option maxRecDepth 100000
set_option maxHeartbeats 4000000
/-! Comprehensions whose items are new objects; tables that grow. -/
namespace L2
open PySem PySem.Spec PyProof.Rows
/-- a comprehension without a test, each item a new object -/
theorem comp_new {α : Type} {J : It} {l : List α} {kp : Hp → Prop} {rep : α → V → Hp → Hp → Prop} (O : Ov J l kp rep) {g : TG} {ti : TT} {te : TE} {k : Nat} {caps : List Nat} {σ : St} {H1 : Hp} {Q : VK}
    (o : α → HO) (hk : ∀ H, Same H1 H → kp H) (hl : l.length ≤ 1000000)
    (turn : ∀ (i : Nat) y x H3 H4 (R : V → Hp → Prop) (R' : Hp → Prop), l[i]? = some y → Same H1 H3 → rep y x H3 H4 → (∀ a H7, Same H3 H7 → H3 a = none → H7 a = some (o y) → R (.ref a) H7) →
      g x (inner k caps σ) H4 fun σ4 H5 => (σ4.length = (inner k caps σ).length ∧ σ4.drop k = (inner k caps σ).drop k) ∧ ti σ4 H5 fun b H6 => if b = true then te σ4 H6 R else R' H6)
    (fin : ∀ (D : Addr) (H' : Hp) (ls : List Addr), H1 D = none → Same H1 H' → H' D = some (.lst (ls.map V.ref)) → ls.length = l.length → ls.Nodup → D ∉ ls → (∀ a ∈ ls, H1 a = none) → (∀ (i : Nat) a, ls[i]? = some a → ∃ y, l[i]? = some y ∧ H' a = some (o y)) → Q (.ref D) H') :
    CompBody J g ti te k caps σ Q H1 := by
  intro D hD
  refine ⟨fun i m ys H => m = l.length - i ∧ i ≤ l.length ∧ Same H1 H ∧ H D = some (.lst ys) ∧ ∃ ls : List Addr, ys = ls.map V.ref ∧ ls.length = i ∧ ls.Nodup ∧ D ∉ ls ∧ (∀ a ∈ ls, H1 a = none) ∧ (∀ (i : Nat) a, ls[i]? = some a → ∃ y, l[i]? = some y ∧ H a = some (o y)), ⟨l.length, by simp, Nat.zero_le _, Same.upd_new hD, upd_same, [], rfl, rfl, .nil, by simp, by simp, by simp⟩, ?_⟩
  rintro i m ys H2 ⟨rfl, hi, s2, d2, ls, rfl, ll, nd, nD, fr, at'⟩
  refine ⟨d2, ?_⟩
  by_cases hlt : i < l.length
  · refine .inr ⟨O.go i H2 (hk _ s2) hlt, by rw [List.length_map, ll]; exact Nat.lt_of_lt_of_le (Nat.lt_of_lt_of_le hlt hl) (by decide), fun x H3 y3 => ?_⟩
    have e : l[i]? = some l[i] := by simp [hlt]
    refine turn i _ x H2 H3 _ _ e s2 (O.yld i H2 x H3 _ (hk _ s2) e y3) (fun a H7 s7 ha2 ha7 => ?_)
    have aD : a ≠ D := fun z => by rw [z, d2] at ha2; cases ha2
    have als : a ∉ ls := fun z => by
      obtain ⟨n, hn⟩ := List.getElem?_of_mem z
      obtain ⟨y, _, q⟩ := at' n a hn
      rw [ha2] at q; cases q
    refine ⟨s7 _ _ d2, l.length - (i + 1), by omega, rfl, hlt, ?_, upd_same, ls ++ [a], by rw [List.map_append]; rfl, by rw [List.length_append, ll]; rfl, ?_, ?_, ?_, ?_⟩
    · intro b u eb
      rw [upd_ne (ne_of_none eb hD)]
      exact s7 _ _ (s2 _ _ eb)
    · rw [List.nodup_append]
      refine ⟨nd, by simp, fun x hx y hy => ?_⟩
      have : y = a := by simpa using hy
      subst this
      exact fun z => als (z ▸ hx)
    · intro z
      rcases List.mem_append.mp z with q | q
      · exact nD q
      · have e : D = a := by simpa using q
        exact aD e.symm
    · intro b hb
      rcases List.mem_append.mp hb with q | q
      · exact fr b q
      · have : b = a := by simpa using q
        subst this
        exact s2.free ha2
    · intro n b hb
      rcases Nat.lt_or_ge n ls.length with q | q
      · rw [List.getElem?_append_left q] at hb
        obtain ⟨y, h1, h2⟩ := at' n b hb
        refine ⟨y, h1, ?_⟩
        rw [upd_ne (fun z : b = D => nD (by rw [← z]; exact List.mem_of_getElem? hb))]
        exact s7 _ _ h2
      · have hn : n = ls.length := by
          have := (List.getElem?_eq_some_iff.mp hb).1
          rw [List.length_append, List.length_singleton] at this
          omega
        subst hn
        rw [List.getElem?_append_right (Nat.le_refl _), Nat.sub_self] at hb
        have : b = a := by simpa using hb.symm
        subst this
        refine ⟨l[i], by rw [ll]; exact e, ?_⟩
        rw [upd_ne aD]
        exact ha7
  · have e : i = l.length := by omega
    subst e
    exact .inl ⟨O.stop _ H2 (hk _ s2) (Nat.le_refl _), fin D H2 ls hD s2 d2 ll nd nD fr at'⟩
section
variable {σ : St} {H H' : Hp} {Q : VK} {D : Ends} {K : PySem.W.Frag} {X : Cx}
/-- the lines of a table, one after another -/
theorem ov_lines {t : Addr} {ls : List Addr} {tb : List (List Int)} (hl : ls.length = tb.length) : Ov (Itl K t) (ls.zip tb) (fun H => Tab H t ls tb) (fun y x H H' => x = .ref y.1 ∧ H' = H ∧ H y.1 = some (.lst (y.2.map V.int))) where
  go := fun i H h hi => by
    rw [List.length_zip] at hi
    have : i < ls.length := by omega
    exact ⟨_, .ref ls[i], SqL.of h.at_, by rw [List.getElem?_map]; simp [this]⟩
  stop := fun i H h hi => by
    rw [List.length_zip, ← hl, Nat.min_self] at hi
    exact ⟨_, SqL.of h.at_, by rw [List.length_map]; exact hi⟩
  yld := fun i H x H' y h hy ⟨e, q⟩ => by
    have q := q _ (SqL.of h.at_)
    obtain ⟨h1, h2⟩ := List.getElem?_eq_some_iff.mp hy
    rw [List.length_zip] at h1
    have i1 : i < ls.length := by omega
    have i2 : i < tb.length := by omega
    rw [List.getElem_zip] at h2
    subst h2
    rw [List.getElem?_map, List.getElem?_eq_getElem i1] at q
    refine ⟨(Option.some.inj q).symm, e, ?_⟩
    have r := h.row i ls[i] (by simp [i1])
    rw [List.getD_eq_getElem?_getD, List.getElem?_eq_getElem i2] at r
    exact r
theorem Tab.of_copy {D : Addr} {ls ls' : List Addr} {tb : List (List Int)} (hl : ls.length = tb.length) (hD : H' D = some (.lst (ls'.map V.ref))) (h1 : ls'.length = (ls.zip tb).length) (h : ∀ (i : Nat) a, ls'[i]? = some a → ∃ y, (ls.zip tb)[i]? = some y ∧ H' a = some (.lst (y.2.map V.int))) : Tab H' D ls' tb := by
  rw [List.length_zip, hl, Nat.min_self] at h1
  refine ⟨hD, h1, fun i a ha => ?_⟩
  obtain ⟨y, hy, q⟩ := h i a ha
  obtain ⟨h2, h3⟩ := List.getElem?_eq_some_iff.mp hy
  rw [List.length_zip] at h2
  have i2 : i < tb.length := by omega
  rw [List.getElem_zip] at h3
  subst h3
  rw [List.getD_eq_getElem?_getD, List.getElem?_eq_getElem i2]
  exact q
/-- enumerate over the lines of a table -/
theorem ov_enumT {t : Addr} {ls : List Addr} {tb : List (List Int)} (hl : ls.length = tb.length) : Ov (Ite K t) (ls.zip tb).zipIdx (fun H => Tab H t ls tb) (fun y x H H' => ∃ T, H T = none ∧ x = .ref T ∧ H' = upd H T (.tup [.int (y.2 : Nat), .ref y.1.1]) ∧ H y.1.1 = some (.lst (y.1.2.map V.int))) := by
  have O := ov_enum (K := K) (a := t) (xs := ls.map V.ref)
  have e : (ls.zip tb).zipIdx.length = ((ls.map V.ref).zipIdx).length := by
    rw [List.length_zipIdx, List.length_zipIdx, List.length_zip, List.length_map]; omega
  refine ⟨fun i H h hi => O.go i H (SqL.of h.at_) (by rw [← e]; exact hi), fun i H h hi => O.stop i H (SqL.of h.at_) (by rw [← e]; exact hi), fun i H x H' y h hy q => ?_⟩
  rw [List.getElem?_zipIdx] at hy
  obtain ⟨z, hz, ey⟩ := Option.map_eq_some_iff.mp hy
  subst ey
  obtain ⟨h1, h2⟩ := List.getElem?_eq_some_iff.mp hz
  rw [List.length_zip] at h1
  have i1 : i < ls.length := by omega
  have i2 : i < tb.length := by omega
  rw [List.getElem_zip] at h2
  subst h2
  obtain ⟨T, hT, e1, e2⟩ := O.yld i H x H' (.ref ls[i], i) (SqL.of h.at_) (by rw [List.getElem?_zipIdx, List.getElem?_map, List.getElem?_eq_getElem i1]; simp) q
  have r := h.row i ls[i] (by simp [i1])
  rw [List.getD_eq_getElem?_getD, List.getElem?_eq_getElem i2] at r
  refine ⟨T, hT, e1, ?_, r⟩
  rw [e2]
  simp
theorem r_lofT {l : Addr} {ns : List Int} (hs : H l = some (.lst (ns.map V.int))) (h : ∀ p, H p = none → Q (.ref p) (upd H p (.lst (ns.map V.int)))) : rLOf K [.ref l] H Q := r_lofI (SqL.of hs) h
/-- say what holds of a value -/
theorem r_cutR {t : TE} (R : V → Hp → Prop) (h : ∀ Q' : VK, (∀ v H', R v H' → Q' v H') → t σ H Q') (k : ∀ v H', R v H' → Q v H') : t σ H Q := h Q k
/-- a new line behind the table's -/
theorem Tab.snoc {t l : Addr} {ls : List Addr} {tb : List (List Int)} {line : List Int} (T : Tab H t ls tb) (hl : H l = some (.lst (line.map V.int))) (tl : t ≠ l) (tls : t ∉ ls) : Tab (upd H t (.lst (ls.map V.ref ++ [.ref l]))) t (ls ++ [l]) (tb ++ [line]) := by
  refine ⟨by rw [upd_same, List.map_append]; rfl, by rw [List.length_append, List.length_append, T.len]; rfl, fun i a ha => ?_⟩
  rcases Nat.lt_or_ge i ls.length with q | q
  · rw [List.getElem?_append_left q] at ha
    have at' : a ≠ t := fun z => tls (z ▸ List.mem_of_getElem? ha)
    have i2 : i < tb.length := by rw [← T.len]; exact q
    rw [upd_ne at', List.getD_eq_getElem?_getD, List.getElem?_append_left i2, ← List.getD_eq_getElem?_getD]
    exact T.row i a ha
  · have hn : i = ls.length := by
      have := (List.getElem?_eq_some_iff.mp ha).1
      rw [List.length_append, List.length_singleton] at this
      omega
    subst hn
    rw [List.getElem?_append_right (Nat.le_refl _), Nat.sub_self] at ha
    have : a = l := by simpa using ha.symm
    subst this
    rw [upd_ne (Ne.symm tl), List.getD_eq_getElem?_getD, T.len, List.getElem?_append_right (Nat.le_refl _), Nat.sub_self]
    exact hl
/-- append of any value -/
theorem r_appV {l : Addr} {xs : List V} {v : V} (hl : H l = some (.lst xs)) (hz : xs.length < 1000000) (h : Q .non (upd H l (.lst (xs ++ [v])))) : rAppend (.ref l) [v] H Q := ⟨l, xs, v, rfl, rfl, hl, Nat.lt_of_lt_of_le hz (by decide), h⟩
end
end L2
namespace L2
open PySem PySem.Spec PyProof.Rows
section
variable {σ : St} {H H' : Hp} {Q : VK} {D : Ends} {K : PySem.W.Frag} {X : Cx}
theorem r_revV {l : Addr} {xs : List V} (hl : H l = some (.lst xs)) (h : Q .non (upd H l (.lst xs.reverse))) : rReverse (.ref l) [] H Q := ⟨l, xs, rfl, rfl, hl, h⟩
theorem getD_rev {α : Type} {l : List α} {i : Nat} {d : α} (h : i < l.length) : l.reverse.getD i d = l.getD (l.length - 1 - i) d := by
  rw [List.getD_eq_getElem?_getD, List.getD_eq_getElem?_getD, List.getElem?_reverse h]
theorem Prs.rev {p : Addr} {ts : List Addr} {ps : List (Int × Int)} (T : Prs H p ts ps) : Prs (upd H p (.lst (ts.map V.ref).reverse)) p ts.reverse ps.reverse := by
  refine ⟨by rw [upd_same, List.map_reverse], by rw [List.length_reverse, List.length_reverse]; exact T.len, fun i t h => ?_⟩
  have hi : i < ts.length := by have := (List.getElem?_eq_some_iff.mp h).1; rw [List.length_reverse] at this; exact this
  rw [List.getElem?_reverse hi] at h
  have := T.row _ t h
  rw [getD_rev (by rw [← T.len]; exact hi), ← T.len, upd_ne (T.ne h)]
  exact this
theorem AP_cons' {one other : List Int} {ps : List (Int × Int)} {i j : Nat} (A : Lf.AP one other ((i : Int) - 1) ((j : Int) - 1) ps) (ei : (i : Int) - 1 = ((i - 1 : Nat) : Int)) (ej : (j : Int) - 1 = ((j - 1 : Nat) : Int)) (h3 : ((i - 1 : Nat) : Int) < one.length) (h4 : ((j - 1 : Nat) : Int) < other.length) (h : one.getD ((i - 1 : Nat) : Int).toNat 0 = other.getD ((j - 1 : Nat) : Int).toNat 0) :
    Lf.AP one other (((i - 1 : Nat) : Int) - 1) (((j - 1 : Nat) : Int) - 1) ([(((i - 1 : Nat) : Int), ((j - 1 : Nat) : Int))].reverse ++ ps) := by
  rw [ei, ej] at A
  exact A.cons (by omega) (by omega) h3 h4 h
end
end L2
namespace L2
open PySem PySem.Spec PyProof.Rows
section
variable {σ : St} {H H' : Hp} {Q : VK} {D : Ends} {K : PySem.W.Frag} {X : Cx}
/-- a list of pairs, one after another -/
theorem ov_prs {p : Addr} {ts : List Addr} {ps : List (Int × Int)} (hl : ts.length = ps.length) : Ov (Itl K p) (ts.zip ps) (fun H => Prs H p ts ps) (fun y x H H' => x = .ref y.1 ∧ H' = H ∧ H y.1 = some (.tup [.int y.2.1, .int y.2.2])) where
  go := fun i H h hi => by
    rw [List.length_zip] at hi
    have : i < ts.length := by omega
    exact ⟨_, .ref ts[i], SqL.of h.at_, by rw [List.getElem?_map]; simp [this]⟩
  stop := fun i H h hi => by
    rw [List.length_zip, ← hl, Nat.min_self] at hi
    exact ⟨_, SqL.of h.at_, by rw [List.length_map]; exact hi⟩
  yld := fun i H x H' y h hy ⟨e, q⟩ => by
    have q := q _ (SqL.of h.at_)
    obtain ⟨h1, h2⟩ := List.getElem?_eq_some_iff.mp hy
    rw [List.length_zip] at h1
    have i1 : i < ts.length := by omega
    have i2 : i < ps.length := by omega
    rw [List.getElem_zip] at h2
    subst h2
    rw [List.getElem?_map, List.getElem?_eq_getElem i1] at q
    refine ⟨(Option.some.inj q).symm, e, ?_⟩
    have r := h.row i ts[i] (by simp [i1])
    rw [List.getD_eq_getElem?_getD, List.getElem?_eq_getElem i2] at r
    exact r
end
end L2
set_option maxRecDepth 100000
set_option maxHeartbeats 4000000
namespace My
open PySem PySem.Spec PyProof.Rows L2
abbrev body := PySem.Challenge.pw_leftin_k03_whole_shortest.main.body
seal PE PT PW PA PS PSs PC PG PGs PSet PIp PGet PI OpR UnR CallR TruR PK PO SlR IxR MtR PPs
local macro_rules | `(tactic| walk_at "nn") => `(tactic| omega)
local macro_rules | `(tactic| walk_at "sm") => `(tactic| first | with_reducible exact Same.refl _ | with_reducible assumption | ((with_reducible refine same_upd ?_ ?_); walk_at "sm"; walk_at "fr") | ((with_reducible apply same_trans); (focus with_reducible assumption); walk_at "sm"))
local macro_rules | `(tactic| walk_at "ce") => `(tactic| first | rfl | (dsimp only [cxComp]; done) | (dsimp only [cxComp]; rfl))
local macro_rules | `(tactic| walk_at "ci") => `(tactic| first | (show (0 : Int) < _; omega) | exact ⟨by omega, by omega⟩ | exact mul2Ok | exact ⟨by decide, by decide, by decide⟩)
local macro_rules | `(tactic| walk_at "fr1") => `(tactic| first | with_reducible assumption | ((with_reducible apply free_upd); first | with_reducible assumption | ((with_reducible apply free_upd); first | with_reducible assumption | ((with_reducible apply free_upd); first | with_reducible assumption | ((with_reducible apply free_upd); first | with_reducible assumption | ((with_reducible apply free_upd); first | with_reducible assumption | ((with_reducible apply free_upd); first | with_reducible assumption | ((with_reducible apply free_upd); first | with_reducible assumption | ((with_reducible apply free_upd); first | with_reducible assumption | ((with_reducible apply free_upd); first | with_reducible assumption | ((with_reducible apply free_upd); first | with_reducible assumption | ((with_reducible apply free_upd); first | with_reducible assumption | ((with_reducible apply free_upd); first | with_reducible assumption | ((with_reducible apply free_upd); with_reducible assumption))))))))))))))
local macro_rules | `(tactic| walk_at "fr") => `(tactic| first | walk_at "fr1" | ((with_reducible apply free_of); (focus with_reducible assumption); walk_at "sm") | ((with_reducible apply Same.free); (focus with_reducible assumption); walk_at "fr1"))
local macro_rules | `(tactic| walk_at "ft") => `(tactic| first
  | with_reducible assumption
  | with_reducible exact upd_same
  | ((with_reducible apply SqL.of); first | with_reducible assumption | with_reducible exact upd_same)
  | ((with_reducible apply mk_keep); (focus with_reducible assumption); (focus with_reducible assumption); walk_at "ft")
  | ((with_reducible apply mk_sq); (focus with_reducible assumption); (focus with_reducible assumption); walk_at "ft")
  | ((with_reducible apply upd_keepA); (focus with_reducible assumption); walk_at "ft")
  | ((with_reducible apply sq_keepA); (focus with_reducible assumption); walk_at "ft")
  | ((with_reducible apply Same.at); (focus with_reducible assumption); walk_at "ft")
  | ((with_reducible apply Same.seq); (focus with_reducible assumption); walk_at "ft")
  | ((with_reducible apply upd_keepNeA); (focus walk_at "ne"); walk_at "ft")
  | ((with_reducible apply sq_keepNeA); (focus walk_at "ne"); walk_at "ft")
  | assumption
  | exact upd_same)
local macro_rules | `(tactic| walk_at "ne") => `(tactic| first | with_reducible assumption | ((with_reducible apply Ne.symm); with_reducible assumption) | ((with_reducible apply ne_upd); with_reducible assumption) | ((with_reducible apply Ne.symm); (with_reducible apply ne_upd); with_reducible assumption) | ((with_reducible apply ne_of_none); rotate_left; (focus walk_at "fr"); walk_at "ft") | ((with_reducible apply Ne.symm); (with_reducible apply ne_of_none); rotate_left; (focus walk_at "fr"); walk_at "ft"))
local macro_rules | `(tactic| walk_at "rd1") => `(tactic| first
  | with_reducible refine iteTeF ?_ | with_reducible refine iteFeT ?_ | with_reducible refine iteTeT ?_ | with_reducible refine iteFeF ?_ | with_reducible refine iteTnT ?_ | with_reducible refine iteFnF ?_ | with_reducible refine iteTnF ?_ | with_reducible refine iteFnT ?_ | with_reducible refine iteNBB ?_ | with_reducible refine iteNDD ?_ | with_reducible refine iteDD ?_
  | with_reducible refine iteT ?_ | with_reducible refine iteF ?_ | with_reducible refine iteNT ?_ | with_reducible refine iteNF ?_
  | with_reducible refine r_seq ?_ | with_reducible refine r_asg ?_ | ((with_reducible refine r_name ?_); first | (dsimp only [inner]; dsimp only [List.replicate, List.map, List.cons_append, List.nil_append, List.getElem?_cons_zero, List.getElem?_cons_succ, Option.join_some, List.set]) | dsimp only [List.set] | skip) | with_reducible refine r_ifs ?_ | with_reducible refine r_ret ?_ | with_reducible refine r_next ?_ | with_reducible refine r_drop ?_
  | with_reducible refine r_break ?_ | with_reducible refine r_cont ?_ | ((with_reducible show tVar _ _ _ _); refine r_var rfl ?_) | with_reducible refine r_c ?_ | with_reducible refine r_op ?_ | with_reducible refine r_un ?_ | with_reducible refine r_cb ?_
  | with_reducible refine r_cons ?_ | with_reducible refine r_nil ?_ | with_reducible refine r_test ?_ | with_reducible refine r_tB ?_ | with_reducible refine r_bl ?_ | with_reducible refine r_not ?_ | with_reducible refine r_and ?_ | with_reducible refine r_or ?_
  | with_reducible refine r_andV ?_ | with_reducible refine r_orV ?_ | with_reducible refine r_notV ?_ | with_reducible refine r_call ?_ | with_reducible refine r_chain ?_ | with_reducible refine r_lst ?_ | with_reducible refine r_tup ?_
  | with_reducible refine r_sl ?_ | with_reducible refine r_sl3 ?_ | with_reducible refine r_part ?_ | with_reducible refine r_noPart ?_ | with_reducible refine r_int ?_ | with_reducible refine r_comp ?_ | with_reducible refine r_for ?_ | with_reducible refine r_iList ?_
  | with_reducible refine r_iZip ?_ | with_reducible refine r_iEnum ?_ | with_reducible refine r_iRng1 ?_ | with_reducible refine r_tBM ?_ | with_reducible refine r_tBM0 ?_ | with_reducible refine r_new0 ?_ | with_reducible refine r_new1 ?_ | with_reducible refine r_new2 ?_ | with_reducible refine r_new3 ?_ | with_reducible refine r_new4 ?_ | with_reducible refine r_new5 ?_ | ((with_reducible refine r_newL ?_ ?_); (· first | decide | (simp; done) | (simp; omega))) | ((with_reducible refine r_newT ?_ ?_); (· first | decide | (simp; done) | (simp; omega)))
  | ((with_reducible apply r_AtL); walk_at "ft") | ((with_reducible apply r_AtZ); walk_at "ft"; walk_at "ft") | ((with_reducible apply r_AtE); walk_at "ft")
  | ((with_reducible refine r_rI ?_ ?_); (· walk_at "ci")) | with_reducible refine r_rI0 ?_ | with_reducible refine r_rU ?_ | with_reducible refine r_addI ?_ | with_reducible refine r_eqI ?_ | with_reducible refine r_neI ?_ | with_reducible refine r_eqB ?_ | with_reducible refine r_neB ?_ | with_reducible refine r_isB ?_ | with_reducible refine r_isnotB ?_
  | ((with_reducible apply r_lenI); walk_at "ft") | ((with_reducible apply r_lenD); walk_at "ft")
  | ((with_reducible apply r_eqL); walk_at "ft"; walk_at "ft") | ((with_reducible apply r_neL); walk_at "ft"; walk_at "ft")
  | ((with_reducible apply r_inI); walk_at "ft") | ((with_reducible apply r_notInI); walk_at "ft")
  | ((with_reducible apply r_slNeg1); walk_at "ft") | ((with_reducible apply r_slTo); walk_at "ft"; (focus walk_at "nn")) | ((with_reducible apply r_slFrom); walk_at "ft"; (focus walk_at "nn")) | ((with_reducible apply r_slMid); walk_at "ft"; (focus walk_at "nn"); (focus walk_at "nn"))
  | ((with_reducible apply r_lofI); walk_at "ft") | with_reducible refine r_new0 ?_ | with_reducible refine r_new1 ?_ | with_reducible refine r_new2 ?_ | with_reducible refine r_new3 ?_ | with_reducible refine r_new4 ?_ | with_reducible refine r_new5 ?_
  | ((with_reducible apply r_rev); walk_at "ft") | ((with_reducible apply r_ev); walk_at "ft") | ((with_reducible apply r_od); walk_at "ft")
  | ((with_reducible apply r_AtM); walk_at "ft")
  | with_reducible refine r_dget2 ?_ | ((with_reducible apply r_AtD2); walk_at "ft") | ((with_reducible apply r_DG2); walk_at "ft") | with_reducible refine r_dput ?_ | with_reducible refine r_dnewK ?_ | with_reducible refine r_par ?_ | ((with_reducible refine r_Par2 ?_); dsimp only [List.set])
  | ((with_reducible apply r_isi_tt); (focus walk_at "ft"))
  | with_reducible refine r_isi_ii ?_ | with_reducible refine r_isi_ib ?_ | ((with_reducible apply r_isi_ll); walk_at "ft")
  | ((with_reducible apply r_sum); walk_at "ft") | ((with_reducible apply r_ixLit); (focus walk_at "ft"); (focus rfl))
  | ((with_reducible refine r_eiL ?_); (with_reducible refine r_meth ?_); ((with_reducible show tVar _ _ _ _); refine r_var rfl ?_); ((with_reducible apply r_AtMe); (focus walk_at "ft"); (focus first | with_reducible assumption | rfl))) | with_reducible refine r_eiR ?_
  | ((with_reducible apply r_any3F); (focus walk_at "ft")) | ((with_reducible apply r_any2F); (focus walk_at "ft"))
  | with_reducible refine r_max2 ?_ | with_reducible refine r_par3 ?_ | ((with_reducible refine r_Par3 ?_); dsimp only [List.set])
  | with_reducible refine r_din ?_ | with_reducible refine r_dnotin ?_ | with_reducible refine r_dnewT ?_
  | with_reducible refine r_gsub ?_ | with_reducible refine r_lr1 ?_ | with_reducible refine r_lr2 ?_
  | with_reducible refine r_fld ?_ | ((with_reducible apply r_AtF); (focus walk_at "ft"); (focus assumption); (focus assumption); (focus first | with_reducible assumption | rfl)) | with_reducible refine r_sfld ?_ | ((with_reducible apply r_SetF); (focus walk_at "ft"); (focus assumption); (focus assumption); (focus first | (show _ < 1000; decide) | exact (show 1 < 1000 by decide) | exact (show 2 < 1000 by decide) | exact (show 3 < 1000 by decide)))
  | with_reducible refine r_meth ?_ | ((with_reducible apply r_AtMe); (focus walk_at "ft"); (focus first | with_reducible assumption | rfl)) | with_reducible refine r_make ?_ | ((with_reducible apply r_isi_cls); (focus walk_at "ft"); (focus assumption); (focus assumption))
  | with_reducible refine r_iRng3 ?_ | ((with_reducible show tAug _ _ _ _ _ _); refine r_aug rfl ?_; dsimp only [List.set]) | with_reducible refine r_ipI ?_ | with_reducible refine r_augS ?_
  | with_reducible refine r_gCons ?_ | with_reducible refine r_gNil ?_ | ((with_reducible apply r_gTup); walk_at "ft"; rfl))
local macro_rules | `(tactic| walk_at "rd") => `(tactic| repeat walk_at "rd1")

abbrev s_is_whole : Stmt := body.getD 4 (.Pass ⟨0, 0, 0, 0⟩)
abbrev N_is_whole : List Str := ["value"]
abbrev P_is_whole : List Str := ["value"]
theorem sc_is_whole : FnScope N_is_whole P_is_whole (defScope s_is_whole) := ⟨rfl, rfl, rfl, by decide, rfl, by decide, by decide⟩
section
variable {P : Program} {w : World} {K : PySem.W.Frag} {mg : Str → Option Value} {base : Heap} {f : Addr} {fd : FuncData}
def sp_is_whole : Sp := fun vs H Q _ => ∃ z : Int, vs = [.int z] ∧ Q (.bl true) H
theorem ok_is_whole (F : Fun K "is_whole" "is_whole" s_is_whole f fd) (T : Blt mg) : FnOk P w K mg base CX0 1 f fd P_is_whole sp_is_whole := by
  refine F.ok sc_is_whole (fun vs H Q E h => ?_) (fun cdv A outer s H vs Q E hr h => ?_)
  · obtain ⟨_, rfl, _⟩ := h
    rfl
  · obtain ⟨z, rfl, k⟩ := h
    have nd := sc_is_whole.nd
    have hu := hr.units
    refine ⟨_, (pss_one (ps_ret (pe_and (pe_callB call_isinst rfl T.no_isinstance boot_isinstance (pa_cons (pv 0) (pa_cons (pe_bty rfl T.no_int boot_int) pa_nil))) (pe_one (pe_not (pe_callB call_isinst rfl T.no_isinstance boot_isinstance (pa_cons (pv 0) (pa_cons (pe_bty rfl T.no_bool boot_bool) pa_nil)))))))), ?_⟩
    try simp only [show (cxOf CX0 P w K mg base N_is_whole "is_whole" (defScope s_is_whole) f cdv A outer s H E).nox.K = K from rfl, show (cxOf CX0 P w K mg base N_is_whole "is_whole" (defScope s_is_whole) f cdv A outer s H E).K = K from rfl]
    rw [show L2.start N_is_whole [V.int z] = [some (V.int z)] from rfl]
    walk_at "rd"
    exact k
end

abbrev s_is_row : Stmt := body.getD 6 (.Pass ⟨0, 0, 0, 0⟩)
abbrev N_is_row : List Str := ["value"]
abbrev P_is_row : List Str := ["value"]
theorem sc_is_row : FnScope N_is_row P_is_row (defScope s_is_row) := ⟨rfl, rfl, rfl, by decide, rfl, by decide, by decide⟩
section
variable {P : Program} {w : World} {K : PySem.W.Frag} {mg : Str → Option Value} {base : Heap} {f f2 : Addr} {fd fd2 : FuncData}
def sp_is_row : Sp := fun vs H Q _ => ∃ (a : Addr) (ns : List Int), vs = [.ref a] ∧ H a = some (.lst (ns.map V.int)) ∧ ns.length ≤ 1000000 ∧ ∀ H', Same H H' → Q (.bl true) H'
theorem ok_is_row (F : Fun K "is_row" "is_row" s_is_row f fd) (T : Blt mg) (C_is_whole : Cal K mg "is_whole" f2 fd2 P_is_whole) (G_is_whole : FnOk P w K mg base CX0 1 f2 fd2 P_is_whole sp_is_whole) : FnOk P w K mg base CX0 2 f fd P_is_row sp_is_row := by
  refine F.ok sc_is_row (fun vs H Q E h => ?_) (fun cdv A outer s H vs Q E hr h => ?_)
  · obtain ⟨_, _, rfl, _⟩ := h
    rfl
  · obtain ⟨a, ns, rfl, ha, hn, k⟩ := h
    have nd := sc_is_row.nd
    have hu := hr.units
    refine ⟨_, (pss_one (ps_ret (pe_and (pe_callB call_isinst rfl T.no_isinstance boot_isinstance (pa_cons (pv 0) (pa_cons (pe_bty rfl T.no_list boot_list) pa_nil))) (pe_one (pe_callB (call_allB rfl) rfl T.no_all boot_all (pa_cons (pe_comp (N := ["sign"]) (k := 1) (caps := []) (Block.of (by kernel_rfl)) rfl (pi_list (pv 0)) (fun _ _ _ _ => ⟨_, (pg_name (i := 0) (by show List.Nodup (["sign"] : List Str); decide) rfl (by first | exact Or.inl rfl | exact Or.inr rfl)), by walk_at "ce"⟩) (fun _ _ _ _ => ⟨_, PIfs.none, by walk_at "ce"⟩) (fun _ _ _ _ => ⟨_, (pe_call G_is_whole (hr.mono (by decide)) rfl C_is_whole.mg C_is_whole.kp C_is_whole.b .nil pass0 (pa_cons (pv 0) pa_nil)), by walk_at "ce"⟩)) pa_nil)))))), ?_⟩
    try simp only [show (cxOf CX0 P w K mg base N_is_row "is_row" (defScope s_is_row) f cdv A outer s H E).nox.K = K from rfl, show (cxOf CX0 P w K mg base N_is_row "is_row" (defScope s_is_row) f cdv A outer s H E).K = K from rfl]
    rw [show L2.start N_is_row [V.ref a] = [some (V.ref a)] from rfl]
    walk_at "rd"
    refine comp_map (ov_ints (ns := ns)) (fun _ => .bl true) (fun H' s' => s'.seq (SqL.of ha)) hn ?_ ?_
    · rintro i z x H3 H4 R R' hi s3 ⟨rfl, rfl⟩ h1
      walk_at "rd"
      refine ⟨⟨rfl, rfl⟩, ?_⟩
      walk_at "rd"
      exact ⟨z, rfl, h1 _ (Same.refl _)⟩
    · intro D H' hD s' hd
      walk_at "rd"
      refine ⟨D, ns.map (fun _ => true), rfl, SqL.of ?_, ?_⟩
      · rw [hd]
        rw [List.map_map]; rfl
      · rw [all_true]
        exact k _ s'
end

abbrev s_checked_row : Stmt := body.getD 7 (.Pass ⟨0, 0, 0, 0⟩)
abbrev N_checked_row : List Str := ["value"]
abbrev P_checked_row : List Str := ["value"]
theorem sc_checked_row : FnScope N_checked_row P_checked_row (defScope s_checked_row) := ⟨rfl, rfl, rfl, by decide, rfl, by decide, by decide⟩
section
variable {P : Program} {w : World} {K : PySem.W.Frag} {mg : Str → Option Value} {base : Heap} {f f2 : Addr} {fd fd2 : FuncData}
def sp_checked_row : Sp := fun vs H Q _ => ∃ (a : Addr) (ns : List Int), vs = [.ref a] ∧ H a = some (.lst (ns.map V.int)) ∧ ns.length ≤ 1000000 ∧ ∀ p H', H p = none → Same H H' → H' p = some (.lst (ns.map V.int)) → Q (.ref p) H'
theorem ok_checked_row (F : Fun K "checked_row" "checked_row" s_checked_row f fd) (T : Blt mg) (C_is_row : Cal K mg "is_row" f2 fd2 P_is_row) (G_is_row : FnOk P w K mg base CX0 2 f2 fd2 P_is_row sp_is_row) : FnOk P w K mg base CX0 3 f fd P_checked_row sp_checked_row := by
  refine F.ok sc_checked_row (fun vs H Q E h => ?_) (fun cdv A outer s H vs Q E hr h => ?_)
  · obtain ⟨_, _, rfl, _⟩ := h
    rfl
  · obtain ⟨a, ns, rfl, ha, hn, k⟩ := h
    have nd := sc_checked_row.nd
    have hu := hr.units
    refine ⟨_, (pss_cons (ps_if (pt_not (pt_val (pe_call G_is_row (hr.mono (by decide)) rfl C_is_row.mg C_is_row.kp C_is_row.b .nil pass0 (pa_cons (pv 0) pa_nil)))) (pss_one ps_never) pss_nil)
     (pss_one (ps_ret (pe_callTy call_listOf rfl T.no_list boot_list (pa_cons (pv 0) pa_nil))))), ?_⟩
    try simp only [show (cxOf CX0 P w K mg base N_checked_row "checked_row" (defScope s_checked_row) f cdv A outer s H E).nox.K = K from rfl, show (cxOf CX0 P w K mg base N_checked_row "checked_row" (defScope s_checked_row) f cdv A outer s H E).K = K from rfl]
    rw [show L2.start N_checked_row [V.ref a] = [some (V.ref a)] from rfl]
    walk_at "rd"
    refine ⟨a, ns, rfl, ha, hn, fun H1 s1 => ?_⟩
    walk_at "rd"
    intro p hp
    walk_at "rd"
    exact k p _ (by walk_at "fr") (by walk_at "sm") (by walk_at "ft")
end

abbrev s_are_places : Stmt := body.getD 8 (.Pass ⟨0, 0, 0, 0⟩)
abbrev N_are_places : List Str := ["places", "count", "ahead", "place"]
abbrev P_are_places : List Str := ["places", "count"]
theorem sc_are_places : FnScope N_are_places P_are_places (defScope s_are_places) := ⟨rfl, rfl, rfl, by decide, rfl, by decide, by decide⟩
section
variable {P : Program} {w : World} {K : PySem.W.Frag} {mg : Str → Option Value} {base : Heap} {f f2 : Addr} {fd fd2 : FuncData}
def sp_are_places : Sp := fun vs H Q _ => ∃ (a : Addr) (ns : List Int) (count : Int), vs = [.ref a, .int count] ∧ H a = some (.lst (ns.map V.int)) ∧ ns.length ≤ 1000000 ∧ ∀ H', Same H H' → Q (.bl (Lf.rising (-1) count ns)) H'
theorem ok_are_places (F : Fun K "are_places" "are_places" s_are_places f fd) (T : Blt mg) (C_is_row : Cal K mg "is_row" f2 fd2 P_is_row) (G_is_row : FnOk P w K mg base CX0 2 f2 fd2 P_is_row sp_is_row) : FnOk P w K mg base CX0 3 f fd P_are_places sp_are_places := by
  refine F.ok sc_are_places (fun vs H Q E h => ?_) (fun cdv A outer s H vs Q E hr h => ?_)
  · obtain ⟨_, _, _, rfl, _⟩ := h
    rfl
  · obtain ⟨a, ns, count, rfl, ha, hn, k⟩ := h
    have nd := sc_are_places.nd
    have hu := hr.units
    refine ⟨_, (pss_cons (ps_if (pt_not (pt_val (pe_call G_is_row (hr.mono (by decide)) rfl C_is_row.mg C_is_row.kp C_is_row.b .nil pass0 (pa_cons (pv 0) pa_nil)))) (pss_one (ps_ret pe_bl)) pss_nil)
     (pss_cons (ps_set (i := 2) nd rfl (by first | exact Or.inl rfl | exact Or.inr rfl) (pe_un un_neg pe_int))
     (pss_cons (ps_for PassesOwn.never rfl (pi_list (pv 0)) (pg_name (i := 3) nd rfl (by first | exact Or.inl rfl | exact Or.inr rfl)) (pss_cons (ps_if (PW.pt (pw_or (pt_cmpR op_le (pv 3) (pv 2) (nomark _)) (pw_or1 (pt_cmpR op_ge (pv 3) (pv 1) (nomark _))))) (pss_one (ps_ret pe_bl)) pss_nil)
     (pss_one (ps_set (i := 2) nd rfl (by first | exact Or.inl rfl | exact Or.inr rfl) (pv 3)))))
     (pss_one (ps_ret pe_bl))))), ?_⟩
    try simp only [show (cxOf CX0 P w K mg base N_are_places "are_places" (defScope s_are_places) f cdv A outer s H E).nox.K = K from rfl, show (cxOf CX0 P w K mg base N_are_places "are_places" (defScope s_are_places) f cdv A outer s H E).K = K from rfl]
    rw [show L2.start N_are_places [V.ref a, V.int count] = [some (V.ref a), some (V.int count), none, none] from rfl]
    walk_at "rd"
    refine ⟨a, ns, rfl, ha, hn, fun H1 s1 => ?_⟩
    walk_at "rd"
    refine for_by (ov_ints (ns := ns)) (fun i σ H2 => ∃ (ahead : Int) (v3 : Option V), σ = [some (V.ref a), some (V.int count), some (V.int ahead), v3] ∧ Same H H2 ∧ Lf.rising (-1) count ns = Lf.rising ahead count (ns.drop i)) ?_ ?_ ?_ ?_
    · exact ⟨-1, _, rfl, s1, rfl⟩
    · rintro i σ H2 _ ⟨_, _, _, s2, _⟩
      exact SqL.of (s2.at ha)
    · rintro i z x σ H2 H3 hy ⟨ahead, v3, rfl, s2, inv⟩ ⟨rfl, rfl⟩
      have step : Lf.rising ahead count (ns.drop i) = (decide (ahead < z) && decide (z < count) && Lf.rising z count (ns.drop (i + 1))) := by
        obtain ⟨l1, e1⟩ := List.getElem?_eq_some_iff.mp hy
        rw [List.drop_eq_getElem_cons l1, e1]; rfl
      walk_at "rd"
      refine iteD (fun h1 => ?_) (fun h1 => ?_)
      · walk_at "rd"
        have e : Lf.rising (-1) count ns = false := by rw [inv, step, decide_eq_false (by omega)]; rfl
        rw [← e]
        exact k _ s2
      · walk_at "rd"
        refine iteD (fun h2 => ?_) (fun h2 => ?_)
        · walk_at "rd"
          have e : Lf.rising (-1) count ns = false := by rw [inv, step, decide_eq_false (p := z < count) (by omega), Bool.and_false]; rfl
          rw [← e]
          exact k _ s2
        · walk_at "rd"
          refine ⟨z, _, rfl, s2, ?_⟩
          rw [inv, step, decide_eq_true (p := ahead < z) (by omega), decide_eq_true (p := z < count) (by omega)]
          rfl
    · rintro σ H2 ⟨ahead, v3, rfl, s2, inv⟩
      walk_at "rd"
      have e : Lf.rising (-1) count ns = true := by rw [inv, List.drop_length]; rfl
      rw [← e]
      exact k _ s2
end

abbrev s_signs_at : Stmt := body.getD 9 (.Pass ⟨0, 0, 0, 0⟩)
abbrev N_signs_at : List Str := ["row", "places"]
abbrev P_signs_at : List Str := ["row", "places"]
theorem sc_signs_at : FnScope N_signs_at P_signs_at (defScope s_signs_at) := ⟨rfl, rfl, rfl, by decide, rfl, by decide, by decide⟩
section
variable {P : Program} {w : World} {K : PySem.W.Frag} {mg : Str → Option Value} {base : Heap} {f : Addr} {fd : FuncData}
def sp_signs_at (K : PySem.W.Frag) : Sp := fun vs H Q _ => ∃ (a c : Addr) (row ps : List Int), vs = [.ref a, .ref c] ∧ SqL K H a (row.map V.int) ∧ SqL K H c (ps.map V.int) ∧ (∀ p ∈ ps, 0 ≤ p ∧ p < (row.length : Int)) ∧ ps.length ≤ 1000000 ∧ ∀ p H', H p = none → Same H H' → H' p = some (.lst ((Lf.picks row ps).map V.int)) → Q (.ref p) H'
theorem ok_signs_at (F : Fun K "signs_at" "signs_at" s_signs_at f fd) (T : Blt mg) : FnOk P w K mg base CX0 1 f fd P_signs_at (sp_signs_at K) := by
  refine F.ok sc_signs_at (fun vs H Q E h => ?_) (fun cdv A outer s H vs Q E hr h => ?_)
  · obtain ⟨_, _, _, _, rfl, _⟩ := h
    rfl
  · obtain ⟨a, c, row, ps, rfl, ha, hc, hin, hn, k⟩ := h
    have nd := sc_signs_at.nd
    have hu := hr.units
    refine ⟨_, (pss_one (ps_ret (pe_comp (N := ["place", "row"]) (k := 1) (caps := [0]) (Block.of (by kernel_rfl)) rfl (pi_list (pv 1)) (fun _ _ _ _ => ⟨_, (pg_name (i := 0) (by show List.Nodup (["place", "row"] : List Str); decide) rfl (by first | exact Or.inl rfl | exact Or.inr rfl)), by walk_at "ce"⟩) (fun _ _ _ _ => ⟨_, PIfs.none, by walk_at "ce"⟩) (fun _ _ _ _ => ⟨_, (pe_ix ix_G (pv 1) (pv 0) (fun _ _ => rfl)), by walk_at "ce"⟩)))), ?_⟩
    try simp only [show (cxOf CX0 P w K mg base N_signs_at "signs_at" (defScope s_signs_at) f cdv A outer s H E).nox.K = K from rfl, show (cxOf CX0 P w K mg base N_signs_at "signs_at" (defScope s_signs_at) f cdv A outer s H E).K = K from rfl]
    rw [show L2.start N_signs_at [V.ref a, V.ref c] = [some (V.ref a), some (V.ref c)] from rfl]
    walk_at "rd"
    refine comp_mapI (ov_ints (ns := ps)) (fun p => row.getD p.toNat 0) (fun H' s' => s'.seq hc) hn ?_ ?_
    · rintro i z x H3 H4 R R' hi s3 ⟨rfl, rfl⟩ h1
      obtain ⟨b1, b2⟩ := hin z (List.mem_of_getElem? hi)
      walk_at "rd"
      refine ⟨⟨rfl, rfl⟩, ?_⟩
      walk_at "rd"
      refine r_ixI (by walk_at "ft") b1 b2 ?_
      exact h1 _ (Same.refl _)
    · intro D H' hD s' hd
      walk_at "rd"
      exact k D H' hD s' hd
end

abbrev s_stands_at : Stmt := body.getD 10 (.Pass ⟨0, 0, 0, 0⟩)
abbrev N_stands_at : List Str := ["row", "other", "places"]
abbrev P_stands_at : List Str := ["row", "other", "places"]
theorem sc_stands_at : FnScope N_stands_at P_stands_at (defScope s_stands_at) := ⟨rfl, rfl, rfl, by decide, rfl, by decide, by decide⟩
section
variable {P : Program} {w : World} {K : PySem.W.Frag} {mg : Str → Option Value} {base : Heap} {f f2 f3 : Addr} {fd fd2 fd3 : FuncData}
def sp_stands_at (K : PySem.W.Frag) : Sp := fun vs H Q _ => ∃ (a b c : Addr) (row other ps : List Int), vs = [.ref a, .ref b, .ref c] ∧ SqL K H a (row.map V.int) ∧ SqL K H b (other.map V.int) ∧ H c = some (.lst (ps.map V.int)) ∧ ps.length ≤ 1000000 ∧ ∀ H', Same H H' → Q (.bl (Lf.stands row ps other)) H'
theorem ok_stands_at (F : Fun K "stands_at" "stands_at" s_stands_at f fd) (T : Blt mg) (C_are_places : Cal K mg "are_places" f2 fd2 P_are_places) (G_are_places : FnOk P w K mg base CX0 3 f2 fd2 P_are_places sp_are_places)
    (C_signs_at : Cal K mg "signs_at" f3 fd3 P_signs_at) (G_signs_at : FnOk P w K mg base CX0 3 f3 fd3 P_signs_at (sp_signs_at K)) : FnOk P w K mg base CX0 4 f fd P_stands_at (sp_stands_at K) := by
  refine F.ok sc_stands_at (fun vs H Q E h => ?_) (fun cdv A outer s H vs Q E hr h => ?_)
  · obtain ⟨_, _, _, _, _, _, rfl, _⟩ := h
    rfl
  · obtain ⟨a, b, c, row, other, ps, rfl, ha, hb, hc, hn, k⟩ := h
    have nd := sc_stands_at.nd
    have hu := hr.units
    refine ⟨_, (pss_one (ps_ret (pe_and (pe_call G_are_places (hr.mono (by decide)) rfl C_are_places.mg C_are_places.kp C_are_places.b .nil pass0 (pa_cons (pv 2) (pa_cons (pe_callB len_G rfl T.no_len boot_len (pa_cons (pv 0) pa_nil)) pa_nil))) (pe_one (pe_cmpR (op_eqG hu) (pe_call G_signs_at (hr.mono (by decide)) rfl C_signs_at.mg C_signs_at.kp C_signs_at.b .nil pass0 (pa_cons (pv 0) (pa_cons (pv 2) pa_nil))) (pv 1) (nomark _)))))), ?_⟩
    try simp only [show (cxOf CX0 P w K mg base N_stands_at "stands_at" (defScope s_stands_at) f cdv A outer s H E).nox.K = K from rfl, show (cxOf CX0 P w K mg base N_stands_at "stands_at" (defScope s_stands_at) f cdv A outer s H E).K = K from rfl]
    rw [show L2.start N_stands_at [V.ref a, V.ref b, V.ref c] = [some (V.ref a), some (V.ref b), some (V.ref c)] from rfl]
    walk_at "rd"
    refine ⟨c, ps, row.length, rfl, hc, hn, fun H1 s1 => ?_⟩
    rw [Lf.stands_picks] at k
    walk_at "rd"
    refine iteB (fun h1 => ?_) (fun h1 => ?_)
    · walk_at "rd"
      refine ⟨a, c, row, ps, rfl, s1.seq ha, SqL.of (s1.at hc), fun p hp => ?_, hn, fun d H2 hd s2 h2 => ?_⟩
      · have := Lf.rising_in ps _ _ h1 p hp
        omega
      have hb2 : SqL K H2 b (other.map V.int) := (s1.trans s2).seq hb
      walk_at "rd"
      rw [h1, Bool.true_and] at k
      exact k _ (s1.trans s2)
    · walk_at "rd"
      rw [h1, Bool.false_and] at k
      exact k _ s1
end

abbrev s_bound : Stmt := body.getD 18 (.Pass ⟨0, 0, 0, 0⟩)
abbrev N_bound : List Str := ["table", "one", "other", "mine", "theirs", "bounds"]
abbrev P_bound : List Str := ["table", "one", "other", "mine", "theirs"]
theorem sc_bound : FnScope N_bound P_bound (defScope s_bound) := ⟨rfl, rfl, rfl, by decide, rfl, by decide, by decide⟩
section
variable {P : Program} {w : World} {K : PySem.W.Frag} {mg : Str → Option Value} {base : Heap} {f : Addr} {fd : FuncData}
def sp_bound (K : PySem.W.Frag) : Sp := fun vs H Q _ => ∃ (t a b : Addr) (ls : List Addr) (tb : List (List Int)) (one other : List Int) (i j : Nat), vs = [.ref t, .ref a, .ref b, .int i, .int j] ∧ Tab H t ls tb ∧ SqL K H a (one.map V.int) ∧ SqL K H b (other.map V.int) ∧ i < tb.length ∧ i ≤ one.length ∧ j ≤ other.length ∧ (0 < i → j < (tb.getD (i - 1) []).length) ∧ (0 < j → j - 1 < (tb.getD i []).length) ∧
  ∀ H', Same H H' → Q (.int (Lf.bnd one other tb i j)) H'
theorem ok_bound (F : Fun K "bound" "bound" s_bound f fd) (T : Blt mg) : FnOk P w K mg base CX0 1 f fd P_bound (sp_bound K) := by
  refine F.ok sc_bound (fun vs H Q E h => ?_) (fun cdv A outer s H vs Q E hr h => ?_)
  · obtain ⟨_, _, _, _, _, _, _, _, _, rfl, _⟩ := h
    rfl
  · obtain ⟨t, a, b, ls, tb, one, other, i, j, rfl, hT, ha, hb, hi, hi1, hj1, hu1, hl1, k⟩ := h
    have nd := sc_bound.nd
    have hu := hr.units
    have ei1 : 0 < i → ((i : Int) - 1).toNat = i - 1 := fun _ => by omega
    have ej1 : 0 < j → ((j : Int) - 1).toNat = j - 1 := fun _ => by omega
    refine ⟨_, (pss_cons (ps_set (i := 5) nd rfl (by first | exact Or.inl rfl | exact Or.inr rfl) (pe_lst (pa_cons pe_int pa_nil)))
     (pss_cons (ps_if (pt_cmpR op_gt (pv 3) pe_int (nomark _)) (pss_one (ps_expr (pe_bm PySem.F.plainAttrs_list PySem.F.slot_list_append PySem.F.type_list_append mr_append (pv 5) (pa_cons (pe_ix ix_G (pe_ix ix_G (pv 0) (pe_op op_sub (pv 3) pe_int) (fun _ _ => rfl)) (pv 4) (fun _ _ => rfl)) pa_nil)))) pss_nil)
     (pss_cons (ps_if (pt_cmpR op_gt (pv 4) pe_int (nomark _)) (pss_one (ps_expr (pe_bm PySem.F.plainAttrs_list PySem.F.slot_list_append PySem.F.type_list_append mr_append (pv 5) (pa_cons (pe_ix ix_G (pe_ix ix_G (pv 0) (pv 3) (fun _ _ => rfl)) (pe_op op_sub (pv 4) pe_int) (fun _ _ => rfl)) pa_nil)))) pss_nil)
     (pss_cons (ps_if (PW.pt (pw_and (pt_cmpR op_gt (pv 3) pe_int (nomark _)) (pw_and (pt_cmpR op_gt (pv 4) pe_int (nomark _)) (pw_and1 (pt_cmpR (op_eqG hu) (pe_ix ix_G (pv 1) (pe_op op_sub (pv 3) pe_int) (fun _ _ => rfl)) (pe_ix ix_G (pv 2) (pe_op op_sub (pv 4) pe_int) (fun _ _ => rfl)) (nomark _)))))) (pss_one (ps_expr (pe_bm PySem.F.plainAttrs_list PySem.F.slot_list_append PySem.F.type_list_append mr_append (pv 5) (pa_cons (pe_op op_addG (pe_ix ix_G (pe_ix ix_G (pv 0) (pe_op op_sub (pv 3) pe_int) (fun _ _ => rfl)) (pe_op op_sub (pv 4) pe_int) (fun _ _ => rfl)) pe_int) pa_nil)))) pss_nil)
     (pss_one (ps_ret (pe_callB (call_maxI rfl) rfl T.no_max boot_max (pa_cons (pv 5) pa_nil)))))))), ?_⟩
    try simp only [show (cxOf CX0 P w K mg base N_bound "bound" (defScope s_bound) f cdv A outer s H E).nox.K = K from rfl, show (cxOf CX0 P w K mg base N_bound "bound" (defScope s_bound) f cdv A outer s H E).K = K from rfl]
    rw [show L2.start N_bound [V.ref t, V.ref a, V.ref b, V.int i, V.int j] = [some (V.ref t), some (V.ref a), some (V.ref b), some (V.int i), some (V.int j), none] from rfl]
    walk_at "rd"
    intro c hc
    have h0 : Same H (upd H c (.lst ((([0] : List Int)).map V.int))) := Same.upd_new hc
    have c0 : (upd H c (.lst ((([0] : List Int)).map V.int))) c = some (.lst ((([0] : List Int)).map V.int)) := upd_same
    generalize upd H c (.lst ((([0] : List Int)).map V.int)) = H0 at h0 c0 ⊢
    walk_at "rd1"
    refine r_seqC (fun H' => Same H H' ∧ H' c = some (.lst (([0] ++ (if 0 < i then [Lf.tg tb (i - 1) j] else [])).map V.int))) (fun N hN => ?_) ?_
    · walk_at "rd"
      refine iteD (fun h1 => ?_) (fun h1 => ?_)
      · walk_at "rd"
        refine r_ixTab (hT.same h0) (by omega) (by omega) (fun l1 e1 hl => ?_)
        rw [ei1 (by omega)] at hl
        have := hu1 (by omega)
        walk_at "rd"
        refine r_ixI (SqL.of hl) (by omega) (by omega) ?_
        rw [Int.toNat_natCast, tg_of]
        walk_at "rd"
        refine r_appI c0 (by simp) ?_
        walk_at "rd"
        refine hN _ ⟨by walk_at "sm", ?_⟩
        rw [if_pos (by omega)]
        exact upd_same
      · walk_at "rd"
        refine hN _ ⟨h0, ?_⟩
        rw [if_neg (by omega)]
        exact c0
    clear h0 c0 H0
    rintro H1 ⟨s1, c1⟩
    refine r_seqC (fun H' => Same H H' ∧ H' c = some (.lst (([0] ++ (if 0 < i then [Lf.tg tb (i - 1) j] else []) ++ (if 0 < j then [Lf.tg tb i (j - 1)] else [])).map V.int))) (fun N hN => ?_) ?_
    · walk_at "rd"
      refine iteD (fun h1 => ?_) (fun h1 => ?_)
      · walk_at "rd"
        refine r_ixTab (hT.same s1) (by omega) (by omega) (fun l1 e1 hl => ?_)
        rw [Int.toNat_natCast] at hl
        have := hl1 (by omega)
        walk_at "rd"
        refine r_ixI (SqL.of hl) (by omega) (by omega) ?_
        rw [ej1 (by omega), tg_of]
        walk_at "rd"
        refine r_appI c1 (by split <;> simp) ?_
        walk_at "rd"
        refine hN _ ⟨by walk_at "sm", ?_⟩
        rw [if_pos (by omega : 0 < j)]
        exact upd_same
      · walk_at "rd"
        refine hN _ ⟨s1, ?_⟩
        rw [if_neg (by omega : ¬ 0 < j), List.append_nil]
        exact c1
    clear s1 c1 H1
    rintro H1 ⟨s1, c1⟩
    refine r_seqC (fun H' => Same H H' ∧ H' c = some (.lst ((Lf.bnds one other tb i j).map V.int))) (fun N hN => ?_) ?_
    · have no : ¬ (0 < i ∧ 0 < j ∧ one.getD (i - 1) 0 = other.getD (j - 1) 0) → N [some (.ref t), some (.ref a), some (.ref b), some (.int i), some (.int j), some (.ref c)] H1 := fun z => by
        refine hN _ ⟨s1, ?_⟩
        unfold Lf.bnds
        rw [if_neg z, List.append_nil]
        exact c1
      have ha1 := s1.seq ha
      have hb1 := s1.seq hb
      walk_at "rd"
      refine iteD (fun h1 => ?_) (fun h1 => ?_)
      rotate_left
      · walk_at "rd"
        exact no fun z => by omega
      walk_at "rd"
      refine iteD (fun h2 => ?_) (fun h2 => ?_)
      rotate_left
      · walk_at "rd"
        exact no fun z => by omega
      walk_at "rd"
      refine r_ixI ha1 (by omega) (by omega) ?_
      walk_at "rd"
      refine r_ixI hb1 (by omega) (by omega) ?_
      rw [ei1 (by omega), ej1 (by omega)]
      walk_at "rd"
      refine iteD (fun h3 => ?_) (fun h3 => ?_)
      · walk_at "rd"
        refine r_ixTab (hT.same s1) (by omega) (by omega) (fun l1 e1 hl => ?_)
        rw [ei1 (by omega)] at hl
        have := hu1 (by omega)
        walk_at "rd"
        refine r_ixI (SqL.of hl) (by omega) (by omega) ?_
        rw [ej1 (by omega), tg_of]
        walk_at "rd"
        refine r_appI c1 (by split <;> split <;> simp) ?_
        walk_at "rd"
        refine hN _ ⟨by walk_at "sm", ?_⟩
        unfold Lf.bnds
        rw [if_pos (⟨by omega, by omega, h3⟩ : 0 < i ∧ 0 < j ∧ one.getD (i - 1) 0 = other.getD (j - 1) 0)]
        exact upd_same
      · walk_at "rd"
        exact no fun z => h3 z.2.2
    clear s1 c1 H1
    rintro H1 ⟨s1, c1⟩
    walk_at "rd"
    refine r_maxI (SqL.of c1) Lf.bnd_mem (fun _ => Lf.bnd_le) ?_
    exact k _ s1
end

abbrev s_has_lengths : Stmt := body.getD 19 (.Pass ⟨0, 0, 0, 0⟩)
abbrev N_has_lengths : List Str := ["table", "one", "other"]
abbrev P_has_lengths : List Str := ["table", "one", "other"]
theorem sc_has_lengths : FnScope N_has_lengths P_has_lengths (defScope s_has_lengths) := ⟨rfl, rfl, rfl, by decide, rfl, by decide, by decide⟩
abbrev s_is_table : Stmt := body.getD 20 (.Pass ⟨0, 0, 0, 0⟩)
abbrev N_is_table : List Str := ["table", "one", "other", "mine", "line", "theirs", "number"]
abbrev P_is_table : List Str := ["table", "one", "other"]
theorem sc_is_table : FnScope N_is_table P_is_table (defScope s_is_table) := ⟨rfl, rfl, rfl, by decide, rfl, by decide, by decide⟩
section
variable {P : Program} {w : World} {K : PySem.W.Frag} {mg : Str → Option Value} {base : Heap} {f f2 f3 : Addr} {fd fd2 fd3 : FuncData}
def sp_has_lengths : Sp := fun vs H Q _ => ∃ (t a b : Addr) (ls : List Addr) (tb : List (List Int)) (one other : List Int), vs = [.ref t, .ref a, .ref b] ∧ Tab H t ls tb ∧ H a = some (.lst (one.map V.int)) ∧ H b = some (.lst (other.map V.int)) ∧ tb.length ≤ 1000 ∧ (∀ i, i < tb.length → (tb.getD i []).length ≤ 1000) ∧
  ∀ H', Same H H' → Q (.bl (decide (tb.length = one.length + 1 ∧ ∀ line ∈ tb, line.length = other.length + 1))) H'
theorem ok_has_lengths (F : Fun K "has_lengths" "has_lengths" s_has_lengths f fd) (T : Blt mg) (C_is_row : Cal K mg "is_row" f2 fd2 P_is_row) (G_is_row : FnOk P w K mg base CX0 2 f2 fd2 P_is_row sp_is_row) : FnOk P w K mg base CX0 3 f fd P_has_lengths sp_has_lengths := by
  refine F.ok sc_has_lengths (fun vs H Q E h => ?_) (fun cdv A outer s H vs Q E hr h => ?_)
  · obtain ⟨_, _, _, _, _, _, _, rfl, _⟩ := h
    rfl
  · obtain ⟨t, a, b, ls, tb, one, other, rfl, hT, ha, hb, hn, hm, k⟩ := h
    have nd := sc_has_lengths.nd
    have hu := hr.units
    have lz := hT.len
    have hm' : ∀ line ∈ tb, line.length ≤ 1000 := fun line hl => by
      obtain ⟨i, hi, e⟩ := List.mem_iff_getElem.mp hl
      have := hm i hi
      rw [List.getD_eq_getElem?_getD, List.getElem?_eq_getElem hi] at this
      rw [← e]; exact this
    refine ⟨_, (pss_one (ps_ret (pe_and (pe_cmpR (op_eqG hu) (pe_callB len_G rfl T.no_len boot_len (pa_cons (pv 0) pa_nil)) (pe_op op_addG (pe_callB len_G rfl T.no_len boot_len (pa_cons (pv 1) pa_nil)) pe_int) (nomark _)) (pe_one (pe_callB (call_allB rfl) rfl T.no_all boot_all (pa_cons (pe_comp (N := ["line", "other"]) (k := 1) (caps := [2]) (Block.of (by kernel_rfl)) rfl (pi_list (pv 0)) (fun _ _ _ _ => ⟨_, (pg_name (i := 0) (by show List.Nodup (["line", "other"] : List Str); decide) rfl (by first | exact Or.inl rfl | exact Or.inr rfl)), by walk_at "ce"⟩) (fun _ _ _ _ => ⟨_, PIfs.none, by walk_at "ce"⟩) (fun _ _ _ _ => ⟨_, (pe_and (pe_call G_is_row (hr.mono (by decide)) rfl C_is_row.mg C_is_row.kp C_is_row.b .nil pass0 (pa_cons (pv 0) pa_nil)) (pe_one (pe_cmpR (op_eqG hu) (pe_callB len_G rfl T.no_len boot_len (pa_cons (pv 0) pa_nil)) (pe_op op_addG (pe_callB len_G rfl T.no_len boot_len (pa_cons (pv 1) pa_nil)) pe_int) (nomark _)))), by walk_at "ce"⟩)) pa_nil)))))), ?_⟩
    try simp only [show (cxOf CX0 P w K mg base N_has_lengths "has_lengths" (defScope s_has_lengths) f cdv A outer s H E).nox.K = K from rfl, show (cxOf CX0 P w K mg base N_has_lengths "has_lengths" (defScope s_has_lengths) f cdv A outer s H E).K = K from rfl]
    rw [show L2.start N_has_lengths [V.ref t, V.ref a, V.ref b] = [some (V.ref t), some (V.ref a), some (V.ref b)] from rfl]
    walk_at "rd"
    refine r_lenTab hT ?_
    walk_at "rd"
    refine iteD (fun h1 => ?_) (fun h1 => ?_)
    · walk_at "rd"
      refine r_AtL (SqL.of hT.at_) ?_
      refine comp_map (ov_lines lz) (fun y => .bl (decide (y.2.length = other.length + 1))) (fun H' s' => hT.same s') (by rw [List.length_zip]; omega) ?_ ?_
      · rintro i ⟨l, line⟩ x H3 H4 R R' hi s3 ⟨rfl, rfl, hl⟩ h3
        have ml := hm' line (List.of_mem_zip (List.mem_of_getElem? hi)).2
        walk_at "rd"
        refine ⟨⟨rfl, rfl⟩, ?_⟩
        walk_at "rd"
        refine ⟨l, line, rfl, hl, by omega, fun H5 s5 => ?_⟩
        have hl5 := s5.at hl
        have hb5 := (s3.trans s5).at hb
        walk_at "rd"
        have e : decide ((line.length : Int) = (other.length : Int) + 1) = decide (line.length = other.length + 1) := by
          by_cases q : line.length = other.length + 1
          · rw [decide_eq_true q, decide_eq_true (by omega)]
          · rw [decide_eq_false q, decide_eq_false (by omega)]
        rw [e]
        exact h3 _ s5
      · intro D H' hD s' hd
        walk_at "rd"
        refine r_allM (l := ls.zip tb) (g := fun y => decide (y.2.length = other.length + 1)) (SqL.of hd) ?_
        have e : (ls.zip tb).all (fun y => decide (y.2.length = other.length + 1)) = decide (tb.length = one.length + 1 ∧ ∀ line ∈ tb, line.length = other.length + 1) := by
          have e1 : (ls.zip tb).all (fun y => decide (y.2.length = other.length + 1)) = tb.all fun l => decide (l.length = other.length + 1) := by
            have : tb = (ls.zip tb).map (·.2) := by rw [List.map_snd_zip (by omega)]
            conv => rhs; rw [this]
            rw [List.all_map]; rfl
          rw [e1]
          by_cases q : ∀ line ∈ tb, line.length = other.length + 1
          · rw [decide_eq_true ⟨by omega, q⟩, List.all_eq_true]
            exact fun x hx => decide_eq_true (q x hx)
          · rw [decide_eq_false fun z => q z.2, Bool.eq_false_iff]
            intro z
            rw [List.all_eq_true] at z
            exact q fun x hx => of_decide_eq_true (z x hx)
        rw [e]
        exact k _ s'
    · walk_at "rd"
      rw [decide_eq_false fun z => h1 (by omega)] at k
      exact k _ (Same.refl _)
def sp_is_table : Sp := fun vs H Q _ => ∃ (t a b : Addr) (ls : List Addr) (tb : List (List Int)) (one other : List Int), vs = [.ref t, .ref a, .ref b] ∧ Tab H t ls tb ∧ H a = some (.lst (one.map V.int)) ∧ H b = some (.lst (other.map V.int)) ∧ tb.length ≤ 1000 ∧ (∀ i, i < tb.length → (tb.getD i []).length ≤ 1000) ∧
  ∀ H', Same H H' → Q (.bl (Lf.tab one other tb)) H'
theorem ok_is_table (F : Fun K "is_table" "is_table" s_is_table f fd) (T : Blt mg) (C_has_lengths : Cal K mg "has_lengths" f2 fd2 P_has_lengths) (G_has_lengths : FnOk P w K mg base CX0 3 f2 fd2 P_has_lengths sp_has_lengths)
    (C_bound : Cal K mg "bound" f3 fd3 P_bound) (G_bound : FnOk P w K mg base CX0 3 f3 fd3 P_bound (sp_bound K)) : FnOk P w K mg base CX0 4 f fd P_is_table sp_is_table := by
  refine F.ok sc_is_table (fun vs H Q E h => ?_) (fun cdv A outer s H vs Q E hr h => ?_)
  · obtain ⟨_, _, _, _, _, _, _, rfl, _⟩ := h
    rfl
  · obtain ⟨t, a, b, ls, tb, one, other, rfl, hT, ha, hb, hn, hm, k⟩ := h
    have nd := sc_is_table.nd
    have hu := hr.units
    have lz := hT.len
    have no : ¬ Lf.TabOk one other tb → ∀ H', Same H H' → Q (.bl false) H' := fun h H' s' => by
      have := k H' s'
      rw [Lf.tab_false h] at this
      exact this
    refine ⟨_, (pss_cons (ps_if (pt_not (pt_val (pe_call G_has_lengths (hr.mono (by decide)) rfl C_has_lengths.mg C_has_lengths.kp C_has_lengths.b .nil pass0 (pa_cons (pv 0) (pa_cons (pv 1) (pa_cons (pv 2) pa_nil)))))) (pss_one (ps_ret pe_bl)) pss_nil)
     (pss_cons (ps_for PassesOwn.never rfl (pi_enum rfl T.no_enumerate boot_enumerate (pa_cons (pv 0) pa_nil)) (pg_tup (n := 2) rfl (pgs_cons (pg_name (i := 3) nd rfl (by first | exact Or.inl rfl | exact Or.inr rfl)) (pgs_cons (pg_name (i := 4) nd rfl (by first | exact Or.inl rfl | exact Or.inr rfl)) pgs_nil))) (pss_one (ps_for PassesOwn.never rfl (pi_enum rfl T.no_enumerate boot_enumerate (pa_cons (pv 4) pa_nil)) (pg_tup (n := 2) rfl (pgs_cons (pg_name (i := 5) nd rfl (by first | exact Or.inl rfl | exact Or.inr rfl)) (pgs_cons (pg_name (i := 6) nd rfl (by first | exact Or.inl rfl | exact Or.inr rfl)) pgs_nil))) (pss_one (ps_if (pt_cmpR op_lt (pv 6) (pe_call G_bound (hr.mono (by decide)) rfl C_bound.mg C_bound.kp C_bound.b .nil pass0 (pa_cons (pv 0) (pa_cons (pv 1) (pa_cons (pv 2) (pa_cons (pv 3) (pa_cons (pv 5) pa_nil)))))) (nomark _)) (pss_one (ps_ret pe_bl)) pss_nil)))))
     (pss_one (ps_ret pe_bl)))), ?_⟩
    try simp only [show (cxOf CX0 P w K mg base N_is_table "is_table" (defScope s_is_table) f cdv A outer s H E).nox.K = K from rfl, show (cxOf CX0 P w K mg base N_is_table "is_table" (defScope s_is_table) f cdv A outer s H E).K = K from rfl]
    rw [show L2.start N_is_table [V.ref t, V.ref a, V.ref b] = [some (V.ref t), some (V.ref a), some (V.ref b), none, none, none, none] from rfl]
    walk_at "rd"
    refine ⟨t, a, b, ls, tb, one, other, rfl, hT, ha, hb, hn, hm, fun H1 s1 => ?_⟩
    walk_at "rd"
    refine iteND (fun h1 => ?_) (fun h1 => ?_)
    · walk_at "rd"
      refine no (fun z => h1 ⟨z.len, fun line hl => ?_⟩) _ s1
      obtain ⟨i, hi, e⟩ := List.mem_iff_getElem.mp hl
      have := z.lens i (by have := z.len; omega)
      rw [List.getD_eq_getElem?_getD, List.getElem?_eq_getElem hi] at this
      rw [← e]; exact this
    obtain ⟨hlen, hlens⟩ := h1
    have hlens' : ∀ i, i ≤ one.length → (tb.getD i []).length = other.length + 1 := fun i hi => by
      have i2 : i < tb.length := by omega
      rw [List.getD_eq_getElem?_getD, List.getElem?_eq_getElem i2]
      exact hlens _ (List.getElem_mem i2)
    walk_at "rd"
    refine r_AtE (SqL.of (hT.same s1).at_) ?_
    refine for_by (ov_enumT lz) (fun i σ H2 => ∃ (v3 v4 v5 v6 : Option V), σ = [some (.ref t), some (.ref a), some (.ref b), v3, v4, v5, v6] ∧ Same H H2 ∧ ∀ i' j, i' < i → j ≤ other.length → Lf.bnd one other tb i' j ≤ Lf.tg tb i' j) ?_ ?_ ?_ ?_
    · exact ⟨_, _, _, _, rfl, s1, fun i' j hi' => by omega⟩
    · rintro i σ H2 _ ⟨_, _, _, _, _, s2, _⟩
      exact hT.same s2
    · rintro i ⟨⟨l, line⟩, j⟩ x σ H2 H3 hy ⟨v3, v4, v5, v6, rfl, s2, inv⟩ ⟨T', hT', rfl, rfl, hl⟩
      rw [List.getElem?_zipIdx] at hy
      obtain ⟨z', e1, e2⟩ := Option.map_eq_some_iff.mp hy
      have ej : j = i := by have := congrArg Prod.snd e2; simpa using this.symm
      have ez : z' = (l, line) := congrArg Prod.fst e2
      subst ej ez
      obtain ⟨hz1, hz2⟩ := List.getElem?_eq_some_iff.mp e1
      rw [List.length_zip] at hz1
      have hi : j < tb.length := by omega
      rw [List.getElem_zip] at hz2
      have el : tb.getD j [] = line := by
        rw [List.getD_eq_getElem?_getD, List.getElem?_eq_getElem hi]
        exact congrArg Prod.snd hz2
      have hll := hlens' j (by omega)
      rw [el] at hll
      have s3 : Same H (upd H2 T' (.tup [.int (j : Nat), .ref l])) := by walk_at "sm"
      have hl3 : (upd H2 T' (.tup [.int (j : Nat), .ref l])) l = some (.lst (line.map V.int)) := upd_keep hl hT'
      have hT3 : (upd H2 T' (.tup [.int (j : Nat), .ref l])) T' = some (.tup [.int (j : Nat), .ref l]) := upd_same
      simp only at *
      generalize upd H2 T' (.tup [.int (j : Nat), .ref l]) = H3 at s3 hl3 hT3 ⊢
      walk_at "rd"
      refine for_by (ov_enumI (xs := line)) (fun m σ H4 => ∃ (v5 v6 : Option V), σ = [some (.ref t), some (.ref a), some (.ref b), some (.int (j : Nat)), some (.ref l), v5, v6] ∧ Same H H4 ∧ H4 l = some (.lst (line.map V.int)) ∧ ∀ m', m' < m → Lf.bnd one other tb j m' ≤ Lf.tg tb j m') ?_ ?_ ?_ ?_
      · exact ⟨_, _, rfl, s3, hl3, fun m' hm' => by omega⟩
      · rintro m σ H4 _ ⟨_, _, _, _, q, _⟩
        exact SqL.of q
      · rintro m ⟨z, m'⟩ x σ H4 H5 hy ⟨w5, w6, rfl, s4, hl4, inv2⟩ ⟨T4, hT4, rfl, rfl⟩
        rw [List.getElem?_zipIdx] at hy
        obtain ⟨z', e1', e2'⟩ := Option.map_eq_some_iff.mp hy
        have ej : m' = m := by have := congrArg Prod.snd e2'; simpa using this.symm
        have ez : z' = z := congrArg Prod.fst e2'
        subst ej ez
        obtain ⟨hm1, hm2⟩ := List.getElem?_eq_some_iff.mp e1'
        have ez2 : z' = Lf.tg tb j m' := by
          unfold Lf.tg
          rw [el, List.getD_eq_getElem?_getD, List.getElem?_eq_getElem hm1, hm2]; rfl
        have s5 : Same H (upd H4 T4 (.tup [.int (m' : Nat), .int z'])) := by walk_at "sm"
        have hl5 : (upd H4 T4 (.tup [.int (m' : Nat), .int z'])) l = some (.lst (line.map V.int)) := upd_keep hl4 hT4
        have hT5 : (upd H4 T4 (.tup [.int (m' : Nat), .int z'])) T4 = some (.tup [.int (m' : Nat), .int z']) := upd_same
        simp only at *
        generalize upd H4 T4 (.tup [.int (m' : Nat), .int z']) = H5 at s5 hl5 hT5 ⊢
        walk_at "rd"
        refine ⟨t, a, b, ls, tb, one, other, j, m', rfl, hT.same s5, SqL.of (s5.at ha), SqL.of (s5.at hb), hi, by omega, by omega, fun q => ?_, fun q => ?_, fun H6 s6 => ?_⟩
        · rw [hlens' (j - 1) (by omega)]; omega
        · rw [el]; omega
        walk_at "rd"
        refine iteD (fun h2 => ?_) (fun h2 => ?_)
        · walk_at "rd"
          refine no (fun z => ?_) _ (s5.trans s6)
          have := (Lf.tab_bnd hlen hlens').mp z j m' (by omega) (by omega)
          omega
        · walk_at "rd"
          refine ⟨_, _, rfl, s5.trans s6, s6.at hl5, fun q hq => ?_⟩
          by_cases e : q = m'
          · subst e; omega
          · exact inv2 q (by omega)
      · rintro σ H4 ⟨w5, w6, rfl, s4, hl4, inv2⟩
        rw [List.length_zipIdx] at inv2
        walk_at "rd"
        refine ⟨_, _, _, _, rfl, s4, fun i' m hi' hm' => ?_⟩
        by_cases e : i' = j
        · subst e; exact inv2 m (by omega)
        · exact inv i' m (by omega) hm'
    · rintro σ H2 ⟨v3, v4, v5, v6, rfl, s2, inv⟩
      rw [List.length_zipIdx, List.length_zip] at inv
      walk_at "rd"
      have e : Lf.tab one other tb = true := Lf.tab_true ((Lf.tab_bnd hlen hlens').mpr fun i j hi hj => inv i j (by omega) hj)
      rw [← e]
      exact k _ s2
end

abbrev s_least_table : Stmt := body.getD 21 (.Pass ⟨0, 0, 0, 0⟩)
abbrev N_least_table : List Str := ["one", "other", "table", "mine", "theirs"]
abbrev P_least_table : List Str := ["one", "other"]
theorem sc_least_table : FnScope N_least_table P_least_table (defScope s_least_table) := ⟨rfl, rfl, rfl, by decide, rfl, by decide, by decide⟩
abbrev s_alike_pairs : Stmt := body.getD 22 (.Pass ⟨0, 0, 0, 0⟩)
abbrev N_alike_pairs : List Str := ["table", "one", "other", "pairs", "mine", "theirs"]
abbrev P_alike_pairs : List Str := ["table", "one", "other"]
theorem sc_alike_pairs : FnScope N_alike_pairs P_alike_pairs (defScope s_alike_pairs) := ⟨rfl, rfl, rfl, by decide, rfl, by decide, by decide⟩
section
variable {P : Program} {w : World} {K : PySem.W.Frag} {mg : Str → Option Value} {base : Heap} {f f2 : Addr} {fd fd2 : FuncData}
def sp_least_table (K : PySem.W.Frag) : Sp := fun vs H Q _ => ∃ (a b : Addr) (one other : List Int), vs = [.ref a, .ref b] ∧ SqL K H a (one.map V.int) ∧ SqL K H b (other.map V.int) ∧ one.length ≤ 1000 ∧ other.length ≤ 1000 ∧
  ∀ (t : Addr) (ls : List Addr) (tb : List (List Int)) H', H t = none → (∀ l ∈ ls, H l = none) → ls.Nodup → t ∉ ls → Same H H' → Tab H' t ls tb → Lf.LT one other tb → Q (.ref t) H'
theorem ok_least_table (F : Fun K "least_table" "least_table" s_least_table f fd) (T : Blt mg) (C_bound : Cal K mg "bound" f2 fd2 P_bound) (G_bound : FnOk P w K mg base CX0 3 f2 fd2 P_bound (sp_bound K)) : FnOk P w K mg base CX0 4 f fd P_least_table (sp_least_table K) := by
  refine F.ok sc_least_table (fun vs H Q E h => ?_) (fun cdv A outer s H vs Q E hr h => ?_)
  · obtain ⟨_, _, _, _, rfl, _⟩ := h
    rfl
  · obtain ⟨a, b, one, other, rfl, ha, hb, l1, l2, k⟩ := h
    have nd := sc_least_table.nd
    have hu := hr.units
    refine ⟨_, (pss_cons (ps_set (i := 2) nd rfl (by first | exact Or.inl rfl | exact Or.inr rfl) (pe_lst pa_nil))
     (pss_cons (ps_for PassesOwn.never rfl (pi_range1 rfl T.no_range (pa_cons (pe_op op_addG (pe_callB len_G rfl T.no_len boot_len (pa_cons (pv 0) pa_nil)) pe_int) pa_nil)) (pg_name (i := 3) nd rfl (by first | exact Or.inl rfl | exact Or.inr rfl)) (pss_cons (ps_expr (pe_bm PySem.F.plainAttrs_list PySem.F.slot_list_append PySem.F.type_list_append mr_append (pv 2) (pa_cons (pe_lst pa_nil) pa_nil)))
     (pss_one (ps_for PassesOwn.never rfl (pi_range1 rfl T.no_range (pa_cons (pe_op op_addG (pe_callB len_G rfl T.no_len boot_len (pa_cons (pv 1) pa_nil)) pe_int) pa_nil)) (pg_name (i := 4) nd rfl (by first | exact Or.inl rfl | exact Or.inr rfl)) (pss_one (ps_expr (pe_bm PySem.F.plainAttrs_list PySem.F.slot_list_append PySem.F.type_list_append mr_append (pe_ix ix_G (pv 2) (pv 3) (fun _ _ => rfl)) (pa_cons (pe_call G_bound (hr.mono (by decide)) rfl C_bound.mg C_bound.kp C_bound.b .nil pass0 (pa_cons (pv 2) (pa_cons (pv 0) (pa_cons (pv 1) (pa_cons (pv 3) (pa_cons (pv 4) pa_nil)))))) pa_nil))))))))
     (pss_one (ps_ret (pv 2))))), ?_⟩
    try simp only [show (cxOf CX0 P w K mg base N_least_table "least_table" (defScope s_least_table) f cdv A outer s H E).nox.K = K from rfl, show (cxOf CX0 P w K mg base N_least_table "least_table" (defScope s_least_table) f cdv A outer s H E).K = K from rfl]
    rw [show L2.start N_least_table [V.ref a, V.ref b] = [some (V.ref a), some (V.ref b), none, none, none] from rfl]
    walk_at "rd"
    intro t ht
    walk_at "rd"
    have s0 : Same H (upd H t (.lst [])) := Same.upd_new ht
    have t0 : (upd H t (.lst [])) t = some (.lst []) := upd_same
    generalize upd H t (.lst []) = H0 at s0 t0 ⊢
    have ha0 := s0.seq ha
    have hb0 := s0.seq hb
    walk_at "rd"
    refine r_AtR1 (by omega) (by omega) ?_
    have en : ((one.length : Int) + 1).toNat = one.length + 1 := by omega
    rw [en]
    refine for_by ov_range (fun i σ H2 => ∃ (ls : List Addr) (tb : List (List Int)) (v3 v4 : Option V), σ = [some (.ref a), some (.ref b), some (.ref t), v3, v4] ∧ Same H H2 ∧ Tab H2 t ls tb ∧ (∀ l ∈ ls, H l = none) ∧ ls.Nodup ∧ t ∉ ls ∧ ((i = 0 ∧ tb = []) ∨ ∃ i', i = i' + 1 ∧ Lf.LTp one other tb i' (other.length + 1))) ?_ ?_ ?_ ?_
    · exact ⟨[], [], _, _, rfl, s0, ⟨t0, rfl, fun i l h => by simp at h⟩, by simp, .nil, by simp, .inl ⟨rfl, rfl⟩⟩
    · exact fun _ _ _ _ _ => trivial
    · rintro i y x σ H2 H3 hy ⟨ls, tb, v3, v4, rfl, s2, hT, fr, ndl, tls, inv⟩ ⟨rfl, rfl⟩
      obtain ⟨hi, ey⟩ := List.getElem?_eq_some_iff.mp hy
      rw [List.getElem_range] at ey
      subst ey
      rw [List.length_range] at hi
      have lz := hT.len
      have lt : tb.length = i := by
        rcases inv with ⟨e1, e2⟩ | ⟨i', e1, L⟩
        · rw [e2, e1]; rfl
        · rw [L.len]; omega
      have Tt := hT.at_
      walk_at "rd"
      intro l hl
      have tl : t ≠ l := ne_of_none hT.at_ hl
      walk_at "rd"
      refine r_appV (upd_keep hT.at_ hl) (by rw [List.length_map]; omega) ?_
      have hT4 : Tab (upd (upd H3 l (.lst (([] : List Int).map V.int))) t (.lst (ls.map V.ref ++ [.ref l]))) t (ls ++ [l]) (tb ++ [[]]) := (hT.same (Same.upd_new hl)).snoc upd_same tl tls
      have s4 : Same H (upd (upd H3 l (.lst (([] : List Int).map V.int))) t (.lst (ls.map V.ref ++ [.ref l]))) := by walk_at "sm"
      generalize upd (upd H3 l (.lst (([] : List Int).map V.int))) t (.lst (ls.map V.ref ++ [.ref l])) = H4 at hT4 s4 ⊢
      have fr4 : ∀ c ∈ ls ++ [l], H c = none := fun c hc => by
        rcases List.mem_append.mp hc with q | q
        · exact fr c q
        · have : c = l := by simpa using q
          rw [this]; exact s2.free hl
      have nd4 : (ls ++ [l]).Nodup := by
        rw [List.nodup_append]
        refine ⟨ndl, by simp, fun x hx y hy => ?_⟩
        have : y = l := by simpa using hy
        rw [this]
        intro z
        obtain ⟨n, hn⟩ := List.getElem?_of_mem hx
        have := hT.row n x hn
        rw [z, hl] at this; cases this
      have tl4 : t ∉ ls ++ [l] := fun z => by
        rcases List.mem_append.mp z with q | q
        · exact tls q
        · exact tl (by simpa using q)
      have L4 : Lf.LTp one other (tb ++ [[]]) i 0 := by
        rcases inv with ⟨e1, e2⟩ | ⟨i', e1, L⟩
        · rw [e2, e1]; exact Lf.LTp.start one other
        · rw [e1]; exact L.line
      have ll : (ls ++ [l])[i]? = some l := by
        rw [List.getElem?_append_right (by omega), lz, lt, Nat.sub_self]; rfl
      generalize ls ++ [l] = ls4 at hT4 fr4 nd4 tl4 ll
      generalize tb ++ [[]] = tb4 at hT4 L4
      clear Tt hT fr ndl tls inv lz lt s2
      have hb4 := s4.seq hb
      walk_at "rd"
      refine r_AtR1 (by omega) (by omega) ?_
      have en2 : ((other.length : Int) + 1).toNat = other.length + 1 := by omega
      rw [en2]
      refine for_by ov_range (fun j σ H5 => ∃ (tb : List (List Int)) (v4 : Option V), σ = [some (.ref a), some (.ref b), some (.ref t), some (.int (0 + (i : Int))), v4] ∧ Same H H5 ∧ Tab H5 t ls4 tb ∧ Lf.LTp one other tb i j) ?_ ?_ ?_ ?_
      · exact ⟨tb4, _, rfl, s4, hT4, L4⟩
      · exact fun _ _ _ _ _ => trivial
      · clear hT4 L4 s4 hb4 tb4 H4
        rintro j y x σ H5 H6 hy2 ⟨tb, v4', rfl, s5, hT5, L5⟩ ⟨rfl, rfl⟩
        obtain ⟨hj, ey⟩ := List.getElem?_eq_some_iff.mp hy2
        rw [List.getElem_range] at ey
        subst ey
        rw [List.length_range] at hj
        have e0 : 0 + (i : Int) = (i : Int) := by omega
        have e1 : 0 + (j : Int) = (j : Int) := by omega
        have lt5 := L5.len
        rw [e0, e1]
        walk_at "rd"
        refine r_ixTab hT5 (by omega) (by omega) (fun l' el hl' => ?_)
        rw [Int.toNat_natCast] at el hl'
        have : l' = l := by rw [ll] at el; exact (Option.some.inj el).symm
        subst this
        walk_at "rd"
        refine ⟨t, a, b, ls4, tb, one, other, i, j, rfl, hT5, s5.seq ha, s5.seq hb, by omega, by omega, by omega, fun q => ?_, fun q => ?_, fun H7 s7 => ?_⟩
        · rw [L5.lens (i - 1) (by omega)]; omega
        · rw [L5.last]; omega
        have hl7 := s7.at hl'
        have lb := L5.last
        walk_at "rd"
        refine r_appI hl7 (by omega) ?_
        walk_at "rd"
        have tl' : t ≠ l' := fun z => tl4 (z ▸ List.mem_of_getElem? ll)
        have l0 := fr4 l' (List.mem_of_getElem? ll)
        refine ⟨_, _, rfl, same_upd (s5.trans s7) l0, (hT5.same s7).set nd4 ll tl', L5.step (by omega)⟩
      · rintro σ H5 ⟨tb, v4', rfl, s5, hT5, L5⟩
        rw [List.length_range] at L5
        walk_at "rd"
        exact ⟨ls4, tb, _, _, rfl, s5, hT5, fr4, nd4, tl4, .inr ⟨i, rfl, L5⟩⟩
    · rintro σ H2 ⟨ls, tb, v3, v4, rfl, s2, hT, fr, ndl, tls, inv⟩
      rw [List.length_range] at inv
      walk_at "rd"
      rcases inv with ⟨e1, e2⟩ | ⟨i', e1, L⟩
      · omega
      · have : i' = one.length := by omega
        subst this
        exact k t ls tb H2 ht fr ndl tls s2 hT L.done
def sp_alike_pairs : Sp := fun vs H Q _ => ∃ (t a b : Addr) (ls : List Addr) (tb : List (List Int)) (one other : List Int), vs = [.ref t, .ref a, .ref b] ∧ H a = some (.lst (one.map V.int)) ∧ H b = some (.lst (other.map V.int)) ∧ Tab H t ls tb ∧ Lf.LT one other tb ∧ one.length ≤ 1000 ∧ other.length ≤ 1000 ∧
  ∀ (p : Addr) (ts : List Addr) (ps : List (Int × Int)) H', H p = none → Same H H' → Prs H' p ts ps → Lf.AP one other (-1) (-1) ps → (ps.length : Int) = Lf.tg tb one.length other.length → Q (.ref p) H'
theorem ok_alike_pairs (F : Fun K "alike_pairs" "alike_pairs" s_alike_pairs f fd) (T : Blt mg) : FnOk P w K mg base CX0 1 f fd P_alike_pairs sp_alike_pairs := by
  refine F.ok sc_alike_pairs (fun vs H Q E h => ?_) (fun cdv A outer s H vs Q E hr h => ?_)
  · obtain ⟨_, _, _, _, _, _, _, rfl, _⟩ := h
    rfl
  · obtain ⟨t, a, b, ls, tb, one, other, rfl, ha, hb, hT, L, l1, l2, k⟩ := h
    have nd := sc_alike_pairs.nd
    have hu := hr.units
    have lt := L.len
    refine ⟨_, (pss_cons (ps_set (i := 3) nd rfl (by first | exact Or.inl rfl | exact Or.inr rfl) (pe_lst pa_nil))
     (pss_cons (ps_set (i := 4) nd rfl (by first | exact Or.inl rfl | exact Or.inr rfl) (pe_callB len_G rfl T.no_len boot_len (pa_cons (pv 1) pa_nil)))
     (pss_cons (ps_set (i := 5) nd rfl (by first | exact Or.inl rfl | exact Or.inr rfl) (pe_callB len_G rfl T.no_len boot_len (pa_cons (pv 2) pa_nil)))
     (pss_cons (ps_while PassesOwn.never (pt_cmpR op_gt (pe_ix ix_G (pe_ix ix_G (pv 0) (pv 4) (fun _ _ => rfl)) (pv 5) (fun _ _ => rfl)) pe_int (nomark _)) (pss_one (ps_if (pt_cmpR (op_eqG hu) (pe_ix ix_G (pe_ix ix_G (pv 0) (pe_op op_sub (pv 4) pe_int) (fun _ _ => rfl)) (pv 5) (fun _ _ => rfl)) (pe_ix ix_G (pe_ix ix_G (pv 0) (pv 4) (fun _ _ => rfl)) (pv 5) (fun _ _ => rfl)) (nomark _)) (pss_one (ps_aug (i := 4) nd rfl (by first | exact Or.inl rfl | exact Or.inr rfl) pe_int ip_sub)) (pss_one (ps_if (pt_cmpR (op_eqG hu) (pe_ix ix_G (pe_ix ix_G (pv 0) (pv 4) (fun _ _ => rfl)) (pe_op op_sub (pv 5) pe_int) (fun _ _ => rfl)) (pe_ix ix_G (pe_ix ix_G (pv 0) (pv 4) (fun _ _ => rfl)) (pv 5) (fun _ _ => rfl)) (nomark _)) (pss_one (ps_aug (i := 5) nd rfl (by first | exact Or.inl rfl | exact Or.inr rfl) pe_int ip_sub)) (pss_cons (ps_aug (i := 4) nd rfl (by first | exact Or.inl rfl | exact Or.inr rfl) pe_int ip_sub)
     (pss_cons (ps_aug (i := 5) nd rfl (by first | exact Or.inl rfl | exact Or.inr rfl) pe_int ip_sub)
     (pss_one (ps_expr (pe_bm PySem.F.plainAttrs_list PySem.F.slot_list_append PySem.F.type_list_append mr_append (pv 3) (pa_cons (pe_tup (pa_cons (pv 4) (pa_cons (pv 5) pa_nil))) pa_nil)))))))))))
     (pss_cons (ps_expr (pe_bm0 PySem.F.plainAttrs_list PySem.F.slot_list_reverse PySem.F.type_list_reverse mr_reverse (pv 3)))
     (pss_one (ps_ret (pv 3)))))))), ?_⟩
    try simp only [show (cxOf CX0 P w K mg base N_alike_pairs "alike_pairs" (defScope s_alike_pairs) f cdv A outer s H E).nox.K = K from rfl, show (cxOf CX0 P w K mg base N_alike_pairs "alike_pairs" (defScope s_alike_pairs) f cdv A outer s H E).K = K from rfl]
    rw [show L2.start N_alike_pairs [V.ref t, V.ref a, V.ref b] = [some (V.ref t), some (V.ref a), some (V.ref b), none, none, none] from rfl]
    walk_at "rd"
    intro p hp
    walk_at "rd"
    have s0 : Same H (upd H p (.lst [])) := Same.upd_new hp
    have p0 : (upd H p (.lst [])) p = some (.lst []) := upd_same
    generalize upd H p (.lst []) = H0 at s0 p0 ⊢
    have ha0 := s0.at ha
    have hb0 := s0.at hb
    walk_at "rd"
    refine r_while (fun m σ H2 => ∃ (i j : Nat) (ts : List Addr) (ps : List (Int × Int)), σ = [some (.ref t), some (.ref a), some (.ref b), some (.ref p), some (.int i), some (.int j)] ∧ Same H H2 ∧ Prs H2 p ts ps ∧ i ≤ one.length ∧ j ≤ other.length ∧ Lf.AP one other ((i : Int) - 1) ((j : Int) - 1) ps.reverse ∧ (ps.length : Int) + Lf.tg tb i j = Lf.tg tb one.length other.length ∧ ps.length + i ≤ one.length ∧ m = i + j) (one.length + other.length) ?_ ?_
    · refine ⟨one.length, other.length, [], [], rfl, s0, ⟨p0, rfl, fun i t h => by simp at h⟩, Nat.le_refl _, Nat.le_refl _, ⟨rfl, rfl, fun q hq => by simp at hq⟩, by simp, by simp, rfl⟩
    rintro m σ H2 ⟨i, j, ts, ps, rfl, s2, hP, hi, hj, A, hs, hlen, rfl⟩
    have hT2 := hT.same s2
    have pa := hP.at_
    have lens := L.lens i hi
    have lp := hP.len
    walk_at "rd"
    refine r_ixTab hT2 (by omega) (by omega) (fun l5 e5 hl5 => ?_)
    rw [Int.toNat_natCast] at hl5
    walk_at "rd"
    refine r_ixI (SqL.of hl5) (by omega) (by omega) ?_
    rw [Int.toNat_natCast, tg_of]
    walk_at "rd"
    refine iteD (fun h1 => ?_) (fun h1 => ?_)
    · obtain ⟨pi, pj⟩ := L.pos hi hj h1
      have lens1 := L.lens (i - 1) (by omega)
      have ei : (i : Int) - 1 = ((i - 1 : Nat) : Int) := by omega
      have ej : (j : Int) - 1 = ((j - 1 : Nat) : Int) := by omega
      refine r_turn ?_
      walk_at "rd"
      refine r_ixTab hT2 (by omega) (by omega) (fun l6 e6 hl6 => ?_)
      rw [ei, Int.toNat_natCast] at hl6
      walk_at "rd"
      refine r_ixI (SqL.of hl6) (by omega) (by omega) ?_
      rw [Int.toNat_natCast, tg_of]
      walk_at "rd"
      refine r_ixTab hT2 (by omega) (by omega) (fun l7 e7 hl7 => ?_)
      rw [Int.toNat_natCast] at hl7
      walk_at "rd"
      refine r_ixI (SqL.of hl7) (by omega) (by omega) ?_
      rw [Int.toNat_natCast, tg_of]
      walk_at "rd"
      refine iteD (fun h2 => ?_) (fun h2 => ?_)
      · walk_at "rd"
        rw [ei]
        exact ⟨i - 1 + j, by omega, i - 1, j, ts, ps, rfl, s2, hP, by omega, hj, A.low (by omega) (by omega), by omega, by omega, rfl⟩
      · walk_at "rd"
        refine r_ixTab hT2 (by omega) (by omega) (fun l8 e8 hl8 => ?_)
        rw [Int.toNat_natCast] at hl8
        walk_at "rd"
        refine r_ixI (SqL.of hl8) (by omega) (by omega) ?_
        rw [ej, Int.toNat_natCast, tg_of]
        walk_at "rd"
        refine r_ixTab hT2 (by omega) (by omega) (fun l9 e9 hl9 => ?_)
        rw [Int.toNat_natCast] at hl9
        walk_at "rd"
        refine r_ixI (SqL.of hl9) (by omega) (by omega) ?_
        rw [Int.toNat_natCast, tg_of]
        walk_at "rd"
        refine iteD (fun h3 => ?_) (fun h3 => ?_)
        · walk_at "rd"
          rw [ej]
          exact ⟨i + (j - 1), by omega, i, j - 1, ts, ps, rfl, s2, hP, hi, by omega, A.low (by omega) (by omega), by omega, by omega, rfl⟩
        · obtain ⟨al, eq⟩ := L.diag hi hj h1 h2 h3
          walk_at "rd"
          rw [ei, ej]
          intro T' hT'
          walk_at "rd"
          refine r_appV (upd_keep hP.at_ hT') (by rw [List.length_map]; omega) ?_
          walk_at "rd"
          have pT : p ≠ T' := ne_of_none hP.at_ hT'
          refine ⟨i - 1 + (j - 1), by omega, i - 1, j - 1, ts ++ [T'], ps ++ [(((i - 1 : Nat) : Int), ((j - 1 : Nat) : Int))], rfl, by walk_at "sm", (hP.same (Same.upd_new hT')).snoc upd_same, by omega, by omega, ?_, ?_, ?_, rfl⟩
          · rw [List.reverse_append]
            refine AP_cons' A ei ej (by omega) (by omega) ?_
            rw [Int.toNat_natCast, Int.toNat_natCast]
            exact al
          · rw [List.length_append, List.length_singleton]; omega
          · rw [List.length_append, List.length_singleton]; omega
    · have nn := Lf.tab_nonneg L.ok _ i j rfl hi hj
      walk_at "rd"
      refine r_revV hP.at_ ?_
      walk_at "rd"
      refine k p ts.reverse ps.reverse _ hp (by walk_at "sm") hP.rev (A.low (by omega) (by omega)) (by rw [List.length_reverse]; omega)
end

/-- an answer with a row, places of both and a table -/
structure BothAt (C : Addr) (H : Hp) (x dx : Addr) (fs : List (Str × V)) (r m q t : Addr) (ls : List Addr) (row mine theirs : List Int) (tb : List (List Int)) : Prop where
  ob : H x = some (.ins C dx fs)
  fr : fs.lookup ("row" : Str) = some (.ref r)
  fm : fs.lookup ("mine" : Str) = some (.ref m)
  fq : fs.lookup ("theirs" : Str) = some (.ref q)
  fb : fs.lookup ("table" : Str) = some (.ref t)
  fn : fs.lookup ("shows" : Str) = none
  hr : H r = some (.lst (row.map V.int))
  hm : H m = some (.lst (mine.map V.int))
  hq : H q = some (.lst (theirs.map V.int))
  tab : Tab H t ls tb
section
variable {C : Addr} {H H' : Hp} {x dx : Addr} {fs : List (Str × V)} {r m q t : Addr} {ls : List Addr} {row mine theirs : List Int} {tb : List (List Int)}
theorem BothAt.same (L : BothAt C H x dx fs r m q t ls row mine theirs tb) (s : Same H H') : BothAt C H' x dx fs r m q t ls row mine theirs tb :=
  ⟨s.at L.ob, L.fr, L.fm, L.fq, L.fb, L.fn, s.at L.hr, s.at L.hm, s.at L.hq, L.tab.same s⟩
/-- the four lists lie apart -/
structure Apart (r m q t : Addr) (ls : List Addr) : Prop where
  rm : r ≠ m
  rq : r ≠ q
  mq : m ≠ q
  rt : r ≠ t
  mt : m ≠ t
  qt : q ≠ t
  rl : r ∉ ls
  ml : m ∉ ls
  ql : q ∉ ls
  tl : t ∉ ls
  nd : ls.Nodup
theorem tab_off {H : Hp} {t p : Addr} {ls : List Addr} {tb : List (List Int)} {o : HO} (T : Tab H t ls tb) (h1 : t ≠ p) (h2 : p ∉ ls) : Tab (upd H p o) t ls tb :=
  ⟨upd_keepNe T.at_ h1, T.len, fun i l hl => upd_keepNe (T.row i l hl) fun e => h2 (e ▸ List.mem_of_getElem? hl)⟩
theorem ins_ne {H : Hp} {x p C dx : Addr} {fs : List (Str × V)} {vs : List V} (h : H x = some (.ins C dx fs)) (hp : H p = some (.lst vs)) : x ≠ p := fun e => by rw [e, hp] at h; cases h
theorem BothAt.setRow (L : BothAt C H x dx fs r m q t ls row mine theirs tb) (A : Apart r m q t ls) (row' : List Int) : BothAt C (upd H r (.lst (row'.map V.int))) x dx fs r m q t ls row' mine theirs tb :=
  ⟨upd_keepNe L.ob (ins_ne L.ob L.hr), L.fr, L.fm, L.fq, L.fb, L.fn, upd_same, upd_keepNe L.hm A.rm.symm, upd_keepNe L.hq A.rq.symm, tab_off L.tab A.rt.symm A.rl⟩
theorem BothAt.setMine (L : BothAt C H x dx fs r m q t ls row mine theirs tb) (A : Apart r m q t ls) (mine' : List Int) : BothAt C (upd H m (.lst (mine'.map V.int))) x dx fs r m q t ls row mine' theirs tb :=
  ⟨upd_keepNe L.ob (ins_ne L.ob L.hm), L.fr, L.fm, L.fq, L.fb, L.fn, upd_keepNe L.hr A.rm, upd_same, upd_keepNe L.hq A.mq.symm, tab_off L.tab A.mt.symm A.ml⟩
theorem BothAt.setTheirs (L : BothAt C H x dx fs r m q t ls row mine theirs tb) (A : Apart r m q t ls) (theirs' : List Int) : BothAt C (upd H q (.lst (theirs'.map V.int))) x dx fs r m q t ls row mine theirs' tb :=
  ⟨upd_keepNe L.ob (ins_ne L.ob L.hq), L.fr, L.fm, L.fq, L.fb, L.fn, upd_keepNe L.hr A.rq, upd_keepNe L.hm A.mq, upd_same, tab_off L.tab A.qt.symm A.ql⟩
theorem BothAt.setLine (L : BothAt C H x dx fs r m q t ls row mine theirs tb) (A : Apart r m q t ls) {i : Nat} {l : Addr} (hl : ls[i]? = some l) (line : List Int) : BothAt C (upd H l (.lst (line.map V.int))) x dx fs r m q t ls row mine theirs (tb.set i line) := by
  have lm : l ∈ ls := List.mem_of_getElem? hl
  exact ⟨upd_keepNe L.ob (ins_ne L.ob (L.tab.row i l hl)), L.fr, L.fm, L.fq, L.fb, L.fn, upd_keepNe L.hr fun e => A.rl (e ▸ lm), upd_keepNe L.hm fun e => A.ml (e ▸ lm), upd_keepNe L.hq fun e => A.ql (e ▸ lm), L.tab.set A.nd hl fun e => A.tl (e ▸ lm)⟩
end
def sp_Both_shows (C : Addr) : Sp := fun vs H Q _ => ∃ (x dx : Addr) (fs : List (Str × V)) (r m q t : Addr) (ls : List Addr) (row mine theirs : List Int) (tb : List (List Int)) (a b : Addr) (one other : List Int), vs = [.ref x, .ref a, .ref b] ∧ BothAt C H x dx fs r m q t ls row mine theirs tb ∧ H a = some (.lst (one.map V.int)) ∧ H b = some (.lst (other.map V.int)) ∧
  row.length ≤ 2000 ∧ mine.length ≤ 1000 ∧ theirs.length ≤ 1000 ∧ tb.length ≤ 1000 ∧ (∀ i, i < tb.length → (tb.getD i []).length ≤ 1000) ∧ one.length ≤ 1000 ∧ other.length ≤ 1000 ∧ ∀ H', Same H H' → Q (.bl (Lf.both one other row mine theirs tb)) H'
def sp_shortest (C : Addr) : Sp := fun vs H Q _ => ∃ (a b : Addr) (one other : List Int), vs = [.ref a, .ref b] ∧ H a = some (.lst (one.map V.int)) ∧ H b = some (.lst (other.map V.int)) ∧ one.length ≤ 1000 ∧ other.length ≤ 1000 ∧
  ∀ (x dx : Addr) (fs : List (Str × V)) (r m q t : Addr) (ls : List Addr) (row mine theirs : List Int) (tb : List (List Int)) H', H x = none → H r = none → H m = none → H q = none → H t = none → (∀ l ∈ ls, H l = none) → Apart r m q t ls → Same H H' → BothAt C H' x dx fs r m q t ls row mine theirs tb → Lf.both one other row mine theirs tb = true → Q (.ref x) H'

abbrev s_Both___init__ : Stmt := (inClass (body.getD 30 (.Pass ⟨0, 0, 0, 0⟩)) 0)
abbrev N_Both___init__ : List Str := ["self", "row", "mine", "theirs", "table"]
abbrev P_Both___init__ : List Str := ["self", "row", "mine", "theirs", "table"]
theorem sc_Both___init__ : FnScope N_Both___init__ P_Both___init__ (defScope s_Both___init__) := ⟨rfl, rfl, rfl, by decide, rfl, by decide, by decide⟩
abbrev s_Both_shows : Stmt := (inClass (body.getD 30 (.Pass ⟨0, 0, 0, 0⟩)) 1)
abbrev N_Both_shows : List Str := ["self", "one", "other"]
abbrev P_Both_shows : List Str := ["self", "one", "other"]
theorem sc_Both_shows : FnScope N_Both_shows P_Both_shows (defScope s_Both_shows) := ⟨rfl, rfl, rfl, by decide, rfl, by decide, by decide⟩
section
variable {P : Program} {w : World} {K : PySem.W.Frag} {mg : Str → Option Value} {base : Heap} {f f1 f2 f3 f4 f5 k_Both : Addr} {fd fd1 fd2 fd3 fd4 fd5 : FuncData}
/-- a new answer of a row, places, places and a table -/
def sp_init4 (C : Addr) : Sp := fun vs H Q _ => ∃ (x dx c a b t : Addr) (ls : List Addr) (rs ms qs : List Int) (tb : List (List Int)), vs = [.ref x, .ref c, .ref a, .ref b, .ref t] ∧ H x = some (.ins C dx []) ∧ H c = some (.lst (rs.map V.int)) ∧ H a = some (.lst (ms.map V.int)) ∧ H b = some (.lst (qs.map V.int)) ∧ Tab H t ls tb ∧ tb.length ≤ 2000 ∧
  ∀ (fs : List (Str × V)) (r m q t' : Addr) (ls' : List Addr) H', H r = none → H m = none → H q = none → H t' = none → (∀ l ∈ ls', H l = none) → Apart r m q t' ls' → SameBut [x] H H' → BothAt C H' x dx fs r m q t' ls' rs ms qs tb → Q .non H'
theorem ok_Both___init__ (F : Fun K "__init__" "Both.__init__" s_Both___init__ f fd) (T : Blt mg) (I_Both : Ins K k_Both) (n_Both_row : NoAttr K k_Both "row") (n_Both_mine : NoAttr K k_Both "mine") (n_Both_theirs : NoAttr K k_Both "theirs") (n_Both_table : NoAttr K k_Both "table") : FnOk P w K mg base CX0 1 f fd P_Both___init__ (sp_init4 k_Both) := by
  refine F.ok sc_Both___init__ (fun vs H Q E h => ?_) (fun cdv A outer s H vs Q E hr h => ?_)
  · obtain ⟨_, _, _, _, _, _, _, _, _, _, _, rfl, _⟩ := h
    rfl
  · obtain ⟨x, dx, c, a, b, t, ls, rs, ms, qs, tb, rfl, hx, hc, ha, hb, hT, hn, k⟩ := h
    have nd := sc_Both___init__.nd
    have hu := hr.units
    have lz := hT.len
    have cx : c ≠ x := fun e => by rw [e, hx] at hc; cases hc
    have ax : a ≠ x := fun e => by rw [e, hx] at ha; cases ha
    have bx : b ≠ x := fun e => by rw [e, hx] at hb; cases hb
    have tx : t ≠ x := fun e => by have := hT.at_; rw [e, hx] at this; cases this
    have lx : x ∉ ls := fun e => by
      obtain ⟨n, hn⟩ := List.getElem?_of_mem e
      have := hT.row n x hn
      rw [hx] at this; cases this
    refine ⟨_, (pss_cons (ps_fld (pv 0) (pe_callTy call_listOf rfl T.no_list boot_list (pa_cons (pv 1) pa_nil)) rfl)
     (pss_cons (ps_fld (pv 0) (pe_callTy call_listOf rfl T.no_list boot_list (pa_cons (pv 2) pa_nil)) rfl)
     (pss_cons (ps_fld (pv 0) (pe_callTy call_listOf rfl T.no_list boot_list (pa_cons (pv 3) pa_nil)) rfl)
     (pss_one (ps_fld (pv 0) (pe_comp (N := ["line"]) (k := 1) (caps := []) (Block.of (by kernel_rfl)) rfl (pi_list (pv 4)) (fun _ _ _ _ => ⟨_, (pg_name (i := 0) (by show List.Nodup (["line"] : List Str); decide) rfl (by first | exact Or.inl rfl | exact Or.inr rfl)), by walk_at "ce"⟩) (fun _ _ _ _ => ⟨_, PIfs.none, by walk_at "ce"⟩) (fun _ _ _ _ => ⟨_, (pe_callTy call_listOf rfl T.no_list boot_list (pa_cons (pv 0) pa_nil)), by walk_at "ce"⟩)) rfl))))), ?_⟩
    try simp only [show (cxOf CX0 P w K mg base N_Both___init__ "Both.__init__" (defScope s_Both___init__) f cdv A outer s H E).nox.K = K from rfl, show (cxOf CX0 P w K mg base N_Both___init__ "Both.__init__" (defScope s_Both___init__) f cdv A outer s H E).K = K from rfl]
    rw [show L2.start N_Both___init__ [V.ref x, V.ref c, V.ref a, V.ref b, V.ref t] = [some (V.ref x), some (V.ref c), some (V.ref a), some (V.ref b), some (V.ref t)] from rfl]
    walk_at "rd"
    intro r hr0
    have xr : r ≠ x := Ne.symm (ne_of_none hx hr0)
    walk_at "rd"
    have s1 : SameBut [x] H (upd (upd H r (.lst (rs.map V.int))) x (.ins k_Both dx (putF "row" (.ref r) []))) := ((Same.upd_new hr0).but (ls := [x])).upd (by simp)
    have x1 : (upd (upd H r (.lst (rs.map V.int))) x (.ins k_Both dx (putF "row" (.ref r) []))) x = some (.ins k_Both dx (putF "row" (.ref r) [])) := upd_same
    have r1 : (upd (upd H r (.lst (rs.map V.int))) x (.ins k_Both dx (putF "row" (.ref r) []))) r = some (.lst (rs.map V.int)) := upd_keepNe upd_same xr
    generalize upd (upd H r (.lst (rs.map V.int))) x (.ins k_Both dx (putF "row" (.ref r) [])) = H1 at s1 x1 r1 ⊢
    have f1 : ∀ z, H1 z = none → H z = none := fun z hz => by
      cases e : H z with
      | none => rfl
      | some o =>
        by_cases zx : z = x
        · rw [zx, x1] at hz; cases hz
        · have := s1.at e (by simpa using zx)
          rw [hz] at this; cases this
    have a1 := s1.at ha (by simpa using ax)
    have b1 := s1.at hb (by simpa using bx)
    have T1 : Tab H1 t ls tb := ⟨s1.at hT.at_ (by simpa using tx), lz, fun i l hl => s1.at (hT.row i l hl) (by
      have ne : l ≠ x := fun e => lx (e ▸ List.mem_of_getElem? hl)
      simpa using ne)⟩
    clear ha hb hT hc
    walk_at "rd"
    intro m hm
    have xm : m ≠ x := Ne.symm (ne_of_none x1 hm)
    have rm : r ≠ m := ne_of_none r1 hm
    walk_at "rd"
    have s2 : SameBut [x] H1 (upd (upd H1 m (.lst (ms.map V.int))) x (.ins k_Both dx (putF "mine" (.ref m) (putF "row" (.ref r) [])))) := ((Same.upd_new hm).but (ls := [x])).upd (by simp)
    have x2 : (upd (upd H1 m (.lst (ms.map V.int))) x (.ins k_Both dx (putF "mine" (.ref m) (putF "row" (.ref r) [])))) x = some (.ins k_Both dx (putF "mine" (.ref m) (putF "row" (.ref r) []))) := upd_same
    have m2 : (upd (upd H1 m (.lst (ms.map V.int))) x (.ins k_Both dx (putF "mine" (.ref m) (putF "row" (.ref r) [])))) m = some (.lst (ms.map V.int)) := upd_keepNe upd_same xm
    generalize upd (upd H1 m (.lst (ms.map V.int))) x (.ins k_Both dx (putF "mine" (.ref m) (putF "row" (.ref r) []))) = H2 at s2 x2 m2 ⊢
    have f2 : ∀ z, H2 z = none → H1 z = none := fun z hz => by
      cases e : H1 z with
      | none => rfl
      | some o =>
        by_cases zx : z = x
        · rw [zx, x2] at hz; cases hz
        · have := s2.at e (by simpa using zx)
          rw [hz] at this; cases this
    have r2 := s2.at r1 (by simpa using xr)
    have b2 := s2.at b1 (by simpa using bx)
    have T2 : Tab H2 t ls tb := ⟨s2.at T1.at_ (by simpa using tx), lz, fun i l hl => s2.at (T1.row i l hl) (by
      have ne : l ≠ x := fun e => lx (e ▸ List.mem_of_getElem? hl)
      simpa using ne)⟩
    clear a1 b1 T1
    walk_at "rd"
    intro q hq
    have xq : q ≠ x := Ne.symm (ne_of_none x2 hq)
    have rq : r ≠ q := ne_of_none r2 hq
    have mq : m ≠ q := ne_of_none m2 hq
    walk_at "rd"
    have s3 : SameBut [x] H2 (upd (upd H2 q (.lst (qs.map V.int))) x (.ins k_Both dx (putF "theirs" (.ref q) (putF "mine" (.ref m) (putF "row" (.ref r) []))))) := ((Same.upd_new hq).but (ls := [x])).upd (by simp)
    have x3 : (upd (upd H2 q (.lst (qs.map V.int))) x (.ins k_Both dx (putF "theirs" (.ref q) (putF "mine" (.ref m) (putF "row" (.ref r) []))))) x = some (.ins k_Both dx (putF "theirs" (.ref q) (putF "mine" (.ref m) (putF "row" (.ref r) [])))) := upd_same
    have q3 : (upd (upd H2 q (.lst (qs.map V.int))) x (.ins k_Both dx (putF "theirs" (.ref q) (putF "mine" (.ref m) (putF "row" (.ref r) []))))) q = some (.lst (qs.map V.int)) := upd_keepNe upd_same xq
    generalize upd (upd H2 q (.lst (qs.map V.int))) x (.ins k_Both dx (putF "theirs" (.ref q) (putF "mine" (.ref m) (putF "row" (.ref r) [])))) = H3 at s3 x3 q3 ⊢
    have f3 : ∀ z, H3 z = none → H2 z = none := fun z hz => by
      cases e : H2 z with
      | none => rfl
      | some o =>
        by_cases zx : z = x
        · rw [zx, x3] at hz; cases hz
        · have := s3.at e (by simpa using zx)
          rw [hz] at this; cases this
    have r3 := s3.at r2 (by simpa using xr)
    have m3 := s3.at m2 (by simpa using xm)
    have T3 : Tab H3 t ls tb := ⟨s3.at T2.at_ (by simpa using tx), lz, fun i l hl => s3.at (T2.row i l hl) (by
      have ne : l ≠ x := fun e => lx (e ▸ List.mem_of_getElem? hl)
      simpa using ne)⟩
    have Tt := T3.at_
    clear b2 T2 r1 r2 m2
    walk_at "rd"
    refine comp_new (ov_lines lz) (fun y => .lst (y.2.map V.int)) (fun H' s' => T3.same s') (by rw [List.length_zip]; omega) ?_ ?_
    · rintro i ⟨l, line⟩ x' H4 H5 R R' hi s4 ⟨rfl, rfl, hl⟩ h4
      walk_at "rd"
      refine ⟨⟨rfl, rfl⟩, ?_⟩
      walk_at "rd"
      intro p hp
      exact h4 p _ (Same.upd_new hp) hp upd_same
    · intro D H' ls' hD s' hd ll nd' nD fr at'
      have x4 := s'.at x3
      walk_at "rd"
      have T4 : Tab H' D ls' tb := Tab.of_copy lz hd ll at'
      have Dx : D ≠ x := Ne.symm (ne_of_none x3 hD)
      have rls : r ∉ ls' := fun e => by have := fr r e; rw [r3] at this; cases this
      have mls : m ∉ ls' := fun e => by have := fr m e; rw [m3] at this; cases this
      have qls : q ∉ ls' := fun e => by have := fr q e; rw [q3] at this; cases this
      have xls : x ∉ ls' := fun e => by have := fr x e; rw [x3] at this; cases this
      have f0 : ∀ z, H3 z = none → H z = none := fun z hz => f1 z (f2 z (f3 z hz))
      refine k _ r m q D ls' _ hr0 (f1 _ hm) (f1 _ (f2 _ hq)) (f0 D hD) (fun l hl => f0 l (fr l hl)) ⟨rm, rq, mq, ne_of_none r3 hD, ne_of_none m3 hD, ne_of_none q3 hD, rls, mls, qls, nD, nd'⟩ ((((s1.trans s2).trans s3).trans s'.but).upd (by simp)) ⟨upd_same, ?_, ?_, ?_, ?_, ?_, upd_keepNe (s'.at r3) xr, upd_keepNe (s'.at m3) xm, upd_keepNe (s'.at q3) xq, ?_⟩
      · simp only [lookup_putF]; rfl
      · simp only [lookup_putF]; rfl
      · simp only [lookup_putF]; rfl
      · simp only [lookup_putF]; rfl
      · simp only [lookup_putF]; rfl
      · exact ⟨upd_keepNe T4.at_ Dx, T4.len, fun i l hl => upd_keepNe (T4.row i l hl) fun e => xls (e ▸ List.mem_of_getElem? hl)⟩
theorem ok_Both_shows (F : Fun K "shows" "Both.shows" s_Both_shows f fd) (T : Blt mg) (I_Both : Ins K k_Both) (n_Both_row : NoAttr K k_Both "row") (n_Both_mine : NoAttr K k_Both "mine") (n_Both_theirs : NoAttr K k_Both "theirs") (n_Both_table : NoAttr K k_Both "table")
    (C_is_row : Cal K mg "is_row" f1 fd1 P_is_row) (G_is_row : FnOk P w K mg base CX0 4 f1 fd1 P_is_row sp_is_row)
    (C_stands_at : Cal K mg "stands_at" f3 fd3 P_stands_at) (G_stands_at : FnOk P w K mg base CX0 4 f3 fd3 P_stands_at (sp_stands_at K))
    (C_is_table : Cal K mg "is_table" f4 fd4 P_is_table) (G_is_table : FnOk P w K mg base CX0 4 f4 fd4 P_is_table sp_is_table) : FnOk P w K mg base CX0 5 f fd P_Both_shows (sp_Both_shows k_Both) := by
  refine F.ok sc_Both_shows (fun vs H Q E h => ?_) (fun cdv A outer s H vs Q E hr h => ?_)
  · obtain ⟨_, _, _, _, _, _, _, _, _, _, _, _, _, _, _, _, rfl, _⟩ := h
    rfl
  · obtain ⟨x, dx, fs, r, m, q, t, ls, row, mine, theirs, tb, a, b, one, other, rfl, L, ha, hb, n0, n1, n2, n3, n4, n5, n6, k⟩ := h
    obtain ⟨ob, fr, fm, fq, fb, fn, hr0, hm, hq, hT⟩ := id L
    have nd := sc_Both_shows.nd
    have hu := hr.units
    unfold Lf.both at k
    refine ⟨_, (pss_cons (ps_if (PW.pt (pw_or (pt_not (pt_val (pe_call G_is_row (hr.mono (by decide)) rfl C_is_row.mg C_is_row.kp C_is_row.b .nil pass0 (pa_cons (pe_fld (pv 0) rfl) pa_nil)))) (pw_or1 (pt_not (pt_val (pe_call G_stands_at (hr.mono (by decide)) rfl C_stands_at.mg C_stands_at.kp C_stands_at.b .nil pass0 (pa_cons (pe_fld (pv 0) rfl) (pa_cons (pv 1) (pa_cons (pe_fld (pv 0) rfl) pa_nil))))))))) (pss_one (ps_ret pe_bl)) pss_nil)
     (pss_cons (ps_if (pt_not (pt_val (pe_call G_stands_at (hr.mono (by decide)) rfl C_stands_at.mg C_stands_at.kp C_stands_at.b .nil pass0 (pa_cons (pe_fld (pv 0) rfl) (pa_cons (pv 2) (pa_cons (pe_fld (pv 0) rfl) pa_nil)))))) (pss_one (ps_ret pe_bl)) pss_nil)
     (pss_one (ps_ret (pe_and (pe_call G_is_table (hr.mono (by decide)) rfl C_is_table.mg C_is_table.kp C_is_table.b .nil pass0 (pa_cons (pe_fld (pv 0) rfl) (pa_cons (pv 1) (pa_cons (pv 2) pa_nil)))) (pe_one (pe_cmpR (op_eqG hu) (pe_op op_addG (pe_callB len_G rfl T.no_len boot_len (pa_cons (pe_fld (pv 0) rfl) pa_nil)) (pe_ix ix_G (pe_ix ix_G (pe_fld (pv 0) rfl) (pe_un un_neg pe_int) (fun _ _ => rfl)) (pe_un un_neg pe_int) (fun _ _ => rfl))) (pe_op op_addG (pe_callB len_G rfl T.no_len boot_len (pa_cons (pv 1) pa_nil)) (pe_callB len_G rfl T.no_len boot_len (pa_cons (pv 2) pa_nil))) (nomark _)))))))), ?_⟩
    try simp only [show (cxOf CX0 P w K mg base N_Both_shows "Both.shows" (defScope s_Both_shows) f cdv A outer s H E).nox.K = K from rfl, show (cxOf CX0 P w K mg base N_Both_shows "Both.shows" (defScope s_Both_shows) f cdv A outer s H E).K = K from rfl]
    rw [show L2.start N_Both_shows [V.ref x, V.ref a, V.ref b] = [some (V.ref x), some (V.ref a), some (V.ref b)] from rfl]
    walk_at "rd"
    refine ⟨r, row, rfl, hr0, by omega, fun H1 s1 => ?_⟩
    have ob1 := s1.at ob
    walk_at "rd"
    refine ⟨r, a, m, row, one, mine, rfl, SqL.of (s1.at hr0), SqL.of (s1.at ha), s1.at hm, by omega, fun H2 s2 => ?_⟩
    have s02 := s1.trans s2
    have ob2 := s02.at ob
    clear s1 s2 ob1
    walk_at "rd"
    refine iteNB (fun h1 => ?_) (fun h1 => ?_)
    · walk_at "rd"
      rw [h1, Bool.false_and, Bool.false_and, Bool.false_and] at k
      exact k _ s02
    rw [h1, Bool.true_and] at k
    walk_at "rd"
    refine ⟨r, b, q, row, other, theirs, rfl, SqL.of (s02.at hr0), SqL.of (s02.at hb), s02.at hq, by omega, fun H3 s3 => ?_⟩
    have s03 := s02.trans s3
    have ob3 := s03.at ob
    clear s02 s3 ob2
    walk_at "rd"
    refine iteNB (fun h3 => ?_) (fun h3 => ?_)
    · walk_at "rd"
      rw [h3, Bool.false_and, Bool.false_and] at k
      exact k _ s03
    rw [h3, Bool.true_and] at k
    walk_at "rd"
    refine ⟨t, a, b, ls, tb, one, other, rfl, hT.same s03, s03.at ha, s03.at hb, n3, n4, fun H4 s4 => ?_⟩
    have s04 := s03.trans s4
    have ob4 := s04.at ob
    have hr4 := s04.at hr0
    have ha4 := s04.at ha
    have hb4 := s04.at hb
    have T4 := hT.same s04
    clear s03 s4 ob3
    walk_at "rd"
    refine iteB (fun h4 => ?_) (fun h4 => ?_)
    · have ok := Lf.tab_iff.mp h4
      have len := ok.len
      rw [h4, Bool.true_and] at k
      walk_at "rd"
      refine r_ixTabLast T4 (by omega) (fun l5 e5 hl5 => ?_)
      have ll : (tb.getD (tb.length - 1) []).length = other.length + 1 := by rw [show tb.length - 1 = one.length by omega]; exact ok.lens _ (Nat.le_refl _)
      walk_at "rd"
      refine r_ixLastD (SqL.of hl5) (by omega) ?_
      rw [show (tb.getD (tb.length - 1) []).getD ((tb.getD (tb.length - 1) []).length - 1) 0 = Lf.tlast tb from rfl]
      walk_at "rd"
      exact k _ s04
    · walk_at "rd"
      rw [h4, Bool.false_and] at k
      exact k _ s04
end

abbrev s_put_behind : Stmt := body.getD 35 (.Pass ⟨0, 0, 0, 0⟩)
abbrev N_put_behind : List Str := ["row", "places", "signs", "many"]
abbrev P_put_behind : List Str := ["row", "places", "signs", "many"]
theorem sc_put_behind : FnScope N_put_behind P_put_behind (defScope s_put_behind) := ⟨rfl, rfl, rfl, by decide, rfl, by decide, by decide⟩
abbrev s_shortest : Stmt := body.getD 36 (.Pass ⟨0, 0, 0, 0⟩)
abbrev N_shortest : List Str := ["one", "other", "first", "second", "table", "row", "mine", "theirs", "pair"]
abbrev P_shortest : List Str := ["one", "other"]
theorem sc_shortest : FnScope N_shortest P_shortest (defScope s_shortest) := ⟨rfl, rfl, rfl, by decide, rfl, by decide, by decide⟩
section
variable {P : Program} {w : World} {K : PySem.W.Frag} {mg : Str → Option Value} {base : Heap} {f f1 f2 f3 f4 f5 k_Both : Addr} {fd fd1 fd2 fd3 fd4 fd5 : FuncData}
def sp_put_behind : Sp := fun vs H Q _ => ∃ (r p s : Addr) (row places signs : List Int) (many : Nat), vs = [.ref r, .ref p, .ref s, .int many] ∧ H r = some (.lst (row.map V.int)) ∧ H p = some (.lst (places.map V.int)) ∧ H s = some (.lst (signs.map V.int)) ∧ r ≠ p ∧ r ≠ s ∧ p ≠ s ∧ many ≤ signs.length ∧ row.length ≤ 5000 ∧ signs.length ≤ 1000 ∧ places.length ≤ 1000 ∧
  ∀ H', SameBut [r, p] H H' → H' r = some (.lst ((row ++ (signs.drop places.length).take (many - places.length)).map V.int)) → H' p = some (.lst ((places ++ Lf.upTo row.length (many - places.length)).map V.int)) → Q .non H'
theorem ok_put_behind (F : Fun K "put_behind" "put_behind" s_put_behind f fd) (T : Blt mg) : FnOk P w K mg base CX0 1 f fd P_put_behind sp_put_behind := by
  refine F.ok sc_put_behind (fun vs H Q E h => ?_) (fun cdv A outer s H vs Q E hr h => ?_)
  · obtain ⟨_, _, _, _, _, _, _, rfl, _⟩ := h
    rfl
  · obtain ⟨r, p, s', row, places, signs, many, rfl, hr0, hp0, hs0, rp, rs, ps, hm, l1, l2, l3, k⟩ := h
    have nd := sc_put_behind.nd
    have hu := hr.units
    refine ⟨_, (pss_one (ps_while PassesOwn.never (pt_cmpR op_lt (pe_callB len_G rfl T.no_len boot_len (pa_cons (pv 1) pa_nil)) (pv 3) (nomark _)) (pss_cons (ps_expr (pe_bm PySem.F.plainAttrs_list PySem.F.slot_list_append PySem.F.type_list_append mr_append (pv 0) (pa_cons (pe_ix ix_G (pv 2) (pe_callB len_G rfl T.no_len boot_len (pa_cons (pv 1) pa_nil)) (fun _ _ => rfl)) pa_nil)))
     (pss_one (ps_expr (pe_bm PySem.F.plainAttrs_list PySem.F.slot_list_append PySem.F.type_list_append mr_append (pv 1) (pa_cons (pe_op op_sub (pe_callB len_G rfl T.no_len boot_len (pa_cons (pv 0) pa_nil)) pe_int) pa_nil))))))), ?_⟩
    try simp only [show (cxOf CX0 P w K mg base N_put_behind "put_behind" (defScope s_put_behind) f cdv A outer s H E).nox.K = K from rfl, show (cxOf CX0 P w K mg base N_put_behind "put_behind" (defScope s_put_behind) f cdv A outer s H E).K = K from rfl]
    rw [show L2.start N_put_behind [V.ref r, V.ref p, V.ref s', V.int many] = [some (V.ref r), some (V.ref p), some (V.ref s'), some (V.int many)] from rfl]
    refine r_while (fun m σ H2 => ∃ j : Nat, σ = [some (.ref r), some (.ref p), some (.ref s'), some (.int many)] ∧ j ≤ many - places.length ∧ SameBut [r, p] H H2 ∧ H2 s' = some (.lst (signs.map V.int)) ∧ H2 r = some (.lst ((row ++ (signs.drop places.length).take j).map V.int)) ∧ H2 p = some (.lst ((places ++ Lf.upTo row.length j).map V.int)) ∧ m = many - places.length - j) (many - places.length) ?_ ?_
    · refine ⟨0, rfl, Nat.zero_le _, fun b o h _ => h, hs0, ?_, ?_, by omega⟩
      · rw [List.take_zero, List.append_nil]; exact hr0
      · rw [show Lf.upTo row.length 0 = [] from rfl, List.append_nil]; exact hp0
    rintro m σ H2 ⟨j, rfl, hj, s2, hs2, hr2, hp2, rfl⟩
    have lp : (places ++ Lf.upTo row.length j).length = places.length + j := by rw [List.length_append, Lf.upTo_len]
    walk_at "rd"
    rw [lp]
    refine iteD (fun h1 => ?_) (fun h1 => ?_)
    · have hlt : places.length + j < signs.length := by omega
      have lr : (row ++ (signs.drop places.length).take j).length = row.length + j := by
        rw [List.length_append, List.length_take, List.length_drop]; omega
      refine r_turn ?_
      walk_at "rd"
      refine r_ixI (SqL.of hs2) (by omega) (by rw [lp]; omega) ?_
      rw [lp, Int.toNat_natCast]
      walk_at "rd"
      refine r_appI hr2 (by omega) ?_
      have hs3 := upd_keepNe (o := .lst ((row ++ (signs.drop places.length).take j ++ [signs.getD (places.length + j) 0]).map V.int)) hs2 (Ne.symm rs)
      have hp3 := upd_keepNe (o := .lst ((row ++ (signs.drop places.length).take j ++ [signs.getD (places.length + j) 0]).map V.int)) hp2 (Ne.symm rp)
      walk_at "rd"
      rw [List.length_append, lr, List.length_singleton]
      refine r_appI hp3 (by omega) ?_
      walk_at "rd"
      have e1 : row ++ (signs.drop places.length).take j ++ [signs.getD (places.length + j) 0] = row ++ (signs.drop places.length).take (j + 1) := by
        rw [List.append_assoc, List.take_succ_eq_append_getElem (by rw [List.length_drop]; omega), List.getElem_drop, List.getD_eq_getElem?_getD, List.getElem?_eq_getElem hlt]
        rfl
      have e2 : places ++ Lf.upTo row.length j ++ [((row.length + j + 1 : Nat) : Int) - 1] = places ++ Lf.upTo row.length (j + 1) := by
        rw [Lf.upTo_succ, List.append_assoc]
        congr 3
        omega
      rw [e1, e2]
      refine ⟨many - places.length - (j + 1), by omega, j + 1, rfl, by omega, (s2.upd (by simp)).upd (by simp), upd_keepNe (upd_keepNe hs2 (Ne.symm rs)) (Ne.symm ps), upd_keepNe upd_same rp, upd_same, rfl⟩
    · walk_at "rd"
      have e : many - places.length = j := by omega
      rw [e] at k
      exact k _ s2 hr2 hp2
theorem ok_shortest (F : Fun K "shortest" "shortest" s_shortest f fd) (T : Blt mg)
    (C_checked_row : Cal K mg "checked_row" f1 fd1 P_checked_row) (G_checked_row : FnOk P w K mg base CX0 3 f1 fd1 P_checked_row sp_checked_row)
    (C_least_table : Cal K mg "least_table" f2 fd2 P_least_table) (G_least_table : FnOk P w K mg base CX0 4 f2 fd2 P_least_table (sp_least_table K))
    (C_alike_pairs : Cal K mg "alike_pairs" f3 fd3 P_alike_pairs) (G_alike_pairs : FnOk P w K mg base CX0 4 f3 fd3 P_alike_pairs sp_alike_pairs)
    (C_put_behind : Cal K mg "put_behind" f5 fd5 P_put_behind) (G_put_behind : FnOk P w K mg base CX0 4 f5 fd5 P_put_behind sp_put_behind)
    (M_Both : Mak K mg "Both" k_Both f4 fd4 P_Both___init__) (G_Both___init__ : FnOk P w K mg base CX0 1 f4 fd4 P_Both___init__ (sp_init4 k_Both))
    : FnOk P w K mg base CX0 5 f fd P_shortest (sp_shortest k_Both) := by
  refine F.ok sc_shortest (fun vs H Q E h => ?_) (fun cdv A outer s H vs Q E hr h => ?_)
  · obtain ⟨_, _, _, _, rfl, _⟩ := h
    rfl
  · obtain ⟨a, b, one, other, rfl, ha, hb, l1, l2, k⟩ := h
    have nd := sc_shortest.nd
    have hu := hr.units
    refine ⟨_, (pss_cons (ps_set (i := 2) nd rfl (by first | exact Or.inl rfl | exact Or.inr rfl) (pe_call G_checked_row (hr.mono (by decide)) rfl C_checked_row.mg C_checked_row.kp C_checked_row.b .nil pass0 (pa_cons (pv 0) pa_nil)))
     (pss_cons (ps_set (i := 3) nd rfl (by first | exact Or.inl rfl | exact Or.inr rfl) (pe_call G_checked_row (hr.mono (by decide)) rfl C_checked_row.mg C_checked_row.kp C_checked_row.b .nil pass0 (pa_cons (pv 1) pa_nil)))
     (pss_cons (ps_set (i := 4) nd rfl (by first | exact Or.inl rfl | exact Or.inr rfl) (pe_call G_least_table (hr.mono (by decide)) rfl C_least_table.mg C_least_table.kp C_least_table.b .nil pass0 (pa_cons (pv 2) (pa_cons (pv 3) pa_nil))))
     (pss_cons (ps_set (i := 5) nd rfl (by first | exact Or.inl rfl | exact Or.inr rfl) (pe_lst pa_nil))
     (pss_cons (ps_set (i := 6) nd rfl (by first | exact Or.inl rfl | exact Or.inr rfl) (pe_lst pa_nil))
     (pss_cons (ps_set (i := 7) nd rfl (by first | exact Or.inl rfl | exact Or.inr rfl) (pe_lst pa_nil))
     (pss_cons (ps_for PassesOwn.never rfl (pi_list (pe_call G_alike_pairs (hr.mono (by decide)) rfl C_alike_pairs.mg C_alike_pairs.kp C_alike_pairs.b .nil pass0 (pa_cons (pv 4) (pa_cons (pv 2) (pa_cons (pv 3) pa_nil))))) (pg_name (i := 8) nd rfl (by first | exact Or.inl rfl | exact Or.inr rfl)) (pss_cons (ps_expr (pe_call G_put_behind (hr.mono (by decide)) rfl C_put_behind.mg C_put_behind.kp C_put_behind.b .nil pass0 (pa_cons (pv 5) (pa_cons (pv 7) (pa_cons (pv 3) (pa_cons (pe_ix ix_G (pv 8) pe_int (fun _ _ => rfl)) pa_nil))))))
     (pss_cons (ps_expr (pe_call G_put_behind (hr.mono (by decide)) rfl C_put_behind.mg C_put_behind.kp C_put_behind.b .nil pass0 (pa_cons (pv 5) (pa_cons (pv 6) (pa_cons (pv 2) (pa_cons (pe_op op_addG (pe_ix ix_G (pv 8) pe_int (fun _ _ => rfl)) pe_int) pa_nil))))))
     (pss_one (ps_expr (pe_bm PySem.F.plainAttrs_list PySem.F.slot_list_append PySem.F.type_list_append mr_append (pv 7) (pa_cons (pe_ix ix_G (pv 6) (pe_un un_neg pe_int) (fun _ _ => rfl)) pa_nil)))))))
     (pss_cons (ps_expr (pe_call G_put_behind (hr.mono (by decide)) rfl C_put_behind.mg C_put_behind.kp C_put_behind.b .nil pass0 (pa_cons (pv 5) (pa_cons (pv 6) (pa_cons (pv 2) (pa_cons (pe_callB len_G rfl T.no_len boot_len (pa_cons (pv 2) pa_nil)) pa_nil))))))
     (pss_cons (ps_expr (pe_call G_put_behind (hr.mono (by decide)) rfl C_put_behind.mg C_put_behind.kp C_put_behind.b .nil pass0 (pa_cons (pv 5) (pa_cons (pv 7) (pa_cons (pv 3) (pa_cons (pe_callB len_G rfl T.no_len boot_len (pa_cons (pv 3) pa_nil)) pa_nil))))))
     (pss_one (ps_ret (pe_make M_Both.mkk G_Both___init__ (hr.mono (by decide)) rfl M_Both.mg M_Both.b .nil pass0 (pa_cons (pv 5) (pa_cons (pv 6) (pa_cons (pv 7) (pa_cons (pv 4) pa_nil)))))))))))))))), ?_⟩
    try simp only [show (cxOf CX0 P w K mg base N_shortest "shortest" (defScope s_shortest) f cdv A outer s H E).nox.K = K from rfl, show (cxOf CX0 P w K mg base N_shortest "shortest" (defScope s_shortest) f cdv A outer s H E).K = K from rfl]
    rw [show L2.start N_shortest [V.ref a, V.ref b] = [some (V.ref a), some (V.ref b), none, none, none, none, none, none, none] from rfl]
    walk_at "rd"
    refine ⟨a, one, rfl, ha, by omega, fun a2 H1 ha2 s1 h1 => ?_⟩
    walk_at "rd"
    refine ⟨b, other, rfl, s1.at hb, by omega, fun b2 H2 hb2 s2 h2 => ?_⟩
    have h12 := s2.at h1
    have a2b2 : a2 ≠ b2 := ne_of_none h1 hb2
    walk_at "rd"
    refine ⟨a2, b2, one, other, rfl, SqL.of h12, SqL.of h2, l1, l2, fun t ls tb H3 ht fr ndl tls s3 hT L => ?_⟩
    have s03 : Same H H3 := (s1.trans s2).trans s3
    have a3 := s3.at h12
    have b3 := s3.at h2
    have a20 : H a2 = none := ha2
    have b20 : H b2 = none := s1.free hb2
    have t0 : H t = none := (s1.trans s2).free ht
    have fr0 : ∀ l ∈ ls, H l = none := fun l hl => (s1.trans s2).free (fr l hl)
    have lens := L.len
    clear s1 s2 s3 h12 h1 h2 ht fr ha2 hb2
    walk_at "rd"
    intro r hr3
    have H4s := Same.upd_new (o := .lst []) hr3
    walk_at "rd"
    intro m hm
    walk_at "rd"
    intro q hq
    have rm : r ≠ m := ne_of_none upd_same hm
    have rq : r ≠ q := ne_of_none (upd_keep upd_same hm) hq
    have mq : m ≠ q := ne_of_none upd_same hq
    have s36 : Same H3 (upd (upd (upd H3 r (.lst [])) m (.lst [])) q (.lst [])) := ((Same.upd_new hr3).trans (Same.upd_new hm)).trans (Same.upd_new hq)
    have r6 : (upd (upd (upd H3 r (.lst [])) m (.lst [])) q (.lst [])) r = some (.lst (([] : List Int).map V.int)) := upd_keep (upd_keep upd_same hm) hq
    have m6 : (upd (upd (upd H3 r (.lst [])) m (.lst [])) q (.lst [])) m = some (.lst (([] : List Int).map V.int)) := upd_keep upd_same hq
    have q6 : (upd (upd (upd H3 r (.lst [])) m (.lst [])) q (.lst [])) q = some (.lst (([] : List Int).map V.int)) := upd_same
    simp only [List.map_nil]
    rw [List.map_nil] at r6 m6 q6
    generalize (upd (upd (upd H3 r (.lst [])) m (.lst [])) q (.lst [])) = H6 at s36 r6 m6 q6 ⊢
    rw [show HO.lst [] = .lst (([] : List Int).map V.int) from rfl] at r6 m6 q6
    have r0 : H r = none := s03.free hr3
    have m0 : H m = none := s03.free (free_upd hm)
    have q0 : H q = none := s03.free (free_upd (free_upd hq))
    have ne3 : ∀ {c o}, H3 c = some o → c ≠ r ∧ c ≠ m ∧ c ≠ q := fun {c o} hc => ⟨ne_of_none hc hr3, ne_of_none hc (free_upd hm), ne_of_none hc (free_upd (free_upd hq))⟩
    have na := ne3 a3
    have nb := ne3 b3
    have nt := ne3 hT.at_
    have nl : ∀ l ∈ ls, l ≠ r ∧ l ≠ m ∧ l ≠ q := fun l hl => by
      obtain ⟨n, hn⟩ := List.getElem?_of_mem hl
      exact ne3 (hT.row n l hn)
    have a6 := s36.at a3
    have b6 := s36.at b3
    have T6 := hT.same s36
    have s06 := s03.trans s36
    clear s03 s36 hr3 hm hq a3 b3 hT H4s ne3
    walk_at "rd"
    refine ⟨t, a2, b2, ls, tb, one, other, rfl, a6, b6, T6, L, l1, l2, fun p ts ps H7 hp s7 hP A hl => ?_⟩
    have s07 := s06.trans s7
    have T7 := T6.same s7
    have a7 := s7.at a6
    have b7 := s7.at b6
    have r7 := s7.at r6
    have m7 := s7.at m6
    have q7 := s7.at q6
    have np : p ≠ r ∧ p ≠ m ∧ p ≠ q := ⟨Ne.symm (ne_of_none r6 hp), Ne.symm (ne_of_none m6 hp), Ne.symm (ne_of_none q6 hp)⟩
    clear s06 s7 T6 a6 b6 r6 m6 q6
    have lps : ps.length ≤ 1000 := by
      have := Lf.rising_len _ _ _ A.mine
      rw [List.length_map] at this
      omega
    have tsn : ∀ c ∈ ts, c ≠ r ∧ c ≠ m ∧ c ≠ q := fun c hc => by
      obtain ⟨n, hn⟩ := List.getElem?_of_mem hc
      have := hP.row n c hn
      exact ⟨fun e => (by rw [e, r7] at this; cases this), fun e => (by rw [e, m7] at this; cases this), fun e => (by rw [e, q7] at this; cases this)⟩
    have pa := hP.at_
    walk_at "rd"
    refine for_by (ov_prs hP.len) (fun i σ H8 => ∃ (row mine theirs : List Int) (mm nn : Nat) (v8 : Option V), σ = [some (.ref a), some (.ref b), some (.ref a2), some (.ref b2), some (.ref t), some (.ref r), some (.ref m), some (.ref q), v8] ∧ SameBut [r, m, q] H7 H8 ∧ H8 r = some (.lst (row.map V.int)) ∧ H8 m = some (.lst (mine.map V.int)) ∧ H8 q = some (.lst (theirs.map V.int)) ∧ Lf.Sh one other row mine theirs mm nn i ∧ mm ≤ one.length ∧ nn ≤ other.length ∧ Lf.AP one other ((mm : Int) - 1) ((nn : Int) - 1) (ps.drop i)) ?_ ?_ ?_ ?_
    · exact ⟨[], [], [], 0, 0, _, rfl, fun _ _ h _ => h, r7, m7, q7, Lf.Sh.start one other, Nat.zero_le _, Nat.zero_le _, by simpa using A⟩
    · rintro i σ H8 _ ⟨_, _, _, _, _, _, _, s8, _⟩
      exact ⟨s8.at hP.at_ (by simpa using np), hP.len, fun i l hl => s8.at (hP.row i l hl) (by simpa using tsn l (List.mem_of_getElem? hl))⟩
    · rintro i ⟨u, v⟩ x' σ H8 H9 hy ⟨row, mine, theirs, mm, nn, v8, rfl, s8, r8, m8, q8, S, lm, ln, A8⟩ ⟨rfl, rfl, hu'⟩
      obtain ⟨hi, ez⟩ := List.getElem?_eq_some_iff.mp hy
      rw [List.length_zip] at hi
      have ips : i < ps.length := by omega
      rw [List.getElem_zip] at ez
      have ev : ps[i] = v := congrArg Prod.snd ez
      obtain ⟨v1, v2⟩ := v
      rw [List.drop_eq_getElem_cons ips, ev] at A8
      obtain ⟨q1, q2, q3⟩ := A8
      have al := q3 (v1, v2) List.mem_cons_self
      rw [List.map_cons, Lf.rising] at q1 q2
      simp only [Bool.and_eq_true, decide_eq_true_eq] at q1 q2 al
      obtain ⟨vi, rfl⟩ : ∃ n : Nat, v1 = n := ⟨v1.toNat, by omega⟩
      obtain ⟨vj, rfl⟩ : ∃ n : Nat, v2 = n := ⟨v2.toNat, by omega⟩
      rw [Int.toNat_natCast, Int.toNat_natCast] at al
      have sl := S.len
      have slm := S.lm
      have sln := S.ln
      have b8 := s8.at b7 (by simpa using nb)
      have a8 := s8.at a7 (by simpa using na)
      simp only at hu'
      walk_at "rd"
      refine r_ixT hu' rfl ?_
      walk_at "rd"
      refine ⟨r, q, b2, row, theirs, other, vj, rfl, r8, q8, b8, rq, Ne.symm nb.1, Ne.symm nb.2.2, by omega, by omega, by omega, by omega, fun H10 s10 r10 q10 => ?_⟩
      rw [sln] at r10 q10
      have S10 := S.theirs (n' := vj) (by omega) (by omega)
      have m10 := s10.at m8 (by simpa using ⟨Ne.symm rm, mq⟩)
      have a10 := s10.at a8 (by simpa using ⟨na.1, na.2.2⟩)
      have u10 := s10.at hu' (by
        have := tsn u (by
          have h' : ts[i] = u := congrArg Prod.fst ez
          rw [← h']; exact List.getElem_mem _)
        simpa using ⟨this.1, this.2.2⟩)
      have sl10 := S10.len
      walk_at "rd"
      refine r_ixT u10 rfl ?_
      walk_at "rd"
      refine ⟨r, m, a2, _, mine, one, vi + 1, rfl, r10, m10, a10, rm, Ne.symm na.1, Ne.symm na.2.1, by omega, by omega, by omega, by omega, fun H11 s11 r11 m11 => ?_⟩
      rw [slm] at r11 m11
      have S11 := S10.pair (i := vi) (by omega) (by omega) (by omega) al
      have q11 := s11.at q10 (by simpa using ⟨Ne.symm rq, Ne.symm mq⟩)
      walk_at "rd"
      refine r_ixLastD (SqL.of m11) (by rw [List.length_append, Lf.upTo_len]; omega) ?_
      rw [Lf.upTo_last _ (by omega)]
      have e3 : vi + 1 - mm - 1 = vi - mm := by omega
      rw [e3]
      walk_at "rd"
      refine r_appI q11 (by rw [List.length_append, Lf.upTo_len]; omega) ?_
      walk_at "rd"
      refine ⟨_, _, _, vi + 1, vj + 1, _, rfl, ?_, upd_keepNe r11 rq, upd_keepNe m11 mq, upd_same, S11, by omega, by omega, ?_⟩
      · intro c o hc hn
        have hn' : ¬ c = r ∧ ¬ c = m ∧ ¬ c = q := by simpa using hn
        exact upd_keepNe (s11 c o (s10 c o (s8 c o hc hn) (by simpa using ⟨hn'.1, hn'.2.2⟩)) (by simpa using ⟨hn'.1, hn'.2.1⟩)) hn'.2.2
      · refine ⟨?_, ?_, fun p hp => q3 p (List.mem_cons_of_mem _ hp)⟩
        · have : ((vi + 1 : Nat) : Int) - 1 = (vi : Int) := by omega
          rw [this]; exact q1.2
        · have : ((vj + 1 : Nat) : Int) - 1 = (vj : Int) := by omega
          rw [this]; exact q2.2
    · rintro σ H8 ⟨row, mine, theirs, mm, nn, v8, rfl, s8, r8, m8, q8, S, lm, ln, A8⟩
      rw [List.length_zip, hP.len, Nat.min_self] at S
      have sl := S.len
      have slm := S.lm
      have sln := S.ln
      have b8 := s8.at b7 (by simpa using nb)
      have a8 := s8.at a7 (by simpa using na)
      walk_at "rd"
      refine ⟨r, m, a2, row, mine, one, one.length, rfl, r8, m8, a8, rm, Ne.symm na.1, Ne.symm na.2.1, by omega, by omega, by omega, by omega, fun H10 s10 r10 m10 => ?_⟩
      rw [slm] at r10 m10
      have S10 := S.mine (m' := one.length) (by omega) (by omega)
      have q10 := s10.at q8 (by simpa using ⟨Ne.symm rq, Ne.symm mq⟩)
      have b10 := s10.at b8 (by simpa using ⟨nb.1, nb.2.1⟩)
      have sl10 := S10.len
      walk_at "rd"
      refine ⟨r, q, b2, _, theirs, other, other.length, rfl, r10, q10, b10, rq, Ne.symm nb.1, Ne.symm nb.2.2, by omega, by omega, by omega, by omega, fun H11 s11 r11 q11 => ?_⟩
      rw [sln] at r11 q11
      have S11 := S10.theirs (n' := other.length) (by omega) (by omega)
      have m11 := s11.at m10 (by simpa using ⟨Ne.symm rm, mq⟩)
      have s711 : SameBut [r, m, q] H7 H11 := fun c o hc hn => by
        have hn' : ¬ c = r ∧ ¬ c = m ∧ ¬ c = q := by simpa using hn
        exact s11 c o (s10 c o (s8 c o hc hn) (by simpa using ⟨hn'.1, hn'.2.1⟩)) (by simpa using ⟨hn'.1, hn'.2.2⟩)
      have T11 : Tab H11 t ls tb := ⟨s711.at T7.at_ (by simpa using nt), T7.len, fun i l hl => s711.at (T7.row i l hl) (by simpa using nl l (List.mem_of_getElem? hl))⟩
      have s011 : Same H H11 := fun c o hc => s711 c o (s07 c o hc) (by simpa using ⟨ne_of_none hc r0, ne_of_none hc m0, ne_of_none hc q0⟩)
      have B := S11.both L hl
      generalize (row ++ (one.drop mm).take (one.length - mm)) ++ (other.drop nn).take (other.length - nn) = rowF at r11 B
      generalize mine ++ Lf.upTo row.length (one.length - mm) = mineF at m11 B
      generalize theirs ++ Lf.upTo (row ++ (one.drop mm).take (one.length - mm)).length (other.length - nn) = theirsF at q11 B
      clear s10 s11 r10 m10 q10 b10 S S10 S11 r8 m8 q8 a8 b8 s8 sl slm sln sl10 A8 s711 T7 r7 m7 q7 a7 b7 hP pa s07
      walk_at "rd"
      intro x dx hx hdx xdx
      have hD6 : ∀ {c o}, H11 c = some o → (upd (upd H11 dx (.own x)) x (.ins k_Both dx [])) c = some o := fun {c o} hc => upd_keepNe (upd_keep hc hdx) (ne_of_none hc hx)
      refine ⟨x, dx, r, m, q, t, ls, _, _, _, tb, rfl, upd_same, hD6 r11, hD6 m11, hD6 q11, ⟨hD6 T11.at_, T11.len, fun i l hl => hD6 (T11.row i l hl)⟩, by omega, fun fs r' m' q' t' ls' H12 hr' hm' hq' ht' fr' ap s12 BA => ⟨rfl, ?_⟩⟩
      have f0 : ∀ c, (upd (upd H11 dx (.own x)) x (.ins k_Both dx [])) c = none → H c = none := fun c hc => s011.free (free_upd (free_upd hc))
      refine k x dx fs r' m' q' t' ls' _ _ _ tb H12 (s011.free hx) (f0 _ hr') (f0 _ hm') (f0 _ hq') (f0 _ ht') (fun l hl => f0 l (fr' l hl)) ap ?_ BA B
      intro c o hc
      exact s12 c o (hD6 (s011 _ _ hc)) (by simpa using ne_of_none hc (s011.free hx))
end

abbrev s__law_row : Stmt := body.getD 38 (.Pass ⟨0, 0, 0, 0⟩)
abbrev N__law_row : List Str := ["_law_cells", "_law_code", "_law_most"]
abbrev P__law_row : List Str := ["_law_cells", "_law_code"]
theorem sc__law_row : FnScope N__law_row P__law_row (defScope s__law_row) := ⟨rfl, rfl, rfl, by decide, rfl, by decide, by decide⟩
section
variable {P : Program} {w : World} {K : PySem.W.Frag} {mg : Str → Option Value} {base : Heap} {f : Addr} {fd : FuncData}
def sp__law_row (K : PySem.W.Frag) : Sp := fun vs H Q _ => ∃ (a : Addr) (cells : List Int) (code : Int), vs = [.ref a, .int code] ∧ SqL K H a (cells.map V.int) ∧ cells.length ≤ 1000000 ∧ ∀ p H', H p = none → Same H H' → H' p = some (.lst ((Lf.lrow cells code).map V.int)) → Q (.ref p) H'
theorem most_at (code : Int) : atI [V.int 2, V.int 3, V.int 5, V.int (10 ^ (30 : Int).toNat)] (code % 4) = some (V.int (Lf.most code)) := by
  have h : code % 4 = 0 ∨ code % 4 = 1 ∨ code % 4 = 2 ∨ code % 4 = 3 := by omega
  unfold Lf.most
  rcases h with h | h | h | h <;> rw [h] <;> rfl
theorem ok__law_row (F : Fun K "_law_row" "_law_row" s__law_row f fd) (T : Blt mg) : FnOk P w K mg base CX0 1 f fd P__law_row (sp__law_row K) := by
  refine F.ok sc__law_row (fun vs H Q E h => ?_) (fun cdv A outer s H vs Q E hr h => ?_)
  · obtain ⟨_, _, _, rfl, _⟩ := h
    rfl
  · obtain ⟨a, cells, code, rfl, ha, hn, k⟩ := h
    have nd := sc__law_row.nd
    have hu := hr.units
    refine ⟨_, (pss_cons (ps_set (i := 2) nd rfl (by first | exact Or.inl rfl | exact Or.inr rfl) (pe_ix ix_G (pe_tup (pa_cons pe_int (pa_cons pe_int (pa_cons pe_int (pa_cons (pe_op op_pow pe_int pe_int) pa_nil))))) (pe_op op_mod (pv 1) pe_int) (fun _ _ => rfl)))
     (pss_cons (ps_if (pt_cmpR (op_eqG hu) (pe_op op_mod (pe_op op_fdiv (pv 1) pe_int) pe_int) pe_int (nomark _)) (pss_one (ps_ret (pe_comp (N := ["_law_cell", "_law_most"]) (k := 1) (caps := [2]) (Block.of (by kernel_rfl)) rfl (pi_list (pv 0)) (fun _ _ _ _ => ⟨_, (pg_name (i := 0) (by show List.Nodup (["_law_cell", "_law_most"] : List Str); decide) rfl (by first | exact Or.inl rfl | exact Or.inr rfl)), by walk_at "ce"⟩) (fun _ _ _ _ => ⟨_, PIfs.none, by walk_at "ce"⟩) (fun _ _ _ _ => ⟨_, (pe_op op_mulG (pe_op op_sub (pe_op op_mod (pv 0) (pv 1)) pe_int) (pe_op op_pow pe_int pe_int)), by walk_at "ce"⟩)))) pss_nil)
     (pss_one (ps_ret (pe_comp (N := ["_law_cell", "_law_most"]) (k := 1) (caps := [2]) (Block.of (by kernel_rfl)) rfl (pi_list (pv 0)) (fun _ _ _ _ => ⟨_, (pg_name (i := 0) (by show List.Nodup (["_law_cell", "_law_most"] : List Str); decide) rfl (by first | exact Or.inl rfl | exact Or.inr rfl)), by walk_at "ce"⟩) (fun _ _ _ _ => ⟨_, PIfs.none, by walk_at "ce"⟩) (fun _ _ _ _ => ⟨_, (pe_op op_mod (pv 0) (pv 1)), by walk_at "ce"⟩)))))), ?_⟩
    try simp only [show (cxOf CX0 P w K mg base N__law_row "_law_row" (defScope s__law_row) f cdv A outer s H E).nox.K = K from rfl, show (cxOf CX0 P w K mg base N__law_row "_law_row" (defScope s__law_row) f cdv A outer s H E).K = K from rfl]
    rw [show L2.start N__law_row [V.ref a, V.int code] = [some (V.ref a), some (V.int code), none] from rfl]
    walk_at "rd"
    intro p hp
    walk_at "rd"
    refine r_ixT (by walk_at "ft") (most_at code) ?_
    have s1 : Same H (upd H p (.tup [V.int 2, V.int 3, V.int 5, V.int (10 ^ (30 : Int).toNat)])) := Same.upd_new hp
    have mp := Lf.most_pos code
    have ml := Lf.most_le code
    walk_at "rd"
    refine iteD (fun h => ?_) (fun h => ?_)
    · walk_at "rd"
      refine comp_map (ov_ints (ns := cells)) (fun c => .int ((c % Lf.most code - 1) * 10 ^ 30)) (fun H' s' => (s1.trans s').seq ha) hn ?_ ?_
      · rintro i z x H3 H4 R R' hi s3 ⟨rfl, rfl⟩ h1
        walk_at "rd"
        refine ⟨⟨rfl, rfl⟩, ?_⟩
        walk_at "rd"
        refine r_rI (mulOk200 ?_ ?_) ?_
        · have a1 := Int.emod_nonneg z (Int.ne_of_gt mp)
          have a2 := Int.emod_lt_of_pos z mp
          have a4 : (10 : Int) ^ 30 < (2 ^ 200 : Nat) := by decide
          omega
        · decide
        · walk_at "rd"
          exact h1 _ (Same.refl _)
      · intro D H' hD s' hd
        walk_at "rd"
        refine k D H' ((s1).free hD) (s1.trans s') ?_
        rw [hd]
        unfold Lf.lrow
        rw [if_pos h]
        rw [List.map_map]; rfl
    · walk_at "rd"
      refine comp_map (ov_ints (ns := cells)) (fun c => .int (c % Lf.most code)) (fun H' s' => (s1.trans s').seq ha) hn ?_ ?_
      · rintro i z x H3 H4 R R' hi s3 ⟨rfl, rfl⟩ h1
        walk_at "rd"
        refine ⟨⟨rfl, rfl⟩, ?_⟩
        walk_at "rd"
        exact h1 _ (Same.refl _)
      · intro D H' hD s' hd
        walk_at "rd"
        refine k D H' ((s1).free hD) (s1.trans s') ?_
        rw [hd]
        unfold Lf.lrow
        rw [if_neg h]
        rw [List.map_map]; rfl
end

abbrev s__law_numbers : Stmt := body.getD 39 (.Pass ⟨0, 0, 0, 0⟩)
abbrev N__law_numbers : List Str := ["_law_found"]
abbrev P__law_numbers : List Str := ["_law_found"]
theorem sc__law_numbers : FnScope N__law_numbers P__law_numbers (defScope s__law_numbers) := ⟨rfl, rfl, rfl, by decide, rfl, by decide, by decide⟩
section
variable {P : Program} {w : World} {K : PySem.W.Frag} {mg : Str → Option Value} {base : Heap} {f : Addr} {fd : FuncData}
def sp__law_numbers (K : PySem.W.Frag) : Sp := fun vs H Q _ => ∃ (a : Addr) (ns : List Int), vs = [.ref a] ∧ H a = some (.lst (ns.map V.int)) ∧ ns.length ≤ 1000000 ∧ ∀ H', Same H H' → Q (.bl true) H'
theorem ok__law_numbers (F : Fun K "_law_numbers" "_law_numbers" s__law_numbers f fd) (T : Blt mg) : FnOk P w K mg base CX0 1 f fd P__law_numbers (sp__law_numbers K) := by
  refine F.ok sc__law_numbers (fun vs H Q E h => ?_) (fun cdv A outer s H vs Q E hr h => ?_)
  · obtain ⟨_, _, rfl, _⟩ := h
    rfl
  · obtain ⟨a, ns, rfl, ha, hn, k⟩ := h
    have nd := sc__law_numbers.nd
    have hu := hr.units
    refine ⟨_, (pss_cons (ps_if (pt_not (pt_val (pe_callB call_isinst rfl T.no_isinstance boot_isinstance (pa_cons (pv 0) (pa_cons (pe_bty rfl T.no_list boot_list) pa_nil))))) (pss_one (ps_ret pe_bl)) pss_nil)
     (pss_one (ps_ret (pe_callB (call_allB rfl) rfl T.no_all boot_all (pa_cons (pe_comp (N := ["_law_one"]) (k := 1) (caps := []) (Block.of (by kernel_rfl)) rfl (pi_list (pv 0)) (fun _ _ _ _ => ⟨_, (pg_name (i := 0) (by show List.Nodup (["_law_one"] : List Str); decide) rfl (by first | exact Or.inl rfl | exact Or.inr rfl)), by walk_at "ce"⟩) (fun _ _ _ _ => ⟨_, PIfs.none, by walk_at "ce"⟩) (fun _ _ _ _ => ⟨_, (pe_and (pe_callB call_isinst rfl T.no_isinstance boot_isinstance (pa_cons (pv 0) (pa_cons (pe_bty rfl T.no_int boot_int) pa_nil))) (pe_one (pe_not (pe_callB call_isinst rfl T.no_isinstance boot_isinstance (pa_cons (pv 0) (pa_cons (pe_bty rfl T.no_bool boot_bool) pa_nil)))))), by walk_at "ce"⟩)) pa_nil))))), ?_⟩
    try simp only [show (cxOf CX0 P w K mg base N__law_numbers "_law_numbers" (defScope s__law_numbers) f cdv A outer s H E).nox.K = K from rfl, show (cxOf CX0 P w K mg base N__law_numbers "_law_numbers" (defScope s__law_numbers) f cdv A outer s H E).K = K from rfl]
    rw [show L2.start N__law_numbers [V.ref a] = [some (V.ref a)] from rfl]
    walk_at "rd"
    refine comp_map (ov_ints (ns := ns)) (fun _ => .bl true) (fun H' s' => s'.seq (SqL.of ha)) hn ?_ ?_
    · rintro i z x H3 H4 R R' hi s3 ⟨rfl, rfl⟩ h1
      walk_at "rd"
      refine ⟨⟨rfl, rfl⟩, ?_⟩
      walk_at "rd"
      exact h1 _ (Same.refl _)
    · intro D H' hD s' hd
      walk_at "rd"
      refine ⟨D, ns.map (fun _ => true), rfl, SqL.of ?_, ?_⟩
      · rw [hd]
        rw [List.map_map]; rfl
      · rw [all_true]
        exact k _ s'
end

abbrev s__law_stands : Stmt := body.getD 40 (.Pass ⟨0, 0, 0, 0⟩)
abbrev N__law_stands : List Str := ["_law_row_here", "_law_places", "_law_other", "_law_last", "_law_place", "_law_sign"]
abbrev P__law_stands : List Str := ["_law_row_here", "_law_places", "_law_other"]
theorem sc__law_stands : FnScope N__law_stands P__law_stands (defScope s__law_stands) := ⟨rfl, rfl, rfl, by decide, rfl, by decide, by decide⟩
section
variable {P : Program} {w : World} {K : PySem.W.Frag} {mg : Str → Option Value} {base : Heap} {f : Addr} {fd : FuncData}
def sp__law_stands (K : PySem.W.Frag) : Sp := fun vs H Q _ => ∃ (a b c : Addr) (row ps other : List Int), vs = [.ref a, .ref b, .ref c] ∧ SqL K H a (row.map V.int) ∧ SqL K H b (ps.map V.int) ∧ SqL K H c (other.map V.int) ∧ ∀ H', Same H H' → Q (.bl (Lf.stands row ps other)) H'
theorem ok__law_stands (F : Fun K "_law_stands" "_law_stands" s__law_stands f fd) (T : Blt mg) : FnOk P w K mg base CX0 1 f fd P__law_stands (sp__law_stands K) := by
  refine F.ok sc__law_stands (fun vs H Q E h => ?_) (fun cdv A outer s H vs Q E hr h => ?_)
  · obtain ⟨_, _, _, _, _, _, rfl, _⟩ := h
    rfl
  · obtain ⟨a, b, c, row, ps, other, rfl, ha, hb, hc, k⟩ := h
    have nd := sc__law_stands.nd
    have hu := hr.units
    refine ⟨_, (pss_cons (ps_if (pt_cmpR (op_neG hu) (pe_callB len_G rfl T.no_len boot_len (pa_cons (pv 1) pa_nil)) (pe_callB len_G rfl T.no_len boot_len (pa_cons (pv 2) pa_nil)) (nomark _)) (pss_one (ps_ret pe_bl)) pss_nil)
     (pss_cons (ps_set (i := 3) nd rfl (by first | exact Or.inl rfl | exact Or.inr rfl) (pe_un un_neg pe_int))
     (pss_cons (ps_for PassesOwn.never rfl (pi_zip rfl T.no_zip boot_zip (pa_cons (pv 1) (pa_cons (pv 2) pa_nil))) (pg_tup (n := 2) rfl (pgs_cons (pg_name (i := 4) nd rfl (by first | exact Or.inl rfl | exact Or.inr rfl)) (pgs_cons (pg_name (i := 5) nd rfl (by first | exact Or.inl rfl | exact Or.inr rfl)) pgs_nil))) (pss_cons (ps_if (PW.pt (pw_or (pt_not (pt_chain op_lt op_lt (pv 3) (pv 4) (pe_callB len_G rfl T.no_len boot_len (pa_cons (pv 0) pa_nil)))) (pw_or1 (pt_cmpR (op_neG hu) (pe_ix ix_G (pv 0) (pv 4) (fun _ _ => rfl)) (pv 5) (nomark _))))) (pss_one (ps_ret pe_bl)) pss_nil)
     (pss_one (ps_set (i := 3) nd rfl (by first | exact Or.inl rfl | exact Or.inr rfl) (pv 4)))))
     (pss_one (ps_ret pe_bl))))), ?_⟩
    try simp only [show (cxOf CX0 P w K mg base N__law_stands "_law_stands" (defScope s__law_stands) f cdv A outer s H E).nox.K = K from rfl, show (cxOf CX0 P w K mg base N__law_stands "_law_stands" (defScope s__law_stands) f cdv A outer s H E).K = K from rfl]
    rw [show L2.start N__law_stands [V.ref a, V.ref b, V.ref c] = [some (V.ref a), some (V.ref b), some (V.ref c), none, none, none] from rfl]
    walk_at "rd"
    refine iteND (fun h => ?_) (fun h => ?_)
    · walk_at "rd"
      have e : Lf.stands row ps other = false := by
        unfold Lf.stands
        have : ¬ ps.length = other.length := by omega
        simp [this]
      rw [← e]
      exact k _ (Same.refl _)
    · have hl : ps.length = other.length := by omega
      walk_at "rd"
      refine for_by (ov_zipI (xs := ps) (ys := other)) (fun i σ H2 => ∃ (last : Int) (v4 v5 : Option V), σ = [some (.ref a), some (.ref b), some (.ref c), some (.int last), v4, v5] ∧ Same H H2 ∧ -1 ≤ last ∧ Lf.standsFrom row (-1) ps other = Lf.standsFrom row last (ps.drop i) (other.drop i)) ?_ ?_ ?_ ?_
      · exact ⟨-1, none, none, rfl, Same.refl _, by omega, rfl⟩
      · rintro i σ H2 _ ⟨_, _, _, _, s2, _⟩
        exact ⟨s2.seq hb, s2.seq hc⟩
      · rintro i ⟨p, x⟩ xv σ H2 H3 hy ⟨last, v4, v5, rfl, s2, hl1, inv⟩ ⟨T', hT, rfl, rfl⟩
        obtain ⟨e1, e2⟩ := List.getElem?_zip_eq_some.mp hy
        have step : Lf.standsFrom row last (ps.drop i) (other.drop i) = (decide (last < p) && decide (p < (row.length : Int)) && decide (row.getD p.toNat 0 = x) && Lf.standsFrom row p (ps.drop (i + 1)) (other.drop (i + 1))) := by
          obtain ⟨l1, e1⟩ := List.getElem?_eq_some_iff.mp e1
          obtain ⟨l2, e2⟩ := List.getElem?_eq_some_iff.mp e2
          rw [List.drop_eq_getElem_cons l1, List.drop_eq_getElem_cons l2, e1, e2]
          rfl
        have st : Lf.stands row ps other = Lf.standsFrom row last (ps.drop i) (other.drop i) := by
          unfold Lf.stands
          rw [inv]
          simp [hl]
        have bad : (decide (last < p) && decide (p < (row.length : Int)) && decide (row.getD p.toNat 0 = x)) = false → ∀ H', Same H H' → Q (.bl false) H' := fun e H' s' => by
          have := k H' s'
          rw [st, step, e, Bool.false_and] at this
          exact this
        have s3 : Same H (upd H2 T' (.tup [V.int p, V.int x])) := s2.trans (Same.upd_new hT)
        walk_at "rd"
        refine iteD (fun h1 => ?_) (fun h1 => ?_)
        · walk_at "rd"
          refine iteND (fun h2 => ?_) (fun h2 => ?_)
          · walk_at "rd"
            exact bad (by rw [decide_eq_false h2, Bool.and_false, Bool.false_and]) _ s3
          · walk_at "rd"
            refine r_ixI (by walk_at "ft") (by omega) (by omega) ?_
            walk_at "rd"
            refine iteND (fun h3 => ?_) (fun h3 => ?_)
            · walk_at "rd"
              exact bad (by rw [decide_eq_false h3, Bool.and_false]) _ s3
            · walk_at "rd"
              refine ⟨p, _, _, rfl, s3, by omega, ?_⟩
              rw [inv, step, decide_eq_true h1, decide_eq_true h2, decide_eq_true h3]
              simp only [Bool.true_and]
        · walk_at "rd"
          exact bad (by rw [decide_eq_false h1, Bool.false_and, Bool.false_and]) _ s3
      · rintro σ H2 ⟨last, v4, v5, rfl, s2, hl1, inv⟩
        walk_at "rd"
        have e : Lf.stands row ps other = true := by
          unfold Lf.stands
          rw [inv, List.length_zip, hl]
          simp [Lf.standsFrom, ← hl]
        rw [← e]
        exact k _ s2
end

abbrev s__law_table : Stmt := body.getD 41 (.Pass ⟨0, 0, 0, 0⟩)
abbrev N__law_table : List Str := ["_law_one", "_law_other", "_law_table_here", "_law_i", "_law_j"]
abbrev P__law_table : List Str := ["_law_one", "_law_other", "_law_table_here"]
theorem sc__law_table : FnScope N__law_table P__law_table (defScope s__law_table) := ⟨rfl, rfl, rfl, by decide, rfl, by decide, by decide⟩
section
variable {P : Program} {w : World} {K : PySem.W.Frag} {mg : Str → Option Value} {base : Heap} {f : Addr} {fd : FuncData}
def sp__law_table : Sp := fun vs H Q _ => ∃ (a b t : Addr) (ls : List Addr) (one other : List Int) (tb : List (List Int)), vs = [.ref a, .ref b, .ref t] ∧ H a = some (.lst (one.map V.int)) ∧ H b = some (.lst (other.map V.int)) ∧ Tab H t ls tb ∧ tb.length ≤ 1000 ∧ other.length ≤ 1000 ∧ ∀ H', Same H H' → Q (.bl (Lf.tab one other tb)) H'
theorem ok__law_table (F : Fun K "_law_table" "_law_table" s__law_table f fd) (T : Blt mg) : FnOk P w K mg base CX0 1 f fd P__law_table sp__law_table := by
  refine F.ok sc__law_table (fun vs H Q E h => ?_) (fun cdv A outer s H vs Q E hr h => ?_)
  · obtain ⟨_, _, _, _, _, _, _, rfl, _⟩ := h
    rfl
  · obtain ⟨a, b, t, ls, one, other, tb, rfl, ha, hb, hT, hn, hm, k⟩ := h
    have nd := sc__law_table.nd
    have hu := hr.units
    have no : ¬ Lf.TabOk one other tb → ∀ H', Same H H' → Q (.bl false) H' := fun h H' s' => by
      have := k H' s'
      rw [Lf.tab_false h] at this
      exact this
    refine ⟨_, (pss_cons (ps_if (PW.pt (pw_or (pt_cmpR (op_neG hu) (pe_callB len_G rfl T.no_len boot_len (pa_cons (pv 2) pa_nil)) (pe_op op_addG (pe_callB len_G rfl T.no_len boot_len (pa_cons (pv 0) pa_nil)) pe_int) (nomark _)) (pw_or (pt_cmpR (op_eqG hu) (pe_ix ix_G (pv 2) pe_int (fun _ _ => rfl)) (pe_lst pa_nil) (nomark _)) (pw_or1 (pt_cmpR op_lt (pe_ix ix_G (pe_ix ix_G (pv 2) pe_int (fun _ _ => rfl)) pe_int (fun _ _ => rfl)) pe_int (nomark _)))))) (pss_one (ps_ret pe_bl)) pss_nil)
     (pss_cons (ps_for PassesOwn.never rfl (pi_range1 rfl T.no_range (pa_cons (pe_callB len_G rfl T.no_len boot_len (pa_cons (pv 2) pa_nil)) pa_nil)) (pg_name (i := 3) nd rfl (by first | exact Or.inl rfl | exact Or.inr rfl)) (pss_cons (ps_if (pt_cmpR (op_neG hu) (pe_callB len_G rfl T.no_len boot_len (pa_cons (pe_ix ix_G (pv 2) (pv 3) (fun _ _ => rfl)) pa_nil)) (pe_op op_addG (pe_callB len_G rfl T.no_len boot_len (pa_cons (pv 1) pa_nil)) pe_int) (nomark _)) (pss_one (ps_ret pe_bl)) pss_nil)
     (pss_one (ps_for PassesOwn.never rfl (pi_range1 rfl T.no_range (pa_cons (pe_callB len_G rfl T.no_len boot_len (pa_cons (pe_ix ix_G (pv 2) (pv 3) (fun _ _ => rfl)) pa_nil)) pa_nil)) (pg_name (i := 4) nd rfl (by first | exact Or.inl rfl | exact Or.inr rfl)) (pss_cons (ps_if (PW.pt (pw_or (PW.pt (pw_and (pt_cmpR op_gt (pv 3) pe_int (nomark _)) (pw_and1 (pt_cmpR op_lt (pe_ix ix_G (pe_ix ix_G (pv 2) (pv 3) (fun _ _ => rfl)) (pv 4) (fun _ _ => rfl)) (pe_ix ix_G (pe_ix ix_G (pv 2) (pe_op op_sub (pv 3) pe_int) (fun _ _ => rfl)) (pv 4) (fun _ _ => rfl)) (nomark _))))) (pw_or1 (PW.pt (pw_and (pt_cmpR op_gt (pv 4) pe_int (nomark _)) (pw_and1 (pt_cmpR op_lt (pe_ix ix_G (pe_ix ix_G (pv 2) (pv 3) (fun _ _ => rfl)) (pv 4) (fun _ _ => rfl)) (pe_ix ix_G (pe_ix ix_G (pv 2) (pv 3) (fun _ _ => rfl)) (pe_op op_sub (pv 4) pe_int) (fun _ _ => rfl)) (nomark _)))))))) (pss_one (ps_ret pe_bl)) pss_nil)
     (pss_one (ps_if (PW.pt (pw_and (pt_cmpR op_gt (pv 3) pe_int (nomark _)) (pw_and (pt_cmpR op_gt (pv 4) pe_int (nomark _)) (pw_and (pt_cmpR (op_eqG hu) (pe_ix ix_G (pv 0) (pe_op op_sub (pv 3) pe_int) (fun _ _ => rfl)) (pe_ix ix_G (pv 1) (pe_op op_sub (pv 4) pe_int) (fun _ _ => rfl)) (nomark _)) (pw_and1 (pt_cmpR op_le (pe_ix ix_G (pe_ix ix_G (pv 2) (pv 3) (fun _ _ => rfl)) (pv 4) (fun _ _ => rfl)) (pe_ix ix_G (pe_ix ix_G (pv 2) (pe_op op_sub (pv 3) pe_int) (fun _ _ => rfl)) (pe_op op_sub (pv 4) pe_int) (fun _ _ => rfl)) (nomark _))))))) (pss_one (ps_ret pe_bl)) pss_nil)))))))
     (pss_one (ps_ret pe_bl)))), ?_⟩
    try simp only [show (cxOf CX0 P w K mg base N__law_table "_law_table" (defScope s__law_table) f cdv A outer s H E).nox.K = K from rfl, show (cxOf CX0 P w K mg base N__law_table "_law_table" (defScope s__law_table) f cdv A outer s H E).K = K from rfl]
    rw [show L2.start N__law_table [V.ref a, V.ref b, V.ref t] = [some (V.ref a), some (V.ref b), some (V.ref t), none, none] from rfl]
    walk_at "rd"
    refine r_lenTab hT ?_
    walk_at "rd"
    refine iteND (fun h => ?_) (fun h => ?_)
    · walk_at "rd"
      exact no (fun z => h (by have := z.len; omega)) _ (Same.refl _)
    have hlen : tb.length = one.length + 1 := by omega
    walk_at "rd"
    refine r_ixTab hT (by omega) (by omega) (fun l0 e0 h0 => ?_)
    have z0 : Int.toNat 0 = 0 := rfl
    rw [z0] at h0 e0
    walk_at "rd"
    intro n0 hn0
    walk_at "rd"
    refine iteD (fun h1 => ?_) (fun h1 => ?_)
    · walk_at "rd"
      exact no (fun z => by have := z.lens 0 (Nat.zero_le _); rw [h1] at this; simp at this) _ (by walk_at "sm")
    walk_at "rd"
    have hTn : Tab (upd H n0 (HO.lst (List.map V.int []))) t ls tb := hT.same (by walk_at "sm")
    refine r_ixTab hTn (by omega) (by omega) (fun l1 e1 h2 => ?_)
    rw [z0] at h2
    walk_at "rd"
    refine r_ixI (by walk_at "ft") (by omega) (by have := List.length_pos_iff.mpr h1; omega) ?_
    rw [z0, tg_of]
    walk_at "rd"
    refine iteD (fun h3 => ?_) (fun h3 => ?_)
    · walk_at "rd"
      exact no (fun z => by have := z.first; omega) _ (by walk_at "sm")
    walk_at "rd"
    refine r_lenTab hTn ?_
    walk_at "rd"
    refine r_AtR1 (by omega) (by omega) ?_
    rw [Int.toNat_natCast]
    generalize hH1 : upd H n0 _ = H1
    have s1 : Same H H1 := by rw [← hH1]; walk_at "sm"
    clear hTn h2 e1 hH1 hn0
    have ha1 := s1.at ha
    have hb1 := s1.at hb
    refine for_by ov_range (fun i σ H2 => ∃ (v3 v4 : Option V), σ = [some (V.ref a), some (V.ref b), some (V.ref t), v3, v4] ∧ Same H1 H2 ∧ ∀ i', i' < i → (tb.getD i' []).length = other.length + 1 ∧ ∀ j, j ≤ other.length → Lf.TabAt one other tb i' j) ?_ ?_ ?_ ?_
    · exact ⟨_, _, rfl, Same.refl _, fun i' hi' => by omega⟩
    · exact fun _ _ _ _ _ => trivial
    · rintro i z x σ H2 H3 hy ⟨v3, v4, rfl, s2, inv⟩ ⟨rfl, rfl⟩
      obtain ⟨hi, ez⟩ := List.getElem?_eq_some_iff.mp hy
      rw [List.getElem_range] at ez
      subst ez
      rw [List.length_range] at hi
      have ei : (0 + (i : Int)).toNat = i := by omega
      have ei1 : 0 < i → (0 + (i : Int) - 1).toNat = i - 1 := fun _ => by omega
      have hT2 : Tab H3 t ls tb := hT.same (s1.trans s2)
      have ha2 := s2.at ha1
      have hb2 := s2.at hb1
      have s02 : Same H H3 := s1.trans s2
      walk_at "rd"
      refine r_ixTab hT2 (by omega) (by omega) (fun li e2 hli => ?_)
      rw [ei] at hli
      walk_at "rd"
      refine iteND (fun h4 => ?_) (fun h4 => ?_)
      · walk_at "rd"
        exact no (fun z => h4 (by have := z.lens i (by omega); omega)) _ s02
      have hll : (tb.getD i []).length = other.length + 1 := by omega
      walk_at "rd"
      refine r_ixTab hT2 (by omega) (by omega) (fun li' e2' hli' => ?_)
      rw [ei] at hli'
      walk_at "rd"
      refine r_AtR1 (by omega) (by omega) ?_
      rw [Int.toNat_natCast, hll]
      refine for_by ov_range (fun j σ H4 => ∃ v4 : Option V, σ = [some (V.ref a), some (V.ref b), some (V.ref t), some (V.int (0 + (i : Int))), v4] ∧ Same H3 H4 ∧ ∀ j', j' < j → Lf.TabAt one other tb i j') ?_ ?_ ?_ ?_
      · exact ⟨_, rfl, Same.refl _, fun j hj => by omega⟩
      · exact fun _ _ _ _ _ => trivial
      · rintro j z x σ H4 H5 hy ⟨v4, rfl, s4, inv2⟩ ⟨rfl, rfl⟩
        obtain ⟨hj, ez⟩ := List.getElem?_eq_some_iff.mp hy
        rw [List.getElem_range] at ez
        subst ez
        rw [List.length_range] at hj
        have ej : (0 + (j : Int)).toNat = j := by omega
        have hT4 : Tab H5 t ls tb := hT2.same s4
        have ha4 := s4.at ha2
        have hb4 := s4.at hb2
        have s05 : Same H H5 := s02.trans s4
        have hprev : 0 < i → (tb.getD (i - 1) []).length = other.length + 1 := fun h => (inv (i - 1) (by omega)).1
        have ej1 : 0 < j → (0 + (j : Int) - 1).toNat = j - 1 := fun _ => by omega
        iterate 3 walk_at "rd1"
        refine r_cutT (decide ((0 < i ∧ Lf.tg tb i j < Lf.tg tb (i - 1) j) ∨ (0 < j ∧ Lf.tg tb i j < Lf.tg tb i (j - 1)))) H5 (fun Q' k' => ?_) ?_
        · have second : ¬ (0 < i ∧ Lf.tg tb i j < Lf.tg tb (i - 1) j) → (tAnd (tTest (tOp (rI0 fun i j => V.bl (decide (j < i))) (tVar 4) (tC (V.int 0)))) (tTest (tOp (rI0 fun i j => V.bl (decide (i < j))) (tOp (rIxG K) (tOp (rIxG K) (tVar 2) (tVar 3)) (tVar 4)) (tOp (rIxG K) (tOp (rIxG K) (tVar 2) (tVar 3)) (tOp (rI0 fun i j => V.int (i - j)) (tVar 4) (tC (V.int 1))))))) [some (V.ref a), some (V.ref b), some (V.ref t), some (V.int (0 + (i : Int))), some (V.int (0 + (j : Int)))] H5 Q' := by
            intro hno
            walk_at "rd"
            refine iteD (fun h5 => ?_) (fun h5 => ?_)
            · walk_at "rd"
              refine r_ixTab hT4 (by omega) (by omega) (fun l5 e5 hl5 => ?_)
              rw [ei] at hl5
              walk_at "rd"
              refine r_ixI (by walk_at "ft") (by omega) (by omega) ?_
              rw [ej, tg_of]
              walk_at "rd"
              refine r_ixTab hT4 (by omega) (by omega) (fun l6 e6 hl6 => ?_)
              rw [ei] at hl6
              walk_at "rd"
              refine r_ixI (by walk_at "ft") (by omega) (by omega) ?_
              rw [ej1 (by omega), tg_of]
              walk_at "rd"
              by_cases h6 : Lf.tg tb i j < Lf.tg tb i (j - 1)
              · rw [decide_eq_true (.inr ⟨by omega, h6⟩)] at k'
                rw [decide_eq_true h6]
                exact k'
              · rw [decide_eq_false (by rintro (q | q); exact hno q; exact h6 q.2)] at k'
                rw [decide_eq_false h6]
                exact k'
            · rw [decide_eq_false (by rintro (q | q); exact hno q; omega)] at k'
              exact k'
          walk_at "rd1"
          walk_at "rd1"
          walk_at "rd"
          refine iteD (fun h5 => ?_) (fun h5 => ?_)
          · walk_at "rd"
            refine r_ixTab hT4 (by omega) (by omega) (fun l5 e5 hl5 => ?_)
            rw [ei] at hl5
            walk_at "rd"
            refine r_ixI (by walk_at "ft") (by omega) (by omega) ?_
            rw [ej, tg_of]
            walk_at "rd"
            refine r_ixTab hT4 (by omega) (by omega) (fun l6 e6 hl6 => ?_)
            rw [ei1 (by omega)] at hl6
            have := hprev (by omega)
            walk_at "rd"
            refine r_ixI (by walk_at "ft") (by omega) (by omega) ?_
            rw [ej, tg_of]
            walk_at "rd"
            refine iteD (fun h6 => ?_) (fun h6 => ?_)
            · rw [decide_eq_true (.inl ⟨by omega, h6⟩)] at k'
              exact k'
            · exact second fun q => h6 q.2
          · exact second fun q => by omega
        refine iteD (fun h5 => ?_) (fun h5 => ?_)
        · walk_at "rd"
          refine no (fun z => ?_) _ s05
          have := z.all i j (by omega) (by omega)
          rcases h5 with ⟨q1, q2⟩ | ⟨q1, q2⟩
          · have := this.up q1; omega
          · have := this.lf q1; omega
        have good : ¬ (0 < i ∧ 0 < j ∧ one.getD (i - 1) 0 = other.getD (j - 1) 0 ∧ Lf.tg tb i j ≤ Lf.tg tb (i - 1) (j - 1)) → ∀ j', j' < j + 1 → Lf.TabAt one other tb i j' := by
          intro hno j' hj'
          by_cases hjj : j' < j
          · exact inv2 j' hjj
          have : j' = j := by omega
          subst this
          refine ⟨fun q => ?_, fun q => ?_, fun q1 q2 q3 => ?_⟩
          · have : ¬ Lf.tg tb i j' < Lf.tg tb (i - 1) j' := fun z => h5 (.inl ⟨q, z⟩)
            omega
          · have : ¬ Lf.tg tb i j' < Lf.tg tb i (j' - 1) := fun z => h5 (.inr ⟨q, z⟩)
            omega
          · have : ¬ Lf.tg tb i j' ≤ Lf.tg tb (i - 1) (j' - 1) := fun z => hno ⟨q1, q2, q3, z⟩
            omega
        walk_at "rd"
        refine iteD (fun h6 => ?_) (fun h6 => ?_)
        rotate_left
        · walk_at "rd"
          exact ⟨_, rfl, s4, good fun q => by omega⟩
        walk_at "rd"
        refine iteD (fun h7 => ?_) (fun h7 => ?_)
        rotate_left
        · walk_at "rd"
          exact ⟨_, rfl, s4, good fun q => by omega⟩
        walk_at "rd"
        refine r_ixI (by walk_at "ft") (by omega) (by omega) ?_
        walk_at "rd"
        refine r_ixI (by walk_at "ft") (by omega) (by omega) ?_
        rw [ei1 (by omega), ej1 (by omega)]
        walk_at "rd"
        refine iteD (fun h8 => ?_) (fun h8 => ?_)
        rotate_left
        · walk_at "rd"
          exact ⟨_, rfl, s4, good fun q => h8 q.2.2.1⟩
        walk_at "rd"
        refine r_ixTab hT4 (by omega) (by omega) (fun l5 e5 hl5 => ?_)
        rw [ei] at hl5
        walk_at "rd"
        refine r_ixI (by walk_at "ft") (by omega) (by omega) ?_
        rw [ej, tg_of]
        walk_at "rd"
        refine r_ixTab hT4 (by omega) (by omega) (fun l6 e6 hl6 => ?_)
        rw [ei1 (by omega)] at hl6
        have := hprev (by omega)
        walk_at "rd"
        refine r_ixI (by walk_at "ft") (by omega) (by omega) ?_
        rw [ej1 (by omega), tg_of]
        walk_at "rd"
        refine iteD (fun h9 => ?_) (fun h9 => ?_)
        · walk_at "rd"
          refine no (fun z => ?_) _ s05
          have := (z.all i j (by omega) (by omega)).dg (by omega) (by omega) h8
          omega
        · walk_at "rd"
          exact ⟨_, rfl, s4, good fun q => h9 q.2.2.2⟩
      · rintro σ H4 ⟨v4, rfl, s4, inv2⟩
        rw [List.length_range] at inv2
        walk_at "rd"
        refine ⟨_, _, rfl, s2.trans s4, fun i' hi' => ?_⟩
        by_cases hii : i' < i
        · exact inv i' hii
        · have : i' = i := by omega
          subst this
          exact ⟨hll, fun j hj => inv2 j (by omega)⟩
    · rintro σ H2 ⟨v3, v4, rfl, s2, inv⟩
      rw [List.length_range] at inv
      walk_at "rd"
      have e : Lf.tab one other tb = true := Lf.tab_true ⟨hlen, by omega, fun i hi => (inv i (by omega)).1, fun i j hi hj => (inv i (by omega)).2 j hj⟩
      rw [← e]
      exact k _ (s1.trans s2)
end

abbrev s__law_due : Stmt := body.getD 42 (.Pass ⟨0, 0, 0, 0⟩)
abbrev N__law_due : List Str := ["_law_one", "_law_other", "_law_found"]
abbrev P__law_due : List Str := ["_law_one", "_law_other", "_law_found"]
theorem sc__law_due : FnScope N__law_due P__law_due (defScope s__law_due) := ⟨rfl, rfl, rfl, by decide, rfl, by decide, by decide⟩
section
variable {P : Program} {w : World} {K : PySem.W.Frag} {mg : Str → Option Value} {base : Heap} {f f1 f2 k_Both : Addr} {fd fd1 fd2 : FuncData}
def sp__law_due (C : Addr) : Sp := fun vs H Q _ => ∃ (x dx : Addr) (fs : List (Str × V)) (r m q t : Addr) (ls : List Addr) (row mine theirs : List Int) (tb : List (List Int)) (a b : Addr) (one other : List Int), vs = [.ref a, .ref b, .ref x] ∧ BothAt C H x dx fs r m q t ls row mine theirs tb ∧ H a = some (.lst (one.map V.int)) ∧ H b = some (.lst (other.map V.int)) ∧
  tb.length ≤ 1000 ∧ other.length ≤ 1000 ∧ ∀ H', Same H H' → Q (.bl (Lf.both one other row mine theirs tb)) H'
theorem ok__law_due (F : Fun K "_law_due" "_law_due" s__law_due f fd) (T : Blt mg)
    (C__law_table : Cal K mg "_law_table" f1 fd1 P__law_table) (G__law_table : FnOk P w K mg base CX0 1 f1 fd1 P__law_table sp__law_table)
    (C__law_stands : Cal K mg "_law_stands" f2 fd2 P__law_stands) (G__law_stands : FnOk P w K mg base CX0 1 f2 fd2 P__law_stands (sp__law_stands K))
    (I_Both : Ins K k_Both) (n_Both_row : NoAttr K k_Both "row") (n_Both_mine : NoAttr K k_Both "mine") (n_Both_theirs : NoAttr K k_Both "theirs") (n_Both_table : NoAttr K k_Both "table")
    : FnOk P w K mg base CX0 3 f fd P__law_due (sp__law_due k_Both) := by
  refine F.ok sc__law_due (fun vs H Q E h => ?_) (fun cdv A outer s H vs Q E hr h => ?_)
  · obtain ⟨_, _, _, _, _, _, _, _, _, _, _, _, _, _, _, _, rfl, _⟩ := h
    rfl
  · obtain ⟨x, dx, fs, r, m, q, t, ls, row, mine, theirs, tb, a, b, one, other, rfl, L, ha, hb, n2, n3, k⟩ := h
    have nd := sc__law_due.nd
    have hu := hr.units
    have no : Lf.both one other row mine theirs tb = false → ∀ H', Same H H' → Q (.bl false) H' := fun e H' s' => by
      have := k H' s'
      rw [e] at this
      exact this
    obtain ⟨hx, fr, fm, fq, fb, fn, hrr, hm, hq, hT⟩ := L
    refine ⟨_, (pss_cons (ps_if (PW.pt (pw_or (pt_not (pt_val (pe_call G__law_stands (hr.mono (by decide)) rfl C__law_stands.mg C__law_stands.kp C__law_stands.b .nil pass0 (pa_cons (pe_fld (pv 2) rfl) (pa_cons (pe_fld (pv 2) rfl) (pa_cons (pv 0) pa_nil)))))) (pw_or1 (pt_not (pt_val (pe_call G__law_stands (hr.mono (by decide)) rfl C__law_stands.mg C__law_stands.kp C__law_stands.b .nil pass0 (pa_cons (pe_fld (pv 2) rfl) (pa_cons (pe_fld (pv 2) rfl) (pa_cons (pv 1) pa_nil))))))))) (pss_one (ps_ret pe_bl)) pss_nil)
     (pss_one (ps_ret (pe_and (pe_call G__law_table (hr.mono (by decide)) rfl C__law_table.mg C__law_table.kp C__law_table.b .nil pass0 (pa_cons (pv 0) (pa_cons (pv 1) (pa_cons (pe_fld (pv 2) rfl) pa_nil)))) (pe_one (pe_cmpR (op_eqG hu) (pe_op op_addG (pe_callB len_G rfl T.no_len boot_len (pa_cons (pe_fld (pv 2) rfl) pa_nil)) (pe_ix ix_G (pe_ix ix_G (pe_fld (pv 2) rfl) (pe_un un_neg pe_int) (fun _ _ => rfl)) (pe_un un_neg pe_int) (fun _ _ => rfl))) (pe_op op_addG (pe_callB len_G rfl T.no_len boot_len (pa_cons (pv 0) pa_nil)) (pe_callB len_G rfl T.no_len boot_len (pa_cons (pv 1) pa_nil))) (nomark _))))))), ?_⟩
    try simp only [show (cxOf CX0 P w K mg base N__law_due "_law_due" (defScope s__law_due) f cdv A outer s H E).nox.K = K from rfl, show (cxOf CX0 P w K mg base N__law_due "_law_due" (defScope s__law_due) f cdv A outer s H E).K = K from rfl]
    rw [show L2.start N__law_due [V.ref a, V.ref b, V.ref x] = [some (V.ref a), some (V.ref b), some (V.ref x)] from rfl]
    walk_at "rd"
    refine ⟨r, m, a, row, mine, one, rfl, SqL.of hrr, SqL.of hm, SqL.of ha, fun H1 s1 => ?_⟩
    walk_at "rd"
    refine iteNB (fun h1 => ?_) (fun h1 => ?_)
    · walk_at "rd"
      exact no (by unfold Lf.both; rw [h1]; rfl) _ s1
    walk_at "rd"
    refine ⟨r, q, b, row, theirs, other, rfl, SqL.of (s1.at hrr), SqL.of (s1.at hq), SqL.of (s1.at hb), fun H2 s2 => ?_⟩
    have s02 := s1.trans s2
    clear s1 s2
    walk_at "rd"
    refine iteNB (fun h2 => ?_) (fun h2 => ?_)
    · walk_at "rd"
      exact no (by unfold Lf.both; rw [h2, Bool.and_false]; rfl) _ s02
    walk_at "rd"
    refine ⟨a, b, t, ls, one, other, tb, rfl, by walk_at "ft", by walk_at "ft", hT.same s02, n2, n3, fun H3 s3 => ?_⟩
    have s03 := s02.trans s3
    clear s02 s3
    walk_at "rd"
    refine iteB (fun h3 => ?_) (fun h3 => ?_)
    rotate_left
    · walk_at "rd"
      exact no (by unfold Lf.both; rw [h3, Bool.and_false]; rfl) _ s03
    have hok := Lf.tab_iff.mp h3
    walk_at "rd"
    refine r_ixTabLast (hT.same s03) (by have := hok.len; omega) (fun l e hl => ?_)
    walk_at "rd"
    refine r_ixLastD (by walk_at "ft") ?_ ?_
    · have e1 : tb.length - 1 = one.length := by have := hok.len; omega
      rw [e1, hok.lens _ (Nat.le_refl _)]
      omega
    walk_at "rd"
    have e : Lf.both one other row mine theirs tb = decide ((row.length : Int) + Lf.tlast tb = (one.length : Int) + other.length) := by
      unfold Lf.both
      rw [h1, h2, h3]; rfl
    have := k _ s03
    rw [e] at this
    exact this
end

abbrev s__law_right : Stmt := body.getD 43 (.Pass ⟨0, 0, 0, 0⟩)
abbrev N__law_right : List Str := ["_law_one", "_law_other", "_law_handed", "_law_found", "_law_some"]
abbrev P__law_right : List Str := ["_law_one", "_law_other"]
theorem sc__law_right : FnScope N__law_right P__law_right (defScope s__law_right) := ⟨rfl, rfl, rfl, by decide, rfl, by decide, by decide⟩
section
variable {P : Program} {w : World} {K : PySem.W.Frag} {mg : Str → Option Value} {base : Heap} {f f1 f2 f3 f4 k_Answer k_Left k_Short k_Both k_Longest k_Missing k_Mixed k_Unmixed : Addr} {fd fd1 fd2 fd3 fd4 : FuncData}
def sp__law_right : Sp := fun vs H Q _ => ∃ (a b : Addr) (one other : List Int), vs = [.ref a, .ref b] ∧ H a = some (.lst (one.map V.int)) ∧ H b = some (.lst (other.map V.int)) ∧ one.length ≤ 500 ∧ other.length ≤ 500 ∧ ∀ H', Same H H' → Q (.bl true) H'
theorem ok__law_right (F : Fun K "_law_right" "_law_right" s__law_right f fd) (T : Blt mg)
    (C_shortest : Cal K mg "shortest" f1 fd1 P_shortest) (G_shortest : FnOk P w K mg base CX0 8 f1 fd1 P_shortest (sp_shortest k_Both))
    (C__law_numbers : Cal K mg "_law_numbers" f2 fd2 P__law_numbers) (G__law_numbers : FnOk P w K mg base CX0 1 f2 fd2 P__law_numbers (sp__law_numbers K))
    (C__law_due : Cal K mg "_law_due" f3 fd3 P__law_due) (G__law_due : FnOk P w K mg base CX0 3 f3 fd3 P__law_due (sp__law_due k_Both))
    (D_Both_shows : Met K k_Both "shows" f4 fd4 P_Both_shows) (G_Both_shows : FnOk P w K mg base CX0 8 f4 fd4 P_Both_shows (sp_Both_shows k_Both))
    (g_Answer : mg "Answer" = some (.ref k_Answer))
    (g_Left : mg "Left" = some (.ref k_Left))
    (g_Short : mg "Short" = some (.ref k_Short))
    (g_Both : mg "Both" = some (.ref k_Both))
    (g_Longest : mg "Longest" = some (.ref k_Longest))
    (g_Missing : mg "Missing" = some (.ref k_Missing))
    (g_Mixed : mg "Mixed" = some (.ref k_Mixed))
    (g_Unmixed : mg "Unmixed" = some (.ref k_Unmixed))
    (I_Both : Ins K k_Both) (n_Both_row : NoAttr K k_Both "row") (n_Both_mine : NoAttr K k_Both "mine") (n_Both_theirs : NoAttr K k_Both "theirs") (n_Both_table : NoAttr K k_Both "table")
    (i_Both_Answer : PySem.W.kitOne K (.ref k_Both) (.ref k_Answer) = some true)
    (i_Both_Left : PySem.W.kitOne K (.ref k_Both) (.ref k_Left) = some false)
    (i_Both_Short : PySem.W.kitOne K (.ref k_Both) (.ref k_Short) = some false)
    (i_Both_Both : PySem.W.kitOne K (.ref k_Both) (.ref k_Both) = some true)
    (i_Both_Longest : PySem.W.kitOne K (.ref k_Both) (.ref k_Longest) = some false)
    (i_Both_Missing : PySem.W.kitOne K (.ref k_Both) (.ref k_Missing) = some false)
    (i_Both_Mixed : PySem.W.kitOne K (.ref k_Both) (.ref k_Mixed) = some false)
    (i_Both_Unmixed : PySem.W.kitOne K (.ref k_Both) (.ref k_Unmixed) = some false)
    : FnOk P w K mg base CX0 9 f fd P__law_right sp__law_right := by
  refine F.ok sc__law_right (fun vs H Q E h => ?_) (fun cdv A outer s H vs Q E hr h => ?_)
  · obtain ⟨_, _, _, _, rfl, _⟩ := h
    rfl
  · obtain ⟨a, b, one, other, rfl, ha, hb, hn, hm, k⟩ := h
    have nd := sc__law_right.nd
    have hu := hr.units
    refine ⟨_, (pss_cons (ps_set (i := 2) nd rfl (by first | exact Or.inl rfl | exact Or.inr rfl) (pe_lst (pa_cons (pe_callTy call_listOf rfl T.no_list boot_list (pa_cons (pv 0) pa_nil)) (pa_cons (pe_callTy call_listOf rfl T.no_list boot_list (pa_cons (pv 1) pa_nil)) pa_nil))))
     (pss_cons (ps_set (i := 3) nd rfl (by first | exact Or.inl rfl | exact Or.inr rfl) (pe_call G_shortest (hr.mono (by decide)) rfl C_shortest.mg C_shortest.kp C_shortest.b .nil pass0 (pa_cons (pe_ix ix_G (pv 2) pe_int (fun _ _ => rfl)) (pa_cons (pe_ix ix_G (pv 2) pe_int (fun _ _ => rfl)) pa_nil))))
     (pss_cons (ps_if (PW.pt (pw_or (pt_not (pt_val (pe_callB call_isinst rfl T.no_isinstance boot_isinstance (pa_cons (pv 3) (pa_cons (pe_gref rfl g_Answer) pa_nil))))) (pw_or (pt_not (pt_val (pe_callB call_isinst rfl T.no_isinstance boot_isinstance (pa_cons (pv 3) (pa_cons (pe_gref rfl g_Both) pa_nil))))) (pw_or1 (pt_cmpR (op_neG hu) (pv 2) (pe_lst (pa_cons (pv 0) (pa_cons (pv 1) pa_nil))) (nomark _)))))) (pss_one (ps_ret pe_bl)) pss_nil)
     (pss_cons (ps_if (pt_val (pe_callB (call_anyB rfl) rfl T.no_any boot_any (pa_cons (pe_lst (pa_cons (pe_callB call_isinst rfl T.no_isinstance boot_isinstance (pa_cons (pv 3) (pa_cons (pe_gref rfl g_Left) pa_nil))) (pa_cons (pe_callB call_isinst rfl T.no_isinstance boot_isinstance (pa_cons (pv 3) (pa_cons (pe_gref rfl g_Longest) pa_nil))) (pa_cons (pe_callB call_isinst rfl T.no_isinstance boot_isinstance (pa_cons (pv 3) (pa_cons (pe_gref rfl g_Missing) pa_nil))) pa_nil)))) pa_nil))) (pss_one (ps_ret pe_bl)) pss_nil)
     (pss_cons (ps_if (pt_val (pe_callB (call_anyB rfl) rfl T.no_any boot_any (pa_cons (pe_lst (pa_cons (pe_callB call_isinst rfl T.no_isinstance boot_isinstance (pa_cons (pv 3) (pa_cons (pe_gref rfl g_Mixed) pa_nil))) (pa_cons (pe_callB call_isinst rfl T.no_isinstance boot_isinstance (pa_cons (pv 3) (pa_cons (pe_gref rfl g_Short) pa_nil))) (pa_cons (pe_callB call_isinst rfl T.no_isinstance boot_isinstance (pa_cons (pv 3) (pa_cons (pe_gref rfl g_Unmixed) pa_nil))) pa_nil)))) pa_nil))) (pss_one (ps_ret pe_bl)) pss_nil)
     (pss_cons (ps_for PassesOwn.never rfl (pi_list (pe_lst (pa_cons (pe_fld (pv 3) rfl) (pa_cons (pe_fld (pv 3) rfl) (pa_cons (pe_fld (pv 3) rfl) pa_nil))))) (pg_name (i := 4) nd rfl (by first | exact Or.inl rfl | exact Or.inr rfl)) (pss_one (ps_if (pt_not (pt_val (pe_call G__law_numbers (hr.mono (by decide)) rfl C__law_numbers.mg C__law_numbers.kp C__law_numbers.b .nil pass0 (pa_cons (pv 4) pa_nil)))) (pss_one (ps_ret pe_bl)) pss_nil)))
     (pss_cons (ps_if (PW.pt (pw_or (pt_not (pt_val (pe_callB call_isinst rfl T.no_isinstance boot_isinstance (pa_cons (pe_fld (pv 3) rfl) (pa_cons (pe_bty rfl T.no_list boot_list) pa_nil))))) (pw_or1 (pt_not (pt_val (pe_callB (call_allB rfl) rfl T.no_all boot_all (pa_cons (pe_comp (N := ["_law_line"]) (k := 1) (caps := []) (Block.of (by kernel_rfl)) rfl (pi_list (pe_fld (pv 3) rfl)) (fun _ _ _ _ => ⟨_, (pg_name (i := 0) (by show List.Nodup (["_law_line"] : List Str); decide) rfl (by first | exact Or.inl rfl | exact Or.inr rfl)), by walk_at "ce"⟩) (fun _ _ _ _ => ⟨_, PIfs.none, by walk_at "ce"⟩) (fun _ _ _ _ => ⟨_, (pe_call G__law_numbers (hr.mono (by decide)) rfl C__law_numbers.mg C__law_numbers.kp C__law_numbers.b .nil pass0 (pa_cons (pv 0) pa_nil)), by walk_at "ce"⟩)) pa_nil))))))) (pss_one (ps_ret pe_bl)) pss_nil)
     (pss_cons (ps_if (PW.pt (pw_or (pt_not (pt_val (pe_call G__law_due (hr.mono (by decide)) rfl C__law_due.mg C__law_due.kp C__law_due.b .nil pass0 (pa_cons (pv 0) (pa_cons (pv 1) (pa_cons (pv 3) pa_nil)))))) (pw_or1 (pt_cmpR op_isnotG (pe_meth (pv 3) I_Both.cl D_Both_shows.m G_Both_shows (hr.mono (by decide)) D_Both_shows.b .nil pass0 (pa_cons (pv 0) (pa_cons (pv 1) pa_nil))) pe_bl (nomark _))))) (pss_one (ps_ret pe_bl)) pss_nil)
     (pss_cons (ps_if (pt_cmpR (op_neG hu) (pe_meth (pv 3) I_Both.cl D_Both_shows.m G_Both_shows (hr.mono (by decide)) D_Both_shows.b .nil pass0 (pa_cons (pv 1) (pa_cons (pv 0) pa_nil))) (pe_call G__law_due (hr.mono (by decide)) rfl C__law_due.mg C__law_due.kp C__law_due.b .nil pass0 (pa_cons (pv 1) (pa_cons (pv 0) (pa_cons (pv 3) pa_nil)))) (nomark _)) (pss_one (ps_ret pe_bl)) pss_nil)
     (pss_cons (ps_if (pt_cmpR (op_neG hu) (pe_meth (pv 3) I_Both.cl D_Both_shows.m G_Both_shows (hr.mono (by decide)) D_Both_shows.b .nil pass0 (pa_cons (pv 0) (pa_cons (pe_slice sl_list (pv 1) po_none (po_some (pe_un un_neg pe_int))) pa_nil))) (pe_call G__law_due (hr.mono (by decide)) rfl C__law_due.mg C__law_due.kp C__law_due.b .nil pass0 (pa_cons (pv 0) (pa_cons (pe_slice sl_list (pv 1) po_none (po_some (pe_un un_neg pe_int))) (pa_cons (pv 3) pa_nil)))) (nomark _)) (pss_one (ps_ret pe_bl)) pss_nil)
     (pss_cons (ps_for PassesOwn.never rfl (pi_list (pe_lst (pa_cons (pe_fld (pv 3) rfl) (pa_cons (pe_fld (pv 3) rfl) (pa_cons (pe_fld (pv 3) rfl) (pa_cons (pe_ix ix_G (pe_fld (pv 3) rfl) pe_int (fun _ _ => rfl)) pa_nil)))))) (pg_name (i := 4) nd rfl (by first | exact Or.inl rfl | exact Or.inr rfl)) (pss_cons (ps_expr (pe_bm PySem.F.plainAttrs_list PySem.F.slot_list_append PySem.F.type_list_append mr_append (pv 4) (pa_cons pe_int pa_nil)))
     (pss_cons (ps_if (pt_cmpR op_isnotG (pe_meth (pv 3) I_Both.cl D_Both_shows.m G_Both_shows (hr.mono (by decide)) D_Both_shows.b .nil pass0 (pa_cons (pv 0) (pa_cons (pv 1) pa_nil))) pe_bl (nomark _)) (pss_one (ps_ret pe_bl)) pss_nil)
     (pss_one (ps_expr (pe_bm0 PySem.F.plainAttrs_list PySem.F.slot_list_pop PySem.F.type_list_pop mr_pop (pv 4)))))))
     (pss_one (ps_ret (pe_cmpR op_isG (pe_meth (pv 3) I_Both.cl D_Both_shows.m G_Both_shows (hr.mono (by decide)) D_Both_shows.b .nil pass0 (pa_cons (pv 0) (pa_cons (pv 1) pa_nil))) pe_bl (nomark _))))))))))))))), ?_⟩
    try simp only [show (cxOf CX0 P w K mg base N__law_right "_law_right" (defScope s__law_right) f cdv A outer s H E).nox.K = K from rfl, show (cxOf CX0 P w K mg base N__law_right "_law_right" (defScope s__law_right) f cdv A outer s H E).K = K from rfl]
    rw [show L2.start N__law_right [V.ref a, V.ref b] = [some (V.ref a), some (V.ref b), none, none, none] from rfl]
    walk_at "rd"
    intro p hp
    walk_at "rd"
    intro q hq
    walk_at "rd"
    intro g hg
    walk_at "rd"
    refine ⟨p, q, one, other, rfl, by walk_at "ft", by walk_at "ft", by omega, by omega, fun x dx fs r m th t ls row mine theirs tb H1 fx fr' fm' fth ft' fls Ap s1 L hL => ?_⟩
    have fx0 : H x = none := by walk_at "fr"
    have fr0 : H r = none := by walk_at "fr"
    have fm0 : H m = none := by walk_at "fr"
    have fth0 : H th = none := by walk_at "fr"
    have ft0 : H t = none := by walk_at "fr"
    have fls0 : ∀ l ∈ ls, H l = none := fun l hl => by
      have := fls l hl
      walk_at "fr"
    have hg1 : H1 g = some (.lst [.ref p, .ref q]) := by walk_at "ft"
    have hp1 : H1 p = some (.lst (one.map V.int)) := by walk_at "ft"
    have hq1 : H1 q = some (.lst (other.map V.int)) := by walk_at "ft"
    have s1' : Same H H1 := by walk_at "sm"
    clear s1 hp hq hg fx fr' fm' fth ft' fls
    have ha1 := s1'.at ha
    have hb1 := s1'.at hb
    obtain ⟨z1, z2, z0, z3, z4⟩ := Lf.both_sizes hL
    obtain ⟨hx, fr, fm, fq, fb, fn, hrr, hmm, hqq, hT⟩ := id L
    have ht := hT.at_
    walk_at "rd"
    intro n1 hn1
    refine r_neL2 (xs := one) (ys := other) (xs' := one) (ys' := other) (by walk_at "ft") (by walk_at "ft") (by walk_at "ft") (by walk_at "ft") (by walk_at "ft") (by walk_at "ft") ?_
    walk_at "rd"
    intro n2 hn2
    walk_at "rd"
    intro n3 hn3
    walk_at "rd"
    intro n4 hn4
    walk_at "rd"
    generalize hH2 : upd _ n4 _ = H2
    have s12 : Same H1 H2 := by rw [← hH2]; walk_at "sm"
    have hn42 : H2 n4 = some (.lst [.ref r, .ref m, .ref th]) := by rw [← hH2]; walk_at "ft"
    clear hH2 hn1 hn2 hn3 hn4
    refine for_by (ov_list (xs := [V.ref r, V.ref m, V.ref th])) (fun i σ H3 => ∃ v4 : Option V, σ = [some (V.ref a), some (V.ref b), some (V.ref g), some (V.ref x), v4] ∧ Same H2 H3) ?_ ?_ ?_ ?_
    · exact ⟨_, rfl, Same.refl _⟩
    · rintro i σ H3 _ ⟨_, _, s3⟩
      exact SqL.of (s3.at hn42)
    · rintro i v y σ H3 H3' hy ⟨v4, rfl, s3⟩ ⟨rfl, rfl⟩
      have hv := List.mem_of_getElem? hy
      simp only [List.mem_cons, List.mem_nil_iff, or_false] at hv
      have : ∃ (d : Addr) (L : List Int), y = .ref d ∧ H3' d = some (.lst (L.map V.int)) ∧ L.length ≤ 2000 := by
        rcases hv with rfl | rfl | rfl
        · exact ⟨r, row, rfl, s3.at (s12.at hrr), by omega⟩
        · exact ⟨m, mine, rfl, s3.at (s12.at hmm), by omega⟩
        · exact ⟨th, theirs, rfl, s3.at (s12.at hqq), by omega⟩
      obtain ⟨d, L, rfl, hd, hL⟩ := this
      walk_at "rd"
      refine ⟨d, L, rfl, hd, by omega, fun H4 s4 => ?_⟩
      walk_at "rd"
      exact ⟨_, rfl, s3.trans s4⟩
    rintro σ H3 ⟨v4, rfl, s3⟩
    have s13 := s12.trans s3
    clear s12 s3 hn42
    walk_at "rd"
    refine comp_map (ov_list (xs := ls.map V.ref)) (fun _ => .bl true) (fun H' s' => SqL.of (s'.at (s13.at ht))) (by rw [List.length_map, hT.len]; omega) ?_ ?_
    · rintro i v y H4 H5 R R' hi s4 ⟨rfl, rfl⟩ h3
      rw [List.getElem?_map] at hi
      obtain ⟨l, hl, rfl⟩ := Option.map_eq_some_iff.mp hi
      have hli := s4.at (s13.at (hT.row i l hl))
      have hil : i < tb.length := by rw [← hT.len]; exact (List.getElem?_eq_some_iff.mp hl).1
      walk_at "rd"
      refine ⟨⟨rfl, rfl⟩, ?_⟩
      walk_at "rd"
      exact ⟨l, _, rfl, hli, by have := z4 i hil; omega, fun H6 s6 => h3 _ s6⟩
    intro D2 H4 hD2 s4 hd2
    walk_at "rd"
    refine r_allT (SqL.of hd2) (fun _ _ => rfl) ?_
    have s14 := s13.trans s4
    clear s13 s4 hd2
    walk_at "rd"
    refine ⟨x, dx, fs, r, m, th, t, ls, row, mine, theirs, tb, a, b, one, other, rfl, L.same s14, by walk_at "ft", by walk_at "ft", by omega, by omega, fun H5 s5 => ?_⟩
    rw [hL]
    have s15 := s14.trans s5
    clear s14 s5
    walk_at "rd"
    refine ⟨x, dx, fs, r, m, th, t, ls, row, mine, theirs, tb, a, b, one, other, rfl, L.same s15, by walk_at "ft", by walk_at "ft", by omega, by omega, by omega, by omega, fun i hi => by have := z4 i hi; omega, by omega, by omega, fun H6 s6 => ?_⟩
    rw [hL]
    have s16 := s15.trans s6
    clear s15 s6
    walk_at "rd"
    refine ⟨x, dx, fs, r, m, th, t, ls, row, mine, theirs, tb, b, a, other, one, rfl, L.same s16, by walk_at "ft", by walk_at "ft", by omega, by omega, by omega, by omega, fun i hi => by have := z4 i hi; omega, by omega, by omega, fun H7 s7 => ?_⟩
    have s17 := s16.trans s7
    clear s16 s7
    walk_at "rd"
    refine ⟨x, dx, fs, r, m, th, t, ls, row, mine, theirs, tb, b, a, other, one, rfl, L.same s17, by walk_at "ft", by walk_at "ft", by omega, by omega, fun H8 s8 => ?_⟩
    have s18 := s17.trans s8
    clear s17 s8
    walk_at "rd"
    intro c1 hc1
    walk_at "rd"
    refine ⟨x, dx, fs, r, m, th, t, ls, row, mine, theirs, tb, a, c1, one, other.dropLast, rfl, L.same (by walk_at "sm"), by walk_at "ft", by walk_at "ft", by omega, by omega, by omega, by omega, fun i hi => by have := z4 i hi; omega, by omega, by rw [List.length_dropLast]; omega, fun H9 s9 => ?_⟩
    have s19 : Same H1 H9 := by walk_at "sm"
    clear s18 s9 hc1
    walk_at "rd"
    intro c2 hc2
    walk_at "rd"
    refine ⟨x, dx, fs, r, m, th, t, ls, row, mine, theirs, tb, a, c2, one, other.dropLast, rfl, L.same (by walk_at "sm"), by walk_at "ft", by walk_at "ft", by omega, by rw [List.length_dropLast]; omega, fun H10 s10 => ?_⟩
    have s110 : Same H1 H10 := by walk_at "sm"
    clear s19 s10 hc2
    have L10 := L.same s110
    have s010 := s1'.trans s110
    clear hx hrr hmm hqq ht ha1 hb1 hg1 hp1 hq1 s110
    obtain ⟨hx, _, _, _, _, _, hrr, hmm, hqq, hT⟩ := id L10
    walk_at "rd"
    refine r_ixTab hT (by omega) (by omega) (fun l0 el0 hl0 => ?_)
    have z00 : Int.toNat 0 = 0 := rfl
    rw [z00] at hl0 el0
    have lm0 : l0 ∈ ls := List.mem_of_getElem? el0
    have hz0 := z4 0 (by omega)
    walk_at "rd"
    intro n5 hn5
    walk_at "rd"
    have n5x : H n5 = none := by walk_at "fr"
    have s011 : Same H10 (upd H10 n5 (.lst [.ref r, .ref m, .ref th, .ref l0])) := by walk_at "sm"
    have L11 := L10.same s011
    refine for_by (ov_list (xs := [V.ref r, V.ref m, V.ref th, V.ref l0])) (fun i σ H11 => ∃ v4 : Option V, σ = [some (V.ref a), some (V.ref b), some (V.ref g), some (V.ref x), v4] ∧ Same H H11 ∧ BothAt k_Both H11 x dx fs r m th t ls row mine theirs tb ∧ H11 n5 = some (.lst [.ref r, .ref m, .ref th, .ref l0])) ?_ ?_ ?_ ?_
    · exact ⟨_, rfl, s010.trans s011, L11, upd_same⟩
    · rintro i σ H11 _ ⟨_, _, _, _, h⟩
      exact SqL.of h
    · rintro i v y σ H11 H11' hy ⟨v4, rfl, s11, B, hn11⟩ ⟨rfl, rfl⟩
      have hv := List.mem_of_getElem? hy
      simp only [List.mem_cons, List.mem_nil_iff, or_false] at hv
      obtain ⟨bx, _, _, _, _, _, br, bm, bq, bT⟩ := id B
      have bl := bT.row 0 l0 el0
      have rn5 : n5 ≠ r := Ne.symm (ne_of_none hrr hn5)
      have mn5 : n5 ≠ m := Ne.symm (ne_of_none hmm hn5)
      have qn5 : n5 ≠ th := Ne.symm (ne_of_none hqq hn5)
      have ln5 : n5 ≠ l0 := Ne.symm (ne_of_none hl0 hn5)
      rcases hv with rfl | rfl | rfl | rfl
      · walk_at "rd"
        refine r_appI (by walk_at "ft") (by omega) ?_
        have B1 := B.setRow Ap (row ++ [0])
        have bx1 := B1.ob
        have s1 : Same H (upd H11' r (.lst ((row ++ [0]).map V.int))) := same_upd s11 fr0
        walk_at "rd"
        refine ⟨x, dx, fs, r, m, th, t, ls, row ++ [0], mine, theirs, tb, a, b, one, other, rfl, B1, s1.at ha, s1.at hb, by simp; omega, by omega, by omega, by omega, fun i hi => by have := z4 i hi; omega, by omega, by omega, fun H12 s12 => ?_⟩
        rw [Lf.both_row _ hL]
        have B2 := B1.same s12
        have bx2 := B2.ob
        have e := B2.hr
        walk_at "rd"
        refine r_popI e (by simp) ?_
        have B3 := B2.setRow Ap row
        rw [List.dropLast_concat]
        walk_at "rd"
        exact ⟨_, rfl, same_upd (s1.trans s12) fr0, B3, upd_keepNe (s12.at (upd_keepNe hn11 rn5)) rn5⟩
      · walk_at "rd"
        refine r_appI (by walk_at "ft") (by omega) ?_
        have B1 := B.setMine Ap (mine ++ [0])
        have bx1 := B1.ob
        have s1 : Same H (upd H11' m (.lst ((mine ++ [0]).map V.int))) := same_upd s11 fm0
        walk_at "rd"
        refine ⟨x, dx, fs, r, m, th, t, ls, row, mine ++ [0], theirs, tb, a, b, one, other, rfl, B1, s1.at ha, s1.at hb, by omega, by simp; omega, by omega, by omega, fun i hi => by have := z4 i hi; omega, by omega, by omega, fun H12 s12 => ?_⟩
        rw [Lf.both_mine _ hL]
        have B2 := B1.same s12
        have bx2 := B2.ob
        have e := B2.hm
        walk_at "rd"
        refine r_popI e (by simp) ?_
        have B3 := B2.setMine Ap mine
        rw [List.dropLast_concat]
        walk_at "rd"
        exact ⟨_, rfl, same_upd (s1.trans s12) fm0, B3, upd_keepNe (s12.at (upd_keepNe hn11 mn5)) mn5⟩
      · walk_at "rd"
        refine r_appI (by walk_at "ft") (by omega) ?_
        have B1 := B.setTheirs Ap (theirs ++ [0])
        have bx1 := B1.ob
        have s1 : Same H (upd H11' th (.lst ((theirs ++ [0]).map V.int))) := same_upd s11 fth0
        walk_at "rd"
        refine ⟨x, dx, fs, r, m, th, t, ls, row, mine, theirs ++ [0], tb, a, b, one, other, rfl, B1, s1.at ha, s1.at hb, by omega, by omega, by simp; omega, by omega, fun i hi => by have := z4 i hi; omega, by omega, by omega, fun H12 s12 => ?_⟩
        rw [Lf.both_theirs _ hL]
        have B2 := B1.same s12
        have bx2 := B2.ob
        have e := B2.hq
        walk_at "rd"
        refine r_popI e (by simp) ?_
        have B3 := B2.setTheirs Ap theirs
        rw [List.dropLast_concat]
        walk_at "rd"
        exact ⟨_, rfl, same_upd (s1.trans s12) fth0, B3, upd_keepNe (s12.at (upd_keepNe hn11 qn5)) qn5⟩
      · walk_at "rd"
        refine r_appI (by walk_at "ft") (by omega) ?_
        have B1 := B.setLine Ap el0 (tb.getD 0 [] ++ [0])
        have bx1 := B1.ob
        have s1 : Same H (upd H11' l0 (.lst ((tb.getD 0 [] ++ [0]).map V.int))) := same_upd s11 (fls0 _ lm0)
        walk_at "rd"
        refine ⟨x, dx, fs, r, m, th, t, ls, row, mine, theirs, tb.set 0 (tb.getD 0 [] ++ [0]), a, b, one, other, rfl, B1, s1.at ha, s1.at hb, by omega, by omega, by omega, by rw [List.length_set]; omega, fun i hi => ?_, by omega, by omega, fun H12 s12 => ?_⟩
        · rw [List.length_set] at hi
          by_cases e : 0 = i
          · subst e
            rw [Lf.set_getD (by omega), List.length_append, hz0]
            simp only [List.length_singleton]
            omega
          · rw [getD_set_ne e]
            have := z4 i hi
            omega
        rw [Lf.both_no_len (by rw [Lf.set_getD (by omega), List.length_append, hz0]; simp only [List.length_singleton]; omega)]
        have B2 := B1.same s12
        have bx2 := B2.ob
        have e := B2.tab.row 0 l0 el0
        rw [Lf.set_getD (by omega)] at e
        walk_at "rd"
        refine r_popI e (by simp) ?_
        have B3 := B2.setLine Ap el0 (tb.getD 0 [])
        rw [List.dropLast_concat]
        walk_at "rd"
        have eb : (tb.set 0 (tb.getD 0 [] ++ [0])).set 0 (tb.getD 0 []) = tb := by
          rw [List.set_set]
          cases tb with
          | nil => rfl
          | cons y ys => rfl
        rw [eb] at B3
        exact ⟨_, rfl, same_upd (s1.trans s12) (fls0 _ lm0), B3, upd_keepNe (s12.at (upd_keepNe hn11 ln5)) ln5⟩
    rintro σ H11 ⟨v4', rfl, s11, B, hn11⟩
    obtain ⟨bx, _, _, _, _, _, br, bm, bq, bT⟩ := id B
    walk_at "rd"
    refine ⟨x, dx, fs, r, m, th, t, ls, row, mine, theirs, tb, a, b, one, other, rfl, B, s11.at ha, s11.at hb, by omega, by omega, by omega, by omega, fun i hi => by have := z4 i hi; omega, by omega, by omega, fun H12 s12 => ?_⟩
    rw [hL]
    walk_at "rd"
    exact k _ (s11.trans s12)
end

abbrev s_law : Stmt := body.getD 44 (.Pass ⟨0, 0, 0, 0⟩)
abbrev N_law : List Str := ["_law_script", "_law_code", "_law_one", "_law_other"]
abbrev P_law : List Str := ["_law_script"]
theorem sc_law : FnScope N_law P_law (defScope s_law) := ⟨rfl, rfl, rfl, by decide, rfl, by decide, by decide⟩
section
variable {P : Program} {w : World} {K : PySem.W.Frag} {mg : Str → Option Value} {base : Heap} {f f1 f2 f3 k_Both : Addr} {fd fd1 fd2 fd3 : FuncData}
def sp_law (K : PySem.W.Frag) : Sp := fun vs H Q _ => ∃ (a : Addr) (ns : List Int), vs = [.ref a] ∧ SqL K H a (ns.map V.int) ∧ ns.length ≤ 63 ∧ ∀ H', Q (.bl true) H'
theorem ok_law (F : Fun K "law" "law" s_law f fd) (T : Blt mg)
    (C__law_row : Cal K mg "_law_row" f1 fd1 P__law_row) (G__law_row : FnOk P w K mg base CX0 1 f1 fd1 P__law_row (sp__law_row K))
    (C__law_right : Cal K mg "_law_right" f2 fd2 P__law_right) (G__law_right : FnOk P w K mg base CX0 9 f2 fd2 P__law_right sp__law_right)
    (C_shortest : Cal K mg "shortest" f3 fd3 P_shortest) (G_shortest : FnOk P w K mg base CX0 8 f3 fd3 P_shortest (sp_shortest k_Both))
    (I_Both : Ins K k_Both) (n_Both_row : NoAttr K k_Both "row")
    : FnOk P w K mg base CX0 10 f fd P_law (sp_law K) := by
  refine F.ok sc_law (fun vs H Q E h => ?_) (fun cdv A outer s H vs Q E hr h => ?_)
  · obtain ⟨_, _, rfl, _⟩ := h
    rfl
  · obtain ⟨a, ns, rfl, ha, hn, k⟩ := h
    have nd := sc_law.nd
    have hu := hr.units
    refine ⟨_, (pss_cons (ps_set (i := 1) nd rfl (by first | exact Or.inl rfl | exact Or.inr rfl) (pe_callB (call_sum rfl) rfl T.no_sum boot_sum (pa_cons (pv 0) pa_nil)))
     (pss_cons (ps_par (i := 2) (j := 3) rfl nd rfl rfl (by decide) rfl rfl (pa_cons (pe_call G__law_row (hr.mono (by decide)) rfl C__law_row.mg C__law_row.kp C__law_row.b .nil pass0 (pa_cons (pe_slice3 (pv 0) po_none po_none pe_int) (pa_cons (pv 1) pa_nil))) (pa_cons (pe_call G__law_row (hr.mono (by decide)) rfl C__law_row.mg C__law_row.kp C__law_row.b .nil pass0 (pa_cons (pe_slice3 (pv 0) (po_some pe_int) po_none pe_int) (pa_cons (pv 1) pa_nil))) pa_nil)) (by with_unfolding_all rfl))
     (pss_cons (ps_if (PW.pt (pw_or (pt_not (pt_val (pe_call G__law_right (hr.mono (by decide)) rfl C__law_right.mg C__law_right.kp C__law_right.b .nil pass0 (pa_cons (pv 2) (pa_cons (pv 3) pa_nil))))) (pw_or (pt_not (pt_val (pe_call G__law_right (hr.mono (by decide)) rfl C__law_right.mg C__law_right.kp C__law_right.b .nil pass0 (pa_cons (pv 2) (pa_cons (pe_slice3 (pe_slice sl_list (pv 2) po_none (po_some pe_int)) po_none po_none (pe_un un_neg pe_int)) pa_nil))))) (pw_or1 (pt_not (pt_val (pe_call G__law_right (hr.mono (by decide)) rfl C__law_right.mg C__law_right.kp C__law_right.b .nil pass0 (pa_cons (pe_lst pa_nil) (pa_cons (pe_slice sl_list (pv 3) po_none (po_some pe_int)) pa_nil))))))))) (pss_one (ps_ret pe_bl)) pss_nil)
     (pss_one (ps_ret (pe_cmpR (op_eqG hu) (pe_callB len_G rfl T.no_len boot_len (pa_cons (pe_fld (pe_call G_shortest (hr.mono (by decide)) rfl C_shortest.mg C_shortest.kp C_shortest.b .nil pass0 (pa_cons (pv 2) (pa_cons (pv 2) pa_nil))) rfl) pa_nil)) (pe_callB len_G rfl T.no_len boot_len (pa_cons (pv 2) pa_nil)) (nomark _))))))), ?_⟩
    try simp only [show (cxOf CX0 P w K mg base N_law "law" (defScope s_law) f cdv A outer s H E).nox.K = K from rfl, show (cxOf CX0 P w K mg base N_law "law" (defScope s_law) f cdv A outer s H E).K = K from rfl]
    rw [show L2.start N_law [V.ref a] = [some (V.ref a), none, none, none] from rfl]
    walk_at "rd"
    intro e1 he1
    walk_at "rd"
    have ev1 := evens_len ns
    have ev2 := evens_len ns.tail
    rw [List.length_tail] at ev2
    refine ⟨e1, _, _, rfl, by walk_at "ft", by omega, fun r H1 hr1 s1 h1 => ?_⟩
    have l1 := Lf.lrow_len (evens ns) ns.sum
    generalize Lf.lrow (evens ns) ns.sum = one at h1 l1
    walk_at "rd"
    intro e2 he2
    walk_at "rd"
    refine ⟨e2, _, _, rfl, by walk_at "ft", by omega, fun r2 H2 hr2 s2 h2 => ?_⟩
    have l2 := Lf.lrow_len (evens ns.tail) ns.sum
    generalize Lf.lrow (evens ns.tail) ns.sum = other at h2 l2
    have h1 : H2 r = some (.lst (one.map V.int)) := by walk_at "ft"
    clear s1 s2 he1 he2 hr1 hr2
    walk_at "rd"
    refine ⟨r, r2, one, other, rfl, h1, h2, by omega, by omega, fun H3 s3 => ?_⟩
    walk_at "rd"
    intro p1 hp1
    walk_at "rd"
    intro p2 hp2
    walk_at "rd"
    refine ⟨r, p2, one, _, rfl, by walk_at "ft", by walk_at "ft", by omega, by simp; omega, fun H4 s4 => ?_⟩
    walk_at "rd"
    intro p3 hp3
    walk_at "rd"
    intro p4 hp4
    walk_at "rd"
    refine ⟨p3, p4, _, _, rfl, by walk_at "ft", by walk_at "ft", by simp, by simp; omega, fun H5 s5 => ?_⟩
    have h15 : H5 r = some (.lst (one.map V.int)) := by walk_at "ft"
    clear s3 s4 s5 hp1 hp2 hp3 hp4 h1 h2
    walk_at "rd"
    refine ⟨r, r, one, one, rfl, h15, h15, by omega, by omega, fun x dx fs r3 m th t ls row mine theirs tb H7 fx fr' fm' fth ft' fls Ap s7 L hL => ?_⟩
    obtain ⟨hx, fr, fm, fq, fb, fn, hrr, hmm, hqq, hT⟩ := id L
    walk_at "rd"
    rw [Lf.both_self hL, decide_eq_true rfl]
    exact k _
end

theorem all_mk {l : PySem.W.OpenLaw} {w : World} {K : PySem.W.Frag} {h : Heap} {mg : Str → Option Value} {fa : Addr} (X : K.In h) (G : h.Ns mainGlobals mg) (hfa : mg "law" = some (.ref fa))
    {f_is_whole : Addr} {od_is_whole an_is_whole : Option Addr} {sl_is_whole : Array (Option Value)} {oc_is_whole kV_is_whole dc_is_whole pm_is_whole cd_is_whole ct_is_whole : Value}
    {f_is_row : Addr} {od_is_row an_is_row : Option Addr} {sl_is_row : Array (Option Value)} {oc_is_row kV_is_row dc_is_row pm_is_row cd_is_row ct_is_row : Value}
    {f_checked_row : Addr} {od_checked_row an_checked_row : Option Addr} {sl_checked_row : Array (Option Value)} {oc_checked_row kV_checked_row dc_checked_row pm_checked_row cd_checked_row ct_checked_row : Value}
    {f_are_places : Addr} {od_are_places an_are_places : Option Addr} {sl_are_places : Array (Option Value)} {oc_are_places kV_are_places dc_are_places pm_are_places cd_are_places ct_are_places : Value}
    {f_signs_at : Addr} {od_signs_at an_signs_at : Option Addr} {sl_signs_at : Array (Option Value)} {oc_signs_at kV_signs_at dc_signs_at pm_signs_at cd_signs_at ct_signs_at : Value}
    {f_stands_at : Addr} {od_stands_at an_stands_at : Option Addr} {sl_stands_at : Array (Option Value)} {oc_stands_at kV_stands_at dc_stands_at pm_stands_at cd_stands_at ct_stands_at : Value}
    {f_bound : Addr} {od_bound an_bound : Option Addr} {sl_bound : Array (Option Value)} {oc_bound kV_bound dc_bound pm_bound cd_bound ct_bound : Value}
    {f_has_lengths : Addr} {od_has_lengths an_has_lengths : Option Addr} {sl_has_lengths : Array (Option Value)} {oc_has_lengths kV_has_lengths dc_has_lengths pm_has_lengths cd_has_lengths ct_has_lengths : Value}
    {f_is_table : Addr} {od_is_table an_is_table : Option Addr} {sl_is_table : Array (Option Value)} {oc_is_table kV_is_table dc_is_table pm_is_table cd_is_table ct_is_table : Value}
    {f_least_table : Addr} {od_least_table an_least_table : Option Addr} {sl_least_table : Array (Option Value)} {oc_least_table kV_least_table dc_least_table pm_least_table cd_least_table ct_least_table : Value}
    {f_alike_pairs : Addr} {od_alike_pairs an_alike_pairs : Option Addr} {sl_alike_pairs : Array (Option Value)} {oc_alike_pairs kV_alike_pairs dc_alike_pairs pm_alike_pairs cd_alike_pairs ct_alike_pairs : Value}
    {f_Both___init__ : Addr} {od_Both___init__ an_Both___init__ : Option Addr} {sl_Both___init__ : Array (Option Value)} {oc_Both___init__ kV_Both___init__ dc_Both___init__ pm_Both___init__ cd_Both___init__ ct_Both___init__ : Value}
    {f_Both_shows : Addr} {od_Both_shows an_Both_shows : Option Addr} {sl_Both_shows : Array (Option Value)} {oc_Both_shows kV_Both_shows dc_Both_shows pm_Both_shows cd_Both_shows ct_Both_shows : Value}
    {f_put_behind : Addr} {od_put_behind an_put_behind : Option Addr} {sl_put_behind : Array (Option Value)} {oc_put_behind kV_put_behind dc_put_behind pm_put_behind cd_put_behind ct_put_behind : Value}
    {f_shortest : Addr} {od_shortest an_shortest : Option Addr} {sl_shortest : Array (Option Value)} {oc_shortest kV_shortest dc_shortest pm_shortest cd_shortest ct_shortest : Value}
    {f__law_row : Addr} {od__law_row an__law_row : Option Addr} {sl__law_row : Array (Option Value)} {oc__law_row kV__law_row dc__law_row pm__law_row cd__law_row ct__law_row : Value}
    {f__law_numbers : Addr} {od__law_numbers an__law_numbers : Option Addr} {sl__law_numbers : Array (Option Value)} {oc__law_numbers kV__law_numbers dc__law_numbers pm__law_numbers cd__law_numbers ct__law_numbers : Value}
    {f__law_stands : Addr} {od__law_stands an__law_stands : Option Addr} {sl__law_stands : Array (Option Value)} {oc__law_stands kV__law_stands dc__law_stands pm__law_stands cd__law_stands ct__law_stands : Value}
    {f__law_table : Addr} {od__law_table an__law_table : Option Addr} {sl__law_table : Array (Option Value)} {oc__law_table kV__law_table dc__law_table pm__law_table cd__law_table ct__law_table : Value}
    {f__law_due : Addr} {od__law_due an__law_due : Option Addr} {sl__law_due : Array (Option Value)} {oc__law_due kV__law_due dc__law_due pm__law_due cd__law_due ct__law_due : Value}
    {f__law_right : Addr} {od__law_right an__law_right : Option Addr} {sl__law_right : Array (Option Value)} {oc__law_right kV__law_right dc__law_right pm__law_right cd__law_right ct__law_right : Value}
    {f_law : Addr} {od_law an_law : Option Addr} {sl_law : Array (Option Value)} {oc_law kV_law dc_law pm_law cd_law ct_law : Value}
    {k_LeftError : Addr}
    {k_BadRow : Addr}
    {k_Answer : Addr}
    {k_Left : Addr}
    {k_Short : Addr}
    {k_Longest : Addr}
    {k_Both : Addr}
    {k_Missing : Addr}
    {k_Mixed : Addr}
    {k_Unmixed : Addr}
    (aC_LeftError : PySem.W.nsIn K mainGlobals "LeftError" = some (some (.ref k_LeftError)))
    (aC_BadRow : PySem.W.nsIn K mainGlobals "BadRow" = some (some (.ref k_BadRow)))
    (aC_Answer : PySem.W.nsIn K mainGlobals "Answer" = some (some (.ref k_Answer)))
    (aC_Left : PySem.W.nsIn K mainGlobals "Left" = some (some (.ref k_Left)))
    (aC_Short : PySem.W.nsIn K mainGlobals "Short" = some (some (.ref k_Short)))
    (aC_Longest : PySem.W.nsIn K mainGlobals "Longest" = some (some (.ref k_Longest)))
    (aC_Both : PySem.W.nsIn K mainGlobals "Both" = some (some (.ref k_Both)))
    (aC_Missing : PySem.W.nsIn K mainGlobals "Missing" = some (some (.ref k_Missing)))
    (aC_Mixed : PySem.W.nsIn K mainGlobals "Mixed" = some (some (.ref k_Mixed)))
    (aC_Unmixed : PySem.W.nsIn K mainGlobals "Unmixed" = some (some (.ref k_Unmixed)))
    (sn : PySem.W.specialIn K (.builtin "object.__class__") "__get__" = some (some (.builtin "getset_descriptor.__get__")))
    (st : PySem.W.takesIn K (.builtin "object.__class__") = some true)
    (u_Both : PySem.W.findIn K (.ref k_Both) "__class__" = some (some (.builtin "object.__class__")))
    (v_Both : PySem.W.mroIn K k_Both (.type "object") = some true)
    (pg_Both : PySem.W.plainGet K k_Both Str.empty = true)
    (hd_Both : PySem.W.hasDictIn K k_Both = true)
    (po_Both : PySem.W.plainOver K k_Both = true)
    (sa_Both : PySem.W.findIn K (.ref k_Both) "__setattr__" = some (some (.builtin "object.__setattr__")))
    (mkk_Both : PySem.W.makesIn K k_Both = true)
    (kc_Both : PySem.W.keepIn K (.ref k_Both) = true)
    (n_Both_row : PySem.W.findIn K (.ref k_Both) "row" = some none)
    (n_Both_mine : PySem.W.findIn K (.ref k_Both) "mine" = some none)
    (n_Both_theirs : PySem.W.findIn K (.ref k_Both) "theirs" = some none)
    (n_Both_table : PySem.W.findIn K (.ref k_Both) "table" = some none)
    (i_Both_Answer : PySem.W.kitOne K (.ref k_Both) (.ref k_Answer) = some true)
    (i_Both_Left : PySem.W.kitOne K (.ref k_Both) (.ref k_Left) = some false)
    (i_Both_Short : PySem.W.kitOne K (.ref k_Both) (.ref k_Short) = some false)
    (i_Both_Longest : PySem.W.kitOne K (.ref k_Both) (.ref k_Longest) = some false)
    (i_Both_Both : PySem.W.kitOne K (.ref k_Both) (.ref k_Both) = some true)
    (i_Both_Missing : PySem.W.kitOne K (.ref k_Both) (.ref k_Missing) = some false)
    (i_Both_Mixed : PySem.W.kitOne K (.ref k_Both) (.ref k_Mixed) = some false)
    (i_Both_Unmixed : PySem.W.kitOne K (.ref k_Both) (.ref k_Unmixed) = some false)
    (a_is_whole : PySem.W.nsIn K mainGlobals "is_whole" = some (some (.ref f_is_whole)))
    (l_is_whole : K.lookup f_is_whole = some ⟨oc_is_whole, od_is_whole, .func (PySem.W.fnOf "is_whole" "is_whole" (defArgs s_is_whole) (defBody s_is_whole) (defScope s_is_whole) .none kV_is_whole dc_is_whole pm_is_whole an_is_whole cd_is_whole ct_is_whole), sl_is_whole⟩)
    (c_is_whole : PySem.W.codeIn K cd_is_whole "is_whole" = true)
    (h_is_whole : PySem.W.keepIn K (.ref f_is_whole) = true)
    (a_is_row : PySem.W.nsIn K mainGlobals "is_row" = some (some (.ref f_is_row)))
    (l_is_row : K.lookup f_is_row = some ⟨oc_is_row, od_is_row, .func (PySem.W.fnOf "is_row" "is_row" (defArgs s_is_row) (defBody s_is_row) (defScope s_is_row) .none kV_is_row dc_is_row pm_is_row an_is_row cd_is_row ct_is_row), sl_is_row⟩)
    (c_is_row : PySem.W.codeIn K cd_is_row "is_row" = true)
    (h_is_row : PySem.W.keepIn K (.ref f_is_row) = true)
    (a_checked_row : PySem.W.nsIn K mainGlobals "checked_row" = some (some (.ref f_checked_row)))
    (l_checked_row : K.lookup f_checked_row = some ⟨oc_checked_row, od_checked_row, .func (PySem.W.fnOf "checked_row" "checked_row" (defArgs s_checked_row) (defBody s_checked_row) (defScope s_checked_row) .none kV_checked_row dc_checked_row pm_checked_row an_checked_row cd_checked_row ct_checked_row), sl_checked_row⟩)
    (c_checked_row : PySem.W.codeIn K cd_checked_row "checked_row" = true)
    (h_checked_row : PySem.W.keepIn K (.ref f_checked_row) = true)
    (a_are_places : PySem.W.nsIn K mainGlobals "are_places" = some (some (.ref f_are_places)))
    (l_are_places : K.lookup f_are_places = some ⟨oc_are_places, od_are_places, .func (PySem.W.fnOf "are_places" "are_places" (defArgs s_are_places) (defBody s_are_places) (defScope s_are_places) .none kV_are_places dc_are_places pm_are_places an_are_places cd_are_places ct_are_places), sl_are_places⟩)
    (c_are_places : PySem.W.codeIn K cd_are_places "are_places" = true)
    (h_are_places : PySem.W.keepIn K (.ref f_are_places) = true)
    (a_signs_at : PySem.W.nsIn K mainGlobals "signs_at" = some (some (.ref f_signs_at)))
    (l_signs_at : K.lookup f_signs_at = some ⟨oc_signs_at, od_signs_at, .func (PySem.W.fnOf "signs_at" "signs_at" (defArgs s_signs_at) (defBody s_signs_at) (defScope s_signs_at) .none kV_signs_at dc_signs_at pm_signs_at an_signs_at cd_signs_at ct_signs_at), sl_signs_at⟩)
    (c_signs_at : PySem.W.codeIn K cd_signs_at "signs_at" = true)
    (h_signs_at : PySem.W.keepIn K (.ref f_signs_at) = true)
    (a_stands_at : PySem.W.nsIn K mainGlobals "stands_at" = some (some (.ref f_stands_at)))
    (l_stands_at : K.lookup f_stands_at = some ⟨oc_stands_at, od_stands_at, .func (PySem.W.fnOf "stands_at" "stands_at" (defArgs s_stands_at) (defBody s_stands_at) (defScope s_stands_at) .none kV_stands_at dc_stands_at pm_stands_at an_stands_at cd_stands_at ct_stands_at), sl_stands_at⟩)
    (c_stands_at : PySem.W.codeIn K cd_stands_at "stands_at" = true)
    (h_stands_at : PySem.W.keepIn K (.ref f_stands_at) = true)
    (a_bound : PySem.W.nsIn K mainGlobals "bound" = some (some (.ref f_bound)))
    (l_bound : K.lookup f_bound = some ⟨oc_bound, od_bound, .func (PySem.W.fnOf "bound" "bound" (defArgs s_bound) (defBody s_bound) (defScope s_bound) .none kV_bound dc_bound pm_bound an_bound cd_bound ct_bound), sl_bound⟩)
    (c_bound : PySem.W.codeIn K cd_bound "bound" = true)
    (h_bound : PySem.W.keepIn K (.ref f_bound) = true)
    (a_has_lengths : PySem.W.nsIn K mainGlobals "has_lengths" = some (some (.ref f_has_lengths)))
    (l_has_lengths : K.lookup f_has_lengths = some ⟨oc_has_lengths, od_has_lengths, .func (PySem.W.fnOf "has_lengths" "has_lengths" (defArgs s_has_lengths) (defBody s_has_lengths) (defScope s_has_lengths) .none kV_has_lengths dc_has_lengths pm_has_lengths an_has_lengths cd_has_lengths ct_has_lengths), sl_has_lengths⟩)
    (c_has_lengths : PySem.W.codeIn K cd_has_lengths "has_lengths" = true)
    (h_has_lengths : PySem.W.keepIn K (.ref f_has_lengths) = true)
    (a_is_table : PySem.W.nsIn K mainGlobals "is_table" = some (some (.ref f_is_table)))
    (l_is_table : K.lookup f_is_table = some ⟨oc_is_table, od_is_table, .func (PySem.W.fnOf "is_table" "is_table" (defArgs s_is_table) (defBody s_is_table) (defScope s_is_table) .none kV_is_table dc_is_table pm_is_table an_is_table cd_is_table ct_is_table), sl_is_table⟩)
    (c_is_table : PySem.W.codeIn K cd_is_table "is_table" = true)
    (h_is_table : PySem.W.keepIn K (.ref f_is_table) = true)
    (a_least_table : PySem.W.nsIn K mainGlobals "least_table" = some (some (.ref f_least_table)))
    (l_least_table : K.lookup f_least_table = some ⟨oc_least_table, od_least_table, .func (PySem.W.fnOf "least_table" "least_table" (defArgs s_least_table) (defBody s_least_table) (defScope s_least_table) .none kV_least_table dc_least_table pm_least_table an_least_table cd_least_table ct_least_table), sl_least_table⟩)
    (c_least_table : PySem.W.codeIn K cd_least_table "least_table" = true)
    (h_least_table : PySem.W.keepIn K (.ref f_least_table) = true)
    (a_alike_pairs : PySem.W.nsIn K mainGlobals "alike_pairs" = some (some (.ref f_alike_pairs)))
    (l_alike_pairs : K.lookup f_alike_pairs = some ⟨oc_alike_pairs, od_alike_pairs, .func (PySem.W.fnOf "alike_pairs" "alike_pairs" (defArgs s_alike_pairs) (defBody s_alike_pairs) (defScope s_alike_pairs) .none kV_alike_pairs dc_alike_pairs pm_alike_pairs an_alike_pairs cd_alike_pairs ct_alike_pairs), sl_alike_pairs⟩)
    (c_alike_pairs : PySem.W.codeIn K cd_alike_pairs "alike_pairs" = true)
    (h_alike_pairs : PySem.W.keepIn K (.ref f_alike_pairs) = true)
    (a_Both___init__ : PySem.W.findIn K (.ref k_Both) "__init__" = some (some (.ref f_Both___init__)))
    (i_Both___init__ : PySem.W.isFn K (.ref f_Both___init__) = true)
    (l_Both___init__ : K.lookup f_Both___init__ = some ⟨oc_Both___init__, od_Both___init__, .func (PySem.W.fnOf "__init__" "Both.__init__" (defArgs s_Both___init__) (defBody s_Both___init__) (defScope s_Both___init__) .none kV_Both___init__ dc_Both___init__ pm_Both___init__ an_Both___init__ cd_Both___init__ ct_Both___init__), sl_Both___init__⟩)
    (c_Both___init__ : PySem.W.codeIn K cd_Both___init__ "Both.__init__" = true)
    (h_Both___init__ : PySem.W.keepIn K (.ref f_Both___init__) = true)
    (a_Both_shows : PySem.W.findIn K (.ref k_Both) "shows" = some (some (.ref f_Both_shows)))
    (i_Both_shows : PySem.W.isFn K (.ref f_Both_shows) = true)
    (l_Both_shows : K.lookup f_Both_shows = some ⟨oc_Both_shows, od_Both_shows, .func (PySem.W.fnOf "shows" "Both.shows" (defArgs s_Both_shows) (defBody s_Both_shows) (defScope s_Both_shows) .none kV_Both_shows dc_Both_shows pm_Both_shows an_Both_shows cd_Both_shows ct_Both_shows), sl_Both_shows⟩)
    (c_Both_shows : PySem.W.codeIn K cd_Both_shows "Both.shows" = true)
    (h_Both_shows : PySem.W.keepIn K (.ref f_Both_shows) = true)
    (a_put_behind : PySem.W.nsIn K mainGlobals "put_behind" = some (some (.ref f_put_behind)))
    (l_put_behind : K.lookup f_put_behind = some ⟨oc_put_behind, od_put_behind, .func (PySem.W.fnOf "put_behind" "put_behind" (defArgs s_put_behind) (defBody s_put_behind) (defScope s_put_behind) .none kV_put_behind dc_put_behind pm_put_behind an_put_behind cd_put_behind ct_put_behind), sl_put_behind⟩)
    (c_put_behind : PySem.W.codeIn K cd_put_behind "put_behind" = true)
    (h_put_behind : PySem.W.keepIn K (.ref f_put_behind) = true)
    (a_shortest : PySem.W.nsIn K mainGlobals "shortest" = some (some (.ref f_shortest)))
    (l_shortest : K.lookup f_shortest = some ⟨oc_shortest, od_shortest, .func (PySem.W.fnOf "shortest" "shortest" (defArgs s_shortest) (defBody s_shortest) (defScope s_shortest) .none kV_shortest dc_shortest pm_shortest an_shortest cd_shortest ct_shortest), sl_shortest⟩)
    (c_shortest : PySem.W.codeIn K cd_shortest "shortest" = true)
    (h_shortest : PySem.W.keepIn K (.ref f_shortest) = true)
    (a__law_row : PySem.W.nsIn K mainGlobals "_law_row" = some (some (.ref f__law_row)))
    (l__law_row : K.lookup f__law_row = some ⟨oc__law_row, od__law_row, .func (PySem.W.fnOf "_law_row" "_law_row" (defArgs s__law_row) (defBody s__law_row) (defScope s__law_row) .none kV__law_row dc__law_row pm__law_row an__law_row cd__law_row ct__law_row), sl__law_row⟩)
    (c__law_row : PySem.W.codeIn K cd__law_row "_law_row" = true)
    (h__law_row : PySem.W.keepIn K (.ref f__law_row) = true)
    (a__law_numbers : PySem.W.nsIn K mainGlobals "_law_numbers" = some (some (.ref f__law_numbers)))
    (l__law_numbers : K.lookup f__law_numbers = some ⟨oc__law_numbers, od__law_numbers, .func (PySem.W.fnOf "_law_numbers" "_law_numbers" (defArgs s__law_numbers) (defBody s__law_numbers) (defScope s__law_numbers) .none kV__law_numbers dc__law_numbers pm__law_numbers an__law_numbers cd__law_numbers ct__law_numbers), sl__law_numbers⟩)
    (c__law_numbers : PySem.W.codeIn K cd__law_numbers "_law_numbers" = true)
    (h__law_numbers : PySem.W.keepIn K (.ref f__law_numbers) = true)
    (a__law_stands : PySem.W.nsIn K mainGlobals "_law_stands" = some (some (.ref f__law_stands)))
    (l__law_stands : K.lookup f__law_stands = some ⟨oc__law_stands, od__law_stands, .func (PySem.W.fnOf "_law_stands" "_law_stands" (defArgs s__law_stands) (defBody s__law_stands) (defScope s__law_stands) .none kV__law_stands dc__law_stands pm__law_stands an__law_stands cd__law_stands ct__law_stands), sl__law_stands⟩)
    (c__law_stands : PySem.W.codeIn K cd__law_stands "_law_stands" = true)
    (h__law_stands : PySem.W.keepIn K (.ref f__law_stands) = true)
    (a__law_table : PySem.W.nsIn K mainGlobals "_law_table" = some (some (.ref f__law_table)))
    (l__law_table : K.lookup f__law_table = some ⟨oc__law_table, od__law_table, .func (PySem.W.fnOf "_law_table" "_law_table" (defArgs s__law_table) (defBody s__law_table) (defScope s__law_table) .none kV__law_table dc__law_table pm__law_table an__law_table cd__law_table ct__law_table), sl__law_table⟩)
    (c__law_table : PySem.W.codeIn K cd__law_table "_law_table" = true)
    (h__law_table : PySem.W.keepIn K (.ref f__law_table) = true)
    (a__law_due : PySem.W.nsIn K mainGlobals "_law_due" = some (some (.ref f__law_due)))
    (l__law_due : K.lookup f__law_due = some ⟨oc__law_due, od__law_due, .func (PySem.W.fnOf "_law_due" "_law_due" (defArgs s__law_due) (defBody s__law_due) (defScope s__law_due) .none kV__law_due dc__law_due pm__law_due an__law_due cd__law_due ct__law_due), sl__law_due⟩)
    (c__law_due : PySem.W.codeIn K cd__law_due "_law_due" = true)
    (h__law_due : PySem.W.keepIn K (.ref f__law_due) = true)
    (a__law_right : PySem.W.nsIn K mainGlobals "_law_right" = some (some (.ref f__law_right)))
    (l__law_right : K.lookup f__law_right = some ⟨oc__law_right, od__law_right, .func (PySem.W.fnOf "_law_right" "_law_right" (defArgs s__law_right) (defBody s__law_right) (defScope s__law_right) .none kV__law_right dc__law_right pm__law_right an__law_right cd__law_right ct__law_right), sl__law_right⟩)
    (c__law_right : PySem.W.codeIn K cd__law_right "_law_right" = true)
    (h__law_right : PySem.W.keepIn K (.ref f__law_right) = true)
    (a_law : PySem.W.nsIn K mainGlobals "law" = some (some (.ref f_law)))
    (l_law : K.lookup f_law = some ⟨oc_law, od_law, .func (PySem.W.fnOf "law" "law" (defArgs s_law) (defBody s_law) (defScope s_law) .none kV_law dc_law pm_law an_law cd_law ct_law), sl_law⟩)
    (c_law : PySem.W.codeIn K cd_law "law" = true)
    (h_law : PySem.W.keepIn K (.ref f_law) = true)
    (z_len : PySem.W.nsIn K mainGlobals "len" = some none)
    (z_zip : PySem.W.nsIn K mainGlobals "zip" = some none)
    (z_enumerate : PySem.W.nsIn K mainGlobals "enumerate" = some none)
    (z_range : PySem.W.nsIn K mainGlobals "range" = some none)
    (z_list : PySem.W.nsIn K mainGlobals "list" = some none)
    (z_int : PySem.W.nsIn K mainGlobals "int" = some none)
    (z_bool : PySem.W.nsIn K mainGlobals "bool" = some none)
    (z_tuple : PySem.W.nsIn K mainGlobals "tuple" = some none)
    (z_set : PySem.W.nsIn K mainGlobals "set" = some none)
    (z_all : PySem.W.nsIn K mainGlobals "all" = some none)
    (z_any : PySem.W.nsIn K mainGlobals "any" = some none)
    (z_sum : PySem.W.nsIn K mainGlobals "sum" = some none)
    (z_min : PySem.W.nsIn K mainGlobals "min" = some none)
    (z_max : PySem.W.nsIn K mainGlobals "max" = some none)
    (z_sorted : PySem.W.nsIn K mainGlobals "sorted" = some none)
    (z_isinstance : PySem.W.nsIn K mainGlobals "isinstance" = some none)
    : ∃ fd : FuncData, (∀ (s : Shared) (v : Value), BindsTo s fd ⟨[v], []⟩ [(P_law.headD "", v)]) ∧ ∀ base : Heap, K.In base → base.Ns mainGlobals mg → FnOk l.prog w K mg base CX0 10 fa fd P_law (sp_law K) := by
  have e := hfa.symm.trans (PySem.W.mg_of X G a_law)
  cases e
  have T : Blt mg := ⟨PySem.W.mg_none_of X G z_len, PySem.W.mg_none_of X G z_zip, PySem.W.mg_none_of X G z_enumerate, PySem.W.mg_none_of X G z_range, PySem.W.mg_none_of X G z_list, PySem.W.mg_none_of X G z_int, PySem.W.mg_none_of X G z_bool, PySem.W.mg_none_of X G z_tuple, PySem.W.mg_none_of X G z_set, PySem.W.mg_none_of X G z_all, PySem.W.mg_none_of X G z_any, PySem.W.mg_none_of X G z_sum, PySem.W.mg_none_of X G z_min, PySem.W.mg_none_of X G z_max, PySem.W.mg_none_of X G z_sorted, PySem.W.mg_none_of X G z_isinstance⟩
  have g_LeftError : mg "LeftError" = some (.ref k_LeftError) := PySem.W.mg_of X G aC_LeftError
  have g_BadRow : mg "BadRow" = some (.ref k_BadRow) := PySem.W.mg_of X G aC_BadRow
  have g_Answer : mg "Answer" = some (.ref k_Answer) := PySem.W.mg_of X G aC_Answer
  have g_Left : mg "Left" = some (.ref k_Left) := PySem.W.mg_of X G aC_Left
  have g_Short : mg "Short" = some (.ref k_Short) := PySem.W.mg_of X G aC_Short
  have g_Longest : mg "Longest" = some (.ref k_Longest) := PySem.W.mg_of X G aC_Longest
  have g_Both : mg "Both" = some (.ref k_Both) := PySem.W.mg_of X G aC_Both
  have g_Missing : mg "Missing" = some (.ref k_Missing) := PySem.W.mg_of X G aC_Missing
  have g_Mixed : mg "Mixed" = some (.ref k_Mixed) := PySem.W.mg_of X G aC_Mixed
  have g_Unmixed : mg "Unmixed" = some (.ref k_Unmixed) := PySem.W.mg_of X G aC_Unmixed
  have I_Both : Ins K k_Both := ⟨⟨pg_Both, hd_Both, po_Both, sa_Both⟩, u_Both, sn, st, v_Both⟩
  have F_is_whole := fun_mk (st := s_is_whole) l_is_whole c_is_whole h_is_whole
  have b_is_whole := F_is_whole.binds (ps := P_is_whole) fun _ _ _ _ _ _ us hl => match us, hl with | [_], _ => rfl
  have C_is_whole : Cal K mg "is_whole" f_is_whole _ P_is_whole := ⟨PySem.W.mg_of X G a_is_whole, h_is_whole, b_is_whole⟩
  have F_is_row := fun_mk (st := s_is_row) l_is_row c_is_row h_is_row
  have b_is_row := F_is_row.binds (ps := P_is_row) fun _ _ _ _ _ _ us hl => match us, hl with | [_], _ => rfl
  have C_is_row : Cal K mg "is_row" f_is_row _ P_is_row := ⟨PySem.W.mg_of X G a_is_row, h_is_row, b_is_row⟩
  have F_checked_row := fun_mk (st := s_checked_row) l_checked_row c_checked_row h_checked_row
  have b_checked_row := F_checked_row.binds (ps := P_checked_row) fun _ _ _ _ _ _ us hl => match us, hl with | [_], _ => rfl
  have C_checked_row : Cal K mg "checked_row" f_checked_row _ P_checked_row := ⟨PySem.W.mg_of X G a_checked_row, h_checked_row, b_checked_row⟩
  have F_are_places := fun_mk (st := s_are_places) l_are_places c_are_places h_are_places
  have b_are_places := F_are_places.binds (ps := P_are_places) fun _ _ _ _ _ _ us hl => match us, hl with | [_, _], _ => rfl
  have C_are_places : Cal K mg "are_places" f_are_places _ P_are_places := ⟨PySem.W.mg_of X G a_are_places, h_are_places, b_are_places⟩
  have F_signs_at := fun_mk (st := s_signs_at) l_signs_at c_signs_at h_signs_at
  have b_signs_at := F_signs_at.binds (ps := P_signs_at) fun _ _ _ _ _ _ us hl => match us, hl with | [_, _], _ => rfl
  have C_signs_at : Cal K mg "signs_at" f_signs_at _ P_signs_at := ⟨PySem.W.mg_of X G a_signs_at, h_signs_at, b_signs_at⟩
  have F_stands_at := fun_mk (st := s_stands_at) l_stands_at c_stands_at h_stands_at
  have b_stands_at := F_stands_at.binds (ps := P_stands_at) fun _ _ _ _ _ _ us hl => match us, hl with | [_, _, _], _ => rfl
  have C_stands_at : Cal K mg "stands_at" f_stands_at _ P_stands_at := ⟨PySem.W.mg_of X G a_stands_at, h_stands_at, b_stands_at⟩
  have F_bound := fun_mk (st := s_bound) l_bound c_bound h_bound
  have b_bound := F_bound.binds (ps := P_bound) fun _ _ _ _ _ _ us hl => match us, hl with | [_, _, _, _, _], _ => rfl
  have C_bound : Cal K mg "bound" f_bound _ P_bound := ⟨PySem.W.mg_of X G a_bound, h_bound, b_bound⟩
  have F_has_lengths := fun_mk (st := s_has_lengths) l_has_lengths c_has_lengths h_has_lengths
  have b_has_lengths := F_has_lengths.binds (ps := P_has_lengths) fun _ _ _ _ _ _ us hl => match us, hl with | [_, _, _], _ => rfl
  have C_has_lengths : Cal K mg "has_lengths" f_has_lengths _ P_has_lengths := ⟨PySem.W.mg_of X G a_has_lengths, h_has_lengths, b_has_lengths⟩
  have F_is_table := fun_mk (st := s_is_table) l_is_table c_is_table h_is_table
  have b_is_table := F_is_table.binds (ps := P_is_table) fun _ _ _ _ _ _ us hl => match us, hl with | [_, _, _], _ => rfl
  have C_is_table : Cal K mg "is_table" f_is_table _ P_is_table := ⟨PySem.W.mg_of X G a_is_table, h_is_table, b_is_table⟩
  have F_least_table := fun_mk (st := s_least_table) l_least_table c_least_table h_least_table
  have b_least_table := F_least_table.binds (ps := P_least_table) fun _ _ _ _ _ _ us hl => match us, hl with | [_, _], _ => rfl
  have C_least_table : Cal K mg "least_table" f_least_table _ P_least_table := ⟨PySem.W.mg_of X G a_least_table, h_least_table, b_least_table⟩
  have F_alike_pairs := fun_mk (st := s_alike_pairs) l_alike_pairs c_alike_pairs h_alike_pairs
  have b_alike_pairs := F_alike_pairs.binds (ps := P_alike_pairs) fun _ _ _ _ _ _ us hl => match us, hl with | [_, _, _], _ => rfl
  have C_alike_pairs : Cal K mg "alike_pairs" f_alike_pairs _ P_alike_pairs := ⟨PySem.W.mg_of X G a_alike_pairs, h_alike_pairs, b_alike_pairs⟩
  have F_Both___init__ := fun_mk (st := s_Both___init__) l_Both___init__ c_Both___init__ h_Both___init__
  have b_Both___init__ := F_Both___init__.binds (ps := P_Both___init__) fun _ _ _ _ _ _ us hl => match us, hl with | [_, _, _, _, _], _ => rfl
  have M_Both : Mak K mg "Both" k_Both f_Both___init__ _ P_Both___init__ := ⟨g_Both, ⟨mkk_Both, a_Both___init__, i_Both___init__, kc_Both⟩, I_Both.cl, b_Both___init__⟩
  have F_Both_shows := fun_mk (st := s_Both_shows) l_Both_shows c_Both_shows h_Both_shows
  have b_Both_shows := F_Both_shows.binds (ps := P_Both_shows) fun _ _ _ _ _ _ us hl => match us, hl with | [_, _, _], _ => rfl
  have D_Both_shows : Met K k_Both "shows" f_Both_shows _ P_Both_shows := ⟨⟨a_Both_shows, i_Both_shows, h_Both_shows⟩, b_Both_shows⟩
  have F_put_behind := fun_mk (st := s_put_behind) l_put_behind c_put_behind h_put_behind
  have b_put_behind := F_put_behind.binds (ps := P_put_behind) fun _ _ _ _ _ _ us hl => match us, hl with | [_, _, _, _], _ => rfl
  have C_put_behind : Cal K mg "put_behind" f_put_behind _ P_put_behind := ⟨PySem.W.mg_of X G a_put_behind, h_put_behind, b_put_behind⟩
  have F_shortest := fun_mk (st := s_shortest) l_shortest c_shortest h_shortest
  have b_shortest := F_shortest.binds (ps := P_shortest) fun _ _ _ _ _ _ us hl => match us, hl with | [_, _], _ => rfl
  have C_shortest : Cal K mg "shortest" f_shortest _ P_shortest := ⟨PySem.W.mg_of X G a_shortest, h_shortest, b_shortest⟩
  have F__law_row := fun_mk (st := s__law_row) l__law_row c__law_row h__law_row
  have b__law_row := F__law_row.binds (ps := P__law_row) fun _ _ _ _ _ _ us hl => match us, hl with | [_, _], _ => rfl
  have C__law_row : Cal K mg "_law_row" f__law_row _ P__law_row := ⟨PySem.W.mg_of X G a__law_row, h__law_row, b__law_row⟩
  have F__law_numbers := fun_mk (st := s__law_numbers) l__law_numbers c__law_numbers h__law_numbers
  have b__law_numbers := F__law_numbers.binds (ps := P__law_numbers) fun _ _ _ _ _ _ us hl => match us, hl with | [_], _ => rfl
  have C__law_numbers : Cal K mg "_law_numbers" f__law_numbers _ P__law_numbers := ⟨PySem.W.mg_of X G a__law_numbers, h__law_numbers, b__law_numbers⟩
  have F__law_stands := fun_mk (st := s__law_stands) l__law_stands c__law_stands h__law_stands
  have b__law_stands := F__law_stands.binds (ps := P__law_stands) fun _ _ _ _ _ _ us hl => match us, hl with | [_, _, _], _ => rfl
  have C__law_stands : Cal K mg "_law_stands" f__law_stands _ P__law_stands := ⟨PySem.W.mg_of X G a__law_stands, h__law_stands, b__law_stands⟩
  have F__law_table := fun_mk (st := s__law_table) l__law_table c__law_table h__law_table
  have b__law_table := F__law_table.binds (ps := P__law_table) fun _ _ _ _ _ _ us hl => match us, hl with | [_, _, _], _ => rfl
  have C__law_table : Cal K mg "_law_table" f__law_table _ P__law_table := ⟨PySem.W.mg_of X G a__law_table, h__law_table, b__law_table⟩
  have F__law_due := fun_mk (st := s__law_due) l__law_due c__law_due h__law_due
  have b__law_due := F__law_due.binds (ps := P__law_due) fun _ _ _ _ _ _ us hl => match us, hl with | [_, _, _], _ => rfl
  have C__law_due : Cal K mg "_law_due" f__law_due _ P__law_due := ⟨PySem.W.mg_of X G a__law_due, h__law_due, b__law_due⟩
  have F__law_right := fun_mk (st := s__law_right) l__law_right c__law_right h__law_right
  have b__law_right := F__law_right.binds (ps := P__law_right) fun _ _ _ _ _ _ us hl => match us, hl with | [_, _], _ => rfl
  have C__law_right : Cal K mg "_law_right" f__law_right _ P__law_right := ⟨PySem.W.mg_of X G a__law_right, h__law_right, b__law_right⟩
  have F_law := fun_mk (st := s_law) l_law c_law h_law
  have b_law := F_law.binds (ps := P_law) fun _ _ _ _ _ _ us hl => match us, hl with | [_], _ => rfl
  refine ⟨PySem.W.fnOf "law" "law" (defArgs s_law) (defBody s_law) (defScope s_law) .none kV_law dc_law pm_law an_law cd_law ct_law, fun s v => .of_eq rfl, fun base _ _ => ?_⟩
  have G_is_whole := ok_is_whole (P := l.prog) (w := w) (base := base) (F := F_is_whole) (T := T)
  have G_is_row := ok_is_row (P := l.prog) (w := w) (base := base) (F := F_is_row) (T := T) (C_is_whole := C_is_whole) (G_is_whole := G_is_whole.mono (by decide))
  have G_checked_row := ok_checked_row (P := l.prog) (w := w) (base := base) (F := F_checked_row) (T := T) (C_is_row := C_is_row) (G_is_row := G_is_row.mono (by decide))
  have G_are_places := ok_are_places (P := l.prog) (w := w) (base := base) (F := F_are_places) (T := T) (C_is_row := C_is_row) (G_is_row := G_is_row.mono (by decide))
  have G_signs_at := ok_signs_at (P := l.prog) (w := w) (base := base) (F := F_signs_at) (T := T)
  have G_stands_at := ok_stands_at (P := l.prog) (w := w) (base := base) (F := F_stands_at) (T := T) (C_are_places := C_are_places) (G_are_places := G_are_places.mono (by decide)) (C_signs_at := C_signs_at) (G_signs_at := G_signs_at.mono (by decide))
  have G_bound := ok_bound (P := l.prog) (w := w) (base := base) (F := F_bound) (T := T)
  have G_has_lengths := ok_has_lengths (P := l.prog) (w := w) (base := base) (F := F_has_lengths) (T := T) (C_is_row := C_is_row) (G_is_row := G_is_row.mono (by decide))
  have G_is_table := ok_is_table (P := l.prog) (w := w) (base := base) (F := F_is_table) (T := T) (C_has_lengths := C_has_lengths) (G_has_lengths := G_has_lengths.mono (by decide)) (C_bound := C_bound) (G_bound := G_bound.mono (by decide))
  have G_least_table := ok_least_table (P := l.prog) (w := w) (base := base) (F := F_least_table) (T := T) (C_bound := C_bound) (G_bound := G_bound.mono (by decide))
  have G_alike_pairs := ok_alike_pairs (P := l.prog) (w := w) (base := base) (F := F_alike_pairs) (T := T)
  have G_Both___init__ := ok_Both___init__ (P := l.prog) (w := w) (base := base) (F := F_Both___init__) (T := T) (I_Both := I_Both) (n_Both_row := n_Both_row) (n_Both_mine := n_Both_mine) (n_Both_theirs := n_Both_theirs) (n_Both_table := n_Both_table)
  have G_Both_shows := ok_Both_shows (P := l.prog) (w := w) (base := base) (F := F_Both_shows) (T := T) (I_Both := I_Both) (n_Both_row := n_Both_row) (n_Both_mine := n_Both_mine) (n_Both_theirs := n_Both_theirs) (n_Both_table := n_Both_table) (C_is_row := C_is_row) (G_is_row := G_is_row.mono (by decide)) (C_stands_at := C_stands_at) (G_stands_at := G_stands_at.mono (by decide)) (C_is_table := C_is_table) (G_is_table := G_is_table.mono (by decide))
  have G_put_behind := ok_put_behind (P := l.prog) (w := w) (base := base) (F := F_put_behind) (T := T)
  have G_shortest := ok_shortest (P := l.prog) (w := w) (base := base) (F := F_shortest) (T := T) (C_checked_row := C_checked_row) (G_checked_row := G_checked_row.mono (by decide)) (C_least_table := C_least_table) (G_least_table := G_least_table.mono (by decide)) (C_alike_pairs := C_alike_pairs) (G_alike_pairs := G_alike_pairs.mono (by decide)) (C_put_behind := C_put_behind) (G_put_behind := G_put_behind.mono (by decide)) (M_Both := M_Both) (G_Both___init__ := G_Both___init__.mono (by decide))
  have G__law_row := ok__law_row (P := l.prog) (w := w) (base := base) (F := F__law_row) (T := T)
  have G__law_numbers := ok__law_numbers (P := l.prog) (w := w) (base := base) (F := F__law_numbers) (T := T)
  have G__law_stands := ok__law_stands (P := l.prog) (w := w) (base := base) (F := F__law_stands) (T := T)
  have G__law_table := ok__law_table (P := l.prog) (w := w) (base := base) (F := F__law_table) (T := T)
  have G__law_due := ok__law_due (P := l.prog) (w := w) (base := base) (F := F__law_due) (T := T) (C__law_table := C__law_table) (G__law_table := G__law_table.mono (by decide)) (C__law_stands := C__law_stands) (G__law_stands := G__law_stands.mono (by decide)) (I_Both := I_Both) (n_Both_row := n_Both_row) (n_Both_mine := n_Both_mine) (n_Both_theirs := n_Both_theirs) (n_Both_table := n_Both_table)
  have G__law_right := ok__law_right (P := l.prog) (w := w) (base := base) (F := F__law_right) (T := T) (C_shortest := C_shortest) (G_shortest := G_shortest.mono (by decide)) (C__law_numbers := C__law_numbers) (G__law_numbers := G__law_numbers.mono (by decide)) (C__law_due := C__law_due) (G__law_due := G__law_due.mono (by decide)) (D_Both_shows := D_Both_shows) (G_Both_shows := G_Both_shows.mono (by decide)) (g_Answer := g_Answer) (g_Left := g_Left) (g_Short := g_Short) (g_Both := g_Both) (g_Longest := g_Longest) (g_Missing := g_Missing) (g_Mixed := g_Mixed) (g_Unmixed := g_Unmixed) (I_Both := I_Both) (n_Both_row := n_Both_row) (n_Both_mine := n_Both_mine) (n_Both_theirs := n_Both_theirs) (n_Both_table := n_Both_table) (i_Both_Answer := i_Both_Answer) (i_Both_Left := i_Both_Left) (i_Both_Short := i_Both_Short) (i_Both_Both := i_Both_Both) (i_Both_Longest := i_Both_Longest) (i_Both_Missing := i_Both_Missing) (i_Both_Mixed := i_Both_Mixed) (i_Both_Unmixed := i_Both_Unmixed)
  exact ok_law (P := l.prog) (w := w) (base := base) (F := F_law) (T := T) (C__law_row := C__law_row) (G__law_row := G__law_row.mono (by decide)) (C__law_right := C__law_right) (G__law_right := G__law_right.mono (by decide)) (C_shortest := C_shortest) (G_shortest := G_shortest.mono (by decide)) (I_Both := I_Both) (n_Both_row := n_Both_row)
theorem walk {l : PySem.W.OpenLaw} {q : Program} {loose : List Str} {XP : (Str → Option Value) → Heap → Prop} {YP : World → Heap → Prop} {d : DefRec} {K : Params → PySem.W.Frag} (hn : l.most = some 63) (hdf : d.params.defaults = [])
    (hY : ∀ (w : World) (h : Heap), YP w h → (K w.params).In h)
    (F : ∀ (w : World) (mg : Str → Option Value) (fa : Addr) (h : Heap), (K w.params).In h → h.Ns mainGlobals mg → mg d.name = some (.ref fa) →
      ∃ fd : FuncData, (∀ (s : Shared) (u : Value), BindsTo s fd ⟨[u], []⟩ [(P_law.headD "", u)]) ∧ ∀ base : Heap, (K w.params).In base → base.Ns mainGlobals mg → FnOk l.prog w (K w.params) mg base CX0 10 fa fd P_law (sp_law (K w.params))) :
    PySem.W.WalkO q loose XP YP l.row.toRowW d [] (fun f vs => PySem.call f vs) :=
  L2.walk_of (n := 63) (k := 10) (x := P_law.headD "") (CX := fun _ => CX0) (sp := fun w => sp_law (K w.params)) hn (by decide) hdf ⟨rfl, by decide, by decide⟩ hY F (fun _ _ a ns hl _ hS => ⟨a, ns, rfl, hS, hl, fun _ => rfl⟩) fun _ _ _ _ _ z => z
end My
theorem PySem.W.Fast.tw17912020043591851509 : True := trivial
theorem PySem.W.Fast.tw4508369579868547626 : True := trivial
theorem PySem.W.Fast.tw15188148133121162048 : True := trivial
theorem PySem.W.Fast.tw1705911212185431951 : True := trivial
theorem PySem.W.Fast.tw3713790364921388880 : True := trivial
theorem PySem.W.Fast.tw13687685443446328278 : True := trivial
theorem PySem.W.Fast.tw14982540834602277702 : True := trivial
theorem PySem.W.Fast.tw12482736798990419356 : True := trivial
theorem PySem.W.Fast.tw11512682501729236202 : True := trivial
theorem PySem.W.Fast.tw5912197108193180558 : True := trivial
theorem PySem.W.Fast.tw9874573688034216788 : True := trivial
theorem PySem.W.Fast.tw7878128276687196384 : True := trivial
theorem PySem.W.Fast.tw6111050883622013295 : True := trivial
theorem PySem.W.Fast.tw9477634672044316640 : True := trivial
open PySem PySem.W PyProof.Rows
set_option maxRecDepth 100000 in
set_option maxHeartbeats 0 in
theorem PySem.Challenge.cw_leftin_k03_whole_shortest_holds : PySem.Challenge.rw_leftin_k03_whole_shortest.Holds := by
  w_on; o_law; k_head; (case hw => w_witness2)
  k_fill
  refine My.walk (l := PySem.Challenge.rw_leftin_k03_whole_shortest) rfl rfl (fun w h Y => PySem.W.kIn_of Y) ?F
  case F =>
    intro w mg fa h KX G hmg
    refine' My.all_mk KX G hmg ?aC_LeftError ?aC_BadRow ?aC_Answer ?aC_Left ?aC_Short ?aC_Longest ?aC_Both ?aC_Missing ?aC_Mixed ?aC_Unmixed ?sn ?st ?u_Both ?v_Both ?pg_Both ?hd_Both ?po_Both ?sa_Both ?mkk_Both ?kc_Both ?n_Both_row ?n_Both_mine ?n_Both_theirs ?n_Both_table ?i_Both_Answer ?i_Both_Left ?i_Both_Short ?i_Both_Longest ?i_Both_Both ?i_Both_Missing ?i_Both_Mixed ?i_Both_Unmixed ?a_is_whole ?l_is_whole ?c_is_whole ?h_is_whole ?a_is_row ?l_is_row ?c_is_row ?h_is_row ?a_checked_row ?l_checked_row ?c_checked_row ?h_checked_row ?a_are_places ?l_are_places ?c_are_places ?h_are_places ?a_signs_at ?l_signs_at ?c_signs_at ?h_signs_at ?a_stands_at ?l_stands_at ?c_stands_at ?h_stands_at ?a_bound ?l_bound ?c_bound ?h_bound ?a_has_lengths ?l_has_lengths ?c_has_lengths ?h_has_lengths ?a_is_table ?l_is_table ?c_is_table ?h_is_table ?a_least_table ?l_least_table ?c_least_table ?h_least_table ?a_alike_pairs ?l_alike_pairs ?c_alike_pairs ?h_alike_pairs ?a_Both___init__ ?i_Both___init__ ?l_Both___init__ ?c_Both___init__ ?h_Both___init__ ?a_Both_shows ?i_Both_shows ?l_Both_shows ?c_Both_shows ?h_Both_shows ?a_put_behind ?l_put_behind ?c_put_behind ?h_put_behind ?a_shortest ?l_shortest ?c_shortest ?h_shortest ?a__law_row ?l__law_row ?c__law_row ?h__law_row ?a__law_numbers ?l__law_numbers ?c__law_numbers ?h__law_numbers ?a__law_stands ?l__law_stands ?c__law_stands ?h__law_stands ?a__law_table ?l__law_table ?c__law_table ?h__law_table ?a__law_due ?l__law_due ?c__law_due ?h__law_due ?a__law_right ?l__law_right ?c__law_right ?h__law_right ?a_law ?l_law ?c_law ?h_law ?z_len ?z_zip ?z_enumerate ?z_range ?z_list ?z_int ?z_bool ?z_tuple ?z_set ?z_all ?z_any ?z_sum ?z_min ?z_max ?z_sorted ?z_isinstance
    (case aC_LeftError => k_is)
    (case aC_BadRow => k_is)
    (case aC_Answer => k_is)
    (case aC_Left => k_is)
    (case aC_Short => k_is)
    (case aC_Longest => k_is)
    (case aC_Both => k_is)
    (case aC_Missing => k_is)
    (case aC_Mixed => k_is)
    (case aC_Unmixed => k_is)
    (case sn => k_is)
    (case st => k_is)
    (case u_Both => k_is)
    (case v_Both => k_is)
    (case pg_Both => k_is)
    (case hd_Both => k_is)
    (case po_Both => k_is)
    (case sa_Both => k_is)
    (case mkk_Both => k_is)
    (case kc_Both => k_is)
    (case n_Both_row => k_is)
    (case n_Both_mine => k_is)
    (case n_Both_theirs => k_is)
    (case n_Both_table => k_is)
    (case i_Both_Answer => kit_is)
    (case i_Both_Left => kit_is)
    (case i_Both_Short => kit_is)
    (case i_Both_Longest => kit_is)
    (case i_Both_Both => kit_is)
    (case i_Both_Missing => kit_is)
    (case i_Both_Mixed => kit_is)
    (case i_Both_Unmixed => kit_is)
    (case a_is_whole => k_is)
    (case l_is_whole => k_is)
    (case c_is_whole => k_is)
    (case h_is_whole => k_is)
    (case a_is_row => k_is)
    (case l_is_row => k_is)
    (case c_is_row => k_is)
    (case h_is_row => k_is)
    (case a_checked_row => k_is)
    (case l_checked_row => k_is)
    (case c_checked_row => k_is)
    (case h_checked_row => k_is)
    (case a_are_places => k_is)
    (case l_are_places => k_is)
    (case c_are_places => k_is)
    (case h_are_places => k_is)
    (case a_signs_at => k_is)
    (case l_signs_at => k_is)
    (case c_signs_at => k_is)
    (case h_signs_at => k_is)
    (case a_stands_at => k_is)
    (case l_stands_at => k_is)
    (case c_stands_at => k_is)
    (case h_stands_at => k_is)
    (case a_bound => k_is)
    (case l_bound => k_is)
    (case c_bound => k_is)
    (case h_bound => k_is)
    (case a_has_lengths => k_is)
    (case l_has_lengths => k_is)
    (case c_has_lengths => k_is)
    (case h_has_lengths => k_is)
    (case a_is_table => k_is)
    (case l_is_table => k_is)
    (case c_is_table => k_is)
    (case h_is_table => k_is)
    (case a_least_table => k_is)
    (case l_least_table => k_is)
    (case c_least_table => k_is)
    (case h_least_table => k_is)
    (case a_alike_pairs => k_is)
    (case l_alike_pairs => k_is)
    (case c_alike_pairs => k_is)
    (case h_alike_pairs => k_is)
    (case a_Both___init__ => k_is)
    (case i_Both___init__ => k_is)
    (case l_Both___init__ => k_is)
    (case c_Both___init__ => k_is)
    (case h_Both___init__ => k_is)
    (case a_Both_shows => k_is)
    (case i_Both_shows => k_is)
    (case l_Both_shows => k_is)
    (case c_Both_shows => k_is)
    (case h_Both_shows => k_is)
    (case a_put_behind => k_is)
    (case l_put_behind => k_is)
    (case c_put_behind => k_is)
    (case h_put_behind => k_is)
    (case a_shortest => k_is)
    (case l_shortest => k_is)
    (case c_shortest => k_is)
    (case h_shortest => k_is)
    (case a__law_row => k_is)
    (case l__law_row => k_is)
    (case c__law_row => k_is)
    (case h__law_row => k_is)
    (case a__law_numbers => k_is)
    (case l__law_numbers => k_is)
    (case c__law_numbers => k_is)
    (case h__law_numbers => k_is)
    (case a__law_stands => k_is)
    (case l__law_stands => k_is)
    (case c__law_stands => k_is)
    (case h__law_stands => k_is)
    (case a__law_table => k_is)
    (case l__law_table => k_is)
    (case c__law_table => k_is)
    (case h__law_table => k_is)
    (case a__law_due => k_is)
    (case l__law_due => k_is)
    (case c__law_due => k_is)
    (case h__law_due => k_is)
    (case a__law_right => k_is)
    (case l__law_right => k_is)
    (case c__law_right => k_is)
    (case h__law_right => k_is)
    (case a_law => k_is)
    (case l_law => k_is)
    (case c_law => k_is)
    (case h_law => k_is)
    (case z_len => k_is)
    (case z_zip => k_is)
    (case z_enumerate => k_is)
    (case z_range => k_is)
    (case z_list => k_is)
    (case z_int => k_is)
    (case z_bool => k_is)
    (case z_tuple => k_is)
    (case z_set => k_is)
    (case z_all => k_is)
    (case z_any => k_is)
    (case z_sum => k_is)
    (case z_min => k_is)
    (case z_max => k_is)
    (case z_sorted => k_is)
    (case z_isinstance => k_is)
