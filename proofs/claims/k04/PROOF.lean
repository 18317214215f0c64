import PyProof.Rows.All
import Wide.All
import OpenK.AllK
import Wide.FinOn
import Lean
import PyProof.EqAt
import PyProof.EqKinds
import PyProof.TupleCall
import PyProof.ZipIter
import PyProof.EnumMake
import PyProof.EnumFor
import PyProof.DictIter
import PyProof.FactsAll.set
import KE.KDictSum
import PyProof.AttrMissSeq
import PyProof.DictRoadsH
import KE.KDictOf
import PyProof.DictWalks
import KE.KDictList
import PyProof.Rows.TupDisplay
import PySem.Challenge.RW_leftin_k04_whole_missing
set_option Elab.async false
set_option linter.all false
set_option maxRecDepth 100000
namespace L2
open PySem PySem.Spec PyProof.Rows

abbrev Key := Sum Int Str
def keyIs : Key → Value → Bool
  | .inl k, v => Value.isInt k v
  | .inr x, v => Value.isStrOf x v
def keyH (w : World) : Key → Int
  | .inl k => hashInt k
  | .inr x => hashStr w x
theorem keyIs_shape : ∀ {k : Key} {v : Value}, keyIs k v = true → (∃ i t, k = Sum.inl i ∧ v = Value.int i t) ∨ (∃ x t, k = Sum.inr x ∧ v = Value.str x t)
  | .inl i, v, h => by
    obtain ⟨t, e⟩ := Value.isInt_shape (k := i) (v := v) h
    exact .inl ⟨i, t, rfl, e⟩
  | .inr x, v, h => by
    obtain ⟨t, e⟩ := Value.isStrOf_shape (x := x) (v := v) h
    exact .inr ⟨x, t, rfl, e⟩
theorem keyIs_int (i : Int) (t : Tok) : keyIs (.inl i) (.int i t) = true := by simp [keyIs, Value.isInt]
theorem keyIs_str (x : Str) (t : Tok) : keyIs (.inr x) (.str x t) = true := by simp [keyIs, Value.isStrOf]
theorem key_ll (a b : Int) : decide ((Sum.inl a : Key) = Sum.inl b) = (a == b) := by
  by_cases e : a = b
  · subst e; simp
  · have h : ¬ (Sum.inl a : Key) = Sum.inl b := fun q => e (Sum.inl.inj q)
    rw [decide_eq_false h]
    exact (beq_eq_false_iff_ne.mpr e).symm
theorem key_rr (a b : Str) : decide ((Sum.inr a : Key) = Sum.inr b) = decide (a = b) := by
  by_cases e : a = b
  · subst e; simp
  · have h : ¬ (Sum.inr a : Key) = Sum.inr b := fun q => e (Sum.inr.inj q)
    rw [decide_eq_false h, decide_eq_false e]
theorem key_lr (a : Int) (b : Str) : decide ((Sum.inl a : Key) = Sum.inr b) = false := decide_eq_false (fun q => nomatch q)
theorem key_rl (a : Str) (b : Int) : decide ((Sum.inr a : Key) = Sum.inl b) = false := decide_eq_false (fun q => nomatch q)

def mixKind (prog : Program) (w : World) : PySem.KeyKind prog w Key where
  is := keyIs
  hash := keyH w
  inj := fun v a b ha hb => by
    rcases keyIs_shape ha with ⟨i, t, rfl, rfl⟩ | ⟨x, t, rfl, rfl⟩
    · rcases keyIs_shape hb with ⟨j, u, rfl, e⟩ | ⟨y, u, rfl, e⟩
      · injection e with e1 _; rw [e1]
      · exact nomatch e
    · rcases keyIs_shape hb with ⟨j, u, rfl, e⟩ | ⟨y, u, rfl, e⟩
      · exact nomatch e
      · injection e with e1 _; rw [e1]
  byValue := fun k v h => by
    rcases keyIs_shape h with ⟨i, t, rfl, rfl⟩ | ⟨x, t, rfl, rfl⟩ <;> rfl
  pyHash := fun hv h => by
    rcases keyIs_shape hv with ⟨i, t, rfl, rfl⟩ | ⟨x, t, rfl, rfl⟩
    · exact wpAny_pyHash_int h
    · exact wpAny_pyHash_str h
  eqBool := fun hu hv h => by
    rcases keyIs_shape hu with ⟨i, t, rfl, rfl⟩ | ⟨x, t, rfl, rfl⟩
    · rcases keyIs_shape hv with ⟨j, u, rfl, rfl⟩ | ⟨y, u, rfl, rfl⟩
      · rw [key_ll] at h; exact wpAny_eqBool_int h
      · rw [key_lr] at h; exact SeqAt.EqAt.int_str i t y u _ _ _ _ h
    · rcases keyIs_shape hv with ⟨j, u, rfl, rfl⟩ | ⟨y, u, rfl, rfl⟩
      · rw [key_rl] at h; exact SeqAt.EqAt.str_int x t j u _ _ _ _ h
      · rw [key_rr] at h; exact wpAny_eqBool_str h
  «strs» := fun k x t v h => by
    rcases keyIs_shape h with ⟨i, u, rfl, e⟩ | ⟨y, u, rfl, e⟩
    · exact nomatch e
    · injection e with e1 _
      subst e1
      cases v <;> rfl

theorem mixKind_int (prog : Program) (w : World) (i : Int) (t : Tok) : (mixKind prog w).is (.inl i) (.int i t) = true := keyIs_int i t
theorem mixKind_str (prog : Program) (w : World) (x : Str) (t : Tok) : (mixKind prog w).is (.inr x) (.str x t) = true := keyIs_str x t
end L2

namespace L2
open PySem PySem.Spec PyProof.Rows

inductive V where
  | non | bl (b : Bool) | int (i : Int) | str (x : Str) | byt (b : Array UInt8) | flt (b : UInt64) | ref (a : Addr) | ty (n : String)
  deriving DecidableEq

def RelV : V → Value → Prop
  | .non, u => u = Value.none
  | .bl b, u => u = Value.bool b
  | .int i, u => ∃ t, u = Value.int i t
  | .str x, u => ∃ t, u = Value.str x t
  | .byt b, u => ∃ t, u = Value.bytes b t
  | .flt b, u => ∃ t, u = Value.float b t
  | .ref a, u => u = Value.ref a
  | .ty n, u => u = Value.type n

abbrev Vals : List V → List Value → Prop := Paired RelV
theorem Vals.length {xs : List V} {us : List Value} (r : Vals xs us) : xs.length = us.length := Paired.length r
theorem Vals.get : ∀ {xs : List V} {us : List Value} {i : Nat} {x : V}, Vals xs us → xs[i]? = some x → ∃ u, us[i]? = some u ∧ RelV x u
  | _, _, _, _, .nil, e => by simp at e
  | _, _, 0, _, .cons r _, e => by simp at e; subst e; exact ⟨_, rfl, r⟩
  | _, _, i + 1, x, .cons _ t, e => by
    obtain ⟨u, h1, h2⟩ := Vals.get (i := i) (x := x) t (by simpa using e)
    exact ⟨u, by simpa using h1, h2⟩
theorem Vals.set {x : V} {u : Value} (r : RelV x u) : ∀ {xs : List V} {us : List Value} (i : Nat), Vals xs us → Vals (xs.set i x) (us.set i u)
  | _, _, _, .nil => .nil
  | _, _, 0, .cons _ t => .cons r t
  | _, _, i + 1, .cons q t => .cons q (Vals.set r i t)
theorem Vals.append : ∀ {xs ys : List V} {us ws : List Value}, Vals xs us → Vals ys ws → Vals (xs ++ ys) (us ++ ws)
  | _, _, _, _, .nil, s => s
  | _, _, _, _, .cons r t, s => .cons r (Vals.append t s)
theorem Vals.take : ∀ {xs : List V} {us : List Value} (n : Nat), Vals xs us → Vals (xs.take n) (us.take n)
  | _, _, 0, _ => .nil
  | _, _, _ + 1, .nil => .nil
  | _, _, n + 1, .cons r t => .cons r (Vals.take n t)
theorem Vals.drop : ∀ {xs : List V} {us : List Value} (n : Nat), Vals xs us → Vals (xs.drop n) (us.drop n)
  | _, _, 0, r => r
  | _, _, _ + 1, .nil => .nil
  | _, _, n + 1, .cons _ t => Vals.drop n t
theorem Vals.none_of : ∀ {xs : List V} {us : List Value} {i : Nat}, Vals xs us → xs[i]? = none → us[i]? = none := fun {xs us i} r e => by
  have h1 := r.length
  have h2 : xs.length ≤ i := List.getElem?_eq_none_iff.mp e
  exact List.getElem?_eq_none_iff.mpr (by omega)

def RelO : Option V → Option Value → Prop
  | some v, some u => RelV v u
  | none, none => True
  | _, _ => False
def KV {κ : Type} : List (κ × V) → List (κ × Value) → Prop := Paired fun (p : κ × V) (q : κ × Value) => p.1 = q.1 ∧ RelV p.2 q.2

def kV : Key → V
  | .inl i => .int i
  | .inr x => .str x

inductive HO where
    | lst (xs : List V)
    | tup (xs : List V)
    | dK (kvs : List (Key × V)) | dT (kvs : List (List Key × V))
    | set (S : Int → Bool) (n : Nat)
    | ins (C dx : Addr) (fs : List (Str × V))
    | own (x : Addr)
    | xd (fs : List (Str × V))
    | met (f x : Addr)
    | rng (lo hi : Int)
    | frz (o : Obj) (u : HO)
    | tbl (ps : Array Value)
    | ext (φ : Heap → Prop)

abbrev Hp := Addr → Option HO
def upd (H : Hp) (a : Addr) (o : HO) : Hp := fun b => if b = a then some o else H b
theorem upd_same {H : Hp} {a : Addr} {o : HO} : upd H a o a = some o := by unfold upd; rw [if_pos rfl]
theorem upd_ne {H : Hp} {a b : Addr} {o : HO} (h : b ≠ a) : upd H a o b = H b := by unfold upd; rw [if_neg h]
theorem ne_of {H : Hp} {a b : Addr} {o u : HO} (h : H a = some o) (h' : H b = some u) (d : o ≠ u) : a ≠ b := by
  intro e; subst e; rw [h] at h'; exact d (Option.some.inj h')
theorem ne_of_none {H : Hp} {a b : Addr} {o : HO} (h : H a = some o) (h' : H b = none) : a ≠ b := by
  intro e; subst e; rw [h] at h'; cases h'

section
variable (P : Program) (w : World)
def ObjOk (H : Hp) (h : Heap) (a : Addr) : HO → Prop
  | .lst xs => xs.length ≤ sizeLine ∧ ∃ (its : List Value) (n : Nat), Vals xs its ∧ h.get? a = some { cls := .type "list", data := .seq its.toArray n }
  | .tup xs => xs.length ≤ sizeLine ∧ ∃ its : List Value, Vals xs its ∧ IsTup h a its.toArray
  | .dK kvs => kvs.length ≤ sizeLine ∧ (a == sysModules) = false ∧ ∃ vs, KV kvs vs ∧ h.DictOf (mixKind P w) a vs
  | .dT kvs => kvs.length ≤ sizeLine ∧ (a == sysModules) = false ∧ ∃ xs : List (List Key × Addr × Value),
      Paired (fun (p : List Key × V) (q : List Key × Addr × Value) => p.1 = q.1 ∧ H q.2.1 = some (.tup (p.1.map kV)) ∧ RelV p.2 q.2.2) kvs xs ∧
      ∃ o es ep, h.get? a = some o ∧ o.ExactDict ∧ o.data = .dict es ep ∧ es.toList = xs.map (entryOfKey (tupleKind (mixKind P w))) ∧ (xs.map (·.1)).Nodup
  | .set S n => h.SetOf (intKind P w) a S n
  | .ins C dx fs => H dx = some (.own a) ∧ fs.length ≤ 1000 ∧ dx ≠ a ∧ h.get? a = some (PySem.W.instObj C dx) ∧
      ∃ mA, h.Ns1 dx mA ∧ (∀ f, RelO (fs.lookup f) (mA f)) ∧ PySem.Within mA (fs.map (·.1))
  | .own _ => ∃ o, h.get? a = some o
  | .xd fs => ∃ mA, h.Ns1 a mA ∧ ∀ f, RelO (fs.lookup f) (mA f)
  | .rng lo hi => ∃ t u v, h.get? a = some { cls := .type "range", data := .fields #[.int lo t, .int hi u, .int 1 v] }
  | .frz o u => h.get? a = some o ∧ ObjOk H h a u
  | .tbl ps => h.get? a = some { cls := .none, data := .fields ps }
  | .met f x => h.get? a = some (PySem.W.methodObj (.ref f) (.ref x))
  | .ext φ => φ h ∧ (∃ o, h.get? a = some o) ∧ ∀ h1 h2 : Heap, φ h1 → (∀ o, h1.get? a = some o → h2.get? a = some o) → φ h2
def HOk (H : Hp) (h : Heap) : Prop := ∀ a o, H a = some o → ObjOk P w H h a o
end

section
variable {P : Program} {w : World} {H H' : Hp} {h h' : Heap} {a : Addr} {o : HO}
theorem ObjOk.lt (x : ObjOk P w H h a o) : a < h.objs.size := by
  cases o with
  | lst xs => obtain ⟨_, _, _, _, e⟩ := x; exact Heap.lt_size e
  | tup xs => obtain ⟨_, _, _, p⟩ := x; exact p.lt
  | dK kvs => obtain ⟨_, _, _, _, o, _, _, e, _⟩ := x; exact Heap.lt_size e
  | dT kvs => obtain ⟨_, _, _, _, o, _, _, e, _⟩ := x; exact Heap.lt_size e
  | set S n => obtain ⟨o, _, _, _, e, _⟩ := x; exact Heap.lt_size e
  | ins C dx fs => obtain ⟨_, _, _, e, _⟩ := x; exact Heap.lt_size e
  | own y => obtain ⟨_, e⟩ := x; exact Heap.lt_size e
  | xd fs => obtain ⟨_, ⟨_, _, _, e, _⟩, _⟩ := x; exact Heap.lt_size e
  | rng lo hi => obtain ⟨_, _, _, e⟩ := x; exact Heap.lt_size e
  | frz ob u => obtain ⟨e, _⟩ := x; exact Heap.lt_size e
  | tbl ps => exact Heap.lt_size (show h.get? a = some _ from x)
  | met f y => exact Heap.lt_size (show h.get? a = some _ from x)
  | ext φ => obtain ⟨_, ⟨_, e⟩, _⟩ := x; exact Heap.lt_size e
theorem Paired.mapP {α β : Type} {F G : α → β → Prop} : ∀ {l₁ : List α} {l₂ : List β}, Paired F l₁ l₂ → (∀ a b, F a b → G a b) → Paired G l₁ l₂
  | _, _, .nil, _ => .nil
  | _, _, .cons r t, f => .cons (f _ _ r) (Paired.mapP t f)
theorem ObjOk.stay (x : ObjOk P w H h a o) (k : ∀ b u, (b = a ∨ H b = some (.own a)) → h.get? b = some u → h'.get? b = some u)
    (ho : ∀ b, H b = some (.own a) → H' b = some (.own a)) (ht : ∀ b xs, H b = some (.tup xs) → H' b = some (.tup xs)) : ObjOk P w H' h' a o := by
  induction o with
  | lst xs => obtain ⟨z, its, n, r, e⟩ := x; exact ⟨z, its, n, r, k _ _ (.inl rfl) e⟩
  | tup xs => obtain ⟨z, its, r, ob, e, c⟩ := x; exact ⟨z, its, r, ob, k _ _ (.inl rfl) e, c⟩
  | dK kvs => obtain ⟨z, y, vs, r, ob, es, ep, e, c⟩ := x; exact ⟨z, y, vs, r, ob, es, ep, k _ _ (.inl rfl) e, c⟩
  | dT kvs =>
    obtain ⟨z, y, xs, r, ob, es, ep, e, c⟩ := x
    exact ⟨z, y, xs, Paired.mapP r fun p q z => ⟨z.1, ht _ _ z.2.1, z.2.2⟩, ob, es, ep, k _ _ (.inl rfl) e, c⟩
  | set S n => obtain ⟨ob, es, ep, t, e, c⟩ := x; exact ⟨ob, es, ep, t, k _ _ (.inl rfl) e, c⟩
  | ins C dx fs =>
    obtain ⟨d, z, ne, e, mA, ⟨od, es, ep, e2, c⟩, r⟩ := x
    exact ⟨ho _ d, z, ne, k _ _ (.inl rfl) e, mA, ⟨od, es, ep, k _ _ (.inr d) e2, c⟩, r⟩
  | own y => obtain ⟨ob, e⟩ := x; exact ⟨ob, k _ _ (.inl rfl) e⟩
  | xd fs => obtain ⟨mA, ⟨od, es, ep, e, c⟩, r⟩ := x; exact ⟨mA, ⟨od, es, ep, k _ _ (.inl rfl) e, c⟩, r⟩
  | rng lo hi => obtain ⟨t, u, v, e⟩ := x; exact ⟨t, u, v, k _ _ (.inl rfl) e⟩
  | frz ob u ih => obtain ⟨e, q⟩ := x; exact ⟨k _ _ (.inl rfl) e, ih q⟩
  | tbl ps =>
    have e : h.get? a = some { cls := .none, data := .fields ps } := x
    show h'.get? a = some { cls := .none, data := .fields ps }
    exact k a _ (.inl rfl) e
  | met f y =>
    have e : h.get? a = some (PySem.W.methodObj (.ref f) (.ref y)) := x
    show h'.get? a = some (PySem.W.methodObj (.ref f) (.ref y))
    exact k a _ (.inl rfl) e
  | ext φ => obtain ⟨p, ⟨o, e⟩, st⟩ := x; exact ⟨st _ _ p fun o q => k _ _ (.inl rfl) q, ⟨o, k _ _ (.inl rfl) e⟩, st⟩
theorem HOk.lt (x : HOk P w H h) (e : H a = some o) : a < h.objs.size := (x a o e).lt
theorem HOk.fresh (x : HOk P w H h) (e : h.objs.size ≤ a) : H a = none := by
  cases q : H a with
  | none => rfl
  | some u => exact absurd (Nat.lt_of_lt_of_le (x.lt q) e) (Nat.lt_irrefl _)
theorem HOk.kept (x : HOk P w H h) (k : ∀ b u, h.get? b = some u → h'.get? b = some u) : HOk P w H h' := fun a o e =>
  (x a o e).stay (fun b u _ q => k b u q) (fun _ q => q) fun _ _ q => q
theorem HOk.laid (x : HOk P w H h) (k : ∀ b u, h.get? b = some u → h'.get? b = some u) (hp : h.objs.size ≤ a) (new : ObjOk P w (upd H a o) h' a o) : HOk P w (upd H a o) h' := fun b u e => by
  have hn := x.fresh hp
  by_cases hb : b = a
  · subst hb; rw [upd_same] at e; cases e; exact new
  · rw [upd_ne hb] at e
    exact (x b u e).stay (fun c v _ q => k c v q) (fun c q => by rw [upd_ne (ne_of_none q hn)]; exact q) fun c xs q => by rw [upd_ne (ne_of_none q hn)]; exact q
end

def Rd (H : Hp) (a : Addr) (u : HO) : Prop := H a = some u ∨ ∃ o, H a = some (.frz o u)
theorem Rd.of {H : Hp} {a : Addr} {u : HO} (h : H a = some u) : Rd H a u := .inl h
theorem Rd.ok {P : Program} {w : World} {H : Hp} {h : Heap} {a : Addr} {u : HO} (r : Rd H a u) (x : HOk P w H h) : ObjOk P w H h a u := by
  rcases r with r | ⟨o, r⟩
  · exact x a u r
  · obtain ⟨_, q⟩ := x a _ r
    exact q
def Mut : Option HO → Prop
  | some (.lst _) => True
  | some (.dK _) => True
  | some (.dT _) => True
  | some (.set _ _) => True
  | some (.ins _ _ _) => True
  | some (.ext _) => True
  | _ => False
section
variable {P : Program} {w : World} {H : Hp} {h h' : Heap} {x e : Addr} {o' : HO}
theorem HOk.write (ok : HOk P w H h) (mu : Mut (H x)) (he : e = x ∨ H e = some (.own x)) (k : ∀ b u, b ≠ e → h.get? b = some u → h'.get? b = some u) (heo : ∃ u, h'.get? e = some u)
    (new : ObjOk P w (upd H x o') h' x o') : HOk P w (upd H x o') h' := fun b u q => by
  have nown : ∀ c y, H c = some (.own y) → c ≠ x := fun c y r z => by subst z; rw [r] at mu; exact mu
  have ntup : ∀ c xs, H c = some (.tup xs) → c ≠ x := fun c xs r z => by subst z; rw [r] at mu; exact mu
  by_cases hb : b = x
  · subst hb; rw [upd_same] at q; cases q; exact new
  · rw [upd_ne hb] at q
    by_cases hbe : b = e
    · have q' : H b = some (.own x) := by
        rcases he with z | z
        · exact absurd (hbe.trans z) hb
        · rw [hbe]; exact z
      rw [q] at q'; cases q'
      obtain ⟨v, hv⟩ := heo
      exact ⟨v, by rw [hbe]; exact hv⟩
    · refine (ok b u q).stay (fun c v hc r => k c v ?_ r) (fun c r => by rw [upd_ne (nown c b r)]; exact r) fun c xs r => by rw [upd_ne (ntup c xs r)]; exact r
      rcases hc with rfl | hc
      · exact hbe
      · rintro rfl
        rcases he with z | z
        · exact nown c b hc z
        · rw [hc] at z; cases z; exact hb rfl
end

structure Un (fs ex : List Addr) (H H' : Hp) (h h' : Heap) : Prop where
  keep : ∀ b o, h.get? b = some o → H b = none → b ∉ fs → b ∉ ex → h'.get? b = some o
  slot : ∀ b o, h.get? b = some o → H b = none → b ∈ fs → b ∉ ex → ∃ sl, h'.get? b = some { o with slots := sl }
  free : ∀ b o, h.get? b = some o → H b = none → b ∉ ex → H' b = none
  there : ∀ b o, h.get? b = some o → b ∉ ex → ∃ o', h'.get? b = some o'
  tups : ∀ b xs, H b = some (.tup xs) → H' b = some (.tup xs)
  frzs : ∀ b o u, H b = some (.frz o u) → H' b = some (.frz o u)
  tbls : ∀ b ps, H b = some (.tbl ps) → ∃ more, H' b = some (.tbl (ps ++ more))
section
variable {fs fs' ex ex' : List Addr} {H H1 H2 : Hp} {h h1 h2 h' : Heap} {a x e : Addr} {o : HO}
theorem Un.any (u : Un fs ex H H1 h h1) {b : Addr} {ob : Obj} (q : h.get? b = some ob) (n : H b = none) (hx : b ∉ ex) : ∃ sl, h1.get? b = some { ob with slots := sl } := by
  by_cases hb : b ∈ fs
  · exact u.slot b ob q n hb hx
  · exact ⟨ob.slots, u.keep b ob q n hb hx⟩
theorem Un.trans (a : Un fs ex H H1 h h1) (b : Un fs ex H1 H2 h1 h2) : Un fs ex H H2 h h2 where
  keep := fun c ob q n hc hx => b.keep c ob (a.keep c ob q n hc hx) (a.free c ob q n hx) hc hx
  slot := fun c ob q n hc hx => by
    obtain ⟨sl, e1⟩ := a.slot c ob q n hc hx
    obtain ⟨sl', e2⟩ := b.slot c _ e1 (a.free c ob q n hx) hc hx
    exact ⟨sl', e2⟩
  free := fun c ob q n hx => by
    obtain ⟨o', e1⟩ := a.there c ob q hx
    exact b.free c o' e1 (a.free c ob q n hx) hx
  there := fun c ob q hx => by
    obtain ⟨o', e1⟩ := a.there c ob q hx
    exact b.there c o' e1 hx
  tups := fun c xs q => b.tups c xs (a.tups c xs q)
  frzs := fun c ob xs q => b.frzs c ob xs (a.frzs c ob xs q)
  tbls := fun c ps q => by
    obtain ⟨m1, e1⟩ := a.tbls c ps q
    obtain ⟨m2, e2⟩ := b.tbls c _ e1
    exact ⟨m1 ++ m2, by rw [e2, Array.append_assoc]⟩
theorem Un.kept (k : ∀ b u, h.get? b = some u → h'.get? b = some u) : Un fs ex H H h h' :=
  ⟨fun b ob q _ _ _ => k b ob q, fun b ob q _ _ _ => ⟨ob.slots, k b ob q⟩, fun _ _ _ n _ => n, fun b ob q _ => ⟨ob, k b ob q⟩, fun _ _ q => q, fun _ _ _ q => q, fun _ ps q => ⟨#[], by rw [q]; simp⟩⟩
theorem Un.refl : Un fs ex H H h h := Un.kept fun _ _ q => q
theorem Un.laid (k : ∀ b u, h.get? b = some u → h'.get? b = some u) (hp : h.objs.size ≤ a) (hn : H a = none) : Un fs ex H (upd H a o) h h' where
  keep := fun b u q _ _ _ => k b u q
  slot := fun b u q _ _ _ => ⟨u.slots, k b u q⟩
  free := fun b u q n _ => by rw [upd_ne (Nat.ne_of_lt (Nat.lt_of_lt_of_le (Heap.lt_size q) hp))]; exact n
  there := fun b u q _ => ⟨u, k b u q⟩
  tups := fun b xs q => by rw [upd_ne (ne_of_none q hn)]; exact q
  frzs := fun b u xs q => by rw [upd_ne (ne_of_none q hn)]; exact q
  tbls := fun b ps q => ⟨#[], by rw [upd_ne (ne_of_none q hn), q]; simp⟩
theorem Un.write (mu : Mut (H x)) (he : e = x ∨ H e = some (.own x)) (k : ∀ b u, b ≠ e → h.get? b = some u → h'.get? b = some u) (heo : ∃ u, h'.get? e = some u) : Un fs ex H (upd H x o) h h' := by
  have hx : ∀ b, H b = none → b ≠ x := fun b n z => by subst z; rw [n] at mu; exact mu
  have hb : ∀ b, H b = none → b ≠ e := fun b n z => by
    subst z
    rcases he with r | r
    · exact hx b n r
    · rw [n] at r; cases r
  have hm : ∀ b u, H b = some u → ¬ Mut (some u) → b ≠ x := fun b u q nm z => by subst z; rw [q] at mu; exact nm mu
  refine ⟨fun b u q n _ _ => k b u (hb b n) q, fun b u q n _ _ => ⟨u.slots, k b u (hb b n) q⟩, fun b u q n _ => by rw [upd_ne (hx b n)]; exact n, fun b u q _ => ?_,
    fun b xs q => by rw [upd_ne (hm b _ q fun z => z)]; exact q, fun b u xs q => by rw [upd_ne (hm b _ q fun z => z)]; exact q, fun b ps q => ⟨#[], by rw [upd_ne (hm b _ q fun z => z), q]; simp⟩⟩
  by_cases hbe : b = e
  · subst hbe; exact heo
  · exact ⟨u, k b u hbe q⟩
theorem Un.mono (u : Un fs ex H H1 h h1) (hs : ∀ b ∈ fs, b ∈ fs') (hx : ∀ b ∈ ex, b ∈ ex') : Un fs' ex' H H1 h h1 :=
  ⟨fun b ob q n hb he => u.keep b ob q n (fun z => hb (hs b z)) fun z => he (hx b z), fun _ _ q n _ he => u.any q n fun z => he (hx _ z), fun b ob q n he => u.free b ob q n fun z => he (hx b z), fun b ob q he => u.there b ob q fun z => he (hx b z), u.tups, u.frzs, u.tbls⟩
end

def trk (h : Heap) (H : Hp) : List Addr := (List.range h.objs.size).filter fun a => (H a).isSome
def hidT (h : Heap) (H : Hp) : Heap := PySem.W.hideAll h (trk h H)
theorem hidT_size (h : Heap) (H : Hp) : (hidT h H).objs.size = h.objs.size := PySem.W.hideAll_size _ _
theorem hidT_get {h : Heap} {H : Hp} {b : Addr} {o : Obj} (e : h.get? b = some o) (n : H b = none) : (hidT h H).get? b = some o :=
  PySem.W.hideAll_get _ e fun hm => by
    have q : (H b).isSome = true := (List.mem_filter.mp hm).2
    rw [n] at q; simp at q
theorem of_hidT {h : Heap} {H : Hp} {b : Addr} {o : Obj} (e : (hidT h H).get? b = some o) : h.get? b = some o ∧ H b = none := by
  have e' : h.get? b = some o := PySem.W.of_hideAll (trk h H) e
  refine ⟨e', ?_⟩
  cases q : H b with
  | none => rfl
  | some x =>
    have hm : b ∈ trk h H := List.mem_filter.mpr ⟨List.mem_range.mpr (Heap.lt_size e'), by simp [q]⟩
    have z : (hidT h H).get? b = none := PySem.W.hideAll_none (trk h H) hm
    rw [z] at e; cases e

def allNews (g h : Heap) (L : Addr) : List (Addr × Obj) := (List.range h.objs.size).filterMap fun a => if a = L ∨ (g.get? a).isSome = true then none else (h.get? a).map fun o => (a, o)
def rest (g h : Heap) (L d : Addr) : List (Addr × Obj) := (allNews g h L).filter fun p => decide (p.1 ≠ d)
end L2

namespace L2
open PySem PySem.Spec PyProof.Rows

structure Mod (K : PySem.W.Frag) (mg : Str → Option Value) (base : Heap) : Prop where
  kin : K.In base
  glob : base.Ns mainGlobals mg
  blt : ∃ mb, base.Ns builtinsNs mb ∧ ∀ x : Str, x ≠ "__name__" → mb x = bootBuiltins x
  nolimit : base.NoLimit

structure Cx where
  prog : Program
  w : World
  K : PySem.W.Frag
  mg : Str → Option Value
  base : Heap
  A : Around
  N : List Str
  s₀ : Shared
  H₀ : Hp
  env : Env
  outer : List Env
  stack : List Env
  ex : List Addr
  fn : Str → Bool
  calm : Bool
  pn : List (Addr × Obj)
  xe : Value → Shared → Prop
def frs (l : List Env) : List Addr := l.filterMap (·.frame)
abbrev Cx.fs (X : Cx) : List Addr := frs X.outer

def Vis (sc : Scope) (x : Str) : Prop := sc.names.lookup x = some .local ∨ sc.names.lookup x = some .cell ∨ sc.names.lookup x = some .free
def Loc (sc : Scope) (x : Str) : Prop := sc.names.lookup x = some .local ∨ sc.names.lookup x = some .cell
def Look (env : Env) (h : Heap) (m : Str → Option Value) (x : Str) (u : Value) : Prop :=
  (env.kindOf x = some .local ∧ m x = some u) ∨ ((env.kindOf x = some .cell ∨ env.kindOf x = some .free) ∧ ∃ c, env.cells.lookup x = some c ∧ h.IsCell c (some u))

structure Cx.Ok (X : Cx) : Prop where
  mod : Mod X.K X.mg X.base
  kind : X.env.scope.kind = .function
  glob : X.env.globals = mainGlobals
  blt : X.env.builtins = builtinsNs
  above : X.s₀.heap.objs.size ≤ X.env.locals
  inj : ∀ x y c, X.env.cells.lookup x = some c → X.env.cells.lookup y = some c → x = y
  has : ∀ x, (X.env.kindOf x = some .cell ∨ X.env.kindOf x = some .free) → ∃ c, X.env.cells.lookup x = some c
  cab : ∀ x c, X.fn x = true → X.env.cells.lookup x = some c → X.s₀.heap.objs.size ≤ c
  hd : X.calm = true → X.A.handled = none
  frames : X.A.frames = some X.stack
  stk : X.stack = X.outer ∨ (X.stack = X.env :: X.outer ∧ X.env.frame = some X.env.locals)
  exf : ∀ b ∈ X.ex, b ≠ X.env.locals ∧ ∀ x c, X.env.cells.lookup x = some c → c ≠ b
  bs : ∀ b o, X.base.get? b = some o → X.s₀.heap.get? b = some o ∧ X.H₀ b = none
  bsz : X.base.objs.size ≤ X.s₀.heap.objs.size
  noex : ∀ b o, X.base.get? b = some o → b ∉ X.ex
  exfs : ∀ b ∈ X.ex, b ∉ X.fs
  funs : X.s₀.heap.FunFrames X.base X.outer
  frf : ∀ b ∈ X.fs, X.H₀ b = none

structure Inv (X : Cx) (pins : List (Addr × Obj)) (σ : List (Option V)) (H : Hp) (s : Shared) : Prop where
  ok : X.Ok
  os : s.os = X.s₀.os
  bare : AllBare s.gens
  base : Un X.fs X.ex X.H₀ H X.s₀.heap s.heap
  loc : ∃ m, s.heap.Ns X.env.locals m ∧ ∀ (i : Nat) (x : Str) (v : V), X.N[i]? = some x → σ[i]? = some (some v) → Vis X.env.scope x → ∃ u, RelV v u ∧ Look X.env s.heap m x u
  cell : ∀ x c, X.env.cells.lookup x = some c → ∃ v, s.heap.IsCell c v
  free : H X.env.locals = none
  freeC : ∀ x c, X.env.cells.lookup x = some c → H c = none
  pin : ∀ p ∈ X.pn ++ pins, s.heap.get? p.1 = some p.2 ∧ H p.1 = none ∧ p.1 ≠ X.env.locals ∧ p.1 ∉ X.fs ∧ ∀ v, p.2.data ≠ .cell v
  hok : HOk X.prog X.w H s.heap
  len : σ.length = X.N.length

section
variable {X : Cx} {pins : List (Addr × Obj)} {σ : List (Option V)} {H H' : Hp} {s : Shared} {h' : Heap}

theorem Cx.Ok.nofr (ok : X.Ok) {b : Addr} {o : Obj} (e : X.base.get? b = some o) : b ∉ X.fs := fun hb => by
  have := (ok.funs.mem hb).1
  rw [e] at this; cases this
theorem Inv.bs (I : Inv X pins σ H s) : ∀ b o, X.base.get? b = some o → s.heap.get? b = some o ∧ H b = none := fun b o e =>
  ⟨I.base.keep b o (I.ok.bs b o e).1 (I.ok.bs b o e).2 (I.ok.nofr e) (I.ok.noex b o e), I.base.free b o (I.ok.bs b o e).1 (I.ok.bs b o e).2 (I.ok.noex b o e)⟩
theorem Inv.bk (I : Inv X pins σ H s) : ∀ b o, X.base.get? b = some o → s.heap.get? b = some o := fun b o e => (I.bs b o e).1
theorem Inv.mod (I : Inv X pins σ H s) : Mod X.K X.mg X.base := I.ok.mod
theorem Inv.kIn (I : Inv X pins σ H s) : X.K.In s.heap := I.ok.mod.kin.keeps I.bk
theorem Inv.nolimit (I : Inv X pins σ H s) : s.heap.NoLimit := I.ok.mod.nolimit.keeps I.bk
theorem Inv.fr (I : Inv X pins σ H s) : ∃ m, Fr X.base X.env.locals s.heap m :=
  let ⟨m, hn, _⟩ := I.loc
  ⟨m, hn, I.bk, Nat.le_trans I.ok.bsz I.ok.above⟩
theorem Inv.lt (I : Inv X pins σ H s) : X.env.locals < s.heap.objs.size := let ⟨_, hn, _⟩ := I.loc; hn.lt
theorem Inv.sz (I : Inv X pins σ H s) : X.s₀.heap.objs.size ≤ s.heap.objs.size := Nat.le_trans I.ok.above (Nat.le_of_lt I.lt)
theorem Inv.nofs (I : Inv X pins σ H s) {a : Addr} (h : s.heap.objs.size ≤ a) : a ∉ X.fs := fun hb => by
  obtain ⟨_, o, ho, _⟩ := I.ok.funs.mem hb
  exact absurd (Nat.lt_of_lt_of_le (Heap.lt_size ho) (Nat.le_trans I.sz h)) (Nat.lt_irrefl _)
theorem Inv.cne (I : Inv X pins σ H s) : ∀ x c, X.env.cells.lookup x = some c → c ≠ X.env.locals := fun x c e z => by
  obtain ⟨v, o, ho, hd⟩ := I.cell x c e
  obtain ⟨m, ⟨o', es, ep, ho', hd', _⟩, _⟩ := I.loc
  rw [z, ho'] at ho; cases ho; rw [hd'] at hd; cases hd
theorem Inv.funs (I : Inv X pins σ H s) : s.heap.FunFrames X.base X.outer := by
  have all : ∀ (l : List Env), (∀ b ∈ frs l, b ∈ X.fs) → X.s₀.heap.FunFrames X.base l → s.heap.FunFrames X.base l := by
    intro l
    induction l with
    | nil => intro _ _; trivial
    | cons env r ih =>
      intro hs hl
      obtain ⟨hk, ⟨L, o, hf, hn, ho, hd⟩, hr⟩ := hl
      have hL : L ∈ X.fs := hs L (by unfold frs; rw [List.filterMap_cons, hf]; exact List.mem_cons_self)
      obtain ⟨sl, e⟩ := I.base.slot L o ho (I.ok.frf L hL) hL fun z => I.ok.exfs L z hL
      exact ⟨hk, ⟨L, _, hf, hn, e, hd⟩, ih (fun b hb => hs b (by unfold frs; rw [List.filterMap_cons, hf]; exact List.mem_cons_of_mem _ hb)) hr⟩
  exact all X.outer (fun _ hb => hb) I.ok.funs

theorem Inv.stack (I : Inv X pins σ H s) : s.heap.FunFrames X.base X.stack := by
  rcases I.ok.stk with e | ⟨e, hf⟩
  · rw [e]; exact I.funs
  · rw [e]
    obtain ⟨m, hn, _⟩ := I.loc
    refine .cons (by rw [I.ok.kind]; decide) hf hn ?_ I.funs
    exact Heap.get?_none_of_le (Nat.le_trans I.ok.bsz I.ok.above)
theorem Inv.stkSub (I : Inv X pins σ H s) : ∀ b ∈ frs X.stack, b ∈ X.env.locals :: X.fs := fun b hb => by
  rcases I.ok.stk with e | ⟨e, hf⟩
  · rw [e] at hb; exact List.mem_cons_of_mem _ hb
  · rw [e] at hb
    unfold frs at hb
    rw [List.filterMap_cons, hf] at hb
    exact hb
theorem Inv.stkFree (I : Inv X pins σ H s) : ∀ b ∈ frs X.stack, H b = none := fun b hb => by
  rcases List.mem_cons.mp (I.stkSub b hb) with e | hb
  · rw [e]; exact I.free
  · obtain ⟨_, o, ho, _⟩ := I.ok.funs.mem hb
    exact I.base.free b o ho (I.ok.frf b hb) fun z => I.ok.exfs b z hb

theorem Inv.step {g' : Array GenState} {t' : Nat} {d' : Drawn} {ch : List Addr} (I : Inv X pins σ H s)
    (hch : ∀ b ∈ ch, (b ∈ X.ex ∨ X.s₀.heap.objs.size ≤ b) ∧ b ≠ X.env.locals ∧ (∀ x c, X.env.cells.lookup x = some c → c ≠ b) ∧ ∀ p ∈ X.pn ++ pins, p.1 ≠ b)
    (keep : ∀ b o, b ≠ X.env.locals → b ∉ X.fs → b ∉ ch → s.heap.get? b = some o → H b = none → h'.get? b = some o)
    (slot : ∀ b o, b ≠ X.env.locals → b ∈ X.fs → b ∉ ch → s.heap.get? b = some o → H b = none → ∃ sl, h'.get? b = some { o with slots := sl }) (free : ∀ b o, b ∉ ch → s.heap.get? b = some o → H b = none → H' b = none)
    (there : ∀ b o, b ∉ ch → s.heap.get? b = some o → ∃ o', h'.get? b = some o')
    (tups : ∀ b xs, H b = some (.tup xs) → H' b = some (.tup xs)) (frzs : ∀ b o u, H b = some (.frz o u) → H' b = some (.frz o u)) (tbls : ∀ b ps, H b = some (.tbl ps) → ∃ more, H' b = some (.tbl (ps ++ more)))
    (ns : ∀ m, s.heap.Ns X.env.locals m → h'.Ns X.env.locals m) (hok : HOk X.prog X.w H' h') (hg : AllBare g') :
    Inv X pins σ H' { s with heap := h', gens := g', drawn := d', toks := t' } := by
  have neL : ∀ b o, X.s₀.heap.get? b = some o → b ≠ X.env.locals := fun b o e => Nat.ne_of_lt (Nat.lt_of_lt_of_le (Heap.lt_size e) I.ok.above)
  have neC : ∀ b o, X.s₀.heap.get? b = some o → b ∉ X.ex → b ∉ ch := fun b o e hx hb => by
    rcases (hch b hb).1 with z | z
    · exact hx z
    · exact absurd (Nat.lt_of_lt_of_le (Heap.lt_size e) z) (Nat.lt_irrefl _)
  have cellK : ∀ x c, X.env.cells.lookup x = some c → ∀ v, s.heap.IsCell c v → h'.IsCell c v := fun x c e v ⟨o, ho, hd⟩ => by
    have nch : c ∉ ch := fun z => (hch c z).2.2.1 x c e rfl
    by_cases hc : c ∈ X.fs
    · obtain ⟨sl, q⟩ := slot c o (I.cne x c e) hc nch ho (I.freeC x c e)
      exact ⟨_, q, hd⟩
    · exact ⟨o, keep c o (I.cne x c e) hc nch ho (I.freeC x c e), hd⟩
  refine ⟨I.ok, I.os, hg, ⟨fun b o e n hb hx => ?_, fun b o e n hb hx => ?_, fun b o e n hx => ?_, fun b o e hx => ?_, fun b xs e => tups b xs (I.base.tups b xs e), fun b o xs e => frzs b o xs (I.base.frzs b o xs e), fun b ps e => ?_⟩, ?_, fun x c e => ?_, ?_, fun x c e => ?_, fun p hp => ?_, hok, I.len⟩
  · exact keep b o (neL b o e) hb (neC b o e hx) (I.base.keep b o e n hb hx) (I.base.free b o e n hx)
  · obtain ⟨sl, e1⟩ := I.base.slot b o e n hb hx
    obtain ⟨sl', e2⟩ := slot b _ (neL b o e) hb (neC b o e hx) e1 (I.base.free b o e n hx)
    exact ⟨sl', e2⟩
  · obtain ⟨o', e1⟩ := I.base.there b o e hx
    exact free b o' (neC b o e hx) e1 (I.base.free b o e n hx)
  · obtain ⟨o', e1⟩ := I.base.there b o e hx
    exact there b o' (neC b o e hx) e1
  · obtain ⟨m1, e1⟩ := I.base.tbls b ps e
    obtain ⟨m2, e2⟩ := tbls b _ e1
    exact ⟨m1 ++ m2, by rw [e2, Array.append_assoc]⟩
  · obtain ⟨m, hn, hl⟩ := I.loc
    refine ⟨m, ns m hn, fun i x v e1 e2 e3 => ?_⟩
    obtain ⟨u, r, l⟩ := hl i x v e1 e2 e3
    refine ⟨u, r, ?_⟩
    rcases l with l | ⟨k, c, e, z⟩
    · exact .inl l
    · exact .inr ⟨k, c, e, cellK x c e _ z⟩
  · obtain ⟨v, z⟩ := I.cell x c e
    exact ⟨v, cellK x c e v z⟩
  · obtain ⟨m, ⟨o, _, _, ho, _⟩, _⟩ := I.loc
    exact free _ o (fun z => (hch _ z).2.1 rfl) ho I.free
  · obtain ⟨v, o, ho, hd⟩ := I.cell x c e
    exact free c o (fun z => (hch c z).2.2.1 x c e rfl) ho (I.freeC x c e)
  · obtain ⟨e, n, ne, nf, d⟩ := I.pin p hp
    have nch : p.1 ∉ ch := fun z => (hch p.1 z).2.2.2 p hp rfl
    exact ⟨keep p.1 p.2 ne nf nch e n, free p.1 p.2 nch e n, ne, nf, d⟩
theorem Inv.un {t' : Nat} (I : Inv X pins σ H s) (u : Un X.fs [] H H' s.heap h') (hok : HOk X.prog X.w H' h') : Inv X pins σ H' { s with heap := h', toks := t' } := by
  obtain ⟨m, ⟨o, es, ep, ho, r⟩, _⟩ := id I.loc
  obtain ⟨sl, hL⟩ := u.any ho I.free (by simp)
  exact I.step (g' := s.gens) (d' := s.drawn) (ch := []) (fun _ z => nomatch z) (fun b o _ hb _ e n => u.keep b o e n hb (by simp)) (fun b o _ hb _ e n => u.slot b o e n hb (by simp)) (fun b o _ e n => u.free b o e n (by simp)) (fun b o _ e => u.there b o e (by simp)) u.tups u.frzs u.tbls (fun m' hm => by
    obtain ⟨o', es', ep', ho', r'⟩ := hm
    rw [ho] at ho'; cases ho'
    exact ⟨_, es', ep', hL, r'⟩) hok I.bare
theorem Inv.call {g' : Array GenState} {t' : Nat} {d' : Drawn} {ch : List Addr} (I : Inv X pins σ H s) (u : Un (frs X.stack) ch H H' s.heap h') (hok : HOk X.prog X.w H' h') (hg : AllBare g')
    (hch : ∀ b ∈ ch, (b ∈ X.ex ∨ X.s₀.heap.objs.size ≤ b) ∧ b ≠ X.env.locals ∧ (∀ x c, X.env.cells.lookup x = some c → c ≠ b) ∧ ∀ p ∈ X.pn ++ pins, p.1 ≠ b) :
    Inv X pins σ H' { s with heap := h', gens := g', drawn := d', toks := t' } := by
  obtain ⟨m, ⟨o, es, ep, ho, r⟩, _⟩ := id I.loc
  obtain ⟨sl, hL⟩ := u.any ho I.free fun z => (hch _ z).2.1 rfl
  exact I.step (ch := ch) hch (fun b o hL hb hc e n => u.keep b o e n (fun z => (List.mem_cons.mp (I.stkSub b z)).elim hL hb) hc) (fun b o _ _ hc e n => u.any e n hc) (fun b o hc e n => u.free b o e n hc) (fun b o hc e => u.there b o e hc) u.tups u.frzs u.tbls (fun m' hm => by
    obtain ⟨o', es', ep', ho', r'⟩ := hm
    rw [ho] at ho'; cases ho'
    exact ⟨_, es', ep', hL, r'⟩) hok hg
theorem Inv.turned {t' : Nat} {it : Addr} (I : Inv X pins σ H s) (k : ∀ b o, b ≠ it → s.heap.get? b = some o → h'.get? b = some o) (hn : H it = none) (hL : it ≠ X.env.locals)
    (h1 : it ∈ X.ex ∨ X.s₀.heap.objs.size ≤ it) (h2 : ∀ x c, X.env.cells.lookup x = some c → c ≠ it) (h3 : ∀ p ∈ X.pn ++ pins, p.1 ≠ it) : Inv X pins σ H { s with heap := h', toks := t' } := by
  have nit : ∀ b u, H b = some u → b ≠ it := fun b u e z => by rw [z, hn] at e; cases e
  refine I.step (g' := s.gens) (d' := s.drawn) (ch := [it]) (fun b hb => ?_) (fun b o _ _ hc e _ => k b o (fun z => hc (by simp [z])) e) (fun b o _ _ hc e _ => ⟨o.slots, k b o (fun z => hc (by simp [z])) e⟩) (fun _ _ _ _ n => n)
    (fun b o hc e => ⟨o, k b o (fun z => hc (by simp [z])) e⟩) (fun _ _ e => e) (fun _ _ _ e => e) (fun b ps e => ⟨#[], by rw [e]; simp⟩) (fun m hm => ?_) (fun b u e => ?_) I.bare
  · have e : b = it := by simpa using hb
    subst e
    exact ⟨h1, hL, h2, h3⟩
  · obtain ⟨o, es, ep, ho, r⟩ := hm
    exact ⟨o, es, ep, k _ o (Ne.symm hL) ho, r⟩
  · refine (I.hok b u e).stay (fun c v hc q => k c v ?_ q) (fun _ q => q) fun _ _ q => q
    rcases hc with z | z
    · rw [z]; exact nit b u e
    · exact nit c _ z
theorem Inv.tok (I : Inv X pins σ H s) (t : Nat) : Inv X pins σ H { s with toks := t } := I.un (h' := s.heap) (t' := t) Un.refl I.hok
theorem Inv.kept {t' : Nat} (I : Inv X pins σ H s) (k : ∀ b u, s.heap.get? b = some u → h'.get? b = some u) : Inv X pins σ H { s with heap := h', toks := t' } := I.un (Un.kept k) (I.hok.kept k)
theorem Inv.laid {a : Addr} {o : HO} {t' : Nat} (I : Inv X pins σ H s) (k : ∀ b u, s.heap.get? b = some u → h'.get? b = some u) (hp : s.heap.objs.size ≤ a) (new : ObjOk X.prog X.w (upd H a o) h' a o) :
    Inv X pins σ (upd H a o) { s with heap := h', toks := t' } := I.un (Un.laid k hp (I.hok.fresh hp)) (I.hok.laid k hp new)
theorem Inv.write {x e : Addr} {o : HO} {t' : Nat} (I : Inv X pins σ H s) (mu : Mut (H x)) (he : e = x ∨ H e = some (.own x)) (k : ∀ b u, b ≠ e → s.heap.get? b = some u → h'.get? b = some u) (heo : ∃ u, h'.get? e = some u)
    (new : ObjOk X.prog X.w (upd H x o) h' x o) : Inv X pins σ (upd H x o) { s with heap := h', toks := t' } := I.un (Un.write mu he k heo) (I.hok.write mu he k heo new)
theorem Inv.weak {σ' : List (Option V)} (I : Inv X pins σ H s) (hl : σ'.length = σ.length) (w : ∀ (i : Nat) v, σ'[i]? = some (some v) → σ[i]? = some (some v)) : Inv X pins σ' H s :=
  ⟨I.ok, I.os, I.bare, I.base, let ⟨m, hn, hl'⟩ := I.loc; ⟨m, hn, fun i x v e1 e2 e3 => hl' i x v e1 (w i v e2) e3⟩, I.cell, I.free, I.freeC, I.pin, I.hok, hl.trans I.len⟩
theorem Inv.pins_of {pins' : List (Addr × Obj)} (I : Inv X pins σ H s) (h : ∀ p ∈ pins', s.heap.get? p.1 = some p.2 ∧ H p.1 = none ∧ p.1 ≠ X.env.locals ∧ p.1 ∉ X.fs ∧ ∀ v, p.2.data ≠ .cell v) : Inv X pins' σ H s :=
  ⟨I.ok, I.os, I.bare, I.base, I.loc, I.cell, I.free, I.freeC, fun p hp => (List.mem_append.mp hp).elim (fun z => I.pin p (List.mem_append_left _ z)) (h p), I.hok, I.len⟩

theorem nodup_ix {N : List Str} (hN : N.Nodup) {i j : Nat} {x : Str} (a : N[i]? = some x) (b : N[j]? = some x) : i = j := by
  obtain ⟨h1, e1⟩ := List.getElem?_eq_some_iff.mp a
  obtain ⟨h2, e2⟩ := List.getElem?_eq_some_iff.mp b
  exact (List.getElem_inj hN).mp (e1.trans e2.symm)

theorem store_ok2 {M : Model} {A : Around} {E : Value → Shared → Prop} {i : Nat} {x : Str} {v : V} {u : Value} {Q : Unit → Shared → Prop} (I : Inv X pins σ H s) (hN : X.N.Nodup) (hi : X.N[i]? = some x) (hx : Loc X.env.scope x) (r : RelV v u)
    (h : ∀ s', Inv X pins (σ.set i (some v)) H s' → (∃ a, Heap.SameBut a s.heap s'.heap ∧ (a = X.env.locals ∨ X.env.cells.lookup x = some a)) → Q () s') (hf : X.fn x = true ∨ X.env.scope.names.lookup x = some .local := by first | exact .inl rfl | exact .inr rfl | assumption) : wpAny M A (storeName X.env x u) Q E s := by
  obtain ⟨m, hn, hl⟩ := id I.loc
  have hcls : (X.env.scope.kind == .class || (X.env.scope.kind == .module && X.env.locals != X.env.globals)) = false := by rw [I.ok.kind]; rfl
  have hiσ : i < σ.length := by rw [I.len]; exact (List.getElem?_eq_some_iff.mp hi).1
  have cne := I.cne
  have tracked : ∀ {a : Addr} {h' : Heap}, (∃ o, s.heap.get? a = some o ∧ H a = none) → Heap.SameBut a s.heap h' → HOk X.prog X.w H h' := fun {a h'} ha hs b ob e => by
    obtain ⟨_, _, hfree⟩ := ha
    refine (I.hok b ob e).stay (fun c w' hc q => (hs.2 c ?_).trans q) (fun _ q => q) fun _ _ q => q
    rintro rfl
    rcases hc with rfl | hc
    · rw [hfree] at e; cases e
    · rw [hfree] at hc; cases hc
  rcases hx with hk | hk
  · refine wpAny_storeName_local hk hn (fun h' hn' hs => ?_) hcls
    obtain ⟨oL, _, _, hoL, _⟩ := id hn
    refine h _ ⟨I.ok, I.os, I.bare, ⟨fun b o e n hb hx => ?_, fun b o e n hb hx => ?_, I.base.free, fun b o e hx => ?_, I.base.tups, I.base.frzs, I.base.tbls⟩, ⟨_, hn', fun j y v' e1 e2 e3 => ?_⟩, fun y c e => ?_, I.free, I.freeC, fun p hp => ?_, tracked ⟨oL, hoL, I.free⟩ hs, by simpa using I.len⟩ ⟨_, hs, .inl rfl⟩
    · exact (hs.2 b (Nat.ne_of_lt (Nat.lt_of_lt_of_le (Heap.lt_size e) I.ok.above))).trans (I.base.keep b o e n hb hx)
    · obtain ⟨sl, e1⟩ := I.base.slot b o e n hb hx
      exact ⟨sl, (hs.2 b (Nat.ne_of_lt (Nat.lt_of_lt_of_le (Heap.lt_size e) I.ok.above))).trans e1⟩
    · obtain ⟨o', e1⟩ := I.base.there b o e hx
      exact ⟨o', (hs.2 b (Nat.ne_of_lt (Nat.lt_of_lt_of_le (Heap.lt_size e) I.ok.above))).trans e1⟩
    · by_cases hj : j = i
      · subst hj
        rw [hi] at e1; cases e1
        rw [List.getElem?_set_self hiσ] at e2
        cases e2
        exact ⟨u, r, .inl ⟨hk, by simp⟩⟩
      · rw [List.getElem?_set_ne (Ne.symm hj)] at e2
        obtain ⟨u', r', q⟩ := hl j y v' e1 e2 e3
        refine ⟨u', r', ?_⟩
        rcases q with ⟨k, e⟩ | ⟨k, c, e, z⟩
        · refine .inl ⟨k, ?_⟩
          have : y ≠ x := fun e => hj (nodup_ix hN e1 (e ▸ hi))
          simp [this, e]
        · exact .inr ⟨k, c, e, z.sameBut hs (cne y c e)⟩
    · obtain ⟨w', z⟩ := I.cell y c e
      exact ⟨w', z.sameBut hs (cne y c e)⟩
    · obtain ⟨e, n, ne, nf, d⟩ := I.pin p hp
      exact ⟨(hs.2 p.1 ne).trans e, n, ne, nf, d⟩
  · have hfn : X.fn x = true := by
      rcases hf with z | z
      · exact z
      · rw [z] at hk; cases hk
    obtain ⟨c, hc⟩ := I.ok.has x (.inl hk)
    obtain ⟨w', z⟩ := I.cell x c hc
    refine wpAny_storeName_cell I.ok.kind hk hc z (fun h' hc' hs => ?_)
    obtain ⟨oc, hoc, hocd⟩ := id z
    refine h { s with heap := h' } ⟨I.ok, I.os, I.bare, ⟨fun b o e n hb hx => ?_, fun b o e n hb hx => ?_, I.base.free, fun b o e hx => ?_, I.base.tups, I.base.frzs, I.base.tbls⟩, ⟨m, hn.sameBut hs (Ne.symm (cne x c hc)), fun j y v' e1 e2 e3 => ?_⟩, fun y c' e => ?_, I.free, I.freeC, fun p hp => ?_, tracked ⟨oc, hoc, I.freeC x c hc⟩ hs, by simpa using I.len⟩ ⟨c, hs, .inr hc⟩
    · exact (hs.2 b (Nat.ne_of_lt (Nat.lt_of_lt_of_le (Heap.lt_size e) (I.ok.cab x c hfn hc)))).trans (I.base.keep b o e n hb hx)
    · obtain ⟨sl, e1⟩ := I.base.slot b o e n hb hx
      exact ⟨sl, (hs.2 b (Nat.ne_of_lt (Nat.lt_of_lt_of_le (Heap.lt_size e) (I.ok.cab x c hfn hc)))).trans e1⟩
    · obtain ⟨o', e1⟩ := I.base.there b o e hx
      exact ⟨o', (hs.2 b (Nat.ne_of_lt (Nat.lt_of_lt_of_le (Heap.lt_size e) (I.ok.cab x c hfn hc)))).trans e1⟩
    · by_cases hj : j = i
      · subst hj
        rw [hi] at e1; cases e1
        rw [List.getElem?_set_self hiσ] at e2
        cases e2
        exact ⟨u, r, .inr ⟨.inl hk, c, hc, hc'⟩⟩
      · rw [List.getElem?_set_ne (Ne.symm hj)] at e2
        obtain ⟨u', r', q⟩ := hl j y v' e1 e2 e3
        refine ⟨u', r', ?_⟩
        rcases q with q | ⟨k, c', e, z'⟩
        · exact .inl q
        · refine .inr ⟨k, c', e, z'.sameBut hs ?_⟩
          rintro rfl
          exact hj (nodup_ix hN e1 (I.ok.inj _ _ _ e hc ▸ hi))
    · by_cases hcc : c' = c
      · subst hcc; exact ⟨_, hc'⟩
      · obtain ⟨w2, z2⟩ := I.cell y c' e
        exact ⟨w2, z2.sameBut hs hcc⟩
    · obtain ⟨e, n, ne, nf, d⟩ := I.pin p hp
      refine ⟨(hs.2 p.1 ?_).trans e, n, ne, nf, d⟩
      intro q
      rw [q, hoc] at e
      have q' : oc = p.2 := Option.some.inj e
      exact d w' (by rw [← q']; exact hocd)
theorem store_ok {M : Model} {A : Around} {E : Value → Shared → Prop} {i : Nat} {x : Str} {v : V} {u : Value} {Q : Unit → Shared → Prop} (I : Inv X pins σ H s) (hN : X.N.Nodup) (hi : X.N[i]? = some x) (hx : Loc X.env.scope x) (r : RelV v u)
    (h : ∀ s', Inv X pins (σ.set i (some v)) H s' → Q () s') (hf : X.fn x = true ∨ X.env.scope.names.lookup x = some .local := by first | exact .inl rfl | exact .inr rfl | assumption) : wpAny M A (storeName X.env x u) Q E s :=
  store_ok2 I hN hi hx r (fun s' I' _ => h s' I') hf
theorem Inv.call' {s' : Shared} {ch : List Addr} (I : Inv X pins σ H s) (ho : s'.os = s.os) (u : Un (frs X.stack) ch H H' s.heap s'.heap) (hok : HOk X.prog X.w H' s'.heap) (hg : AllBare s'.gens)
    (hch : ∀ b ∈ ch, (b ∈ X.ex ∨ X.s₀.heap.objs.size ≤ b) ∧ b ≠ X.env.locals ∧ (∀ x c, X.env.cells.lookup x = some c → c ≠ b) ∧ ∀ p ∈ X.pn ++ pins, p.1 ≠ b) : Inv X pins σ H' s' := by
  obtain ⟨h', g', d', t', o'⟩ := s'
  have e : o' = s.os := ho
  subst e
  exact I.call (g' := g') (t' := t') (d' := d') u hok hg hch
end

abbrev XK := Value → Option Addr → Hp → Prop
abbrev St := List (Option V)
abbrev VK := V → Hp → Prop
abbrev TE := St → Hp → VK → Prop
abbrev TT := St → Hp → (Bool → Hp → Prop) → Prop
abbrev TA := St → Hp → (List V → Hp → Prop) → Prop
structure Ends where
  nx : St → Hp → Prop
  rt : VK
  bk : St → Hp → Prop := fun _ _ => False
  ct : St → Hp → Prop := fun _ _ => False
abbrev TS := Ends → St → Hp → Prop

def EP (X : Cx) (pins : List (Addr × Obj)) (σ : St) (Q : VK) (u : Value) (s' : Shared) : Prop := ∃ v H', Inv X pins σ H' s' ∧ RelV v u ∧ Q v H'
def TP (X : Cx) (pins : List (Addr × Obj)) (σ : St) (Q : Bool → Hp → Prop) (b : Bool) (s' : Shared) : Prop := ∃ H', Inv X pins σ H' s' ∧ Q b H'
def AP (X : Cx) (pins : List (Addr × Obj)) (σ : St) (Q : List V → Hp → Prop) (us : List Value) (s' : Shared) : Prop := ∃ vs H', Inv X pins σ H' s' ∧ Vals vs us ∧ Q vs H'
def SP (X : Cx) (pins : List (Addr × Obj)) (D : Ends) (f : Flow) (s' : Shared) : Prop :=
  match f with
  | .next => ∃ σ' H', Inv X pins σ' H' s' ∧ D.nx σ' H'
  | .brk => ∃ σ' H', Inv X pins σ' H' s' ∧ D.bk σ' H'
  | .cont => ∃ σ' H', Inv X pins σ' H' s' ∧ D.ct σ' H'
  | .ret u => ∃ v σ' H', Inv X pins σ' H' s' ∧ RelV v u ∧ D.rt v H'

def PE (X : Cx) (e : Expr) (t : TE) : Prop :=
  ∀ (pins : List (Addr × Obj)) (s : Shared) (σ : St) (H : Hp) (Q : VK), Inv X pins σ H s → t σ H Q → wpAny (model X.prog X.w) X.A (eval e X.env) (EP X pins σ Q) X.xe s
def PT (X : Cx) (e : Expr) (t : TT) : Prop :=
  ∀ (pins : List (Addr × Obj)) (s : Shared) (σ : St) (H : Hp) (Q : Bool → Hp → Prop), Inv X pins σ H s → t σ H Q → wpAny (model X.prog X.w) X.A (isTrue e X.env (eval e X.env)) (TP X pins σ Q) X.xe s
def PW (X : Cx) (e : Expr) (t : TT) : Prop :=
  ∀ (whole : Sem Value) (pins : List (Addr × Obj)) (s : Shared) (σ : St) (H : Hp) (Q : Bool → Hp → Prop), Inv X pins σ H s → t σ H Q → wpAny (model X.prog X.w) X.A (isTrue e X.env whole) (TP X pins σ Q) X.xe s
theorem PW.pt {X : Cx} {e : Expr} {t : TT} (h : PW X e t) : PT X e t := h _
def PA (X : Cx) (es : List Expr) (t : TA) : Prop :=
  ∀ (pos : Pos) (pins : List (Addr × Obj)) (s : Shared) (σ : St) (H : Hp) (Q : List V → Hp → Prop), Inv X pins σ H s → t σ H Q → wpAny (model X.prog X.w) X.A (spliced (backTo pos (starEach es X.env))) (AP X pins σ Q) X.xe s
def PS (X : Cx) (st : Stmt) (t : TS) : Prop :=
  ∀ (pins : List (Addr × Obj)) (s : Shared) (σ : St) (H : Hp) (D : Ends), Inv X pins σ H s → t D σ H → wpAny (model X.prog X.w) X.A (exec st X.env) (SP X pins D) X.xe s
def PSs (X : Cx) (st : List Stmt) (t : TS) : Prop :=
  ∀ (pins : List (Addr × Obj)) (s : Shared) (σ : St) (H : Hp) (D : Ends), Inv X pins σ H s → t D σ H → wpAny (model X.prog X.w) X.A (execs st X.env) (SP X pins D) X.xe s
theorem thn {α : Type} {t : Sem α} {Q Q' : α → Shared → Prop} {M : Model} {A : Around} {E : Value → Shared → Prop} {s : Shared} (h : wpAny M A t Q E s) (hQ : ∀ a s, Q a s → Q' a s) : wpAny M A t Q' E s := wpAny_mono h hQ fun _ _ x => x
end L2

namespace L2
open PySem PySem.Spec PyProof.Rows
section
variable {X : Cx}

def tVar (i : Nat) : TE := fun σ H Q => ∃ v, σ[i]? = some (some v) ∧ Q v H
def tC (v : V) : TE := fun _ H Q => Q v H
theorem pe_var {i : Nat} {x : Str} {pos : Pos} (hN : X.N[i]? = some x) (hv : Vis X.env.scope x) (hd : (x == ("__debug__" : Str)) = false := by decide) (hcd : (x == ("__classdict__" : Str)) = false := by decide) : PE X (.Name x pos) (tVar i) := by
  intro pins s σ H Q I h
  obtain ⟨v, e, h⟩ := h
  obtain ⟨m, hn, hl⟩ := I.loc
  obtain ⟨u, r, l⟩ := hl i x v hN e hv
  have fin : EP X pins σ Q u s := ⟨v, H, I, r, h⟩
  rcases l with ⟨hk, hm⟩ | ⟨hk, c, hc, hcell⟩
  · exact wpAny_Name (wpAny_loadName_local I.ok.kind hk hn hm fin) hd
  · rcases hk with hk | hk
    · exact wpAny_Name (wpAny_loadName_cell I.ok.kind hk hc hcell fin) hd
    · exact wpAny_Name (wpAny_loadName_free I.ok.kind hk hc hcell fin hcd) hd
theorem pe_int {i j pos} : PE X (.Constant (.int i) j pos) (tC (.int i)) := fun _ _ _ H _ I h => wpAny_Constant_int ⟨.int i, H, I.tok _, ⟨_, rfl⟩, h⟩
theorem pe_bl {b j pos} : PE X (.Constant (.bool b) j pos) (tC (.bl b)) := fun _ _ _ H _ I h => Constant_bool ⟨.bl b, H, I, rfl, h⟩
def Gl (X : Cx) (x : Str) : Prop := X.env.kindOf x = some .globalImplicit
theorem ld_glob {E : Value → Shared → Prop} {pins : List (Addr × Obj)} {s : Shared} {σ : St} {H : Hp} {x : Str} {u : Value} {pos : Pos} {Q : Value → Shared → Prop} (I : Inv X pins σ H s) (hg : Gl X x) (hm : X.mg x = some u) (h : Q u s)
    (hd : (x == ("__debug__" : Str)) = false := by decide) : wpAny (model X.prog X.w) X.A (eval (.Name x pos) X.env) Q E s :=
  Calls.Name_function_global I.ok.kind hg (Calls.loadGlobal_global (by rw [I.ok.glob]; exact I.mod.glob.keeps I.bk) hm h) hd
theorem ld_blt {E : Value → Shared → Prop} {pins : List (Addr × Obj)} {s : Shared} {σ : St} {H : Hp} {x : Str} {u : Value} {pos : Pos} {Q : Value → Shared → Prop} (I : Inv X pins σ H s) (hg : Gl X x) (hm : X.mg x = none) (hv : bootBuiltins x = some u) (h : Q u s)
    (hn : x ≠ "__name__" := by decide) (hd : (x == ("__debug__" : Str)) = false := by decide) : wpAny (model X.prog X.w) X.A (eval (.Name x pos) X.env) Q E s := by
  obtain ⟨mb, h1, h2⟩ := I.mod.blt
  exact Calls.Name_function_global I.ok.kind hg (Calls.loadGlobal_builtin (by rw [I.ok.glob]; exact I.mod.glob.keeps I.bk) hm (by rw [I.ok.blt]; exact h1.keeps I.bk) ((h2 x hn).trans hv) h) hd
theorem pe_glob {x : Str} {v : V} {u : Value} {pos : Pos} (hg : Gl X x) (hm : X.mg x = some u) (r : RelV v u) (hd : (x == ("__debug__" : Str)) = false := by decide) : PE X (.Name x pos) (tC v) :=
  fun _ _ _ H _ I h => ld_glob I hg hm ⟨v, H, I, r, h⟩ hd
theorem pe_bltn {x : Str} {v : V} {u : Value} {pos : Pos} (hg : Gl X x) (hm : X.mg x = none) (hv : bootBuiltins x = some u) (r : RelV v u) (hn : x ≠ "__name__" := by decide) (hd : (x == ("__debug__" : Str)) = false := by decide) : PE X (.Name x pos) (tC v) :=
  fun _ _ _ H _ I h => ld_blt I hg hm hv ⟨v, H, I, r, h⟩ hn hd

variable {a b : Expr} {ta tb : TE} {pos : Pos}
def PC (X : Cx) (op : CmpOp) (a b : Expr) (t : TE) : Prop :=
  ∀ (pins : List (Addr × Obj)) (s : Shared) (σ : St) (H : Hp) (Q : VK), Inv X pins σ H s → t σ H Q →
    wpAny (model X.prog X.w) X.A (eval a X.env) (fun v s₁ => wpAny (model X.prog X.w) X.A (eval b X.env) (fun u s₂ => wpAny (model X.prog X.w) X.A (compareOp op v u) (EP X pins σ Q) X.xe s₂) X.xe s₁) X.xe s
theorem nobehind (b : Expr) {op : CmpOp} (h : op ≠ .In) (h2 : op ≠ .NotIn) : behindInMarks op b = false := by
  have e1 : (op == CmpOp.In) = false := by cases op <;> first | rfl | exact absurd rfl h
  have e2 : (op == CmpOp.NotIn) = false := by cases op <;> first | rfl | exact absurd rfl h2
  cases b <;> simp [behindInMarks, e1, e2]
def tB (t : TE) : TT := fun σ H Q => t σ H fun x H1 => ∃ c, x = .bl c ∧ Q c H1
theorem pt_cmp {op : CmpOp} {t : TE} (h : PC X op a b t) (h1 : behindInMarks op b = false := by first | exact nobehind _ (by decide) (by decide) | rfl) : PT X (.Compare a [op] [b] pos) (tB t) := by
  intro pins s σ H Q I hw
  refine wpAny_isTrue_Compare1 (thn (h pins s σ H _ I hw) fun v s1 h1 => thn h1 fun u s2 h2 => thn h2 fun c s3 ⟨x, H1, I1, r1, q1⟩ => ?_) h1
  obtain ⟨d, rfl, q⟩ := q1
  cases r1
  exact wpAny_truthy_bool ⟨H1, I1, q⟩
theorem pt_val {e : Expr} {t : TE} (h : PE X e t) (he : ∀ whole, isTrue e X.env whole = (do let v ← whole; standAt e.pos; holding [v] (truthy v)) := by intro _; rfl) : PT X e (tB t) := by
  intro pins s σ H Q I hw
  refine isTrue_plain (thn (h pins s σ H _ I hw) fun v s1 ⟨x, H1, I1, r1, q1⟩ => ?_) (he _)
  obtain ⟨d, rfl, q⟩ := q1
  cases r1
  exact wpAny_truthy_bool ⟨H1, I1, q⟩

variable {tA tB' : TT} {rest : List Expr}
def tAnd (t u : TT) : TT := fun σ H Q => t σ H fun c H1 => if c = true then u σ H1 Q else Q false H1
def tOr (t u : TT) : TT := fun σ H Q => t σ H fun c H1 => if c = true then Q true H1 else u σ H1 Q
def tNot (t : TT) : TT := fun σ H Q => t σ H fun c H1 => Q (!c) H1
theorem pw_and1 (ha : PT X a tA) : PW X (.BoolOp .And [a] pos) tA := by
  intro wh pins s σ H Q I h
  refine isTrue_and (thn (ha pins s σ H Q I h) fun c s1 e => ?_)
  cases c with
  | true => exact isTrue_and_nil e
  | false => exact e
theorem pw_or1 (ha : PT X a tA) : PW X (.BoolOp .Or [a] pos) tA := by
  intro wh pins s σ H Q I h
  refine isTrue_or (thn (ha pins s σ H Q I h) fun c s1 e => ?_)
  cases c with
  | false => exact isTrue_or_nil e
  | true => exact e
theorem pw_and (ha : PT X a tA) (hb : PW X (.BoolOp .And (b :: rest) pos) tB') : PW X (.BoolOp .And (a :: b :: rest) pos) (tAnd tA tB') := by
  intro wh pins s σ H Q I h
  refine isTrue_and (thn (ha pins s σ H _ I h) fun c s1 ⟨H1, I1, q1⟩ => ?_)
  cases c with
  | true => exact hb wh pins s1 σ H1 Q I1 q1
  | false => exact ⟨H1, I1, q1⟩
theorem pw_or (ha : PT X a tA) (hb : PW X (.BoolOp .Or (b :: rest) pos) tB') : PW X (.BoolOp .Or (a :: b :: rest) pos) (tOr tA tB') := by
  intro wh pins s σ H Q I h
  refine isTrue_or (thn (ha pins s σ H _ I h) fun c s1 ⟨H1, I1, q1⟩ => ?_)
  cases c with
  | true => exact ⟨H1, I1, q1⟩
  | false => exact hb wh pins s1 σ H1 Q I1 q1
theorem pt_not (ha : PT X a tA) : PT X (.UnaryOp .Not a pos) (tNot tA) := by
  intro pins s σ H Q I h
  exact isTrue_not (ha pins s σ H (fun c H1 => Q (!c) H1) I h)
def tAndV (ta tb : TE) : TE := fun σ H Q => ta σ H fun x H1 => ∃ c, x = .bl c ∧ if c = true then tb σ H1 Q else Q (.bl false) H1
def tOrV (ta tb : TE) : TE := fun σ H Q => ta σ H fun x H1 => ∃ c, x = .bl c ∧ if c = true then Q (.bl true) H1 else tb σ H1 Q
def tNotV (ta : TE) : TE := fun σ H Q => ta σ H fun x H1 => ∃ c, x = .bl c ∧ Q (.bl (!c)) H1
theorem pe_one {op} {t : TE} (h : PE X a t) : PE X (.BoolOp op [a] pos) t := fun pins s σ H Q I hw => BoolOp_one (h pins s σ H Q I hw)
theorem pe_and (ha : PE X a ta) (hb : PE X (.BoolOp .And (b :: rest) pos) tb) : PE X (.BoolOp .And (a :: b :: rest) pos) (tAndV ta tb) := by
  intro pins s σ H Q I h
  refine BoolOp_and (thn (ha pins s σ H _ I h) fun v s1 ⟨x, H1, I1, r1, q1⟩ => ?_)
  obtain ⟨c, rfl, q1⟩ := q1
  cases r1
  refine wpAny_truthy_bool ?_
  cases c with
  | true => exact hb pins s1 σ H1 Q I1 q1
  | false => exact ⟨.bl false, H1, I1, rfl, q1⟩
theorem pe_not (ha : PE X a ta) : PE X (.UnaryOp .Not a pos) (tNotV ta) := by
  intro pins s σ H Q I h
  refine UnaryOp_ (thn (ha pins s σ H _ I h) fun v s1 ⟨x, H1, I1, r1, q1⟩ => ?_)
  obtain ⟨c, rfl, q1⟩ := q1
  cases r1
  exact not_of (wpAny_truthy_bool ⟨.bl (!c), H1, I1, rfl, q1⟩)
end
end L2

namespace L2
open PySem PySem.Spec PyProof.Rows

def SqL (K : PySem.W.Frag) (H : Hp) (a : Addr) (xs : List V) : Prop :=
  Rd H a (.lst xs) ∨
    ∃ (o : Obj) (its : Array Value) (n : Nat), K.lookup a = some o ∧ o.cls = .type "list" ∧ o.dict = none ∧ o.data = .seq its n ∧ its.size ≤ sizeLine ∧ Vals xs its.toList
def SqT (K : PySem.W.Frag) (H : Hp) (a : Addr) (xs : List V) : Prop :=
  Rd H a (.tup xs) ∨
    ∃ (o : Obj) (its : Array Value) (n : Nat), K.lookup a = some o ∧ o.cls = .type "tuple" ∧ o.data = .seq its n ∧ its.size ≤ sizeLine ∧ Vals xs its.toList
def absV : Value → Option V
  | .none => some .non
  | .bool b => some (.bl b)
  | .int i _ => some (.int i)
  | .str x _ => some (.str x)
  | .bytes b _ => some (.byt b)
  | .float b _ => some (.flt b)
  | .ref a => some (.ref a)
  | .type n => some (.ty n)
  | _ => none
theorem RelV.abs {x : V} {u : Value} (r : RelV x u) : absV u = some x := by
  cases x with
  | non => cases r; rfl
  | bl _ => cases r; rfl
  | int _ => obtain ⟨t, rfl⟩ := r; rfl
  | str _ => obtain ⟨t, rfl⟩ := r; rfl
  | byt _ => obtain ⟨t, rfl⟩ := r; rfl
  | flt _ => obtain ⟨t, rfl⟩ := r; rfl
  | ref _ => cases r; rfl
  | ty _ => cases r; rfl
theorem RelV.inj {x y : V} {u : Value} (r : RelV x u) (q : RelV y u) : x = y := Option.some.inj (r.abs.symm.trans q.abs)
theorem Vals.inj : ∀ {xs ys : List V} {us : List Value}, Vals xs us → Vals ys us → xs = ys
  | _, _, _, .nil, .nil => rfl
  | _, _, _, .cons r t, .cons r' t' => by rw [r.inj r', Vals.inj t t']
section
variable {X : Cx} {pins : List (Addr × Obj)} {σ : St} {H : Hp} {s : Shared} {a : Addr} {xs ys : List V}
theorem SqL.of {K : PySem.W.Frag} (h : H a = some (.lst xs)) : SqL K H a xs := .inl (.inl h)
theorem SqT.of {K : PySem.W.Frag} (h : H a = some (.tup xs)) : SqT K H a xs := .inl (.inl h)
theorem Inv.list (I : Inv X pins σ H s) (h : SqL X.K H a xs) : ∃ its : List Value, Vals xs its ∧ PlainL s.heap a its.toArray ∧ xs.length ≤ sizeLine := by
  rcases h with h | ⟨o, its, n, hk, hc, hd, hs, hz, r⟩
  · obtain ⟨z, its, n, r, e⟩ := h.ok I.hok
    exact ⟨its, r, ⟨_, n, e, rfl, rfl, rfl⟩, z⟩
  · refine ⟨its.toList, r, ⟨o, n, I.kIn a o hk, hc, hd, by simpa using hs⟩, ?_⟩
    have e := r.length
    simp only [Array.length_toList] at e
    omega
theorem Inv.tuple (I : Inv X pins σ H s) (h : SqT X.K H a xs) : ∃ its : List Value, Vals xs its ∧ IsTup s.heap a its.toArray ∧ xs.length ≤ sizeLine := by
  rcases h with h | ⟨o, its, n, hk, hc, hs, hz, r⟩
  · obtain ⟨z, its, r, p⟩ := h.ok I.hok
    exact ⟨its, r, p, z⟩
  · refine ⟨its.toList, r, ⟨o, I.kIn a o hk, hc, n, by simpa using hs⟩, ?_⟩
    have e := r.length
    simp only [Array.length_toList] at e
    omega
theorem Inv.list_inj (I : Inv X pins σ H s) (h : SqL X.K H a xs) (h' : SqL X.K H a ys) : xs = ys := by
  obtain ⟨its, r, ⟨o, n, e, _, _, d⟩, _⟩ := I.list h
  obtain ⟨its', r', ⟨o', n', e', _, _, d'⟩, _⟩ := I.list h'
  rw [e] at e'; cases e'
  rw [d] at d'
  injection d' with d1 _
  have : its = its' := by simpa using congrArg Array.toList d1
  subst this
  exact r.inj r'
end

abbrev Cx.wish (X : Cx) (E : Value → Shared → Prop) : Cx := { X with xe := E }
abbrev Cx.nox (X : Cx) : Cx := X.wish fun _ _ => False
theorem Cx.Ok.wish {X : Cx} (ok : X.Ok) (E : Value → Shared → Prop) : (X.wish E).Ok :=
  ⟨ok.mod, ok.kind, ok.glob, ok.blt, ok.above, ok.inj, ok.has, ok.cab, ok.hd, ok.frames, ok.stk, ok.exf, ok.bs, ok.bsz, ok.noex, ok.exfs, ok.funs, ok.frf⟩
theorem Cx.Ok.unwish {X : Cx} {E : Value → Shared → Prop} (ok : (X.wish E).Ok) : X.Ok :=
  ⟨ok.mod, ok.kind, ok.glob, ok.blt, ok.above, ok.inj, ok.has, ok.cab, ok.hd, ok.frames, ok.stk, ok.exf, ok.bs, ok.bsz, ok.noex, ok.exfs, ok.funs, ok.frf⟩
section
variable {X : Cx} {pins : List (Addr × Obj)} {σ : St} {H : Hp} {s : Shared} {E : Value → Shared → Prop}
theorem Inv.wish (I : Inv X pins σ H s) (E : Value → Shared → Prop) : Inv (X.wish E) pins σ H s := ⟨I.ok.wish E, I.os, I.bare, I.base, I.loc, I.cell, I.free, I.freeC, I.pin, I.hok, I.len⟩
theorem Inv.unwish (I : Inv (X.wish E) pins σ H s) : Inv X pins σ H s := ⟨I.ok.unwish, I.os, I.bare, I.base, I.loc, I.cell, I.free, I.freeC, I.pin, I.hok, I.len⟩
theorem SP.unwish {D : Ends} {f : Flow} {s' : Shared} (h : SP (X.wish E) pins D f s') : SP X pins D f s' := by
  cases f with
  | next => obtain ⟨σ', H', I, q⟩ := h; exact ⟨σ', H', I.unwish, q⟩
  | brk => obtain ⟨σ', H', I, q⟩ := h; exact ⟨σ', H', I.unwish, q⟩
  | cont => obtain ⟨σ', H', I, q⟩ := h; exact ⟨σ', H', I.unwish, q⟩
  | ret u => obtain ⟨v, σ', H', I, r, q⟩ := h; exact ⟨v, σ', H', I.unwish, r, q⟩
theorem PE.nox {e : Expr} {t : TE} (h : PE X.nox e t) : PE X e t := fun pins s σ H Q I hw =>
  wpAny_mono (h pins s σ H Q (I.wish _) hw) (fun _ _ ⟨v, H', I', r, q⟩ => ⟨v, H', I'.unwish, r, q⟩) fun _ _ z => False.elim z
theorem PT.nox {e : Expr} {t : TT} (h : PT X.nox e t) : PT X e t := fun pins s σ H Q I hw =>
  wpAny_mono (h pins s σ H Q (I.wish _) hw) (fun _ _ ⟨H', I', q⟩ => ⟨H', I'.unwish, q⟩) fun _ _ z => False.elim z
theorem PSs.nox {st : List Stmt} {t : TS} (h : PSs X.nox st t) : PSs X st t := fun pins s σ H D I hw =>
  wpAny_mono (h pins s σ H D (I.wish _) hw) (fun _ _ q => q.unwish) fun _ _ z => False.elim z
end

section
variable {X : Cx} {st : Stmt} {rest : List Stmt} {t u : TS} {e : Expr} {te : TE} {pos : Pos}
def tNext : TS := fun D σ H => D.nx σ H
def tSeq (t u : TS) : TS := fun D σ H => t { D with nx := u D } σ H
theorem pss_nil : PSs X [] tNext := fun _ _ σ H _ I h => wpAny_execs_nil ⟨σ, H, I, h⟩
theorem pss_cons (h1 : PS X st t) (h2 : PSs X rest u) : PSs X (st :: rest) (tSeq t u) := by
  intro pins s σ H D I h
  refine wpAny_execs_cons (thn (h1 pins s σ H { D with nx := u D } I h) fun f s1 q => ?_)
  cases f with
  | next =>
    obtain ⟨σ', H', I', q⟩ := q
    exact h2 pins s1 σ' H' D I' q
  | ret v => exact q
  | brk => exact q
  | cont => exact q
theorem pss_one (h1 : PS X st t) : PSs X [st] t := by
  intro pins s σ H D I h
  refine wpAny_execs_cons (thn (h1 pins s σ H D I h) fun f s1 q => ?_)
  cases f with
  | next => exact wpAny_execs_nil q
  | ret v => exact q
  | brk => exact q
  | cont => exact q
def tBreak : TS := fun D σ H => D.bk σ H
def tCont : TS := fun D σ H => D.ct σ H
theorem ps_break : PS X (.Break pos) tBreak := fun _ _ σ H _ I h => wpAny_Break ⟨σ, H, I, h⟩
theorem Inv.quiet {pins : List (Addr × Obj)} {σ : St} {H : Hp} {s : Shared} (I : Inv X pins σ H s) : interactive X.env = false := by simp [interactive, I.ok.kind]
def tDrop (te : TE) : TS := fun D σ H => te σ H fun _ H1 => D.nx σ H1
theorem ps_expr (he : PE X e te) (hs : swapsWith e none pos.line X.env = pure false := by rfl) : PS X (.Expr e pos) (tDrop te) := by
  intro pins s σ H D I h
  exact wpAny_Expr_any (thn (he pins s σ H _ I h) fun v s1 ⟨x, H1, I1, r1, q1⟩ => ⟨σ, H1, I1, q1⟩) I.quiet hs
def tRet (te : TE) : TS := fun D σ H => te σ H D.rt
theorem ps_ret (he : PE X e te) : PS X (.Return (some e) pos) (tRet te) := by
  intro pins s σ H D I h
  exact wpAny_Return_some (thn (he pins s σ H _ I h) fun v s1 ⟨x, H1, I1, r1, q1⟩ => ⟨x, σ, H1, I1, r1, q1⟩)
def tIfS (c : TT) (t u : TS) : TS := fun D σ H => c σ H fun b H1 => if b = true then t D σ H1 else u D σ H1
theorem ps_if {c : Expr} {a b : List Stmt} {tc : TT} (hc : PT X c tc) (ha : PSs X a t) (hb : PSs X b u) : PS X (.If c a b pos) (tIfS tc t u) := by
  intro pins s σ H D I h
  refine wpAny_If (thn (hc pins s σ H _ I h) fun d s1 ⟨H1, I1, q1⟩ => ?_)
  cases d with
  | true => exact ha pins s1 σ H1 D I1 q1
  | false => exact hb pins s1 σ H1 D I1 q1
def tNever : TS := fun _ _ _ => False
theorem ps_never : PS X st tNever := fun _ _ _ _ _ _ h => h.elim
end

abbrev TG := V → St → Hp → (St → Hp → Prop) → Prop
abbrev TGs := List V → St → Hp → (St → Hp → Prop) → Prop
def PG (X : Cx) (target : Expr) (t : TG) : Prop :=
  ∀ (pins : List (Addr × Obj)) (s : Shared) (σ : St) (H : Hp) (v : V) (u : Value) (Q : St → Hp → Prop), Inv X pins σ H s → RelV v u → t v σ H Q →
    wpAny (model X.prog X.w) X.A (assign target X.env u) (fun _ s' => ∃ σ' H', Inv X pins σ' H' s' ∧ Q σ' H') X.xe s
def PGs (X : Cx) (ts : List Expr) (t : TGs) : Prop :=
  ∀ (pins : List (Addr × Obj)) (s : Shared) (σ : St) (H : Hp) (vs : List V) (us : List Value) (Q : St → Hp → Prop), Inv X pins σ H s → Vals vs us → t vs σ H Q →
    wpAny (model X.prog X.w) X.A (assignInOrder ((assignEach ts X.env).map (·.2)) us) (fun _ s' => ∃ σ' H', Inv X pins σ' H' s' ∧ Q σ' H') X.xe s
abbrev TSet := V → V → V → Hp → (Hp → Prop) → Prop
def PSet (X : Cx) (t : TSet) : Prop :=
  ∀ (pins : List (Addr × Obj)) (s : Shared) (σ : St) (H : Hp) (o i v : V) (ov iv u : Value) (Q : Hp → Prop), Inv X pins σ H s → RelV o ov → RelV i iv → RelV v u → t o i v H Q →
    wpAny (model X.prog X.w) X.A (setItem ov iv u) (fun _ s' => ∃ H', Inv X pins σ H' s' ∧ Q H') X.xe s
abbrev TIp := V → V → Hp → VK → Prop
def PIp (X : Cx) (op : Operator) (t : TIp) : Prop :=
  ∀ (pins : List (Addr × Obj)) (s : Shared) (σ : St) (H : Hp) (x y : V) (v u : Value) (Q : VK), Inv X pins σ H s → RelV x v → RelV y u → t x y H Q →
    wpAny (model X.prog X.w) X.A (inplaceOp op v u) (EP X pins σ Q) X.xe s
section
variable {X : Cx} {pos : Pos}
def gName (i : Nat) : TG := fun v σ H Q => Q (σ.set i (some v)) H
theorem pg_name {i : Nat} {x : Str} (hN : X.N.Nodup) (hi : X.N[i]? = some x) (hx : Loc X.env.scope x) (hf : X.fn x = true ∨ X.env.scope.names.lookup x = some .local := by first | exact .inl rfl | exact .inr rfl | assumption) : PG X (.Name x pos) (gName i) := by
  intro pins s σ H v u Q I r h
  exact wpAny_assign_Name (store_ok I hN hi hx r (fun s' I' => ⟨_, H, I', h⟩) hf)
def gNil : TGs := fun vs σ H Q => vs = [] ∧ Q σ H
def gCons (t : TG) (u : TGs) : TGs := fun vs σ H Q => ∃ v r, vs = v :: r ∧ t v σ H fun σ' H' => u r σ' H' Q
theorem pgs_nil : PGs X [] gNil := by
  intro pins s σ H vs us Q I r h
  obtain ⟨e, h⟩ := h
  subst e
  cases r
  exact assignInOrder_nil ⟨σ, H, I, h⟩
theorem pgs_cons {e : Expr} {es : List Expr} {t : TG} {u : TGs} (h1 : PG X e t) (h2 : PGs X es u)
    (hs : (assignEach (e :: es) X.env).map (·.2) = assign e X.env :: (assignEach es X.env).map (·.2) := by rfl) : PGs X (e :: es) (gCons t u) := by
  intro pins s σ H vs us Q I r h
  obtain ⟨v, vr, e1, h⟩ := h
  subst e1
  cases r with
  | cons r rr =>
    rw [hs]
    refine assignInOrder_cons (thn (h1 pins s σ H _ _ _ I r h) fun _ s1 ⟨σ1, H1, I1, q1⟩ => ?_)
    exact h2 pins s1 σ1 H1 _ _ Q I1 rr q1
def gTup (K : PySem.W.Frag) (n : Nat) (t : TGs) : TG := fun v σ H Q => ∃ a xs, v = .ref a ∧ SqT K H a xs ∧ xs.length = n ∧ t xs σ H Q
theorem pg_tup {es : List Expr} {k : Nat} {t : TGs} {n : Nat} (hc : X.calm = true) (h : PGs X es t)
    (hn : (assignEach es X.env).length = n := by rfl) (hst : (assignEach es X.env).findIdx? (·.1) = none := by rfl) : PG X (.Tuple es k pos) (gTup X.K n t) := by
  intro pins s σ H v u Q I r hw
  obtain ⟨a, xs, e1, hq, hl, hw⟩ := hw
  subst e1
  cases r
  obtain ⟨its, rv, ht, hz⟩ := I.tuple hq
  refine assign_Tuple_tuple (I.ok.hd hc) ht (by simp [hn, ← hl, rv.length]) hst fun h' hx => ?_
  have I1 : Inv X pins σ H { s with heap := h' } := I.kept (t' := s.toks) fun b o e => hx b o (Nat.ne_of_lt (Heap.lt_size e)) e
  exact h pins _ σ H xs _ Q I1 (by simpa using rv) hw
def gSub (to ti : TE) (t : TSet) : TG := fun v σ H Q => to σ H fun o H1 => ti σ H1 fun i H2 => t o i v H2 fun H3 => Q σ H3
def tAsg (te : TE) (g : TG) : TS := fun D σ H => te σ H fun x H1 => g x σ H1 D.nx
theorem ps_set {i : Nat} {x : Str} {e : Expr} {te : TE} {pos' : Pos} (hN : X.N.Nodup) (hi : X.N[i]? = some x) (hx : Loc X.env.scope x) (he : PE X e te) (hs : swapsWith e (some (.Name x pos')) pos.line X.env = pure false := by rfl) (hf : X.fn x = true ∨ X.env.scope.names.lookup x = some .local := by first | exact .inl rfl | exact .inr rfl | assumption) :
    PS X (.Assign [.Name x pos'] e pos) (tAsg te (gName i)) := by
  intro pins s σ H D I h
  refine wpAny_Assign_Name (thn (he pins s σ H _ I h) fun v s1 ⟨y, H1, I1, r1, q1⟩ => ?_) hs
  exact store_ok I1 hN hi hx r1 (fun s2 I2 => ⟨_, H1, I2, q1⟩) hf
def tPar (i j : Nat) (ta : TA) : TS := fun D σ H => ta σ H fun vs H1 => ∃ v w, vs = [v, w] ∧ D.nx ((σ.set i (some v)).set j (some w)) H1
theorem ps_par {i j : Nat} {x y : Str} {a b : Expr} {ta : TA} {px py pt : Pos} {kt k2 pt2} (hc : X.calm = true) (hN : X.N.Nodup) (hi : X.N[i]? = some x) (hj : X.N[j]? = some y) (hij : i ≠ j)
    (hx : X.env.scope.names.lookup x = some .local) (hy : X.env.scope.names.lookup y = some .local) (ha : PA X [a, b] ta)
    (hw : swappedStores [.Tuple [.Name x px, .Name y py] kt pt] (.Tuple [a, b] k2 pt2) X.env = pure (some [x, y]))
    (hs : swapsWithSole [.Tuple [.Name x px, .Name y py] kt pt] (.Tuple [a, b] k2 pt2) pos.line X.env = pure false := by rfl) :
    PS X (.Assign [.Tuple [.Name x px, .Name y py] kt pt] (.Tuple [a, b] k2 pt2) pos) (tPar i j ta) := by
  intro pins s σ H D I h
  rw [exec_Assign_arm]
  refine wpAny_bind (wpAny_standAt ?_)
  rw [hs]
  refine wpAny_bind (wpAny_pure ?_)
  rw [if_neg (by decide)]
  refine wpAny_bind (Tuple_ (thn (ha _ pins s σ H _ I h) fun us s1 ⟨vs, H1, I1, r1, q1⟩ => ?_))
  obtain ⟨v, w, e1, q1⟩ := q1
  subst e1
  obtain ⟨u1, u2, rfl, rv, rw'⟩ : ∃ u1 u2, us = [u1, u2] ∧ RelV v u1 ∧ RelV w u2 := by
    cases r1 with
    | cons p q =>
      cases q with
      | cons p' q' =>
        cases q'
        exact ⟨_, _, rfl, p, p'⟩
  refine wpAny_newObj_type ?_ (by show 2 ≤ sizeLine; decide)
  have I2 : Inv X pins σ H1 { s1 with heap := s1.heap.push { cls := .type "tuple", data := .seq [u1, u2].toArray } } := I1.kept (t' := s1.toks) fun b o e => Heap.get?_push_of_some _ e
  rw [hw]
  refine wpAny_bind (wpAny_pure ?_)
  show wpAny (model X.prog X.w) X.A (do rule "assign.swapped-stores"; let items ← unpackItems (.ref s1.heap.objs.size) 2 none; assignInOrder [fun v => bindName X.env y v, fun v => bindName X.env x v] items.reverse; pure Flow.next) _ _ _
  refine wpAny_bind (wpAny_rule (wpAny_bind (unpackItems_tuple (items := #[u1, u2]) (I.ok.hd hc) (IsTup.new s1.heap _) fun h' hx' => ?_)))
  have I3 := I2.kept (h' := h') (t' := s1.toks) fun b o e => hx' b o (Nat.ne_of_lt (Heap.lt_size e)) e
  show wpAny _ _ (assignInOrder [fun v => bindName X.env y v, fun v => bindName X.env x v] [u2, u1] >>= fun _ => pure Flow.next) _ _ _
  refine wpAny_bind (assignInOrder_cons (wpAny_bindName (store_ok I3 hN hj (.inl hy) rw' (fun s2 I4 => ?_) (.inr hy))))
  refine assignInOrder_cons (wpAny_bindName (store_ok I4 hN hi (.inl hx) rv (fun s3 I5 => assignInOrder_nil (wpAny_pure ?_)) (.inr hx)))
  rw [List.set_comm _ _ (Ne.symm hij)] at I5
  exact ⟨_, H1, I5, q1⟩
def tAug (i : Nat) (te : TE) (ti : TIp) : TS := fun D σ H => ∃ x, σ[i]? = some (some x) ∧ te σ H fun y H1 => ti x y H1 fun z H2 => D.nx (σ.set i (some z)) H2
theorem ps_aug {i : Nat} {x : Str} {e : Expr} {te : TE} {op : Operator} {ti : TIp} {pos' : Pos} (hN : X.N.Nodup) (hi : X.N[i]? = some x) (hx : Loc X.env.scope x) (he : PE X e te) (ho : PIp X op ti) (hf : X.fn x = true ∨ X.env.scope.names.lookup x = some .local := by first | exact .inl rfl | exact .inr rfl | assumption) :
    PS X (.AugAssign (.Name x pos') op e pos) (tAug i te ti) := by
  intro pins s σ H D I h
  obtain ⟨v, e1, h⟩ := h
  obtain ⟨m, hn, hl⟩ := I.loc
  have vis : Vis X.env.scope x := by rcases hx with k | k; exact .inl k; exact .inr (.inl k)
  obtain ⟨u, r, l⟩ := hl i x v hi e1 vis
  refine wpAny_AugAssign_Name ?_
  have go : wpAny (model X.prog X.w) X.A (eval e X.env) (fun w s₂ => wpAny (model X.prog X.w) X.A (inplaceOp op u w) (fun r s₃ => wpAny (model X.prog X.w) X.A (storeName X.env x r) (fun _ => SP X pins D .next) X.xe s₃) X.xe s₂) X.xe s := by
    refine thn (he pins s σ H _ I h) fun w s1 ⟨y, H1, I1, r1, q1⟩ => ?_
    refine thn (ho pins s1 σ H1 v y u w _ I1 r r1 q1) fun z s2 ⟨zv, H2, I2, r2, q2⟩ => ?_
    exact store_ok I2 hN hi hx r2 (fun s3 I3 => ⟨_, H2, I3, q2⟩) hf
  rcases l with ⟨hk, hm⟩ | ⟨hk, c, hc, hcell⟩
  · exact wpAny_loadName_local I.ok.kind hk hn hm go
  · rcases hk with hk | hk
    · exact wpAny_loadName_cell I.ok.kind hk hc hcell go
    · rcases hx with k | k
      · have : X.env.scope.names.lookup x = some .free := hk
        rw [k] at this; cases this
      · have : X.env.scope.names.lookup x = some .free := hk
        rw [k] at this; cases this
def tAugS (to ti te : TE) (tget : V → V → Hp → VK → Prop) (tip : TIp) (tset : TSet) : TS := fun D σ H => to σ H fun o H1 => ti σ H1 fun i H2 => tget o i H2 fun x H3 => te σ H3 fun y H4 => tip x y H4 fun z H5 => tset o i z H5 fun H6 => D.nx σ H6
def PGet (X : Cx) (t : V → V → Hp → VK → Prop) : Prop :=
  ∀ (pins : List (Addr × Obj)) (s : Shared) (σ : St) (H : Hp) (o i : V) (ov iv : Value) (Q : VK), Inv X pins σ H s → RelV o ov → RelV i iv → t o i H Q →
    wpAny (model X.prog X.w) X.A (getItem ov iv) (EP X pins σ Q) X.xe s
def ipI (f : Int → Int → Int) : TIp := fun x y H Q => ∃ i j, x = .int i ∧ y = .int j ∧ Q (.int (f i j)) H
theorem ip_add : PIp X .Add (ipI fun i j => i + j) := by
  intro pins s σ H x y v u Q I r1 r2 h
  obtain ⟨i, j, e1, e2, q⟩ := h
  subst e1; subst e2
  obtain ⟨t, rfl⟩ := r1
  obtain ⟨t', rfl⟩ := r2
  exact iadd_int ⟨.int _, H, I.tok _, ⟨_, rfl⟩, q⟩
end

section
variable {X : Cx} {pos : Pos}
def tWhile (c : TT) (tb : TS) : TS := fun D σ H => ∃ W : Nat → St → Hp → Prop, (∃ m, W m σ H) ∧ ∀ m σ H, W m σ H →
  c σ H fun b H1 => if b = true then ∃ N : St → Hp → Prop, (∀ σ' H', N σ' H' → ∃ m', m' < m ∧ W m' σ' H') ∧ tb { D with nx := N, ct := N, bk := D.nx } σ H1 else D.nx σ H1
theorem ps_while {c : Expr} {body : List Stmt} {tc : TT} {tb : TS} (hp : PassesOwn (model X.prog X.w) X.A X.env X.xe) (hc : PT X c tc) (hb : PSs X body tb) : PS X (.While c body [] pos) (tWhile tc tb) := by
  intro pins s σ H D I h
  obtain ⟨W, ⟨m0, w0⟩, turn⟩ := h
  refine wpAny_While (codeAny_whileLoop (fun n s' => ∃ σ' H', Inv X pins σ' H' s' ∧ W n σ' H') ?_ m0 ⟨σ, H, I, w0⟩)
  rintro n s1 ⟨σ1, H1, I1, w1⟩
  refine wpAny_passesOwn hp (thn (hc pins s1 σ1 H1 _ I1 (turn n σ1 H1 w1)) fun b s2 ⟨H2, I2, q2⟩ => ?_)
  cases b with
  | true =>
    obtain ⟨N, hN, q2⟩ := q2
    rw [if_pos rfl]
    refine wpAny_passesOwn hp (thn (hb pins s2 σ1 H2 _ I2 q2) fun f s3 q3 => ?_)
    cases f with
    | next =>
      obtain ⟨σ3, H3, I3, n3⟩ := q3
      obtain ⟨m', hm, w3⟩ := hN σ3 H3 n3
      exact ⟨m', hm, σ3, H3, I3, w3⟩
    | cont =>
      obtain ⟨σ3, H3, I3, n3⟩ := q3
      obtain ⟨m', hm, w3⟩ := hN σ3 H3 n3
      exact ⟨m', hm, σ3, H3, I3, w3⟩
    | brk => exact q3
    | ret v => exact q3
  | false =>
    rw [if_neg Bool.false_ne_true]
    exact wpAny_execs_nil ⟨σ1, H2, I2, q2⟩
end

structure It where
  go : Nat → Hp → Prop
  yld : Nat → Hp → V → Hp → Prop
  stop : Nat → Hp → Prop
def FpOk (X : Cx) (pins : List (Addr × Obj)) (H : Hp) (b : Addr) : Prop :=
  H b = none ∧ b ≠ X.env.locals ∧ b ∉ X.fs ∧ (b ∈ X.ex ∨ X.s₀.heap.objs.size ≤ b) ∧ (∀ x c, X.env.cells.lookup x = some c → c ≠ b) ∧ ∀ p ∈ X.pn ++ pins, p.1 ≠ b
theorem Inv.fpOk {X : Cx} {pins : List (Addr × Obj)} {σ : St} {H H' : Hp} {s : Shared} {b : Addr} (I : Inv X pins σ H s) (hb : s.heap.objs.size ≤ b) (hn : H' b = none) : FpOk X pins H' b := by
  refine ⟨hn, Nat.ne_of_gt (Nat.lt_of_lt_of_le I.lt hb), I.nofs hb, .inr (Nat.le_trans I.sz hb), fun x c e z => ?_, fun p hp z => ?_⟩
  · obtain ⟨v, q⟩ := I.cell x c e
    exact absurd (Nat.lt_of_lt_of_le q.lt (by rw [z]; exact hb)) (Nat.lt_irrefl _)
  · exact absurd (Nat.lt_of_lt_of_le (Heap.lt_size (I.pin p hp).1) (by rw [z]; exact hb)) (Nat.lt_irrefl _)
structure Turn (P : Program) (w : World) (K : PySem.W.Frag) (tg : Expr) (J : It) (fp : List Addr) (it : Addr) (tn : Nat → Heap → Prop) : Prop where
  mem : it ∈ fp
  obj : ∀ i h, tn i h → ∀ b ∈ fp, ∃ o, h.get? b = some o ∧ ∀ v, o.data ≠ .cell v
  keep : ∀ i h h', tn i h → (∀ b ∈ fp, ∀ o, h.get? b = some o → h'.get? b = some o) → tn i h'
  item : ∀ (X : Cx), X.prog = P → X.w = w → X.K = K → X.calm = true → ∀ (i : Nat) (pins : List (Addr × Obj)) (s : Shared) (σ : St) (H : Hp) (E : Value → Shared → Prop), Inv X pins σ H s → (∀ b ∈ fp, FpOk X pins H b) → tn i s.heap → J.go i H →
    wpAny (model P w) X.A (pyNext (.ref it)) (fun r s1 => ∃ u, r = some u ∧
      wpAny (model P w) X.A (letOwnedTupleGo tg (.ref it) u) (fun _ s2 => ∃ x H', Inv X pins σ H' s2 ∧ RelV x u ∧ J.yld i H x H' ∧ tn (i + 1) s2.heap ∧ ∀ b ∈ fp, H' b = none) E s1) E s
  done : ∀ (X : Cx), X.prog = P → X.w = w → X.K = K → X.calm = true → ∀ (i : Nat) (pins : List (Addr × Obj)) (s : Shared) (σ : St) (H : Hp) (E : Value → Shared → Prop), Inv X pins σ H s → (∀ b ∈ fp, FpOk X pins H b) → tn i s.heap → J.stop i H →
    wpAny (model P w) X.A (pyNext (.ref it)) (fun r s1 => r = none ∧ Inv X pins σ H s1) E s
  self : ∀ (A : Around) (i : Nat) (s : Shared) (Q : Value → Shared → Prop) (E : Value → Shared → Prop), tn i s.heap → Q (.ref it) s → wpAny (model P w) A (pyIter (.ref it)) Q E s
abbrev TI := St → Hp → (It → Hp → Prop) → Prop
def PIE (X : Cx) (pins : List (Addr × Obj)) (σ : St) (tg : Expr) (R : It → Hp → Prop) (itv : Value) (s2 : Shared) : Prop :=
  ∃ (it : Addr) (fp : List Addr) (tn : Nat → Heap → Prop) (J : It) (H' : Hp), itv = .ref it ∧ Inv X pins σ H' s2 ∧ Turn X.prog X.w X.K tg J fp it tn ∧ tn 0 s2.heap ∧ (∀ b ∈ fp, FpOk X pins H' b) ∧ R J H'
def PI (X : Cx) (tg iter : Expr) (wi : TI) : Prop :=
  ∀ (pins : List (Addr × Obj)) (s : Shared) (σ : St) (H : Hp) (R : It → Hp → Prop), Inv X pins σ H s → wi σ H R →
    wpAny (model X.prog X.w) X.A (eval iter X.env) (fun v s1 => wpAny (model X.prog X.w) X.A (pyIter v) (PIE X pins σ tg R) X.xe s1) X.xe s

theorem go_of {M : Model} {A : Around} {E : Value → Shared → Prop} {s : Shared} {tg : Expr} {it : Addr} {u : Value} {o : Obj} {n : String} {vs : Array Value} {Q : Unit → Shared → Prop} (ho : s.heap.get? it = some o) (hc : o.cls = .type n) (hd : o.data = .fields vs)
    (hn : ["enumerate", "zip", "dict_itemiterator", "dict_reverseitemiterator", "odict_iterator", "itertools.zip_longest", "itertools.pairwise"].contains n = false) (hQ : Q () s) : wpAny M A (letOwnedTupleGo tg (.ref it) u) Q E s := by
  unfold letOwnedTupleGo
  cases tg <;> first
    | exact wpAny_pure hQ
    | (cases u <;> first
        | exact wpAny_pure hQ
        | (refine wpAny_bind (wpAny_load ho ?_)
           rw [hc, hd]
           show wpAny M A (if (["enumerate", "zip", "dict_itemiterator", "dict_reverseitemiterator", "odict_iterator", "itertools.zip_longest", "itertools.pairwise"].contains n && vs[0]? == some (rawInt _)) = true then _ else _) Q E s
           rw [if_neg (by intro h; rw [hn, Bool.false_and] at h; cases h)]
           exact wpAny_pure hQ))

def Itl (K : PySem.W.Frag) (a : Addr) : It :=
  ⟨fun i H => ∃ xs x, SqL K H a xs ∧ xs[i]? = some x, fun i H x H' => H' = H ∧ ∀ xs, SqL K H a xs → xs[i]? = some x, fun i H => ∃ xs, SqL K H a xs ∧ xs.length ≤ i⟩
def Itr (lo : Int) (n : Nat) : It := ⟨fun i _ => i < n, fun i H x H' => H' = H ∧ x = .int (lo + i), fun i _ => n ≤ i⟩
theorem turn_list {P : Program} {w : World} {K : PySem.W.Frag} {tg : Expr} (a it : Addr) : Turn P w K tg (Itl K a) [it] it (fun i h => h.IsListIter it a i) where
  mem := by simp
  obj := fun i h st b hb => by
    have e : b = it := by simpa using hb
    subst e
    obtain ⟨o, e, c, d⟩ := st
    exact ⟨o, e, fun v z => by rw [d] at z; cases z⟩
  keep := fun i h h' st k => st.at fun o e => k it (by simp) o e
  item := by
    intro X hP hw hK hc i pins s σ H E I hf st hg
    subst hP hw hK
    obtain ⟨xs, x, hq, hx⟩ := hg
    obtain ⟨its, rv, p, hz⟩ := I.list hq
    obtain ⟨u, hu, ru⟩ := rv.get hx
    obtain ⟨f0, f1, f2, f3, f4, f5⟩ := hf it (by simp)
    refine wpAny_pyNext_list_item st p.isList (x := u) (by simpa using hu) fun h' st' sb => ?_
    have I1 : Inv X pins σ H { s with heap := h' } := I.turned (t' := s.toks) (fun b o hb e => (sb.2 b hb).trans e) f0 f1 f3 f4 f5
    obtain ⟨o, e, c, d⟩ := id st'
    exact ⟨u, rfl, go_of (s := { s with heap := h' }) e c d (by decide) ⟨x, H, I1, ru, ⟨rfl, fun ys hy => by rw [I.list_inj hy hq]; exact hx⟩, st', fun b hb => (hf b hb).1⟩⟩
  done := by
    intro X hP hw hK hc i pins s σ H E I hf st hg
    subst hP hw hK
    obtain ⟨xs, hq, hx⟩ := hg
    obtain ⟨its, rv, p, hz⟩ := I.list hq
    obtain ⟨f0, f1, f2, f3, f4, f5⟩ := hf it (by simp)
    have hl := rv.length
    exact wpAny_pyNext_list_end (I.ok.hd hc) st p.isList (by simp; omega) fun h' eb => ⟨rfl, I.turned (t' := s.toks) (fun b o hb e => eb b o hb e) f0 f1 f3 f4 f5⟩
  self := fun _ _ _ _ _ st h => wpAny_pyIter_listiter st h
end L2

namespace L2
open PySem PySem.Spec PyProof.Rows
section
variable {X : Cx} {tg : Expr}
def iList (K : PySem.W.Frag) (tl : TE) : TI := fun σ H R => tl σ H fun x H1 => ∃ a, x = .ref a ∧ (∃ xs, SqL K H1 a xs) ∧ R (Itl K a) H1
theorem pi_list {l : Expr} {tl : TE} (hl : PE X l tl) : PI X tg l (iList X.K tl) := by
  intro pins s σ H R I h
  refine thn (hl pins s σ H _ I h) fun v s1 ⟨x, H1, I1, r1, q1⟩ => ?_
  obtain ⟨a, e, ⟨xs, hq⟩, q⟩ := q1
  subst e
  cases r1
  obtain ⟨its, rv, p, hz⟩ := I1.list hq
  refine wpAny_pyIter_list p.isList ?_
  refine ⟨s1.heap.objs.size, [s1.heap.objs.size], _, _, H1, rfl, I1.kept (t' := s1.toks) fun b o e => Heap.get?_push_of_some _ e, turn_list a _, ⟨_, Heap.get?_push_size _ rfl, rfl, rfl⟩, fun b hb => ?_, q⟩
  have e : b = s1.heap.objs.size := by simpa using hb
  subst e
  exact I1.fpOk (Nat.le_refl _) (I1.hok.fresh (Nat.le_refl _))
def iRng1 (ta : TA) : TI := fun σ H R => ta σ H fun vs H1 => ∃ j : Int, vs = [.int j] ∧ -(2 ^ 62) ≤ j ∧ j < 2 ^ 62 ∧ R (Itr 0 j.toNat) H1
def tFor (wi : TI) (g : TG) (tb : TS) : TS := fun D σ H => wi σ H fun J H1 => ∃ W : Nat → Nat → St → Hp → Prop, (∃ m, W 0 m σ H1) ∧ ∀ i m σ H, W i m σ H →
  (J.stop i H ∧ D.nx σ H) ∨ (J.go i H ∧ ∃ N : St → Hp → Prop, (∀ σ' H', N σ' H' → ∃ m', m' < m ∧ W (i + 1) m' σ' H') ∧ ∀ x H', J.yld i H x H' → g x σ H' fun σ2 H2 => tb { D with nx := N, ct := N, bk := D.nx } σ2 H2)
def pinsAt (fp : List Addr) (h : Heap) : List (Addr × Obj) := fp.filterMap fun b => (h.get? b).map fun o => (b, o)
theorem mem_pinsAt {fp : List Addr} {h : Heap} {b : Addr} {o : Obj} (hb : b ∈ fp) (e : h.get? b = some o) : (b, o) ∈ pinsAt fp h := List.mem_filterMap.mpr ⟨b, hb, by rw [e]; rfl⟩
theorem of_pinsAt {fp : List Addr} {h : Heap} {p : Addr × Obj} (hp : p ∈ pinsAt fp h) : p.1 ∈ fp ∧ h.get? p.1 = some p.2 := by
  obtain ⟨b, hb, e⟩ := List.mem_filterMap.mp hp
  cases q : h.get? b with
  | none => rw [q] at e; cases e
  | some o =>
    rw [q] at e
    have e' : (b, o) = p := Option.some.inj e
    subst e'
    exact ⟨hb, q⟩
theorem Inv.pinned {pins : List (Addr × Obj)} {σ : St} {H : Hp} {s : Shared} {fp : List Addr} (I : Inv X pins σ H s) (hf : ∀ b ∈ fp, FpOk X pins H b) (ho : ∀ b ∈ fp, ∃ o, s.heap.get? b = some o ∧ ∀ v, o.data ≠ .cell v) : Inv X (pins ++ pinsAt fp s.heap) σ H s :=
  I.pins_of fun p hp => (List.mem_append.mp hp).elim (fun z => I.pin p (List.mem_append_right _ z)) fun z => by
    obtain ⟨hb, e⟩ := of_pinsAt z
    obtain ⟨f0, f1, f2, _⟩ := hf p.1 hb
    obtain ⟨o, e', d⟩ := ho p.1 hb
    rw [e] at e'; cases e'
    exact ⟨e, f0, f1, f2, d⟩
theorem Inv.unpinned {pins pl : List (Addr × Obj)} {σ : St} {H : Hp} {s : Shared} (I : Inv X (pins ++ pl) σ H s) : Inv X pins σ H s := I.pins_of fun p hp => I.pin p (List.mem_append_right _ (List.mem_append_left _ hp))
theorem ps_for {iter : Expr} {body : List Stmt} {wi : TI} {g : TG} {tb : TS} {pos : Pos} (hp : PassesOwn (model X.prog X.w) X.A X.env X.xe) (hc : X.calm = true) (hi : PI X tg iter wi) (hg : PG X tg g) (hb : PSs X body tb)
    (hs : ∀ x, foldedSetIterable iter X.env x = pure x := by intro _; rfl) : PS X (.For tg iter body [] pos) (tFor wi g tb) := by
  intro pins s σ H D I h
  refine wpAny_For (thn (hi pins s σ H _ I h) fun v s1 h1 => thn h1 fun itv s2 h2 => ?_) hs
  obtain ⟨it, fp, tn, J, H2, e, I2, T, st2, f2, W, ⟨m0, w0⟩, turn⟩ := h2
  subst e
  -- what stays true of the iterator's objects through the loop
  have stat : ∀ {H' : Hp}, (∀ b ∈ fp, H' b = none) → ∀ b ∈ fp, FpOk X pins H' b := fun hn b hb => ⟨hn b hb, (f2 b hb).2⟩
  refine codeAny_forLoop_any (fun n s' => ∃ i σ' H', Inv X pins σ' H' s' ∧ tn i s'.heap ∧ (∀ b ∈ fp, H' b = none) ∧ W i n σ' H') ?_ m0 ⟨0, σ, H2, I2, st2, fun b hb => (f2 b hb).1, w0⟩
  rintro n s3 ⟨i, σ3, H3, I3, st3, fr3, w3⟩
  rcases turn i n σ3 H3 w3 with ⟨stop, qn⟩ | ⟨go, N, hN, step⟩
  · refine wpAny_passesOwn hp (thn (T.done X rfl rfl rfl hc i pins s3 σ3 H3 X.xe I3 (stat fr3) st3 stop) fun r s4 ⟨hr, I4⟩ => ?_)
    subst hr
    exact wpAny_execs_nil ⟨σ3, H3, I4, qn⟩
  · refine wpAny_passesOwn hp (thn (T.item X rfl rfl rfl hc i pins s3 σ3 H3 X.xe I3 (stat fr3) st3 go) fun r s4 ⟨u, hr, h4⟩ => ?_)
    subst hr
    refine wpAny_passesOwn hp (thn h4 fun _ s5 ⟨x, H5, I5, r5, y5, st5, fr5⟩ => ?_)
    have I5' := I5.pinned (stat fr5) (T.obj _ _ st5)
    refine wpAny_passesOwn hp (thn (hg _ s5 σ3 H5 x u _ I5' r5 (step x H5 y5)) fun _ s6 ⟨σ6, H6, I6, q6⟩ => ?_)
    refine wpAny_passesOwn hp (thn (hb _ s6 σ6 H6 _ I6 q6) fun f s7 q7 => ?_)
    have again : ∀ {σ7 : St} {H7 : Hp}, Inv X (pins ++ pinsAt fp s5.heap) σ7 H7 s7 → N σ7 H7 → ∃ m, m < n ∧ ∃ i σ' H', Inv X pins σ' H' s7 ∧ tn i s7.heap ∧ (∀ b ∈ fp, H' b = none) ∧ W i m σ' H' := fun {σ7 H7} I7 n7 => by
      obtain ⟨m', hm, w7⟩ := hN σ7 H7 n7
      refine ⟨m', hm, i + 1, σ7, H7, I7.unpinned, T.keep _ _ _ st5 fun b hb o e => (I7.pin (b, o) (List.mem_append_right _ (List.mem_append_right _ (mem_pinsAt hb e)))).1, fun b hb => ?_, w7⟩
      obtain ⟨o, e, d⟩ := T.obj _ _ st5 b hb
      exact (I7.pin (b, o) (List.mem_append_right _ (List.mem_append_right _ (mem_pinsAt hb e)))).2.1
    cases f with
    | next => obtain ⟨σ7, H7, I7, n7⟩ := q7; exact again I7 n7
    | cont => obtain ⟨σ7, H7, I7, n7⟩ := q7; exact again I7 n7
    | brk => obtain ⟨σ7, H7, I7, q7⟩ := q7; exact ⟨σ7, H7, I7.unpinned, q7⟩
    | ret v => obtain ⟨x7, σ7, H7, I7, r7, q7⟩ := q7; exact ⟨x7, σ7, H7, I7.unpinned, r7, q7⟩
end

end L2

namespace L2
open PySem PySem.Spec PyProof.Rows

abbrev R2 := V → V → Hp → VK → Prop
def OpR (X : Cx) (f : Value → Value → Sem Value) (r : R2) : Prop :=
  ∀ (pins : List (Addr × Obj)) (s : Shared) (σ : St) (H : Hp) (x y : V) (v u : Value) (Q : VK), Inv X pins σ H s → RelV x v → RelV y u → r x y H Q →
    wpAny (model X.prog X.w) X.A (f v u) (EP X pins σ Q) X.xe s
def UnR (X : Cx) (f : Value → Sem Value) (r : V → Hp → VK → Prop) : Prop :=
  ∀ (pins : List (Addr × Obj)) (s : Shared) (σ : St) (H : Hp) (x : V) (v : Value) (Q : VK), Inv X pins σ H s → RelV x v → r x H Q →
    wpAny (model X.prog X.w) X.A (f v) (EP X pins σ Q) X.xe s
def CallR (X : Cx) (f : Value) (r : List V → Hp → VK → Prop) : Prop :=
  ∀ (pins : List (Addr × Obj)) (s : Shared) (σ : St) (H : Hp) (xs : List V) (us : List Value) (Q : VK), Inv X pins σ H s → Vals xs us → r xs H Q →
    wpAny (model X.prog X.w) X.A (call f us) (EP X pins σ Q) X.xe s
def TruR (X : Cx) (r : V → Hp → (Bool → Hp → Prop) → Prop) : Prop :=
  ∀ (pins : List (Addr × Obj)) (s : Shared) (σ : St) (H : Hp) (x : V) (v : Value) (Q : Bool → Hp → Prop), Inv X pins σ H s → RelV x v → r x H Q →
    wpAny (model X.prog X.w) X.A (truthy v) (TP X pins σ Q) X.xe s

def tOp (r : R2) (ta tb : TE) : TE := fun σ H Q => ta σ H fun x H1 => tb σ H1 fun y H2 => r x y H2 Q
def tUn (r : V → Hp → VK → Prop) (ta : TE) : TE := fun σ H Q => ta σ H fun x H1 => r x H1 Q
def rI (C : Int → Int → Prop) (g : Int → Int → V) : R2 := fun x y H Q => ∃ i j, x = .int i ∧ y = .int j ∧ C i j ∧ Q (g i j) H
def rI0 (g : Int → Int → V) : R2 := fun x y H Q => ∃ i j, x = .int i ∧ y = .int j ∧ Q (g i j) H
def rU (g : Int → V) : V → Hp → VK → Prop := fun x H Q => ∃ i, x = .int i ∧ Q (g i) H

section
variable {X : Cx} {a b c : Expr} {ta tb tc : TE} {pos : Pos}

theorem binT (ha : PE X a ta) (hb : PE X b tb) {pins : List (Addr × Obj)} {s : Shared} {σ : St} {H : Hp} {R : V → V → Hp → Prop} (I : Inv X pins σ H s)
    (h : ta σ H fun x H1 => tb σ H1 fun y H2 => R x y H2) {Q : Value → Shared → Prop} {f : Value → Value → Sem Value}
    (hf : ∀ v u s2 x y H2, Inv X pins σ H2 s2 → RelV x v → RelV y u → R x y H2 → wpAny (model X.prog X.w) X.A (f v u) Q X.xe s2) :
    wpAny (model X.prog X.w) X.A (eval a X.env) (fun v s₁ => wpAny (model X.prog X.w) X.A (eval b X.env) (fun u s₂ => wpAny (model X.prog X.w) X.A (f v u) Q X.xe s₂) X.xe s₁) X.xe s := by
  refine thn (ha pins s σ H _ I h) fun v s1 ⟨x, H1, I1, r1, q1⟩ => ?_
  refine thn (hb pins s1 σ H1 _ I1 q1) fun u s2 ⟨y, H2, I2, r2, q2⟩ => ?_
  exact hf v u s2 x y H2 I2 r1 r2 q2

theorem pe_op {op : Operator} {r : R2} (ho : OpR X (binaryOp op) r) (ha : PE X a ta) (hb : PE X b tb) : PE X (.BinOp a op b pos) (tOp r ta tb) := by
  intro pins s σ H Q I h
  exact wpAny_BinOp (binT ha hb I h fun v u s2 x y H2 I2 rx ry q => ho pins s2 σ H2 x y v u Q I2 rx ry q)
theorem pe_un {op : UnaryOp} {r : V → Hp → VK → Prop} (ho : UnR X (unaryOp op) r) (ha : PE X a ta) : PE X (.UnaryOp op a pos) (tUn r ta) := by
  intro pins s σ H Q I h
  exact UnaryOp_ (thn (ha pins s σ H _ I h) fun v s1 ⟨x, H1, I1, r1, q1⟩ => ho pins s1 σ H1 x v Q I1 r1 q1)
theorem opI {f : Value → Value → Sem Value} {C : Int → Int → Prop} {g : Int → Int → Int}
    (rule : ∀ (i j : Int) (t u : Tok) (s : Shared) (Q : Value → Shared → Prop) (E : Value → Shared → Prop), C i j → Q (.int (g i j) s.toks) { s with toks := s.toks + 1 } → wpAny (model X.prog X.w) X.A (f (.int i t) (.int j u)) Q E s) :
    OpR X f (rI C fun i j => .int (g i j)) := by
  intro pins s σ H x y v u Q I rx ry h
  obtain ⟨i, j, rfl, rfl, hc, q⟩ := h
  obtain ⟨t, rfl⟩ := rx
  obtain ⟨t', rfl⟩ := ry
  exact rule i j t t' s _ _ hc ⟨.int (g i j), H, I.tok _, ⟨_, rfl⟩, q⟩
theorem opI0 {f : Value → Value → Sem Value} {g : Int → Int → Int}
    (rule : ∀ (i j : Int) (t u : Tok) (s : Shared) (Q : Value → Shared → Prop) (E : Value → Shared → Prop), Q (.int (g i j) s.toks) { s with toks := s.toks + 1 } → wpAny (model X.prog X.w) X.A (f (.int i t) (.int j u)) Q E s) :
    OpR X f (rI0 fun i j => .int (g i j)) := by
  intro pins s σ H x y v u Q I rx ry h
  obtain ⟨i, j, rfl, rfl, q⟩ := h
  obtain ⟨t, rfl⟩ := rx
  obtain ⟨t', rfl⟩ := ry
  exact rule i j t t' s _ _ ⟨.int (g i j), H, I.tok _, ⟨_, rfl⟩, q⟩
theorem opB0 {f : Value → Value → Sem Value} {g : Int → Int → Bool}
    (rule : ∀ (i j : Int) (t u : Tok) (s : Shared) (Q : Value → Shared → Prop) (E : Value → Shared → Prop), Q (.bool (g i j)) s → wpAny (model X.prog X.w) X.A (f (.int i t) (.int j u)) Q E s) :
    OpR X f (rI0 fun i j => .bl (g i j)) := by
  intro pins s σ H x y v u Q I rx ry h
  obtain ⟨i, j, rfl, rfl, q⟩ := h
  obtain ⟨t, rfl⟩ := rx
  obtain ⟨t', rfl⟩ := ry
  exact rule i j t t' s _ _ ⟨.bl (g i j), H, I, rfl, q⟩

def CDiv (i j : Int) : Prop := 0 < j ∧ j < 1073741824
def CPow (i j : Int) : Prop := 0 ≤ j ∧ j ≤ 1000000 ∧ i.natAbs < 2 ^ 64
def CMul (i j : Int) : Prop := (-(2 ^ 64) < i ∧ i < 2 ^ 64) ∨ (-(2 ^ 64) < j ∧ j < 2 ^ 64)
theorem CMul.ok {i j : Int} (h : CMul i j) : IntMulOk i j := by
  rcases h with ⟨h1, h2⟩ | ⟨h1, h2⟩
  · exact .of_left (intBits_le_64 h1 h2)
  · exact .of_right (intBits_le_64 h1 h2)
theorem op_add : OpR X (binaryOp .Add) (rI0 fun i j => .int (i + j)) := opI0 fun _ _ _ _ _ _ _ q => add_int q
theorem op_sub : OpR X (binaryOp .Sub) (rI0 fun i j => .int (i - j)) := opI0 fun _ _ _ _ _ _ _ q => sub_int q
theorem op_fdiv : OpR X (binaryOp .FloorDiv) (rI CDiv fun i j => .int (i / j)) := opI fun i j _ _ _ _ _ hc q => by
  have h1 : (0 : Int) < j := hc.1
  have h2 : j < 1073741824 := hc.2
  exact floordiv_int (by omega) (by rw [Int.fdiv_eq_ediv_of_nonneg i (by omega)]; exact q) (.inl (PyProof.noPylong_small (by omega)))
theorem op_mod : OpR X (binaryOp .Mod) (rI (fun _ j => 0 < j) fun i j => .int (i % j)) := opI fun i j _ _ _ _ _ hc q => by
  have h1 : (0 : Int) < j := hc
  exact mod_int' (by omega) (by rw [Int.fmod_eq_emod_of_nonneg i (by omega)]; exact q)
theorem op_pow : OpR X (binaryOp .Pow) (rI CPow fun i j => .int (i ^ j.toNat)) := opI fun _ _ _ _ _ _ _ hc q => pow_int_small hc.1 hc.2.1 hc.2.2 q
theorem unI {f : Value → Sem Value} {g : Int → Int}
    (rule : ∀ (i : Int) (t : Tok) (s : Shared) (Q : Value → Shared → Prop) (E : Value → Shared → Prop), Q (.int (g i) s.toks) { s with toks := s.toks + 1 } → wpAny (model X.prog X.w) X.A (f (.int i t)) Q E s) :
    UnR X f (rU fun i => .int (g i)) := by
  intro pins s σ H x v Q I rx h
  obtain ⟨i, rfl, q⟩ := h
  obtain ⟨t, rfl⟩ := rx
  exact rule i t s _ _ ⟨.int (g i), H, I.tok _, ⟨_, rfl⟩, q⟩
theorem un_neg : UnR X (unaryOp .USub) (rU fun i => .int (-i)) := unI fun _ _ _ _ _ q => neg_int q
end

def scal : V → V → Bool
  | .non, .non => true | .non, .int _ => true | .int _, .non => true | .non, .bl _ => true | .bl _, .non => true | .non, .str _ => true | .str _, .non => true
  | .int _, .int _ => true | .bl _, .bl _ => true | .str _, .str _ => true | .byt _, .byt _ => true
  | .int _, .str _ => true | .str _, .int _ => true | .bl _, .str _ => true | .str _, .bl _ => true
  | _, _ => false
def rEq : R2 := fun x y H Q => scal x y = true ∧ Q (.bl (decide (x = y))) H
def rNe : R2 := fun x y H Q => scal x y = true ∧ Q (.bl (!decide (x = y))) H

theorem dec_int {i j : Int} : decide (V.int i = V.int j) = (i == j) := by
  rw [Bool.eq_iff_iff]
  simp
theorem dec_bl {i j : Bool} : decide (V.bl i = V.bl j) = (i == j) := by
  rw [Bool.eq_iff_iff]
  simp
theorem dec_str {i j : Str} : decide (V.str i = V.str j) = (i == j) := by
  rw [Bool.eq_iff_iff]
  simp
theorem dec_byt {i j : Array UInt8} : decide (V.byt i = V.byt j) = (i.toList == j.toList) := by
  rw [Bool.eq_iff_iff]
  cases i
  cases j
  simp

section
variable {X : Cx} {a b c : Expr} {ta tb tc : TE} {pos : Pos}
theorem fin_bl {pins : List (Addr × Obj)} {σ : St} {H : Hp} {s : Shared} {Q : VK} {k k' : Bool} (I : Inv X pins σ H s) (q : Q (.bl k) H) (e : k = k') : EP X pins σ Q (.bool k') s := by
  subst e
  exact ⟨.bl k, H, I, rfl, q⟩
theorem op_eq : OpR X (compareOp .Eq) rEq := by
  intro pins s σ H x y v u Q I rx ry h
  obtain ⟨hs, q⟩ := h
  cases x with
  | non =>
    cases rx
    cases y with
    | non => cases ry; exact PySem.EqNone.eq_none_none (fin_bl I q (by simp))
    | bl j => cases ry; exact PySem.EqNone.eq_none_bool (fin_bl I q (by simp))
    | int j => obtain ⟨t', rfl⟩ := ry; exact PySem.EqNone.eq_none_int (fin_bl I q (by simp))
    | str j => obtain ⟨t', rfl⟩ := ry; exact PySem.EqNone.eq_none_str (fin_bl I q (by simp))
    | _ => exact absurd (show false = true from hs) Bool.false_ne_true
  | bl i =>
    cases rx
    cases y with
    | non => cases ry; exact PySem.EqNone.eq_bool_none (fin_bl I q (by simp))
    | bl j => cases ry; exact eq_bool (fin_bl I q dec_bl)
    | str j => obtain ⟨t', rfl⟩ := ry; exact PySem.EqMixed.eq_bool_str (fin_bl I q (by simp))
    | _ => exact absurd (show false = true from hs) Bool.false_ne_true
  | int i =>
    obtain ⟨t, rfl⟩ := rx
    cases y with
    | non => cases ry; exact PySem.EqNone.eq_int_none (fin_bl I q (by simp))
    | int j => obtain ⟨t', rfl⟩ := ry; exact eq_int (fin_bl I q dec_int)
    | str j => obtain ⟨t', rfl⟩ := ry; exact PySem.EqMixed.eq_int_str (fin_bl I q (by simp))
    | _ => exact absurd (show false = true from hs) Bool.false_ne_true
  | str i =>
    obtain ⟨t, rfl⟩ := rx
    cases y with
    | non => cases ry; exact PySem.EqNone.eq_str_none (fin_bl I q (by simp))
    | bl j => cases ry; exact PySem.EqMixed.eq_str_bool (fin_bl I q (by simp))
    | int j => obtain ⟨t', rfl⟩ := ry; exact PySem.EqMixed.eq_str_int (fin_bl I q (by simp))
    | str j => obtain ⟨t', rfl⟩ := ry; exact eq_str (fin_bl I q dec_str)
    | _ => exact absurd (show false = true from hs) Bool.false_ne_true
  | byt i =>
    obtain ⟨t, rfl⟩ := rx
    cases y with
    | byt j => obtain ⟨t', rfl⟩ := ry; exact PySem.W.eq_bytes (fin_bl I q dec_byt)
    | _ => exact absurd (show false = true from hs) Bool.false_ne_true
  | _ => cases y <;> exact absurd (show false = true from hs) Bool.false_ne_true
theorem op_ne : OpR X (compareOp .NotEq) rNe := by
  intro pins s σ H x y v u Q I rx ry h
  obtain ⟨hs, q⟩ := h
  cases x with
  | non =>
    cases rx
    cases y with
    | non => cases ry; exact PySem.EqNone.ne_none_none (fin_bl I q (by simp))
    | bl j => cases ry; exact PySem.EqNone.ne_none_bool (fin_bl I q (by simp))
    | int j => obtain ⟨t', rfl⟩ := ry; exact PySem.EqNone.ne_none_int (fin_bl I q (by simp))
    | str j => obtain ⟨t', rfl⟩ := ry; exact PySem.EqNone.ne_none_str (fin_bl I q (by simp))
    | _ => exact absurd (show false = true from hs) Bool.false_ne_true
  | bl i =>
    cases rx
    cases y with
    | non => cases ry; exact PySem.EqNone.ne_bool_none (fin_bl I q (by simp))
    | bl j => cases ry; exact ne_bool (fin_bl I q (congrArg not dec_bl))
    | str j => obtain ⟨t', rfl⟩ := ry; exact PySem.EqMixed.ne_bool_str (fin_bl I q (by simp))
    | _ => exact absurd (show false = true from hs) Bool.false_ne_true
  | int i =>
    obtain ⟨t, rfl⟩ := rx
    cases y with
    | non => cases ry; exact PySem.EqNone.ne_int_none (fin_bl I q (by simp))
    | int j => obtain ⟨t', rfl⟩ := ry; exact ne_int (fin_bl I q (congrArg not dec_int))
    | str j => obtain ⟨t', rfl⟩ := ry; exact PySem.EqMixed.ne_int_str (fin_bl I q (by simp))
    | _ => exact absurd (show false = true from hs) Bool.false_ne_true
  | str i =>
    obtain ⟨t, rfl⟩ := rx
    cases y with
    | non => cases ry; exact PySem.EqNone.ne_str_none (fin_bl I q (by simp))
    | bl j => cases ry; exact PySem.EqMixed.ne_str_bool (fin_bl I q (by simp))
    | int j => obtain ⟨t', rfl⟩ := ry; exact PySem.EqMixed.ne_str_int (fin_bl I q (by simp))
    | str j => obtain ⟨t', rfl⟩ := ry; exact ne_str (fin_bl I q (congrArg not dec_str))
    | _ => exact absurd (show false = true from hs) Bool.false_ne_true
  | byt i =>
    obtain ⟨t, rfl⟩ := rx
    cases y with
    | byt j => obtain ⟨t', rfl⟩ := ry; exact PySem.W.ne_bytes (fin_bl I q (congrArg not dec_byt))
    | _ => exact absurd (show false = true from hs) Bool.false_ne_true
  | _ => cases y <;> exact absurd (show false = true from hs) Bool.false_ne_true

theorem op_lt : OpR X (compareOp .Lt) (rI0 fun i j => .bl (decide (i < j))) := opB0 fun _ _ _ _ _ _ _ q => lt_int q
theorem op_le : OpR X (compareOp .LtE) (rI0 fun i j => .bl (decide (i ≤ j))) := opB0 fun _ _ _ _ _ _ _ q => le_int q
theorem op_ge : OpR X (compareOp .GtE) (rI0 fun i j => .bl (decide (j ≤ i))) := opB0 fun _ _ _ _ _ _ _ q => ge_int q
theorem op_isN : OpR X (compareOp .Is) (fun x y H Q => y = .non ∧ Q (.bl (decide (x = .non))) H) := by
  intro pins s σ H x y v u Q I rx ry h
  obtain ⟨rfl, q⟩ := h
  cases ry
  refine is_none_gen (fin_bl I q ?_)
  cases x <;> first
    | (cases rx; rfl)
    | (obtain ⟨t, rfl⟩ := rx; rfl)
theorem op_notN : OpR X (compareOp .IsNot) (fun x y H Q => y = .non ∧ Q (.bl (!decide (x = .non))) H) := by
  intro pins s σ H x y v u Q I rx ry h
  obtain ⟨rfl, q⟩ := h
  cases ry
  refine isnot_none_gen (fin_bl I q ?_)
  cases x <;> first
    | (cases rx; rfl)
    | (obtain ⟨t, rfl⟩ := rx; rfl)

theorem OpR.or {f : Value → Value → Sem Value} {r r' : R2} (h : OpR X f r) (h' : OpR X f r') : OpR X f (fun x y H Q => r x y H Q ∨ r' x y H Q) := by
  intro pins s σ H x y v u Q I rx ry q
  rcases q with q | q
  · exact h pins s σ H x y v u Q I rx ry q
  · exact h' pins s σ H x y v u Q I rx ry q

theorem nomark (b : Expr) {op : CmpOp} (h : op ≠ .In := by decide) (h2 : op ≠ .NotIn := by decide) : behindInMarks op b = false := by
  have e1 : (op == CmpOp.In) = false := by cases op <;> first | rfl | exact absurd rfl h
  have e2 : (op == CmpOp.NotIn) = false := by cases op <;> first | rfl | exact absurd rfl h2
  cases b <;> simp [behindInMarks, e1, e2]
theorem pe_cmpR {op : CmpOp} {r : R2} (ho : OpR X (compareOp op) r) (ha : PE X a ta) (hb : PE X b tb) (hm : behindInMarks op b = false) : PE X (.Compare a [op] [b] pos) (tOp r ta tb) := by
  intro pins s σ H Q I h
  exact wpAny_Compare1 (binT ha hb I h fun v u s2 x y H2 I2 rx ry q => ho pins s2 σ H2 x y v u Q I2 rx ry q) hm
def tTest (t : TE) : TT := fun σ H Q => t σ H fun x H' => ∃ k, x = .bl k ∧ Q k H'
theorem pt_cmpR {op : CmpOp} {r : R2} (ho : OpR X (compareOp op) r) (ha : PE X a ta) (hb : PE X b tb) (hm : behindInMarks op b = false) : PT X (.Compare a [op] [b] pos) (tTest (tOp r ta tb)) := by
  intro pins s σ H Q I h
  refine wpAny_isTrue_Compare1 (thn (ha pins s σ H _ I h) fun v s1 ⟨x, H1, I1, r1, q1⟩ => thn (hb pins s1 σ H1 _ I1 q1) fun u s2 ⟨y, H2, I2, r2, q2⟩ =>
    thn (ho pins s2 σ H2 x y v u _ I2 r1 r2 q2) fun c s3 ⟨z, H3, I3, r3, k, e, q3⟩ => ?_) hm
  subst e
  cases r3
  exact wpAny_truthy_bool ⟨H3, I3, q3⟩
def tChain (r r' : R2) (ta tb tc : TE) : TE := fun σ H Q => ta σ H fun x H1 => tb σ H1 fun y H2 => r x y H2 fun z H3 => ∃ k, z = .bl k ∧
  (if k = true then tc σ H3 fun w' H4 => r' y w' H4 Q else Q (.bl false) H3)
theorem pe_chain {op op' : CmpOp} {r r' : R2} (ho : OpR X (compareOp op) r) (ho' : OpR X (compareOp op') r') (ha : PE X a ta) (hb : PE X b tb) (hc : PE X c tc)
    (hm : lastMarks [op, op'] [b, c] = false := by with_unfolding_all rfl) : PE X (.Compare a [op, op'] [b, c] pos) (tChain r r' ta tb tc) := by
  intro pins s σ H Q I h
  refine Compare_chain (thn (ha pins s σ H _ I h) fun v s1 ⟨x, H1, I1, r1, q1⟩ => chain_link (thn (hb pins s1 σ H1 _ I1 q1) fun u s2 ⟨y, H2, I2, r2, q2⟩ =>
    thn (ho pins s2 σ H2 x y v u _ I2 r1 r2 q2) fun d s3 ⟨z, H3, I3, r3, k, e, q3⟩ => ?_)) hm
  subst e
  cases r3
  refine wpAny_truthy_bool ?_
  cases k with
  | false => exact ite_ff ⟨.bl false, H3, I3, rfl, q3⟩
  | true => exact ite_tt (chain_last (thn (hc pins s3 σ H3 _ I3 q3) fun w' s4 ⟨z', H4, I4, r4, q4⟩ => ho' pins s4 σ H4 y z' u w' Q I4 r2 r4 q4))
theorem pt_chain {op op' : CmpOp} {r r' : R2} (ho : OpR X (compareOp op) r) (ho' : OpR X (compareOp op') r') (ha : PE X a ta) (hb : PE X b tb) (hc : PE X c tc)
    (hm : lastMarks [op, op'] [b, c] = false := by with_unfolding_all rfl) : PT X (.Compare a [op, op'] [b, c] pos) (tTest (tChain r r' ta tb tc)) := by
  intro pins s σ H Q I h
  refine isTrue_chain (thn (ha pins s σ H _ I h) fun v s1 ⟨x, H1, I1, r1, q1⟩ => test_link (thn (hb pins s1 σ H1 _ I1 q1) fun u s2 ⟨y, H2, I2, r2, q2⟩ =>
    thn (ho pins s2 σ H2 x y v u _ I2 r1 r2 q2) fun d s3 ⟨z, H3, I3, r3, k, e, q3⟩ => ?_)) hm
  subst e
  cases r3
  refine wpAny_truthy_bool ?_
  cases k with
  | false =>
    obtain ⟨k', e', q'⟩ := q3
    cases e'
    exact ite_ff ⟨H3, I3, q'⟩
  | true =>
    refine ite_tt (test_last (thn (hc pins s3 σ H3 _ I3 q3) fun w' s4 ⟨z', H4, I4, r4, q4⟩ => thn (ho' pins s4 σ H4 y z' u w' _ I4 r2 r4 q4) fun d' s5 ⟨z2, H5, I5, r5, k2, e2, q5⟩ => ?_))
    subst e2
    cases r5
    exact wpAny_truthy_bool ⟨H5, I5, q5⟩

theorem line63 : (sizeLine : Nat) < 2 ^ 63 := by rw [sizeLine_eq]; decide
theorem vals1 {x : V} {us : List Value} (r : Vals [x] us) : ∃ u, us = [u] ∧ RelV x u := by
  cases r with
  | cons r1 r2 => cases r2; exact ⟨_, rfl, r1⟩
theorem vals2 {x y : V} {us : List Value} (r : Vals [x, y] us) : ∃ u w', us = [u, w'] ∧ RelV x u ∧ RelV y w' := by
  cases r with
  | cons r1 r2 =>
    cases r2 with
    | cons r3 r4 => cases r4; exact ⟨_, _, rfl, r1, r3⟩
theorem call_max2 (hc : X.calm = true) : CallR X (.builtin "max") (fun xs H Q => ∃ i j, xs = [.int i, .int j] ∧ Q (.int (if j > i then j else i)) H) := by
  intro pins s σ H xs us Q I r h
  obtain ⟨i, j, rfl, q⟩ := h
  obtain ⟨u, w', rfl, ⟨t, rfl⟩, ⟨t', rfl⟩⟩ := vals2 r
  refine max_two_ints (I.ok.hd hc) fun h' tk k => ⟨_, H, I.kept k, ?_, q⟩
  by_cases hj : j > i
  · rw [if_pos hj, if_pos hj]; exact ⟨_, rfl⟩
  · rw [if_neg hj, if_neg hj]; exact ⟨_, rfl⟩
end
end L2

namespace L2
open PySem PySem.Spec PyProof.Rows

structure ObjM (h : Heap) (x dx C : Addr) (mA : Str → Option Value) : Prop where
  obj : h.get? x = some (PySem.W.instObj C dx)
  ns : h.Ns1 dx mA
  ne : dx ≠ x

theorem lookIn_ns {h : Heap} {dx : Addr} {mA : Str → Option Value} (n : h.Ns1 dx mA) : ∃ od, h.get? dx = some od ∧ ∀ name, PySem.W.lookIn name od = some (mA name) := by
  obtain ⟨o, es, ep, ho, hd, hk, _, hm⟩ := n
  refine ⟨o, ho, fun name => ?_⟩
  have e := hm name
  unfold nsFind findBy at e
  rw [← Array.find?_toList] at e
  unfold PySem.W.lookIn
  rw [hd]
  dsimp only
  split
  · rename_i y q
    rw [q] at e
    exact congrArg some e
  · rename_i q
    rw [q] at e
    have a : es.toList.any (·.refKey) = false := by
      rw [List.any_eq_false]
      intro y hy
      obtain ⟨z, t, hkey⟩ := hk y (Array.mem_toList_iff.mp hy)
      simp [DictEntry.refKey, hkey]
    have a' : ¬ es.toList.any (·.refKey) = true := by rw [a]; exact Bool.false_ne_true
    rw [if_neg a']
    exact congrArg some e

theorem ObjM.look {h : Heap} {x dx C : Addr} {mA : Str → Option Value} (I : ObjM h x dx C mA) : ∃ od, PySem.W.InstAt h x (PySem.W.instObj C dx) C (some od) ∧ ∀ name, PySem.W.lookIn name od = some (mA name) :=
  let ⟨od, ho, hl⟩ := lookIn_ns I.ns
  ⟨od, ⟨I.obj, rfl, rfl, ho⟩, hl⟩

section
variable {prog : Program} {w : World} {A : Around} {E : Value → Shared → Prop} {s : Shared} {K : PySem.W.Frag} {x dx C f : Addr} {mA : Str → Option Value} {name : Str} {v : Value}

theorem get_map {expr : Bool} {Q : Value → Shared → Prop} (X : K.In s.heap) (I : ObjM s.heap x dx C mA) (hg : PySem.W.plainGet K C name = true) (hh : PySem.W.hasDictIn K C = true)
    (ha : PySem.W.findIn K (.ref C) name = some none) (hv : mA name = some v) (hv' : PySem.W.handedIn v = true) (h : Q v { s with toks := s.toks + 1 }) :
    wpAny (model prog w) A (getAttr (.ref x) name expr) Q E s := by
  obtain ⟨od, J, hl⟩ := I.look
  exact PySem.W.get_value X J (PySem.W.plainGet_of hg).1 (PySem.W.findObj_own hh ha rfl (by rw [hl, hv])) hv' h

theorem get_meth {pl : Sem Bool} {Q : Value × List Value → Shared → Prop} (X : K.In s.heap) (I : ObjM s.heap x dx C mA) (hg : PySem.W.plainGet K C name = true)
    (hf : PySem.W.findIn K (.ref C) name = some (some (.ref f))) (ht : PySem.W.isFn K (.ref f) = true) (hv : mA name = none) (h : Q (.ref f, [.ref x]) s) :
    wpAny (model prog w) A (getMethod (.ref x) name pl) Q E s := by
  obtain ⟨od, J, hl⟩ := I.look
  exact PySem.W.method_fn X J (PySem.W.plainGet_of hg).1 (PySem.W.plainGet_of hg).2 hf (beq_iff_eq.mp ht) (by show (PySem.W.lookIn name od).map (·.isSome) = some false; rw [hl, hv]; rfl) h

theorem set_map {ns : List Str} {Q : Unit → Shared → Prop} (X : K.In s.heap) (I : ObjM s.heap x dx C mA)
    (hs : PySem.W.findIn K (.ref C) "__setattr__" = some (some (.builtin "object.__setattr__"))) (hp : PySem.W.plainOver K C = true) (ht : PySem.W.takerIn K C name = some none) (hh : PySem.W.hasDictIn K C = true)
    (hw : PySem.Within mA ns) (hsz : ns.length ≤ sizeLine)
    (h : ∀ h', ObjM h' x dx C (fun y => if y = name then some v else mA y) → Heap.SameBut dx s.heap h' → Q () { s with heap := h', toks := s.toks + 2 }) :
    wpAny (model prog w) A (setAttr (.ref x) name v) Q E s := by
  obtain ⟨od, J, hl⟩ := I.look
  refine PySem.W.set_plain X J hs (PySem.W.osa_open (s := { s with toks := s.toks + 1 }) (r := none) X J hp ht fun b => ?_)
  obtain ⟨cd, hc, hd'⟩ := PySem.W.any_some hh
  have hx : s.heap.get? x = some ⟨.ref C, some dx, .plain, #[]⟩ := I.obj
  refine wpAny_bind (wpAny_pure (wpAny_bind (wpAny_bind (wpAny_loadPart hx (wpAny_bind (PySem.W.Looks.here (s := { s with toks := s.toks + 1 }) (PySem.W.looks_clsIn X hc) ?_))))))
  rw [hd']
  refine wpAny_pure (a := some dx) (wpAny_bind (wpAny_pure (wpAny_bind ?_)))
  refine wpAny_nsSet1 (s := { s with toks := s.toks + 1 }) I.ns fun h' hn2 hs2 => ?_
  obtain ⟨oD, esD, epD, hoD, hdD, hcD⟩ := hn2.count (PySem.Within.cons name v hw)
  refine wpAny_bind (wpAny_lookBehind hoD (by rw [hdD]; exact pastItsLine_dict (Nat.le_trans hcD (by rw [List.length_cons]; omega))) ?_)
  exact wpAny_pure (h _ ⟨(hs2.2 _ (Ne.symm I.ne)).trans I.obj, hn2, I.ne⟩ hs2)

theorem make_map {R : Result → Shared → Prop} {vs : List Value} {kw : List (Str × Value)} (X : K.In s.heap) (hm : PySem.W.makesIn K C = true)
    (hi : PySem.W.findIn K (.ref C) "__init__" = some (some (.ref f))) (hf : PySem.W.typeIn K (.ref f) = some (.type "function"))
    (h : codeAny (model prog w) (A.under (.builtin "type.__call__" ⟨.ref C :: vs, kw⟩)) (.call (.ref f) ⟨.ref (s.heap.objs.size + 1) :: vs, kw⟩) (PySem.W.InitBack (s.heap.objs.size + 1) R)
      { s with heap := (s.heap.push PySem.W.emptyDict).push (PySem.W.instObj C s.heap.objs.size) }) :
    codeAny (model prog w) A (.call (.ref C) ⟨vs, kw⟩) R s := by
  obtain ⟨hh, g, d, t, os⟩ := s
  exact PySem.W.make_core (PySem.W.makes_of X hm) (PySem.W.looks_findIn X hi) (fun self => PySem.W.bind_fn X self hf) (.inl rfl) h
end

def putF (f : Str) (v : V) : List (Str × V) → List (Str × V)
  | [] => [(f, v)]
  | (g, x) :: r => if g = f then (g, v) :: r else (g, x) :: putF f v r
theorem lookup_putF (f g : Str) (v : V) : ∀ fs : List (Str × V), (putF f v fs).lookup g = if g = f then some v else fs.lookup g
  | [] => by
    show List.lookup g [(f, v)] = _
    by_cases h : g = f
    · have hb : (g == f) = true := beq_iff_eq.mpr h
      simp only [List.lookup, hb, if_pos h]
    · have hb : (g == f) = false := beq_eq_false_iff_ne.mpr h
      simp only [List.lookup, hb, if_neg h]
  | (k, x) :: r => by
    have ih := lookup_putF f g v r
    rw [show putF f v ((k, x) :: r) = (if k = f then (k, v) :: r else (k, x) :: putF f v r) from rfl]
    by_cases hk : k = f
    · rw [if_pos hk]
      by_cases h : g = k
      · have hb : (g == k) = true := beq_iff_eq.mpr h
        simp only [List.lookup, hb, if_pos (h.trans hk)]
      · have hb : (g == k) = false := beq_eq_false_iff_ne.mpr h
        simp only [List.lookup, hb, if_neg (fun e : g = f => h (e.trans hk.symm))]
    · rw [if_neg hk]
      by_cases h : g = k
      · have hb : (g == k) = true := beq_iff_eq.mpr h
        simp only [List.lookup, hb, if_neg (fun e : g = f => hk (h.symm.trans e))]
      · have hb : (g == k) = false := beq_eq_false_iff_ne.mpr h
        simp only [List.lookup, hb]
        exact ih
theorem keys_putF (f : Str) (v : V) : ∀ fs : List (Str × V), f ∈ (putF f v fs).map (·.1) ∧ ∀ g, g ∈ fs.map (·.1) → g ∈ (putF f v fs).map (·.1)
  | [] => ⟨by simp [putF], fun g h => by simp at h⟩
  | (k, x) :: r => by
    obtain ⟨i1, i2⟩ := keys_putF f v r
    rw [show putF f v ((k, x) :: r) = (if k = f then (k, v) :: r else (k, x) :: putF f v r) from rfl]
    by_cases hk : k = f
    · rw [if_pos hk]
      subst hk
      exact ⟨by simp, fun g h => by simpa using h⟩
    · rw [if_neg hk]
      refine ⟨?_, fun g h => ?_⟩
      · rw [List.map_cons]
        exact List.mem_cons_of_mem _ i1
      · rw [List.map_cons] at h ⊢
        rcases List.mem_cons.mp h with e | e
        · exact List.mem_cons.mpr (.inl e)
        · exact List.mem_cons_of_mem _ (i2 g e)
theorem length_putF (f : Str) (v : V) : ∀ fs : List (Str × V), (putF f v fs).length ≤ fs.length + 1
  | [] => by simp [putF]
  | (k, x) :: r => by
    have ih := length_putF f v r
    rw [show putF f v ((k, x) :: r) = (if k = f then (k, v) :: r else (k, x) :: putF f v r) from rfl]
    by_cases hk : k = f
    · rw [if_pos hk, List.length_cons, List.length_cons]; omega
    · rw [if_neg hk, List.length_cons, List.length_cons]; omega

theorem RelO.some_of {v : V} {o : Option Value} (r : RelO (some v) o) : ∃ u, o = some u ∧ RelV v u := by
  cases o with
  | none => exact (show False from r).elim
  | some u => exact ⟨u, rfl, r⟩
theorem RelO.none_of {o : Option Value} (r : RelO none o) : o = none := by
  cases o with
  | none => rfl
  | some u => exact (show False from r).elim
theorem handed_of {v : V} {u : Value} (r : RelV v u) : PySem.W.handedIn u = true := by
  cases v with
  | non => cases (show u = Value.none from r); rfl
  | bl b => cases (show u = Value.bool b from r); rfl
  | int i => obtain ⟨t, e⟩ := (show ∃ t, u = Value.int i t from r); cases e; rfl
  | str x => obtain ⟨t, e⟩ := (show ∃ t, u = Value.str x t from r); cases e; rfl
  | byt b => obtain ⟨t, e⟩ := (show ∃ t, u = Value.bytes b t from r); cases e; rfl
  | flt b => obtain ⟨t, e⟩ := (show ∃ t, u = Value.float b t from r); cases e; rfl
  | ref a => cases (show u = Value.ref a from r); rfl
  | ty n => cases (show u = Value.type n from r); rfl

section
variable {P : Program} {w : World} {H H' : Hp} {h h' : Heap} {a C dx : Addr} {fs fs' : List (Str × V)}
theorem ins_get (hok : HOk P w H h) (e : H a = some (.ins C dx fs)) : ∃ mA, ObjM h a dx C mA ∧ (∀ f, RelO (fs.lookup f) (mA f)) ∧ PySem.Within mA (fs.map (·.1)) ∧ fs.length ≤ 1000 ∧ H dx = some (.own a) := by
  obtain ⟨d, z, ne, ob, mA, n, r, q⟩ := (show ObjOk P w H h a (.ins C dx fs) from hok a _ e)
  exact ⟨mA, ⟨ob, n, ne⟩, r, q, z, d⟩
end

structure Cls (K : PySem.W.Frag) (C : Addr) : Prop where
  pg : PySem.W.plainGet K C Str.empty = true
  hd : PySem.W.hasDictIn K C = true
  po : PySem.W.plainOver K C = true
  sa : PySem.W.findIn K (.ref C) "__setattr__" = some (some (.builtin "object.__setattr__"))
theorem Cls.get {K : PySem.W.Frag} {C : Addr} (c : Cls K C) (f : Str) : PySem.W.plainGet K C f = true := c.pg
def NoAttr (K : PySem.W.Frag) (C : Addr) (f : Str) : Prop := PySem.W.findIn K (.ref C) f = some none
theorem NoAttr.taker {K : PySem.W.Frag} {C : Addr} {f : Str} (n : NoAttr K C f) : PySem.W.takerIn K C f = some none := by
  unfold PySem.W.takerIn
  rw [show PySem.W.findIn K (.ref C) f = some none from n]
  rfl
structure Con (K : PySem.W.Frag) (C : Addr) (f : Str) (v : V) (u : Value) : Prop where
  at_ : PySem.W.findIn K (.ref C) f = some (some u)
  rel : RelV v u
  get : PySem.W.specialIn K u "__get__" = some none
  cp : PySem.W.copiedNames.contains f = false
structure Meth (K : PySem.W.Frag) (C : Addr) (m : Str) (f : Addr) : Prop where
  at_ : PySem.W.findIn K (.ref C) m = some (some (.ref f))
  fn : PySem.W.isFn K (.ref f) = true
  kp : PySem.W.keepIn K (.ref f) = true

section
variable {X : Cx} {pins : List (Addr × Obj)} {σ : St} {H : Hp} {s : Shared} {a C dx : Addr} {fs : List (Str × V)} {f : Str} {v : V} {A : Around} {E : Value → Shared → Prop}

theorem getattr_ok {b : Bool} {Q : Value → Shared → Prop} (I : Inv X pins σ H s) (e : H a = some (.ins C dx fs)) (c : Cls X.K C) (n : NoAttr X.K C f) (l : fs.lookup f = some v)
    (h : ∀ u s', Inv X pins σ H s' → RelV v u → Q u s') : wpAny (model X.prog X.w) A (getAttr (.ref a) f b) Q E s := by
  obtain ⟨mA, O, r, _, _, _⟩ := ins_get I.hok e
  obtain ⟨u, hu, ru⟩ := RelO.some_of (v := v) (o := mA f) (by rw [← l]; exact r f)
  exact get_map I.kIn O (c.get f) c.hd n hu (handed_of ru) (h u _ (I.tok _) ru)

theorem getmeth_ok {m : Str} {g : Addr} {pl : Sem Bool} {Q : Value × List Value → Shared → Prop} (I : Inv X pins σ H s) (e : H a = some (.ins C dx fs)) (c : Cls X.K C) (k : Meth X.K C m g) (l : fs.lookup m = none)
    (h : Q (.ref g, [.ref a]) s) : wpAny (model X.prog X.w) A (getMethod (.ref a) m pl) Q E s := by
  obtain ⟨mA, O, r, _, _, _⟩ := ins_get I.hok e
  have hn : mA m = none := RelO.none_of (by rw [← l]; exact r m)
  exact get_meth I.kIn O (c.get m) k.at_ k.fn hn h

theorem setattr_ok {y : V} {u : Value} {Q : Unit → Shared → Prop} (I : Inv X pins σ H s) (e : H a = some (.ins C dx fs)) (c : Cls X.K C) (n : NoAttr X.K C f) (hl : fs.length < 1000) (ry : RelV y u)
    (h : ∀ s', Inv X pins σ (upd H a (.ins C dx (putF f y fs))) s' → Q () s') : wpAny (model X.prog X.w) A (setAttr (.ref a) f u) Q E s := by
  obtain ⟨mA, O, r, wi, _, ho⟩ := ins_get I.hok e
  have hz : (fs.map (·.1)).length ≤ sizeLine := by rw [List.length_map, sizeLine_eq]; omega
  refine set_map I.kIn O c.sa c.po n.taker c.hd wi hz fun h' O' sb => h _ ?_
  have hd : ∃ o, h'.get? dx = some o := let ⟨o, _, _, e', _⟩ := O'.ns; ⟨o, e'⟩
  refine I.write (x := a) (e := dx) (by rw [e]; exact True.intro) (.inr ho) (fun b q hb z => (sb.2 b hb).trans z) hd ?_
  refine ⟨by rw [upd_ne O.ne]; exact ho, ?_, O.ne, O'.obj, _, O'.ns, fun g => ?_, fun g hg => ?_⟩
  · have := length_putF f y fs; omega
  · show RelO ((putF f y fs).lookup g) (if g = f then some u else mA g)
    rw [lookup_putF]
    by_cases q : g = f
    · rw [if_pos q, if_pos q]; exact ry
    · rw [if_neg q, if_neg q]; exact r g
  · by_cases q : g = f
    · rw [q]; exact (keys_putF f y fs).1
    · refine (keys_putF f y fs).2 g (wi g fun z => hg ?_)
      show (if g = f then some u else mA g) = none
      rw [if_neg q]; exact z

theorem Inv.made (I : Inv X pins σ H s) : Inv X pins σ (upd (upd H s.heap.objs.size (.own (s.heap.objs.size + 1))) (s.heap.objs.size + 1) (.ins C s.heap.objs.size []))
    { s with heap := (s.heap.push PySem.W.emptyDict).push (PySem.W.instObj C s.heap.objs.size) } := by
  have e1 : (s.heap.push PySem.W.emptyDict).get? s.heap.objs.size = some PySem.W.emptyDict := Heap.get?_push_size s.heap rfl
  have e2 : ((s.heap.push PySem.W.emptyDict).push (PySem.W.instObj C s.heap.objs.size)).get? (s.heap.objs.size + 1) = some (PySem.W.instObj C s.heap.objs.size) := by
    have := Heap.get?_push_size (s.heap.push PySem.W.emptyDict) (o := PySem.W.instObj C s.heap.objs.size) rfl
    rwa [Heap.size_push] at this
  have e3 : (s.heap.push PySem.W.emptyDict).Ns s.heap.objs.size (fun _ => none) := ⟨PySem.W.emptyDict, #[], _, e1, rfl, (fun e he => absurd he (by simp)), fun _ => rfl⟩
  have I1 := I.laid (a := s.heap.objs.size) (o := .own (s.heap.objs.size + 1)) (h' := s.heap.push PySem.W.emptyDict) (t' := s.toks) (fun b u q => Heap.get?_push_of_some _ q) (Nat.le_refl _) ⟨_, e1⟩
  refine I1.laid (a := s.heap.objs.size + 1) (o := .ins C s.heap.objs.size []) (t' := s.toks) (fun b u q => Heap.get?_push_of_some _ q) (Nat.le_of_eq (Heap.size_push _ _)) ?_
  have ne : s.heap.objs.size ≠ s.heap.objs.size + 1 := Nat.ne_of_lt (Nat.lt_succ_self _)
  refine ⟨by rw [upd_ne ne, upd_same], Nat.zero_le _, ne, e2, fun _ => none, (Heap.Ns1.of_empty e3).at fun o q => Heap.get?_push_of_some _ q, fun _ => True.intro, fun y hy => absurd rfl hy⟩

theorem attr_of {prog : Program} {w : World} {env : Env} {e : Expr} {f : Str} {pos : Pos} {s : Shared} {Q : Value → Shared → Prop} (hb : attributeBase e f env (eval e env) = eval e env)
    (h : wpAny (model prog w) A (eval e env) (fun o s₁ => wpAny (model prog w) A (getAttr o f true) Q E s₁) E s) : wpAny (model prog w) A (eval (.Attribute e f pos) env) Q E s :=
  Attribute_any_ h (by rw [arm_eval_Attribute, hb])
end

def tFld (K : PySem.W.Frag) (ta : TE) (f : Str) : TE := fun σ H Q => ta σ H fun x H1 => ∃ a C dx fs v, x = .ref a ∧ H1 a = some (.ins C dx fs) ∧ Cls K C ∧ NoAttr K C f ∧ fs.lookup f = some v ∧ Q v H1
def sFld (K : PySem.W.Frag) (ta tv : TE) (f : Str) : TS := fun D σ H => tv σ H fun y H1 => ta σ H1 fun x H2 => ∃ a C dx fs, x = .ref a ∧ H2 a = some (.ins C dx fs) ∧ Cls K C ∧ NoAttr K C f ∧ fs.length < 1000 ∧
  D.nx σ (upd H2 a (.ins C dx (putF f y fs)))
section
variable {X : Cx} {o e value : Expr} {f : Str} {pos pos' tpos : Pos} {ta tv : TE}
theorem pe_fld (he : PE X e ta) (hb : attributeBase e f X.env (eval e X.env) = eval e X.env) : PE X (.Attribute e f pos) (tFld X.K ta f) := by
  intro pins s σ H Q I h
  refine attr_of hb (thn (he pins s σ H _ I h) fun u s1 ⟨x, H1, I1, rx, a, C, dx, fs, v, ex, ea, c, n, l, q⟩ => ?_)
  subst ex
  obtain rfl : u = Value.ref a := rx
  exact getattr_ok I1 ea c n l fun u' s2 I2 ru => ⟨v, H1, I2, ru, q⟩
theorem ps_fld (ha : PE X o ta) (hv : PE X value tv) (hs : swapsWith value (some (.Attribute o f pos')) pos.line X.env = pure false) : PS X (.Assign [.Attribute o f pos'] value pos) (sFld X.K ta tv f) := by
  intro pins s σ H D I h
  refine plainObj_wpAny_Assign_Attribute (thn (hv pins s σ H _ I h) fun u s1 ⟨y, H1, I1, ry, q⟩ => thn (ha pins s1 σ H1 _ I1 q) fun ov s2 ⟨x, H2, I2, rx, a, C, dx, fs, ex, ea, c, n, l, q2⟩ => ?_) hs
  subst ex
  obtain rfl : ov = Value.ref a := rx
  exact setattr_ok I2 ea c n l ry fun s3 I3 => ⟨σ, _, I3, q2⟩
end

section
variable {X : Cx} {pins : List (Addr × Obj)} {σ : St} {H : Hp} {s : Shared} {A : Around} {E : Value → Shared → Prop} {Q : Value → Shared → Prop} {c : Value} {b : Bool}
inductive TyOf (K : PySem.W.Frag) (H : Hp) : V → Value → Prop where
  | non : TyOf K H .non (.type "NoneType")
  | bl (x : Bool) : TyOf K H (.bl x) (.type "bool")
  | int (i : Int) : TyOf K H (.int i) (.type "int")
  | str (x : Str) : TyOf K H (.str x) (.type "str")
  | flt (x : UInt64) : TyOf K H (.flt x) (.type "float")
  | lst {a : Addr} {xs : List V} (e : H a = some (.lst xs)) : TyOf K H (.ref a) (.type "list")
  | frz {a : Addr} {o : Obj} {xs : List V} (e : H a = some (.frz o (.lst xs))) : TyOf K H (.ref a) (.type "list")
  | tup {a : Addr} {xs : List V} (e : H a = some (.tup xs)) : TyOf K H (.ref a) (.type "tuple")
  | dK {a : Addr} {kvs : List (Key × V)} (e : H a = some (.dK kvs)) : TyOf K H (.ref a) (.type "dict")
  | dT {a : Addr} {kvs : List (List Key × V)} (e : H a = some (.dT kvs)) : TyOf K H (.ref a) (.type "dict")
  | ins {a C dx : Addr} {fs : List (Str × V)} (e : H a = some (.ins C dx fs)) (cl : Cls K C) (ha : PySem.W.findIn K (.ref C) "__class__" = some (some (.builtin "object.__class__")))
      (hn : PySem.W.specialIn K (.builtin "object.__class__") "__get__" = some (some (.builtin "getset_descriptor.__get__"))) (htk : PySem.W.takesIn K (.builtin "object.__class__") = some true)
      (hm : PySem.W.mroIn K C (.type "object") = some true) : TyOf K H (.ref a) (.ref C)
theorem isinst_ok {x : V} {u t : Value} (I : Inv X pins σ H s) (rx : RelV x u) (ty : TyOf X.K H x t) (e : PySem.W.kitOne X.K t c = some b) (h : ∀ tk, Q (.bool b) { s with toks := tk }) :
    wpAny (model X.prog X.w) A (call (.builtin "isinstance") [u, c]) Q E s := by
  cases ty with
  | non => cases (show u = Value.none from rx); exact PySem.W.kia_one PySem.W.kitx_none I.kIn True.intro e (fun z => nomatch z) h
  | bl y => cases (show u = Value.bool y from rx); exact PySem.W.kia_one PySem.W.kitx_bool I.kIn True.intro e (fun z => nomatch z) h
  | int i => obtain ⟨t, q⟩ := (show ∃ t, u = Value.int i t from rx); cases q; exact PySem.W.kia_one PySem.W.kitx_int I.kIn True.intro e (fun z => nomatch z) h
  | str y => obtain ⟨t, q⟩ := (show ∃ t, u = Value.str y t from rx); cases q; exact PySem.W.kia_one PySem.W.kitx_str I.kIn True.intro e (fun z => nomatch z) h
  | flt y => obtain ⟨t, q⟩ := (show ∃ t, u = Value.float y t from rx); cases q; exact PySem.W.kia_one PySem.W.kitx_float I.kIn True.intro e (fun z => nomatch z) h
  | @lst a xs ea =>
    cases (show u = Value.ref a from rx)
    obtain ⟨_, _, n, _, h1⟩ := (show ObjOk X.prog X.w H s.heap a (.lst xs) from I.hok a _ ea)
    exact PySem.W.kia_one PySem.W.kitx_list I.kIn ⟨_, h1, rfl⟩ e (fun z => nomatch z) h
  | @frz a ob xs ea =>
    cases (show u = Value.ref a from rx)
    obtain ⟨_, _, _, n, _, h1⟩ := (show ObjOk X.prog X.w H s.heap a (.frz ob (.lst xs)) from I.hok a _ ea)
    exact PySem.W.kia_one PySem.W.kitx_list I.kIn ⟨_, h1, rfl⟩ e (fun z => nomatch z) h
  | @tup a xs ea =>
    cases (show u = Value.ref a from rx)
    obtain ⟨_, _, _, p⟩ := (show ObjOk X.prog X.w H s.heap a (.tup xs) from I.hok a _ ea)
    obtain ⟨o, h1, h2, _⟩ := p
    exact PySem.W.kia_one PySem.W.kitx_tuple I.kIn ⟨o, h1, h2⟩ e (fun z => nomatch z) h
  | @dK a kvs ea =>
    cases (show u = Value.ref a from rx)
    obtain ⟨_, _, vs, _, p⟩ := (show ObjOk X.prog X.w H s.heap a (.dK kvs) from I.hok a _ ea)
    obtain ⟨o, es, ep, h1, h2, _⟩ := p
    exact PySem.W.kia_one PySem.W.kitx_dict I.kIn ⟨o, h1, h2.1⟩ e (fun z => nomatch z) h
  | @dT a kvs ea =>
    cases (show u = Value.ref a from rx)
    obtain ⟨_, _, xs, _, o, es, ep, h1, h2, _⟩ := (show ObjOk X.prog X.w H s.heap a (.dT kvs) from I.hok a _ ea)
    exact PySem.W.kia_one PySem.W.kitx_dict I.kIn ⟨o, h1, h2.1⟩ e (fun z => nomatch z) h
  | @ins a C dx fs ea cl ha hn htk hm =>
    cases (show u = Value.ref a from rx)
    obtain ⟨mA, O, _⟩ := ins_get I.hok ea
    obtain ⟨od, J, _⟩ := O.look
    exact PySem.W.kia_one (PySem.W.kitx_own (cl.get _) cl.hd ha hn htk hm) I.kIn J e (fun z => nomatch z) h
end
end L2

namespace L2
open PySem PySem.Spec PyProof.Rows

structure Room (k : Nat) (A : Around) : Prop where
  hd : A.handled = none
  dp : A.depth + 3 * k + 5 < recursionLimit
  un : A.units + 16 * k + 200 < cLine
theorem Room.mono {j k : Nat} {A : Around} (r : Room k A) (h : j ≤ k) : Room j A := ⟨r.hd, by have := r.dp; omega, by have := r.un; omega⟩
theorem Room.deeper {k : Nat} {A : Around} (r : Room (k + 1) A) (env : Env) : Room k (A.deeper env) :=
  ⟨r.hd, by have := r.dp; show A.depth + 1 + 3 * k + 5 < _; omega, by have := r.un; show A.units + 3 + 16 * k + 200 < _; omega⟩
theorem Room.in1 {k : Nat} {A : Around} (r : Room (k + 1) A) : Room k A.in1 :=
  ⟨r.hd, by have := r.dp; show A.depth + 3 * k + 5 < _; omega, by have := r.un; show A.units + 1 + 16 * k + 200 < _; omega⟩
theorem make_depth {A : Around} {C : Addr} {us : List Value} {kw : List (Str × Value)} : (A.under (.builtin "type.__call__" ⟨.ref C :: us, kw⟩)).depth = A.depth + 1 := by
  first | rfl | simp [Around.under, Code.weight, Code.isCreation, Code.isGuard, Code.isCaller, Code.frames, Code.isFrame, guardIds]
theorem make_units {A : Around} {C : Addr} {us : List Value} {kw : List (Str × Value)} : (A.under (.builtin "type.__call__" ⟨.ref C :: us, kw⟩)).units = A.units + 1 := by
  first | rfl | simp [Around.under, Code.cUnits, Code.frames, Code.isFrame]
theorem Room.make {k : Nat} {A : Around} (r : Room (k + 1) A) (C : Addr) (us : List Value) (kw : List (Str × Value)) : Room k (A.under (.builtin "type.__call__" ⟨.ref C :: us, kw⟩)) :=
  ⟨r.hd, by have := r.dp; rw [make_depth]; omega, by have := r.un; rw [make_units]; omega⟩
theorem Room.depth {k : Nat} {A : Around} (r : Room k A) : A.depth < recursionLimit := by have := r.dp; omega
theorem Room.units {k : Nat} {A : Around} (r : Room k A) : A.units + 64 < cLine := by have := r.un; omega
def tNil : TA := fun _ H Q => Q [] H
def tCons (ta : TE) (tr : TA) : TA := fun σ H Q => ta σ H fun x H1 => tr σ H1 fun xs H2 => Q (x :: xs) H2
section
variable {X : Cx} {e : Expr} {es : List Expr} {te : TE} {t : TA} {pos : Pos}
theorem pa_nil : PA X [] tNil := fun _ _ _ _ H Q I h => Calls.spliced_nil ⟨[], H, I, .nil, h⟩
theorem pa_cons (ha : PE X e te) (hr : PA X es t) (hs : starEach (e :: es) X.env = (false, eval e X.env) :: starEach es X.env := by rfl) : PA X (e :: es) (tCons te t) := by
  intro pos pins s σ H Q I h
  rw [hs]
  show wpAny _ _ (spliced ((false, eval e X.env) :: backTo pos (starEach es X.env))) _ _ s
  refine Calls.spliced_cons (thn (ha pins s σ H _ I h) fun u s1 ⟨x, H1, I1, r1, q1⟩ => ?_)
  exact thn (hr pos pins s1 σ H1 _ I1 q1) fun us s2 ⟨xs, H2, I2, r2, q2⟩ => ⟨x :: xs, H2, I2, .cons r1 r2, q2⟩

def tTup (t : TA) : TE := fun σ H Q => t σ H fun xs H1 => xs.length ≤ sizeLine ∧ ∀ p, H1 p = none → Q (.ref p) (upd H1 p (.tup xs))
def tLst (t : TA) : TE := fun σ H Q => t σ H fun xs H1 => xs.length ≤ sizeLine ∧ ∀ p, H1 p = none → Q (.ref p) (upd H1 p (.lst xs))
theorem pe_tup {x1} (h : PA X es t) : PE X (.Tuple es x1 pos) (tTup t) := by
  intro pins s σ H Q I hq
  refine wpAny_Tuple_spliced (thn (h pos pins s σ H _ I hq) fun us s1 ⟨xs, H1, I1, r, z, q⟩ => ⟨by rw [← r.length]; exact z, ?_⟩)
  have hf : H1 s1.heap.objs.size = none := I1.hok.fresh (Nat.le_refl _)
  refine ⟨.ref s1.heap.objs.size, upd H1 s1.heap.objs.size (.tup xs), I1.laid (t' := s1.toks) (fun b u e => Heap.get?_push_of_some _ e) (Nat.le_refl _) ?_, rfl, q _ hf⟩
  exact ⟨z, us, r, ⟨_, Heap.get?_push_size _ rfl, rfl, _, rfl⟩⟩
theorem pe_lst (h : PA X es t) : PE X (.List es pos) (tLst t) := by
  intro pins s σ H Q I hq
  refine wpAny_List_spliced (thn (h pos pins s σ H _ I hq) fun us s1 ⟨xs, H1, I1, r, z, q⟩ => ⟨by rw [← r.length]; exact z, ?_⟩)
  have hf : H1 s1.heap.objs.size = none := I1.hok.fresh (Nat.le_refl _)
  refine ⟨.ref s1.heap.objs.size, upd H1 s1.heap.objs.size (.lst xs), I1.laid (t' := s1.toks) (fun b u e => Heap.get?_push_of_some _ e) (Nat.le_refl _) ?_, rfl, q _ hf⟩
  exact ⟨z, us, 0, r, Heap.get?_push_size _ rfl⟩
end

abbrev Sp := List V → Hp → VK → XK → Prop
abbrev CXT := List Env → Hp → Shared → XK → Value → Shared → Prop

structure Env0 (P : Program) (w : World) (K : PySem.W.Frag) (mg : Str → Option Value) (base : Heap) (A : Around) (outer : List Env) (s : Shared) (H : Hp) : Prop where
  frames : A.frames = some outer
  mod : Mod K mg base
  bs : ∀ b o, base.get? b = some o → s.heap.get? b = some o ∧ H b = none
  bsz : base.objs.size ≤ s.heap.objs.size
  funs : s.heap.FunFrames base outer
  frf : ∀ b ∈ frs outer, H b = none
  hok : HOk P w H s.heap
  bare : AllBare s.gens
def CE (outer : List Env) (P : Program) (w : World) (H : Hp) (s : Shared) (Q : VK) (u : Value) (s' : Shared) : Prop :=
  ∃ v H', s'.os = s.os ∧ AllBare s'.gens ∧ Un (frs outer) [] H H' s.heap s'.heap ∧ HOk P w H' s'.heap ∧ RelV v u ∧ Q v H'
def CR (CX : CXT) (outer : List Env) (P : Program) (w : World) (H : Hp) (s : Shared) (Q : VK) (E : XK) (r : Result) (s' : Shared) : Prop :=
  match r with
  | .ok (.ret u) => CE outer P w H s Q u s'
  | .ok _ => False
  | .error e => CX outer H s E e s'
structure FnOk (P : Program) (w : World) (K : PySem.W.Frag) (mg : Str → Option Value) (base : Heap) (CX : CXT) (k : Nat) (f : Addr) (fd : FuncData) (ps : List Str) (sp : Sp) : Prop where
  len : ∀ vs H Q E, sp vs H Q E → vs.length = ps.length
  run : ∀ (A : Around) (outer : List Env) (s : Shared) (H : Hp) (args : Args) (us : List Value) (vs : List V) (Q : VK) (E : XK), Room k A → Env0 P w K mg base A outer s H → BindsTo s fd args (ps.zip us) → Vals vs us → sp vs H Q E →
    codeAny (model P w) A (.call (.ref f) args) (CR CX outer P w H s Q E) s
theorem FnOk.mono {P : Program} {w : World} {K : PySem.W.Frag} {mg : Str → Option Value} {base : Heap} {CX : CXT} {j k : Nat} {f : Addr} {fd : FuncData} {ps : List Str} {sp : Sp} (F : FnOk P w K mg base CX j f fd ps sp) (h : j ≤ k) :
    FnOk P w K mg base CX k f fd ps sp := ⟨F.len, fun A outer s H args us vs Q E hr => F.run A outer s H args us vs Q E (hr.mono h)⟩
theorem FnOk.imp {P : Program} {w : World} {K : PySem.W.Frag} {mg : Str → Option Value} {base : Heap} {CX : CXT} {k : Nat} {f : Addr} {fd : FuncData} {ps : List Str} {sp sp' : Sp} (F : FnOk P w K mg base CX k f fd ps sp)
    (h : ∀ vs H Q E, sp' vs H Q E → sp vs H Q E) : FnOk P w K mg base CX k f fd ps sp' :=
  ⟨fun vs H Q E q => F.len vs H Q E (h _ _ _ _ q), fun A outer s H args us vs Q E hr he hb hv hs => F.run A outer s H args us vs Q E hr he hb hv (h _ _ _ _ hs)⟩

theorem Env0.make {P : Program} {w : World} {K : PySem.W.Frag} {mg : Str → Option Value} {base : Heap} {A : Around} {outer : List Env} {s : Shared} {H : Hp} (e : Env0 P w K mg base A outer s H) (C : Addr) (us : List Value) (kw : List (Str × Value)) :
    Env0 P w K mg base (A.under (.builtin "type.__call__" ⟨.ref C :: us, kw⟩)) outer s H := ⟨by first | exact e.frames | (simpa [Around.under, Code.envs, Code.isFrame, pushEnvs] using e.frames), e.mod, e.bs, e.bsz, e.funs, e.frf, e.hok, e.bare⟩
theorem Env0.in1 {P : Program} {w : World} {K : PySem.W.Frag} {mg : Str → Option Value} {base : Heap} {A : Around} {outer : List Env} {s : Shared} {H : Hp} (e : Env0 P w K mg base A outer s H) :
    Env0 P w K mg base A.in1 outer s H := ⟨e.frames, e.mod, e.bs, e.bsz, e.funs, e.frf, e.hok, e.bare⟩

section
variable {X : Cx} {pins : List (Addr × Obj)} {σ : St} {H : Hp} {s s' : Shared}
theorem Inv.env0 (I : Inv X pins σ H s) : Env0 X.prog X.w X.K X.mg X.base X.A X.stack s H :=
  ⟨I.ok.frames, I.ok.mod, I.bs, Nat.le_trans I.ok.bsz I.sz, I.stack, I.stkFree, I.hok, I.bare⟩
theorem Inv.after {Q : VK} {u : Value} (I : Inv X pins σ H s) (h : CE X.stack X.prog X.w H s Q u s') : EP X pins σ Q u s' := by
  obtain ⟨v, H', os, bare, un, hok, r, q⟩ := h
  obtain ⟨hh, g, d, t, os'⟩ := s'
  obtain rfl : os' = s.os := os
  exact ⟨v, H', I.call (h' := hh) (g' := g) (d' := d) (t' := t) (ch := []) un hok bare (fun b z => absurd z (by simp)), r, q⟩
end

def tCall (sp : Sp) (dvs : List V) (E : XK) (t : TA) : TE := fun σ H Q => t σ H fun vs H1 => sp (vs ++ dvs) H1 Q E
def tMeth (C : Addr) (m : Str) (sp : Sp) (dvs : List V) (E : XK) (ta : TE) (t : TA) : TE := fun σ H Q => ta σ H fun x H1 => ∃ a dx fs, x = .ref a ∧ H1 a = some (.ins C dx fs) ∧ fs.lookup m = none ∧
  t σ H1 fun vs H2 => sp (x :: (vs ++ dvs)) H2 Q E
def tMake (C : Addr) (sp : Sp) (dvs : List V) (E : XK) (t : TA) : TE := fun σ H Q => t σ H fun vs H1 => ∀ x dx, H1 x = none → H1 dx = none → dx ≠ x →
  sp (.ref x :: (vs ++ dvs)) (upd (upd H1 dx (.own x)) x (.ins C dx [])) (fun v H2 => v = .non ∧ Q (.ref x) H2) E

def Binds (K : PySem.W.Frag) (fd : FuncData) (ps : List Str) (ds : List Value) : Prop :=
  ∀ (s : Shared) (us : List Value), K.In s.heap → (us ++ ds).length = ps.length → BindsTo s fd ⟨us, []⟩ (ps.zip (us ++ ds))
theorem Binds.all {K : PySem.W.Frag} {fd : FuncData} {ps : List Str} (h : ∀ us : List Value, us.length = ps.length → bindArgs fd ⟨us, []⟩ = pure (ps.zip us)) : Binds K fd ps [] := fun s us _ hl => by
  rw [List.append_nil] at hl ⊢
  exact .of_eq (h us hl)

def Passes (CX : CXT) (X : Cx) (E : XK) : Prop := ∀ (pins : List (Addr × Obj)) (σ : St) (H : Hp) (s : Shared) (e : Value) (s' : Shared), Inv X pins σ H s → CX X.stack H s E e s' → X.xe e s'

section
variable {X : Cx} {CX : CXT} {k : Nat} {f C : Addr} {fd : FuncData} {ps : List Str} {sp : Sp} {dvs : List V} {ds : List Value} {E : XK} {x m : Str} {p pos apos : Pos} {e o : Expr} {es : List Expr} {ta : TE} {t : TA}

theorem run_fn {pins : List (Addr × Obj)} {σ : St} {H : Hp} {s : Shared} {Q : VK} {us : List Value} {vs : List V} (F : FnOk X.prog X.w X.K X.mg X.base CX k f fd ps sp) (hr : Room k X.A) (hb : Binds X.K fd ps ds) (hd : Vals dvs ds) (hx : Passes CX X E)
    (I : Inv X pins σ H s) (r : Vals vs us) (h : sp (vs ++ dvs) H Q E) : wpAny (model X.prog X.w) X.A (call (.ref f) us) (EP X pins σ Q) X.xe s := by
  have r2 : Vals (vs ++ dvs) (us ++ ds) := r.append hd
  have hl : (us ++ ds).length = ps.length := by rw [← r2.length]; exact F.len _ _ _ _ h
  refine wpAny_call (codeAny_mono (F.run X.A X.stack s H ⟨us, []⟩ (us ++ ds) (vs ++ dvs) Q E hr I.env0 (hb s us I.kIn hl) r2 h) fun r s' hq => ?_)
  cases r with
  | error e => exact hx pins σ H s e s' I hq
  | ok fl =>
    cases fl with
    | ret u => exact I.after hq
    | next => exact False.elim hq
    | brk => exact False.elim hq
    | cont => exact False.elim hq

theorem pe_call (F : FnOk X.prog X.w X.K X.mg X.base CX k f fd ps sp) (hr : Room k X.A) (hg : Gl X x) (hm : X.mg x = some (.ref f)) (hk : PySem.W.keepIn X.K (.ref f) = true) (hb : Binds X.K fd ps ds) (hd : Vals dvs ds) (hx : Passes CX X E)
    (ha : PA X (e :: es) t) (hdb : (x == ("__debug__" : Str)) = false := by decide) (he : starEach (e :: es) X.env = (false, eval e X.env) :: starEach es X.env := by rfl) (hpl : (backTo pos (starEach es X.env)).any (·.1) = false := by rfl) :
    PE X (.Call (.Name x p) (e :: es) [] pos) (tCall sp dvs E t) := by
  intro pins s σ H Q I h
  refine wpAny_Call_Name_kw (ld_glob I hg hm ?_ hdb)
  refine PySem.W.callWith_K (h₀ := X.base) I.ok.mod.kin hk (thn (ha pos pins s σ H _ I h) fun us s1 ⟨vs, H1, I1, r, q⟩ => ⟨I1.kIn, ?_⟩) he hpl
  exact run_fn F hr hb hd hx I1 r q
theorem pe_meth {pl : Sem Bool} (he : PE X o ta) (c : Cls X.K C) (hm : Meth X.K C m f) (F : FnOk X.prog X.w X.K X.mg X.base CX k f fd ps sp) (hr : Room k X.A) (hb : Binds X.K fd ps ds) (hd : Vals dvs ds) (hx : Passes CX X E) (ha : PA X (e :: es) t)
    (hst : starEach (e :: es) X.env = (false, eval e X.env) :: starEach es X.env := by rfl) (hpl : (backTo pos (starEach es X.env)).any (·.1) = false := by rfl)
    (ht : eval (.Call (.Attribute o m apos) (e :: es) [] pos) X.env = (do
      let ov ← eval o X.env
      standAt apos.atName
      let (f, first) ← holding [ov] (getMethod ov m pl)
      callWith pos f first (backTo pos (starEach (e :: es) X.env)) (backToKw pos (keywordEach [] X.env))) := by rfl) :
    PE X (.Call (.Attribute o m apos) (e :: es) [] pos) (tMeth C m sp dvs E ta t) := by
  intro pins s σ H Q I h
  refine PySem.W.methodCall_KW (pl := pl) (thn (he pins s σ H _ I h) fun u s1 ⟨x, H1, I1, rx, a, dx, fs, ex, ea, l, q⟩ => ?_) ht
  subst ex
  obtain rfl : u = Value.ref a := rx
  refine getmeth_ok I1 ea c hm l ?_
  refine PySem.W.callWith_K (first := [.ref a]) (h₀ := X.base) I.ok.mod.kin hm.kp (thn (ha pos pins s1 σ H1 _ I1 q) fun us s2 ⟨vs, H2, I2, r, q2⟩ => ⟨I2.kIn, ?_⟩) hst hpl
  exact run_fn (us := .ref a :: us) (vs := .ref a :: vs) F hr hb hd hx I2 (.cons rfl r) q2
structure Mk (K : PySem.W.Frag) (C f : Addr) : Prop where
  makes : PySem.W.makesIn K C = true
  init : PySem.W.findIn K (.ref C) "__init__" = some (some (.ref f))
  fn : PySem.W.isFn K (.ref f) = true
  kp : PySem.W.keepIn K (.ref C) = true

theorem run_make {pins : List (Addr × Obj)} {σ : St} {H : Hp} {s : Shared} {Q : VK} {us : List Value} {vs : List V} (M : Mk X.K C f) (F : FnOk X.prog X.w X.K X.mg X.base CX k f fd ps sp) (hr : Room (k + 1) X.A) (hb : Binds X.K fd ps ds) (hd : Vals dvs ds)
    (hx : Passes CX X E) (I : Inv X pins σ H s) (r : Vals vs us)
    (h : ∀ x dx, H x = none → H dx = none → dx ≠ x → sp (.ref x :: (vs ++ dvs)) (upd (upd H dx (.own x)) x (.ins C dx [])) (fun v H2 => v = .non ∧ Q (.ref x) H2) E) :
    wpAny (model X.prog X.w) X.A (call (.ref C) us) (EP X pins σ Q) X.xe s := by
  have hq := h (s.heap.objs.size + 1) s.heap.objs.size (I.hok.fresh (Nat.le_succ _)) (I.hok.fresh (Nat.le_refl _)) (Nat.ne_of_lt (Nat.lt_succ_self _))
  have I2 := Inv.made (C := C) I
  have r2 : Vals (V.ref (s.heap.objs.size + 1) :: (vs ++ dvs)) (Value.ref (s.heap.objs.size + 1) :: (us ++ ds)) := .cons rfl (r.append hd)
  have hl : (Value.ref (s.heap.objs.size + 1) :: us ++ ds).length = ps.length := by
    have e := r2.length
    rw [F.len _ _ _ _ hq] at e
    exact e.symm
  refine wpAny_call (make_map (f := f) I.kIn M.makes M.init (beq_iff_eq.mp M.fn) (codeAny_mono (F.run _ X.stack _ _ ⟨Value.ref (s.heap.objs.size + 1) :: us, []⟩ (Value.ref (s.heap.objs.size + 1) :: (us ++ ds)) _ _ E (hr.make C us [])
    (I2.env0.make C us []) (hb _ (Value.ref (s.heap.objs.size + 1) :: us) I2.kIn hl) r2 hq) fun r s' hq' => ?_))
  cases r with
  | error e => exact hx pins σ _ _ e s' I2 hq'
  | ok fl =>
    cases fl with
    | ret u =>
      obtain ⟨v, H', I3, rv, ev, q3⟩ := I2.after hq'
      subst ev
      exact ⟨rv, ⟨V.ref (s.heap.objs.size + 1), H', I3, rfl, q3⟩⟩
    | next => exact False.elim hq'
    | brk => exact False.elim hq'
    | cont => exact False.elim hq'
theorem pe_make (M : Mk X.K C f) (F : FnOk X.prog X.w X.K X.mg X.base CX k f fd ps sp) (hr : Room (k + 1) X.A) (hg : Gl X x) (hm : X.mg x = some (.ref C)) (hb : Binds X.K fd ps ds) (hd : Vals dvs ds) (hx : Passes CX X E)
    (ha : PA X (e :: es) t) (hdb : (x == ("__debug__" : Str)) = false := by decide) (he : starEach (e :: es) X.env = (false, eval e X.env) :: starEach es X.env := by rfl) (hpl : (backTo pos (starEach es X.env)).any (·.1) = false := by rfl) :
    PE X (.Call (.Name x p) (e :: es) [] pos) (tMake C sp dvs E t) := by
  intro pins s σ H Q I h
  refine wpAny_Call_Name_kw (ld_glob I hg hm ?_ hdb)
  refine PySem.W.callWith_K (h₀ := X.base) I.ok.mod.kin M.kp (thn (ha pos pins s σ H _ I h) fun us s1 ⟨vs, H1, I1, r, q⟩ => ⟨I1.kIn, ?_⟩) he hpl
  exact run_make M F hr hb hd hx I1 r q
end

def PK (X : Cx) (kws : List Keyword) (t : TA) : Prop :=
  ∀ (pos : Pos) (pins : List (Addr × Obj)) (s : Shared) (σ : St) (H : Hp) (Q : List V → Hp → Prop), Inv X pins σ H s → t σ H Q → wpAny (model X.prog X.w) X.A (evalAll ((backToKw pos (keywordEach kws X.env)).map (·.2))) (AP X pins σ Q) X.xe s
section
variable {X : Cx} {CX : CXT} {k : Nat} {f C : Addr} {fd : FuncData} {ps ks : List Str} {sp : Sp} {E : XK} {x m : Str} {p pos apos kpos : Pos} {e o : Expr} {es : List Expr} {kws : List Keyword} {te ta : TE} {t tk : TA} {nm : Option Str}
structure KBinds (K : PySem.W.Frag) (fd : FuncData) (ps ks : List Str) (g : List Value → List Value → List Value) (gV : List V → List V → List V) : Prop where
  to : ∀ (s : Shared) (us ws : List Value), K.In s.heap → (g us ws).length = ps.length → BindsTo s fd ⟨us, ks.zip ws⟩ (ps.zip (g us ws))
  rel : ∀ {vs : List V} {us : List Value} {zs : List V} {ws : List Value}, Vals vs us → Vals zs ws → Vals (gV vs zs) (g us ws)
variable {g : List Value → List Value → List Value} {gV : List V → List V → List V}
end

structure FnScope (N P : List Str) (sc : Scope) : Prop where
  kind : sc.kind = .function
  co : sc.isCoroutine = false
  gen : sc.isGenerator = false
  nd : N.Nodup
  pre : N.take P.length = P
  par : ∀ x ∈ P, sc.names.lookup x = some .local ∨ sc.names.lookup x = some .cell
  nofree : ∀ y ∈ sc.names, y.2 ≠ .free

theorem bindL_out {kindOf : Str → Option NameKind} {x : Str} : ∀ {binds : List (Str × Value)} {m : Str → Option Value}, (∀ v, (x, v) ∉ binds) → bindL kindOf binds m x = m x
  | [], _, _ => rfl
  | (n, v) :: r, m, h => by
    unfold bindL
    rw [bindL_out fun w hw => h w (List.mem_cons_of_mem _ hw)]
    split
    · have : x ≠ n := by rintro rfl; exact h v List.mem_cons_self
      simp [this]
    · rfl
theorem bindC_out {kindOf : Str → Option NameKind} {x : Str} : ∀ {binds : List (Str × Value)} {m : Str → Option Value}, (∀ v, (x, v) ∉ binds) → bindC kindOf binds m x = m x
  | [], _, _ => rfl
  | (n, v) :: r, m, h => by
    unfold bindC
    rw [bindC_out fun w hw => h w (List.mem_cons_of_mem _ hw)]
    split
    · rfl
    · have : x ≠ n := by rintro rfl; exact h v List.mem_cons_self
      simp [this]
theorem bindL_get {kindOf : Str → Option NameKind} {x : Str} {v : Value} : ∀ {P : List Str} {vs : List Value} {i : Nat} {m : Str → Option Value}, P.Nodup → P[i]? = some x → vs[i]? = some v → kindOf x = some .local →
    bindL kindOf (P.zip vs) m x = some v
  | [], _, _, _, _, h, _, _ => by simp at h
  | _ :: _, [], _, _, _, _, h, _ => by simp at h
  | p :: P, w :: vs, 0, m, nd, h1, h2, hk => by
    simp at h1 h2; subst h1; subst h2
    show bindL kindOf ((p, w) :: P.zip vs) m p = _
    unfold bindL
    rw [bindL_out fun v hv => (List.nodup_cons.mp nd).1 (List.of_mem_zip hv).1, if_pos hk]
    simp
  | p :: P, w :: vs, i + 1, m, nd, h1, h2, hk => by
    show bindL kindOf ((p, w) :: P.zip vs) m x = _
    unfold bindL
    exact bindL_get (i := i) (List.nodup_cons.mp nd).2 (by simpa using h1) (by simpa using h2) hk
theorem bindC_get {kindOf : Str → Option NameKind} {x : Str} {v : Value} : ∀ {P : List Str} {vs : List Value} {i : Nat} {m : Str → Option Value}, P.Nodup → P[i]? = some x → vs[i]? = some v → kindOf x ≠ some .local →
    bindC kindOf (P.zip vs) m x = some v
  | [], _, _, _, _, h, _, _ => by simp at h
  | _ :: _, [], _, _, _, _, h, _ => by simp at h
  | p :: P, w :: vs, 0, m, nd, h1, h2, hk => by
    simp at h1 h2; subst h1; subst h2
    show bindC kindOf ((p, w) :: P.zip vs) m p = _
    unfold bindC
    rw [bindC_out fun v hv => (List.nodup_cons.mp nd).1 (List.of_mem_zip hv).1, if_neg hk]
    simp
  | p :: P, w :: vs, i + 1, m, nd, h1, h2, hk => by
    show bindC kindOf ((p, w) :: P.zip vs) m x = _
    unfold bindC
    exact bindC_get (i := i) (List.nodup_cons.mp nd).2 (by simpa using h1) (by simpa using h2) hk

def start (N : List Str) (vs : List V) : St := vs.map some ++ List.replicate (N.length - vs.length) none

def cxOf (CX : CXT) (P : Program) (w : World) (K : PySem.W.Frag) (mg : Str → Option Value) (base : Heap) (N : List Str) (qual : Str) (scope : Scope) (f : Addr) (cd : Value) (A : Around) (outer : List Env) (s : Shared) (H : Hp) (E : XK) : Cx where
  prog := P
  w := w
  K := K
  mg := mg
  base := base
  A := A.deeper (envOfC qual scope s.heap.objs.size f cd)
  N := N
  s₀ := s
  H₀ := H
  env := envOfC qual scope s.heap.objs.size f cd
  outer := outer
  stack := envOfC qual scope s.heap.objs.size f cd :: outer
  ex := []
  calm := true
  fn := fun _ => true
  pn := []
  xe := fun e s' => wpAny (model P w) (A.deeper (envOfC qual scope s.heap.objs.size f cd)) (leaving (envOfC qual scope s.heap.objs.size f cd) e) (fun _ s'' => CX outer H s E e s'') (fun e' s'' => CX outer H s E e' s'') s'

theorem cell_has {sc : Scope} {n : Nat} {x : Str} (h : sc.names.lookup x = some .cell) : ∃ c, (cellsFrom n sc.names []).lookup x = some c := by
  have q := PySem.W.cellsFrom_some sc.names n [] (.inl h)
  exact Option.isSome_iff_exists.mp q

theorem inv_start {CX : CXT} {P : Program} {w : World} {K : PySem.W.Frag} {mg : Str → Option Value} {base : Heap} {N ps : List Str} {qual : Str} {scope : Scope} {f : Addr} {cd : Value} {A : Around} {outer : List Env} {s s1 : Shared} {H : Hp} {E : XK} {us : List Value} {vs : List V}
    (S : FnScope N ps scope) (hd : A.handled = none) (e0 : Env0 P w K mg base A outer s H) (hl : vs.length = ps.length) (r : Vals vs us)
    (x : InCallC s s.heap.objs.size (bindL (envOfC qual scope s.heap.objs.size f cd).kindOf (ps.zip us) fun _ => none) (cellsFrom (s.heap.objs.size + 1) scope.names []) (bindC (envOfC qual scope s.heap.objs.size f cd).kindOf (ps.zip us) fun _ => none) s1) :
    Inv (cxOf CX P w K mg base N qual scope f cd A outer s H E) [] (start N vs) H s1 := by
  have hpl : ps.length ≤ N.length := by have := congrArg List.length S.pre; rw [List.length_take] at this; omega
  obtain ⟨h1, tk, rfl, hk⟩ := x.done
  have noA : ∀ b : Addr, b ∉ (cxOf CX P w K mg base N qual scope f cd A outer s H E).ex := fun b z => absurd (show b ∈ ([] : List Addr) from z) (by simp)
  refine ⟨⟨e0.mod, S.kind, rfl, rfl, Nat.le_refl _, fun y z c h1 h2 => ?_, fun y hy => ?_, fun y c _ h => ?_, fun _ => hd, Around.frames_deeper e0.frames, .inr ⟨rfl, rfl⟩, fun b z => absurd z (noA b), e0.bs, e0.bsz, fun b _ _ => noA b, fun b z => absurd z (noA b), e0.funs, e0.frf⟩,
    rfl, e0.bare, Un.kept hk, ⟨_, x.toInCall.ns, fun i y v h1 h2 h3 => ?_⟩, fun y c h => ⟨_, x.cell y c h⟩, e0.hok.fresh (Nat.le_refl _), fun y c h => ?_, fun p hp => absurd (show p ∈ ([] : List (Addr × Obj)) from hp) (by simp), e0.hok.kept hk, ?_⟩
  · exact name_of_addr x.apart (PySem.mem_of_lookup h1) (PySem.mem_of_lookup h2)
  · have hy : scope.names.lookup y = some .cell ∨ scope.names.lookup y = some .free := hy
    rcases hy with hy | hy
    · exact cell_has hy
    · exact absurd rfl (S.nofree _ (PySem.mem_of_lookup hy))
  · exact Nat.le_of_lt (x.above y c (PySem.mem_of_lookup h))
  · have hi : i < vs.length := by
      unfold start at h2
      by_cases hi : i < vs.length
      · exact hi
      · rw [List.getElem?_append_right (by simpa using hi)] at h2
        rw [List.getElem?_replicate] at h2
        split at h2 <;> cases h2
    have ha : vs[i]? = some v := by
      unfold start at h2
      rw [List.getElem?_append_left (by simpa using hi), List.getElem?_map] at h2
      cases e : vs[i]? with
      | none => rw [e] at h2; cases h2
      | some a => rw [e] at h2; cases h2; rfl
    obtain ⟨u, hu, rv⟩ := r.get ha
    have hp : ps[i]? = some y := by
      rw [← S.pre, List.getElem?_take_of_lt (by omega)]; exact h1
    have ndP : ps.Nodup := by rw [← S.pre]; exact S.nd.sublist (List.take_sublist _ _)
    refine ⟨u, rv, ?_⟩
    rcases S.par y (List.mem_of_getElem? hp) with k | k
    · exact .inl ⟨k, bindL_get ndP hp hu k⟩
    · obtain ⟨c, e⟩ := cell_has (n := s.heap.objs.size + 1) k
      refine .inr ⟨.inl k, c, e, ?_⟩
      have q := x.cell y c e
      rw [bindC_get ndP hp hu (by show scope.names.lookup y ≠ _; rw [k]; decide)] at q
      exact q
  · exact e0.hok.fresh (Nat.le_of_lt (x.above y c (PySem.mem_of_lookup h)))
  · unfold start
    show _ = N.length
    rw [List.length_append, List.length_map, List.length_replicate]
    omega

theorem fn_of {CX : CXT} {P : Program} {w : World} {K : PySem.W.Frag} {mg : Str → Option Value} {base : Heap} {k : Nat} {f : Addr} {name qual : Str} {params : Arguments} {body : List Stmt} {scope : Scope} {dV kV doc pm cdv ct oc : Value} {an od : Option Addr}
    {osl : Array (Option Value)} {N ps : List Str} {sp : Sp} (lk : K.lookup f = some ⟨oc, od, .func (PySem.W.fnOf name qual params body scope dV kV doc pm an cdv ct), osl⟩) (hcd : PySem.W.codeIn K cdv qual = true) (S : FnScope N ps scope)
    (len : ∀ vs H Q E, sp vs H Q E → vs.length = ps.length)
    (hbody : ∀ (A : Around) (outer : List Env) (s : Shared) (H : Hp) (vs : List V) (Q : VK) (E : XK), Room k (A.deeper (envOfC qual scope s.heap.objs.size f cdv)) → sp vs H Q E →
      ∃ t, PSs (cxOf CX P w K mg base N qual scope f cdv A outer s H E) body t ∧ t { nx := fun _ H' => Q .non H', rt := Q } (start N vs) H) :
    FnOk P w K mg base CX (k + 1) f (PySem.W.fnOf name qual params body scope dV kV doc pm an cdv ct) ps sp := by
  refine ⟨len, fun A outer s H args us vs Q E hr e0 hb r hsp => ?_⟩
  have hl := len _ _ _ _ hsp
  have KX : K.In s.heap := e0.mod.kin.keeps fun b o e => (e0.bs b o e).1
  have lim : s.heap.NoLimit := e0.mod.nolimit.keeps fun b o e => (e0.bs b o e).1
  have hkind : ∀ y ∈ ps.zip us, scope.names.lookup y.1 = some .local ∨ (scope.names.lookup y.1 = some .cell ∧ ((cellsFrom (s.heap.objs.size + 1) scope.names []).lookup y.1).isSome = true) := fun ⟨n, v⟩ hy => by
    rcases S.par n (List.of_mem_zip hy).1 with q | q
    · exact .inl q
    · exact .inr ⟨q, PySem.W.cellsFrom_some _ _ _ (.inl q)⟩
  refine codeAny_call_function hr.depth (KX _ _ lk) rfl S.co S.gen rfl (PySem.W.codeRec_of KX hcd) (hb _ _ _ _ ?_)
  refine wpAny_newFunctionEnv_cells S.kind hkind fun env he s1 x => ?_
  subst he
  refine ⟨lim.keeps x.toInCall.keep, codeAny_func ?_⟩
  obtain ⟨t, ht, hq⟩ := hbody A outer s H vs Q E (hr.deeper _) hsp
  have I : Inv (cxOf CX P w K mg base N qual scope f cdv A outer s H E) [] (start N vs) H s1 := inv_start S hr.hd e0 hl r x
  refine wpAny_mono (ht [] s1 (start N vs) H _ I hq) (fun fl s' hs => ?_) fun e s' hs => hs
  have fin : ∀ {σ' : St} {H' : Hp} {v : V} {u : Value}, Inv (cxOf CX P w K mg base N qual scope f cdv A outer s H E) [] σ' H' s' → RelV v u → Q v H' → CE outer P w H s Q u s' :=
    fun {σ' H' v u} J rv q => ⟨v, H', J.os, J.bare, J.base, J.hok, rv, q⟩
  cases fl with
  | ret u =>
    obtain ⟨v, σ', H', J, rv, q⟩ := hs
    exact fin J rv q
  | next =>
    obtain ⟨σ', H', J, q⟩ := hs
    exact fin (v := V.non) (u := Value.none) J rfl q
  | brk =>
    obtain ⟨_, _, _, q⟩ := hs
    exact False.elim q
  | cont =>
    obtain ⟨_, _, _, q⟩ := hs
    exact False.elim q
end L2

namespace L2
open PySem PySem.Spec PyProof.Rows
section
variable {X : Cx} {x : Str} {p pos : Pos} {e : Expr} {es : List Expr} {t : TA} {id T : String} {r : List V → Hp → VK → Prop}

def tCB (r : List V → Hp → VK → Prop) (t : TA) : TE := fun σ H Q => t σ H fun vs H1 => r vs H1 Q
theorem pe_callB (hc : CallR X (.builtin id) r) (hg : Gl X x) (hm : X.mg x = none) (hv : bootBuiltins x = some (.builtin id)) (ha : PA X (e :: es) t) (hn : x ≠ "__name__" := by decide) (hdb : (x == ("__debug__" : Str)) = false := by decide)
    (he : starEach (e :: es) X.env = (false, eval e X.env) :: starEach es X.env := by rfl) (hpl : (backTo pos (starEach es X.env)).any (·.1) = false := by rfl) : PE X (.Call (.Name x p) (e :: es) [] pos) (tCB r t) := by
  intro pins s σ H Q I h
  refine wpAny_Call_Name_kw (ld_blt I hg hm hv ?_ hn hdb)
  exact PyProof.Rows.callWith_builtin1 (thn (ha pos pins s σ H _ I h) fun us s1 ⟨vs, H1, I1, r1, q1⟩ => hc pins s1 σ H1 vs us Q I1 r1 q1) he hpl
theorem pe_callTy (hc : CallR X (.type T) r) (hg : Gl X x) (hm : X.mg x = none) (hv : bootBuiltins x = some (.type T)) (ha : PA X (e :: es) t) (hn : x ≠ "__name__" := by decide) (hdb : (x == ("__debug__" : Str)) = false := by decide)
    (he : starEach (e :: es) X.env = (false, eval e X.env) :: starEach es X.env := by rfl) (hpl : (backTo pos (starEach es X.env)).any (·.1) = false := by rfl) : PE X (.Call (.Name x p) (e :: es) [] pos) (tCB r t) := by
  intro pins s σ H Q I h
  refine wpAny_Call_Name_kw (ld_blt I hg hm hv ?_ hn hdb)
  exact PyProof.Rows.callWith_type1 (thn (ha pos pins s σ H _ I h) fun us s1 ⟨vs, H1, I1, r1, q1⟩ => hc pins s1 σ H1 vs us Q I1 r1 q1) he hpl
end
end L2

namespace HT
open PySem PyProof.Rows

section
open PySem.SeqAt
open PySem.AutoSeq1 (wpAny_loadPart')
open PySem.MeetsSeq PySem.MeetsSeq2 PySem.MeetsSeq3

end

section
variable {prog : Program} {w : World} {A : Around} {E : Value → Shared → Prop} {s : Shared}

def sIx (n d : Nat) : Option Int → Nat
  | none => d
  | some v => if v < 0 then (v + (n : Int)).toNat else min v.toNat n
theorem sIx_none (n d : Nat) : sIx n d none = d := rfl
theorem sIx_nat (n d k : Nat) : sIx n d (some (k : Int)) = min k n := by
  show (if (k : Int) < 0 then ((k : Int) + (n : Int)).toNat else min (k : Int).toNat n) = min k n
  rw [if_neg (by omega), Int.toNat_natCast]
end
end HT

namespace L2
open PySem PySem.Spec PyProof.Rows

abbrev TO := St → Hp → (Option Int → Hp → Prop) → Prop
def PO (X : Cx) (e : Option Expr) (t : TO) : Prop :=
  ∀ (pins : List (Addr × Obj)) (s : Shared) (σ : St) (H : Hp) (Q : Option Int → Hp → Prop), Inv X pins σ H s → t σ H Q →
    wpAny (model X.prog X.w) X.A (evalPart e X.env) (fun u s' => ∃ o H', Inv X pins σ H' s' ∧ IsPart u o ∧ Q o H') X.xe s
def tNoPart : TO := fun _ H Q => Q none H
def tPart (t : TE) : TO := fun σ H Q => t σ H fun x H1 => ∃ i, x = .int i ∧ Q (some i) H1

theorem intsAre_of {ns : List Int} : ∀ {us : List Value}, Vals (ns.map V.int) us → IntsAre us ns := by
  induction ns with
  | nil => intro us r; rw [List.map_nil] at r; cases r; exact .nil
  | cons n ns ih =>
    intro us r
    rw [List.map_cons] at r
    cases r with
    | cons r1 r2 =>
      obtain ⟨t, e⟩ := r1
      subst e
      exact .cons n t (ih r2)

section
variable {X : Cx} {e : Expr} {te : TE} {lo hi : Option Expr} {tl th : TO} {pos p2 : Pos}

theorem po_none : PO X none tNoPart := by
  intro pins s σ H Q I h
  rw [evalPart_none]
  exact wpAny_pure ⟨none, H, I, .none, h⟩
theorem po_some (h : PE X e te) : PO X (some e) (tPart te) := by
  intro pins s σ H Q I hw
  rw [evalPart_some]
  refine thn (h pins s σ H _ I hw) fun u s1 ⟨x, H1, I1, r1, q1⟩ => ?_
  obtain ⟨i, rfl, q⟩ := q1
  obtain ⟨t, rfl⟩ := r1
  exact ⟨some i, H1, I1, .int i t, q⟩

def SlR (X : Cx) (r : V → Option Int → Option Int → Hp → VK → Prop) : Prop :=
  ∀ (pins : List (Addr × Obj)) (s : Shared) (σ : St) (H : Hp) (x : V) (v vl vu : Value) (lo hi : Option Int) (sl : Addr) (Q : VK), Inv X pins σ H s → RelV x v → s.heap.IsSliceOf sl vl vu .none → IsPart vl lo → IsPart vu hi → r x lo hi H Q →
    ∃ T id, typeLookup (.type T) "__getitem__" = pure (some (.builtin id)) ∧ s.TypeIs v T ∧ wpAny (model X.prog X.w) X.A (getItem v (.ref sl)) (EP X pins σ Q) X.xe s
theorem SlR.or {r r' : V → Option Int → Option Int → Hp → VK → Prop} (h : SlR X r) (h' : SlR X r') : SlR X (fun x lo hi H Q => r x lo hi H Q ∨ r' x lo hi H Q) := by
  intro pins s σ H x v vl vu lo hi sl Q I rx hs pl pu q
  rcases q with q | q
  · exact h pins s σ H x v vl vu lo hi sl Q I rx hs pl pu q
  · exact h' pins s σ H x v vl vu lo hi sl Q I rx hs pl pu q
def tSl (r : V → Option Int → Option Int → Hp → VK → Prop) (te : TE) (tl th : TO) : TE := fun σ H Q => te σ H fun x H1 => tl σ H1 fun l H2 => th σ H2 fun u H3 => r x l u H3 Q
theorem pe_slice {r : V → Option Int → Option Int → Hp → VK → Prop} (hr : SlR X r) (he : PE X e te) (hl : PO X lo tl) (hu : PO X hi th) : PE X (.Subscript e (.Slice lo hi none p2) pos) (tSl r te tl th) := by
  intro pins s σ H Q I h
  refine Subscript_ (thn (he pins s σ H _ I h) fun v s1 ⟨x, H1, I1, r1, q1⟩ => ?_)
  refine wpAny_Slice (thn (hl pins s1 σ H1 _ I1 q1) fun vl s2 ⟨l, H2, I2, pl, q2⟩ => thn (hu pins s2 σ H2 _ I2 q2) fun vu s3 ⟨u, H3, I3, pu, q3⟩ => ?_)
  rw [evalPart_none]
  refine wpAny_pure ?_
  have I4 : Inv X pins σ H3 { s3 with heap := s3.heap.push { cls := .type "slice", data := .fields #[vl, vu, .none] } } := I3.kept (t' := s3.toks) fun b ob q => Heap.get?_push_of_some _ q
  obtain ⟨T, id, hT, ht, hg⟩ := hr pins { s3 with heap := s3.heap.push { cls := .type "slice", data := .fields #[vl, vu, .none] } } σ H3 x v vl vu l u s3.heap.objs.size Q I4 r1 (Heap.IsSliceOf.new ..) pl pu q3
  show wpAny (model X.prog X.w) X.A (subscriptTail e (.Slice lo hi none p2) v (.ref s3.heap.objs.size)) (EP X pins σ Q) X.xe { s3 with heap := s3.heap.push { cls := .type "slice", data := .fields #[vl, vu, .none] } }
  exact tail_any (ops := [.ref s3.heap.objs.size, v]) ht hT hg (by with_unfolding_all rfl)

def cutV (xs : List V) (lo hi : Option Int) : List V := (xs.drop (HT.sIx xs.length 0 lo)).take (HT.sIx xs.length xs.length hi - HT.sIx xs.length 0 lo)
theorem cutV_length (xs : List V) (lo hi : Option Int) : (cutV xs lo hi).length ≤ xs.length := by
  unfold cutV
  rw [List.length_take, List.length_drop]
  omega
end
end L2

namespace L2
open PySem PySem.Spec PyProof.Rows

def ixN (n : Nat) (i : Int) : Option Nat := if 0 ≤ i then (if i < n then some i.toNat else none) else if -(n : Int) ≤ i then some (i + n).toNat else none
def atI {α : Type} (xs : List α) (i : Int) : Option α := (ixN xs.length i).bind fun j => xs[j]?
theorem ixN_seq {n : Nat} {i : Int} {j : Nat} (h : ixN n i = some j) : seqIndex? i n = some j ∧ j < n ∧ -(n : Int) ≤ i ∧ i < n := by
  unfold ixN at h
  by_cases h0 : 0 ≤ i
  · rw [if_pos h0] at h
    by_cases h1 : i < n
    · rw [if_pos h1] at h
      have e : i.toNat = j := Option.some.inj h
      exact ⟨by rw [seqIndex_of h0 h1, e], by omega, by omega, h1⟩
    · rw [if_neg h1] at h; cases h
  · rw [if_neg h0] at h
    by_cases h1 : -(n : Int) ≤ i
    · rw [if_pos h1] at h
      have e : (i + n).toNat = j := Option.some.inj h
      exact ⟨by rw [seqIndex_neg (by omega) h1, e], by omega, h1, by omega⟩
    · rw [if_neg h1] at h; cases h
theorem atI_get {α : Type} {xs : List α} {i : Int} {v : α} (h : atI xs i = some v) : ∃ j, seqIndex? i xs.length = some j ∧ xs[j]? = some v ∧ j < xs.length ∧ -(xs.length : Int) ≤ i ∧ i < xs.length := by
  unfold atI at h
  cases e : ixN xs.length i with
  | none => rw [e] at h; cases h
  | some j =>
    rw [e] at h
    obtain ⟨h1, h2, h3, h4⟩ := ixN_seq e
    exact ⟨j, h1, h, h2, h3, h4⟩
theorem atI_nat {α : Type} {xs : List α} {j : Nat} {v : α} (h : xs[j]? = some v) : atI xs (j : Int) = some v := by
  have hj : j < xs.length := (List.getElem?_eq_some_iff.mp h).1
  have e : ixN xs.length (j : Int) = some j := by
    unfold ixN
    rw [if_pos (by omega), if_pos (by omega)]; simp
  unfold atI; rw [e]; exact h
theorem atI_last {α : Type} (xs : List α) (v : α) : atI (xs ++ [v]) (-1) = some v := by
  have hl : (xs ++ [v]).length = xs.length + 1 := by simp
  have e : ixN (xs ++ [v]).length (-1) = some xs.length := by
    unfold ixN
    rw [hl, if_neg (by decide), if_pos (by omega)]
    congr 1
    omega
  unfold atI
  rw [e]
  show (xs ++ [v])[xs.length]? = some v
  simp

def PlainIx (b : Expr) : Prop := ∀ o i, subscripted b false o i = operate [o, i] (getItem o i)
def IxR (X : Cx) (r : R2) : Prop :=
  ∀ (value slice : Expr) (pins : List (Addr × Obj)) (s : Shared) (σ : St) (H : Hp) (x y : V) (v u : Value) (Q : VK), Inv X pins σ H s → RelV x v → RelV y u → r x y H Q →
    subscripted slice false v u = operate [v, u] (getItem v u) → wpAny (model X.prog X.w) X.A (subscriptTail value slice v u) (EP X pins σ Q) X.xe s
def MtR (X : Cx) (id : String) (r : V → List V → Hp → VK → Prop) : Prop :=
  ∀ (pins : List (Addr × Obj)) (s : Shared) (σ : St) (H : Hp) (x : V) (xs : List V) (v : Value) (us : List Value) (Q : VK), Inv X pins σ H s → RelV x v → Vals xs us → r x xs H Q →
    wpAny (model X.prog X.w) X.A (call (.builtin id) (v :: us)) (EP X pins σ Q) X.xe s
section
variable {X : Cx} {a b : Expr} {ta tb : TE} {pos : Pos}
theorem IxR.or {r r' : R2} (h : IxR X r) (h' : IxR X r') : IxR X (fun x y H Q => r x y H Q ∨ r' x y H Q) := by
  intro value slice pins s σ H x y v u Q I rx ry q hs
  rcases q with q | q
  · exact h value slice pins s σ H x y v u Q I rx ry q hs
  · exact h' value slice pins s σ H x y v u Q I rx ry q hs
theorem MtR.or {id : String} {r r' : V → List V → Hp → VK → Prop} (h : MtR X id r) (h' : MtR X id r') : MtR X id (fun x xs H Q => r x xs H Q ∨ r' x xs H Q) := by
  intro pins s σ H x xs v us Q I rx rs q
  rcases q with q | q
  · exact h pins s σ H x xs v us Q I rx rs q
  · exact h' pins s σ H x xs v us Q I rx rs q
theorem pe_ix {r : R2} (hr : IxR X r) (ha : PE X a ta) (hb : PE X b tb) (hs : PlainIx b) : PE X (.Subscript a b pos) (tOp r ta tb) := by
  intro pins s σ H Q I h
  exact Subscript_ (binT ha hb I h fun v u s2 x y H2 I2 rx ry q => hr a b pins s2 σ H2 x y v u Q I2 rx ry q (hs _ _))

def rIxL (K : PySem.W.Frag) : R2 := fun x y H Q => ∃ p xs i v, x = .ref p ∧ y = .int i ∧ SqL K H p xs ∧ atI xs i = some v ∧ Q v H
def rIxT (K : PySem.W.Frag) : R2 := fun x y H Q => ∃ p xs i v, x = .ref p ∧ y = .int i ∧ SqT K H p xs ∧ atI xs i = some v ∧ Q v H
theorem ix_list : IxR X (rIxL X.K) := by
  intro value slice pins s σ H x y v u Q I rx ry h hs
  obtain ⟨p, xs, i, z, rfl, rfl, hq, he, q⟩ := h
  cases rx
  obtain ⟨t, rfl⟩ := ry
  obtain ⟨its, r, pl, hz⟩ := I.list hq
  obtain ⟨j, h1, h2, h3, h4, h5⟩ := atI_get he
  obtain ⟨w, ew, rw'⟩ := r.get h2
  have hl := r.length
  have hn := line63
  have fin : EP X pins σ Q w s := ⟨z, H, I, rw', q⟩
  by_cases h0 : 0 ≤ i
  · have hj : i.toNat = j := by
      rw [seqIndex_of h0 h5] at h1
      exact Option.some.inj h1
    exact item_listR pl.isList h0 (by omega) (by rw [hj]; simpa using ew) fin hs
  · have hj : (i + (its.toArray.size : Int)).toNat = j := by
      rw [seqIndex_neg (by omega) h4] at h1
      rw [List.size_toArray, ← hl]
      exact Option.some.inj h1
    exact subscriptTail_builtinR (x := w) pl.isList.typeIs slot_list_getitem.lookup
      (wpAny_getItem_list_neg (Q := fun r s' => r = w ∧ EP X pins σ Q r s') pl.isList (by omega) (by rw [List.size_toArray] <;> omega) (by omega) (by rw [hj]; simpa using ew) ⟨rfl, fin⟩) hs
theorem ix_tup : IxR X (rIxT X.K) := by
  intro value slice pins s σ H x y v u Q I rx ry h hs
  obtain ⟨p, xs, i, z, rfl, rfl, hq, he, q⟩ := h
  cases rx
  obtain ⟨t, rfl⟩ := ry
  obtain ⟨its, r, pl, hz⟩ := I.tuple hq
  obtain ⟨j, h1, h2, h3, h4, h5⟩ := atI_get he
  obtain ⟨w, ew, rw'⟩ := r.get h2
  have hl := r.length
  have hn := line63
  have fin : EP X pins σ Q w s := ⟨z, H, I, rw', q⟩
  exact subscriptTail_builtinR (x := w) pl.typeIs slot_tuple_getitem.lookup
    (getItem_tuple (j := j) (Q := fun r s' => r = w ∧ EP X pins σ Q r s') pl (by omega) (by omega) (by rw [List.size_toArray, ← hl]; exact h1) (by simpa using ew) ⟨rfl, fin⟩) hs
theorem Inv.lst {pins : List (Addr × Obj)} {σ : St} {H : Hp} {s : Shared} {p : Addr} {xs : List V} (I : Inv X pins σ H s) (h : H p = some (.lst xs)) :
    ∃ (its : List Value) (n : Nat), Vals xs its ∧ s.heap.get? p = some { cls := .type "list", data := .seq its.toArray n } ∧ xs.length ≤ sizeLine := by
  obtain ⟨z, its, n, r, e⟩ := I.hok p _ h
  exact ⟨its, n, r, e, z⟩
theorem slice_bounds (lo hi : Option Int) (n : Nat) : (sliceBounds lo hi none n).1 = ((HT.sIx n 0 lo : Nat) : Int) ∧ (sliceBounds lo hi none n).2.1 = ((HT.sIx n n hi : Nat) : Int) ∧ (sliceBounds lo hi none n).2.2 = 1 := by
  refine ⟨?_, ?_, rfl⟩
  · cases lo with
    | none => simp [sliceBounds, HT.sIx]
    | some i =>
      simp only [sliceBounds, HT.sIx, Option.getD_none, show (1 : Int) > 0 by decide, if_true]
      by_cases h : i < 0
      · simp only [h, if_true] <;> omega
      · simp only [h, if_false] <;> omega
  · cases hi with
    | none => simp [sliceBounds, HT.sIx]
    | some i =>
      simp only [sliceBounds, HT.sIx, Option.getD_none, show (1 : Int) > 0 by decide, if_true]
      by_cases h : i < 0
      · simp only [h, if_true] <;> omega
      · simp only [h, if_false] <;> omega
theorem slicePick_cut (its : List Value) (lo hi : Option Int) : slicePick its.toArray lo hi none = ((its.drop (HT.sIx its.length 0 lo)).take (HT.sIx its.length its.length hi - HT.sIx its.length 0 lo)).toArray := by
  obtain ⟨h1, h2, h3⟩ := slice_bounds lo hi its.toArray.size
  unfold slicePick
  rw [h1, h2, h3]
  simp only [sliceRange_one, pick_run, List.size_toArray] <;> rfl
def rSlL (K : PySem.W.Frag) : V → Option Int → Option Int → Hp → VK → Prop := fun x lo hi H Q => ∃ a xs, x = .ref a ∧ SqL K H a xs ∧ ∀ p, H p = none → Q (.ref p) (upd H p (.lst (cutV xs lo hi)))
theorem sl_list : SlR X (rSlL X.K) := by
  intro pins s σ H x v vl vu lo hi sl Q I rx hs pl pu h
  obtain ⟨a, xs, rfl, hx, q⟩ := h
  cases rx
  obtain ⟨its, r, ht, hz⟩ := I.list hx
  have hlen := r.length
  refine ⟨"list", _, slot_list_getitem.lookup, ht.isList.typeIs, ?_⟩
  refine wpAny_getItem_list_slice ht.isList hs pl pu .none (by simp) ?_ (by rw [List.size_toArray] <;> omega)
  rw [slicePick_cut, ← hlen]
  refine ⟨.ref s.heap.objs.size, _, I.laid (t' := s.toks) (o := .lst (cutV xs lo hi)) (fun b ob q => Heap.get?_push_of_some _ q) (Nat.le_refl _) ?_, rfl, q _ (I.hok.fresh (Nat.le_refl _))⟩
  exact ⟨Nat.le_trans (cutV_length xs lo hi) hz, _, 0, (r.drop (HT.sIx xs.length 0 lo)).take (HT.sIx xs.length xs.length hi - HT.sIx xs.length 0 lo), Heap.get?_push_size _ rfl⟩

def flatV : V → Bool
  | .non => true
  | .bl _ => true
  | .int _ => true
  | .str _ => true
  | _ => false
def eqV : V → V → Bool
  | .non, .non => true
  | .bl a, .bl b => a == b
  | .bl a, .int b => (if a then 1 else 0) == b
  | .int a, .bl b => a == (if b then 1 else 0)
  | .int a, .int b => a == b
  | .str a, .str b => a == b
  | _, _ => false
def inV (x : V) (xs : List V) : Bool := xs.any fun y => eqV y x
def rIn (K : PySem.W.Frag) (neg : Bool) : R2 := fun x y H Q => ∃ p xs, y = .ref p ∧ (SqL K H p xs ∨ SqT K H p xs) ∧ flatV x = true ∧ xs.all flatV = true ∧ Q (.bl (if neg then !inV x xs else inV x xs)) H
theorem call_len_seq : CallR X (.builtin "len") (fun xs H Q => ∃ p ys, xs = [.ref p] ∧ (SqL X.K H p ys ∨ SqT X.K H p ys) ∧ Q (.int ys.length) H) := by
  intro pins s σ H xs us Q I r h
  obtain ⟨p, ys, rfl, hq, q⟩ := h
  obtain ⟨u, rfl, rx⟩ := vals1 r
  cases rx
  have hn := line63
  rcases hq with hq | hq
  · obtain ⟨its, r', pl, hz⟩ := I.list hq
    have hlen := r'.length
    exact Calls.call_len_list pl.isList (by simp only [List.size_toArray] <;> omega) ⟨.int ys.length, H, I.tok _, ⟨s.toks + 1, by rw [List.size_toArray, hlen]⟩, q⟩
  · obtain ⟨its, r', pl, hz⟩ := I.tuple hq
    have hlen := r'.length
    exact len_tuple pl (by simp only [List.size_toArray] <;> omega) ⟨.int ys.length, H, I.tok _, ⟨s.toks + 1, by rw [List.size_toArray, hlen]⟩, q⟩
theorem CallR.or {f : Value} {r r' : List V → Hp → VK → Prop} (h : CallR X f r) (h' : CallR X f r') : CallR X f (fun xs H Q => r xs H Q ∨ r' xs H Q) := by
  intro pins s σ H xs us Q I rs q
  rcases q with q | q
  · exact h pins s σ H xs us Q I rs q
  · exact h' pins s σ H xs us Q I rs q
theorem call_list_of : CallR X (.type "list") (fun xs H Q => ∃ p ys, xs = [.ref p] ∧ (SqL X.K H p ys ∨ SqT X.K H p ys) ∧ ∀ l, H l = none → Q (.ref l) (upd H l (.lst ys))) := by
  intro pins s σ H xs us Q I r h
  obtain ⟨p, ys, rfl, hq, q⟩ := h
  obtain ⟨u, rfl, rx⟩ := vals1 r
  cases rx
  have fin : ∀ (its : List Value), Vals ys its → ys.length ≤ sizeLine → ∀ (h' : Heap) (c' : Nat), (∀ b o', s.heap.get? b = some o' → h'.get? b = some o') →
      h'.get? s.heap.objs.size = some { cls := .type "list", dict := none, data := .seq its.toArray c', slots := #[] } → EP X pins σ Q (.ref s.heap.objs.size) { s with heap := h' } := fun its r' hz h' c' kp e =>
    ⟨.ref s.heap.objs.size, _, I.laid (t' := s.toks) kp (Nat.le_refl _) (show ObjOk X.prog X.w _ h' _ (.lst ys) from ⟨hz, its, c', r', e⟩), rfl, q _ (I.hok.fresh (Nat.le_refl _))⟩
  rcases hq with hq | hq
  · obtain ⟨its, r', pl, hz⟩ := I.list hq
    have hlen := r'.length
    obtain ⟨o, ho, hc, n, hd⟩ := pl.isList
    exact call_list_seq p (.inl rfl) ho hc hd (fun h' c' kp e => fin its r' hz h' c' kp e) (by simp only [List.size_toArray] <;> omega)
  · obtain ⟨its, r', pl, hz⟩ := I.tuple hq
    have hlen := r'.length
    obtain ⟨o, ho, hc, n, hd⟩ := pl
    exact call_list_seq p (.inr rfl) ho hc hd (fun h' c' kp e => fin its r' hz h' c' kp e) (by simp only [List.size_toArray] <;> omega)
def tyV (K : PySem.W.Frag) (T : String) (x : V) (H : Hp) : Prop := match x with
  | .str _ => T = "str"
  | .int _ => T = "int"
  | .ref p => (T = "list" ∧ ∃ xs, SqL K H p xs) ∨ (T = "tuple" ∧ ∃ o, K.lookup p = some o ∧ o.cls = .type "tuple" ∧ o.dict = none) ∨
      (T = "dict" ∧ ((∃ kvs, H p = some (.dK kvs)) ∨ ∃ kvs, H p = some (.dT kvs))) ∨ (T = "set" ∧ ∃ S n, H p = some (.set S n))
  | _ => False
theorem tyV_is {pins : List (Addr × Obj)} {σ : St} {H : Hp} {s : Shared} {T : String} {x : V} {v : Value} (I : Inv X pins σ H s) (r : RelV x v) (ty : tyV X.K T x H) :
    s.TypeIs v T ∧ ∀ a, v = .ref a → ∃ ob, s.heap.get? a = some ob ∧ ob.dict = none := by
  cases x with
  | str z =>
    obtain ⟨t, rfl⟩ := r
    cases (show T = "str" from ty)
    exact ⟨typeIs_str s z t, fun _ e => nomatch e⟩
  | int i =>
    obtain ⟨t, rfl⟩ := r
    cases (show T = "int" from ty)
    exact ⟨typeIs_int s i t, fun _ e => nomatch e⟩
  | ref p =>
    cases r
    rcases ty with ⟨rfl, xs, hq⟩ | ⟨rfl, o, hk, hc, hd⟩ | ⟨rfl, hk⟩ | ⟨rfl, S, n, hk⟩
    · obtain ⟨its, _, pl, _⟩ := I.list hq
      refine ⟨pl.isList.typeIs, fun a e => ?_⟩
      cases e
      obtain ⟨o, n, e, c, hd, _⟩ := pl
      exact ⟨o, e, hd⟩
    · refine ⟨⟨o, I.kIn p o hk, hc⟩, fun a e => ?_⟩
      cases e
      exact ⟨o, I.kIn _ o hk, hd⟩
    · have z : ∃ o, s.heap.get? p = some o ∧ o.ExactDict := by
        rcases hk with ⟨kvs, hk⟩ | ⟨kvs, hk⟩
        · obtain ⟨_, _, _, _, o, _, _, e, ex, _⟩ := I.hok p _ hk
          exact ⟨o, e, ex⟩
        · obtain ⟨_, _, _, _, o, _, _, e, ex, _⟩ := I.hok p _ hk
          exact ⟨o, e, ex⟩
      obtain ⟨o, e, ex⟩ := z
      refine ⟨⟨o, e, ex.1⟩, fun a e2 => ?_⟩
      cases e2
      exact ⟨o, e, ex.2.1⟩
    · obtain ⟨o, _, _, _, e, ex, _⟩ := I.hok p _ hk
      refine ⟨⟨o, e, ex.1⟩, fun a e2 => ?_⟩
      cases e2
      exact ⟨o, e, ex.2.1⟩
  | _ => exact False.elim ty
def tBM0 (K : PySem.W.Frag) (T : String) (r : V → List V → Hp → VK → Prop) (to : TE) : TE := fun σ H Q => to σ H fun x H1 => tyV K T x H1 ∧ r x [] H1 Q
def tBM (K : PySem.W.Frag) (T : String) (r : V → List V → Hp → VK → Prop) (to : TE) (t : TA) : TE := fun σ H Q => to σ H fun x H1 => tyV K T x H1 ∧ t σ H1 fun xs H2 => r x xs H2 Q
variable {o e : Expr} {es : List Expr} {to : TE} {t : TA} {name : Str} {apos cpos : Pos} {T id : String} {r : V → List V → Hp → VK → Prop}
theorem pe_bm0 (pa : PlainAttrs T) (slot : Slot T name id) (hty : typeOf (.builtin id) = pure (.type "method_descriptor")) (hm : MtR X id r) (ho : PE X o to)
    (hbase : attributeBase o name X.env (eval o X.env) = eval o X.env := by rfl) (hline : (apos.endLine == cpos.line) = true := by rfl) : PE X (.Call (.Attribute o name apos) [] [] cpos) (tBM0 X.K T r to) := by
  intro pins s σ H Q I h
  refine wpAny_Call_method0_late hbase hline (thn (ho pins s σ H _ I h) fun v s1 ⟨x, H1, I1, r1, ty, q1⟩ => ?_)
  obtain ⟨h1, h2⟩ := tyV_is I1 r1 ty
  exact ⟨T, id, pa, slot, hty, h1, h2, Calls.callWith_builtin rfl (PySem.evalArgs_none (hm pins s1 σ H1 x [] v [] Q I1 r1 .nil q1))⟩
theorem pe_bm (pa : PlainAttrs T) (slot : Slot T name id) (hty : typeOf (.builtin id) = pure (.type "method_descriptor")) (hm : MtR X id r) (ho : PE X o to) (ha : PA X (e :: es) t)
    (hbase : attributeBase o name X.env (eval o X.env) = eval o X.env := by rfl)
    (hfew : ((backTo cpos (starEach (e :: es) X.env)).all (fun x => !x.1) && (backToKw cpos (keywordEach [] X.env)).all (fun x => x.1.isSome)
      && decide ((e :: es).length + ([] : List Keyword).length + (if ([] : List Keyword).isEmpty then 0 else 1) < 30)) = true := by rfl)
    (hline : (apos.endLine == cpos.line) = true := by rfl) (hs : starEach (e :: es) X.env = (false, eval e X.env) :: starEach es X.env := by rfl) (hplain : (backTo cpos (starEach es X.env)).any (·.1) = false := by rfl) :
    PE X (.Call (.Attribute o name apos) (e :: es) [] cpos) (tBM X.K T r to t) := by
  intro pins s σ H Q I h
  refine wpAny_Call_method_late hbase hfew hline rfl (thn (ho pins s σ H _ I h) fun v s1 ⟨x, H1, I1, r1, ty, q1⟩ => ?_)
  obtain ⟨h1, h2⟩ := tyV_is I1 r1 ty
  refine ⟨T, id, pa, slot, hty, h1, h2, ?_⟩
  have hA := ha cpos pins s1 σ H1 _ I1 q1
  rw [hs] at hA ⊢
  refine Calls.callWith_builtin (by show (false || (backTo cpos (starEach es X.env)).any (·.1)) = false; rw [hplain] <;> rfl) (Calls.evalArgs_plain ?_)
  exact thn hA fun us s2 ⟨vs, H2, I2, r2, q2⟩ => hm pins s2 σ H2 x vs v us Q I2 r1 r2 q2
/- xs.append(e), list.index on a module's tuple .. are MtR facts of 06m -/
end
end L2

namespace L2
open PySem PySem.Spec PyProof.Rows

def MtM (X : Cx) (id : String) (r : V → List V → Hp → VK → Prop) : Prop :=
  ∀ (pins : List (Addr × Obj)) (s : Shared) (σ : St) (H : Hp) (x : V) (xs : List V) (v : Value) (us : List Value) (Q : VK), Inv X pins σ H s → RelV x v → Vals xs us → r x xs H Q →
    wpAny (model X.prog X.w) X.A (call (.builtin id) (v :: us)) (EP X pins σ Q) X.xe s

theorem Vals.one : ∀ {x : V} {us : List Value}, Vals [x] us → ∃ u, us = [u] ∧ RelV x u
  | _, _, .cons r .nil => ⟨_, rfl, r⟩
theorem Vals.zero : ∀ {us : List Value}, Vals [] us → us = []
  | _, .nil => rfl
theorem Vals.dropLast {xs : List V} {us : List Value} (h : Vals xs us) : Vals xs.dropLast us.dropLast := by
  induction h with
  | nil => exact .nil
  | cons r t ih =>
    cases t with
    | nil => exact .nil
    | cons q t' => exact .cons r ih
theorem Vals.eraseIdx : ∀ {xs : List V} {us : List Value} (i : Nat), Vals xs us → Vals (xs.eraseIdx i) (us.eraseIdx i)
  | _, _, _, .nil => .nil
  | _, _, 0, .cons _ t => t
  | _, _, i + 1, .cons r t => .cons r (Vals.eraseIdx i t)
theorem Vals.reverse {xs : List V} {us : List Value} (h : Vals xs us) : Vals xs.reverse us.reverse := by
  induction h with
  | nil => exact .nil
  | cons r t ih => rw [List.reverse_cons, List.reverse_cons]; exact Vals.append ih (.cons r .nil)
theorem Vals.rep {xs : List V} {us : List Value} (h : Vals xs us) : ∀ k : Nat, Vals (List.replicate k xs).flatten (List.replicate k us).flatten
  | 0 => .nil
  | k + 1 => by
    rw [List.replicate_succ, List.replicate_succ, List.flatten_cons, List.flatten_cons]
    exact Vals.append h (Vals.rep h k)
theorem erase_last {α : Type} (l : List α) : l.eraseIdx (l.length - 1) = l.dropLast := by
  induction l with
  | nil => rfl
  | cons a r ih =>
    cases r with
    | nil => rfl
    | cons b r =>
      have e : (a :: b :: r).length - 1 = ((b :: r).length - 1) + 1 := by
        have h1 : (a :: b :: r).length = r.length + 2 := rfl
        have h2 : (b :: r).length = r.length + 1 := rfl
        omega
      rw [e, List.eraseIdx_cons_succ, ih]
      all_goals rfl
section
variable {X : Cx} {pins : List (Addr × Obj)} {σ : St} {H : Hp} {s : Shared} {l b : Addr} {xs ys zs : List V}

theorem Inv.lset {its its' : List Value} {n : Nat} {f : Array Value → Array Value} {t' : Nat} (I : Inv X pins σ H s) (hH : H l = some (.lst xs))
    (e : s.heap.get? l = some { cls := .type "list", data := .seq its.toArray n }) (hf : f its.toArray = its'.toArray) (hv : Vals ys its') (hz : ys.length ≤ sizeLine) :
    Inv X pins σ (upd H l (.lst ys)) { s with heap := s.heap.update l (Obj.mapSeq f), toks := t' } := by
  have q := PySem.IsL.update e f
  rw [hf] at q
  refine I.write (x := l) (e := l) (by rw [hH]; exact trivial) (.inl rfl) (fun b' u hb hu => (Heap.get?_update_other s.heap (Obj.mapSeq f) (Ne.symm hb)).trans hu) ⟨_, q⟩ ?_
  exact ⟨hz, its', _, hv, q⟩
theorem Inv.lnew {its : List Value} {t' : Nat} (I : Inv X pins σ H s) (hv : Vals ys its) (hz : ys.length ≤ sizeLine) :
    Inv X pins σ (upd H s.heap.objs.size (.lst ys)) { s with heap := s.heap.push { cls := .type "list", data := .seq its.toArray }, toks := t' } :=
  I.laid (fun _ _ q => Heap.get?_push_of_some _ q) (Nat.le_refl _) ⟨hz, its, 0, hv, Heap.get?_push_size _ rfl⟩
theorem Inv.fresh (I : Inv X pins σ H s) : H s.heap.objs.size = none := I.hok.fresh (Nat.le_refl _)
theorem Inv.lstM (I : Inv X pins σ H s) (hH : H l = some (.lst xs)) : xs.length ≤ sizeLine ∧ ∃ (its : List Value) (n : Nat), Vals xs its ∧ xs.length = its.length ∧ s.heap.get? l = some { cls := .type "list", data := .seq its.toArray n } := by
  obtain ⟨z, its, n, r, e⟩ := I.hok l _ hH
  exact ⟨z, its, n, r, r.length, e⟩

end

section
variable {X : Cx}

def rAppend : V → List V → Hp → VK → Prop := fun x vs H Q => ∃ l xs y, x = .ref l ∧ vs = [y] ∧ H l = some (.lst xs) ∧ xs.length < sizeLine ∧ Q .non (upd H l (.lst (xs ++ [y])))
theorem mt_append : MtM X "list.append" rAppend := by
  intro pins s σ H x vs v us Q I rx rv h
  obtain ⟨l, xs, y, rfl, rfl, hH, hz, q⟩ := h
  cases rx
  obtain ⟨u, rfl, ru⟩ := rv.one
  obtain ⟨z, its, n, r, hl, e⟩ := I.lstM hH
  refine call_meets F.slot_list_append ⟨_, e, rfl⟩ F.entry_list_append (F.args_list_append_2 _ _) (PySem.list_append l its.toArray n u (by rw [List.size_toArray]; omega)) ⟨e, ?_⟩
  refine ⟨.non, _, I.lset (its' := its ++ [u]) hH e (by simp) (r.append (.cons ru .nil)) ?_, rfl, q⟩
  rw [List.length_append, List.length_singleton]
  omega

def rPop : V → List V → Hp → VK → Prop := fun x vs H Q => ∃ l xs y, x = .ref l ∧ vs = [] ∧ H l = some (.lst xs) ∧ xs[xs.length - 1]? = some y ∧ Q y (upd H l (.lst xs.dropLast))
theorem mt_pop : MtM X "list.pop" rPop := by
  intro pins s σ H x vs v us Q I rx rv h
  obtain ⟨l, xs, y, rfl, rfl, hH, hy, q⟩ := h
  cases rx
  have hus := rv.zero
  subst hus
  obtain ⟨z, its, n, r, hl, e⟩ := I.lstM hH
  obtain ⟨u, hu, ru⟩ := r.get hy
  have hy' : its.toArray[its.toArray.size - 1]? = some u := by
    show its.toArray[its.length - 1]? = some u
    rw [← Array.getElem?_toList, ← hl]
    exact hu
  refine call_meets F.slot_list_pop ⟨_, e, rfl⟩ F.entry_list_pop (F.args_list_pop_1 _) (MeetsSeq.list_pop_last l its.toArray n u hy' (by rw [List.size_toArray]; omega)) ⟨e, ?_⟩
  refine ⟨y, _, I.lset (its' := its.dropLast) hH e ?_ r.dropLast ?_, ru, q⟩
  · show its.toArray.eraseIdxIfInBounds (its.toArray.size - 1) = its.dropLast.toArray
    rw [List.size_toArray, List.eraseIdxIfInBounds_toArray, erase_last]
  · rw [List.length_dropLast]
    omega

def rCat : R2 := fun x y H Q => ∃ l b xs zs, x = .ref l ∧ y = .ref b ∧ H l = some (.lst xs) ∧ H b = some (.lst zs) ∧ xs.length + zs.length ≤ sizeLine ∧ ∀ p, H p = none → Q (.ref p) (upd H p (.lst (xs ++ zs)))
theorem op_cat : OpR X (binaryOp .Add) rCat := by
  intro pins s σ H x y v u Q I rx ry h
  obtain ⟨l, b, xs, zs, rfl, rfl, hH, hB, hz, q⟩ := h
  cases rx
  cases ry
  obtain ⟨z, its, n, r, hl, e⟩ := I.lstM hH
  obtain ⟨z2, its2, n2, r2, hl2, e2⟩ := I.lstM hB
  refine PySem.P.add_list e e2 ?_ (by rw [List.size_toArray, List.size_toArray]; omega)
  have ea : its.toArray ++ its2.toArray = (its ++ its2).toArray := by simp
  rw [ea]
  exact ⟨.ref _, _, I.lnew (t' := s.toks) (r.append r2) (by rw [List.length_append]; omega), rfl, q _ I.fresh⟩
end


end L2

namespace L2
open PySem PySem.Spec PyProof.Rows

section
variable {κ : Type} [DecidableEq κ]
def valV (kvs : List (κ × V)) (k : κ) : Option V := (kvs.find? fun kv => decide (kv.1 = k)).map (·.2)
def putK (kvs : List (κ × V)) (k : κ) (v : V) : List (κ × V) :=
  if (kvs.any fun kv => decide (kv.1 = k)) = true then kvs.map (fun kv => if kv.1 = k then (kv.1, v) else kv) else kvs ++ [(k, v)]
def dropK (kvs : List (κ × V)) (k : κ) : List (κ × V) := kvs.filter fun kv => decide (kv.1 ≠ k)

theorem valV_pos {p : κ × V} {r : List (κ × V)} {k : κ} (e : p.1 = k) : valV (p :: r) k = some p.2 := by simp [valV, List.find?_cons, e]
theorem valV_neg {p : κ × V} {r : List (κ × V)} {k : κ} (e : ¬ p.1 = k) : valV (p :: r) k = valV r k := by simp [valV, List.find?_cons, e]
theorem valV_any (k : κ) : ∀ kvs : List (κ × V), (kvs.any fun kv => decide (kv.1 = k)) = (valV kvs k).isSome
  | [] => rfl
  | p :: r => by
    rw [List.any_cons]
    by_cases e : p.1 = k
    · simp only [valV_pos e, decide_eq_true e, Bool.true_or, Option.isSome_some]
    · rw [valV_neg e, decide_eq_false e, Bool.false_or]; exact valV_any k r
theorem valV_map (k j : κ) (y : V) : ∀ kvs : List (κ × V), valV (kvs.map fun kv => if kv.1 = k then (kv.1, y) else kv) j = (valV kvs j).map fun x => if j = k then y else x
  | [] => rfl
  | p :: r => by
    have ih := valV_map k j y r
    rw [List.map_cons]
    by_cases h : p.1 = k
    · rw [if_pos h]
      by_cases e : p.1 = j
      · rw [valV_pos (p := (p.1, y)) e, valV_pos e, Option.map_some, if_pos (e.symm.trans h)]
      · rw [valV_neg (p := (p.1, y)) e, valV_neg e, ih]
    · rw [if_neg h]
      by_cases e : p.1 = j
      · rw [valV_pos (p := p) e, valV_pos e, Option.map_some, if_neg (fun z => h (e.trans z))]
      · rw [valV_neg (p := p) e, valV_neg e, ih]
theorem valV_snoc (k j : κ) (y : V) : ∀ kvs : List (κ × V), valV kvs k = none → valV (kvs ++ [(k, y)]) j = if j = k then some y else valV kvs j
  | [], _ => by
    by_cases e : k = j
    · rw [if_pos e.symm]; exact valV_pos (p := (k, y)) e
    · rw [if_neg (fun z => e z.symm)]; exact valV_neg (p := (k, y)) e
  | p :: r, hn => by
    rw [List.cons_append]
    have hk : ¬ p.1 = k := fun z => by rw [valV_pos z] at hn; cases hn
    rw [valV_neg hk] at hn
    have ih := valV_snoc k j y r hn
    by_cases e : p.1 = j
    · rw [valV_pos e, valV_pos e, if_neg (fun z => hk (e.trans z))]
    · rw [valV_neg e, valV_neg e, ih]
theorem valV_put (kvs : List (κ × V)) (k j : κ) (y : V) : valV (putK kvs k y) j = if j = k then some y else valV kvs j := by
  unfold putK
  by_cases a : (kvs.any fun kv => decide (kv.1 = k)) = true
  · rw [if_pos a, valV_map]
    rw [valV_any] at a
    by_cases e : j = k
    · obtain ⟨x, hx⟩ := Option.isSome_iff_exists.mp a
      rw [if_pos e, e, hx, Option.map_some, if_pos rfl]
    · rw [if_neg e]
      cases valV kvs j with
      | none => rfl
      | some x => rw [Option.map_some, if_neg e]
  · rw [if_neg a]
    refine valV_snoc k j y kvs ?_
    rw [valV_any] at a
    cases q : valV kvs k with
    | none => rfl
    | some x => rw [q] at a; exact (a rfl).elim
theorem length_putK (kvs : List (κ × V)) (k : κ) (v : V) : (putK kvs k v).length ≤ kvs.length + 1 := by
  unfold putK
  split
  · rw [List.length_map]; omega
  · rw [List.length_append, List.length_cons, List.length_nil]; omega
theorem RelO.isSome_eq {o : Option V} {u : Option Value} (r : RelO o u) : o.isSome = u.isSome := by
  cases o with
  | none => cases u with
    | none => rfl
    | some _ => exact (show False from r).elim
  | some _ => cases u with
    | none => exact (show False from r).elim
    | some _ => rfl
theorem RelO.getD {o : Option V} {u : Option Value} {d : V} {d' : Value} (r : RelO o u) (rd : RelV d d') : RelV (o.getD d) (u.getD d') := by
  cases o with
  | none => cases u with
    | none => exact rd
    | some _ => exact (show False from r).elim
  | some _ => cases u with
    | none => exact (show False from r).elim
    | some _ => exact r

theorem KV.val {kvs : List (κ × V)} {vs : List (κ × Value)} (r : KV kvs vs) (k : κ) : RelO (valV kvs k) (valueAt vs k) := by
  unfold KV at r
  induction r with
  | nil => exact True.intro
  | @cons p q ps qs h t ih =>
    obtain ⟨h1, h2⟩ := h
    by_cases e : p.1 = k
    · have e' : q.1 = k := h1.symm.trans e
      have b : valueAt (q :: qs) k = some q.2 := by simp [valueAt, List.find?_cons, e']
      rw [valV_pos e, b]; exact h2
    · have e' : ¬ q.1 = k := fun z => e (h1.trans z)
      have b : valueAt (q :: qs) k = valueAt qs k := by simp [valueAt, List.find?_cons, e']
      rw [valV_neg e, b]; exact ih
theorem KV.any {kvs : List (κ × V)} {vs : List (κ × Value)} (r : KV kvs vs) (k : κ) : (kvs.any fun kv => decide (kv.1 = k)) = vs.any fun kv => decide (kv.1 = k) := by
  unfold KV at r
  induction r with
  | nil => rfl
  | cons h t ih => rw [List.any_cons, List.any_cons, ih, h.1]
theorem KV.repl {kvs : List (κ × V)} {vs : List (κ × Value)} (r : KV kvs vs) (k : κ) {y : V} {u : Value} (ry : RelV y u) :
    KV (kvs.map fun kv => if kv.1 = k then (kv.1, y) else kv) (vs.map fun kv => if kv.1 = k then (kv.1, u) else kv) := by
  unfold KV at r ⊢
  induction r with
  | nil => exact .nil
  | @cons p q ps qs h t ih =>
    rw [List.map_cons, List.map_cons]
    refine .cons ?_ ih
    obtain ⟨h1, h2⟩ := h
    by_cases e : p.1 = k
    · rw [if_pos e, if_pos (h1.symm.trans e)]; exact ⟨h1, ry⟩
    · rw [if_neg e, if_neg (fun z => e (h1.trans z))]; exact ⟨h1, h2⟩
theorem KV.put {kvs : List (κ × V)} {vs : List (κ × Value)} (r : KV kvs vs) (k : κ) {y : V} {u : Value} (ry : RelV y u) : KV (putK kvs k y) (stored vs k u) := by
  unfold putK stored
  rw [r.any k]
  by_cases e : (vs.any fun kv => decide (kv.1 = k)) = true
  · rw [if_pos e, if_pos e]; exact r.repl k ry
  · rw [if_neg e, if_neg e]; exact Paired.snoc r ⟨rfl, ry⟩
theorem KV.drop {kvs : List (κ × V)} {vs : List (κ × Value)} (r : KV kvs vs) (k : κ) : KV (dropK kvs k) (without vs k) := by
  unfold KV at r ⊢
  unfold dropK without
  induction r with
  | nil => exact .nil
  | @cons p q ps qs h t ih =>
    obtain ⟨h1, h2⟩ := h
    rw [List.filter_cons, List.filter_cons]
    by_cases e : p.1 = k
    · have a : ¬ decide (p.1 ≠ k) = true := by simp [e]
      have b : ¬ decide (q.1 ≠ k) = true := by simp [h1.symm.trans e]
      rw [if_neg a, if_neg b]; exact ih
    · have e' : ¬ q.1 = k := fun z => e (h1.trans z)
      have a : decide (p.1 ≠ k) = true := by simp [e]
      have b : decide (q.1 ≠ k) = true := by simp [e']
      rw [if_pos a, if_pos b]; exact .cons ⟨h1, h2⟩ ih
theorem KV.keys {kvs : List (κ × V)} {vs : List (κ × Value)} (r : KV kvs vs) : kvs.map (·.1) = vs.map (·.1) := by
  unfold KV at r
  induction r with
  | nil => rfl
  | cons h t ih => rw [List.map_cons, List.map_cons, ih, h.1]
theorem KV.length {kvs : List (κ × V)} {vs : List (κ × Value)} (r : KV kvs vs) : kvs.length = vs.length := Paired.length r
end


theorem kV_is {P : Program} {w : World} {k : Key} {u : Value} (r : RelV (kV k) u) : (mixKind P w).is k u = true := by
  cases k with
  | inl i => obtain ⟨t, e⟩ := (show ∃ t, u = Value.int i t from r); subst e; exact mixKind_int P w i t
  | inr x => obtain ⟨t, e⟩ := (show ∃ t, u = Value.str x t from r); subst e; exact mixKind_str P w x t
theorem items_are {P : Program} {w : World} : ∀ {ks : List Key} {us : List Value}, Vals (ks.map kV) us → ItemsAre (mixKind P w) ks us
  | [], _, r => by rw [List.map_nil] at r; cases r; exact .nil
  | k :: ks, _, r => by
    rw [List.map_cons] at r
    cases r with
    | cons h t => exact .cons (kV_is h) (items_are t)

abbrev KT (H : Hp) : List (List Key × V) → List (List Key × Addr × Value) → Prop := Paired fun p q => p.1 = q.1 ∧ H q.2.1 = some (.tup (p.1.map kV)) ∧ RelV p.2 q.2.2
theorem KT.val {H : Hp} {kvs : List (List Key × V)} {xs : List (List Key × Addr × Value)} (r : KT H kvs xs) (k : List Key) : RelO (valV kvs k) ((atKey xs k).map (·.2)) := by
  induction r with
  | nil => exact True.intro
  | @cons p q ps qs h t ih =>
    obtain ⟨h1, _, h2⟩ := h
    by_cases e : p.1 = k
    · have e' : q.1 = k := h1.symm.trans e
      have b : atKey (q :: qs) k = some q.2 := by simp [atKey, List.find?_cons, e']
      rw [valV_pos e, b]; exact h2
    · have e' : ¬ q.1 = k := fun z => e (h1.trans z)
      have b : atKey (q :: qs) k = atKey qs k := by simp [atKey, List.find?_cons, e']
      rw [valV_neg e, b]; exact ih
theorem KT.repl {H : Hp} {kvs : List (List Key × V)} {xs : List (List Key × Addr × Value)} (r : KT H kvs xs) (k : List Key) {y : V} {u : Value} (ry : RelV y u) :
    KT H (kvs.map fun kv => if kv.1 = k then (kv.1, y) else kv) (xs.map (putAt k u)) := by
  induction r with
  | nil => exact .nil
  | @cons p q ps qs h t ih =>
    rw [List.map_cons, List.map_cons]
    refine .cons ?_ ih
    obtain ⟨h1, h2, h3⟩ := h
    unfold putAt
    by_cases e : p.1 = k
    · rw [if_pos e, if_pos (h1.symm.trans e)]; exact ⟨h1, h2, ry⟩
    · rw [if_neg e, if_neg (fun z => e (h1.trans z))]; exact ⟨h1, h2, h3⟩
theorem KT.put {H : Hp} {kvs : List (List Key × V)} {xs : List (List Key × Addr × Value)} (r : KT H kvs xs) (k : List Key) {b : Addr} {y : V} {u : Value} (hb : H b = some (.tup (k.map kV))) (ry : RelV y u) :
    KT H (putK kvs k y) (storedH xs k b u) := by
  have e : (kvs.any fun kv => decide (kv.1 = k)) = (atKey xs k).isSome := by
    rw [valV_any, (r.val k).isSome_eq, Option.isSome_map]
  unfold putK storedH
  rw [e]
  by_cases q : (atKey xs k).isSome = true
  · rw [if_pos q, if_pos q]; exact r.repl k ry
  · rw [if_neg q, if_neg q]; exact Paired.snoc r ⟨rfl, hb, ry⟩
theorem KT.keeps {H H' : Hp} {kvs : List (List Key × V)} {xs : List (List Key × Addr × Value)} (r : KT H kvs xs) (ht : ∀ b ys, H b = some (.tup ys) → H' b = some (.tup ys)) : KT H' kvs xs :=
  Paired.mapP r fun _ _ z => ⟨z.1, ht _ _ z.2.1, z.2.2⟩

section
variable {P : Program} {w : World} {H : Hp} {h : Heap} {a : Addr}
theorem rd_of {u : HO} (ok : HOk P w H h) (e : Rd H a u) : ObjOk P w H h a u := e.ok ok
theorem dk_rd {kvs : List (Key × V)} (ok : HOk P w H h) (e : Rd H a (.dK kvs)) : kvs.length ≤ sizeLine ∧ (a == sysModules) = false ∧ ∃ vs, KV kvs vs ∧ h.DictOf (mixKind P w) a vs :=
  show ObjOk P w H h a (.dK kvs) from rd_of ok e
theorem dk_of {kvs : List (Key × V)} (ok : HOk P w H h) (e : H a = some (.dK kvs)) : kvs.length ≤ sizeLine ∧ (a == sysModules) = false ∧ ∃ vs, KV kvs vs ∧ h.DictOf (mixKind P w) a vs := dk_rd ok (.inl e)
theorem key_of {ks : List Key} (ok : HOk P w H h) (e : H a = some (.tup (ks.map kV))) : (tupleKind (mixKind P w)).is h ks a := by
  obtain ⟨_, its, r, o, h1, h2, n, h3⟩ := (show ObjOk P w H h a (.tup (ks.map kV)) from ok a _ e)
  exact ⟨o, its.toArray, n, h1, h2, h3, by simpa using items_are r⟩
theorem dt_rd {kvs : List (List Key × V)} (ok : HOk P w H h) (e : Rd H a (.dT kvs)) : kvs.length ≤ sizeLine ∧ (a == sysModules) = false ∧
    ∃ xs, KT H kvs xs ∧ h.DictOfH (tupleKind (mixKind P w)) a xs := by
  obtain ⟨z, y, xs, r, o, es, ep, h1, h2, h3, h4, h5⟩ := (show ObjOk P w H h a (.dT kvs) from rd_of ok e)
  refine ⟨z, y, xs, r, o, es, ep, h1, h2, h3, h4, fun x hx => ?_, h5⟩
  have all : ∀ {l : List (List Key × V)} {m : List (List Key × Addr × Value)}, KT H l m → ∀ x ∈ m, (tupleKind (mixKind P w)).is h x.1 x.2.1 := by
    intro l m q
    induction q with
    | nil => intro x hx; exact nomatch hx
    | @cons p q ps qs hq t ih =>
      intro x hx
      rcases List.mem_cons.mp hx with e | hx
      · subst e
        exact key_of ok (by rw [← hq.1]; exact hq.2.1)
      · exact ih x hx
  exact all r x hx
theorem dt_of {kvs : List (List Key × V)} (ok : HOk P w H h) (e : H a = some (.dT kvs)) : kvs.length ≤ sizeLine ∧ (a == sysModules) = false ∧
    ∃ xs, KT H kvs xs ∧ h.DictOfH (tupleKind (mixKind P w)) a xs := dt_rd ok (.inl e)
end

def DGet (H : Hp) (a : Addr) (y : V) (r : Option V) : Prop :=
  (∃ kvs k, Rd H a (.dK kvs) ∧ y = kV k ∧ r = valV kvs k) ∨ ∃ kvs k b, Rd H a (.dT kvs) ∧ y = .ref b ∧ H b = some (.tup (k.map kV)) ∧ r = valV kvs k
def DPut (H : Hp) (a : Addr) (y v : V) (H' : Hp) : Prop :=
  (∃ kvs k, H a = some (.dK kvs) ∧ y = kV k ∧ kvs.length < sizeLine ∧ H' = upd H a (.dK (putK kvs k v))) ∨
  ∃ kvs k b, H a = some (.dT kvs) ∧ y = .ref b ∧ H b = some (.tup (k.map kV)) ∧ kvs.length < sizeLine ∧ H' = upd H a (.dT (putK kvs k v))
theorem DGet.k {H : Hp} {a : Addr} {kvs : List (Key × V)} {k : Key} (e : H a = some (.dK kvs)) : DGet H a (kV k) (valV kvs k) := .inl ⟨kvs, k, .inl e, rfl, rfl⟩
theorem DGet.t {H : Hp} {a b : Addr} {kvs : List (List Key × V)} {k : List Key} (e : H a = some (.dT kvs)) (eb : H b = some (.tup (k.map kV))) : DGet H a (.ref b) (valV kvs k) := .inr ⟨kvs, k, b, .inl e, rfl, eb, rfl⟩
theorem DPut.k {H : Hp} {a : Addr} {kvs : List (Key × V)} {k : Key} {v : V} (e : H a = some (.dK kvs)) (hl : kvs.length < sizeLine) : DPut H a (kV k) v (upd H a (.dK (putK kvs k v))) := .inl ⟨kvs, k, e, rfl, hl, rfl⟩
theorem DPut.t {H : Hp} {a b : Addr} {kvs : List (List Key × V)} {k : List Key} {v : V} (e : H a = some (.dT kvs)) (eb : H b = some (.tup (k.map kV))) (hl : kvs.length < sizeLine) :
    DPut H a (.ref b) v (upd H a (.dT (putK kvs k v))) := .inr ⟨kvs, k, b, e, rfl, eb, hl, rfl⟩


section
variable {X : Cx} {pins : List (Addr × Obj)} {σ : St} {H : Hp} {s : Shared} {a : Addr} {y v : V} {u r : Value} {o : Option V} {A : Around} {E : Value → Shared → Prop}

theorem Inv.big (I : Inv X pins σ H s) : sysModules < s.heap.objs.size := by
  have h : mainGlobals < s.heap.objs.size := (I.mod.glob.keeps I.bk).lt
  exact Nat.lt_trans (by decide) h

theorem d_in {Q : Value → Shared → Prop} (hu : A.units + 1 < cLine) (I : Inv X pins σ H s) (g : DGet H a y o) (ry : RelV y u) (h : ∀ s', Inv X pins σ H s' → Q (.bool o.isSome) s') :
    wpAny (model X.prog X.w) A (compareOp .In u (.ref a)) Q E s := by
  rcases g with ⟨kvs, k, e, ey, l⟩ | ⟨kvs, k, b, e, ey, eb, l⟩
  · subst ey
    obtain ⟨z, hd, vs, rel, dd⟩ := dk_rd I.hok e
    refine wpAny_in_of (kV_is ry) hd dd.mapOf ?_
    rw [← (rel.val k).isSome_eq, ← l]
    exact h _ (I.tok _)
  · subst ey
    cases (show u = Value.ref b from ry)
    obtain ⟨z, hd, xs, rel, dd⟩ := dt_rd I.hok e
    refine wpAny_in_heap (tupleKind_room_in1 hu) (key_of I.hok eb) hd dd ?_
    have q := (rel.val k).isSome_eq
    rw [Option.isSome_map] at q
    rw [← q, ← l]
    exact h _ (I.tok _)
theorem d_write {h' : Heap} {t' : Nat} {ob : HO} (I : Inv X pins σ H s) (mu : Mut (H a)) (hs : Heap.SameBut a s.heap h') (he : ∃ q, h'.get? a = some q) (new : ObjOk X.prog X.w (upd H a ob) h' a ob) :
    Inv X pins σ (upd H a ob) { s with heap := h', toks := t' } :=
  I.write (x := a) (e := a) mu (.inl rfl) (fun b q hb z => (hs.2 b hb).trans z) he new
theorem dk_new {P : Program} {w : World} {H' : Hp} {h' : Heap} {kvs : List (Key × V)} {vs : List (Key × Value)} (z : kvs.length ≤ sizeLine) (hd : (a == sysModules) = false) (rel : KV kvs vs) (dd : h'.DictOf (mixKind P w) a vs) :
    ObjOk P w H' h' a (.dK kvs) := ⟨z, hd, vs, rel, dd⟩
theorem d_setItem {H' : Hp} {Q : Unit → Shared → Prop} (hu : A.units + 1 < cLine) (I : Inv X pins σ H s) (g : DPut H a y v H') (ry : RelV y u) (rv : RelV v r) (h : ∀ s', Inv X pins σ H' s' → Q () s') :
    wpAny (model X.prog X.w) A (setItem (.ref a) u r) Q E s := by
  rcases g with ⟨kvs, k, e, ey, l, eH⟩ | ⟨kvs, k, b, e, ey, eb, l, eH⟩
  · subst ey eH
    obtain ⟨z, hd, vs, rel, dd⟩ := dk_of I.hok e
    have hz : vs.length ≤ sizeLine := by rw [← rel.length]; exact z
    have hl : (putK kvs k v).length ≤ sizeLine := by have := length_putK kvs k v; omega
    refine wpAny_setItem_pairs (hsz := hz) (kV_is ry) dd fun h' dd' hs => h _ ?_
    have he : ∃ q, h'.get? a = some q := let ⟨q, _, _, hq, _⟩ := dd'; ⟨q, hq⟩
    exact d_write I (by rw [e]; exact True.intro) hs he (dk_new hl hd (rel.put k rv) dd')
  · subst ey eH
    cases (show u = Value.ref b from ry)
    obtain ⟨z, hd, xs, rel, dd⟩ := dt_of I.hok e
    have hz : xs.length ≤ sizeLine := by rw [← Paired.length rel]; exact z
    have hl : (putK kvs k v).length ≤ sizeLine := by have := length_putK kvs k v; omega
    refine wpAny_setItem_heap (hsz := hz) (tupleKind_room_in1 hu) (key_of I.hok eb) dd fun h' dd' hs => h _ ?_
    obtain ⟨q, es, ep, hq, h2, h3, h4, _, h5⟩ := dd'
    refine d_write I (by rw [e]; exact True.intro) hs ⟨q, hq⟩ ⟨hl, hd, _, (rel.put k eb rv).keeps fun c ys ec => ?_, q, es, ep, hq, h2, h3, h4, h5⟩
    rw [upd_ne (ne_of ec e (fun z => nomatch z))]
    exact ec
end

section
variable {X : Cx} {pins : List (Addr × Obj)} {σ : St} {H : Hp} {s : Shared} {a : Addr} {kvs : List (Key × V)} {k : Key} {u : Value} {A : Around} {E : Value → Shared → Prop}
theorem d_len {Q : Value → Shared → Prop} (I : Inv X pins σ H s) (e : Rd H a (.dK kvs)) (h : ∀ t s', Inv X pins σ H s' → Q (.int kvs.length t) s') : wpAny (model X.prog X.w) A (call (.builtin "len") [.ref a]) Q E s := by
  obtain ⟨z, hd, vs, rel, dd⟩ := dk_rd I.hok e
  refine call_len_dict hd dd (by rw [← rel.length]; rw [sizeLine_eq] at z; omega) ?_
  rw [← rel.length]
  exact h _ _ (I.tok _)
end


def tDGet (td ty : TE) : TE := fun σ H Q => td σ H fun x H1 => ty σ H1 fun y H2 => ∃ a v, x = .ref a ∧ DGet H2 a y (some v) ∧ Q v H2
def tDIn (ty td : TE) : TE := fun σ H Q => ty σ H fun y H1 => td σ H1 fun x H2 => ∃ a o, x = .ref a ∧ DGet H2 a y o ∧ Q (.bl o.isSome) H2
def tDNotIn (ty td : TE) : TE := fun σ H Q => ty σ H fun y H1 => td σ H1 fun x H2 => ∃ a o, x = .ref a ∧ DGet H2 a y o ∧ Q (.bl (!o.isSome)) H2
def sDPut (td ty tv : TE) : TS := fun D σ H => tv σ H fun v H1 => td σ H1 fun x H2 => ty σ H2 fun y H3 => ∃ a H4, x = .ref a ∧ DPut H3 a y v H4 ∧ D.nx σ H4
section
variable {X : Cx} {o i e value : Expr} {pos pos' tpos : Pos} {td ty tv : TE}
theorem pc_din (hu : X.A.units + 1 < cLine) (hi : PE X i ty) (ho : PE X o td) : PC X .In i o (tDIn ty td) := by
  intro pins s σ H Q I h
  refine thn (hi pins s σ H _ I h) fun iv s1 ⟨y, H1, I1, ry, q1⟩ => thn (ho pins s1 σ H1 _ I1 q1) fun u s2 ⟨x, H2, I2, rx, a, ov, ex, g, q2⟩ => ?_
  subst ex
  obtain rfl : u = Value.ref a := rx
  exact d_in hu I2 g ry fun s3 I3 => ⟨.bl ov.isSome, H2, I3, rfl, q2⟩
theorem ps_dput (hu : X.A.units + 1 < cLine) (ho : PE X o td) (hi : PE X i ty) (hv : PE X value tv) (hs : swapsWith value (some (.Subscript o i pos')) pos.line X.env = pure false) :
    PS X (.Assign [.Subscript o i pos'] value pos) (sDPut td ty tv) := by
  intro pins s σ H D I h
  refine wpAny_Assign_Subscript (thn (hv pins s σ H _ I h) fun r s1 ⟨v, H1, I1, rv, q1⟩ => thn (ho pins s1 σ H1 _ I1 q1) fun u s2 ⟨x, H2, I2, rx, q2⟩ => thn (hi pins s2 σ H2 _ I2 q2) fun iv s3 ⟨y, H3, I3, ry, a, H4, ex, g, q3⟩ => ?_) hs
  subst ex
  obtain rfl : u = Value.ref a := rx
  exact d_setItem hu I3 g ry rv fun s4 I4 => ⟨σ, H4, I4, q3⟩
end


theorem dk_empty {P : Program} {w : World} {H : Hp} (h : Heap) (hb : sysModules < h.objs.size) : ObjOk P w H (h.push { cls := .type "dict", data := .dict #[] }) h.objs.size (.dK []) :=
  ⟨Nat.zero_le _, beq_eq_false_iff_ne.mpr (Ne.symm (Nat.ne_of_lt hb)), [], .nil, Heap.DictOf.new h⟩
def tDNewK : TE := fun _ H Q => ∀ p, H p = none → Q (.ref p) (upd H p (.dK []))
def tDNewT : TE := fun _ H Q => ∀ p, H p = none → Q (.ref p) (upd H p (.dT []))
section
variable {X : Cx} {pos : Pos}
theorem pe_dnewK : PE X (.Dict [] [] pos) tDNewK := fun pins s σ H Q I h =>
  wpAny_Dict_empty ⟨.ref s.heap.objs.size, _, I.laid (a := s.heap.objs.size) (o := .dK []) (t' := s.toks) (fun _ _ q => Heap.get?_push_of_some _ q) (Nat.le_refl _) (dk_empty s.heap I.big), rfl, h _ (I.hok.fresh (Nat.le_refl _))⟩
end

def tPairs : List (TE × TE) → St → Hp → (List (V × V) → Hp → Prop) → Prop
  | [], _, H, Q => Q [] H
  | (tk, tv) :: r, σ, H, Q => tk σ H fun x H1 => tv σ H1 fun y H2 => tPairs r σ H2 fun ps H3 => Q ((x, y) :: ps) H3
abbrev VV : List (V × V) → List (Value × Value) → Prop := Paired fun p q => RelV p.1 q.1 ∧ RelV p.2 q.2
def PPs (X : Cx) (pos : Pos) (keys : List (Option Expr)) (values : List Expr) (trs : List (TE × TE)) : Prop :=
  ∀ (pins : List (Addr × Obj)) (s : Shared) (σ : St) (H : Hp) (Q : List (V × V) → Hp → Prop), Inv X pins σ H s → tPairs trs σ H Q →
    wpAny (model X.prog X.w) X.A (evalPairs (pairTrees keys values X.env pos)) (fun vs s' => ∃ ps H', Inv X pins σ H' s' ∧ VV ps vs ∧ Q ps H') X.xe s
structure M1 (X : Cx) (o : Expr) (m : Str) (apos : Pos) (e : Expr) (cpos : Pos) : Prop where
  base : attributeBase o m X.env (eval o X.env) = eval o X.env
  few : ((backTo cpos (starEach [e] X.env)).all (fun x => !x.1) && (backToKw cpos (keywordEach [] X.env)).all (fun x => x.1.isSome)
    && decide (([e] : List Expr).length + ([] : List Keyword).length + (if ([] : List Keyword).isEmpty then 0 else 1) < 30)) = true
  line : (apos.endLine == cpos.line) = true
  trees : backTo cpos (starEach [e] X.env) = [(false, eval e X.env)]
structure M2 (X : Cx) (o : Expr) (m : Str) (apos : Pos) (e f : Expr) (cpos : Pos) : Prop where
  base : attributeBase o m X.env (eval o X.env) = eval o X.env
  few : ((backTo cpos (starEach [e, f] X.env)).all (fun x => !x.1) && (backToKw cpos (keywordEach [] X.env)).all (fun x => x.1.isSome)
    && decide (([e, f] : List Expr).length + ([] : List Keyword).length + (if ([] : List Keyword).isEmpty then 0 else 1) < 30)) = true
  line : (apos.endLine == cpos.line) = true
  trees : backTo cpos (starEach [e, f] X.env) = [(false, eval e X.env), (false, eval f X.env)]

def IsD (H : Hp) (a : Addr) : Prop := (∃ kvs, Rd H a (.dK kvs)) ∨ ∃ kvs, Rd H a (.dT kvs)

def tDGet2 (td ty tx : TE) : TE := fun σ H Q => td σ H fun x H1 => ∃ a, x = .ref a ∧ IsD H1 a ∧ ty σ H1 fun y H2 => tx σ H2 fun z H3 => ∃ o, DGet H3 a y o ∧ Q (o.getD z) H3



end L2

namespace Att
open PySem PySem.W PySem.Calls PyProof.Rows

theorem ints_of_wellAll {P : Params} {h : Heap} : ∀ (ns : List Int) (vs : List Value), WellAll P h vs (ns.map WData.int) → IntsAre vs ns := by
  intro ns
  induction ns with
  | nil =>
    intro vs w
    rw [List.map_nil] at w
    cases w
    exact .nil
  | cons n ns ih =>
    intro vs w
    rw [List.map_cons] at w
    cases w with
    | cons a b =>
      cases a
      exact .cons _ _ (ih _ b)

theorem script_of {l : OpenLaw} {n : Nat} (hn : l.most = some n) {P : Params} {h : Heap} {args : List WData} {vals : List Value}
    (hpre : l.row.toRowW.claim.pre args = true) (hwl : WellAll P h vals args) :
    ∃ a vs ns, vals = [Value.ref a] ∧ args = [WData.list (ns.map WData.int)] ∧ h.get? a = some { cls := .type "list", data := .seq vs.toArray } ∧ IntsAre vs ns ∧ ns.length ≤ n := by
  have hsh : WShape.hasAll [] args [.list .int] = true := (pre_splitW hpre).1
  have hc : l.pre.holds [] { args := args } = true := (pre_splitW hpre).2
  obtain ⟨d, r, rfl, h1, h2⟩ := hasAllW_cons hsh
  obtain rfl := hasAllW_nil h2
  obtain ⟨xs, rfl, h3⟩ := hasW_list h1
  obtain ⟨ns, rfl⟩ := items_int h3
  have hlen : ns.length ≤ n := by
    unfold OpenLaw.pre at hc
    have h4 : (WTm.not (.lt (.lit (.int (n : Int))) (.len (.arg 0)))).holds [] { args := [.list (ns.map .int)] } = true := by
      have h4 := (holds_andW hc).1
      rw [hn] at h4
      exact h4
    have h5 := condW_of h4 (w_not (w_lt w_lit (w_len_list (w_arg rfl))))
    rw [List.length_map] at h5
    refine Nat.le_of_not_lt fun q => ?_
    have q' : (n : Int) < ((ns.length : Nat) : Int) := by omega
    first
      | (rw [decide_eq_true q'] at h5; exact absurd h5 (by decide))
      | (simp at h5; omega)
  cases hwl with
  | cons w1 w2 =>
    cases w2
    cases w1 with
    | list ho hall => exact ⟨_, _, ns, rfl, rfl, ho, ints_of_wellAll ns _ hall, hlen⟩

theorem post_true (l : OpenLaw) (args : List WData) : l.row.toRowW.claim.post args (.bool true) args = true :=
  postW_of (r := l.row.toRowW) (X := (true == true))
    (show WShape.has [] (.bool true) .bool = true by first | rfl | decide | simp [WShape.has, WShape.arms, WShape.armsAll])
    (show (WTm.eq .res (.lit (.bool true))).value [] { args := args, res := some (.bool true), after := args } = some (.bool (true == true)) from w_eq_bool (w_res rfl) w_lit) rfl

theorem attach_call {l : OpenLaw} {n : Nat} {q : Program} {loose : List Str} {XP : (Str → Option Value) → Heap → Prop} {YP : World → Heap → Prop} {d : DefRec}
    (hn : l.most = some n) (hdf : d.params.defaults = [])
    (call : ∀ (w : World) (s₀ s₁ : Shared) (mg mb : Str → Option Value) (fa : Addr) (o : Obj) (pm cd doc : Value) (a : Addr) (vs : List Value) (ns : List Int),
      Ground q loose [] XP w s₀ mg mb s₁.heap → YP w s₁.heap →
      s₁.heap.get? fa = some o → o.data = .func (docDef d.name d.params d.body d.scope pm cd doc) → s₁.heap.CodeRec cd d.name → mg d.name = some (.ref fa) →
      s₁.heap.get? a = some { cls := .type "list", data := .seq vs.toArray } → IntsAre vs ns → ns.length ≤ n → s₁.gens = #[] →
      codeAny (model l.prog w) callerA (.call (.ref fa) ⟨[.ref a], []⟩) (fun r s' => r = .ok (.ret (.bool true)) ∧ OldK s₁.heap s'.heap ∧ s'.os = s₁.os ∧ AllBare s'.gens) s₁) :
    WalkO q loose XP YP l.row.toRowW d [] (fun f vs => PySem.call f vs) := by
  intro w s₀ s₁ mg mb G Y fa o pm cd doc dV kV ho hd hcd hD hmg hg args vals as hpre hlay hrd hwl hlo
  obtain rfl : dV = .none := Dflts.none hD hdf
  obtain rfl : kV = .none := Dflts.noKw hD
  obtain ⟨a, vs, ns, rfl, rfl, hobj, hints, hlen⟩ := script_of hn hpre hwl
  refine enter_call (codeAny_mono (call w s₀ s₁ mg mb fa o pm cd doc a vs ns G Y ho (fd_plain hd) hcd hmg hobj hints hlen hg) fun r s' hq => ?_)
  obtain ⟨rfl, h2, h3, h4⟩ := hq
  exact ⟨.inl ⟨.bool true, .bool true, [], rfl, fun _ => rfl, .bool true, post_true l _, fun _ => ⟨List.Pairwise.nil, fun _ hm => (nomatch hm)⟩⟩, h2, h3, h4⟩

section
variable {prog : Program} {w : World} {A : Around} {E : Value → Shared → Prop} {s : Shared} {K : Frag}

end
end Att

namespace L2
open PySem PySem.Spec PyProof.Rows

theorem vals_ints : ∀ {vs : List Value} {ns : List Int}, IntsAre vs ns → Vals (ns.map V.int) vs
  | _, _, .nil => .nil
  | _, _, .cons n t h => .cons ⟨t, rfl⟩ (vals_ints h)

def Only (H : Hp) : Prop := ∀ b, H b = none ∨ ∃ o xs, H b = some (.frz o (.lst xs))

theorem law_call {P : Program} {w : World} {K : PySem.W.Frag} {mg mb : Str → Option Value} {CX : CXT} {k : Nat} {fa a : Addr} {fd : FuncData} {x : Str} {sp : Sp} {s₁ : Shared} {vs : List Value} {ns : List Int}
    (KX : K.In s₁.heap) (hns : s₁.heap.Ns mainGlobals mg) (hb : s₁.heap.Ns builtinsNs mb) (hbb : ∀ x : Str, x ≠ "__name__" → mb x = bootBuiltins x) (hlim : s₁.heap.NoLimit) (hg : s₁.gens = #[])
    (ha : s₁.heap.get? a = some { cls := .type "list", data := .seq vs.toArray }) (hi : IntsAre vs ns) (hl : ns.length ≤ sizeLine) (hr : Room k callerA)
    (F : ∀ base : Heap, K.In base → base.Ns mainGlobals mg → FnOk P w K mg base CX k fa fd [x] sp) (hbind : ∀ (s : Shared) (u : Value), BindsTo s fd ⟨[u], []⟩ [(x, u)])
    (hsp : ∀ H : Hp, Only H → SqL K H a (ns.map V.int) → sp [.ref a] H (fun v _ => v = .bl true) fun _ _ _ => False)
    (hCX : ∀ H e s', CX [] H s₁ (fun _ _ _ => False) e s' → False) :
    codeAny (model P w) callerA (.call (.ref fa) ⟨[.ref a], []⟩) (fun r s' => r = .ok (.ret (.bool true)) ∧ OldK s₁.heap s'.heap ∧ s'.os = s₁.os ∧ AllBare s'.gens) s₁ := by
  have rv := vals_ints hi
  have lenV := hi.length
  -- from an abstract heap in which nothing but the script may be tracked
  have core : ∀ H : Hp, Only H → SqL K H a (ns.map V.int) → HOk P w H s₁.heap → (∀ b, H b ≠ none → b = a) → (H a ≠ none → K.lookup a = none) →
      codeAny (model P w) callerA (.call (.ref fa) ⟨[.ref a], []⟩) (fun r s' => r = .ok (.ret (.bool true)) ∧ OldK s₁.heap s'.heap ∧ s'.os = s₁.os ∧ AllBare s'.gens) s₁ := by
    intro H hO hS hok hA hK
    have base_of : ∀ {b : Addr} {o : Obj}, s₁.heap.get? b = some o → H b = none → (hidT s₁.heap H).get? b = some o := fun e n => hidT_get e n
    have noA : ∀ {b : Addr} {o : Obj} {es : Array DictEntry} {ep : Nat}, s₁.heap.get? b = some o → o.data = .dict es ep → H b = none := fun {b o es ep} e d => by
      cases q : H b with
      | none => rfl
      | some u =>
        have e' : b = a := hA b (by rw [q]; simp)
        subst e'
        rw [ha] at e; cases e
        have d' : Data.seq vs.toArray _ = Data.dict es ep := d
        cases d'
    have nsK : ∀ {b : Addr} {m : Str → Option Value}, s₁.heap.Ns b m → (hidT s₁.heap H).Ns b m := fun {b m} ⟨o, es, ep, e, d, r⟩ => ⟨o, es, ep, base_of e (noA e d), d, r⟩
    have hKb : K.In (hidT s₁.heap H) := fun b o e => base_of (KX b o e) (by
      cases q : H b with
      | none => rfl
      | some u =>
        have e' : b = a := hA b (by rw [q]; simp)
        subst e'
        rw [hK (by rw [q]; simp)] at e; cases e)
    have hM : Mod K mg (hidT s₁.heap H) := ⟨hKb, nsK hns, ⟨mb, nsK hb, hbb⟩, let ⟨mc, h1, h2⟩ := hlim; ⟨mc, nsK h1, h2⟩⟩
    have e0 : Env0 P w K mg (hidT s₁.heap H) callerA [] s₁ H := ⟨rfl, hM, fun b o e => of_hidT e, Nat.le_of_eq (hidT_size _ _), trivial, fun b hb => absurd (show b ∈ ([] : List Addr) from hb) (by simp), hok, .of_eq hg⟩
    refine codeAny_mono ((F _ hKb (nsK hns)).run callerA [] s₁ H ⟨[.ref a], []⟩ [.ref a] [.ref a] _ _ hr e0 (hbind s₁ (.ref a)) (.cons rfl .nil) (hsp H hO hS)) fun r s' h => ?_
    cases r with
    | error e => exact (hCX H e s' h).elim
    | ok fl =>
      cases fl with
      | next => exact False.elim h
      | brk => exact False.elim h
      | cont => exact False.elim h
      | ret u =>
        obtain ⟨v, H', os, bare, un, hok', r', q⟩ := h
        have q' : v = .bl true := q
        subst q'
        obtain rfl : u = Value.bool true := r'
        refine ⟨rfl, OldK.of_keep fun b o e => ?_, os, bare⟩
        cases q : H b with
        | none => exact un.keep b o e q (by intro z; exact absurd (show b ∈ ([] : List Addr) from z) (by simp)) (by simp)
        | some u =>
          rcases hO b with z | ⟨ob, xs, z⟩
          · rw [q] at z; cases z
          · have z2 := un.frzs b ob _ z
            obtain ⟨e1, _⟩ := hok b _ z
            obtain ⟨e2, _⟩ := hok' b _ z2
            rw [e] at e1; cases e1
            exact e2
  cases hk : K.lookup a with
  | some o =>
    -- the script is one of the module's own objects
    have e := KX a o hk
    rw [ha] at e
    cases e
    refine core (fun _ => none) (fun _ => .inl rfl) (.inr ⟨_, vs.toArray, _, hk, rfl, rfl, rfl, by rw [List.size_toArray, lenV]; exact hl, by simpa using rv⟩) (fun b u z => by have z' : (none : Option HO) = some u := z; cases z') (fun b z => absurd rfl z) fun z => absurd rfl z
  | none =>
    refine core (fun b => if b = a then some (.frz { cls := .type "list", data := .seq vs.toArray } (.lst (ns.map V.int))) else none) (fun b => ?_) (.inl (.inr ⟨{ cls := .type "list", data := .seq vs.toArray }, if_pos rfl⟩)) (fun b u z => ?_) (fun b z => ?_) fun _ => hk
    · by_cases hb : b = a
      · exact .inr ⟨_, _, if_pos hb⟩
      · exact .inl (if_neg hb)
    · by_cases hb : b = a
      · have z' := (if_pos hb).symm.trans z
        cases z'
        subst hb
        exact ⟨ha, by rw [List.length_map]; exact hl, vs, _, rv, ha⟩
      · have z' := (if_neg hb).symm.trans z
        cases z'
    · by_cases hb : b = a
      · exact hb
      · exact absurd (if_neg hb) z
end L2

namespace L2
open PySem PySem.Spec PyProof.Rows

abbrev KOf {K : PySem.W.Frag} {h : Heap} (_ : K.In h) : PySem.W.Frag := K

theorem walk_of {l : PySem.W.OpenLaw} {n k : Nat} {q : Program} {loose : List Str} {XP : (Str → Option Value) → Heap → Prop} {YP : World → Heap → Prop} {d : DefRec} {K : Params → PySem.W.Frag} {CX : World → CXT} {sp : World → Sp} {x : Str}
    (hn : l.most = some n) (hn2 : n ≤ sizeLine) (hdf : d.params.defaults = []) (hr : Room k callerA)
    (hY : ∀ (w : World) (h : Heap), YP w h → (K w.params).In h)
    (F : ∀ (w : World) (mg : Str → Option Value) (fa : Addr) (h : Heap), (K w.params).In h → h.Ns mainGlobals mg → mg d.name = some (.ref fa) →
      ∃ fd : FuncData, (∀ (s : Shared) (u : Value), BindsTo s fd ⟨[u], []⟩ [(x, u)]) ∧
        ∀ base : Heap, (K w.params).In base → base.Ns mainGlobals mg → FnOk l.prog w (K w.params) mg base (CX w) k fa fd [x] (sp w))
    (hsp : ∀ (w : World) (H : Hp) (a : Addr) (ns : List Int), ns.length ≤ n → Only H → SqL (K w.params) H a (ns.map V.int) → sp w [.ref a] H (fun v _ => v = .bl true) fun _ _ _ => False)
    (hCX : ∀ (w : World) (H : Hp) (s : Shared) (e : Value) (s' : Shared), CX w [] H s (fun _ _ _ => False) e s' → False) :
    PySem.W.WalkO q loose XP YP l.row.toRowW d [] (fun f vs => PySem.call f vs) := by
  refine Att.attach_call hn hdf fun w s₀ s₁ mg mb fa o pm cd doc a vs ns G Y ho hd hcd hmg hobj hints hlen hg => ?_
  have KX := hY w _ Y
  obtain ⟨fd, hb, hF⟩ := F w mg fa _ KX G.T.g hmg
  exact law_call KX G.T.g G.T.b G.T.builtins G.T.nolimit hg hobj hints (Nat.le_trans hlen hn2) hr hF hb (fun H hO hS => hsp w H a ns hlen hO hS) fun H e s' => hCX w H s₁ e s'
end L2

/- THE LAST THEOREM (shape; LID, My.* are yours):
   My.Adr: a structure of the addresses that your layer names (classes, functions); My.Txt K t: a structure (Prop) of the equations over K;
   My.txt_mk : {K} {implicit addresses ..} (e1 : nsIn K mainGlobals "law" = some (some (.ref f))) (e2 : K.lookup f = some ⟨oc, od, .func (fnOf "law" "law" params body scope dV kV doc pm an cdv ct), sl⟩) (e3 : codeIn K cdv "law" = true) .. : ∃ t, My.Txt K t

set_option maxRecDepth 100000 in
set_option maxHeartbeats 0 in
theorem PySem.Challenge.cw_LID_holds : PySem.Challenge.rw_LID.Holds := by
  w_on; o_law; k_head; (case hw => w_witness2)
  k_fill
  refine L2.walk_of (l := PySem.Challenge.rw_LID) (n := 63) (k := 40) (x := "script") (CX := fun w => ..) (sp := fun _ => My.sp_law) rfl (by decide) rfl ⟨rfl, by decide, by decide⟩ (fun w h Y => PySem.W.kIn_of Y) ?F ?S ?C
  case F =>
    intro w mg fa h KX G hmg
    have T : ∃ t, My.Txt (L2.KOf KX) t := by
      dsimp only [L2.KOf]                          -- K must stand as «<heap const> w.params» for k_is
      refine' My.txt_mk ?e1 ?e2 ?e3 ..
      (case e1 => PySem.W.k_is)                    -- in the order: a name -> its address -> its object -> its parts
      (case e2 => PySem.W.k_is)
      ..
    obtain ⟨t, T⟩ := T
    have e0 := hmg.symm.trans (PySem.W.mg_of KX G T.law)
    cases e0                                       -- fa is the law's own address
    exact ⟨_, fun s u => .of_eq rfl, fun base kb nb => My.law_fn T kb nb⟩     -- if «.of_eq rfl» comes too early: refine' ⟨_, ?b, fun base kb nb => My.law_fn T kb nb⟩; exact fun s u => .of_eq rfl
  case S => exact fun w H a ns hl hO hS => ..
  case C => exact ..
(the tactic k_is has no namespace: write k_is) -/

namespace L2
open PySem PySem.Spec PyProof.Rows

def inClass (s : Stmt) (j : Nat) : Stmt := match s with
  | .ClassDef _ _ _ body _ _ _ _ _ _ _ => body.getD j (.Pass ⟨0, 0, 0, 0⟩)
  | _ => .Pass ⟨0, 0, 0, 0⟩
def defArgs (s : Stmt) : Arguments := match s with
  | .FunctionDef _ a _ _ _ _ _ _ _ _ => a
  | _ => { posonlyargs := [], args := [], vararg := none, kwonlyargs := [], kw_defaults := [], kwarg := none, defaults := [] }
def defBody (s : Stmt) : List Stmt := match s with
  | .FunctionDef _ _ b _ _ _ _ _ _ _ => b
  | _ => []
def defScope (s : Stmt) : Scope := match s with
  | .FunctionDef _ _ _ _ _ _ sc _ _ _ => sc
  | _ => { kind := .function, names := [], isGenerator := false, isCoroutine := false }

abbrev CX0 : CXT := fun _ _ _ _ _ _ => False
abbrev E0 : XK := fun _ _ _ => False
theorem pass0 {X : Cx} : Passes CX0 X E0 := fun _ _ _ _ _ _ _ h => h.elim

structure Fun (K : PySem.W.Frag) (x qual : Str) (st : Stmt) (f : Addr) (fd : FuncData) : Prop where
  ex : ∃ (oc : Value) (od : Option Addr) (kV doc pm : Value) (an : Option Addr) (cdv ct : Value) (osl : Array (Option Value)),
    fd = PySem.W.fnOf x qual (defArgs st) (defBody st) (defScope st) .none kV doc pm an cdv ct ∧ K.lookup f = some ⟨oc, od, .func fd, osl⟩ ∧ PySem.W.codeIn K cdv qual = true
  kp : PySem.W.keepIn K (.ref f) = true
section
variable {P : Program} {w : World} {K : PySem.W.Frag} {mg : Str → Option Value} {base : Heap}
theorem Fun.ok {x qual : Str} {st : Stmt} {f : Addr} {fd : FuncData} {N ps : List Str} {k : Nat} {sp : Sp} (F : Fun K x qual st f fd) (S : FnScope N ps (defScope st)) (len : ∀ vs H Q E, sp vs H Q E → vs.length = ps.length)
    (hbody : ∀ (cdv : Value) (A : Around) (outer : List Env) (s : Shared) (H : Hp) (vs : List V) (Q : VK) (E : XK), Room k (A.deeper (envOfC qual (defScope st) s.heap.objs.size f cdv)) → sp vs H Q E →
      ∃ t, PSs (cxOf CX0 P w K mg base N qual (defScope st) f cdv A outer s H E).nox (defBody st) t ∧ t { nx := fun _ H' => Q .non H', rt := Q } (start N vs) H) : FnOk P w K mg base CX0 (k + 1) f fd ps sp := by
  obtain ⟨oc, od, kV, doc, pm, an, cdv, ct, osl, rfl, lk, hcd⟩ := F.ex
  refine fn_of lk hcd S len fun A outer s H vs Q E hr hsp => ?_
  obtain ⟨t, h, q⟩ := hbody cdv A outer s H vs Q E hr hsp
  exact ⟨t, h.nox, q⟩
theorem Fun.binds {x qual : Str} {st : Stmt} {f : Addr} {fd : FuncData} {ps : List Str} (F : Fun K x qual st f fd)
    (h : ∀ (kV doc pm : Value) (an : Option Addr) (cdv ct : Value) (us : List Value), us.length = ps.length → bindArgs (PySem.W.fnOf x qual (defArgs st) (defBody st) (defScope st) .none kV doc pm an cdv ct) ⟨us, []⟩ = pure (ps.zip us)) : Binds K fd ps [] := by
  obtain ⟨oc, od, kV, doc, pm, an, cdv, ct, osl, rfl, lk, hcd⟩ := F.ex
  exact .all (h kV doc pm an cdv ct)
theorem fun_mk {x qual : Str} {st : Stmt} {f : Addr} {oc : Value} {od an : Option Addr} {osl : Array (Option Value)} {kV doc pm cdv ct : Value} (l : K.lookup f = some ⟨oc, od, .func (PySem.W.fnOf x qual (defArgs st) (defBody st) (defScope st) .none kV doc pm an cdv ct), osl⟩)
    (c : PySem.W.codeIn K cdv qual = true) (k : PySem.W.keepIn K (.ref f) = true) : Fun K x qual st f (PySem.W.fnOf x qual (defArgs st) (defBody st) (defScope st) .none kV doc pm an cdv ct) := ⟨⟨oc, od, kV, doc, pm, an, cdv, ct, osl, rfl, l, c⟩, k⟩
end
section
variable {X : Cx}
theorem pv (i : Nat) {x : Str} {pos : Pos} (hN : X.N[i]? = some x := by rfl) (hv : Vis X.env.scope x := by first | exact Or.inl rfl | exact Or.inr (Or.inl rfl) | exact Or.inr (Or.inr rfl)) (hd : (x == ("__debug__" : Str)) = false := by decide)
    (hcd : (x == ("__classdict__" : Str)) = false := by decide) : PE X (.Name x pos) (tVar i) := pe_var hN hv hd hcd
end

theorem iteF {A B : Prop} (h : B) : if false = true then A else B := by
  rw [if_neg Bool.false_ne_true]
  exact h
theorem iteT {A B : Prop} (h : A) : if true = true then A else B := by
  rw [if_pos rfl]
  exact h
def Same (H H' : Hp) : Prop := ∀ b o, H b = some o → H' b = some o
theorem Same.refl (H : Hp) : Same H H := fun _ _ h => h
theorem Same.trans {H H1 H2 : Hp} (a : Same H H1) (b : Same H1 H2) : Same H H2 := fun c o h => b c o (a c o h)
theorem Same.free {H H' : Hp} (e : Same H H') {l : Addr} (h : H' l = Option.none) : H l = Option.none := by
  cases q : H l with
  | none => rfl
  | some o =>
    rw [e l o q] at h
    cases h
theorem Same.seq {K : PySem.W.Frag} {H H' : Hp} {a : Addr} {xs : List V} (e : Same H H') (h : SqL K H a xs) : SqL K H' a xs := by
  rcases h with (h | ⟨o, h⟩) | h
  · exact .inl (.inl (e _ _ h))
  · exact .inl (.inr ⟨o, e _ _ h⟩)
  · exact .inr h

section
variable {X : Cx}
theorem call_lenD : CallR X (.builtin "len") (fun xs H Q => ∃ a kvs, xs = [V.ref a] ∧ H a = some (.dK kvs) ∧ Q (.int kvs.length) H) := by
  intro pins s σ H xs us Q I r h
  obtain ⟨a, kvs, rfl, ha, q⟩ := h
  obtain ⟨u, rfl, ru⟩ := vals1 r
  cases ru
  exact d_len I (.inl ha) fun t s' I' => ⟨.int kvs.length, H, I', ⟨t, rfl⟩, q⟩
end
end L2
set_option maxRecDepth 100000
set_option maxHeartbeats 4000000
namespace L2
open PySem PySem.Spec PyProof.Rows

def closL (cells : List (Str × Addr)) : List (Str × NameKind) → List (Str × Addr) → List (Str × Addr)
  | [], acc => acc
  | (n, k) :: r, acc => if k == NameKind.free then (match cells.lookup n with
    | some c => closL cells r ((n, c) :: acc)
    | none => closL cells r acc) else closL cells r acc

theorem closL_sound (cells : List (Str × Addr)) : ∀ (ns : List (Str × NameKind)) (acc : List (Str × Addr)), (∀ x c, acc.lookup x = some c → cells.lookup x = some c) →
    ∀ x c, (closL cells ns acc).lookup x = some c → cells.lookup x = some c
  | [], acc, h, x, c, e => h x c e
  | (n, k) :: r, acc, h, x, c, e => by
    unfold closL at e
    by_cases hk : (k == NameKind.free) = true
    · rw [if_pos hk] at e
      cases hc : cells.lookup n with
      | none =>
        rw [hc] at e
        exact closL_sound cells r acc h x c e
      | some d =>
        rw [hc] at e
        refine closL_sound cells r _ (fun y z q => ?_) x c e
        rw [List.lookup_cons] at q
        by_cases hy : (y == n) = true
        · rw [hy] at q
          have : d = z := Option.some.inj q
          subst this
          rw [eq_of_beq hy]
          exact hc
        · have hy' : (y == n) = false := by simpa using hy
          rw [hy'] at q
          exact h y z q
    · rw [if_neg hk] at e
      exact closL_sound cells r acc h x c e

theorem closL_keep (cells : List (Str × Addr)) : ∀ (ns : List (Str × NameKind)) (acc : List (Str × Addr)) (x : Str), (acc.lookup x).isSome = true → ((closL cells ns acc).lookup x).isSome = true
  | [], _, _, h => h
  | (n, k) :: r, acc, x, h => by
    unfold closL
    by_cases hk : (k == NameKind.free) = true
    · rw [if_pos hk]
      cases hc : cells.lookup n with
      | none => exact closL_keep cells r acc x h
      | some d =>
        refine closL_keep cells r _ x ?_
        rw [List.lookup_cons]
        by_cases hy : (x == n) = true
        · rw [hy]; rfl
        · have hy' : (x == n) = false := by simpa using hy
          rw [hy']; exact h
    · rw [if_neg hk]
      exact closL_keep cells r acc x h

theorem closL_has (cells : List (Str × Addr)) : ∀ (ns : List (Str × NameKind)) (acc : List (Str × Addr)) (x : Str) (c : Addr), (x, NameKind.free) ∈ ns → cells.lookup x = some c → (closL cells ns acc).lookup x ≠ none
  | [], _, _, _, h, _ => absurd h (by simp)
  | (n, k) :: r, acc, x, c, h, hc => by
    rcases List.mem_cons.mp h with e | h
    · have e1 : x = n := congrArg Prod.fst e
      have e2 : NameKind.free = k := congrArg Prod.snd e
      subst e1; subst e2
      unfold closL
      rw [if_pos (by decide), hc]
      have q := closL_keep cells r ((x, c) :: acc) x (by rw [List.lookup_cons]; simp)
      intro z
      rw [z] at q
      cases q
    · unfold closL
      by_cases hk : (k == NameKind.free) = true
      · rw [if_pos hk]
        cases cells.lookup n with
        | none => exact closL_has cells r acc x c h hc
        | some d => exact closL_has cells r _ x c h hc
      · rw [if_neg hk]
        exact closL_has cells r acc x c h hc

theorem closL_fun (env : Env) : ∀ (ns : List (Str × NameKind)) (acc : List (Str × Addr)), (∀ n, (n, NameKind.free) ∈ ns → ∃ c, env.cells.lookup n = some c) →
    (forIn ns acc fun (x : Str × NameKind) (cs : List (Str × Addr)) =>
      (match x with
      | (name, kind) => if (kind == NameKind.free) = true then do let a ← cellOf env name; pure (ForInStep.yield ((name, a) :: cs)) else pure (ForInStep.yield cs) : Sem (ForInStep (List (Str × Addr))))) = pure (closL env.cells ns acc)
  | [], acc, _ => by rw [List.forIn_nil]; rfl
  | (n, k) :: r, acc, h => by
    rw [List.forIn_cons]
    unfold closL
    by_cases hk : (k == NameKind.free) = true
    · obtain ⟨c, hc⟩ := h n (by rw [eq_of_beq hk]; exact List.mem_cons_self)
      have e : cellOf env n = pure c := by unfold cellOf; rw [hc]
      simp only [hk, if_true, hc, e, pure_bind]
      exact closL_fun env r _ fun m hm => h m (List.mem_cons_of_mem _ hm)
    · simp only [hk, if_false, pure_bind]
      exact closL_fun env r _ fun m hm => h m (List.mem_cons_of_mem _ hm)

theorem closureFor_eq {scope : Scope} {env : Env} (h : ∀ n, (n, NameKind.free) ∈ scope.names → ∃ c, env.cells.lookup n = some c) : closureFor scope env = pure (closL env.cells scope.names []) := by
  have e := closL_fun env scope.names [] h
  unfold closureFor
  first
    | (simp only [e, pure_bind]; done)
    | (rw [show (forIn scope.names ([] : List (Str × Addr)) _ : Sem _) = _ from e]; rfl)

theorem relabel_kind (env : Env) : ∀ {names : List (Str × NameKind)} {x : Str} {k : NameKind},
    (names.map fun (n, k) => if (k == NameKind.free && env.scope.kind == .function && env.kindOf n == some .cell) then (n, NameKind.cell) else (n, k)).lookup x = some k →
    ∃ k', names.lookup x = some k' ∧ (k = k' ∨ (k = .cell ∧ k' = .free))
  | [], _, _, h => by simp at h
  | (n, j) :: r, x, k, h => by
    by_cases hc : (j == NameKind.free && env.scope.kind == .function && env.kindOf n == some .cell) = true
    · rw [List.map_cons] at h
      simp only [hc, if_true] at h
      rw [List.lookup_cons] at h ⊢
      by_cases hx : (x == n) = true
      · rw [hx] at h ⊢
        have e1 : k = NameKind.cell := (Option.some.inj h).symm
        have e2 : j = NameKind.free := by
          have := hc
          simp only [Bool.and_eq_true] at this
          exact eq_of_beq this.1.1
        exact ⟨j, rfl, .inr ⟨e1, e2⟩⟩
      · have hx' : (x == n) = false := by simpa using hx
        rw [hx'] at h ⊢
        exact relabel_kind env h
    · rw [List.map_cons] at h
      simp only [hc, Bool.false_eq_true, if_false] at h
      rw [List.lookup_cons] at h ⊢
      by_cases hx : (x == n) = true
      · rw [hx] at h ⊢
        exact ⟨j, rfl, .inl (Option.some.inj h).symm⟩
      · have hx' : (x == n) = false := by simpa using hx
        rw [hx'] at h ⊢
        exact relabel_kind env h

theorem relabel_free (env : Env) : ∀ {names : List (Str × NameKind)} {x : Str}, names.lookup x = some .free →
    (names.map fun (n, k) => if (k == NameKind.free && env.scope.kind == .function && env.kindOf n == some .cell) then (n, NameKind.cell) else (n, k)).lookup x = some .cell ∨
    (names.map fun (n, k) => if (k == NameKind.free && env.scope.kind == .function && env.kindOf n == some .cell) then (n, NameKind.cell) else (n, k)).lookup x = some .free
  | [], _, h => by simp at h
  | (n, j) :: r, x, h => by
    rw [List.lookup_cons] at h
    by_cases hx : (x == n) = true
    · rw [hx] at h
      have e : j = NameKind.free := Option.some.inj h
      subst e
      by_cases hc : (NameKind.free == NameKind.free && env.scope.kind == .function && env.kindOf n == some .cell) = true
      · left
        rw [List.map_cons]
        simp only [hc, if_true]
        rw [List.lookup_cons, hx]
      · right
        rw [List.map_cons]
        simp only [hc, Bool.false_eq_true, if_false]
        rw [List.lookup_cons, hx]
    · have hx' : (x == n) = false := by simpa using hx
      rw [hx'] at h
      rw [List.map_cons]
      by_cases hc : (j == NameKind.free && env.scope.kind == .function && env.kindOf n == some .cell) = true
      · simp only [hc, if_true]
        rw [List.lookup_cons, hx']
        exact relabel_free env h
      · simp only [hc, Bool.false_eq_true, if_false]
        rw [List.lookup_cons, hx']
        exact relabel_free env h

theorem mem_of_look {α : Type} : ∀ {l : List (Str × α)} {x : Str} {k : α}, l.lookup x = some k → (x, k) ∈ l
  | [], _, _, h => by simp at h
  | (n, j) :: r, x, k, h => by
    rw [List.lookup_cons] at h
    by_cases hx : (x == n) = true
    · rw [hx] at h
      have e : j = k := Option.some.inj h
      rw [eq_of_beq hx, e]
      exact List.mem_cons_self
    · have hx' : (x == n) = false := by simpa using hx
      rw [hx'] at h
      exact List.mem_cons_of_mem _ (mem_of_look h)

def inner (k : Nat) (caps : List Nat) (σ : St) : St := List.replicate k none ++ caps.map fun j => (σ[j]?).join

abbrev pushD (s : Shared) : Shared := { s with heap := s.heap.push { cls := .type "list", dict := none, data := .seq ([] : List Value).toArray } }

def cxComp (X : Cx) (N : List Str) (scope : Scope) (pins : List (Addr × Obj)) (fp : List Addr) (s : Shared) (H : Hp) : Cx where
  prog := X.prog
  w := X.w
  K := X.K
  mg := X.mg
  base := X.base
  A := X.A
  N := N
  s₀ := pushD s
  H₀ := upd H s.heap.objs.size (.lst [])
  env := compEnvC scope (closL X.env.cells scope.names []) (s.heap.objs.size + 1) X.env
  outer := X.stack
  stack := X.stack
  ex := fp
  fn := fun _ => false
  calm := X.calm
  pn := X.pn ++ pins
  xe := fun _ _ => False

structure Block (X : Cx) (N : List Str) (scope : Scope) (k : Nat) (caps : List Nat) : Prop where
  kind : scope.kind = .function
  nocell : ∀ y ∈ scope.names, y.2 ≠ .cell
  frees : ∀ y ∈ scope.names, y.2 = .free → X.env.scope.names.lookup y.1 = some .cell ∨ X.env.scope.names.lookup y.1 = some .free
  locals : ∀ y ∈ scope.names, y.2 = .local → scope.names.lookup y.1 = some .local
  len : N.length = k + caps.length
  cap : ∀ i j, caps[i]? = some j → ∃ x, N[k + i]? = some x ∧ X.N[j]? = some x ∧ scope.names.lookup x = some .free

section
variable {X : Cx} {N : List Str} {scope : Scope} {k : Nat} {caps : List Nat} {pins : List (Addr × Obj)} {fp : List Addr} {σ : St} {H : Hp} {s : Shared} {h₁ : Heap} {tk : Nat}

theorem comp_start (B : Block X N scope k caps) (I : Inv X pins σ H s) (hf : ∀ b ∈ fp, FpOk X pins H b) (ho : ∀ b ∈ fp, ∃ o, s.heap.get? b = some o)
    (hn : h₁.Ns (s.heap.objs.size + 1) (fun _ => none)) (hk : ∀ b o, (pushD s).heap.get? b = some o → h₁.get? b = some o) :
    Inv (cxComp X N scope pins fp s H) [] (inner k caps σ) (upd H s.heap.objs.size (.lst [])) { s with heap := h₁, toks := tk } := by
  have szD : (pushD s).heap.objs.size = s.heap.objs.size + 1 := Heap.size_push ..
  have upD : ∀ b o, s.heap.get? b = some o → (pushD s).heap.get? b = some o := fun b o e => Heap.get?_push_of_some _ e
  have up : ∀ b o, s.heap.get? b = some o → h₁.get? b = some o := fun b o e => hk b o (upD b o e)
  have lt : ∀ {b o}, s.heap.get? b = some o → b ≠ s.heap.objs.size := fun e => Nat.ne_of_lt (Heap.lt_size e)
  have ltC : ∀ {b o}, s.heap.get? b = some o → b ≠ s.heap.objs.size + 1 := fun e => Nat.ne_of_lt (Nat.lt_succ_of_lt (Heap.lt_size e))
  have snd : ∀ x c, (closL X.env.cells scope.names []).lookup x = some c → X.env.cells.lookup x = some c := closL_sound _ _ _ fun x c e => by simp at e
  have isfree : ∀ x, (relabel scope X.env).names.lookup x = some .cell ∨ (relabel scope X.env).names.lookup x = some .free → scope.names.lookup x = some .free := fun x h => by
    rcases h with h | h
    · obtain ⟨k', e, z⟩ := relabel_kind X.env h
      rcases z with z | ⟨_, z⟩
      · rw [← z] at e; exact absurd rfl (B.nocell _ (mem_of_look e))
      · rw [z] at e; exact e
    · obtain ⟨k', e, z⟩ := relabel_kind X.env h
      rcases z with z | ⟨z, _⟩
      · rw [← z] at e; exact e
      · cases z
  have hasC : ∀ x, scope.names.lookup x = some .free → ∃ c, X.env.cells.lookup x = some c := fun x h => I.ok.has x (B.frees _ (mem_of_look h) rfl)
  have hasL : ∀ x c, scope.names.lookup x = some .free → X.env.cells.lookup x = some c → (closL X.env.cells scope.names []).lookup x = some c := fun x c h hc => by
    cases e : (closL X.env.cells scope.names []).lookup x with
    | none => exact absurd e (closL_has _ _ _ x c (mem_of_look h) hc)
    | some d => rw [← hc, snd x d e]
  have stk : ∀ b ∈ frs X.stack, H b = none ∧ b ≠ s.heap.objs.size := fun b hb => ⟨I.stkFree b hb, by
    obtain ⟨_, o, e, _⟩ := I.stack.mem hb
    exact lt e⟩
  refine ⟨⟨I.ok.mod, B.kind, I.ok.glob, I.ok.blt, Nat.le_of_eq szD, fun x y c h1 h2 => I.ok.inj x y c (snd x c h1) (snd y c h2), fun x h => ?_, fun x c h => absurd h (by simp [cxComp]), I.ok.hd, I.ok.frames, .inl rfl, fun b hb => ?_, fun b o e => ?_, ?_, fun b o e hb => ?_, fun b hb hs => ?_, ?_, fun b hb => ?_⟩,
    rfl, I.bare, Un.kept hk, ⟨_, hn, fun i x v h1 h2 h3 => ?_⟩, fun x c h => ?_, ?_, fun x c h => ?_, fun p hp => ?_, ?_, ?_⟩
  · -- has
    have hfx := isfree x h
    obtain ⟨c, hc⟩ := hasC x hfx
    exact ⟨c, hasL x c hfx hc⟩
  · -- exf
    obtain ⟨o, e⟩ := ho b hb
    exact ⟨ltC e, fun x c h => (hf b hb).2.2.2.2.1 x c (snd x c h)⟩
  · -- bs
    obtain ⟨e1, e2⟩ := I.bs b o e
    refine ⟨upD b o e1, ?_⟩
    show upd H _ _ b = none
    rw [upd_ne (lt e1)]; exact e2
  · -- bsz
    show X.base.objs.size ≤ (pushD s).heap.objs.size
    have := I.sz
    have := I.ok.bsz
    omega
  · -- noex
    rcases (hf b hb).2.2.2.1 with z | z
    · exact I.ok.noex b o e z
    · exact absurd (Nat.lt_of_lt_of_le (Heap.lt_size e) (Nat.le_trans I.ok.bsz z)) (Nat.lt_irrefl _)
  · -- exfs
    rcases List.mem_cons.mp (I.stkSub b hs) with z | z
    · exact (hf b hb).2.1 z
    · exact (hf b hb).2.2.1 z
  · -- funs
    exact I.stack.of_keeps fun b o e _ => ⟨o, upD b o e, rfl⟩
  · -- frf
    show upd H _ _ b = none
    rw [upd_ne (stk b hb).2]; exact (stk b hb).1
  · -- loc
    have hlt : ¬ i < k := fun hlt => by
      unfold inner at h2
      rw [List.getElem?_append_left (by simpa using hlt), List.getElem?_replicate, if_pos hlt] at h2
      cases h2
    obtain ⟨j, rfl⟩ : ∃ j, i = k + j := ⟨i - k, by omega⟩
    unfold inner at h2
    rw [List.getElem?_append_right (by simp), List.length_replicate, Nat.add_sub_cancel_left, List.getElem?_map] at h2
    cases hj : caps[j]? with
    | none => rw [hj] at h2; cases h2
    | some q =>
      rw [hj] at h2
      obtain ⟨y, hy1, hy2, hy3⟩ := B.cap j q hj
      have exy : y = x := Option.some.inj (hy1.symm.trans h1)
      subst exy
      have hv : σ[q]? = some (some v) := by
        have h2' : (σ[q]?).join = some v := Option.some.inj h2
        cases hq : σ[q]? with
        | none => rw [hq] at h2'; cases h2'
        | some w' => rw [hq] at h2'; rw [show w' = some v from h2']
      obtain ⟨m, hnm, hl⟩ := I.loc
      have fr := B.frees _ (mem_of_look hy3) rfl
      obtain ⟨u, ru, lk⟩ := hl q y v hy2 hv (.inr fr)
      refine ⟨u, ru, .inr ⟨relabel_free X.env hy3, ?_⟩⟩
      rcases lk with ⟨z, _⟩ | ⟨_, c, hc, ic⟩
      · exfalso
        have z' : X.env.scope.names.lookup y = some .local := z
        rcases fr with fr | fr
        · rw [z'] at fr; cases fr
        · rw [z'] at fr; cases fr
      · exact ⟨c, hasL y c hy3 hc, ic.keeps up⟩
  · -- cell
    obtain ⟨v, ic⟩ := I.cell x c (snd x c h)
    exact ⟨v, ic.keeps up⟩
  · -- free
    show upd H _ _ (s.heap.objs.size + 1) = none
    rw [upd_ne (Nat.succ_ne_self _)]
    exact I.hok.fresh (Nat.le_succ _)
  · -- freeC
    obtain ⟨v, o, e, _⟩ := I.cell x c (snd x c h)
    show upd H _ _ c = none
    rw [upd_ne (lt e)]
    exact I.freeC x c (snd x c h)
  · -- pin
    have hp' : p ∈ X.pn ++ pins := by
      have hp2 : p ∈ (X.pn ++ pins) ++ [] := hp
      rw [List.append_nil] at hp2
      exact hp2
    obtain ⟨e, n, ne, nf, d⟩ := I.pin p hp'
    refine ⟨up _ _ e, ?_, ltC e, fun z => ?_, d⟩
    · show upd H _ _ p.1 = none
      rw [upd_ne (lt e)]; exact n
    · rcases List.mem_cons.mp (I.stkSub p.1 z) with z | z
      · exact ne z
      · exact nf z
  · -- hok
    refine I.hok.laid up (Nat.le_refl _) ?_
    exact ⟨Nat.zero_le _, [], 0, .nil, hk _ _ (Heap.get?_push_size _ rfl)⟩
  · -- len
    unfold inner
    rw [List.length_append, List.length_replicate, List.length_map]
    exact B.len.symm

theorem comp_end {σ' : St} {H' : Hp} {s' : Shared} {h' : Heap} {pins' : List (Addr × Obj)} (I : Inv X pins σ H s) (hf : ∀ b ∈ fp, FpOk X pins H b) (J : Inv (cxComp X N scope pins fp s H) pins' σ' H' s')
    (hs : Heap.SameBut (s.heap.objs.size + 1) s'.heap h') : Inv X pins σ H' { s' with heap := h' } := by
  have freeD : H s.heap.objs.size = none := I.hok.fresh (Nat.le_refl _)
  have lt : ∀ {b o}, s.heap.get? b = some o → b ≠ s.heap.objs.size := fun e => Nat.ne_of_lt (Heap.lt_size e)
  have ltC : ∀ {b o}, s.heap.get? b = some o → b ≠ s.heap.objs.size + 1 := fun e => Nat.ne_of_lt (Nat.lt_succ_of_lt (Heap.lt_size e))
  have upD : ∀ b o, s.heap.get? b = some o → (pushD s).heap.get? b = some o := fun b o e => Heap.get?_push_of_some _ e
  have U : Un (frs X.stack) fp (upd H s.heap.objs.size (.lst [])) H' (pushD s).heap s'.heap := J.base
  have freeC : H' (s.heap.objs.size + 1) = none := J.free
  refine I.call' (s' := { s' with heap := h' }) (ch := fp) J.os ⟨fun b o e n hb hx => ?_, fun b o e n hb hx => ?_, fun b o e n hx => ?_, fun b o e hx => ?_, fun b xs e => ?_, fun b o u e => ?_, fun b ps e => ?_⟩ (fun b o e => ?_) J.bare fun b hb => ?_
  · show h'.get? b = some o
    rw [hs.2 b (ltC e)]
    exact U.keep b o (upD b o e) (by rw [upd_ne (lt e)]; exact n) hb hx
  · obtain ⟨sl, q⟩ := U.slot b o (upD b o e) (by rw [upd_ne (lt e)]; exact n) hb hx
    exact ⟨sl, by show h'.get? b = _; rw [hs.2 b (ltC e)]; exact q⟩
  · exact U.free b o (upD b o e) (by rw [upd_ne (lt e)]; exact n) hx
  · obtain ⟨o', q⟩ := U.there b o (upD b o e) hx
    exact ⟨o', by show h'.get? b = _; rw [hs.2 b (ltC e)]; exact q⟩
  · exact U.tups b xs (by rw [upd_ne (ne_of_none e freeD)]; exact e)
  · exact U.frzs b o u (by rw [upd_ne (ne_of_none e freeD)]; exact e)
  · exact U.tbls b ps (by rw [upd_ne (ne_of_none e freeD)]; exact e)
  · refine (J.hok b o e).stay (fun c v hc q => ?_) (fun _ q => q) fun _ _ q => q
    have hne : c ≠ s.heap.objs.size + 1 := by
      rcases hc with z | z
      · rw [z]; intro w'; rw [w', freeC] at e; cases e
      · intro w'; rw [w', freeC] at z; cases z
    show h'.get? c = some v
    rw [hs.2 c hne]; exact q
  · obtain ⟨f0, f1, f2, f3, f4, f5⟩ := hf b hb
    exact ⟨f3, f1, f4, f5⟩
end

section
variable {prog : Program} {w : World} {A : Around} {R : Result → Shared → Prop} {s : Shared}
theorem comp_turns {elt target iter : Expr} {ifs : List Expr} {scope : Scope} {pos : Pos} {it acc : Value} {env : Env} (J : Nat → Shared → Prop) (n : Nat) (h0 : J n s)
    (turn : ∀ n s, J n s → wpAny (model prog w) A (pyNext it) (fun r s1 => match r with
      | none => R (.ok .next) s1
      | some v => wpAny (model prog w) A (letOwnedTupleGo target it v) (fun _ s2 => wpAny (model prog w) A (assign target env v) (fun _ s3 =>
          wpAny (model prog w) A (forIn ifs true fun c r => if r = true then do let ok ← isTrue c env (eval c env); pure (ForInStep.yield ok) else pure (ForInStep.yield r)) (fun ok s4 =>
            if ok = true then wpAny (model prog w) A (eval elt env) (fun x s5 =>
              wpAny (model prog w) A (call (.builtin "list.append") [acc, x]) (fun _ s6 => ∃ m, m < n ∧ J m s6) (fun _ _ => False) s5) (fun _ _ => False) s4
            else ∃ m, m < n ∧ J m s4) (fun _ _ => False) s3) (fun _ _ => False) s2) (fun _ _ => False) s1) (fun _ _ => False) s) :
    codeAny (model prog w) A (.compLoop (.ListComp elt [⟨target, iter, ifs, 0⟩] scope pos) 0 it acc env) R s := by
  have no : ∀ {e : Value} {s' : Shared}, False → notedBy (model prog w) A env (fun e s' => R (.error e) s') e s' := fun h => False.elim h
  refine codeAny_loop rfl J (fun n s hJ => ?_) n h0
  show wpAny (model prog w) A ((compTurn (.ListComp elt [⟨target, iter, ifs, 0⟩] scope pos) 0 it acc env).onRaise (fun x => do noteFrame x env; theTreesLotGoes x)) _ _ s
  refine wpAny_noted ?_
  rw [compTurn_list]
  refine wpAny_bind (wpAny_standAt (wpAny_bind (wpAny_mono (turn n s hJ) (fun r s1 h1 => ?_) fun _ _ h' => no h')))
  cases r with
  | none => exact wpAny_pure h1
  | some v =>
    refine wpAny_bind (wpAny_mono h1 (fun _ s2 h2 => ?_) fun _ _ h' => no h')
    refine wpAny_bind (wpAny_mono h2 (fun _ s3 h3 => wpAny_bind (wpAny_mono h3 (fun ok s4 h4 => ?_) fun _ _ h' => no h')) fun _ _ h' => no h')
    cases ok with
    | false => exact wpAny_pure ⟨rfl, h4⟩
    | true =>
      have h4' := h4
      rw [if_pos rfl] at h4'
      exact wpAny_bind (wpAny_bind (wpAny_mono h4' (fun x s5 h5 => wpAny_bind (wpAny_mono h5 (fun _ s6 h6 => wpAny_pure (wpAny_pure ⟨rfl, h6⟩)) fun _ _ h' => no h')) fun _ _ h' => no h'))
end

inductive PIfs (X : Cx) : List Expr → TT → Prop
  | none : PIfs X [] (fun _ H Q => Q true H)
  | one {c : Expr} {t : TT} : PT X c t → PIfs X [c] t

def CompAt (D : Addr) (J : It) (g : TG) (ti : TT) (te : TE) (k : Nat) (caps : List Nat) (σ : St) (Q : VK) (H1 : Hp) : Prop :=
  ∃ W : Nat → Nat → List V → Hp → Prop, (∃ m, W 0 m [] (upd H1 D (.lst []))) ∧
    ∀ i m ys H2, W i m ys H2 → H2 D = some (.lst ys) ∧ ((J.stop i H2 ∧ Q (.ref D) H2) ∨ (J.go i H2 ∧ ys.length < sizeLine ∧ ∀ x H3, J.yld i H2 x H3 →
      g x (inner k caps σ) H3 fun σ4 H4 => (σ4.length = (inner k caps σ).length ∧ σ4.drop k = (inner k caps σ).drop k) ∧
        ti σ4 H4 fun b H5 => if b = true then te σ4 H5 fun y H6 => H6 D = some (.lst ys) ∧ ∃ m', m' < m ∧ W (i + 1) m' (ys ++ [y]) (upd H6 D (.lst (ys ++ [y]))) else ∃ m', m' < m ∧ W (i + 1) m' ys H5))
def CompBody (J : It) (g : TG) (ti : TT) (te : TE) (k : Nat) (caps : List Nat) (σ : St) (Q : VK) (H1 : Hp) : Prop := ∀ D, H1 D = none → CompAt D J g ti te k caps σ Q H1
def tComp (wi : TI) (g : TG) (ti : TT) (te : TE) (k : Nat) (caps : List Nat) : TE := fun σ H Q => wi σ H fun J H1 => CompBody J g ti te k caps σ Q H1

section
variable {X : Cx} {N : List Str} {scope : Scope} {k : Nat} {caps : List Nat} {tg elt iter : Expr} {ifs : List Expr} {wi : TI} {g : TG} {ti : TT} {te : TE} {pos : Pos}

theorem inner_weak {σ σ4 : St} (h1 : σ4.length = (inner k caps σ).length) (h2 : σ4.drop k = (inner k caps σ).drop k) (i : Nat) (v : V) (h : (inner k caps σ)[i]? = some (some v)) : σ4[i]? = some (some v) := by
  have hlt : ¬ i < k := fun hlt => by
    unfold inner at h
    rw [List.getElem?_append_left (by simpa using hlt), List.getElem?_replicate, if_pos hlt] at h
    cases h
  obtain ⟨j, rfl⟩ : ∃ j, i = k + j := ⟨i - k, by omega⟩
  have e1 : (σ4.drop k)[j]? = σ4[k + j]? := List.getElem?_drop
  have e2 : ((inner k caps σ).drop k)[j]? = (inner k caps σ)[k + j]? := List.getElem?_drop
  rw [← e1, h2, e2, h]

theorem comp_block {E : Value → Shared → Prop} {pins : List (Addr × Obj)} {σ : St} {H : Hp} {s : Shared} {it : Addr} {fp : List Addr} {tn : Nat → Heap → Prop} {J : It} {RR : Value → Addr → Result → Shared → Prop} (B : Block X N scope k caps) (hcalm : X.calm = true)
    (hg : ∀ pins fp s H, ∃ t, PG (cxComp X N scope pins fp s H) tg t ∧ t = g) (hi : ∀ pins fp s H, ∃ t, PIfs (cxComp X N scope pins fp s H) ifs t ∧ t = ti) (he : ∀ pins fp s H, ∃ t, PE (cxComp X N scope pins fp s H) elt t ∧ t = te)
    (I : Inv X pins σ H s) (T : Turn X.prog X.w X.K tg J fp it tn) (st : tn 0 s.heap) (hf : ∀ b ∈ fp, FpOk X pins H b) (Q : VK)
    (hw : CompAt s.heap.objs.size J g ti te k caps σ Q H)
    (hRR : ∀ s' H', (∃ m, s'.heap.Ns (s.heap.objs.size + 1) m) → H' (s.heap.objs.size + 1) = none → (∀ h', Heap.SameBut (s.heap.objs.size + 1) s'.heap h' → Inv X pins σ H' { s' with heap := h' }) → Q (.ref s.heap.objs.size) H' → RR (.ref s.heap.objs.size) (s.heap.objs.size + 1) (.ok .next) s') :
    wpAny (model X.prog X.w) X.A (newList []) (fun acc s3 => wpAny (model X.prog X.w) X.A (newFunctionEnv scope X.env.globals (closL X.env.cells scope.names []) [] X.env.qual none .none (some X.env)) (fun cenv s4 =>
      codeAny (model X.prog X.w) X.A (.compStart (.ListComp elt [⟨tg, iter, ifs, 0⟩] scope pos) 0 (.ref it) acc { cenv with scope := relabel scope X.env }) (RR acc cenv.locals) s4) E s3) E s := by
  obtain ⟨W, ⟨m0, w0⟩, turn⟩ := hw
  obtain ⟨tg', hg1, eg⟩ := hg pins fp s H
  clear hg
  subst eg
  obtain ⟨ti', hi1, ei⟩ := hi pins fp s H
  clear hi
  subst ei
  obtain ⟨te', he1, ee⟩ := he pins fp s H
  clear he
  subst ee
  refine wpAny_newObj_type (wpAny_newFunctionEnv B.nocell (by intro y hy; simp at hy) (fun h₁ hns₁ hsb₁ => ?_) B.kind)
  dsimp only at hns₁ hsb₁ ⊢
  have szD : (pushD s).heap.objs.size = s.heap.objs.size + 1 := Heap.size_push ..
  have eC : (s.heap.push { cls := .type "list", dict := none, data := .seq ([] : List Value).toArray }).objs.size = s.heap.objs.size + 1 := szD
  rw [eC] at hns₁ hsb₁ ⊢
  have hk₁ : ∀ b o, (pushD s).heap.get? b = some o → h₁.get? b = some o := fun b o e => by
    have l : b ≠ s.heap.objs.size + 1 := by
      have l1 := Heap.lt_size e
      rw [szD] at l1
      exact Nat.ne_of_lt l1
    exact hsb₁.extBut b o l (Heap.get?_push_of_some _ e)
  have st₁ : tn 0 h₁ := T.keep 0 s.heap h₁ st fun b _ o e => hk₁ b o (Heap.get?_push_of_some _ e)
  have ho : ∀ b ∈ fp, ∃ o, s.heap.get? b = some o := fun b hb => let ⟨o, e, _⟩ := T.obj 0 _ st b hb; ⟨o, e⟩
  have loop : ∀ s1 : Shared, s1 = { s with heap := h₁, toks := s.toks + ([] : List (Str × Value)).length } →
      codeAny (model X.prog X.w) X.A (.compLoop (.ListComp elt [⟨tg, iter, ifs, 0⟩] scope pos) 0 (.ref it) (.ref s.heap.objs.size) (cxComp X N scope pins fp s H).env) (RR (.ref s.heap.objs.size) (s.heap.objs.size + 1)) s1 := by
    rintro s1 rfl
    have I₁ := comp_start (N := N) (tk := s.toks + ([] : List (Str × Value)).length) B I hf ho hns₁ hk₁
    have stat : ∀ {H' : Hp}, (∀ b ∈ fp, H' b = none) → ∀ b ∈ fp, FpOk (cxComp X N scope pins fp s H) [] H' b := fun hn b hb => by
      obtain ⟨_, z⟩ := I₁.ok.exf b hb
      refine ⟨hn b hb, (I₁.ok.exf b hb).1, I₁.ok.exfs b hb, .inl hb, fun x c e => (I₁.ok.exf b hb).2 x c e, fun p hp => ?_⟩
      have hp2 : p ∈ (X.pn ++ pins) ++ [] := hp
      rw [List.append_nil] at hp2
      exact (hf b hb).2.2.2.2.2 p hp2
    refine comp_turns (fun n s' => ∃ i ys H', Inv (cxComp X N scope pins fp s H) [] (inner k caps σ) H' s' ∧ tn i s'.heap ∧ (∀ b ∈ fp, H' b = none) ∧ W i n ys H') m0 ⟨0, [], _, I₁, st₁, fun b hb => ?_, w0⟩ ?_
    · obtain ⟨o, e⟩ := ho b hb
      rw [upd_ne (Nat.ne_of_lt (Heap.lt_size e))]
      exact (hf b hb).1
    · rintro n s2 ⟨i, ys, H2, I2, st2, fr2, w2⟩
      obtain ⟨hD, alt⟩ := turn i n ys H2 w2
      rcases alt with ⟨stop, q⟩ | ⟨go, hz, step⟩
      · refine thn (T.done (cxComp X N scope pins fp s H) rfl rfl rfl hcalm i [] s2 _ H2 _ I2 (stat fr2) st2 stop) fun r s3 ⟨hr, I3⟩ => ?_
        subst hr
        obtain ⟨m, hnm, _⟩ := id I3.loc
        exact hRR s3 H2 ⟨m, hnm⟩ I3.free (fun h' hs => comp_end I hf I3 hs) q
      · refine thn (T.item (cxComp X N scope pins fp s H) rfl rfl rfl hcalm i [] s2 _ H2 _ I2 (stat fr2) st2 go) fun r s3 ⟨u, hr, h3⟩ => ?_
        subst hr
        refine thn h3 fun _ s4 ⟨x, H4, I4, r4, y4, st4, fr4⟩ => ?_
        have I4' := I4.pinned (stat fr4) (T.obj _ _ st4)
        refine thn (hg1 _ s4 _ H4 x u _ I4' r4 (step x H4 y4)) fun _ s5 ⟨σ5, H5, I5, ⟨k1, k2⟩, q5⟩ => ?_
        have back : ∀ {H7 : Hp} {s7 : Shared}, Inv (cxComp X N scope pins fp s H) ([] ++ pinsAt fp s4.heap) σ5 H7 s7 → Inv (cxComp X N scope pins fp s H) [] (inner k caps σ) H7 s7 ∧ tn (i + 1) s7.heap ∧ (∀ b ∈ fp, H7 b = none) := fun {H7 s7} I7 => by
          refine ⟨I7.unpinned.weak k1.symm (inner_weak k1 k2), T.keep _ _ _ st4 fun b hb o e => (I7.pin (b, o) (List.mem_append_right _ (List.mem_append_right _ (mem_pinsAt hb e)))).1, fun b hb => ?_⟩
          obtain ⟨o, e, d⟩ := T.obj _ _ st4 b hb
          exact (I7.pin (b, o) (List.mem_append_right _ (List.mem_append_right _ (mem_pinsAt hb e)))).2.1
        have body : ∀ (ok : Bool) (s6 : Shared) (H6 : Hp), Inv (cxComp X N scope pins fp s H) ([] ++ pinsAt fp s4.heap) σ5 H6 s6 →
            (if ok = true then te' σ5 H6 fun y H6 => H6 s.heap.objs.size = some (.lst ys) ∧ ∃ m', m' < n ∧ W (i + 1) m' (ys ++ [y]) (upd H6 s.heap.objs.size (.lst (ys ++ [y]))) else ∃ m', m' < n ∧ W (i + 1) m' ys H6) →
            (if ok = true then wpAny (model X.prog X.w) X.A (eval elt (cxComp X N scope pins fp s H).env) (fun x s5 =>
              wpAny (model X.prog X.w) X.A (call (.builtin "list.append") [.ref s.heap.objs.size, x]) (fun _ s6 => ∃ m, m < n ∧ ∃ i ys H', Inv (cxComp X N scope pins fp s H) [] (inner k caps σ) H' s6 ∧ tn i s6.heap ∧ (∀ b ∈ fp, H' b = none) ∧ W i m ys H') (fun _ _ => False) s5) (fun _ _ => False) s6
            else ∃ m, m < n ∧ ∃ i ys H', Inv (cxComp X N scope pins fp s H) [] (inner k caps σ) H' s6 ∧ tn i s6.heap ∧ (∀ b ∈ fp, H' b = none) ∧ W i m ys H') := fun ok s6 H6 I6 q6 => by
          cases ok with
          | false =>
            rw [if_neg Bool.false_ne_true] at q6 ⊢
            obtain ⟨m', hm, w6⟩ := q6
            obtain ⟨b1, b2, b3⟩ := back I6
            exact ⟨m', hm, i + 1, ys, H6, b1, b2, b3, w6⟩
          | true =>
            rw [if_pos rfl] at q6 ⊢
            refine thn (he1 _ s6 σ5 H6 _ I6 q6) fun y s7 ⟨yv, H7, I7, r7, hD7, m', hm, w7⟩ => ?_
            refine thn (mt_append (X := cxComp X N scope pins fp s H) _ s7 σ5 H7 (.ref s.heap.objs.size) [yv] (.ref s.heap.objs.size) [y] (fun v H8 => v = .non ∧ H8 = upd H7 s.heap.objs.size (.lst (ys ++ [yv]))) I7 rfl (.cons r7 .nil) ⟨_, ys, yv, rfl, rfl, hD7, hz, rfl, rfl⟩) fun _ s8 ⟨_, H8, I8, _, _, e8⟩ => ?_
            subst e8
            obtain ⟨b1, b2, b3⟩ := back I8
            exact ⟨m', hm, i + 1, _, _, b1, b2, b3, w7⟩
        cases hi1 with
        | none => exact wpAny_tests_nil (body true s5 H5 I5 q5)
        | one hc => exact wpAny_tests_one (thn (hc _ s5 σ5 H5 _ I5 q5) fun ok s6 ⟨H6, I6, q6⟩ => body ok s6 H6 I6 q6)
  exact codeAny_compStart_list (loop _ rfl) (T.self X.A 0 _ _ _ st₁ (loop _ rfl))

theorem pe_comp (B : Block X N scope k caps) (hcalm : X.calm = true) (hwi : PI X tg iter wi)
    (hg : ∀ pins fp s H, ∃ t, PG (cxComp X N scope pins fp s H) tg t ∧ t = g) (hi : ∀ pins fp s H, ∃ t, PIfs (cxComp X N scope pins fp s H) ifs t ∧ t = ti) (he : ∀ pins fp s H, ∃ t, PE (cxComp X N scope pins fp s H) elt t ∧ t = te)
    (hs : ∀ x, foldedSetIterable iter X.env x = pure x := by intro _; rfl) : PE X (.ListComp elt [⟨tg, iter, ifs, 0⟩] scope pos) (tComp wi g ti te k caps) := by
  intro pins s σ H Q I h
  rw [eval_ListComp]
  have hcl : closureFor scope X.env = pure (closL X.env.cells scope.names []) := closureFor_eq fun n hn => I.ok.has n (B.frees _ hn rfl)
  refine wpAny_comprehension_free (use := none) rfl hs hcl B.kind B.locals (thn (hwi pins s σ H _ I h) fun xv s1 h1 => thn h1 fun itv s2 h2 => ?_)
  obtain ⟨it, fp, tn, J, H2, e, I2, T, st2, f2, hw⟩ := h2
  subst e
  refine comp_block (RR := fun acc C => compPost (model X.prog X.w) X.A X.xe none (EP X pins σ Q) acc C) B hcalm hg hi he I2 T st2 f2 Q (hw _ (I2.hok.fresh (Nat.le_refl _))) fun s' H' hm _ hI q => ?_
  obtain ⟨m, hnm⟩ := hm
  exact ⟨m, hnm, fun h' hs' => ⟨.ref _, H', hI h' hs', rfl, q⟩⟩

theorem ps_comp {x : Str} {i : Nat} {px spos : Pos} (B : Block X N scope k caps) (hcalm : X.calm = true) (hwi : PI X tg iter wi)
    (hg : ∀ pins fp s H, ∃ t, PG (cxComp X N scope pins fp s H) tg t ∧ t = g) (hi : ∀ pins fp s H, ∃ t, PIfs (cxComp X N scope pins fp s H) ifs t ∧ t = ti) (he : ∀ pins fp s H, ∃ t, PE (cxComp X N scope pins fp s H) elt t ∧ t = te)
    (hN : X.N.Nodup) (hx : X.N[i]? = some x) (hl : X.env.scope.names.lookup x = some .local)
    (hsw : swapsWith (.ListComp elt [⟨tg, iter, ifs, 0⟩] scope pos) (some (.Name x px)) spos.line X.env = pure true)
    (hs : ∀ x, foldedSetIterable iter X.env x = pure x := by intro _; rfl) : PS X (.Assign [.Name x px] (.ListComp elt [⟨tg, iter, ifs, 0⟩] scope pos) spos) (tAsg (tComp wi g ti te k caps) (gName i)) := by
  intro pins s σ H D I h
  rw [exec_Assign_Name_used _ _ _ _ hsw]
  have hcl : closureFor scope X.env = pure (closL X.env.cells scope.names []) := closureFor_eq fun n hn => I.ok.has n (B.frees _ hn rfl)
  refine wpAny_bind (wpAny_standAt (wpAny_bind ?_))
  show wpAny _ X.A (do let _ ← comprehension (.ListComp elt [⟨tg, iter, ifs, 0⟩] scope pos) scope X.env _ (newList []) false (eval iter X.env) (some (assign (.Name x px) X.env))) _ _ s
  refine wpAny_bind (wpAny_mono (wpAny_comprehension_free (use := some (assign (.Name x px) X.env)) (Q := fun _ s' => SP X pins D .next s') rfl hs hcl B.kind B.locals (thn (hwi pins s σ H _ I h) fun xv s1 h1 => thn h1 fun itv s2 h2 => ?_)) (fun _ s' hq => wpAny_pure (wpAny_pure hq)) fun _ _ e => e)
  obtain ⟨it, fp, tn, J, H2, e, I2, T, st2, f2, hw⟩ := h2
  subst e
  refine comp_block (RR := fun acc C => compPost (model X.prog X.w) X.A X.xe (some (assign (.Name x px) X.env)) (fun _ s' => SP X pins D .next s') acc C) B hcalm hg hi he I2 T st2 f2 (fun v H' => D.nx (σ.set i (some v)) H') (hw _ (I2.hok.fresh (Nat.le_refl _))) fun s' H' hm hfC hI q => ?_
  obtain ⟨m, hnm⟩ := hm
  show wpAny _ X.A (assign (.Name x px) X.env (.ref s2.heap.objs.size)) _ _ s'
  have I3 : Inv X pins σ H' s' := hI s'.heap ⟨rfl, fun _ _ => rfl⟩
  refine wpAny_assign_Name ?_
  have neL : X.env.locals ≠ s2.heap.objs.size + 1 := Nat.ne_of_lt (Nat.lt_succ_of_lt I2.lt)
  refine store_ok2 I3 hN hx (.inl hl) (v := .ref s2.heap.objs.size) rfl (fun s4 I4 ⟨a, hs4, ha⟩ => ?_) (.inr hl)
  have haL : a = X.env.locals ∨ (∃ v, s2.heap.IsCell a v) := ha.imp id fun e => I2.cell x a e
  have neC : s2.heap.objs.size + 1 ≠ a := by
    rcases haL with z | ⟨v, o, e, _⟩
    · rw [z]; exact Ne.symm neL
    · exact Nat.ne_of_gt (Nat.lt_succ_of_lt (Heap.lt_size e))
  refine ⟨m, hnm.sameBut hs4 neC, fun h' hs' => ⟨_, H', ?_, q⟩⟩
  -- the block's names are let go: nothing else changes
  refine I4.turned (t' := s4.toks) (it := s2.heap.objs.size + 1) (fun b o hb e => (hs'.2 b hb).trans e) ?_ (Ne.symm neL) (.inr ?_) (fun y c e => ?_) fun p hp => ?_
  · exact hfC
  · exact Nat.le_trans I2.sz (Nat.le_succ _)
  · obtain ⟨v, o, e, _⟩ := I2.cell y c e
    exact Nat.ne_of_lt (Nat.lt_succ_of_lt (Heap.lt_size e))
  · exact Nat.ne_of_lt (Nat.lt_succ_of_lt (Heap.lt_size (I2.pin p hp).1))
end
end L2
set_option maxRecDepth 100000
set_option maxHeartbeats 4000000
namespace L2
open PySem PySem.Spec PyProof.Rows

section
variable {X : Cx} {pins : List (Addr × Obj)} {σ : St} {H : Hp} {s : Shared} {h' : Heap}
theorem Inv.turnedL {ch : List Addr} {T : Addr} {o : HO} {t' : Nat} (I : Inv X pins σ H s) (hch : ∀ b ∈ ch, FpOk X pins H b)
    (kp : ∀ b u, b ∉ ch → s.heap.get? b = some u → h'.get? b = some u) (hT : s.heap.objs.size ≤ T) (new : ObjOk X.prog X.w (upd H T o) h' T o) : Inv X pins σ (upd H T o) { s with heap := h', toks := t' } := by
  have fT : H T = none := I.hok.fresh hT
  have ltT : ∀ {b u}, s.heap.get? b = some u → b ≠ T := fun e => Nat.ne_of_lt (Nat.lt_of_lt_of_le (Heap.lt_size e) hT)
  have noch : ∀ b u, H b = some u → b ∉ ch := fun b u e z => by rw [(hch b z).1] at e; cases e
  refine I.step (g' := s.gens) (d' := s.drawn) (ch := ch) (fun b hb => ?_) (fun b u _ _ hc e _ => kp b u hc e) (fun b u _ _ hc e _ => ⟨u.slots, kp b u hc e⟩) (fun b u _ e n => by rw [upd_ne (ltT e)]; exact n)
    (fun b u hc e => ⟨u, kp b u hc e⟩) (fun b xs e => by rw [upd_ne (ne_of_none e fT)]; exact e) (fun b u v e => by rw [upd_ne (ne_of_none e fT)]; exact e) (fun b ps e => ⟨#[], by rw [upd_ne (ne_of_none e fT), e]; simp⟩) (fun m hm => ?_) (fun b u e => ?_) I.bare
  · obtain ⟨_, f1, _, f3, f4, f5⟩ := hch b hb
    exact ⟨f3, f1, f4, f5⟩
  · obtain ⟨u, es, ep, e, r⟩ := hm
    exact ⟨u, es, ep, kp _ u (fun z => (hch _ z).2.1 rfl) e, r⟩
  · by_cases hb : b = T
    · subst hb
      rw [upd_same] at e
      cases e
      exact new
    · rw [upd_ne hb] at e
      refine (I.hok b u e).stay (fun c v hc q => kp c v ?_ q) (fun c q => by rw [upd_ne (ne_of_none q fT)]; exact q) fun c xs q => by rw [upd_ne (ne_of_none q fT)]; exact q
      rcases hc with z | z
      · rw [z]; exact noch b u e
      · exact noch c _ z
theorem Inv.turnedN {ch : List Addr} {t' : Nat} (I : Inv X pins σ H s) (hch : ∀ b ∈ ch, FpOk X pins H b)
    (kp : ∀ b u, b ∉ ch → s.heap.get? b = some u → h'.get? b = some u) : Inv X pins σ H { s with heap := h', toks := t' } := by
  have noch : ∀ b u, H b = some u → b ∉ ch := fun b u e z => by rw [(hch b z).1] at e; cases e
  refine I.step (g' := s.gens) (d' := s.drawn) (ch := ch) (fun b hb => ?_) (fun b u _ _ hc e _ => kp b u hc e) (fun b u _ _ hc e _ => ⟨u.slots, kp b u hc e⟩) (fun _ _ _ _ n => n)
    (fun b u hc e => ⟨u, kp b u hc e⟩) (fun _ _ e => e) (fun _ _ _ e => e) (fun b ps e => ⟨#[], by rw [e]; simp⟩) (fun m hm => ?_) (fun b u e => ?_) I.bare
  · obtain ⟨_, f1, _, f3, f4, f5⟩ := hch b hb
    exact ⟨f3, f1, f4, f5⟩
  · obtain ⟨u, es, ep, e, r⟩ := hm
    exact ⟨u, es, ep, kp _ u (fun z => (hch _ z).2.1 rfl) e, r⟩
  · refine (I.hok b u e).stay (fun c v hc q => kp c v ?_ q) (fun _ q => q) fun _ _ q => q
    rcases hc with z | z
    · rw [z]; exact noch b u e
    · exact noch c _ z
end

def Itz (K : PySem.W.Frag) (a b : Addr) : It :=
  ⟨fun i H => ∃ xs ys x y, SqL K H a xs ∧ SqL K H b ys ∧ xs[i]? = some x ∧ ys[i]? = some y,
   fun i H v H' => ∃ T x y, H T = none ∧ v = .ref T ∧ H' = upd H T (.tup [x, y]) ∧ (∀ xs, SqL K H a xs → xs[i]? = some x) ∧ ∀ ys, SqL K H b ys → ys[i]? = some y,
   fun i H => ∃ xs ys, SqL K H a xs ∧ SqL K H b ys ∧ (xs.length ≤ i ∨ ys.length ≤ i)⟩

theorem tup_new {P : Program} {w : World} {H : Hp} {h : Heap} {T : Addr} {xs : List V} {us : List Value} (hz : xs.length ≤ sizeLine) (r : Vals xs us) (e : h.get? T = some { cls := .type "tuple", data := .seq us.toArray }) : ObjOk P w H h T (.tup xs) :=
  ⟨hz, us, r, ⟨_, e, rfl, _, rfl⟩⟩

theorem turn_zip {P : Program} {w : World} {K : PySem.W.Frag} {es : List Expr} {kk : Nat} {tp : Pos} {a b z TI TO i1 i2 : Addr} (D : ZipApart z TI TO i1 i2 a b) :
    Turn P w K (.Tuple es kk tp) (Itz K a b) [z, TI, TO, i1, i2] z (fun i h => IsZip h z TI TO .none ∧ IsPair h TI (.ref i1) (.ref i2) ∧ (∃ u v, IsPair h TO u v) ∧ h.IsListIter i1 a i ∧ h.IsListIter i2 b i) where
  mem := by simp
  obj := fun i h st c hc => by
    obtain ⟨h1, h2, ⟨u, v, h3⟩, ⟨o4, e4, c4, d4⟩, ⟨o5, e5, c5, d5⟩⟩ := st
    simp only [List.mem_cons, List.not_mem_nil, or_false] at hc
    rcases hc with rfl | rfl | rfl | rfl | rfl
    · exact ⟨_, h1, fun v z => by cases z⟩
    · exact ⟨_, h2, fun v z => by cases z⟩
    · exact ⟨_, h3, fun v z => by cases z⟩
    · exact ⟨o4, e4, fun v z => by rw [d4] at z; cases z⟩
    · exact ⟨o5, e5, fun v z => by rw [d5] at z; cases z⟩
  keep := fun i h h' st kp => by
    obtain ⟨h1, h2, ⟨u, v, h3⟩, h4, h5⟩ := st
    exact ⟨kp z (by simp) _ h1, kp TI (by simp) _ h2, ⟨u, v, kp TO (by simp) _ h3⟩, h4.at fun o e => kp i1 (by simp) o e, h5.at fun o e => kp i2 (by simp) o e⟩
  item := by
    intro X hP hw hK hc i pins s σ H E I hf st hg
    subst hP hw hK
    obtain ⟨h1, h2, ⟨u, v, h3⟩, h4, h5⟩ := st
    obtain ⟨xs, ys, x, y, q1, q2, ex, ey⟩ := hg
    obtain ⟨its, rv, p, hz⟩ := I.list q1
    obtain ⟨jts, rw', p', hz'⟩ := I.list q2
    obtain ⟨ux, eu, ru⟩ := rv.get ex
    obtain ⟨uy, ev, rv'⟩ := rw'.get ey
    refine wpAny_pyNext_zip_item D h1 h2 h3 h4 h5 p.isList p'.isList (x := ux) (y := uy) (by simpa using eu) (by simpa using ev) fun g a1 a2 a3 a4 a5 a6 kp => ?_
    refine ⟨_, rfl, wpAny_letOwnedTupleGo_zip a1 fun g' b1 b2 => ?_⟩
    have up : ∀ c o, c ∉ [z, TO, i1, i2] → s.heap.get? c = some o → g'.get? c = some o := fun c o hcn e => by
      simp only [List.mem_cons, List.not_mem_nil, or_false, not_or] at hcn
      exact (b2.2 c hcn.1).trans (kp c o hcn.1 hcn.2.1 hcn.2.2.1 hcn.2.2.2 e)
    have ltz : z < s.heap.objs.size := Heap.lt_size h1
    have fT : H s.heap.objs.size = none := I.hok.fresh (Nat.le_refl _)
    have newT : g'.get? s.heap.objs.size = some { cls := .type "tuple", data := .seq #[ux, uy] } := (b2.2 _ (Nat.ne_of_gt ltz)).trans a5
    have sub : ∀ c ∈ [z, TO, i1, i2], c ∈ [z, TI, TO, i1, i2] := fun c hc => by
      simp only [List.mem_cons, List.not_mem_nil, or_false] at hc ⊢
      rcases hc with rfl | rfl | rfl | rfl <;> simp
    refine ⟨.ref s.heap.objs.size, upd H s.heap.objs.size (.tup [x, y]), I.turnedL (t' := s.toks) (ch := [z, TO, i1, i2]) (fun c hc => hf c (sub c hc)) up (Nat.le_refl _) (tup_new (us := [ux, uy]) (by simp [sizeLine_eq]) (.cons ru (.cons rv' .nil)) newT), rfl, ?_, ?_, fun c hc => ?_⟩
    · exact ⟨_, x, y, fT, rfl, rfl, fun zs hq => by rw [I.list_inj hq q1]; exact ex, fun zs hq => by rw [I.list_inj hq q2]; exact ey⟩
    · exact ⟨b1, (b2.2 _ D.TIz).trans (kp _ _ D.TIz D.TITO D.TIi1 D.TIi2 h2), ⟨_, _, (b2.2 _ D.TOz).trans a2⟩, a3.at fun o e => (b2.2 _ D.i1z).trans e, a4.at fun o e => (b2.2 _ D.i2z).trans e⟩
    · obtain ⟨f0, _⟩ := hf c hc
      obtain ⟨o, e, _⟩ := (show ∃ o, s.heap.get? c = some o ∧ True from by
        simp only [List.mem_cons, List.not_mem_nil, or_false] at hc
        obtain ⟨o4, e4, _⟩ := h4
        obtain ⟨o5, e5, _⟩ := h5
        rcases hc with rfl | rfl | rfl | rfl | rfl
        · exact ⟨_, h1, trivial⟩
        · exact ⟨_, h2, trivial⟩
        · exact ⟨_, h3, trivial⟩
        · exact ⟨_, e4, trivial⟩
        · exact ⟨_, e5, trivial⟩)
      rw [upd_ne (Nat.ne_of_lt (Heap.lt_size e))]
      exact f0
  done := by
    intro X hP hw hK hc i pins s σ H E I hf st hg
    subst hP hw hK
    obtain ⟨h1, h2, ⟨u, v, h3⟩, h4, h5⟩ := st
    obtain ⟨xs, ys, q1, q2, hend⟩ := hg
    obtain ⟨its, rv, p, hz⟩ := I.list q1
    obtain ⟨jts, rw', p', hz'⟩ := I.list q2
    have l1 := rv.length
    have l2 := rw'.length
    refine wpAny_pyNext_zip_end (I.ok.hd hc) D h1 h2 h3 h4 h5 p.isList p'.isList ?_ fun g kp => ⟨rfl, ?_⟩
    · rcases hend with z | z
      · left; simp; omega
      · right; simp; omega
    · refine I.turnedN (t' := s.toks) (ch := [z, TO, i1, i2]) (fun c hc => hf c ?_) fun c o hcn e => ?_
      · simp only [List.mem_cons, List.not_mem_nil, or_false] at hc ⊢
        rcases hc with rfl | rfl | rfl | rfl <;> simp
      · simp only [List.mem_cons, List.not_mem_nil, or_false, not_or] at hcn
        exact kp c o hcn.1 hcn.2.1 hcn.2.2.1 hcn.2.2.2 e
  self := fun _ _ _ _ _ st h => wpAny_pyIter_zip st.1 h

def iZip (K : PySem.W.Frag) (ta : TA) : TI := fun σ H R => ta σ H fun vs H1 => ∃ a b, vs = [.ref a, .ref b] ∧ (∃ xs, SqL K H1 a xs) ∧ (∃ ys, SqL K H1 b ys) ∧ R (Itz K a b) H1
theorem pi_zip {X : Cx} {es : List Expr} {kk : Nat} {tp : Pos} {e f : Expr} {ta : TA} {p pos : Pos} (hg : Gl X "zip") (hm : X.mg "zip" = none) (hv : bootBuiltins "zip" = some (.type "zip")) (ha : PA X [e, f] ta)
    (hs : starEach [e, f] X.env = [(false, eval e X.env), (false, eval f X.env)] := by rfl) (hs2 : starEach [f] X.env = [(false, eval f X.env)] := by rfl) :
    PI X (.Tuple es kk tp) (.Call (.Name "zip" p) [e, f] [] pos) (iZip X.K ta) := by
  intro pins s σ H R I h
  refine Call_ (ld_blt I hg hm hv (PyProof.Rows.callWith_type1 (thn (ha pos pins s σ H _ I h) fun us s1 ⟨vs, H1, I1, r1, q1⟩ => ?_) (by rw [hs, hs2]) (by rw [hs2]; rfl)))
  obtain ⟨a, b, e1, ⟨xs, hq⟩, ⟨ys, hq'⟩, q⟩ := q1
  subst e1
  cases r1 with
  | cons r rr =>
    cases rr with
    | cons r' rr =>
      cases rr
      cases r
      cases r'
      obtain ⟨its, rv, pl, hz⟩ := I1.list hq
      obtain ⟨jts, rw', pl', hz'⟩ := I1.list hq'
      obtain ⟨oa, ea, _⟩ := pl.isList
      obtain ⟨ob, eb, _⟩ := pl'.isList
      have la : @LT.lt Nat _ a s1.heap.objs.size := Heap.lt_size ea
      have lb : @LT.lt Nat _ b s1.heap.objs.size := Heap.lt_size eb
      refine call_zip_2 pl.isList pl'.isList fun g a1 a2 a3 a4 a5 a6 kp => ?_
      have D : ZipApart (s1.heap.objs.size + 4) (s1.heap.objs.size + 2) (s1.heap.objs.size + 3) s1.heap.objs.size (s1.heap.objs.size + 1) a b := by
        constructor <;> (apply show ∀ {x y : Nat}, x ≠ y → x ≠ y from fun h => h) <;> omega
      refine wpAny_pyIter_zip a1 ?_
      have I2 : Inv X pins σ H1 { s1 with heap := g } := I1.kept (t' := s1.toks) kp
      refine ⟨_, _, _, _, H1, rfl, I2, turn_zip D, ⟨a1, a2, ⟨_, _, a3⟩, a4, a5⟩, fun c hc => ?_, q⟩
      have lc : s1.heap.objs.size ≤ c := by
        simp only [List.mem_cons, List.not_mem_nil, or_false] at hc
        rcases hc with rfl | rfl | rfl | rfl | rfl <;> omega
      exact I1.fpOk lc (I1.hok.fresh lc)

def Ite (K : PySem.W.Frag) (a : Addr) : It :=
  ⟨fun i H => ∃ xs x, SqL K H a xs ∧ xs[i]? = some x,
   fun i H v H' => ∃ T x, H T = none ∧ v = .ref T ∧ H' = upd H T (.tup [.int i, x]) ∧ ∀ xs, SqL K H a xs → xs[i]? = some x,
   fun i H => ∃ xs, SqL K H a xs ∧ xs.length ≤ i⟩

theorem turn_enum {P : Program} {w : World} {K : PySem.W.Frag} {es : List Expr} {kk : Nat} {tp : Pos} {a e it : Addr} (hei : e ≠ it) (hae : a ≠ e) (hai : a ≠ it) :
    Turn P w K (.Tuple es kk tp) (Ite K a) [e, it] e (fun i h => (∃ old, IsEnum h e it i old) ∧ h.IsListIter it a i) where
  mem := by simp
  obj := fun i h st c hc => by
    obtain ⟨⟨old, h1⟩, ⟨o4, e4, c4, d4⟩⟩ := st
    simp only [List.mem_cons, List.not_mem_nil, or_false] at hc
    rcases hc with rfl | rfl
    · exact ⟨_, h1, fun v z => by cases z⟩
    · exact ⟨o4, e4, fun v z => by rw [d4] at z; cases z⟩
  keep := fun i h h' st kp => by
    obtain ⟨⟨old, h1⟩, h4⟩ := st
    exact ⟨⟨old, kp e (by simp) _ h1⟩, h4.at fun o q => kp it (by simp) o q⟩
  item := by
    intro X hP hw hK hc i pins s σ H E I hf st hg
    subst hP hw hK
    obtain ⟨⟨old, h1⟩, h4⟩ := st
    obtain ⟨xs, x, q1, ex⟩ := hg
    obtain ⟨its, rv, p, hz⟩ := I.list q1
    obtain ⟨ux, eu, ru⟩ := rv.get ex
    refine wpAny_pyNext_enum_item h1 h4 p.isList (x := ux) (by simpa using eu) hei fun g a1 a3 a5 a6 kp => ?_
    refine ⟨_, rfl, wpAny_letOwnedTupleGo_enum a1 fun g' b1 b2 => ?_⟩
    have up : ∀ c o, c ∉ [e, it] → s.heap.get? c = some o → g'.get? c = some o := fun c o hcn q => by
      simp only [List.mem_cons, List.not_mem_nil, or_false, not_or] at hcn
      exact (b2.2 c hcn.1).trans (kp c o hcn.1 hcn.2 q)
    have lte : e < s.heap.objs.size := Heap.lt_size h1
    have fT : H s.heap.objs.size = none := I.hok.fresh (Nat.le_refl _)
    have newT : g'.get? s.heap.objs.size = some { cls := .type "tuple", data := .seq #[.int i s.toks, ux] } := (b2.2 _ (Nat.ne_of_gt lte)).trans a5
    refine ⟨.ref s.heap.objs.size, upd H s.heap.objs.size (.tup [.int i, x]), I.turnedL (t' := s.toks + 1) (ch := [e, it]) hf up (Nat.le_refl _) (tup_new (us := [.int i s.toks, ux]) (by simp [sizeLine_eq]) (.cons ⟨_, rfl⟩ (.cons ru .nil)) newT), rfl, ?_, ?_, fun c hc => ?_⟩
    · exact ⟨_, x, fT, rfl, rfl, fun zs hq => by rw [I.list_inj hq q1]; exact ex⟩
    · exact ⟨⟨_, by simpa using b1⟩, a3.at fun o q => (b2.2 _ (Ne.symm hei)).trans q⟩
    · obtain ⟨f0, _⟩ := hf c hc
      have lc : c < s.heap.objs.size := by
        simp only [List.mem_cons, List.not_mem_nil, or_false] at hc
        obtain ⟨o4, e4, _⟩ := h4
        rcases hc with rfl | rfl
        · exact lte
        · exact Heap.lt_size e4
      rw [upd_ne (Nat.ne_of_lt lc)]
      exact f0
  done := by
    intro X hP hw hK hc i pins s σ H E I hf st hg
    subst hP hw hK
    obtain ⟨⟨old, h1⟩, h4⟩ := st
    obtain ⟨xs, q1, hend⟩ := hg
    obtain ⟨its, rv, p, hz⟩ := I.list q1
    have l1 := rv.length
    refine wpAny_pyNext_enum_end (I.ok.hd hc) h1 h4 p.isList (by simp; omega) fun g kp => ⟨rfl, ?_⟩
    refine I.turnedN (t' := s.toks) (ch := [e, it]) hf fun c o hcn q => ?_
    simp only [List.mem_cons, List.not_mem_nil, or_false, not_or] at hcn
    exact kp c o hcn.2 q
  self := fun _ _ _ _ _ st h => let ⟨⟨_, e1⟩, _⟩ := st; wpAny_pyIter_enum e1 h

def iEnum (K : PySem.W.Frag) (ta : TA) : TI := fun σ H R => ta σ H fun vs H1 => ∃ a, vs = [.ref a] ∧ (∃ xs, SqL K H1 a xs) ∧ R (Ite K a) H1
theorem pi_enum {X : Cx} {es : List Expr} {kk : Nat} {tp : Pos} {e : Expr} {ta : TA} {p pos : Pos} (hg : Gl X "enumerate") (hm : X.mg "enumerate" = none) (hv : bootBuiltins "enumerate" = some (.type "enumerate")) (ha : PA X [e] ta)
    (hs : starEach [e] X.env = [(false, eval e X.env)] := by rfl) : PI X (.Tuple es kk tp) (.Call (.Name "enumerate" p) [e] [] pos) (iEnum X.K ta) := by
  intro pins s σ H R I h
  refine Call_ (ld_blt I hg hm hv (PyProof.Rows.callWith_type1 (thn (ha pos pins s σ H _ I h) fun us s1 ⟨vs, H1, I1, r1, q1⟩ => ?_) hs rfl))
  obtain ⟨a, e1, ⟨xs, hq⟩, q⟩ := q1
  subst e1
  cases r1 with
  | cons r rr =>
    cases rr
    cases r
    obtain ⟨its, rv, pl, hz⟩ := I1.list hq
    obtain ⟨oa, ea, _⟩ := pl.isList
    have la : @LT.lt Nat _ a s1.heap.objs.size := Heap.lt_size ea
    refine call_enumerate_list pl.isList fun g a1 a4 a6 kp => ?_
    refine wpAny_pyIter_enum a1 ?_
    have I2 : Inv X pins σ H1 { s1 with heap := g } := I1.kept (t' := s1.toks) kp
    refine ⟨_, _, _, _, H1, rfl, I2, turn_enum (a := a) (show @Ne Nat _ _ by omega) (show @Ne Nat _ _ by omega) (show @Ne Nat _ _ by omega), ⟨⟨_, a1⟩, a4⟩, fun c hc => ?_, q⟩
    have lc : s1.heap.objs.size ≤ c := by
      simp only [List.mem_cons, List.not_mem_nil, or_false] at hc
      rcases hc with rfl | rfl <;> omega
    exact I1.fpOk lc (I1.hok.fresh lc)

structure Ov {α : Type} (J : It) (l : List α) (kp : Hp → Prop) (rep : α → V → Hp → Hp → Prop) : Prop where
  go : ∀ (i : Nat) H, kp H → i < l.length → J.go i H
  stop : ∀ (i : Nat) H, kp H → l.length ≤ i → J.stop i H
  yld : ∀ (i : Nat) H x H' y, kp H → l[i]? = some y → J.yld i H x H' → rep y x H H'

theorem ov_list {K : PySem.W.Frag} {a : Addr} {xs : List V} : Ov (Itl K a) xs (fun H => SqL K H a xs) (fun y x H H' => x = y ∧ H' = H) where
  go := fun i H h hi => ⟨xs, xs[i], h, by simp [hi]⟩
  stop := fun i H h hi => ⟨xs, h, hi⟩
  yld := fun i H x H' y h hy ⟨e, q⟩ => ⟨Option.some.inj ((q xs h).symm.trans hy), e⟩
theorem ov_zip {K : PySem.W.Frag} {a b : Addr} {xs ys : List V} : Ov (Itz K a b) (xs.zip ys) (fun H => SqL K H a xs ∧ SqL K H b ys) (fun y x H H' => ∃ T, H T = none ∧ x = .ref T ∧ H' = upd H T (.tup [y.1, y.2])) where
  go := fun i H h hi => by
    rw [List.length_zip] at hi
    exact ⟨xs, ys, xs[i]'(by omega), ys[i]'(by omega), h.1, h.2, by simp, by simp⟩
  stop := fun i H h hi => by
    rw [List.length_zip] at hi
    exact ⟨xs, ys, h.1, h.2, by omega⟩
  yld := fun i H x H' y h hy ⟨T, u, v, f, e1, e2, q1, q2⟩ => by
    have w1 := q1 xs h.1
    have w2 := q2 ys h.2
    rw [List.getElem?_zip_eq_some] at hy
    rw [hy.1] at w1
    rw [hy.2] at w2
    refine ⟨T, f, e1, ?_⟩
    rw [e2, ← Option.some.inj w1, ← Option.some.inj w2]
theorem ov_enum {K : PySem.W.Frag} {a : Addr} {xs : List V} : Ov (Ite K a) xs.zipIdx (fun H => SqL K H a xs) (fun y x H H' => ∃ T, H T = none ∧ x = .ref T ∧ H' = upd H T (.tup [.int (y.2 : Nat), y.1])) where
  go := fun i H h hi => by
    rw [List.length_zipIdx] at hi
    exact ⟨xs, xs[i]'hi, h, by simp⟩
  stop := fun i H h hi => by
    rw [List.length_zipIdx] at hi
    exact ⟨xs, h, hi⟩
  yld := fun i H x H' y h hy ⟨T, u, f, e1, e2, q1⟩ => by
    have w1 := q1 xs h
    rw [List.getElem?_zipIdx, w1] at hy
    have e : (u, 0 + i) = y := Option.some.inj hy
    subst e
    refine ⟨T, f, e1, ?_⟩
    rw [e2]
    simp

theorem for_ov {α : Type} {J : It} {l : List α} {kp : Hp → Prop} {rep : α → V → Hp → Hp → Prop} (O : Ov J l kp rep) {g : TG} {tb : TS} {D : Ends} {σ : St} {H : Hp} (Pv : Nat → St → Hp → Prop) (h0 : Pv 0 σ H) (hk : ∀ i σ H, i ≤ l.length → Pv i σ H → kp H)
    (hs : ∀ i y x σ H H', l[i]? = some y → Pv i σ H → rep y x H H' → g x σ H' fun σ2 H2 => tb { D with nx := Pv (i + 1), ct := Pv (i + 1), bk := D.nx } σ2 H2) (hd : ∀ σ H, Pv l.length σ H → D.nx σ H) :
    ∃ W : Nat → Nat → St → Hp → Prop, (∃ m, W 0 m σ H) ∧ ∀ i m σ H, W i m σ H →
      (J.stop i H ∧ D.nx σ H) ∨ (J.go i H ∧ ∃ N : St → Hp → Prop, (∀ σ' H', N σ' H' → ∃ m', m' < m ∧ W (i + 1) m' σ' H') ∧ ∀ x H', J.yld i H x H' → g x σ H' fun σ2 H2 => tb { D with nx := N, ct := N, bk := D.nx } σ2 H2) := by
  refine ⟨fun i m σ H => m = l.length - i ∧ i ≤ l.length ∧ Pv i σ H, ⟨l.length, by simp, Nat.zero_le _, h0⟩, ?_⟩
  rintro i m σ H ⟨rfl, hi, p⟩
  by_cases hlt : i < l.length
  · refine .inr ⟨O.go i H (hk i σ H hi p) hlt, Pv (i + 1), fun σ' H' p' => ⟨l.length - (i + 1), by omega, rfl, hlt, p'⟩, fun x H' y => ?_⟩
    have e : l[i]? = some l[i] := by simp [hlt]
    exact hs i _ x σ H H' e p (O.yld i H x H' _ (hk i σ H hi p) e y)
  · have e : i = l.length := by omega
    subst e
    exact .inl ⟨O.stop _ H (hk _ σ H hi p) (Nat.le_refl _), hd σ H p⟩

theorem Same.upd_new {H : Hp} {a : Addr} {o : HO} (h : H a = none) : Same H (upd H a o) := fun b u e => by rw [upd_ne (ne_of_none e h)]; exact e
theorem take_snoc {α : Type} {l : List α} {i : Nat} {y : α} (h : l[i]? = some y) : l.take (i + 1) = l.take i ++ [y] := by
  rw [List.take_add_one, h]; rfl
theorem Paired.snoc {α β : Type} {F : α → β → Prop} : ∀ {l₁ : List α} {l₂ : List β} {a : α} {b : β}, Paired F l₁ l₂ → F a b → Paired F (l₁ ++ [a]) (l₂ ++ [b])
  | _, _, _, _, .nil, h => .cons h .nil
  | _, _, _, _, .cons r t, h => .cons r (Paired.snoc t h)

theorem comp_rel {α : Type} {J : It} {l : List α} {kp : Hp → Prop} {rep : α → V → Hp → Hp → Prop} (O : Ov J l kp rep) {g : TG} {ti : TT} {te : TE} {k : Nat} {caps : List Nat} {σ : St} {H1 : Hp} {Q : VK}
    (p : α → Bool) (Rv : Addr → α → V → Hp → Prop) (mono : ∀ D y v H H', (∀ b o, b ≠ D → H b = some o → H' b = some o) → Rv D y v H → Rv D y v H') (hk : ∀ H, Same H1 H → kp H) (hl : l.length ≤ sizeLine)
    (turn : ∀ D (i : Nat) y x H3 H4 (R : V → Hp → Prop) (R' : Hp → Prop), l[i]? = some y → Same H1 H3 → (∃ ys, H3 D = some (.lst ys)) → rep y x H3 H4 → (p y = true → ∀ v H7, Same H3 H7 → Rv D y v H7 → R v H7) → (p y = false → ∀ H7, Same H3 H7 → R' H7) →
      g x (inner k caps σ) H4 fun σ4 H5 => (σ4.length = (inner k caps σ).length ∧ σ4.drop k = (inner k caps σ).drop k) ∧ ti σ4 H5 fun b H6 => if b = true then te σ4 H6 R else R' H6)
    (fin : ∀ D H' ys, H1 D = none → Same H1 H' → H' D = some (.lst ys) → Paired (fun y v => Rv D y v H') (l.filter p) ys → Q (.ref D) H') :
    CompBody J g ti te k caps σ Q H1 := by
  intro D hD
  refine ⟨fun i m ys H => m = l.length - i ∧ i ≤ l.length ∧ Same H1 H ∧ H D = some (.lst ys) ∧ Paired (fun y v => Rv D y v H) ((l.take i).filter p) ys ∧ ys.length ≤ i, ⟨l.length, by simp, Nat.zero_le _, Same.upd_new hD, upd_same, .nil, Nat.le_refl _⟩, ?_⟩
  rintro i m ys H2 ⟨rfl, hi, s2, d2, pr, hy⟩
  refine ⟨d2, ?_⟩
  by_cases hlt : i < l.length
  · refine .inr ⟨O.go i H2 (hk _ s2) hlt, by omega, fun x H3 y3 => ?_⟩
    have e : l[i]? = some l[i] := by simp [hlt]
    have tk := take_snoc e
    refine turn D i _ x H2 H3 _ _ e s2 ⟨ys, d2⟩ (O.yld i H2 x H3 _ (hk _ s2) e y3) (fun hp v H7 s7 rv => ?_) fun hp H7 s7 => ?_
    · refine ⟨s7 _ _ d2, l.length - (i + 1), by omega, rfl, hlt, ?_, upd_same, ?_, ?_⟩
      · intro b u eb
        rw [upd_ne (ne_of_none eb hD)]
        exact s7 _ _ (s2 _ _ eb)
      · rw [tk, List.filter_append]
        have ef : List.filter p [l[i]] = [l[i]] := by simp [hp]
        rw [ef]
        have up : ∀ b o, b ≠ D → H7 b = some o → upd H7 D (.lst (ys ++ [v])) b = some o := fun b o hb q => by rw [upd_ne hb]; exact q
        exact Paired.snoc (Paired.mapP pr fun y u r => mono D y u _ _ (fun b o hb q => up b o hb (s7 b o q)) r) (mono D _ _ _ _ up rv)
      · rw [List.length_append, List.length_singleton]; omega
    · refine ⟨l.length - (i + 1), by omega, rfl, hlt, s2.trans s7, s7 _ _ d2, ?_, by omega⟩
      rw [tk, List.filter_append]
      have ef : List.filter p [l[i]] = [] := by simp [hp]
      rw [ef, List.append_nil]
      exact Paired.mapP pr fun y v r => mono D y v _ _ (fun b o _ q => s7 b o q) r
  · have e : i = l.length := by omega
    subst e
    refine .inl ⟨O.stop _ H2 (hk _ s2) (Nat.le_refl _), fin D H2 ys hD s2 d2 ?_⟩
    rw [List.take_length] at pr
    exact pr

theorem paired_map {α β : Type} {f : α → β} : ∀ {l : List α} {ys : List β}, Paired (fun y v => v = f y) l ys → ys = l.map f
  | _, _, .nil => rfl
  | _, _, .cons r t => by rw [List.map_cons, r, paired_map t]

theorem comp_pure {α : Type} {J : It} {l : List α} {kp : Hp → Prop} {rep : α → V → Hp → Hp → Prop} (O : Ov J l kp rep) {g : TG} {ti : TT} {te : TE} {k : Nat} {caps : List Nat} {σ : St} {H1 : Hp} {Q : VK}
    (p : α → Bool) (f : α → V) (hk : ∀ H, Same H1 H → kp H) (hl : l.length ≤ sizeLine)
    (turn : ∀ (i : Nat) y x H3 H4 (R : V → Hp → Prop) (R' : Hp → Prop), l[i]? = some y → Same H1 H3 → rep y x H3 H4 → (p y = true → ∀ H7, Same H3 H7 → R (f y) H7) → (p y = false → ∀ H7, Same H3 H7 → R' H7) →
      g x (inner k caps σ) H4 fun σ4 H5 => (σ4.length = (inner k caps σ).length ∧ σ4.drop k = (inner k caps σ).drop k) ∧ ti σ4 H5 fun b H6 => if b = true then te σ4 H6 R else R' H6)
    (fin : ∀ D H', H1 D = none → Same H1 H' → H' D = some (.lst ((l.filter p).map f)) → Q (.ref D) H') :
    CompBody J g ti te k caps σ Q H1 :=
  comp_rel O p (fun _ y v _ => v = f y) (fun _ _ _ _ _ _ r => r) hk hl (fun _ i y x H3 H4 R R' e s _ r h1 h2 => turn i y x H3 H4 R R' e s r (fun hp H7 s7 => h1 hp _ H7 s7 rfl) h2)
    fun D H' ys hD s d pr => fin D H' hD s (by rw [d, paired_map pr])
end L2
set_option maxRecDepth 100000
set_option maxHeartbeats 4000000
namespace L2
open PySem PySem.Spec PyProof.Rows

section
variable {X : Cx}
theorem bl_at {bs : List Bool} {its : List Value} (r : Vals (bs.map V.bl) its) {i : Nat} {v : Value} (h : its.toArray[i]? = some v) : v = .bool (bs.getD i true) := by
  have h' : its[i]? = some v := by simpa using h
  have hl := r.length
  rw [List.length_map] at hl
  have hi : i < its.length := (List.getElem?_eq_some_iff.mp h').1
  have hb : (bs.map V.bl)[i]? = some (.bl (bs.getD i true)) := by
    rw [List.getElem?_map, List.getD_eq_getElem?_getD]
    have : i < bs.length := by omega
    simp [this]
  obtain ⟨u, e, ru⟩ := r.get hb
  rw [h'] at e
  cases e
  exact ru
theorem all_range (bs : List Bool) : ∀ n, n = bs.length → (List.range n).all (fun i => bs.getD i true) = bs.all id := by
  intro n hn
  subst hn
  rw [Bool.eq_iff_iff, List.all_eq_true, List.all_eq_true]
  constructor
  · intro h x hx
    obtain ⟨i, hi, rfl⟩ := List.mem_iff_getElem.mp hx
    have := h i (List.mem_range.mpr hi)
    rw [List.getD_eq_getElem?_getD] at this
    simpa [hi] using this
  · intro h i hi
    have hi' := List.mem_range.mp hi
    rw [List.getD_eq_getElem?_getD]
    have := h bs[i] (List.getElem_mem hi')
    simpa [hi'] using this
theorem any_range (bs : List Bool) : ∀ n, n = bs.length → (List.range n).any (fun i => bs.getD i true) = bs.any id := by
  intro n hn
  subst hn
  rw [Bool.eq_iff_iff, List.any_eq_true, List.any_eq_true]
  constructor
  · rintro ⟨i, hi, h⟩
    have hi' := List.mem_range.mp hi
    rw [List.getD_eq_getElem?_getD] at h
    exact ⟨bs[i], List.getElem_mem hi', by simpa [hi'] using h⟩
  · rintro ⟨x, hx, h⟩
    obtain ⟨i, hi, rfl⟩ := List.mem_iff_getElem.mp hx
    refine ⟨i, List.mem_range.mpr hi, ?_⟩
    rw [List.getD_eq_getElem?_getD]
    simpa [hi] using h

theorem call_all (hc : X.calm = true) : CallR X (.builtin "all") (fun xs H Q => ∃ (p : Addr) (bs : List Bool), xs = [.ref p] ∧ SqL X.K H p (bs.map V.bl) ∧ Q (.bl (bs.all id)) H) := by
  intro pins s σ H xs us Q I r h
  obtain ⟨p, bs, rfl, hq, q⟩ := h
  obtain ⟨u, rfl, ru⟩ := vals1 r
  cases ru
  obtain ⟨its, rv, pl, hz⟩ := I.list hq
  obtain ⟨o, e, _⟩ := pl.isList
  have hl := rv.length
  rw [List.length_map] at hl
  refine call_all_walk (wpAny_pyIter_list pl.isList ?_)
  refine ⟨s.heap.objs.size, _, _, _, _, _, fun i => bs.getD i true, rfl, Walks.list (A := X.A.in1) (I.ok.hd hc) s.heap.objs.size p (Nat.ne_of_lt (Heap.lt_size e)) its.toArray, ⟨⟨_, Heap.get?_push_size _ rfl, rfl, rfl⟩, pl.isList.push _⟩, fun i v s' Q' E' hP hQ => ?_, fun h' tk kp => ?_⟩
  · rw [bl_at rv hP]
    exact wpAny_truthy_bool hQ
  · have e1 : (List.range its.toArray.size).all (fun i => bs.getD i true) = bs.all id := all_range bs _ (by rw [List.size_toArray]; omega)
    rw [e1]
    exact ⟨.bl _, H, I.kept (t' := tk) fun b ob q => kp b ob (fun z => absurd (List.mem_singleton.mp z) (Nat.ne_of_lt (Heap.lt_size q))) (Heap.get?_push_of_some _ q), rfl, q⟩
theorem call_any (hc : X.calm = true) : CallR X (.builtin "any") (fun xs H Q => ∃ (p : Addr) (bs : List Bool), xs = [.ref p] ∧ SqL X.K H p (bs.map V.bl) ∧ Q (.bl (bs.any id)) H) := by
  intro pins s σ H xs us Q I r h
  obtain ⟨p, bs, rfl, hq, q⟩ := h
  obtain ⟨u, rfl, ru⟩ := vals1 r
  cases ru
  obtain ⟨its, rv, pl, hz⟩ := I.list hq
  obtain ⟨o, e, _⟩ := pl.isList
  have hl := rv.length
  rw [List.length_map] at hl
  refine call_any_walk (wpAny_pyIter_list pl.isList ?_)
  refine ⟨s.heap.objs.size, _, _, _, _, _, fun i => bs.getD i true, rfl, Walks.list (A := X.A.in1) (I.ok.hd hc) s.heap.objs.size p (Nat.ne_of_lt (Heap.lt_size e)) its.toArray, ⟨⟨_, Heap.get?_push_size _ rfl, rfl, rfl⟩, pl.isList.push _⟩, fun i v s' Q' E' hP hQ => ?_, fun h' tk kp => ?_⟩
  · rw [bl_at rv hP]
    exact wpAny_truthy_bool hQ
  · have e1 : (List.range its.toArray.size).any (fun i => bs.getD i true) = bs.any id := any_range bs _ (by rw [List.size_toArray]; omega)
    rw [e1]
    exact ⟨.bl _, H, I.kept (t' := tk) fun b ob q => kp b ob (fun z => absurd (List.mem_singleton.mp z) (Nat.ne_of_lt (Heap.lt_size q))) (Heap.get?_push_of_some _ q), rfl, q⟩

theorem call_sumI (hc : X.calm = true) : CallR X (.builtin "sum") (fun xs H Q => ∃ (p : Addr) (ns : List Int), xs = [.ref p] ∧ SqL X.K H p (ns.map V.int) ∧ Q (.int ns.sum) H) := by
  intro pins s σ H xs us Q I r h
  obtain ⟨p, ns, rfl, hq, q⟩ := h
  obtain ⟨u, rfl, ru⟩ := vals1 r
  cases ru
  obtain ⟨its, rv, pl, hz⟩ := I.list hq
  obtain ⟨o, e, _⟩ := pl.isList
  have hl := rv.length
  rw [List.length_map] at hl
  refine call_sum_walkG (wpAny_pyIter_list pl.isList ?_)
  refine ⟨s.heap.objs.size, _, _, _, _, _, fun i => ns.getD i 0, rfl, Walks.list (A := X.A.in1) (I.ok.hd hc) s.heap.objs.size p (Nat.ne_of_lt (Heap.lt_size e)) its.toArray, ⟨⟨_, Heap.get?_push_size _ rfl, rfl, rfl⟩, pl.isList.push _⟩, fun b hb => ?_, fun i v hP => ?_, fun h' tk t' kp => ?_⟩
  · rw [Heap.size_push]
    simp only [List.mem_cons, List.not_mem_nil, or_false] at hb
    rcases hb with rfl | rfl
    · exact Nat.lt_succ_self _
    · exact Nat.lt_succ_of_lt (Heap.lt_size e)
  · have hP' : its[i]? = some v := by simpa using hP
    have hi : i < its.length := (List.getElem?_eq_some_iff.mp hP').1
    have hb : (ns.map V.int)[i]? = some (.int (ns.getD i 0)) := by
      rw [List.getElem?_map, List.getD_eq_getElem?_getD]
      have : i < ns.length := by omega
      simp [this]
    obtain ⟨u, e, ru⟩ := rv.get hb
    rw [hP'] at e
    cases e
    exact ru
  · have e1 : preSum (fun i => ns.getD i 0) its.toArray.size = ns.sum := by
      rw [preSum_getD, List.size_toArray, ← hl, List.take_length]
    rw [e1]
    exact ⟨.int _, H, I.kept (t' := tk) fun b ob q => kp b ob (fun z => absurd (List.mem_singleton.mp z) (Nat.ne_of_lt (Heap.lt_size q))) (Heap.get?_push_of_some _ q), ⟨_, rfl⟩, q⟩

def clsOf : V → Option Value
  | .ty n => some (.type n)
  | .ref a => some (.ref a)
  | _ => none
def rIsi (K : PySem.W.Frag) (xs : List V) (H : Hp) (Q : VK) : Prop := ∃ x c cv t b, xs = [x, c] ∧ clsOf c = some cv ∧ TyOf K H x t ∧ PySem.W.kitOne K t cv = some b ∧ Q (.bl b) H
theorem call_isinst : CallR X (.builtin "isinstance") (rIsi X.K) := by
  intro pins s σ H xs us Q I r h
  obtain ⟨x, c, cv, t, b, rfl, hcv, ty, e, q⟩ := h
  obtain ⟨u, w', rfl, ru, rw'⟩ := vals2 r
  have ec : w' = cv := by
    cases c with
    | ty n => cases hcv; exact rw'
    | ref a => cases hcv; exact rw'
    | _ => cases hcv
  subst ec
  exact isinst_ok I ru ty e fun tk => ⟨.bl b, H, I.tok tk, rfl, q⟩

theorem op_isB : OpR X (compareOp .Is) (fun x y H Q => ∃ a b, x = .bl a ∧ y = .bl b ∧ Q (.bl (a == b)) H) := by
  intro pins s σ H x y v u Q I rx ry h
  obtain ⟨a, b, rfl, rfl, q⟩ := h
  cases rx
  cases ry
  exact is_bool ⟨.bl _, H, I, rfl, q⟩
theorem op_isnotB : OpR X (compareOp .IsNot) (fun x y H Q => ∃ a b, x = .bl a ∧ y = .bl b ∧ Q (.bl (a != b)) H) := by
  intro pins s σ H x y v u Q I rx ry h
  obtain ⟨a, b, rfl, rfl, q⟩ := h
  cases rx
  cases ry
  exact isnot_bool ⟨.bl _, H, I, rfl, q⟩
end

mutual
inductive RdV (K : PySem.W.Frag) (H : Hp) : V → PyData → Prop
  | non : RdV K H .non .none
  | bl (b : Bool) : RdV K H (.bl b) (.bool b)
  | int (i : Int) : RdV K H (.int i) (.int i)
  | str (x : Str) : RdV K H (.str x) (.str x)
  | lst {a : Addr} {xs : List V} {ds : List PyData} : SqL K H a xs → RdVs K H xs ds → RdV K H (.ref a) (.list ds)
  | tup {a : Addr} {xs : List V} {ds : List PyData} : SqT K H a xs → RdVs K H xs ds → RdV K H (.ref a) (.tuple ds)
inductive RdVs (K : PySem.W.Frag) (H : Hp) : List V → List PyData → Prop
  | nil : RdVs K H [] []
  | cons {x : V} {d : PyData} {xs : List V} {ds : List PyData} : RdV K H x d → RdVs K H xs ds → RdVs K H (x :: xs) (d :: ds)
end
section
variable {X : Cx} {pins : List (Addr × Obj)} {σ : St} {H : Hp} {s : Shared}
mutual
theorem RdV.reads (I : Inv X pins σ H s) : ∀ {v : V} {d : PyData} {u : Value}, RdV X.K H v d → RelV v u → ∃ as, Reads s.heap u d as
  | _, _, u, .non, r => by cases (show u = Value.none from r); exact ⟨_, .none⟩
  | _, _, u, .bl b, r => by cases (show u = Value.bool b from r); exact ⟨_, .bool b⟩
  | _, _, u, .int i, r => by obtain ⟨t, rfl⟩ := (show ∃ t, u = Value.int i t from r); exact ⟨_, .int i t⟩
  | _, _, u, .str x, r => by obtain ⟨t, rfl⟩ := (show ∃ t, u = Value.str x t from r); exact ⟨_, .str x t⟩
  | _, _, u, .lst (a := a) q rs, r => by
    cases (show u = Value.ref a from r)
    obtain ⟨its, rv, pl, _⟩ := I.list q
    obtain ⟨as, ra⟩ := RdVs.reads I rs rv
    obtain ⟨o, e, c, n, d⟩ := pl.isList
    exact ⟨_, .list e c d (by simpa using ra)⟩
  | _, _, u, .tup (a := a) q rs, r => by
    cases (show u = Value.ref a from r)
    obtain ⟨its, rv, pl, _⟩ := I.tuple q
    obtain ⟨as, ra⟩ := RdVs.reads I rs rv
    obtain ⟨o, e, c, n, d⟩ := pl
    exact ⟨_, .tuple e c d (by simpa using ra)⟩
theorem RdVs.reads (I : Inv X pins σ H s) : ∀ {vs : List V} {ds : List PyData} {us : List Value}, RdVs X.K H vs ds → Vals vs us → ∃ as, ReadsAll s.heap us ds as
  | _, _, _, .nil, r => by cases r; exact ⟨_, .nil⟩
  | _, _, _, .cons h t, r => by
    cases r with
    | cons r1 r2 =>
      obtain ⟨as, h1⟩ := RdV.reads I h r1
      obtain ⟨bs, h2⟩ := RdVs.reads I t r2
      exact ⟨_, .cons h1 h2⟩
end
end
mutual
theorem RdV.same {K : PySem.W.Frag} {H H' : Hp} (e : Same H H') : ∀ {v : V} {d : PyData}, RdV K H v d → RdV K H' v d
  | _, _, .non => .non
  | _, _, .bl b => .bl b
  | _, _, .int i => .int i
  | _, _, .str x => .str x
  | _, _, .lst q rs => .lst (e.seq q) (RdVs.same e rs)
  | _, _, .tup q rs => .tup (by
      rcases q with (h | ⟨o, h⟩) | h
      · exact .inl (.inl (e _ _ h))
      · exact .inl (.inr ⟨o, e _ _ h⟩)
      · exact .inr h) (RdVs.same e rs)
theorem RdVs.same {K : PySem.W.Frag} {H H' : Hp} (e : Same H H') : ∀ {vs : List V} {ds : List PyData}, RdVs K H vs ds → RdVs K H' vs ds
  | _, _, .nil => .nil
  | _, _, .cons h t => .cons (RdV.same e h) (RdVs.same e t)
end
theorem RdVs.ints {K : PySem.W.Frag} {H : Hp} : ∀ ns : List Int, RdVs K H (ns.map V.int) (ns.map PyData.int)
  | [] => .nil
  | n :: r => .cons (.int n) (RdVs.ints r)
abbrev dI (ns : List Int) : PyData := .list (ns.map PyData.int)
theorem RdV.ints {K : PySem.W.Frag} {H : Hp} {a : Addr} {ns : List Int} (h : SqL K H a (ns.map V.int)) : RdV K H (.ref a) (dI ns) := .lst h (RdVs.ints ns)

def rEqD (K : PySem.W.Frag) (neg : Bool) : R2 := fun x y H Q => ∃ d e, RdV K H x d ∧ RdV K H y e ∧ SeqAt.shaped d = true ∧ SeqAt.shaped e = true ∧ Q (.bl (if neg then !PyData.eqv d e else PyData.eqv d e)) H
section
variable {X : Cx}
theorem op_eqD (hu : X.A.units + 64 < cLine) : OpR X (compareOp .Eq) (rEqD X.K false) := by
  intro pins s σ H x y v u Q I rx ry h
  obtain ⟨d, e, h1, h2, h3, h4, q⟩ := h
  obtain ⟨as, r1⟩ := h1.reads I rx
  obtain ⟨bs, r2⟩ := h2.reads I ry
  exact eq_dataH r1 r2 h3 h4 hu ⟨.bl _, H, I, rfl, q⟩
theorem op_neD (hu : X.A.units + 64 < cLine) : OpR X (compareOp .NotEq) (rEqD X.K true) := by
  intro pins s σ H x y v u Q I rx ry h
  obtain ⟨d, e, h1, h2, h3, h4, q⟩ := h
  obtain ⟨as, r1⟩ := h1.reads I rx
  obtain ⟨bs, r2⟩ := h2.reads I ry
  exact ne_dataH r1 r2 h3 h4 hu ⟨.bl _, H, I, rfl, q⟩
theorem op_eqG (hu : X.A.units + 64 < cLine) : OpR X (compareOp .Eq) (fun x y H Q => rEq x y H Q ∨ rEqD X.K false x y H Q) := op_eq.or (op_eqD hu)
theorem op_neG (hu : X.A.units + 64 < cLine) : OpR X (compareOp .NotEq) (fun x y H Q => rNe x y H Q ∨ rEqD X.K true x y H Q) := op_ne.or (op_neD hu)

end

def pickV (xs : List V) (lo hi st : Option Int) : List V := (sliceRange (sliceBounds lo hi st xs.length).1 (sliceBounds lo hi st xs.length).2.1 (sliceBounds lo hi st xs.length).2.2).filterMap fun i => xs[i]?
theorem Vals.pick {xs : List V} {us : List Value} (r : Vals xs us) : ∀ l : List Nat, Vals (l.filterMap fun i => xs[i]?) (l.filterMap fun i => us[i]?)
  | [] => .nil
  | i :: t => by
    rw [List.filterMap_cons, List.filterMap_cons]
    cases hx : xs[i]? with
    | none =>
      rw [r.none_of hx]
      exact Vals.pick r t
    | some x =>
      obtain ⟨u, hu, ru⟩ := r.get hx
      rw [hu]
      exact .cons ru (Vals.pick r t)
theorem pickV_eq {xs : List V} {its : List Value} (r : Vals xs its) (lo hi st : Option Int) : Vals (pickV xs lo hi st) (slicePick its.toArray lo hi st).toList := by
  unfold pickV slicePick
  rw [List.size_toArray, r.length]
  simp only [List.getElem?_toArray]
  exact r.pick _
section
variable {X : Cx} {e : Expr} {te : TE} {lo hi : Option Expr} {st : Expr} {tl th : TO} {ts : TE} {pos p2 : Pos}
def Sl3K (K : PySem.W.Frag) (x : V) (l u : Option Int) (z : V) (H4 : Hp) (Q : VK) : Prop := ∃ k a xs, z = .int k ∧ k ≠ 0 ∧ x = .ref a ∧ SqL K H4 a xs ∧ ∀ p, H4 p = none → Q (.ref p) (upd H4 p (.lst (pickV xs l u (some k))))
def tSl3 (K : PySem.W.Frag) (te : TE) (tl th : TO) (ts : TE) : TE := fun σ H Q => te σ H fun x H1 => tl σ H1 fun l H2 => th σ H2 fun u H3 => ts σ H3 fun z H4 => Sl3K K x l u z H4 Q
theorem pe_slice3 (he : PE X e te) (hl : PO X lo tl) (hu : PO X hi th) (hst : PE X st ts) : PE X (.Subscript e (.Slice lo hi (some st) p2) pos) (tSl3 X.K te tl th ts) := by
  intro pins s σ H Q I h
  refine Subscript_ (thn (he pins s σ H _ I h) fun v s1 ⟨x, H1, I1, r1, q1⟩ => ?_)
  refine wpAny_Slice (thn (hl pins s1 σ H1 _ I1 q1) fun vl s2 ⟨l, H2, I2, pl, q2⟩ => thn (hu pins s2 σ H2 _ I2 q2) fun vu s3 ⟨u, H3, I3, pu, q3⟩ => ?_)
  rw [evalPart_some]
  refine thn (hst pins s3 σ H3 _ I3 q3) fun vk s4 ⟨z, H4, I4, r4, q4⟩ => ?_
  obtain ⟨k, a, xs, rfl, hk, rfl, hq, q⟩ := q4
  obtain ⟨tk, rfl⟩ := r4
  cases r1
  have I5 : Inv X pins σ H4 { s4 with heap := s4.heap.push { cls := .type "slice", data := .fields #[vl, vu, .int k tk] } } := I4.kept (t' := s4.toks) fun b ob w' => Heap.get?_push_of_some _ w'
  obtain ⟨its, rv, pt, hz⟩ := I5.list hq
  have hlen := rv.length
  show wpAny (model X.prog X.w) X.A (subscriptTail e (.Slice lo hi (some st) p2) (.ref a) (.ref s4.heap.objs.size)) (EP X pins σ Q) X.xe _
  refine tail_any (ops := [.ref a, .ref s4.heap.objs.size]) pt.isList.typeIs slot_list_getitem.lookup ?_ (by with_unfolding_all rfl)
  refine wpAny_getItem_list_slice pt.isList (Heap.IsSliceOf.new ..) pl pu (.int k tk) (by simpa using hk) ?_ (by rw [List.size_toArray] <;> omega)
  refine ⟨.ref _, _, I5.laid (t' := s4.toks) (o := .lst (pickV xs l u (some k))) (fun b ob w' => Heap.get?_push_of_some _ w') (Nat.le_refl _) ?_, rfl, q _ (I5.hok.fresh (Nat.le_refl _))⟩
  have pv := pickV_eq rv l u (some k)
  have e2 : (slicePick its.toArray l u (some k)).toList.toArray = slicePick its.toArray l u (some k) := by simp
  refine ⟨?_, _, 0, pv, by rw [e2]; exact Heap.get?_push_size _ rfl⟩
  have sz := slicePick_size_le its.toArray l u (some k)
  have e1 := pv.length
  have e3 : (slicePick its.toArray l u (some k)).toList.length = (slicePick its.toArray l u (some k)).size := by simp
  have e4 : its.toArray.size = its.length := by simp
  rw [e3] at e1
  rw [e4] at sz
  rw [e1]
  exact Nat.le_trans sz (by rw [← hlen]; exact hz)
end
end L2
set_option maxRecDepth 100000
set_option maxHeartbeats 4000000
namespace L2
open PySem PySem.Spec PyProof.Rows
section
variable {X : Cx} {a b e : Expr} {ta tb te : TE} {pos : Pos}

theorem pe_bty {x : Str} {n : String} {pos : Pos} (hg : Gl X x) (hm : X.mg x = none) (hv : bootBuiltins x = some (.type n)) (hn : x ≠ "__name__" := by decide) (hd : (x == ("__debug__" : Str)) = false := by decide) : PE X (.Name x pos) (tC (.ty n)) := pe_bltn hg hm hv rfl hn hd
theorem pe_gref {x : Str} {c : Addr} {pos : Pos} (hg : Gl X x) (hm : X.mg x = some (.ref c)) (hd : (x == ("__debug__" : Str)) = false := by decide) : PE X (.Name x pos) (tC (.ref c)) := pe_glob hg hm rfl hd
def rAddG : R2 := fun x y H Q => rI0 (fun i j => .int (i + j)) x y H Q ∨ rCat x y H Q
theorem op_addG : OpR X (binaryOp .Add) rAddG := op_add.or op_cat
def rIxG (K : PySem.W.Frag) : R2 := fun x y H Q => rIxL K x y H Q ∨ rIxT K x y H Q
theorem ix_G : IxR X (rIxG X.K) := ix_list.or ix_tup
def rLenG (K : PySem.W.Frag) : List V → Hp → VK → Prop := fun xs H Q => (∃ p ys, xs = [.ref p] ∧ (SqL K H p ys ∨ SqT K H p ys) ∧ Q (.int ys.length) H) ∨ (∃ a kvs, xs = [V.ref a] ∧ H a = some (.dK kvs) ∧ Q (.int kvs.length) H)
theorem len_G : CallR X (.builtin "len") (rLenG X.K) := call_len_seq.or call_lenD
def rIsG : R2 := fun x y H Q => (∃ a b, x = .bl a ∧ y = .bl b ∧ Q (.bl (a == b)) H) ∨ (y = .non ∧ Q (.bl (decide (x = .non))) H)
theorem op_isG : OpR X (compareOp .Is) rIsG := op_isB.or op_isN
def rIsnotG : R2 := fun x y H Q => (∃ a b, x = .bl a ∧ y = .bl b ∧ Q (.bl (a != b)) H) ∨ (y = .non ∧ Q (.bl (!decide (x = .non))) H)
theorem op_isnotG : OpR X (compareOp .IsNot) rIsnotG := op_isnotB.or op_notN
end

def blockOk (env : List (Str × NameKind)) (XN N : List Str) (scope : Scope) (k : Nat) (caps : List Nat) : Bool :=
  (match scope.kind with | .function => true | _ => false) &&
  scope.names.all (fun y => (match y.2 with
    | .cell => false
    | .free => (match env.lookup y.1 with | some .cell => true | some .free => true | _ => false)
    | .local => (match scope.names.lookup y.1 with | some .local => true | _ => false)
    | _ => true)) &&
  Nat.beq N.length (k + caps.length) &&
  (List.range caps.length).all fun i => match caps[i]? with
    | some j => (match N[k + i]?, XN[j]? with
      | some x, some y => decide (x = y) && (match scope.names.lookup x with | some .free => true | _ => false)
      | _, _ => false)
    | none => false
theorem Block.of {X : Cx} {N : List Str} {scope : Scope} {k : Nat} {caps : List Nat} (h : blockOk X.env.scope.names X.N N scope k caps = true) : Block X N scope k caps := by
  unfold blockOk at h
  simp only [Bool.and_eq_true] at h
  obtain ⟨⟨⟨h1, h2⟩, h3⟩, h4⟩ := h
  have h2 := List.all_eq_true.mp h2
  have h4 := List.all_eq_true.mp h4
  refine ⟨?_, fun y hy => ?_, fun y hy e => ?_, fun y hy e => ?_, Nat.eq_of_beq_eq_true h3, fun i j hj => ?_⟩
  · revert h1
    cases scope.kind <;> intro h1 <;> first | rfl | cases h1
  · have := h2 y hy
    intro e
    rw [e] at this
    cases this
  · have := h2 y hy
    rw [e] at this
    simp only at this
    revert this
    cases X.env.scope.names.lookup y.1 with
    | none => intro z; cases z
    | some q => cases q <;> intro z <;> first | exact .inl rfl | exact .inr rfl | cases z
  · have := h2 y hy
    rw [e] at this
    simp only at this
    revert this
    cases scope.names.lookup y.1 with
    | none => intro z; cases z
    | some q => cases q <;> intro z <;> first | rfl | cases z
  · have hi : i < caps.length := (List.getElem?_eq_some_iff.mp hj).1
    have := h4 i (List.mem_range.mpr hi)
    rw [hj] at this
    simp only at this
    revert this
    cases hN : N[k + i]? with
    | none => intro z; cases z
    | some x =>
      cases hX : X.N[j]? with
      | none => intro z; cases z
      | some y =>
        intro z
        simp only [Bool.and_eq_true, decide_eq_true_eq] at z
        obtain ⟨z1, z2⟩ := z
        refine ⟨x, rfl, by rw [z1], ?_⟩
        revert z2
        cases scope.names.lookup x with
        | none => intro z; cases z
        | some q => cases q <;> intro z <;> first | rfl | cases z

section
variable {X : Cx} {pos : Pos}
def tPar3 (i j k : Nat) (ta : TA) : TS := fun D σ H => ta σ H fun vs H1 => ∃ u v w, vs = [u, v, w] ∧ D.nx (((σ.set i (some u)).set j (some v)).set k (some w)) H1
end
end L2
set_option maxRecDepth 100000
set_option maxHeartbeats 4000000
namespace L2
open PySem PySem.Spec PyProof.Rows
section
variable {σ : St} {H H' : Hp} {Q : VK} {D : Ends} {K : PySem.W.Frag}

theorem upd_keep {q p : Addr} {u o : HO} (h : H q = some u) (hp : H p = none) : upd H p o q = some u := by rw [upd_ne (ne_of_none h hp)]; exact h
theorem upd_keepNe {q p : Addr} {u o : HO} (h : H q = some u) (hne : q ≠ p) : upd H p o q = some u := by rw [upd_ne hne]; exact h
theorem Same.at {q : Addr} {u : HO} (s : Same H H') (h : H q = some u) : H' q = some u := s q u h
theorem sq_keep {q p : Addr} {xs : List V} {o : HO} (h : SqL K H q xs) (hp : H p = none) : SqL K (upd H p o) q xs := (Same.upd_new hp).seq h
theorem sq_keepNe {q p : Addr} {xs : List V} {o : HO} (h : SqL K H q xs) (hne : q ≠ p) : SqL K (upd H p o) q xs := by
  rcases h with (h | ⟨u, h⟩) | h
  · exact .inl (.inl (upd_keepNe h hne))
  · exact .inl (.inr ⟨u, upd_keepNe h hne⟩)
  · exact .inr h
def SameBut (ls : List Addr) (H H' : Hp) : Prop := ∀ b o, H b = some o → b ∉ ls → H' b = some o
theorem Same.but {ls : List Addr} (s : Same H H') : SameBut ls H H' := fun b o h _ => s b o h
theorem SameBut.at {ls : List Addr} {q : Addr} {u : HO} (s : SameBut ls H H') (h : H q = some u) (hn : q ∉ ls) : H' q = some u := s q u h hn
theorem SameBut.seq {ls : List Addr} {q : Addr} {xs : List V} (s : SameBut ls H H') (h : SqL K H q xs) (hn : q ∉ ls) : SqL K H' q xs := by
  rcases h with (h | ⟨u, h⟩) | h
  · exact .inl (.inl (s _ _ h hn))
  · exact .inl (.inr ⟨u, s _ _ h hn⟩)
  · exact .inr h
theorem SameBut.upd {ls : List Addr} {p : Addr} {o : HO} (s : SameBut ls H H') (hp : p ∈ ls) : SameBut ls H (upd H' p o) := fun b u h hn => by
  rw [upd_ne (fun e => by subst e; exact hn hp)]; exact s b u h hn
theorem SameBut.new {ls : List Addr} {p : Addr} {o : HO} (s : SameBut ls H H') (hp : H' p = none) : SameBut ls H (L2.upd H' p o) := fun b u h hn => upd_keep (s b u h hn) hp
theorem SameBut.trans {ls : List Addr} {H1 H2 : Hp} (a : SameBut ls H H1) (b : SameBut ls H1 H2) : SameBut ls H H2 := fun c o h hn => b c o (a c o h hn) hn
theorem r_seq {t u : TS} (h : t { D with nx := u D } σ H) : tSeq t u D σ H := h
theorem r_asg {te : TE} {g : TG} (h : te σ H fun x H1 => g x σ H1 D.nx) : tAsg te g D σ H := h
theorem r_name {i : Nat} {v : V} {R : St → Hp → Prop} (h : R (σ.set i (some v)) H) : gName i v σ H R := h
theorem r_ifs {c : TT} {t u : TS} (h : c σ H fun b H1 => if b = true then t D σ H1 else u D σ H1) : tIfS c t u D σ H := h
theorem r_ret {te : TE} (h : te σ H D.rt) : tRet te D σ H := h
theorem r_next (h : D.nx σ H) : tNext D σ H := h
theorem r_drop {te : TE} (h : te σ H fun _ H1 => D.nx σ H1) : tDrop te D σ H := h
theorem r_break (h : D.bk σ H) : tBreak D σ H := h
theorem r_cont (h : D.ct σ H) : tCont D σ H := h
theorem r_var {i : Nat} {v : V} (e : σ[i]? = some (some v)) (h : Q v H) : tVar i σ H Q := ⟨v, e, h⟩
theorem r_c {v : V} (h : Q v H) : tC v σ H Q := h
theorem r_op {r : R2} {ta tb : TE} (h : ta σ H fun x H1 => tb σ H1 fun y H2 => r x y H2 Q) : tOp r ta tb σ H Q := h
theorem r_un {r : V → Hp → VK → Prop} {ta : TE} (h : ta σ H fun x H1 => r x H1 Q) : tUn r ta σ H Q := h
theorem r_cb {r : List V → Hp → VK → Prop} {t : TA} (h : t σ H fun vs H1 => r vs H1 Q) : tCB r t σ H Q := h
theorem r_cons {ta : TE} {tr : TA} {R : List V → Hp → Prop} (h : ta σ H fun x H1 => tr σ H1 fun xs H2 => R (x :: xs) H2) : tCons ta tr σ H R := h
theorem r_nil {R : List V → Hp → Prop} (h : R [] H) : tNil σ H R := h
theorem r_test {t : TE} {R : Bool → Hp → Prop} (h : t σ H fun x H1 => ∃ k, x = .bl k ∧ R k H1) : tTest t σ H R := h
theorem r_tB {t : TE} {R : Bool → Hp → Prop} (h : t σ H fun x H1 => ∃ k, x = .bl k ∧ R k H1) : tB t σ H R := h
theorem r_bl {b : Bool} {R : Bool → Prop} (h : R b) : ∃ k, V.bl b = .bl k ∧ R k := ⟨b, rfl, h⟩
theorem r_not {t : TT} {R : Bool → Hp → Prop} (h : t σ H fun c H1 => R (!c) H1) : tNot t σ H R := h
theorem r_and {t u : TT} {R : Bool → Hp → Prop} (h : t σ H fun c H1 => if c = true then u σ H1 R else R false H1) : tAnd t u σ H R := h
theorem r_or {t u : TT} {R : Bool → Hp → Prop} (h : t σ H fun c H1 => if c = true then R true H1 else u σ H1 R) : tOr t u σ H R := h
theorem r_andV {ta tb : TE} (h : ta σ H fun x H1 => ∃ c, x = .bl c ∧ if c = true then tb σ H1 Q else Q (.bl false) H1) : tAndV ta tb σ H Q := h
theorem r_orV {ta tb : TE} (h : ta σ H fun x H1 => ∃ c, x = .bl c ∧ if c = true then Q (.bl true) H1 else tb σ H1 Q) : tOrV ta tb σ H Q := h
theorem r_notV {ta : TE} (h : ta σ H fun x H1 => ∃ c, x = .bl c ∧ Q (.bl (!c)) H1) : tNotV ta σ H Q := h
theorem r_call {sp : Sp} {dvs : List V} {E : XK} {t : TA} (h : t σ H fun vs H1 => sp (vs ++ dvs) H1 Q E) : tCall sp dvs E t σ H Q := h
theorem r_chain {r r' : R2} {ta tb tc : TE} (h : ta σ H fun x H1 => tb σ H1 fun y H2 => r x y H2 fun z H3 => ∃ k, z = .bl k ∧ (if k = true then tc σ H3 fun w' H4 => r' y w' H4 Q else Q (.bl false) H3)) : tChain r r' ta tb tc σ H Q := h
def NewL (Q : VK) (xs : List V) (H1 : Hp) : Prop := xs.length ≤ sizeLine ∧ ∀ p, H1 p = none → Q (.ref p) (upd H1 p (.lst xs))
def NewT (Q : VK) (xs : List V) (H1 : Hp) : Prop := xs.length ≤ sizeLine ∧ ∀ p, H1 p = none → Q (.ref p) (upd H1 p (.tup xs))
theorem r_lst {t : TA} (h : t σ H fun xs H1 => NewL Q xs H1) : tLst t σ H Q := h
theorem r_tup {t : TA} (h : t σ H fun xs H1 => NewT Q xs H1) : tTup t σ H Q := h
theorem r_newL {xs : List V} (hn : xs.length ≤ 1000) (h : ∀ p, H p = none → Q (.ref p) (upd H p (.lst xs))) : NewL Q xs H := ⟨Nat.le_trans hn (by decide), h⟩
theorem r_newT {xs : List V} (hn : xs.length ≤ 1000) (h : ∀ p, H p = none → Q (.ref p) (upd H p (.tup xs))) : NewT Q xs H := ⟨Nat.le_trans hn (by decide), h⟩
theorem r_sl {r : V → Option Int → Option Int → Hp → VK → Prop} {te : TE} {tl th : TO} (h : te σ H fun x H1 => tl σ H1 fun l H2 => th σ H2 fun u H3 => r x l u H3 Q) : tSl r te tl th σ H Q := h
theorem r_part {t : TE} {R : Option Int → Hp → Prop} (h : t σ H fun x H1 => ∃ i, x = .int i ∧ R (some i) H1) : tPart t σ H R := h
theorem r_noPart {R : Option Int → Hp → Prop} (h : R none H) : tNoPart σ H R := h
theorem r_int {i : Int} {R : Int → Prop} (h : R i) : ∃ k, V.int i = .int k ∧ R k := ⟨i, rfl, h⟩
theorem r_comp {wi : TI} {g : TG} {ti : TT} {te : TE} {k : Nat} {caps : List Nat} (h : wi σ H fun J H1 => CompBody J g ti te k caps σ Q H1) : tComp wi g ti te k caps σ H Q := h
def ForBody (J : It) (g : TG) (tb : TS) (D : Ends) (σ : St) (H1 : Hp) : Prop := ∃ W : Nat → Nat → St → Hp → Prop, (∃ m, W 0 m σ H1) ∧ ∀ i m σ H, W i m σ H →
  (J.stop i H ∧ D.nx σ H) ∨ (J.go i H ∧ ∃ N : St → Hp → Prop, (∀ σ' H', N σ' H' → ∃ m', m' < m ∧ W (i + 1) m' σ' H') ∧ ∀ x H', J.yld i H x H' → g x σ H' fun σ2 H2 => tb { D with nx := N, ct := N, bk := D.nx } σ2 H2)
theorem r_for {wi : TI} {g : TG} {tb : TS} (h : wi σ H fun J H1 => ForBody J g tb D σ H1) : tFor wi g tb D σ H := h
def AtL (K : PySem.W.Frag) (R : It → Hp → Prop) (x : V) (H1 : Hp) : Prop := ∃ a, x = .ref a ∧ (∃ xs, SqL K H1 a xs) ∧ R (Itl K a) H1
theorem r_iList {tl : TE} {R : It → Hp → Prop} (h : tl σ H fun x H1 => AtL K R x H1) : iList K tl σ H R := h
theorem r_AtL {a : Addr} {xs : List V} {R : It → Hp → Prop} (hs : SqL K H a xs) (h : R (Itl K a) H) : AtL K R (.ref a) H := ⟨a, rfl, ⟨xs, hs⟩, h⟩
def AtZ (K : PySem.W.Frag) (R : It → Hp → Prop) (vs : List V) (H1 : Hp) : Prop := ∃ a b, vs = [.ref a, .ref b] ∧ (∃ xs, SqL K H1 a xs) ∧ (∃ ys, SqL K H1 b ys) ∧ R (Itz K a b) H1
theorem r_iZip {ta : TA} {R : It → Hp → Prop} (h : ta σ H fun vs H1 => AtZ K R vs H1) : iZip K ta σ H R := h
theorem r_AtZ {a b : Addr} {xs ys : List V} {R : It → Hp → Prop} (hs : SqL K H a xs) (ht : SqL K H b ys) (h : R (Itz K a b) H) : AtZ K R [.ref a, .ref b] H := ⟨a, b, rfl, ⟨xs, hs⟩, ⟨ys, ht⟩, h⟩
def AtE (K : PySem.W.Frag) (R : It → Hp → Prop) (vs : List V) (H1 : Hp) : Prop := ∃ a, vs = [.ref a] ∧ (∃ xs, SqL K H1 a xs) ∧ R (Ite K a) H1
theorem r_iEnum {ta : TA} {R : It → Hp → Prop} (h : ta σ H fun vs H1 => AtE K R vs H1) : iEnum K ta σ H R := h
theorem r_AtE {a : Addr} {xs : List V} {R : It → Hp → Prop} (hs : SqL K H a xs) (h : R (Ite K a) H) : AtE K R [.ref a] H := ⟨a, rfl, ⟨xs, hs⟩, h⟩
def AtR1 (R : It → Hp → Prop) (vs : List V) (H1 : Hp) : Prop := ∃ j : Int, vs = [.int j] ∧ -(2 ^ 62) ≤ j ∧ j < 2 ^ 62 ∧ R (Itr 0 j.toNat) H1
theorem r_iRng1 {ta : TA} {R : It → Hp → Prop} (h : ta σ H fun vs H1 => AtR1 R vs H1) : iRng1 ta σ H R := h
theorem r_gTup {n : Nat} {t : TGs} {T : Addr} {xs : List V} {R : St → Hp → Prop} (ht : H T = some (.tup xs)) (hn : xs.length = n) (h : t xs σ H R) : gTup K n t (.ref T) σ H R := ⟨T, xs, rfl, SqT.of ht, hn, h⟩
theorem r_gCons {t : TG} {u : TGs} {v : V} {r : List V} {R : St → Hp → Prop} (h : t v σ H fun σ' H' => u r σ' H' R) : gCons t u (v :: r) σ H R := ⟨v, r, rfl, h⟩
theorem r_gNil {R : St → Hp → Prop} (h : R σ H) : gNil [] σ H R := ⟨rfl, h⟩

theorem r_rI0 {g : Int → Int → V} {i j : Int} (h : Q (g i j) H) : rI0 g (.int i) (.int j) H Q := ⟨i, j, rfl, rfl, h⟩
theorem r_rI {C : Int → Int → Prop} {g : Int → Int → V} {i j : Int} (hc : C i j) (h : Q (g i j) H) : rI C g (.int i) (.int j) H Q := ⟨i, j, rfl, rfl, hc, h⟩
theorem r_rU {g : Int → V} {i : Int} (h : Q (g i) H) : rU g (.int i) H Q := ⟨i, rfl, h⟩
theorem r_addI {i j : Int} (h : Q (.int (i + j)) H) : rAddG (.int i) (.int j) H Q := .inl ⟨i, j, rfl, rfl, h⟩
theorem r_eqI {i j : Int} (h : Q (.bl (decide (i = j))) H) : rEq (.int i) (.int j) H Q ∨ rEqD K false (.int i) (.int j) H Q := .inl ⟨rfl, by
  have e : decide (V.int i = V.int j) = decide (i = j) := by rw [dec_int]; by_cases z : i = j <;> simp [z]
  rw [e]; exact h⟩
theorem r_neI {i j : Int} (h : Q (.bl (!decide (i = j))) H) : rNe (.int i) (.int j) H Q ∨ rEqD K true (.int i) (.int j) H Q := .inl ⟨rfl, by
  have e : decide (V.int i = V.int j) = decide (i = j) := by rw [dec_int]; by_cases z : i = j <;> simp [z]
  rw [e]; exact h⟩
theorem r_eqB {i j : Bool} (h : Q (.bl (i == j)) H) : rEq (.bl i) (.bl j) H Q ∨ rEqD K false (.bl i) (.bl j) H Q := .inl ⟨rfl, by rw [dec_bl]; exact h⟩
theorem r_neB {i j : Bool} (h : Q (.bl (!(i == j))) H) : rNe (.bl i) (.bl j) H Q ∨ rEqD K true (.bl i) (.bl j) H Q := .inl ⟨rfl, by rw [dec_bl]; exact h⟩
theorem r_isB {a b : Bool} (h : Q (.bl (a == b)) H) : rIsG (.bl a) (.bl b) H Q := .inl ⟨a, b, rfl, rfl, h⟩
theorem r_isnotB {a b : Bool} (h : Q (.bl (a != b)) H) : rIsnotG (.bl a) (.bl b) H Q := .inl ⟨a, b, rfl, rfl, h⟩

theorem r_lenL {p : Addr} {ys : List V} (hs : SqL K H p ys) (h : Q (.int ys.length) H) : rLenG K [.ref p] H Q := .inl ⟨p, ys, rfl, .inl hs, h⟩
theorem r_lenI {p : Addr} {ns : List Int} (hs : SqL K H p (ns.map V.int)) (h : Q (.int ns.length) H) : rLenG K [.ref p] H Q := r_lenL hs (by rw [List.length_map]; exact h)
theorem r_lenD {p : Addr} {kvs : List (Key × V)} (hs : H p = some (.dK kvs)) (h : Q (.int kvs.length) H) : rLenG K [.ref p] H Q := .inr ⟨p, kvs, rfl, hs, h⟩
theorem r_catI {l b : Addr} {xs zs : List Int} (h1 : H l = some (.lst (xs.map V.int))) (h2 : H b = some (.lst (zs.map V.int))) (hz : xs.length + zs.length ≤ 1000000) (h : ∀ p, H p = none → Q (.ref p) (upd H p (.lst ((xs ++ zs).map V.int)))) : rAddG (.ref l) (.ref b) H Q := by
  refine .inr ⟨l, b, _, _, rfl, rfl, h1, h2, ?_, fun p hp => ?_⟩
  · rw [List.length_map, List.length_map]; exact Nat.le_trans hz (by decide)
  · rw [← List.map_append]; exact h p hp
theorem atI_int {ns : List Int} {i : Int} (h0 : 0 ≤ i) (h1 : i < ns.length) : atI (ns.map V.int) i = some (.int (ns.getD i.toNat 0)) := by
  obtain ⟨j, rfl⟩ : ∃ j : Nat, i = j := ⟨i.toNat, by omega⟩
  have hj : j < ns.length := by omega
  refine atI_nat ?_
  rw [List.getElem?_map, Int.toNat_natCast, List.getD_eq_getElem?_getD]
  simp [hj]
theorem atI_lastI {ns : List Int} (h : ns ≠ []) : atI (ns.map V.int) (-1) = some (.int (ns.getLast h)) := by
  have e : ns.map V.int = (ns.dropLast).map V.int ++ [.int (ns.getLast h)] := by
    conv => lhs; rw [← List.dropLast_concat_getLast h]
    rw [List.map_append]; rfl
  rw [e]
  exact atI_last _ _
theorem r_ixI {p : Addr} {ns : List Int} {i : Int} (hs : SqL K H p (ns.map V.int)) (h0 : 0 ≤ i) (h1 : i < ns.length) (h : Q (.int (ns.getD i.toNat 0)) H) : rIxG K (.ref p) (.int i) H Q := .inl ⟨p, _, i, _, rfl, rfl, hs, atI_int h0 h1, h⟩
theorem r_ixLast {p : Addr} {ns : List Int} (hs : SqL K H p (ns.map V.int)) (hn : ns ≠ []) (h : Q (.int (ns.getLast hn)) H) : rIxG K (.ref p) (.int (-1)) H Q := .inl ⟨p, _, _, _, rfl, rfl, hs, atI_lastI hn, h⟩
theorem r_ixL {p : Addr} {xs : List V} {i : Int} {v : V} (hs : SqL K H p xs) (e : atI xs i = some v) (h : Q v H) : rIxG K (.ref p) (.int i) H Q := .inl ⟨p, _, i, _, rfl, rfl, hs, e, h⟩
theorem r_ixT {p : Addr} {xs : List V} {i : Int} {v : V} (hs : H p = some (.tup xs)) (e : atI xs i = some v) (h : Q v H) : rIxG K (.ref p) (.int i) H Q := .inr ⟨p, _, i, _, rfl, rfl, SqT.of hs, e, h⟩
theorem shaped_dI (ns : List Int) : SeqAt.shaped (dI ns) = true := PySem.W.ke_shaped_ints ns
theorem eqv_dI (xs ys : List Int) : PyData.eqv (dI xs) (dI ys) = decide (xs = ys) := by rw [PyData.eqv]; exact PySem.W.ked_eqvAll xs ys
theorem r_eqL {a b : Addr} {xs ys : List Int} (h1 : SqL K H a (xs.map V.int)) (h2 : SqL K H b (ys.map V.int)) (h : Q (.bl (decide (xs = ys))) H) : rEq (.ref a) (.ref b) H Q ∨ rEqD K false (.ref a) (.ref b) H Q :=
  .inr ⟨dI xs, dI ys, RdV.ints h1, RdV.ints h2, shaped_dI _, shaped_dI _, by rw [if_neg (by decide), eqv_dI]; exact h⟩
theorem r_neL {a b : Addr} {xs ys : List Int} (h1 : SqL K H a (xs.map V.int)) (h2 : SqL K H b (ys.map V.int)) (h : Q (.bl (!decide (xs = ys))) H) : rNe (.ref a) (.ref b) H Q ∨ rEqD K true (.ref a) (.ref b) H Q :=
  .inr ⟨dI xs, dI ys, RdV.ints h1, RdV.ints h2, shaped_dI _, shaped_dI _, by rw [if_pos rfl, eqv_dI]; exact h⟩
theorem inV_ints (x : Int) : ∀ ns : List Int, inV (.int x) (ns.map V.int) = decide (x ∈ ns)
  | [] => by simp [inV]
  | n :: r => by
    have ih := inV_ints x r
    unfold inV at ih ⊢
    rw [List.map_cons, List.any_cons, ih]
    show ((n == x) || _) = _
    by_cases e : n = x
    · subst e; simp
    · have e' : ¬ x = n := fun z => e z.symm
      simp [e, e']
theorem flat_ints : ∀ ns : List Int, (ns.map V.int).all flatV = true
  | [] => rfl
  | n :: r => by rw [List.map_cons, List.all_cons, flat_ints r]; rfl
theorem r_inI {p : Addr} {x : Int} {ns : List Int} (hs : SqL K H p (ns.map V.int)) (h : Q (.bl (decide (x ∈ ns))) H) : rIn K false (.int x) (.ref p) H Q := ⟨p, _, rfl, .inl hs, rfl, flat_ints ns, by rw [if_neg (by decide), inV_ints]; exact h⟩
theorem r_notInI {p : Addr} {x : Int} {ns : List Int} (hs : SqL K H p (ns.map V.int)) (h : Q (.bl (!decide (x ∈ ns))) H) : rIn K true (.int x) (.ref p) H Q := ⟨p, _, rfl, .inl hs, rfl, flat_ints ns, by rw [if_pos rfl, inV_ints]; exact h⟩
def cutI (xs : List Int) (lo hi : Option Int) : List Int := (xs.drop (HT.sIx xs.length 0 lo)).take (HT.sIx xs.length xs.length hi - HT.sIx xs.length 0 lo)
theorem cutV_ints (ns : List Int) (lo hi : Option Int) : cutV (ns.map V.int) lo hi = (cutI ns lo hi).map V.int := by
  unfold cutV cutI
  rw [List.length_map, List.map_take, List.map_drop]
theorem r_slI {a : Addr} {ns : List Int} {lo hi : Option Int} (hs : SqL K H a (ns.map V.int)) (h : ∀ p, H p = none → Q (.ref p) (upd H p (.lst ((cutI ns lo hi).map V.int)))) : rSlL K (.ref a) lo hi H Q := ⟨a, _, rfl, hs, fun p hp => by rw [cutV_ints]; exact h p hp⟩
theorem filt_range {α : Type} (ys : List α) : ∀ n, n ≤ ys.length → ((List.range n).filterMap fun k => ys[k]?) = ys.take n
  | 0, _ => by simp
  | n + 1, h => by
    rw [List.range_succ, List.filterMap_append, filt_range ys n (by omega), List.take_add_one]
    have hn : n < ys.length := by omega
    simp [hn]
theorem sr_rev (n : Nat) : sliceRange ((n : Int) - 1) (-1) (-1) = (List.range n).map fun k => n - 1 - k := by
  unfold sliceRange
  have e : (if ((-1 : Int) > 0) then (if ((n : Int) - 1 < -1) then ((-1) - ((n : Int) - 1) + (-1) - 1) / (-1) else 0) else (if ((n : Int) - 1 > -1) then ((n : Int) - 1 - (-1) - (-1) - 1) / (-(-1)) else 0)).toNat = n := by
    rw [if_neg (by decide)]
    have e1 : (-(-1) : Int) = 1 := by decide
    rw [e1, Int.ediv_one]
    split <;> omega
  simp only [e]
  refine List.map_congr_left fun k hk => ?_
  have := List.mem_range.mp hk
  omega
theorem filt_congr {α β : Type} {f g : α → Option β} : ∀ {l : List α}, (∀ x ∈ l, f x = g x) → l.filterMap f = l.filterMap g
  | [], _ => rfl
  | x :: r, h => by
    rw [List.filterMap_cons, List.filterMap_cons, h x List.mem_cons_self, filt_congr fun y hy => h y (List.mem_cons_of_mem _ hy)]
theorem pickV_rev (xs : List V) : pickV xs none none (some (-1)) = xs.reverse := by
  unfold pickV
  have eb : sliceBounds none none (some (-1)) xs.length = ((xs.length : Int) - 1, -1, -1) := PySem.W.krv_bounds _
  rw [eb]
  simp only
  rw [sr_rev, List.filterMap_map]
  have e : ((List.range xs.length).filterMap ((fun i => xs[i]?) ∘ fun k => xs.length - 1 - k)) = (List.range xs.length).filterMap fun k => xs.reverse[k]? := by
    refine filt_congr fun k hk => ?_
    have := List.mem_range.mp hk
    show xs[xs.length - 1 - k]? = _
    rw [List.getElem?_reverse (by omega)]
  rw [e, filt_range _ _ (by rw [List.length_reverse]; omega), ← List.length_reverse (as := xs), List.take_length]
def evens {α : Type} : List α → List α
  | [] => []
  | [x] => [x]
  | x :: _ :: r => x :: evens r
theorem evens_map {α β : Type} (f : α → β) : ∀ l : List α, evens (l.map f) = (evens l).map f
  | [] => rfl
  | [x] => rfl
  | x :: y :: r => by
    show f x :: evens (r.map f) = f x :: (evens r).map f
    rw [evens_map f r]
theorem filt_evens {α : Type} : ∀ (xs : List α), ((List.range ((xs.length + 1) / 2)).filterMap fun k => xs[2 * k]?) = evens xs
  | [] => by simp [evens]
  | [x] => by simp [evens, List.range_succ]
  | x :: y :: r => by
    have ih := filt_evens r
    have e : ((x :: y :: r).length + 1) / 2 = (r.length + 1) / 2 + 1 := by simp only [List.length_cons]; omega
    rw [e, List.range_succ_eq_map, List.filterMap_cons]
    show x :: _ = x :: evens r
    rw [← ih, List.filterMap_map]
    congr 1
theorem sr_two (a n : Nat) (h : a ≤ n) : sliceRange (a : Int) (n : Int) 2 = (List.range ((n - a + 1) / 2)).map fun k => a + 2 * k := by
  unfold sliceRange
  have e : (if ((2 : Int) > 0) then (if ((a : Int) < n) then ((n : Int) - a + 2 - 1) / 2 else 0) else (if ((a : Int) > n) then ((a : Int) - n - 2 - 1) / (-2) else 0)).toNat = (n - a + 1) / 2 := by
    rw [if_pos (by decide)]
    split <;> omega
  simp only [e]
  refine List.map_congr_left fun k hk => ?_
  omega
theorem pickV_two (xs : List V) : pickV xs none none (some 2) = evens xs := by
  unfold pickV
  have eb : sliceBounds none none (some 2) xs.length = (((0 : Nat) : Int), (xs.length : Int), 2) := rfl
  rw [eb]
  simp only
  rw [sr_two 0 xs.length (Nat.zero_le _), List.filterMap_map, ← filt_evens xs, Nat.sub_zero]
  refine filt_congr fun k _ => ?_
  show xs[0 + 2 * k]? = _
  rw [Nat.zero_add]
theorem pickV_two1 (xs : List V) : pickV xs (some 1) none (some 2) = evens xs.tail := by
  unfold pickV
  cases xs with
  | nil => rfl
  | cons x r =>
    have eb : sliceBounds (some 1) none (some 2) (x :: r).length = (((1 : Nat) : Int), ((r.length + 1 : Nat) : Int), 2) := by
      unfold sliceBounds
      simp only [Option.getD_some, List.length_cons]
      have z1 : ¬ ((1 : Int) < 0) := by decide
      have z2 : ((2 : Int) > 0) := by decide
      simp only [z1, z2, if_true, if_false]
      have : max 0 (min (1 : Int) ((r.length + 1 : Nat) : Int)) = ((1 : Nat) : Int) := by omega
      rw [this]
    rw [eb]
    simp only
    rw [sr_two 1 (r.length + 1) (by omega), List.filterMap_map]
    show _ = evens r
    rw [← filt_evens r, Nat.add_sub_cancel]
    refine filt_congr fun k _ => ?_
    show (x :: r)[1 + 2 * k]? = _
    rw [Nat.add_comm 1, List.getElem?_cons_succ]
theorem r_sl3 {te : TE} {tl th : TO} {ts : TE} (h : te σ H fun x H1 => tl σ H1 fun l H2 => th σ H2 fun u H3 => ts σ H3 fun z H4 => Sl3K K x l u z H4 Q) : tSl3 K te tl th ts σ H Q := h
theorem r_rev {a : Addr} {ns : List Int} (hs : SqL K H a (ns.map V.int)) (h : ∀ p, H p = none → Q (.ref p) (upd H p (.lst (ns.reverse.map V.int)))) : Sl3K K (.ref a) none none (.int (-1)) H Q :=
  ⟨-1, a, _, rfl, by decide, rfl, hs, fun p hp => by rw [pickV_rev, ← List.map_reverse]; exact h p hp⟩
theorem r_ev {a : Addr} {ns : List Int} (hs : SqL K H a (ns.map V.int)) (h : ∀ p, H p = none → Q (.ref p) (upd H p (.lst ((evens ns).map V.int)))) : Sl3K K (.ref a) none none (.int 2) H Q :=
  ⟨2, a, _, rfl, by decide, rfl, hs, fun p hp => by rw [pickV_two, evens_map]; exact h p hp⟩
theorem r_od {a : Addr} {ns : List Int} (hs : SqL K H a (ns.map V.int)) (h : ∀ p, H p = none → Q (.ref p) (upd H p (.lst ((evens ns.tail).map V.int)))) : Sl3K K (.ref a) (some 1) none (.int 2) H Q :=
  ⟨2, a, _, rfl, by decide, rfl, hs, fun p hp => by
    have e : evens (ns.map V.int).tail = (evens ns.tail).map V.int := by rw [← List.map_tail, evens_map]
    rw [pickV_two1, e]; exact h p hp⟩
theorem r_append {l : Addr} {xs : List V} {y : V} (hl : H l = some (.lst xs)) (hz : xs.length < 1000000) (h : Q .non (upd H l (.lst (xs ++ [y])))) : rAppend (.ref l) [y] H Q := ⟨l, xs, y, rfl, rfl, hl, Nat.lt_of_lt_of_le hz (by decide), h⟩
def AtM (K : PySem.W.Frag) (x : V) (H1 : Hp) (R : Prop) : Prop := tyV K "list" x H1 ∧ R
theorem r_tBM {r : V → List V → Hp → VK → Prop} {to : TE} {t : TA} (h : to σ H fun x H1 => AtM K x H1 (t σ H1 fun xs H2 => r x xs H2 Q)) : tBM K "list" r to t σ H Q := h
theorem r_tBM0 {r : V → List V → Hp → VK → Prop} {to : TE} (h : to σ H fun x H1 => AtM K x H1 (r x [] H1 Q)) : tBM0 K "list" r to σ H Q := h
theorem r_AtM {p : Addr} {xs : List V} {R : Prop} (hs : SqL K H p xs) (h : R) : AtM K (.ref p) H R := ⟨.inl ⟨rfl, xs, hs⟩, h⟩
end
end L2
namespace L2
open PySem PySem.Spec PyProof.Rows
theorem ov_ints {K : PySem.W.Frag} {a : Addr} {ns : List Int} : Ov (Itl K a) ns (fun H => SqL K H a (ns.map V.int)) (fun z x H H' => x = .int z ∧ H' = H) where
  go := fun i H h hi => (ov_list (K := K) (a := a) (xs := ns.map V.int)).go i H h (by rw [List.length_map]; exact hi)
  stop := fun i H h hi => (ov_list (K := K) (a := a) (xs := ns.map V.int)).stop i H h (by rw [List.length_map]; exact hi)
  yld := fun i H x H' y h hy q => (ov_list (K := K) (a := a) (xs := ns.map V.int)).yld i H x H' (.int y) h (by rw [List.getElem?_map, hy]; rfl) q
theorem ov_zipI {K : PySem.W.Frag} {a b : Addr} {xs ys : List Int} : Ov (Itz K a b) (xs.zip ys) (fun H => SqL K H a (xs.map V.int) ∧ SqL K H b (ys.map V.int)) (fun y x H H' => ∃ T, H T = none ∧ x = .ref T ∧ H' = upd H T (.tup [.int y.1, .int y.2])) where
  go := fun i H h hi => (ov_zip (K := K) (a := a) (b := b) (xs := xs.map V.int) (ys := ys.map V.int)).go i H h (by rw [List.length_zip] at hi ⊢; rw [List.length_map, List.length_map]; exact hi)
  stop := fun i H h hi => (ov_zip (K := K) (a := a) (b := b) (xs := xs.map V.int) (ys := ys.map V.int)).stop i H h (by rw [List.length_zip] at hi ⊢; rw [List.length_map, List.length_map]; exact hi)
  yld := fun i H x H' y h hy q => by
    obtain ⟨u, v⟩ := y
    exact (ov_zip (K := K) (a := a) (b := b) (xs := xs.map V.int) (ys := ys.map V.int)).yld i H x H' (.int u, .int v) h (by
      rw [List.getElem?_zip_eq_some] at hy ⊢
      rw [List.getElem?_map, List.getElem?_map, hy.1, hy.2]; exact ⟨rfl, rfl⟩) q
theorem ov_enumI {K : PySem.W.Frag} {a : Addr} {xs : List Int} : Ov (Ite K a) xs.zipIdx (fun H => SqL K H a (xs.map V.int)) (fun y x H H' => ∃ T, H T = none ∧ x = .ref T ∧ H' = upd H T (.tup [.int (y.2 : Nat), .int y.1])) where
  go := fun i H h hi => (ov_enum (K := K) (a := a) (xs := xs.map V.int)).go i H h (by rw [List.length_zipIdx] at hi ⊢; rw [List.length_map]; exact hi)
  stop := fun i H h hi => (ov_enum (K := K) (a := a) (xs := xs.map V.int)).stop i H h (by rw [List.length_zipIdx] at hi ⊢; rw [List.length_map]; exact hi)
  yld := fun i H x H' y h hy q => by
    obtain ⟨u, v⟩ := y
    refine (ov_enum (K := K) (a := a) (xs := xs.map V.int)).yld i H x H' (.int u, v) h ?_ q
    rw [List.getElem?_zipIdx] at hy ⊢
    rw [List.getElem?_map]
    cases e : xs[i]? with
    | none => rw [e] at hy; cases hy
    | some z =>
      rw [e] at hy
      have e2 : (z, 0 + i) = (u, v) := Option.some.inj hy
      have e3 : z = u := congrArg Prod.fst e2
      have e4 : 0 + i = v := congrArg Prod.snd e2
      rw [e3, e4]; rfl
theorem for_by {α : Type} {J : It} {l : List α} {kp : Hp → Prop} {rep : α → V → Hp → Hp → Prop} (O : Ov J l kp rep) {g : TG} {tb : TS} {D : Ends} {σ : St} {H : Hp} (Pv : Nat → St → Hp → Prop) (h0 : Pv 0 σ H) (hk : ∀ i σ H, i ≤ l.length → Pv i σ H → kp H)
    (hs : ∀ i y x σ H H', l[i]? = some y → Pv i σ H → rep y x H H' → g x σ H' fun σ2 H2 => tb { D with nx := Pv (i + 1), ct := Pv (i + 1), bk := D.nx } σ2 H2) (hd : ∀ σ H, Pv l.length σ H → D.nx σ H) : ForBody J g tb D σ H := for_ov O Pv h0 hk hs hd
end L2
namespace L2
theorem iteNT {A B : Prop} (h : B) : if (!true) = true then A else B := by rw [if_neg (by decide)]; exact h
theorem iteNF {A B : Prop} (h : A) : if (!false) = true then A else B := iteT h
theorem iteD {P A B : Prop} [Decidable P] (h1 : P → A) (h2 : ¬ P → B) : if decide P = true then A else B := by
  by_cases h : P
  · rw [if_pos (decide_eq_true h)]; exact h1 h
  · rw [if_neg (by simp [h])]; exact h2 h
theorem iteND {P A B : Prop} [Decidable P] (h1 : ¬ P → A) (h2 : P → B) : if (!decide P) = true then A else B := by
  by_cases h : P
  · rw [if_neg (by simp [h])]; exact h2 h
  · rw [if_pos (by simp [h])]; exact h1 h
theorem iteB {b : Bool} {A B : Prop} (h1 : b = true → A) (h2 : b = false → B) : if b = true then A else B := by
  cases b
  · exact iteF (h2 rfl)
  · exact iteT (h1 rfl)
theorem iteNB {b : Bool} {A B : Prop} (h1 : b = false → A) (h2 : b = true → B) : if (!b) = true then A else B := by
  cases b
  · exact iteT (h1 rfl)
  · exact iteF (h2 rfl)
end L2
namespace L2
open PySem PySem.Spec PyProof.Rows
structure Blt (mg : Str → Option Value) : Prop where
  no_len : mg "len" = none
  no_zip : mg "zip" = none
  no_enumerate : mg "enumerate" = none
  no_range : mg "range" = none
  no_list : mg "list" = none
  no_int : mg "int" = none
  no_bool : mg "bool" = none
  no_tuple : mg "tuple" = none
  no_set : mg "set" = none
  no_all : mg "all" = none
  no_any : mg "any" = none
  no_sum : mg "sum" = none
  no_min : mg "min" = none
  no_max : mg "max" = none
  no_sorted : mg "sorted" = none
  no_isinstance : mg "isinstance" = none
  no_dict : mg "dict" = none
structure Cal (K : PySem.W.Frag) (mg : Str → Option Value) (x : Str) (f : Addr) (fd : FuncData) (ps : List Str) : Prop where
  mg : mg x = some (.ref f)
  kp : PySem.W.keepIn K (.ref f) = true
  b : Binds K fd ps []
structure Mak (K : PySem.W.Frag) (mg : Str → Option Value) (x : Str) (C f : Addr) (fd : FuncData) (ps : List Str) : Prop where
  mg : mg x = some (.ref C)
  mkk : Mk K C f
  cl : Cls K C
  b : Binds K fd ps []
structure Met (K : PySem.W.Frag) (C : Addr) (m : Str) (f : Addr) (fd : FuncData) (ps : List Str) : Prop where
  m : Meth K C m f
  b : Binds K fd ps []
end L2
namespace L2
open PySem PySem.Spec PyProof.Rows
theorem kit_ii {K : PySem.W.Frag} : PySem.W.kitOne K (.type "int") (.type "int") = some true := rfl
theorem kit_ib {K : PySem.W.Frag} : PySem.W.kitOne K (.type "int") (.type "bool") = some false := rfl
theorem kit_ll {K : PySem.W.Frag} : PySem.W.kitOne K (.type "list") (.type "list") = some true := rfl
theorem r_isi {K : PySem.W.Frag} {H : Hp} {Q : VK} {x c : V} {cv t : Value} {b : Bool} (hc : clsOf c = some cv) (ty : TyOf K H x t) (e : PySem.W.kitOne K t cv = some b) (h : Q (.bl b) H) :
    rIsi K [x, c] H Q := ⟨x, c, cv, t, b, rfl, hc, ty, e, h⟩
theorem r_isi_ii {K : PySem.W.Frag} {H : Hp} {Q : VK} {z : Int} (h : Q (.bl true) H) : rIsi K [.int z, .ty "int"] H Q := r_isi rfl (.int z) kit_ii h
theorem r_isi_ib {K : PySem.W.Frag} {H : Hp} {Q : VK} {z : Int} (h : Q (.bl false) H) : rIsi K [.int z, .ty "bool"] H Q := r_isi rfl (.int z) kit_ib h
theorem r_isi_ll {K : PySem.W.Frag} {H : Hp} {Q : VK} {a : Addr} {vs : List V} (ha : H a = some (.lst vs)) (h : Q (.bl true) H) : rIsi K [.ref a, .ty "list"] H Q := r_isi rfl (.lst ha) kit_ll h
end L2
namespace L2
open PySem PySem.Spec PyProof.Rows
theorem comp_map {α : Type} {J : It} {l : List α} {kp : Hp → Prop} {rep : α → V → Hp → Hp → Prop} (O : Ov J l kp rep) {g : TG} {ti : TT} {te : TE} {k : Nat} {caps : List Nat} {σ : St} {H1 : Hp} {Q : VK}
    (f : α → V) (hk : ∀ H, Same H1 H → kp H) (hl : l.length ≤ 1000000)
    (turn : ∀ (i : Nat) y x H3 H4 (R : V → Hp → Prop) (R' : Hp → Prop), l[i]? = some y → Same H1 H3 → rep y x H3 H4 → (∀ H7, Same H3 H7 → R (f y) H7) →
      g x (inner k caps σ) H4 fun σ4 H5 => (σ4.length = (inner k caps σ).length ∧ σ4.drop k = (inner k caps σ).drop k) ∧ ti σ4 H5 fun b H6 => if b = true then te σ4 H6 R else R' H6)
    (fin : ∀ D H', H1 D = none → Same H1 H' → H' D = some (.lst (l.map f)) → Q (.ref D) H') : CompBody J g ti te k caps σ Q H1 :=
  comp_pure O (fun _ => true) f hk (Nat.le_trans hl (by decide)) (fun i y x H3 H4 R R' e s r h1 _ => turn i y x H3 H4 R R' e s r (h1 rfl))
    fun D H' hD s d => fin D H' hD s (by rw [d, List.filter_eq_self.mpr (fun _ _ => rfl)])
theorem all_true {α : Type} (l : List α) : (l.map fun _ => true).all id = true := by simp
end L2
set_option maxHeartbeats 4000000
namespace Lf

def standsFrom (row : List Int) : Int → List Int → List Int → Bool
  | last, p :: ps, x :: xs => decide (last < p) && decide (p < (row.length : Int)) && decide (row.getD p.toNat 0 = x) && standsFrom row p ps xs
  | _, _, _ => true
def stands (row places other : List Int) : Bool := decide (places.length = other.length) && standsFrom row (-1) places other

def strike : List Int → List Int → List Int
  | [], rest => rest
  | y :: ys, rest => strike ys (match rest with | [] => [] | x :: r => if x = y then r else x :: r)
def isLeft (row other : List Int) : Bool := (strike row.reverse other.reverse).isEmpty

theorem strike_nil : ∀ ys : List Int, strike ys [] = []
  | [] => rfl
  | _ :: ys => by rw [strike]; exact strike_nil ys
theorem strike_sub : ∀ (ys rest : List Int), strike ys rest = [] ↔ rest.Sublist ys
  | [], rest => by
    rw [strike]
    constructor
    · intro h; rw [h]; exact List.nil_sublist _
    · intro h; exact List.sublist_nil.mp h
  | y :: ys, [] => by
    rw [strike]
    simp [strike_nil]
  | y :: ys, x :: r => by
    rw [strike]
    by_cases h : x = y
    · subst h
      simp only [if_true]
      rw [strike_sub ys r]
      exact List.cons_sublist_cons.symm
    · simp only [h, if_false]
      rw [strike_sub ys (x :: r)]
      constructor
      · intro q; exact q.cons y
      · intro q
        cases q with
        | cons _ q => exact q
        | cons_cons _ q => exact absurd rfl h
theorem isLeft_iff (row other : List Int) : isLeft row other = true ↔ other.Sublist row := by
  unfold isLeft
  rw [List.isEmpty_iff, strike_sub, List.reverse_sublist]

def beginAt (places : List Int) (at' : Nat) : Int := if at' = 0 then 0 else places.getD (at' - 1) 0 + 1
def endAt (row places : List Int) (at' : Nat) : Int := (places ++ [(row.length : Int)]).getD at' 0
def cut (row : List Int) (b e : Int) : List Int := (row.drop b.toNat).take (e.toNat - b.toNat)
def short (row other places : List Int) : Bool :=
  decide (places.length < other.length) && stands row places (other.take places.length) &&
  (List.range (places.length + 1)).all fun i => !((cut row (beginAt places i) (endAt row places i)).contains (other.getD i 0))

end Lf
namespace Lf
def most (code : Int) : Int := if code % 4 = 0 then 2 else if code % 4 = 1 then 3 else if code % 4 = 2 then 5 else 10 ^ 30
end Lf
namespace Lf
theorem standsFrom_rise (row : List Int) : ∀ (ps xs : List Int) (last : Int), -1 ≤ last → ps.length = xs.length → standsFrom row last ps xs = true → ∀ i, i < ps.length → last < ps.getD i 0 ∧ ps.getD i 0 < (row.length : Int)
  | [], _, _, _, _, _ => fun i hi => by simp at hi
  | _ :: _, [], _, _, h, _ => by simp at h
  | p :: ps, x :: xs, last, hl, h, e => fun i hi => by
    rw [standsFrom] at e
    simp only [Bool.and_eq_true, decide_eq_true_eq] at e
    obtain ⟨⟨⟨e1, e2⟩, e3⟩, e4⟩ := e
    cases i with
    | zero => exact ⟨e1, e2⟩
    | succ i =>
      have ih := standsFrom_rise row ps xs p (by omega) (by simpa using h) e4 i (by simpa using hi)
      simp only [List.getD_cons_succ]
      omega
theorem stands_rise {row ps xs : List Int} (h : stands row ps xs = true) (i : Nat) (hi : i < ps.length) : 0 ≤ ps.getD i 0 ∧ ps.getD i 0 < (row.length : Int) := by
  unfold stands at h
  simp only [Bool.and_eq_true, decide_eq_true_eq] at h
  have := standsFrom_rise row ps xs (-1) (by omega) h.1 h.2 i hi
  omega
end Lf
namespace Lf
def rising : Int → Int → List Int → Bool
  | _, _, [] => true
  | ahead, count, p :: ps => decide (ahead < p) && decide (p < count) && rising p count ps
def fits (row : List Int) (ps xs : List Int) : Bool := (ps.zip xs).all fun y => decide (row.getD y.1.toNat 0 = y.2)
theorem standsFrom_eq (row : List Int) : ∀ (ps xs : List Int) (last : Int), ps.length = xs.length → standsFrom row last ps xs = (rising last row.length ps && fits row ps xs)
  | [], [], _, _ => rfl
  | [], _ :: _, _, h => by simp at h
  | _ :: _, [], _, h => by simp at h
  | p :: ps, x :: xs, last, h => by
    rw [standsFrom, rising, standsFrom_eq row ps xs p (by simpa using h)]
    unfold fits
    rw [List.zip_cons_cons, List.all_cons]
    cases decide (last < p) <;> cases decide (p < (row.length : Int)) <;> cases rising p row.length ps <;> simp
theorem stands_eq (row ps xs : List Int) (h : ps.length = xs.length) : stands row ps xs = (rising (-1) row.length ps && fits row ps xs) := by
  unfold stands
  rw [standsFrom_eq row ps xs _ h]
  simp [h]
theorem rising_in : ∀ (ps : List Int) (ahead count : Int), rising ahead count ps = true → ∀ p ∈ ps, ahead < p ∧ p < count
  | [], _, _, _ => fun p hp => by simp at hp
  | q :: ps, ahead, count, h => fun p hp => by
    rw [rising] at h
    simp only [Bool.and_eq_true, decide_eq_true_eq] at h
    rcases List.mem_cons.mp hp with e | hp
    · subst e; exact ⟨h.1.1, h.1.2⟩
    · have := rising_in ps q count h.2 p hp
      omega
def earl : Int → List Int → List Int → List Int
  | i, x :: row, y :: other => if x = y then i :: earl (i + 1) row other else earl (i + 1) row (y :: other)
  | _, _, _ => []
def earliest (row other : List Int) : List Int := earl 0 row other
theorem earl_nil (i : Int) (row : List Int) : earl i row [] = [] := by cases row <;> rfl
theorem earl_none (i : Int) (other : List Int) : earl i [] other = [] := by cases other <;> rfl
theorem earl_len : ∀ (row other : List Int) (i : Int), (earl i row other).length ≤ other.length
  | [], other, i => by rw [earl_none]; simp
  | x :: row, [], i => by rw [earl_nil]; simp
  | x :: row, y :: other, i => by
    rw [earl]
    split
    · have := earl_len row other (i + 1)
      simp only [List.length_cons]
      omega
    · exact earl_len row (y :: other) (i + 1)
theorem earl_all : ∀ (row other : List Int) (i : Int), (earl i row other).length = other.length ↔ other.Sublist row
  | [], other, i => by
    rw [earl_none, List.sublist_nil]
    cases other <;> simp
  | x :: row, [], i => by rw [earl_nil]; simp
  | x :: row, y :: other, i => by
    rw [earl]
    by_cases h : x = y
    · subst h
      rw [if_pos rfl, List.length_cons, List.length_cons, List.cons_sublist_cons]
      rw [← earl_all row other (i + 1)]
      omega
    · rw [if_neg h, earl_all row (y :: other) (i + 1)]
      constructor
      · intro q; exact q.cons x
      · intro q
        cases q with
        | cons _ q => exact q
        | cons_cons _ q => exact absurd rfl h
end Lf
namespace Lf
theorem sub_skip {x : Int} {r l2 : List Int} : ∀ l1 : List Int, x ∉ l1 → (x :: r).Sublist (l1 ++ l2) → (x :: r).Sublist l2
  | [], _, h => h
  | y :: l1, hx, h => by
    have hne : x ≠ y := fun e => hx (e ▸ List.mem_cons_self)
    cases h with
    | cons _ h => exact sub_skip l1 (fun m => hx (List.mem_cons_of_mem _ m)) h
    | cons_cons _ h => exact absurd rfl hne
theorem sub_tail {x y : Int} {r l : List Int} (h : (x :: r).Sublist (y :: l)) : r.Sublist l := by
  cases h with
  | cons _ h => exact (List.sublist_cons_self x r).trans h
  | cons_cons _ h => exact h
theorem rising_get : ∀ (ps : List Int) (a c : Int), rising a c ps = true → ∀ i, i + 1 < ps.length → ps.getD i 0 < ps.getD (i + 1) 0
  | [], _, _, _, i, hi => by simp at hi
  | [p], _, _, _, i, hi => by simp at hi
  | p :: q :: ps, a, c, h, i, hi => by
    rw [rising] at h
    simp only [Bool.and_eq_true, decide_eq_true_eq] at h
    cases i with
    | zero =>
      have h2 := h.2
      rw [rising] at h2
      simp only [Bool.and_eq_true, decide_eq_true_eq] at h2
      exact h2.1.1
    | succ i =>
      have := rising_get (q :: ps) p c h.2 i (by simpa using hi)
      simpa using this
theorem short_parts {row other ps : List Int} (h : short row other ps = true) : ps.length < other.length ∧ stands row ps (other.take ps.length) = true ∧ ∀ i, i ≤ ps.length → other.getD i 0 ∉ cut row (beginAt ps i) (endAt row ps i) := by
  unfold short at h
  simp only [Bool.and_eq_true, decide_eq_true_eq] at h
  refine ⟨h.1.1, h.1.2, fun i hi => ?_⟩
  have := List.all_eq_true.mp h.2 i (List.mem_range.mpr (by omega))
  simpa using this
theorem drop_at {l : List Int} {i : Nat} (h : i < l.length) : l.drop i = l.getD i 0 :: l.drop (i + 1) := by
  rw [List.drop_eq_getElem_cons h]
  congr 1
  rw [List.getD_eq_getElem?_getD]
  simp [h]
theorem short_not_left {row other ps : List Int} (h : short row other ps = true) : isLeft row other = false := by
  obtain ⟨h1, h2, h3⟩ := short_parts h
  refine Bool.eq_false_iff.mpr fun hl => ?_
  rw [isLeft_iff] at hl
  have hlen : ps.length = (other.take ps.length).length := by rw [List.length_take]; omega
  have hri : rising (-1) row.length ps = true := by
    rw [stands_eq _ _ _ hlen] at h2
    exact (Bool.and_eq_true_iff.mp h2).1
  have hin : ∀ i, i < ps.length → 0 ≤ ps.getD i 0 ∧ ps.getD i 0 < (row.length : Int) := fun i hi => stands_rise h2 i hi
  have key : ∀ i, i ≤ ps.length → (other.drop i).Sublist (row.drop (beginAt ps i).toNat) := by
    intro i
    induction i with
    | zero => intro _; simpa [beginAt] using hl
    | succ i ih =>
      intro hi
      have ih := ih (by omega)
      have hpi := hin i (by omega)
      have e : endAt row ps i = ps.getD i 0 := by
        unfold endAt
        rw [List.getD_eq_getElem?_getD, List.getElem?_append_left (by omega), ← List.getD_eq_getElem?_getD]
      have hb : 0 ≤ beginAt ps i ∧ beginAt ps i ≤ ps.getD i 0 := by
        unfold beginAt
        split
        · omega
        · have a := hin (i - 1) (by omega)
          have b := rising_get ps _ _ hri (i - 1) (by omega)
          have : i - 1 + 1 = i := by omega
          rw [this] at b
          omega
      have hx := h3 i (by omega)
      rw [e] at hx
      rw [drop_at (l := other) (i := i) (by omega)] at ih
      have split : row.drop (beginAt ps i).toNat = cut row (beginAt ps i) (ps.getD i 0) ++ row.drop (ps.getD i 0).toNat := by
        unfold cut
        conv => lhs; rw [← List.take_append_drop ((ps.getD i 0).toNat - (beginAt ps i).toNat) (row.drop (beginAt ps i).toNat)]
        rw [List.drop_drop]
        congr 2
        omega
      rw [split] at ih
      have ih := sub_skip _ hx ih
      rw [drop_at (l := row) (i := (ps.getD i 0).toNat) (by omega)] at ih
      have ih := sub_tail ih
      have e2 : (beginAt ps (i + 1)).toNat = (ps.getD i 0).toNat + 1 := by
        unfold beginAt
        rw [if_neg (by omega)]
        simp only [Nat.add_sub_cancel]
        omega
      rw [e2]
      exact ih
  have last := key ps.length (Nat.le_refl _)
  have hx := h3 ps.length (Nat.le_refl _)
  rw [drop_at (l := other) (i := ps.length) h1] at last
  have hm : other.getD ps.length 0 ∈ row.drop (beginAt ps ps.length).toNat := last.subset List.mem_cons_self
  refine hx ?_
  have e : endAt row ps ps.length = row.length := by
    unfold endAt
    rw [List.getD_eq_getElem?_getD, List.getElem?_append_right (Nat.le_refl _)]
    simp
  unfold cut
  rw [e, Int.toNat_natCast, List.take_of_length_le (by rw [List.length_drop]; omega)]
  exact hm
end Lf
namespace Lf
theorem drop_cons_of {row : List Int} {x : Int} {r : List Int} {i : Nat} (h : x :: r = row.drop i) : i < row.length ∧ row.getD i 0 = x ∧ r = row.drop (i + 1) := by
  have hi : i < row.length := by
    rcases Nat.lt_or_ge i row.length with q | q
    · exact q
    · rw [List.drop_of_length_le q] at h; cases h
  rw [drop_at hi] at h
  obtain ⟨a, b⟩ := List.cons.inj h
  exact ⟨hi, a.symm, b⟩
theorem earl_stands (row : List Int) : ∀ (r o : List Int) (i : Nat) (last : Int), r = row.drop i → last < i → standsFrom row last (earl i r o) (o.take (earl i r o).length) = true
  | [], o, i, last, _, _ => by rw [earl_none]; rfl
  | x :: r, [], i, last, _, _ => by rw [earl_nil]; rfl
  | x :: r, y :: o, i, last, h, hl => by
    obtain ⟨hi, hx, hr⟩ := drop_cons_of h
    rw [earl]
    by_cases e : x = y
    · rw [if_pos e]
      have ih := earl_stands row r o (i + 1) (i : Int) hr (by omega)
      have ec : ((i : Int) + 1) = ((i + 1 : Nat) : Int) := by omega
      rw [ec]
      rw [List.length_cons, List.take_succ_cons, standsFrom, ih]
      have : row.getD (i : Int).toNat 0 = y := by rw [Int.toNat_natCast, hx, e]
      rw [this]
      simp
      omega
    · rw [if_neg e]
      have ec : ((i : Int) + 1) = ((i + 1 : Nat) : Int) := by omega
      rw [ec]
      exact earl_stands row r (y :: o) (i + 1) last hr (by omega)
theorem earl_ge (row : List Int) : ∀ (r o : List Int) (i : Nat), ∀ p ∈ earl i r o, (i : Int) ≤ p
  | [], o, i, p, hp => by rw [earl_none] at hp; simp at hp
  | x :: r, [], i, p, hp => by rw [earl_nil] at hp; simp at hp
  | x :: r, y :: o, i, p, hp => by
    have ec : ((i : Int) + 1) = ((i + 1 : Nat) : Int) := by omega
    rw [earl, ec] at hp
    split at hp
    · rcases List.mem_cons.mp hp with rfl | hp
      · exact Int.le_refl _
      · have := earl_ge row r o (i + 1) p hp; omega
    · have := earl_ge row r (y :: o) (i + 1) p hp; omega
def bAt (i : Int) (ps : List Int) (j : Nat) : Int := if j = 0 then i else ps.getD (j - 1) 0 + 1
theorem cut_step {row : List Int} {i : Nat} {e : Int} (hi : i < row.length) (he : (i : Int) < e) : cut row i e = row.getD i 0 :: cut row ((i : Int) + 1) e := by
  unfold cut
  have e1 : ((i : Int) + 1).toNat = i + 1 := by omega
  rw [e1, Int.toNat_natCast, drop_at hi]
  have : e.toNat - i = (e.toNat - (i + 1)) + 1 := by omega
  rw [this, List.take_succ_cons]
theorem cut_none {row : List Int} {b e : Int} (h : e ≤ b) : cut row b e = [] := by
  unfold cut
  have : e.toNat - b.toNat = 0 := by omega
  rw [this]; rfl
theorem earl_cuts (row : List Int) : ∀ (r o : List Int) (i : Nat), r = row.drop i → i ≤ row.length → ∀ j, j ≤ (earl i r o).length → j < o.length → o.getD j 0 ∉ cut row (bAt i (earl i r o) j) ((earl i r o ++ [(row.length : Int)]).getD j 0)
  | [], o, i, h, hi, j, hj, hjo => by
    rw [earl_none] at hj ⊢
    have j0 : j = 0 := by simpa using hj
    subst j0
    have hr : row.length ≤ i := by
      rcases Nat.lt_or_ge i row.length with q | q
      · rw [drop_at q] at h; cases h
      · exact q
    have : cut row (bAt i [] 0) (([] ++ [(row.length : Int)]).getD 0 0) = [] := cut_none (by show (row.length : Int) ≤ i; omega)
    rw [this]; simp
  | x :: r, [], i, h, hi, j, hj, hjo => by simp at hjo
  | x :: r, y :: o, i, h, hi, j, hj, hjo => by
    obtain ⟨hi', hx, hr⟩ := drop_cons_of h
    have ec : ((i : Int) + 1) = ((i + 1 : Nat) : Int) := by omega
    by_cases e : x = y
    · rw [earl, if_pos e] at hj ⊢
      rw [ec] at hj ⊢
      cases j with
      | zero =>
        have : cut row (bAt i ((i : Int) :: earl ((i + 1 : Nat) : Int) r o) 0) (((i : Int) :: earl ((i + 1 : Nat) : Int) r o ++ [(row.length : Int)]).getD 0 0) = [] := cut_none (Int.le_refl _)
        rw [this]; simp
      | succ j =>
        have ih := earl_cuts row r o (i + 1) hr (by omega) j (by simpa using hj) (by simpa using hjo)
        have b1 : bAt i ((i : Int) :: earl ((i + 1 : Nat) : Int) r o) (j + 1) = bAt ((i + 1 : Nat) : Int) (earl ((i + 1 : Nat) : Int) r o) j := by
          unfold bAt
          rw [if_neg (by omega)]
          cases j with
          | zero => simp
          | succ j => simp
        rw [b1]
        simpa using ih
    · rw [earl, if_neg e] at hj ⊢
      rw [ec] at hj ⊢
      have ih := earl_cuts row r (y :: o) (i + 1) hr (by omega) j hj hjo
      cases j with
      | succ j => exact ih
      | zero =>
        have b0 : bAt i (earl ((i + 1 : Nat) : Int) r (y :: o)) 0 = i := rfl
        have b1 : bAt ((i + 1 : Nat) : Int) (earl ((i + 1 : Nat) : Int) r (y :: o)) 0 = ((i + 1 : Nat) : Int) := rfl
        rw [b1] at ih
        rw [b0]
        have he : (i : Int) < (earl ((i + 1 : Nat) : Int) r (y :: o) ++ [(row.length : Int)]).getD 0 0 := by
          cases q : earl ((i + 1 : Nat) : Int) r (y :: o) with
          | nil => simp; omega
          | cons p ps =>
            have := earl_ge row r (y :: o) (i + 1) p (by rw [q]; exact List.mem_cons_self)
            simp
            omega
        rw [cut_step hi' he, hx, ec]
        intro m
        rcases List.mem_cons.mp m with q | q
        · exact e q.symm
        · exact ih q
theorem earliest_stands {row other : List Int} (h : (earliest row other).length = other.length) : stands row (earliest row other) other = true := by
  unfold stands
  rw [h]
  have := earl_stands row row other 0 (-1) (by simp) (by omega)
  unfold earliest at h
  simp only [Int.ofNat_zero, Int.natCast_zero] at this
  rw [h, List.take_length] at this
  unfold earliest
  rw [this]; simp
theorem earliest_short {row other : List Int} (h : ¬ (earliest row other).length = other.length) : short row other (earliest row other) = true := by
  have hl : (earliest row other).length < other.length := by
    have := earl_len row other 0
    unfold earliest at h ⊢
    omega
  have s := earl_stands row row other 0 (-1) (by simp) (by omega)
  simp only [Int.natCast_zero] at s
  have c := earl_cuts row row other 0 (by simp) (Nat.zero_le _)
  simp only [Int.natCast_zero] at c
  unfold short
  have e1 : decide ((earliest row other).length < other.length) = true := decide_eq_true hl
  have e2 : stands row (earliest row other) (other.take (earliest row other).length) = true := by
    unfold stands
    have : (earliest row other).length = (other.take (earliest row other).length).length := by rw [List.length_take]; omega
    rw [decide_eq_true this]
    unfold earliest
    rw [s]; rfl
  rw [e1, e2, Bool.true_and, Bool.true_and, List.all_eq_true]
  intro j hj
  have hj := List.mem_range.mp hj
  have := c j (by unfold earliest at hj; omega) (by omega)
  simp only [Bool.not_eq_true', List.contains_eq_mem, decide_eq_false_iff_not]
  exact this
end Lf
set_option maxRecDepth 100000
set_option maxHeartbeats 4000000
namespace L2
open PySem PySem.Spec PyProof.Rows
section
variable {σ : St} {H H' : Hp} {Q : VK} {D : Ends} {K : PySem.W.Frag} {X : Cx}
theorem same_upd {H2 : Hp} {r : Addr} {o : HO} (s : Same H H2) (hr : H r = none) : Same H (upd H2 r o) := fun b u h => upd_keepNe (s b u h) (ne_of_none h hr)
theorem free_upd {r q : Addr} {o : HO} (h : upd H r o q = none) : H q = none := by
  by_cases e : q = r
  · subst e; rw [upd_same] at h; cases h
  · rw [upd_ne e] at h; exact h
theorem ne_upd {r q : Addr} {o : HO} (h : upd H r o q = none) : q ≠ r := fun e => by subst e; rw [upd_same] at h; cases h
theorem same_trans {H1 H2 : Hp} (b : Same H1 H2) (a : Same H H1) : Same H H2 := a.trans b
def rLOf (K : PySem.W.Frag) (xs : List V) (H : Hp) (Q : VK) : Prop := ∃ p ys, xs = [.ref p] ∧ (SqL K H p ys ∨ SqT K H p ys) ∧ ∀ l, H l = none → Q (.ref l) (upd H l (.lst ys))
theorem call_listOf : CallR X (.type "list") (rLOf X.K) := call_list_of
theorem r_lofI {p : Addr} {ns : List Int} (hs : SqL K H p (ns.map V.int)) (h : ∀ l, H l = none → Q (.ref l) (upd H l (.lst (ns.map V.int)))) : rLOf K [.ref p] H Q := ⟨p, _, rfl, .inl hs, h⟩
theorem r_new0 (h : ∀ p, H p = none → Q (.ref p) (upd H p (.lst (([] : List Int).map V.int)))) : NewL Q [] H := r_newL (by decide) h
theorem r_new1 {a : Int} (h : ∀ p, H p = none → Q (.ref p) (upd H p (.lst (([a] : List Int).map V.int)))) : NewL Q [.int a] H := r_newL (by simp) h
theorem r_new2 {a b : Int} (h : ∀ p, H p = none → Q (.ref p) (upd H p (.lst (([a, b] : List Int).map V.int)))) : NewL Q [.int a, .int b] H := r_newL (by simp) h
theorem r_popI {l : Addr} {ns : List Int} (hl : H l = some (.lst (ns.map V.int))) (hn : ns ≠ []) (h : Q (.int (ns.getLast hn)) (upd H l (.lst (ns.dropLast.map V.int)))) : rPop (.ref l) [] H Q := by
  refine ⟨l, _, .int (ns.getLast hn), rfl, rfl, hl, ?_, ?_⟩
  · rw [List.length_map, List.getElem?_map, List.getLast_eq_getElem]
    have : ns.length - 1 < ns.length := by have := List.length_pos_iff.mpr hn; omega
    rw [List.getElem?_eq_getElem this]; rfl
  · rw [← List.map_dropLast]; exact h
theorem r_appI {l : Addr} {ns : List Int} {y : Int} (hl : H l = some (.lst (ns.map V.int))) (hz : ns.length < 1000000) (h : Q .non (upd H l (.lst ((ns ++ [y]).map V.int)))) : rAppend (.ref l) [.int y] H Q :=
  r_append hl (by rw [List.length_map]; exact hz) (by rw [List.map_append] at h; exact h)
theorem mr_append : MtR X "list.append" rAppend := mt_append
theorem mr_pop : MtR X "list.pop" rPop := mt_pop
theorem sIx_pos (n d : Nat) {k : Int} (h : 0 ≤ k) : HT.sIx n d (some k) = min k.toNat n := by
  obtain ⟨j, rfl⟩ : ∃ j : Nat, k = j := ⟨k.toNat, by omega⟩
  rw [HT.sIx_nat, Int.toNat_natCast]
theorem cutI_to (xs : List Int) {k : Int} (h : 0 ≤ k) : cutI xs none (some k) = xs.take k.toNat := by
  unfold cutI
  rw [sIx_pos _ _ h, HT.sIx_none, List.drop_zero, Nat.sub_zero, List.take_eq_take_iff]
  omega
theorem cutI_from (xs : List Int) {k : Int} (h : 0 ≤ k) : cutI xs (some k) none = xs.drop k.toNat := by
  unfold cutI
  rw [sIx_pos _ _ h, HT.sIx_none]
  rw [List.take_of_length_le (by rw [List.length_drop]; omega)]
  by_cases hk : k.toNat ≤ xs.length
  · rw [Nat.min_eq_left hk]
  · rw [Nat.min_eq_right (by omega), List.drop_of_length_le (Nat.le_refl _), List.drop_of_length_le (by omega)]
theorem cutI_mid (xs : List Int) {b e : Int} (hb : 0 ≤ b) (he : 0 ≤ e) : cutI xs (some b) (some e) = Lf.cut xs b e := by
  unfold cutI Lf.cut
  rw [sIx_pos _ _ hb, sIx_pos _ _ he]
  by_cases hk : b.toNat ≤ xs.length
  · rw [Nat.min_eq_left hk, List.take_eq_take_iff, List.length_drop]
    omega
  · rw [List.drop_of_length_le (by omega), List.drop_of_length_le (by omega), List.take_nil, List.take_nil]
theorem r_slTo {a : Addr} {ns : List Int} {k : Int} (hs : SqL K H a (ns.map V.int)) (hk : 0 ≤ k) (h : ∀ p, H p = none → Q (.ref p) (upd H p (.lst ((ns.take k.toNat).map V.int)))) : rSlL K (.ref a) none (some k) H Q := r_slI hs (by rw [cutI_to _ hk]; exact h)
theorem r_slFrom {a : Addr} {ns : List Int} {k : Int} (hs : SqL K H a (ns.map V.int)) (hk : 0 ≤ k) (h : ∀ p, H p = none → Q (.ref p) (upd H p (.lst ((ns.drop k.toNat).map V.int)))) : rSlL K (.ref a) (some k) none H Q := r_slI hs (by rw [cutI_from _ hk]; exact h)
theorem r_slMid {a : Addr} {ns : List Int} {b e : Int} (hs : SqL K H a (ns.map V.int)) (hb : 0 ≤ b) (he : 0 ≤ e) (h : ∀ p, H p = none → Q (.ref p) (upd H p (.lst ((Lf.cut ns b e).map V.int)))) : rSlL K (.ref a) (some b) (some e) H Q := r_slI hs (by rw [cutI_mid _ hb he]; exact h)
end
end L2
namespace L2
open PySem PySem.Spec PyProof.Rows
theorem comp_mapI {α : Type} {J : It} {l : List α} {kp : Hp → Prop} {rep : α → V → Hp → Hp → Prop} (O : Ov J l kp rep) {g : TG} {ti : TT} {te : TE} {k : Nat} {caps : List Nat} {σ : St} {H1 : Hp} {Q : VK}
    (f : α → Int) (hk : ∀ H, Same H1 H → kp H) (hl : l.length ≤ 1000000)
    (turn : ∀ (i : Nat) y x H3 H4 (R : V → Hp → Prop) (R' : Hp → Prop), l[i]? = some y → Same H1 H3 → rep y x H3 H4 → (∀ H7, Same H3 H7 → R (.int (f y)) H7) →
      g x (inner k caps σ) H4 fun σ4 H5 => (σ4.length = (inner k caps σ).length ∧ σ4.drop k = (inner k caps σ).drop k) ∧ ti σ4 H5 fun b H6 => if b = true then te σ4 H6 R else R' H6)
    (fin : ∀ D H', H1 D = none → Same H1 H' → H' D = some (.lst ((l.map f).map V.int)) → Q (.ref D) H') : CompBody J g ti te k caps σ Q H1 :=
  comp_map O (fun y => .int (f y)) hk hl turn fun D H' hD s d => fin D H' hD s (by rw [d, List.map_map]; rfl)
theorem comp_filtI {α : Type} {J : It} {l : List α} {kp : Hp → Prop} {rep : α → V → Hp → Hp → Prop} (O : Ov J l kp rep) {g : TG} {ti : TT} {te : TE} {k : Nat} {caps : List Nat} {σ : St} {H1 : Hp} {Q : VK}
    (c : α → Bool) (f : α → Int) (hk : ∀ H, Same H1 H → kp H) (hl : l.length ≤ 1000000)
    (turn : ∀ (i : Nat) y x H3 H4 (R : V → Hp → Prop) (R' : Hp → Prop), l[i]? = some y → Same H1 H3 → rep y x H3 H4 → (c y = true → ∀ H7, Same H3 H7 → R (.int (f y)) H7) → (c y = false → ∀ H7, Same H3 H7 → R' H7) →
      g x (inner k caps σ) H4 fun σ4 H5 => (σ4.length = (inner k caps σ).length ∧ σ4.drop k = (inner k caps σ).drop k) ∧ ti σ4 H5 fun b H6 => if b = true then te σ4 H6 R else R' H6)
    (fin : ∀ D H', H1 D = none → Same H1 H' → H' D = some (.lst (((l.filter c).map f).map V.int)) → Q (.ref D) H') : CompBody J g ti te k caps σ Q H1 :=
  comp_pure O c (fun y => .int (f y)) hk (Nat.le_trans hl (by decide)) turn fun D H' hD s d => fin D H' hD s (by rw [d, List.map_map]; rfl)
theorem mul2Ok {x : Int} : IntMulOk 2 x := IntMulOk.of_left (by decide)
end L2
namespace L2
open PySem PySem.Spec PyProof.Rows
section
variable {σ : St} {H H' : Hp} {Q : VK} {D : Ends} {K : PySem.W.Frag} {X : Cx}
def AtD2 (ty tx : TE) (σ : St) (Q : VK) (x : V) (H1 : Hp) : Prop := ∃ a, x = .ref a ∧ IsD H1 a ∧ ty σ H1 fun y H2 => tx σ H2 fun z H3 => ∃ o, DGet H3 a y o ∧ Q (o.getD z) H3
theorem r_dget2 {td ty tx : TE} (h : td σ H fun x H1 => AtD2 ty tx σ Q x H1) : tDGet2 td ty tx σ H Q := h
def DG2 (a : Addr) (Q : VK) (y z : V) (H3 : Hp) : Prop := ∃ o, DGet H3 a y o ∧ Q (o.getD z) H3
theorem r_AtD2 {ty tx : TE} {a : Addr} {kvs : List (Key × V)} (ha : H a = some (.dK kvs)) (h : ty σ H fun y H2 => tx σ H2 fun z H3 => DG2 a Q y z H3) : AtD2 ty tx σ Q (.ref a) H := ⟨a, rfl, .inl ⟨kvs, .inl ha⟩, h⟩
theorem r_DG2 {a : Addr} {i : Int} {z : V} {kvs : List (Key × V)} (ha : H a = some (.dK kvs)) (h : Q ((valV kvs (.inl i)).getD z) H) : DG2 a Q (.int i) z H := ⟨_, DGet.k (k := .inl i) ha, h⟩
def DP (R : Hp → Prop) (x y v : V) (H3 : Hp) : Prop := ∃ a H4, x = .ref a ∧ DPut H3 a y v H4 ∧ R H4
theorem r_dput {td ty tv : TE} (h : tv σ H fun v H1 => td σ H1 fun x H2 => ty σ H2 fun y H3 => DP (fun H4 => D.nx σ H4) x y v H3) : sDPut td ty tv D σ H := h
theorem r_DP {R : Hp → Prop} {a : Addr} {i : Int} {v : V} {kvs : List (Key × V)} (ha : H a = some (.dK kvs)) (hl : kvs.length < 1000000) (h : R (upd H a (.dK (putK kvs (.inl i) v)))) : DP R (.ref a) (.int i) v H := ⟨a, _, rfl, DPut.k (k := .inl i) ha (Nat.lt_of_lt_of_le hl (by decide)), h⟩
theorem r_dnewK (h : ∀ p, H p = none → Q (.ref p) (upd H p (.dK []))) : tDNewK σ H Q := h
def Par2 (i j : Nat) (σ : St) (D : Ends) (vs : List V) (H1 : Hp) : Prop := ∃ v w, vs = [v, w] ∧ D.nx ((σ.set i (some v)).set j (some w)) H1
theorem r_par {i j : Nat} {ta : TA} (h : ta σ H fun vs H1 => Par2 i j σ D vs H1) : tPar i j ta D σ H := h
theorem r_Par2 {i j : Nat} {x y : V} (h : D.nx ((σ.set i (some x)).set j (some y)) H) : Par2 i j σ D [x, y] H := ⟨x, y, rfl, h⟩
end
end L2
set_option maxHeartbeats 4000000
namespace Lf

def ways : List Int → List Int → Int
  | _, [] => 1
  | [], _ :: _ => 0
  | x :: row, y :: other => ways row (y :: other) + (if x = y then ways row other else 0)
def after (x : Int) : List Int → Option (List Int)
  | [] => none
  | y :: ys => if y = x then some ys else after x ys
theorem after_len (x : Int) : ∀ (s t : List Int), after x s = some t → t.length < s.length
  | [], _, h => by cases h
  | y :: ys, t, h => by
    unfold after at h
    split at h
    · cases h; simp
    · have := after_len x ys t h
      simp; omega
def kin : List Int → Int
  | [] => 1
  | x :: s => 2 * kin s - (match h : after x s with | some t => kin t | none => 0)
termination_by s => s.length
decreasing_by
  · simp
  · have := after_len x s t h
    simp; omega
theorem len_le_of_sub {α : Type} [DecidableEq α] : ∀ (l m : List α), l.Nodup → (∀ a ∈ l, a ∈ m) → l.length ≤ m.length
  | [], m, _, _ => by simp
  | a :: l, m, hn, hs => by
    have hn' := List.nodup_cons.mp hn
    have ham := hs a List.mem_cons_self
    have := len_le_of_sub l (m.erase a) hn'.2 fun b hb => by
      have hne : b ≠ a := fun e => hn'.1 (e ▸ hb)
      exact (List.mem_erase_of_ne hne).mpr (hs b (List.mem_cons_of_mem _ hb))
    rw [List.length_erase_of_mem ham] at this
    have : 0 < m.length := List.length_pos_of_mem ham
    simp; omega
theorem len_eq_of_same {α : Type} [DecidableEq α] {l m : List α} (h1 : l.Nodup) (h2 : m.Nodup) (h : ∀ a, a ∈ l ↔ a ∈ m) : l.length = m.length :=
  Nat.le_antisymm (len_le_of_sub l m h1 fun a ha => (h a).mp ha) (len_le_of_sub m l h2 fun a ha => (h a).mpr ha)
theorem filt_split {α : Type} (p : α → Bool) : ∀ l : List α, l.length = (l.filter fun a => !p a).length + (l.filter p).length
  | [] => rfl
  | a :: l => by
    have ih := filt_split p l
    rw [List.filter_cons, List.filter_cons]
    cases p a <;> simp <;> omega
end Lf
namespace Lf
def wl (r o : List Int) : List Int := (List.range o.length).map (fun j => ways r (o.drop j)) ++ [1]
end Lf
namespace Lf
def lmin : List Int → Int
  | [] => 0
  | [x] => x
  | x :: y :: r => if x ≤ lmin (y :: r) then x else lmin (y :: r)
theorem lmin_le : ∀ (l : List Int), ∀ a ∈ l, lmin l ≤ a
  | [], a, h => by simp at h
  | [x], a, h => by simp at h; subst h; exact Int.le_refl _
  | x :: y :: r, a, h => by
    have ih := lmin_le (y :: r)
    rw [lmin]
    rcases List.mem_cons.mp h with e | h
    · subst e; split <;> omega
    · have := ih a h
      split <;> omega
theorem lmin_mem : ∀ (l : List Int), l ≠ [] → lmin l ∈ l
  | [], h => absurd rfl h
  | [x], _ => by simp [lmin]
  | x :: y :: r, _ => by
    have ih := lmin_mem (y :: r) (by simp)
    rw [lmin]
    split
    · simp
    · exact List.mem_cons_of_mem _ ih
theorem lmin_eq {l : List Int} {M : Int} (h1 : M ∈ l) (h2 : ∀ a ∈ l, M ≤ a) : M = lmin l := by
  have a := lmin_le l M h1
  have b := h2 _ (lmin_mem l (List.ne_nil_of_mem h1))
  omega
def least : Nat → List Int → List Int
  | 0, _ => []
  | m + 1, row => lmin (row.take (row.length - m)) :: least m (row.drop ((row.take (row.length - m)).idxOf (lmin (row.take (row.length - m))) + 1))
theorem least_all : ∀ (row : List Int), least row.length row = row
  | [] => rfl
  | x :: r => by
    have e : (x :: r).length - r.length = 1 := by simp
    rw [List.length_cons, least, e]
    have t : (x :: r).take 1 = [x] := rfl
    rw [t]
    have : lmin [x] = x := rfl
    rw [this]
    simp [least_all r]
end Lf
set_option maxRecDepth 100000
set_option maxHeartbeats 4000000
namespace L2
open PySem PySem.Spec PyProof.Rows
section
variable {σ : St} {H H' : Hp} {Q : VK} {D : Ends} {K : PySem.W.Frag} {X : Cx}
theorem upd_keepA {q p : Addr} {u o : HO} (hp : H p = none) (h : H q = some u) : upd H p o q = some u := upd_keep h hp
theorem upd_keepNeA {q p : Addr} {u o : HO} (hne : q ≠ p) (h : H q = some u) : upd H p o q = some u := upd_keepNe h hne
theorem sq_keepA {q p : Addr} {xs : List V} {o : HO} (hp : H p = none) (h : SqL K H q xs) : SqL K (upd H p o) q xs := sq_keep h hp
theorem sq_keepNeA {q p : Addr} {xs : List V} {o : HO} (hne : q ≠ p) (h : SqL K H q xs) : SqL K (upd H p o) q xs := sq_keepNe h hne
theorem mk_keep {x dx q : Addr} {o o' u : HO} (hx : H x = none) (hdx : H dx = none) (h : H q = some u) : upd (upd H dx o') x o q = some u := upd_keepNe (upd_keep h hdx) (ne_of_none h hx)
theorem mk_sq {x dx q : Addr} {o o' : HO} {xs : List V} (hx : H x = none) (hdx : H dx = none) (h : SqL K H q xs) : SqL K (upd (upd H dx o') x o) q xs := by
  rcases h with (h | ⟨u, h⟩) | h
  · exact .inl (.inl (mk_keep hx hdx h))
  · exact .inl (.inr ⟨u, mk_keep hx hdx h⟩)
  · exact .inr h
theorem free_of {l : Addr} (h : H' l = none) (e : Same H H') : H l = none := e.free h
theorem r_new3 {a b c : Int} (h : ∀ p, H p = none → Q (.ref p) (upd H p (.lst (([a, b, c] : List Int).map V.int)))) : NewL Q [.int a, .int b, .int c] H := r_newL (by simp) h
theorem r_new4 {a b c d : Int} (h : ∀ p, H p = none → Q (.ref p) (upd H p (.lst (([a, b, c, d] : List Int).map V.int)))) : NewL Q [.int a, .int b, .int c, .int d] H := r_newL (by simp) h
theorem r_new5 {a b c d e : Int} (h : ∀ p, H p = none → Q (.ref p) (upd H p (.lst (([a, b, c, d, e] : List Int).map V.int)))) : NewL Q [.int a, .int b, .int c, .int d, .int e] H := r_newL (by simp) h
def rSum (K : PySem.W.Frag) (xs : List V) (H : Hp) (Q : VK) : Prop := ∃ (p : Addr) (ns : List Int), xs = [.ref p] ∧ SqL K H p (ns.map V.int) ∧ Q (.int ns.sum) H
theorem call_sum (hc : X.calm = true) : CallR X (.builtin "sum") (rSum X.K) := call_sumI hc
theorem r_ixLit {p : Addr} {xs : List V} {i : Int} {v : V} (hs : SqL K H p xs) (e : atI xs i = some v) (h : Q v H) : rIxG K (.ref p) (.int i) H Q := r_ixL hs e h
theorem r_sum {p : Addr} {ns : List Int} (hs : SqL K H p (ns.map V.int)) (h : Q (.int ns.sum) H) : rSum K [.ref p] H Q := ⟨p, ns, rfl, hs, h⟩
structure Ins (K : PySem.W.Frag) (C : Addr) : Prop where
  cl : Cls K C
  ha : PySem.W.findIn K (.ref C) "__class__" = some (some (.builtin "object.__class__"))
  hn : PySem.W.specialIn K (.builtin "object.__class__") "__get__" = some (some (.builtin "getset_descriptor.__get__"))
  htk : PySem.W.takesIn K (.builtin "object.__class__") = some true
  hm : PySem.W.mroIn K C (.type "object") = some true
theorem r_isi_cls {x C D' dx : Addr} {fs : List (Str × V)} {b : Bool} (ha : H x = some (.ins C dx fs)) (i : Ins K C) (hk : PySem.W.kitOne K (.ref C) (.ref D') = some b) (h : Q (.bl b) H) : rIsi K [.ref x, .ref D'] H Q := r_isi rfl (.ins ha i.cl i.ha i.hn i.htk i.hm) hk h
def AtF (K : PySem.W.Frag) (f : Str) (Q : VK) (x : V) (H1 : Hp) : Prop := ∃ a C dx fs v, x = .ref a ∧ H1 a = some (.ins C dx fs) ∧ Cls K C ∧ NoAttr K C f ∧ fs.lookup f = some v ∧ Q v H1
theorem r_fld {ta : TE} {f : Str} (h : ta σ H fun x H1 => AtF K f Q x H1) : tFld K ta f σ H Q := h
theorem r_AtF {a C dx : Addr} {fs : List (Str × V)} {f : Str} {v : V} (ha : H a = some (.ins C dx fs)) (i : Ins K C) (n : NoAttr K C f) (l : fs.lookup f = some v) (h : Q v H) : AtF K f Q (.ref a) H := ⟨a, C, dx, fs, v, rfl, ha, i.cl, n, l, h⟩
def SetF (K : PySem.W.Frag) (f : Str) (R : Hp → Prop) (y x : V) (H2 : Hp) : Prop := ∃ a C dx fs, x = .ref a ∧ H2 a = some (.ins C dx fs) ∧ Cls K C ∧ NoAttr K C f ∧ fs.length < 1000 ∧ R (upd H2 a (.ins C dx (putF f y fs)))
theorem r_sfld {ta tv : TE} {f : Str} (h : tv σ H fun y H1 => ta σ H1 fun x H2 => SetF K f (fun H3 => D.nx σ H3) y x H2) : sFld K ta tv f D σ H := h
theorem r_SetF {a C dx : Addr} {fs : List (Str × V)} {f : Str} {y : V} {R : Hp → Prop} (ha : H a = some (.ins C dx fs)) (i : Ins K C) (n : NoAttr K C f) (l : fs.length < 1000) (h : R (upd H a (.ins C dx (putF f y fs)))) : SetF K f R y (.ref a) H := ⟨a, C, dx, fs, rfl, ha, i.cl, n, l, h⟩
def AtMe (C : Addr) (m : Str) (x : V) (H1 : Hp) (R : Prop) : Prop := ∃ a dx fs, x = .ref a ∧ H1 a = some (.ins C dx fs) ∧ fs.lookup m = none ∧ R
theorem r_meth {C : Addr} {m : Str} {sp : Sp} {dvs : List V} {E : XK} {ta : TE} {t : TA} (h : ta σ H fun x H1 => AtMe C m x H1 (t σ H1 fun vs H2 => sp (x :: (vs ++ dvs)) H2 Q E)) : tMeth C m sp dvs E ta t σ H Q := h
theorem r_AtMe {C a dx : Addr} {m : Str} {fs : List (Str × V)} {R : Prop} (ha : H a = some (.ins C dx fs)) (l : fs.lookup m = none) (h : R) : AtMe C m (.ref a) H R := ⟨a, dx, fs, rfl, ha, l, h⟩
theorem r_make {C : Addr} {sp : Sp} {dvs : List V} {E : XK} {t : TA} (h : t σ H fun vs H1 => ∀ x dx, H1 x = none → H1 dx = none → dx ≠ x →
    sp (.ref x :: (vs ++ dvs)) (upd (upd H1 dx (.own x)) x (.ins C dx [])) (fun v H2 => v = .non ∧ Q (.ref x) H2) E) : tMake C sp dvs E t σ H Q := h
def tEi (t u : TE) : TE := fun σ H Q => t σ H Q ∨ u σ H Q
theorem r_eiL {t u : TE} (h : t σ H Q) : tEi t u σ H Q := .inl h
theorem r_eiR {t u : TE} (h : u σ H Q) : tEi t u σ H Q := .inr h
def rAny (K : PySem.W.Frag) (xs : List V) (H : Hp) (Q : VK) : Prop := ∃ (p : Addr) (bs : List Bool), xs = [.ref p] ∧ SqL K H p (bs.map V.bl) ∧ Q (.bl (bs.any id)) H
def rAll (K : PySem.W.Frag) (xs : List V) (H : Hp) (Q : VK) : Prop := ∃ (p : Addr) (bs : List Bool), xs = [.ref p] ∧ SqL K H p (bs.map V.bl) ∧ Q (.bl (bs.all id)) H
theorem call_anyB (hc : X.calm = true) : CallR X (.builtin "any") (rAny X.K) := call_any hc
theorem call_allB (hc : X.calm = true) : CallR X (.builtin "all") (rAll X.K) := call_all hc
theorem r_any3F {p : Addr} (hs : SqL K H p [.bl false, .bl false, .bl false]) (h : Q (.bl false) H) : rAny K [.ref p] H Q := ⟨p, [false, false, false], rfl, hs, h⟩
theorem r_any2F {p : Addr} (hs : SqL K H p [.bl false, .bl false]) (h : Q (.bl false) H) : rAny K [.ref p] H Q := ⟨p, [false, false], rfl, hs, h⟩
theorem iteTeF {A B : Prop} (h : B) : if (true == false) = true then A else B := h
theorem iteFeT {A B : Prop} (h : B) : if (false == true) = true then A else B := h
theorem iteTeT {A B : Prop} (h : A) : if (true == true) = true then A else B := h
theorem iteFeF {A B : Prop} (h : A) : if (false == false) = true then A else B := h
theorem iteTnT {A B : Prop} (h : B) : if (true != true) = true then A else B := h
theorem iteFnF {A B : Prop} (h : B) : if (false != false) = true then A else B := h
theorem iteTnF {A B : Prop} (h : A) : if (true != false) = true then A else B := h
theorem iteFnT {A B : Prop} (h : A) : if (false != true) = true then A else B := h
theorem iteNBB {b : Bool} {A B : Prop} (h : B) : if (!(b == b)) = true then A else B := by cases b <;> exact h
theorem iteNDD {α : Type} [DecidableEq α] {x : α} {A B : Prop} (h : B) : if (!decide (x = x)) = true then A else B := by rw [decide_eq_true rfl]; exact h
theorem iteDD {α : Type} [DecidableEq α] {x : α} {A B : Prop} (h : A) : if decide (x = x) = true then A else B := by rw [decide_eq_true rfl, if_pos rfl]; exact h
end
end L2
set_option maxHeartbeats 4000000
namespace Lf
def tg (tb : List (List Int)) (i j : Nat) : Int := (tb.getD i []).getD j 0
structure TabAt (one other : List Int) (tb : List (List Int)) (i j : Nat) : Prop where
  up : 0 < i → tg tb (i - 1) j ≤ tg tb i j
  lf : 0 < j → tg tb i (j - 1) ≤ tg tb i j
  dg : 0 < i → 0 < j → one.getD (i - 1) 0 = other.getD (j - 1) 0 → tg tb (i - 1) (j - 1) < tg tb i j
structure TabOk (one other : List Int) (tb : List (List Int)) : Prop where
  len : tb.length = one.length + 1
  first : 0 ≤ tg tb 0 0
  lens : ∀ i, i ≤ one.length → (tb.getD i []).length = other.length + 1
  all : ∀ i j, i ≤ one.length → j ≤ other.length → TabAt one other tb i j
end Lf
namespace Lf
def picks (row ps : List Int) : List Int := ps.map fun p => row.getD p.toNat 0
end Lf
set_option maxHeartbeats 4000000
namespace Lf
theorem take_snoc {l : List Int} {i : Nat} (h0 : 0 < i) (h : i ≤ l.length) : l.take i = l.take (i - 1) ++ [l.getD (i - 1) 0] := by
  have e : i = (i - 1) + 1 := by omega
  conv => lhs; rw [e]
  rw [List.take_add_one]
  congr 1
  rw [List.getD_eq_getElem?_getD]
  have : i - 1 < l.length := by omega
  simp [this]
theorem tab_nonneg {one other : List Int} {tb : List (List Int)} (T : TabOk one other tb) : ∀ (n i j : Nat), i + j = n → i ≤ one.length → j ≤ other.length → 0 ≤ tg tb i j
  | 0, i, j, h, _, _ => by
    have : i = 0 := by omega
    have : j = 0 := by omega
    subst_vars
    exact T.first
  | n + 1, i, j, h, hi, hj => by
    by_cases h0 : 0 < i
    · have := (T.all i j hi hj).up h0
      have := tab_nonneg T n (i - 1) j (by omega) (by omega) hj
      omega
    · have := (T.all i j hi hj).lf (by omega)
      have := tab_nonneg T n i (j - 1) (by omega) hi (by omega)
      omega
theorem set_getD {α : Type} {l : List α} {i : Nat} {x d : α} (h : i < l.length) : (l.set i x).getD i d = x := by
  rw [List.getD_eq_getElem?_getD]
  simp [h]
end Lf
set_option maxRecDepth 100000
set_option maxHeartbeats 4000000
namespace L2
open PySem PySem.Spec PyProof.Rows
structure Tab (H : Hp) (t : Addr) (ls : List Addr) (tb : List (List Int)) : Prop where
  at_ : H t = some (.lst (ls.map V.ref))
  len : ls.length = tb.length
  row : ∀ (i : Nat) (l : Addr), ls[i]? = some l → H l = some (.lst ((tb.getD i []).map V.int))
section
variable {σ : St} {H H' : Hp} {Q : VK} {D : Ends} {K : PySem.W.Frag} {X : Cx}
theorem Tab.same {t : Addr} {ls : List Addr} {tb : List (List Int)} (T : Tab H t ls tb) (s : Same H H') : Tab H' t ls tb := ⟨s.at T.at_, T.len, fun i l h => s.at (T.row i l h)⟩
theorem r_anyM {α : Type} {p : Addr} {l : List α} {g : α → Bool} (hs : SqL K H p (l.map fun x => V.bl (g x))) (h : Q (.bl (l.any g)) H) : rAny K [.ref p] H Q := by
  refine ⟨p, l.map g, rfl, ?_, ?_⟩
  · rw [List.map_map]; exact hs
  · rw [List.any_map]; exact h
theorem r_allM {α : Type} {p : Addr} {l : List α} {g : α → Bool} (hs : SqL K H p (l.map fun x => V.bl (g x))) (h : Q (.bl (l.all g)) H) : rAll K [.ref p] H Q := by
  refine ⟨p, l.map g, rfl, ?_, ?_⟩
  · rw [List.map_map]; exact hs
  · rw [List.all_map]; exact h
theorem getD_set_eq {α : Type} {l : List α} {i : Nat} {x d : α} (h : i < l.length) : (l.set i x).getD i d = x := by
  rw [List.getD_eq_getElem?_getD]
  simp [h]
theorem getD_set_ne {α : Type} {l : List α} {i k : Nat} {x d : α} (h : i ≠ k) : (l.set i x).getD k d = l.getD k d := by
  rw [List.getD_eq_getElem?_getD, List.getD_eq_getElem?_getD]
  simp [h]
theorem nodup_at {ls : List Addr} (nd : ls.Nodup) {i k : Nat} {l l' : Addr} (hi : ls[i]? = some l) (hk : ls[k]? = some l') (h : k ≠ i) : l' ≠ l := by
  intro e
  subst e
  exact h ((List.getElem?_inj (List.getElem?_eq_some_iff.mp hk).1 nd).mp (hk.trans hi.symm))
theorem Tab.set {t l : Addr} {ls : List Addr} {tb : List (List Int)} {i : Nat} {line : List Int} (T : Tab H t ls tb) (nd : ls.Nodup) (hl : ls[i]? = some l) (tl : t ≠ l) : Tab (upd H l (.lst (line.map V.int))) t ls (tb.set i line) := by
  have hi : i < tb.length := by rw [← T.len]; exact (List.getElem?_eq_some_iff.mp hl).1
  refine ⟨upd_keepNe T.at_ tl, by rw [List.length_set]; exact T.len, fun k l' hk => ?_⟩
  by_cases e : k = i
  · subst e
    rw [hl] at hk
    cases hk
    rw [upd_same, getD_set_eq hi]
  · rw [upd_ne (nodup_at nd hl hk e), getD_set_ne (fun z => e z.symm)]
    exact T.row k l' hk
theorem r_gsub {to ti : TE} {t : TSet} {v : V} {R : St → Hp → Prop} (h : to σ H fun o H1 => ti σ H1 fun i H2 => t o i v H2 fun H3 => R σ H3) : gSub to ti t v σ H R := h
theorem cutI_neg1 (xs : List Int) : cutI xs none (some (-1)) = xs.dropLast := by
  unfold cutI
  rw [HT.sIx_none, List.drop_zero, Nat.sub_zero]
  have : HT.sIx xs.length xs.length (some (-1)) = xs.length - 1 := by
    show (if (-1 : Int) < 0 then ((-1 : Int) + (xs.length : Int)).toNat else min (-1 : Int).toNat xs.length) = _
    rw [if_pos (by decide)]
    omega
  rw [this, List.dropLast_eq_take]
theorem r_slNeg1 {a : Addr} {ns : List Int} (hs : SqL K H a (ns.map V.int)) (h : ∀ p, H p = none → Q (.ref p) (upd H p (.lst (ns.dropLast.map V.int)))) : rSlL K (.ref a) none (some (-1)) H Q := r_slI hs (by rw [cutI_neg1]; exact h)
end
end L2
namespace L2
open PySem PySem.Spec PyProof.Rows
section
variable {X : Cx} {σ : St} {H : Hp} {Q : VK}
def LR (Q : VK) (i n : Int) (H1 : Hp) : Prop := i ≤ 2 ^ 20 ∧ n ≤ 2 ^ 20 ∧ -(2 ^ 20) ≤ n ∧ -(2 ^ 20) ≤ i ∧ ∀ l, H1 l = none → Q (.ref l) (upd H1 l (.lst (((List.range (n - i).toNat).map fun k : Nat => i + (k : Int)).map V.int)))
def tLR1 (ta : TA) : TE := fun σ H Q => ta σ H fun vs H1 => ∃ j : Int, vs = [.int j] ∧ LR Q 0 j H1
def tLR2 (ta : TA) : TE := fun σ H Q => ta σ H fun vs H1 => ∃ i j : Int, vs = [.int i, .int j] ∧ LR Q i j H1
def LR1 (Q : VK) (vs : List V) (H1 : Hp) : Prop := ∃ j : Int, vs = [.int j] ∧ LR Q 0 j H1
def LR2 (Q : VK) (vs : List V) (H1 : Hp) : Prop := ∃ i j : Int, vs = [.int i, .int j] ∧ LR Q i j H1
theorem r_lr1 {ta : TA} (h : ta σ H fun vs H1 => LR1 Q vs H1) : tLR1 ta σ H Q := h
theorem r_lr2 {ta : TA} (h : ta σ H fun vs H1 => LR2 Q vs H1) : tLR2 ta σ H Q := h
end
end L2
set_option maxHeartbeats 4000000
namespace Lf
def others (row ps : List Int) : List Int := (row.zipIdx.filter fun y => !decide ((y.2 : Int) ∈ ps)).map fun y => y.1
structure UnAt (row one other : List Int) (ps : List (Int × Int)) (i j : Int) : Prop where
  i0 : 0 ≤ i
  i1 : i ≤ (one.length : Int)
  j0 : 0 ≤ j
  j1 : j ≤ (other.length : Int)
  nx : i < (one.length : Int) → one.getD i.toNat 0 = row.getD (i + j).toNat 0 → (i + 1, j) ∈ ps
  ny : j < (other.length : Int) → other.getD j.toNat 0 = row.getD (i + j).toNat 0 → (i, j + 1) ∈ ps
structure UnOk (row one other : List Int) (ps : List (Int × Int)) : Prop where
  len : row.length = one.length + other.length
  first : ((0, 0) : Int × Int) ∈ ps
  last : ((one.length : Int), (other.length : Int)) ∉ ps
  all : ∀ p ∈ ps, UnAt row one other ps p.1 p.2
inductive Mix : List Int → List Int → List Int → Prop
  | nil : Mix [] [] []
  | left {x : Int} {r o t : List Int} : Mix r o t → Mix (x :: r) (x :: o) t
  | right {x : Int} {r o t : List Int} : Mix r o t → Mix (x :: r) o (x :: t)
theorem Mix.len {r o t : List Int} (h : Mix r o t) : r.length = o.length + t.length := by
  induction h with
  | nil => rfl
  | left _ ih => rw [List.length_cons, List.length_cons, ih]; omega
  | right _ ih => rw [List.length_cons, List.length_cons, ih]; omega
theorem Mix.swap {r o t : List Int} (h : Mix r o t) : Mix r t o := by
  induction h with
  | nil => exact .nil
  | left _ ih => exact .right ih
  | right _ ih => exact .left ih
theorem Mix.ones : ∀ o : List Int, Mix o o []
  | [] => .nil
  | x :: o => .left (Mix.ones o)
theorem Mix.others : ∀ t : List Int, Mix t [] t
  | [] => .nil
  | x :: t => .right (Mix.others t)
theorem Mix.append {r o t r' o' t' : List Int} (h : Mix r o t) (h' : Mix r' o' t') : Mix (r ++ r') (o ++ o') (t ++ t') := by
  induction h with
  | nil => exact h'
  | left _ ih => exact .left ih
  | right _ ih => exact .right ih
theorem Mix.ahead (o t : List Int) : Mix (t ++ o) o t := by
  have := (Mix.others t).append (Mix.ones o)
  simpa using this
end Lf
set_option maxRecDepth 100000
set_option maxHeartbeats 4000000
namespace L2
open PySem PySem.Spec PyProof.Rows
abbrev dP (p : Int × Int) : PyData := .tuple [.int p.1, .int p.2]
structure Prs (H : Hp) (p : Addr) (ts : List Addr) (ps : List (Int × Int)) : Prop where
  at_ : H p = some (.lst (ts.map V.ref))
  len : ts.length = ps.length
  row : ∀ (i : Nat) (t : Addr), ts[i]? = some t → H t = some (.tup [.int (ps.getD i (0, 0)).1, .int (ps.getD i (0, 0)).2])
section
variable {σ : St} {H H' : Hp} {Q : VK} {D : Ends} {K : PySem.W.Frag} {X : Cx}
theorem Prs.same {p : Addr} {ts : List Addr} {ps : List (Int × Int)} (T : Prs H p ts ps) (s : Same H H') : Prs H' p ts ps := ⟨s.at T.at_, T.len, fun i l h => s.at (T.row i l h)⟩
theorem rdvs_pairs : ∀ (ts : List Addr) (ps : List (Int × Int)), ts.length = ps.length → (∀ (i : Nat) (t : Addr), ts[i]? = some t → H t = some (.tup [.int (ps.getD i (0, 0)).1, .int (ps.getD i (0, 0)).2])) → RdVs K H (ts.map V.ref) (ps.map dP)
  | [], [], _, _ => .nil
  | [], _ :: _, h, _ => by simp at h
  | _ :: _, [], h, _ => by simp at h
  | t :: ts, p :: ps, h, f => .cons (.tup (SqT.of (f 0 t rfl)) (.cons (.int _) (.cons (.int _) .nil))) (rdvs_pairs ts ps (by simpa using h) fun i u e => f (i + 1) u e)
theorem Prs.rd {p : Addr} {ts : List Addr} {ps : List (Int × Int)} (T : Prs H p ts ps) : RdV K H (.ref p) (.list (ps.map dP)) := .lst (SqL.of T.at_) (rdvs_pairs ts ps T.len T.row)
abbrev kP (i j : Int) : List Key := [.inl i, .inl j]
theorem r_dnewT (h : ∀ p, H p = none → Q (.ref p) (upd H p (.dT []))) : tDNewT σ H Q := h
def DIn (neg : Bool) (Q : VK) (y x : V) (H2 : Hp) : Prop := ∃ a o, x = .ref a ∧ DGet H2 a y o ∧ Q (.bl (if neg = true then !o.isSome else o.isSome)) H2
theorem r_din {ty td : TE} (h : ty σ H fun y H1 => td σ H1 fun x H2 => DIn false Q y x H2) : tDIn ty td σ H Q := h
theorem r_dnotin {ty td : TE} (h : ty σ H fun y H1 => td σ H1 fun x H2 => DIn true Q y x H2) : tDNotIn ty td σ H Q := h
theorem r_DInK {neg : Bool} {a : Addr} {i : Int} {kvs : List (Key × V)} (ha : H a = some (.dK kvs)) (h : Q (.bl (if neg = true then !(valV kvs (.inl i)).isSome else (valV kvs (.inl i)).isSome)) H) : DIn neg Q (.int i) (.ref a) H :=
  ⟨a, _, rfl, DGet.k (k := .inl i) ha, h⟩
theorem kP_inj {i j i' j' : Int} : kP i j = kP i' j' ↔ (i, j) = (i', j') := by
  unfold kP
  constructor
  · intro h
    injection h with h1 h2
    injection h2 with h3 _
    rw [Sum.inl.inj h1, Sum.inl.inj h3]
  · intro h
    injection h with h1 h2
    rw [h1, h2]
theorem kit_tt {K : PySem.W.Frag} : PySem.W.kitOne K (.type "tuple") (.type "tuple") = some true := rfl
theorem r_isi_tt {a : Addr} {vs : List V} (ha : H a = some (.tup vs)) (h : Q (.bl true) H) : rIsi K [.ref a, .ty "tuple"] H Q := r_isi rfl (.tup ha) kit_tt h
theorem Prs.ne {p : Addr} {ts : List Addr} {ps : List (Int × Int)} (T : Prs H p ts ps) {i : Nat} {t : Addr} (h : ts[i]? = some t) : t ≠ p := fun e => by
  have := T.row i t h
  rw [e, T.at_] at this
  cases this
theorem Prs.snoc {p t : Addr} {ts : List Addr} {ps : List (Int × Int)} {i j : Int} (T : Prs H p ts ps) (ht : H t = some (.tup [.int i, .int j])) : Prs (upd H p (.lst (ts.map V.ref ++ [.ref t]))) p (ts ++ [t]) (ps ++ [(i, j)]) := by
  have tp : t ≠ p := fun e => by rw [e, T.at_] at ht; cases ht
  refine ⟨by rw [upd_same, List.map_append]; rfl, by simp [T.len], fun k u hk => ?_⟩
  have hlen := T.len
  by_cases hkl : k < ts.length
  · rw [List.getElem?_append_left hkl] at hk
    rw [upd_ne (T.ne hk)]
    have e : (ps ++ [(i, j)]).getD k (0, 0) = ps.getD k (0, 0) := by
      rw [List.getD_eq_getElem?_getD, List.getElem?_append_left (by omega), ← List.getD_eq_getElem?_getD]
    rw [e]
    exact T.row k u hk
  · have hk2 := (List.getElem?_eq_some_iff.mp hk).1
    rw [List.length_append, List.length_singleton] at hk2
    have ek : k = ts.length := by omega
    subst ek
    rw [List.getElem?_append_right (Nat.le_refl _)] at hk
    simp at hk
    subst hk
    rw [upd_ne tp]
    have e : (ps ++ [(i, j)]).getD ts.length (0, 0) = (i, j) := by
      rw [List.getD_eq_getElem?_getD, hlen, List.getElem?_append_right (Nat.le_refl _)]
      simp
    rw [e]
    exact ht
def rMax2 (xs : List V) (H : Hp) (Q : VK) : Prop := ∃ i j, xs = [.int i, .int j] ∧ Q (.int (if j > i then j else i)) H
theorem call_max2N (hc : X.calm = true) : CallR X (.builtin "max") rMax2 := call_max2 hc
theorem r_max2 {i j : Int} (h : Q (.int (max i j)) H) : rMax2 [.int i, .int j] H Q := by
  refine ⟨i, j, rfl, ?_⟩
  have e : (if j > i then j else i) = max i j := by split <;> omega
  rw [e]; exact h
def Par3 (i j k : Nat) (σ : St) (D : Ends) (vs : List V) (H1 : Hp) : Prop := ∃ u v w, vs = [u, v, w] ∧ D.nx (((σ.set i (some u)).set j (some v)).set k (some w)) H1
theorem r_par3 {i j k : Nat} {ta : TA} (h : ta σ H fun vs H1 => Par3 i j k σ D vs H1) : tPar3 i j k ta D σ H := h
theorem r_Par3 {i j k : Nat} {x y z : V} (h : D.nx (((σ.set i (some x)).set j (some y)).set k (some z)) H) : Par3 i j k σ D [x, y, z] H := ⟨x, y, z, rfl, h⟩
end
end L2
set_option maxRecDepth 100000
set_option maxHeartbeats 4000000
namespace L2
open PySem PySem.Spec PyProof.Rows

theorem bl_go (xs : Array Nat) (j : Nat) (up : xs.toList.Pairwise (· < ·)) : ∀ (fuel lo hi : Nat), hi - lo ≤ fuel → lo ≤ hi → hi ≤ xs.size → (∀ i (h : i < xs.size), i < lo → xs[i] < j) → (∀ i (h : i < xs.size), hi ≤ i → j ≤ xs[i]) →
    SetTable.below.go xs j fuel lo hi ≤ xs.size ∧ (∀ i (h : i < xs.size), i < SetTable.below.go xs j fuel lo hi → xs[i] < j) ∧ (∀ i (h : i < xs.size), SetTable.below.go xs j fuel lo hi ≤ i → j ≤ xs[i])
  | 0, lo, hi, hf, h1, h2, a, b => by
    have e : SetTable.below.go xs j 0 lo hi = lo := rfl
    rw [e]
    have : lo = hi := by omega
    subst this
    exact ⟨h2, a, b⟩
  | fuel + 1, lo, hi, hf, h1, h2, a, b => by
    rw [SetTable.below.go]
    by_cases hlt : lo < hi
    · rw [if_pos hlt]
      have hm : (lo + hi) / 2 < xs.size := by omega
      have eg : xs.getD ((lo + hi) / 2) j = xs[(lo + hi) / 2] := by simp [Array.getD, hm]
      have mono : ∀ i k (hi' : i < xs.size) (hk : k < xs.size), i < k → xs[i] < xs[k] := by
        intro i k hi' hk hik
        have := List.pairwise_iff_getElem.mp up i k (by simpa using hi') (by simpa using hk) hik
        simpa using this
      by_cases hc : xs.getD ((lo + hi) / 2) j < j
      · rw [if_pos hc]
        rw [eg] at hc
        refine bl_go xs j up fuel _ hi (by omega) (by omega) h2 (fun i h q => ?_) b
        by_cases z : i = (lo + hi) / 2
        · subst z; exact hc
        · have := mono i ((lo + hi) / 2) h hm (by omega)
          omega
      · rw [if_neg hc]
        rw [eg] at hc
        refine bl_go xs j up fuel lo _ (by omega) (by omega) (by omega) a (fun i h q => ?_)
        by_cases z : i = (lo + hi) / 2
        · subst z; omega
        · have := mono ((lo + hi) / 2) i hm h (by omega)
          omega
    · rw [if_neg hlt]
      have : lo = hi := by omega
      subst this
      exact ⟨h2, a, b⟩
theorem bl_spec {xs : Array Nat} {j : Nat} (up : xs.toList.Pairwise (· < ·)) : SetTable.below xs j ≤ xs.size ∧ (∀ i (h : i < xs.size), i < SetTable.below xs j → xs[i] < j) ∧ (∀ i (h : i < xs.size), SetTable.below xs j ≤ i → j ≤ xs[i]) :=
  bl_go xs j up xs.size 0 xs.size (by omega) (Nat.zero_le _) (Nat.le_refl _) (fun _ _ q => absurd q (Nat.not_lt_zero _)) (fun i h q => absurd h (by omega))
structure Tbl (w : World) (t : SetTable) : Prop where
  led : t.led = !(w.params.followText "set-order")
  dm : t.dummies = #[]
  up : t.plain = true → t.place.toList.Pairwise (· < ·)
theorem Tbl.fresh {w : World} {f m : Nat} : Tbl w (.fresh f m (!(w.params.followText "set-order"))) := ⟨rfl, rfl, fun _ => .nil⟩
theorem Tbl.standIn {w : World} {t : SetTable} {n : Nat} (T : Tbl w t) : Tbl w (t.standIn n) := ⟨T.led, rfl, fun h => by cases h⟩
theorem Tbl.orStandIn {w : World} {t : SetTable} {n : Nat} (T : Tbl w t) : Tbl w (t.orStandIn n) := by
  unfold SetTable.orStandIn
  split
  · exact T
  · exact T.standIn
theorem Tbl.off {w : World} {t : SetTable} (T : Tbl w t) : Tbl w { t with plain := false } := ⟨T.led, T.dm, fun h => by cases h⟩
theorem has_none (j : Nat) : SetTable.has #[] j = false := rfl
theorem slot_empty {w : World} {t : SetTable} (T : Tbl w t) {j : Nat} (h : t.slot j = .empty) : t.place[SetTable.below t.place j]? ≠ some j := by
  intro e
  unfold SetTable.slot at h
  dsimp only at h
  rw [e] at h
  simp at h
theorem slot_kind {w : World} {t : SetTable} (T : Tbl w t) (j : Nat) : t.slot j ≠ .dummy := by
  unfold SetTable.slot
  rw [T.dm, has_none]
  dsimp only
  split
  · intro h; cases h
  · intro h
    simp at h
theorem probe_go {w : World} {t : SetTable} (T : Tbl w t) (hashAt : Nat → Int) (h : Int) : ∀ (fuel : Nat) (p : SetTable.Probe) (j : Nat) (d : Option Nat), p.dummy = none → SetTable.probe.go t hashAt h fuel p = some (.empty j d) → d = none ∧ t.slot j = .empty
  | 0, p, j, d, _, e => by cases e
  | fuel + 1, p, j, d, hp, e => by
    have adv : ∀ q : SetTable.Probe, q.dummy = none → (t.advance q).dummy = none := by
      intro q hq
      unfold SetTable.advance
      split
      · exact hq
      · exact hq
    rw [SetTable.probe.go] at e
    cases hs : t.slot p.j with
    | empty =>
      rw [hs] at e
      injection e with e
      injection e with e1 e2
      subst e1
      exact ⟨by rw [← e2]; exact hp, hs⟩
    | dummy => exact absurd hs (slot_kind T _)
    | live i =>
      rw [hs] at e
      dsimp only at e
      split at e
      · cases e
      · exact probe_go T hashAt h fuel _ j d (adv _ hp) e
theorem free_new {w : World} {t : SetTable} (T : Tbl w t) {h : Int} {j : Nat} {b : Bool} (e : t.freeSlot h = some (j, b)) : t.place[SetTable.below t.place j]? ≠ some j := by
  unfold SetTable.freeSlot at e
  split at e
  · rename_i j' d hp
    obtain ⟨rfl, hs⟩ := probe_go T _ _ _ _ _ _ rfl hp
    have : j' = j := by
      have := congrArg (fun o => o.map Prod.fst) e
      simpa using this
    subst this
    exact slot_empty T hs
  · cases e
theorem Tbl.put {w : World} {t : SetTable} (T : Tbl w t) {j : Nat} (hj : t.place[SetTable.below t.place j]? ≠ some j) : Tbl w (t.put j).1 := by
  unfold SetTable.put
  refine ⟨T.led, ?_, fun hp => ?_⟩
  · dsimp only
    rw [T.dm, has_none]
    rfl
  · have up := T.up hp
    obtain ⟨h1, h2, h3⟩ := bl_spec (j := j) up
    dsimp only
    rw [SetTable.toList_insertAt]
    generalize SetTable.below t.place j = b at h1 h2 h3 hj
    have mono : ∀ i k (hi' : i < t.place.size) (hk : k < t.place.size), i < k → t.place[i] < t.place[k] := by
      intro i k hi' hk hik
      have := List.pairwise_iff_getElem.mp up i k (by simpa using hi') (by simpa using hk) hik
      simpa using this
    have big : ∀ x ∈ t.place.toList.drop b, j < x := by
      intro x hx
      obtain ⟨i, hi, rfl⟩ := List.mem_iff_getElem.mp hx
      rw [List.length_drop, Array.length_toList] at hi
      rw [List.getElem_drop, Array.getElem_toList]
      have a := h3 (b + i) (by omega) (by omega)
      rcases Nat.lt_or_eq_of_le a with q | q
      · exact q
      · exfalso
        by_cases hz : i = 0
        · subst hz
          refine hj ?_
          have hb : b < t.place.size := by omega
          rw [Array.getElem?_eq_getElem hb]
          exact congrArg some q.symm
        · have m := mono b (b + i) (by omega) (by omega) (by omega)
          have c := h3 b (by omega) (Nat.le_refl _)
          omega
    have small : ∀ x ∈ t.place.toList.take b, x < j := by
      intro x hx
      obtain ⟨i, hi, rfl⟩ := List.mem_iff_getElem.mp hx
      rw [List.length_take, Array.length_toList] at hi
      rw [List.getElem_take, Array.getElem_toList]
      exact h2 i (by omega) (by omega)
    refine List.pairwise_append.mpr ⟨up.sublist (List.take_sublist _ _), List.pairwise_cons.mpr ⟨big, up.sublist (List.drop_sublist _ _)⟩, fun x hx y hy => ?_⟩
    have hxj := small x hx
    rcases List.mem_cons.mp hy with rfl | hy
    · exact hxj
    · exact Nat.lt_trans hxj (big y hy)
theorem Tbl.lay {w : World} {t : SetTable} (T : Tbl w t) (es : Array (Int × Value)) (h : Int) (x : Value) : Tbl w (layNew t es h x).2.1 := by
  unfold layNew
  split
  · rename_i j b e
    exact (T.put (free_new T e)).orStandIn
  · exact T.standIn
theorem Tbl.laid {w : World} {mask f m : Nat} {led plain : Bool} {hs : Array Int} {t : SetTable} {o : Array Nat} (hl : led = !(w.params.followText "set-order")) (e : SetTable.laid mask f m led plain hs = some (t, o)) : Tbl w t := by
  unfold SetTable.laid at e
  cases ho : SetTable.layClean mask hs with
  | none => rw [ho] at e; cases e
  | some owner =>
    rw [ho] at e
    have e' := Option.some.inj e
    have e1 := congrArg Prod.fst e'
    dsimp only at e1
    subst e1
    refine ⟨hl, rfl, fun _ => ?_⟩
    dsimp only
    have sub : ((List.range (mask + 1)).filterMap (fun j => (owner.getD j none).map (j, ·))).map Prod.fst = (List.range (mask + 1)).filter (fun j => (owner.getD j none).isSome) := by
      induction List.range (mask + 1) with
      | nil => rfl
      | cons a r ih =>
        rw [List.filterMap_cons, List.filter_cons]
        cases q : owner.getD a none with
        | none => simpa using ih
        | some k => simpa using ih
    have p : ((List.range (mask + 1)).filter (fun j => (owner.getD j none).isSome)).Pairwise (· < ·) := List.pairwise_lt_range.sublist List.filter_sublist
    rw [← sub] at p
    simpa using p
theorem Tbl.relay {w : World} {t : SetTable} (T : Tbl w t) (es : Array (Int × Value)) (n : Nat) : Tbl w (relayAll t es n).2.1 := by
  unfold relayAll
  split
  · rename_i t' o e
    dsimp only
    split
    · exact Tbl.laid T.led e
    · exact T.standIn
  · exact T.standIn
section
variable {P : Program} {w : World} {A : Around} {E : Value → Shared → Prop} {s : Shared}
def SetT (P : Program) (w : World) (hp : Heap) (a : Addr) (S : Int → Bool) (n : Nat) : Prop :=
  ∃ o es ep t, hp.get? a = some o ∧ o.ExactSet ∧ o.data = .set es ep t ∧ ElemsOf (intKind P w) es.toList ∧ (∀ k, S k = true ↔ ∃ e ∈ es.toList, (intKind P w).is k e.2 = true) ∧ es.size < scanBound ∧ t.fits es.size = true ∧ es.size = n ∧ Tbl w t
theorem SetT.of {hp : Heap} {a : Addr} {S : Int → Bool} {n : Nat} (h : SetT P w hp a S n) : hp.SetOf (intKind P w) a S n := by
  obtain ⟨o, es, ep, t, h1, h2, h3, h4, h5, h6, h7, h8, _⟩ := h
  exact ⟨o, es, ep, t, h1, h2, h3, h4, h5, h6, h7, h8⟩
theorem setT_store {hp : Heap} {a : Addr} {o : Obj} {es : Array (Int × Value)} {ep : Nat} {t : SetTable} (ho : hp.get? a = some o) (hx : o.ExactSet) (hd : o.data = .set es ep t) {es' : Array (Int × Value)} {t' : SetTable} {S' : Int → Bool}
    (h1 : ElemsOf (intKind P w) es'.toList) (h2 : ∀ k, S' k = true ↔ ∃ e ∈ es'.toList, (intKind P w).is k e.2 = true) (h3 : es'.size < scanBound) (h4 : t'.fits es'.size = true) (T : Tbl w t') :
    (hp.update a (Obj.putSet es' t')).get? a = some { o with data := .set es' (ep + 1) t' } ∧ SetT P w (hp.update a (Obj.putSet es' t')) a S' es'.size := by
  obtain ⟨g, _⟩ := SetOf_store (knd := intKind P w) ho hx hd h1 h2 h3 h4
  exact ⟨g, _, es', ep + 1, t', g, hx, rfl, h1, h2, h3, h4, rfl, T⟩
theorem set_tail {g : Bool → Sem Unit} (hg : ∀ (b : Bool) (s₁ : Shared) (Q' : Unit → Shared → Prop), Q' () s₁ → wpAny (model P w) A (g b) Q' E s₁)
    {a : Addr} {o : Obj} {es : Array (Int × Value)} {ep : Nat} {t : SetTable} (ho : s.heap.get? a = some o) (hx : o.ExactSet) (hd : o.data = .set es ep t) {e1 : Array (Int × Value)} {t2 : SetTable} {S' : Int → Bool}
    (h1 : ElemsOf (intKind P w) e1.toList) (h2 : ∀ k, S' k = true ↔ ∃ e ∈ e1.toList, (intKind P w).is k e.2 = true) (h3 : e1.size < scanBound) (h4 : t2.fits e1.size = true) (T : Tbl w t2) {wd : Bool} {R : Option Bool → Shared → Prop}
    (h : ∀ hp', Heap.SameBut a s.heap hp' → SetT P w hp' a S' e1.size → R (some true) { s with heap := hp' }) :
    wpAny (model P w) A (do
        storeSet a e1 t2
        if (!wd && t2.tooFull) = true then do
            g (relayAll t2 e1 (SetTable.grown e1.size)).2.2
            storeSet a (relayAll t2 e1 (SetTable.grown e1.size)).1 (relayAll t2 e1 (SetTable.grown e1.size)).2.1
            pure (some true)
          else pure (some true)) R E s := by
  refine wpAny_bind (wpAny_storeSet_of ho hd ?_ (fits_of_scanBound h3))
  obtain ⟨g1, k1⟩ := setT_store ho hx hd h1 h2 h3 h4 T
  have b1 := Heap.SameBut.update s.heap a (Obj.putSet e1 t2)
  by_cases hc : (!wd && t2.tooFull) = true
  · rw [if_pos hc]
    have pm := relayAll_perm t2 e1 (SetTable.grown e1.size)
    have ft := relayAll_fits t2 e1 (SetTable.grown e1.size)
    have T3 := T.relay e1 (SetTable.grown e1.size)
    generalize relayAll t2 e1 (SetTable.grown e1.size) = rl at pm ft T3 ⊢
    obtain ⟨e2, t3, gv⟩ := rl
    dsimp only at pm ft T3 ⊢
    have z : e2.size = e1.size := by rw [← Array.length_toList, pm.length_eq, Array.length_toList]
    have f3 : e2.size < scanBound := by rw [z]; exact h3
    have m2 : ∀ k, S' k = true ↔ ∃ e ∈ e2.toList, (intKind P w).is k e.2 = true := fun k => by
      rw [h2 k]
      exact ⟨fun ⟨e, he, q⟩ => ⟨e, pm.mem_iff.mpr he, q⟩, fun ⟨e, he, q⟩ => ⟨e, pm.mem_iff.mp he, q⟩⟩
    refine wpAny_bind (hg _ _ _ (wpAny_bind (wpAny_storeSet_of g1 rfl ?_ (fits_of_scanBound f3))))
    obtain ⟨_, k2⟩ := setT_store (P := P) (w := w) g1 hx rfl (h1.perm pm) m2 f3 ft T3
    rw [z] at k2
    exact wpAny_pure (h _ (b1.trans (Heap.SameBut.update _ a _)) k2)
  · rw [if_neg hc]
    exact wpAny_pure (h _ b1 k1)
theorem set_add {a : Addr} {S : Int → Bool} {n : Nat} {k : Int} {x : Value} {Q : Bool → Shared → Prop} (hk : (intKind P w).is k x = true) (hsc : x.scannable = true) (hS : SetT P w s.heap a S n) (room : n + 1 < scanBound)
    (h : ∀ hp', Heap.SameBut a s.heap hp' → SetT P w hp' a (fun k' => S k' || decide (k' = k)) (if S k then n else n + 1) → Q (!S k) { s with heap := hp' }) :
    wpAny (model P w) A (setAddHashed a x ((intKind P w).hash k)) Q E s := by
  obtain ⟨o, es, ep, t, ho, hx, hd, hel, hm, hb, hf, hn, T⟩ := hS
  unfold setAddHashed setAddHashedIn
  refine wpAny_holding (wpAny_bind (wpAny_setState_of ho hd hf ?_))
  dsimp only
  rw [byScan_of hsc hb hel, if_pos rfl]
  unfold setAddByScan
  refine wpAny_bind (wpAny_bind (wpAny_rule (wpAny_bind (wpAny_setScan_of hk ho hd hf hel ?_))))
  have yes : ∀ e ∈ es.toList, (intKind P w).is k e.2 = true → S k = true := fun e he q => (hm k).mpr ⟨e, he, q⟩
  cases hr : List.findIdx? (fun e => (intKind P w).is k e.2) es.toList with
  | some j =>
    dsimp only
    obtain ⟨hj, pj, _⟩ := List.findIdx?_eq_some_iff_getElem.mp hr
    have sk := yes _ (List.getElem_mem hj) pj
    have q := h s.heap (Heap.SameBut.refl a s.heap) ⟨o, es, ep, t, ho, hx, hd, hel, fun k' => by
      rw [Bool.or_eq_true, decide_eq_true_eq, ← hm k']
      exact ⟨fun z => z.elim id fun e => e ▸ sk, .inl⟩, hb, hf, by rw [sk]; exact hn, T⟩
    rw [sk] at q
    exact wpAny_pure (wpAny_pure q)
  | none =>
    dsimp only
    have sk : S k = false := Bool.eq_false_iff.mpr fun z => by
      obtain ⟨e, he, q⟩ := (hm k).mp z
      have := List.findIdx?_eq_none_iff.mp hr e he
      rw [q] at this
      cases this
    have pm := layNew_perm t es ((intKind P w).hash k) x
    have ft := layNew_fits t es ((intKind P w).hash k) x
    have T1 := T.lay es ((intKind P w).hash k) x
    generalize layNew t es ((intKind P w).hash k) x = ly at pm ft T1 ⊢
    obtain ⟨e1, t1, wd, gv⟩ := ly
    dsimp only at pm ft T1 ⊢
    rw [Array.toList_push] at pm
    have el1 := (hel.push hk hsc).perm pm
    have m1 := mem_push_iff hk hm pm
    have z1 : e1.size = n + 1 := by rw [← Array.length_toList, pm.length_eq, List.length_append, Array.length_toList, hn]; rfl
    have b1 : e1.size < scanBound := by rw [z1]; exact room
    have fin : ∀ hp', Heap.SameBut a s.heap hp' → SetT P w hp' a (fun k' => S k' || decide (k' = k)) e1.size → Q true { s with heap := hp' } := by
      intro hp' c1 c2
      have q := h hp' c1
      rw [sk] at q
      rw [z1] at c2
      exact q c2
    have gw : ∀ (b : Bool) (s₁ : Shared) (Q' : Unit → Shared → Prop), Q' () s₁ → wpAny (model P w) A (match b with | true => rule "set.scan.the-table-gave-way" | false => pure ()) Q' E s₁ := by
      intro b s₁ Q' hq
      cases b
      · exact wpAny_pure hq
      · exact wpAny_rule hq
    refine wpAny_bind (gw _ _ _ ?_)
    split
    · refine wpAny_bind ?_
      rw [hashByValue_scannable 8 hsc]
      refine wpAny_pure ?_
      refine set_tail gw ho hx hd el1 m1 b1 ?_ ?_ ?_
      · split
        · exact ft
        · exact SetTable.fits_plain_off ft
      · split
        · exact T1
        · exact T1.off
      · intro hp' c1 c2
        dsimp only
        exact wpAny_pure (fin hp' c1 c2)
    · refine wpAny_bind (wpAny_pure ?_)
      rw [if_pos rfl]
      refine set_tail gw ho hx hd el1 m1 b1 ft T1 ?_
      intro hp' c1 c2
      dsimp only
      exact wpAny_pure (fin hp' c1 c2)
end
end L2
set_option maxRecDepth 100000
set_option maxHeartbeats 4000000
namespace L2
open PySem PySem.Spec PyProof.Rows
section
variable {P : Program} {w : World} {A : Around} {R : Result → Shared → Prop} {I : Addr} {fp wr : List Addr} {G : Array GenState → Array GenState → Prop} {n : Nat} {It : Nat → Value → Prop} {St : Nat → Shared → Prop}
theorem SetT.congr {hp : Heap} {a : Addr} {S S' : Int → Bool} {n n' : Nat} (h : SetT P w hp a S n) (e : ∀ k, S k = S' k) (en : n = n') : SetT P w hp a S' n' := by
  obtain rfl : S = S' := funext e
  subst en
  exact h
theorem SetT.keep {hp hp' : Heap} {a : Addr} {S : Int → Bool} {n : Nat} (h : SetT P w hp a S n) (e : ∀ o, hp.get? a = some o → hp'.get? a = some o) : SetT P w hp' a S n := by
  obtain ⟨o, es, ep, t, h1, r⟩ := h
  exact ⟨o, es, ep, t, e o h1, r⟩
theorem set_loop (W : WalksS P w A.in1 I fp wr G n It St) (a : Addr) (ha : a ∉ fp) (val : Nat → Int) (hv : ∀ i v, It i v → ∃ t, v = .int (val i) t) (room : n + 1 < scanBound) :
    ∀ (m i : Nat) (s : Shared), n - i = m → i ≤ n → St i s → SetT P w s.heap a (fun k => (firstMet val i).any (· == k)) (firstMet val i).length →
      (∀ s', Moved (a :: wr) G s s' → SetT P w s'.heap a (fun k => (firstMet val n).any (· == k)) (firstMet val n).length → R (.ok (.ret .none)) s') →
      codeAny (model P w) A (.builtin "set.update.loop" ⟨[.ref a, .ref I], []⟩) R s := by
  have aw : a ∉ wr := fun z => ha (W.sub _ z)
  have sb : ∀ b ∈ wr, b ∈ a :: wr := fun b z => List.mem_cons_of_mem _ z
  intro m
  induction m with
  | zero =>
    intro i s hm hi st k fin
    obtain rfl : i = n := by omega
    refine codeAny_builtin F.entry_set_update_loop ?_
    rw [Around.under_plainId F.plain_set_update_loop _]
    show wpAny _ A.in1 (pyNext (.ref I) >>= _) _ _ s
    refine wpAny_bind (W.done s _ _ st fun s' mv => ?_)
    exact wpAny_pure (fin s' (mv.mono sb) (k.keep fun o e => mv.heap a o aw e))
  | succ m ih =>
    intro i s hm hi st k fin
    have hlt : i < n := by omega
    refine codeAny_builtin F.entry_set_update_loop ?_
    rw [Around.under_plainId F.plain_set_update_loop _]
    show wpAny _ A.in1 (pyNext (.ref I) >>= _) _ _ s
    refine wpAny_bind (W.item i s _ _ hlt st fun v s' hP st' mv => ?_)
    obtain ⟨t, rfl⟩ := hv i v hP
    have k' : SetT P w s'.heap a (fun k => (firstMet val i).any (· == k)) (firstMet val i).length := k.keep fun o e => mv.heap a o aw e
    show wpAny _ A.in1 (holding [Value.int (val i) t] (setAdd a (.int (val i) t)) >>= _) _ _ s'
    refine wpAny_bind (wpAny_holding ?_)
    unfold setAdd
    refine wpAny_holding (wpAny_bind ((intKind P w).pyHash (k := val i) (intKind_is _ _ _ _) ?_))
    have rm : (firstMet val i).length + 1 < scanBound := by
      have := firstMet_length_le val i
      omega
    refine set_add (s := { s' with toks := s'.toks + 1 }) (intKind_is _ _ _ _) rfl k' rm fun hp' sm k2 => ?_
    have k3 : SetT P w hp' a (fun k => (firstMet val (i + 1)).any (· == k)) (firstMet val (i + 1)).length := k2.congr (fun z => by rw [firstMet_succ, step_any]) (by rw [firstMet_succ, step_length])
    refine wpAny_pure ⟨plainId_quiet F.plain_set_update_loop _, ih (i + 1) _ (by omega) hlt (W.frame _ s' _ _ st' (Nat.le_succ _) fun b hb o e => ?_) k3 fun s'' mv2 k4 => ?_⟩
    · rw [sm.2 b fun z : b = a => ha (by rw [← z]; exact hb)]
      exact e
    · refine fin s'' (Moved.trans W.gtrans ((mv.mono sb).then_heap (Nat.le_succ _) fun b o hb e => ?_) mv2) k4
      rw [sm.2 b fun z : b = a => hb (by rw [z]; exact List.mem_cons_self)]
      exact e
end
section
variable {P : Program} {w : World} {A : Around} {E : Value → Shared → Prop} {s : Shared}
abbrev newSetObj (w : World) : Obj := { cls := .type "set", dict := none, data := .set #[] 0 (.fresh 0 0 (!(w.params.followText "set-order"))) }
theorem set_new (x : Value) {Q : Value → Shared → Prop} (h : Q (.ref s.heap.objs.size) { s with heap := s.heap.push (newSetObj w) }) :
    codeAny (model P w) A (.call (.builtin "set.__new__") ⟨[.type "set", x], []⟩) (wants Q E) s := by
  refine codeAny_of_tree ?_
  show wpAny _ A.in1 (do checkBuiltinCall "set.__new__" ⟨[.type "set", x], []⟩; again (.builtin "set.__new__" ⟨[.type "set", x], []⟩)) _ _ s
  refine wpAny_bind (wpAny_of_eq (F.newCall_set_1 x) (wpAny_pure ⟨plainId_quiet F.plain_set_new _, codeAny_builtin F.entry_set_new ?_⟩))
  rw [Around.under_plainId F.plain_set_new _]
  unfold Builtin.«set.__new__» Builtin.Frozenset.newClass
  have hs := sub_set_self
  obtain ⟨hp, g, d, tk, os⟩ := s
  dsimp only
  wp_walk
  refine wpAny_askSetting (wpAny_pure ?_)
  dsimp only
  simp only [newObj]
  exact wpAny_bind (wpAny_alloc (wpAny_pure (wpAny_pure h)))
theorem set_ofList {l : Addr} {its : Array Value} {ns : List Int} {Q : Value → Shared → Prop} (hh : A.handled = none) (hl : s.heap.IsList l its) (hi : IntsAre its.toList ns) (room : its.size + 1 < scanBound)
    (h : ∀ (hp' : Heap) (tk : Nat), SetT P w hp' s.heap.objs.size (fun k => (firstMet (fun i => ns.getD i 0) its.size).any (· == k)) (firstMet (fun i => ns.getD i 0) its.size).length → (∀ b o, b < s.heap.objs.size → s.heap.get? b = some o → hp'.get? b = some o) →
      Q (.ref s.heap.objs.size) { s with heap := hp', toks := tk }) : wpAny (model P w) A (call (.type "set") [.ref l]) Q E s := by
  obtain ⟨c, tl, mro⟩ := F.called_set.mro
  have c1 := F.called_set.made
  have c2 := F.called_set.sub
  have c3 := F.called_set.notType
  have c4 := F.called_set.canCreate
  have c5 := F.typeCall_set_1 (.ref l)
  refine wpAny_call (codeAny_of_tree ?_)
  show wpAny _ _ (callAny (.type "set") _) _ _ _
  refine wpAny_pure ⟨Code.quiet_builtin _ (by decide +kernel), codeAny_builtin F.entry_type_call ?_⟩
  rw [Around.under_plain (weight_type_call_type "set" [.ref l] []) rfl]
  repeat any_goals first | assumption | wp_step
  refine codeAny_mono (set_new (.ref l) (E := E) (Q := fun ob s₁ => ob = .ref s.heap.objs.size ∧ s₁ = { s with heap := s.heap.push (newSetObj w) }) ⟨rfl, rfl⟩) fun r s₁ hr => ?_
  cases r with
  | error e => exact hr
  | ok fl =>
    cases fl with
    | ret ob =>
      obtain ⟨rfl, rfl⟩ := hr
      have hS : (s.heap.push (newSetObj w)).get? s.heap.objs.size = some (newSetObj w) := Heap.get?_push_size _ rfl
      have hT : Shared.TypeIs { s with heap := s.heap.push (newSetObj w) } (.ref s.heap.objs.size) "set" := ⟨_, hS, rfl⟩
      have i1 := F.called_set.init.lookup
      have i2 := F.called_set.init.bind (.ref s.heap.objs.size)
      repeat any_goals first | assumption | wp_step
      refine codeAny_mono (codeAny_call_builtin (R := wants (fun r s₂ => r = .none ∧ ∃ hp' tk, s₂ = { s with heap := hp', toks := tk } ∧ SetT P w hp' s.heap.objs.size (fun k => (firstMet (fun i => ns.getD i 0) its.size).any (· == k)) (firstMet (fun i => ns.getD i 0) its.size).length ∧
          (∀ b o, b < s.heap.objs.size → s.heap.get? b = some o → hp'.get? b = some o)) E) F.called_set.init.plain F.entry_set_init (check_set_init_1 hT ?_)) fun r2 s2 h2 => ?_
      · obtain ⟨ol, g1, g2, nl, g3⟩ := hl
        obtain ⟨oc, od, odt, osl⟩ := ol
        simp only at g2 g3
        subst g2
        subst g3
        have g4 : (s.heap.push (newSetObj w)).get? l = some { cls := .type "list", dict := od, data := .seq its nl, slots := osl } := Heap.get?_push_of_some _ g1
        have j1 := F.sub_list_set
        have j2 := F.sub_list_frozenset
        have j3 : (Value.type "list" == Value.type "dict") = false := by decide
        have l1 : (s.heap.push (newSetObj w)).IsList l its := ⟨_, g4, rfl, nl, rfl⟩
        unfold Builtin.«set.__init__» noKeywords Builtin.Frozenset.updateFrom
        generalize hp0 : pyIter = PI
        wp_walk
        subst hp0
        refine wpAny_pyIter_list l1 (wpAny_bind (wpAny_runValue ?_))
        have ls : l < s.heap.objs.size := Heap.lt_size g1
        have hn : A.in1.in1.in1.handled = none := by simp [hh]
        have ne1 : l ≠ (s.heap.push (newSetObj w)).objs.size := by
          rw [Heap.size_push]
          exact Nat.ne_of_lt (Nat.lt_succ_of_lt ls)
        have nf : s.heap.objs.size ∉ [(s.heap.push (newSetObj w)).objs.size, l] := by
          rw [Heap.size_push]
          simp only [List.mem_cons, List.not_mem_nil, or_false, not_or]
          exact ⟨Nat.ne_of_lt (Nat.lt_succ_self _), Nat.ne_of_gt ls⟩
        have vl : ∀ (i : Nat) (v : Value), its[i]? = some v → ∃ t, v = .int ((fun i => ns.getD i 0) i) t := fun i v e => IntsAre.int_at hi i v (by rw [Array.getElem?_toList]; exact e)
        refine set_loop ((Walks.list hn _ l ne1 its).toS) s.heap.objs.size nf (fun i => ns.getD i 0) vl room (its.size - 0) 0 _ (by omega) (Nat.zero_le _) ⟨⟨_, Heap.get?_push_size _ rfl, rfl, rfl⟩, (l1.push _)⟩ ?start ?fin
        case start =>
          refine ⟨newSetObj w, #[], 0, _, Heap.get?_push_of_some _ hS, ⟨rfl, rfl, rfl⟩, rfl, fun e he => by simp at he, fun k => ?_, by decide, rfl, rfl, Tbl.fresh⟩
          simp [firstMet]
        case fin =>
          intro s' mv k
          obtain ⟨hp', g', d', tk', os'⟩ := s'
          obtain rfl : g' = s.gens := mv.gens
          obtain rfl : d' = s.drawn := mv.drawn
          obtain rfl : os' = s.os := mv.os
          refine wpAny_pure ?_
          show wpAny _ _ (ret Value.none) _ _ _
          refine wpAny_pure ⟨rfl, hp', tk', rfl, k, fun b o hb e => ?_⟩
          refine mv.heap b o ?_ (Heap.get?_push_of_some _ (Heap.get?_push_of_some _ e))
          rw [Heap.size_push]
          simp only [List.mem_cons, List.not_mem_nil, or_false, not_or]
          exact ⟨Nat.ne_of_lt hb, Nat.ne_of_lt (Nat.lt_succ_of_lt hb)⟩
      · cases r2 with
        | error e => exact h2
        | ok fl2 =>
          cases fl2 with
          | ret r =>
            obtain ⟨rfl, hp', tk, rfl, k, keep⟩ := h2
            repeat any_goals first | assumption | wp_step
            exact h _ _ k keep
          | _ => exact h2.elim
    | _ => exact hr.elim
end
end L2
set_option maxRecDepth 100000
set_option maxHeartbeats 4000000
namespace L2
open PySem PySem.Spec PyProof.Rows
section
variable {P : Program} {w : World} {A : Around} {E : Value → Shared → Prop} {s : Shared}
def slotAt (t : SetTable) (i : Nat) : Nat := if i = 0 then 0 else t.place.getD (i - 1) 0 + 1
theorem below_slot {t : SetTable} (up : t.place.toList.Pairwise (· < ·)) {i : Nat} (hi : i ≤ t.place.size) : SetTable.below t.place (slotAt t i) = i := by
  obtain ⟨h1, h2, h3⟩ := bl_spec (j := slotAt t i) up
  have mono : ∀ i k (hi' : i < t.place.size) (hk : k < t.place.size), i < k → t.place[i] < t.place[k] := by
    intro i k hi' hk hik
    have := List.pairwise_iff_getElem.mp up i k (by simpa using hi') (by simpa using hk) hik
    simpa using this
  generalize hb : SetTable.below t.place (slotAt t i) = b at h1 h2 h3
  have sl : ∀ k (hk : k < t.place.size), k + 1 = i → slotAt t i = t.place[k] + 1 := by
    intro k hk e
    subst e
    unfold slotAt
    rw [if_neg (by omega), Nat.add_sub_cancel]
    simp [Array.getD, hk]
  rcases Nat.lt_trichotomy b i with q | q | q
  · have hb' : b < t.place.size := by omega
    have a := h3 b hb' (Nat.le_refl _)
    rw [sl (i - 1) (by omega) (by omega)] at a
    rcases Nat.lt_or_ge b (i - 1) with z | z
    · have := mono b (i - 1) hb' (by omega) z
      omega
    · have e : b = i - 1 := by omega
      subst e
      omega
  · exact q
  · have hi' : i < t.place.size := by omega
    have a := h2 i hi' q
    by_cases z : i = 0
    · subst z
      have : slotAt t 0 = 0 := rfl
      omega
    · rw [sl (i - 1) (by omega) (by omega)] at a
      have := mono (i - 1) i (by omega) hi' (by omega)
      omega
theorem next_plain {a : Addr} {o : Obj} {es : Array (Int × Value)} {ep : Nat} {t : SetTable} {Q : Option (Value × Nat) → Shared → Prop} (ho : s.heap.get? a = some o) (hd : o.data = .set es ep t) (hf : t.fits es.size = true) (T : Tbl w t)
    (bt : w.params.followText "set-order" = false) (pl : t.plain = true ∨ es.size ≤ 1) (up : t.place.toList.Pairwise (· < ·)) {i : Nat} (hi : i ≤ es.size) {e' : Nat}
    (h : Q (match es[i]?, t.place[i]? with | some (_, x), some j => some (x, j + 1) | _, _ => none) s) : wpAny (model P w) A (setNext a (slotAt t i) i e') Q E s := by
  have hz : t.place.size = es.size := by
    unfold SetTable.fits at hf
    simp at hf
    exact hf.1
  unfold setNext
  refine wpAny_bind (wpAny_setState_of ho hd hf ?_)
  dsimp only
  unfold setsByText
  refine wpAny_bind (wpAny_bind (wpAny_askSetting (wpAny_pure ?_)))
  have e1 : (Setting.params ⟨(model P w).prog, (model P w).w.params⟩).followText "set-order" = false := bt
  rw [e1]
  rw [if_neg (by decide)]
  have dr : (!t.plain && decide (es.size > 1)) = false := by
    rcases pl with q | q
    · rw [q]; rfl
    · rw [decide_eq_false (by omega), Bool.and_false]
  show wpAny _ _ (if (!t.plain && decide (es.size > 1)) = true then (unsupported "set_iterator.__next__:the-table-is-plain-no-more" >>= _) else _) _ _ s
  rw [dr, if_neg (by decide)]
  have ld : t.led = true := by rw [T.led, bt]; rfl
  refine wpAny_bind ?_
  show wpAny _ _ (if (!t.led && !es.isEmpty) = true then unsupported "set:maker-not-led" else pure ()) _ _ s
  rw [ld, if_neg (by simp)]
  refine wpAny_pure (wpAny_pure ?_)
  rw [below_slot up (by omega)]
  exact h
theorem erase_perm {α : Type} : ∀ (l : List α) (i : Nat) (h : i < l.length), (l[i] :: l.eraseIdx i).Perm l
  | _ :: _, 0, _ => List.Perm.refl _
  | x :: r, i + 1, h => (List.Perm.swap _ _ _).trans (List.Perm.cons x (erase_perm r i (by simpa using h)))
theorem pick_go {α : Type} (next : Nat → Nat) : ∀ (fuel k : Nat) (left : List α) (out : Array α), left.length ≤ fuel → (pickOrder.go next fuel k left out).toList.Perm (out.toList ++ left)
  | 0, k, left, out, h => by
    have : left = [] := List.eq_nil_of_length_eq_zero (by omega)
    subst this
    rw [pickOrder.go, List.append_nil]
  | fuel + 1, k, [], out, h => by
    rw [pickOrder.go]
    simp
  | fuel + 1, k, x :: r, out, h => by
    rw [pickOrder.go]
    have hlt : next k % (x :: r).length < (x :: r).length := Nat.mod_lt _ (by simp)
    rw [List.getElem?_eq_getElem hlt]
    dsimp only
    have ih := pick_go next fuel (k + 1) ((x :: r).eraseIdx (next k % (x :: r).length)) (out.push (x :: r)[next k % (x :: r).length]) (by rw [List.length_eraseIdx_of_lt hlt]; omega)
    refine ih.trans ?_
    rw [Array.toList_push, List.append_assoc]
    refine List.Perm.append_left _ ?_
    exact erase_perm _ _ hlt
theorem pick_perm {α : Type} (next : Nat → Nat) (xs : Array α) : (pickOrder next xs).toList.Perm xs.toList := by
  have := pick_go next xs.size 0 xs.toList #[] (by simp)
  simpa [pickOrder] using this
theorem next_text {a : Addr} {o : Obj} {es : Array (Int × Value)} {ep : Nat} {t : SetTable} {Q : Option (Value × Nat) → Shared → Prop} (ho : s.heap.get? a = some o) (hd : o.data = .set es ep t) (hf : t.fits es.size = true)
    (bt : w.params.followText "set-order" = true) {i sl : Nat} (h : Q (((pickOrder (w.params.setOrder a ep) es)[i]?).map fun e => (e.2, sl)) s) : wpAny (model P w) A (setNext a sl i ep) Q E s := by
  unfold setNext
  refine wpAny_bind (wpAny_setState_of ho hd hf ?_)
  dsimp only
  unfold setsByText
  refine wpAny_bind (wpAny_bind (wpAny_askSetting (wpAny_pure ?_)))
  have e1 : (Setting.params ⟨(model P w).prog, (model P w).w.params⟩).followText "set-order" = true := bt
  rw [e1, if_pos rfl]
  rw [if_neg (by simp)]
  unfold setWalk setsByText
  refine wpAny_bind (wpAny_bind (wpAny_setState_of ho hd hf ?_))
  dsimp only
  refine wpAny_bind (wpAny_bind (wpAny_askSetting (wpAny_pure ?_)))
  rw [e1, if_pos rfl]
  refine wpAny_bind (wpAny_askSetting (wpAny_pure ?_))
  exact wpAny_pure h
theorem next_drawn {a : Addr} {o : Obj} {es : Array (Int × Value)} {ep : Nat} {t : SetTable} {Q : Value → Shared → Prop} (ho : s.heap.get? a = some o) (hd : o.data = .set es ep t) (hf : t.fits es.size = true) {p : Nat} {e : Int × Value} (he : es[p]? = some e) (h : Q e.2 s) :
    wpAny (model P w) A (setNextDrawn a p ep) Q E s := by
  unfold setNextDrawn
  refine wpAny_bind (wpAny_setState_of ho hd hf ?_)
  dsimp only
  rw [if_neg (by simp), he]
  exact wpAny_pure h
end
end L2
set_option maxRecDepth 100000
set_option maxHeartbeats 4000000
namespace L2
open PySem PySem.Spec PyProof.Rows
theorem st_entry : entryFor table "set.__iter__" = some Builtin.«frozenset.__iter__» := entryFor_alias (id' := "frozenset.__iter__") (by kernel_rfl) rfl (by decide +kernel) (by kernel_rfl)
theorem si_slot : Slot "set_iterator" "__next__" "set_iterator.__next__" := .of (owner := "set_iterator") (n := "__next__") (by rw [typeLookup_type, builtinLookup_eq_fast]; kernel_rfl) (by decide +kernel) (by decide +kernel) (by decide +kernel) (by first | exact .inl (by decide +kernel) | exact .inr (by decide +kernel)) (by rw [isSubtype_type]; kernel_rfl)
theorem si_entry : entryFor table "set_iterator.__next__" = some Builtin.«set_iterator.__next__» := entryFor_of_tree (by kernel_rfl)
theorem si_args (a : Value) : argsOk "set_iterator.__next__" ⟨[a], []⟩ := by
  unfold argsOk
  kernel_rfl
section
variable {P : Program} {w : World} {A : Around} {E : Value → Shared → Prop} {s : Shared}
def SetRaw (h : Heap) (a : Addr) (es : Array (Int × Value)) (ep : Nat) (t : SetTable) : Prop := ∃ o, h.get? a = some o ∧ o.ExactSet ∧ o.data = .set es ep t ∧ t.fits es.size = true
theorem SetRaw.to {h h' : Heap} {a : Addr} {es : Array (Int × Value)} {ep : Nat} {t : SetTable} (x : SetRaw h a es ep t) (e : ∀ o, h.get? a = some o → h'.get? a = some o) : SetRaw h' a es ep t := let ⟨o, ho, r⟩ := x; ⟨o, e o ho, r⟩
def SetIt (h : Heap) (it : Addr) (first : Value) (i a n ep : Nat) : Prop := ∃ o, h.get? it = some o ∧ o.cls = .type "set_iterator" ∧ o.data = .fields #[first, .int i 0, .ref a, .int n 0, .int ep 0]
theorem SetIt.ty {it : Addr} {first : Value} {i a n ep : Nat} (x : SetIt s.heap it first i a n ep) : s.TypeIs (.ref it) "set_iterator" := let ⟨o, ho, hc, _⟩ := x; ⟨o, ho, hc⟩
theorem SetIt.to {h h' : Heap} {it : Addr} {first : Value} {i a n ep : Nat} (x : SetIt h it first i a n ep) (e : ∀ o, h.get? it = some o → h'.get? it = some o) : SetIt h' it first i a n ep := let ⟨o, ho, r⟩ := x; ⟨o, e o ho, r⟩
theorem si_entries {a : Addr} {es : Array (Int × Value)} {ep : Nat} {t : SetTable} {Q : Array (Int × Value) → Shared → Prop} (hm : SetRaw s.heap a es ep t) (h : Q es s) : wpAny (model P w) A (setEntries a) Q E s := by
  obtain ⟨o, ho, hx, hd, hf⟩ := hm
  unfold setEntries
  exact wpAny_bind (wpAny_setState_of ho hd hf (wpAny_pure h))
theorem si_epoch {a : Addr} {es : Array (Int × Value)} {ep : Nat} {t : SetTable} {Q : Nat → Shared → Prop} (hm : SetRaw s.heap a es ep t) (h : Q ep s) : wpAny (model P w) A (setEpoch a) Q E s := by
  obtain ⟨o, ho, hx, hd, hf⟩ := hm
  unfold setEpoch
  exact wpAny_bind (wpAny_setState_of ho hd hf (wpAny_pure h))
theorem si_item_num {it a : Addr} {sl i ep nx : Nat} {x : Value} {es : Array (Int × Value)} {t : SetTable} {Q : Option Value → Shared → Prop} (hit : SetIt s.heap it (rawInt sl) i a es.size ep) (hm : SetRaw s.heap a es ep t)
    (hn : ∀ (A' : Around) (E' : Value → Shared → Prop) (Q' : Option (Value × Nat) → Shared → Prop), Q' (some (x, nx)) s → wpAny (model P w) A' (setNext a sl i ep) Q' E' s)
    (hQ : ∀ h', SetIt h' it (rawInt nx) (i + 1) a es.size ep → Heap.SameBut it s.heap h' → Q (some x) { s with heap := h' }) : wpAny (model P w) A (pyNext (.ref it)) Q E s := by
  obtain ⟨o, ho, hc, hd⟩ := id hit
  unfold pyNext
  refine wpAny_bind (wpAny_attempt (wpAny_callSpecial?_slot (name := Str.ofString "__next__") hit.ty si_slot (wpAny_call_entry si_slot hit.ty si_entry ?_ (si_args _))))
  unfold Builtin.«set_iterator.__next__»
  refine wpAny_bind (wpAny_pure ?_)
  try dsimp only
  refine wpAny_bind (wpAny_fieldsOf ho hd ?_)
  try dsimp only
  refine wpAny_bind (si_entries hm ?_)
  try dsimp only
  rw [if_neg (by simp)]
  show wpAny _ _ (setNext a (Int.toNat (sl : Int)) (Int.toNat (i : Int)) (Int.toNat (ep : Int)) >>= _) _ _ _
  simp only [Int.toNat_natCast]
  refine wpAny_bind (hn _ _ _ ?_)
  try dsimp only
  refine wpAny_bind (wpAny_setField ho hd (by simp) ?_)
  have g1 := Heap.get?_update_self (Obj.mapFields (·.setIfInBounds 0 (rawInt (nx : Int)))) ho (Obj.isFreed_of_fields (Obj.data_mapFields hd _))
  have d1 : (o.mapFields (·.setIfInBounds 0 (rawInt (nx : Int)))).data = .fields #[rawInt (nx : Int), .int i 0, .ref a, .int es.size 0, .int ep 0] := by rw [Obj.data_mapFields hd]; rfl
  refine wpAny_bind (wpAny_setField g1 d1 (by simp) ?_)
  refine wpAny_pure ⟨x, rfl, wpAny_pure (hQ _ ⟨_, Heap.get?_update_self _ g1 (Obj.isFreed_of_fields (Obj.data_mapFields d1 _)), ((Obj.cls_mapFields ..).trans (Obj.cls_mapFields ..)).trans hc, ?_⟩ ?_)⟩
  · rw [Obj.data_mapFields d1]; simp [rawInt]
  · exact (Heap.SameBut.update ..).trans (Heap.SameBut.update ..)
theorem si_item_drawn {it a tp : Addr} {i ep p : Nat} {es : Array (Int × Value)} {t : SetTable} {pl : Array Value} {ot : Obj} {c : Nat} {Q : Option Value → Shared → Prop} (hit : SetIt s.heap it (.ref tp) i a es.size ep) (hm : SetRaw s.heap a es ep t)
    (htp : s.heap.get? tp = some ot) (hot : ot.data = .seq pl c) (hp : pl[i]? = some (rawInt p)) {e : Int × Value} (he : es[p]? = some e)
    (hQ : ∀ h', SetIt h' it (.ref tp) (i + 1) a es.size ep → Heap.SameBut it s.heap h' → Q (some e.2) { s with heap := h' }) : wpAny (model P w) A (pyNext (.ref it)) Q E s := by
  obtain ⟨o, ho, hc, hd⟩ := id hit
  obtain ⟨os', hos, hx, hds, hf⟩ := id hm
  unfold pyNext
  refine wpAny_bind (wpAny_attempt (wpAny_callSpecial?_slot (name := Str.ofString "__next__") hit.ty si_slot (wpAny_call_entry si_slot hit.ty si_entry ?_ (si_args _))))
  unfold Builtin.«set_iterator.__next__»
  refine wpAny_bind (wpAny_pure ?_)
  try dsimp only
  refine wpAny_bind (wpAny_fieldsOf ho hd ?_)
  try dsimp only
  refine wpAny_bind (si_entries hm ?_)
  try dsimp only
  rw [if_neg (by simp)]
  refine wpAny_bind (wpAny_seqItems htp hot ?_)
  try dsimp only
  rw [show pl[Int.toNat (i : Int)]? = some (rawInt p) from hp]
  show wpAny _ _ (setNextDrawn a (Int.toNat (p : Int)) (Int.toNat (ep : Int)) >>= _) _ _ _
  simp only [Int.toNat_natCast]
  refine wpAny_bind (next_drawn hos hds hf he ?_)
  refine wpAny_bind (wpAny_setField ho hd (by simp) ?_)
  refine wpAny_pure ⟨e.2, rfl, wpAny_pure (hQ _ ⟨_, Heap.get?_update_self _ ho (Obj.isFreed_of_fields (Obj.data_mapFields hd _)), (Obj.cls_mapFields ..).trans hc, ?_⟩ (Heap.SameBut.update ..))⟩
  rw [Obj.data_mapFields hd]; simp [rawInt]
theorem si_stop {h1 : Heap} {tk : Nat} {Q : Option Value → Shared → Prop} (hh : A.in1.handled = none) (hQ : ∀ h', (∀ b o, h1.get? b = some o → h'.get? b = some o) → Q none { s with heap := h', toks := tk }) :
    wpAny (model P w) A.in1 (do raiseNew (← newExc (.type "StopIteration") []) : Sem PySem.Fin) (fun fin s' => ∃ v, fin = Fin.done (Flow.ret v) ∧ wpAny (model P w) A (pure (some v)) Q E s')
      (fun e s' => wpAny (model P w) A (do let b ← isInstance e (Value.type "StopIteration"); if b = true then pure none else throw e) Q E s') { s with heap := h1, toks := tk } := by
  refine wpAny_bind ?_; simp only [newExc, newTuple]
  refine wpAny_bind (wpAny_newObj_type (wpAny_bind (m := firstArgMember _ _) (wpAny_of_eq (a := Value.none) (by first | rfl | (simp only [firstArgMember]; rfl)) ?_)) (by size_fits))
  refine wpAny_newObj_type ?_ (by size_fits); simp only [raiseNew]
  refine wpAny_bind (wpAny_handled ?_); rw [hh]
  refine wpAny_bind (wpAny_pure (wpAny_throw ?_)); refine wpAny_bind (wpAny_isInstance (T := "StopIteration") (b := true) ⟨_, Heap.get?_push_size _ rfl, rfl⟩ isSubtype_stop ?_)
  exact wpAny_pure (hQ _ fun b o e => Heap.get?_push_of_some _ (Heap.get?_push_of_some _ e))
theorem si_end_num {it a : Addr} {sl i ep : Nat} {es : Array (Int × Value)} {t : SetTable} {Q : Option Value → Shared → Prop} (hh : A.handled = none) (hit : SetIt s.heap it (rawInt sl) i a es.size ep) (hm : SetRaw s.heap a es ep t)
    (hn : ∀ (A' : Around) (E' : Value → Shared → Prop) (Q' : Option (Value × Nat) → Shared → Prop), Q' none s → wpAny (model P w) A' (setNext a sl i ep) Q' E' s)
    (hQ : ∀ h', Heap.ExtBut it s.heap h' → Q none { s with heap := h' }) : wpAny (model P w) A (pyNext (.ref it)) Q E s := by
  obtain ⟨o, ho, hc, hd⟩ := id hit
  unfold pyNext
  refine wpAny_bind (wpAny_attempt (wpAny_callSpecial?_slot (name := Str.ofString "__next__") hit.ty si_slot (wpAny_call_entry si_slot hit.ty si_entry ?_ (si_args _))))
  unfold Builtin.«set_iterator.__next__»
  refine wpAny_bind (wpAny_pure ?_)
  try dsimp only
  refine wpAny_bind (wpAny_fieldsOf ho hd ?_)
  try dsimp only
  refine wpAny_bind (si_entries hm ?_)
  try dsimp only
  rw [if_neg (by simp)]
  show wpAny _ _ (setNext a (Int.toNat (sl : Int)) (Int.toNat (i : Int)) (Int.toNat (ep : Int)) >>= _) _ _ _
  simp only [Int.toNat_natCast]
  refine wpAny_bind (hn _ _ _ ?_)
  try dsimp only
  refine wpAny_bind (wpAny_setField ho hd (by simp) ?_)
  exact si_stop (s := s) (tk := s.toks) hh fun h' kp => hQ h' fun b o hb e => kp b o (by rw [Heap.get?_update_ne _ _ _ _ hb]; exact e)
theorem si_end_drawn {it a tp : Addr} {i ep : Nat} {es : Array (Int × Value)} {t : SetTable} {pl : Array Value} {ot : Obj} {c : Nat} {Q : Option Value → Shared → Prop} (hh : A.handled = none) (hit : SetIt s.heap it (.ref tp) i a es.size ep) (hm : SetRaw s.heap a es ep t)
    (htp : s.heap.get? tp = some ot) (hot : ot.data = .seq pl c) (hp : pl[i]? = none)
    (hQ : ∀ h', Heap.ExtBut it s.heap h' → Q none { s with heap := h' }) : wpAny (model P w) A (pyNext (.ref it)) Q E s := by
  obtain ⟨o, ho, hc, hd⟩ := id hit
  unfold pyNext
  refine wpAny_bind (wpAny_attempt (wpAny_callSpecial?_slot (name := Str.ofString "__next__") hit.ty si_slot (wpAny_call_entry si_slot hit.ty si_entry ?_ (si_args _))))
  unfold Builtin.«set_iterator.__next__»
  refine wpAny_bind (wpAny_pure ?_)
  try dsimp only
  refine wpAny_bind (wpAny_fieldsOf ho hd ?_)
  try dsimp only
  refine wpAny_bind (si_entries hm ?_)
  try dsimp only
  rw [if_neg (by simp)]
  refine wpAny_bind (wpAny_seqItems htp hot ?_)
  try dsimp only
  rw [show pl[Int.toNat (i : Int)]? = none from hp]
  try dsimp only
  refine wpAny_bind (wpAny_setField ho hd (by simp) ?_)
  have g1 := Heap.get?_update_self (Obj.mapFields (·.setIfInBounds 0 (rawInt 0))) ho (Obj.isFreed_of_fields (Obj.data_mapFields hd _))
  have d1 : (o.mapFields (·.setIfInBounds 0 (rawInt 0))).data = .fields #[rawInt 0, .int i 0, .ref a, .int es.size 0, .int ep 0] := by rw [Obj.data_mapFields hd]; rfl
  refine wpAny_bind (wpAny_setField g1 d1 (by simp) ?_)
  exact si_stop (s := s) (tk := s.toks) hh fun h' kp => hQ h' fun b o hb e => kp b o (by rw [Heap.get?_update_ne _ _ _ _ hb, Heap.get?_update_ne _ _ _ _ hb]; exact e)
end
end L2
set_option maxRecDepth 100000
set_option maxHeartbeats 4000000
namespace L2
open PySem PySem.Spec PyProof.Rows
section
variable {P : Program} {w : World} {A : Around} {E : Value → Shared → Prop} {s : Shared}
theorem wp_choose1 {src : Source} {n : Nat} {Q : Nat → Shared → Prop} (hn : n ≠ 0) (h : ∀ i d, i < n → Q i { s with drawn := d }) : wpAny (model P w) A (choose src n) Q E s := fun Γ p hΓ => by
  unfold choose
  rw [Sem.wp_choose]
  exact ⟨hn, h _ _ (Nat.mod_lt _ (Nat.pos_of_ne_zero hn))⟩
theorem wp_drawOrder {α : Type} : ∀ (n : Nat) (xs : List α) (s : Shared) (Q : List α → Shared → Prop), xs.length ≤ n → (∀ ys d, ys.Perm xs → Q ys { s with drawn := d }) → wpAny (model P w) A (drawOrder n xs) Q E s
  | 0, xs, s, Q, hl, h => by
    have : xs = [] := List.length_eq_zero_iff.mp (by omega)
    subst this
    unfold drawOrder
    exact wpAny_pure (h [] s.drawn (.refl _))
  | n + 1, [], s, Q, hl, h => by
    unfold drawOrder
    exact wpAny_pure (h [] s.drawn (.refl _))
  | n + 1, x :: xs, s, Q, hl, h => by
    unfold drawOrder
    refine wpAny_bind (wp_choose1 (by simp) fun i d hi => ?_)
    rw [List.getElem?_eq_getElem hi]
    refine wpAny_bind (wp_drawOrder n _ _ _ (by rw [List.length_eraseIdx]; simp only [hi, if_true]; simp at hl ⊢; omega) fun ys d' hp => ?_)
    exact wpAny_pure (h _ d' ((List.Perm.cons _ hp).trans (erase_perm _ i hi)))
theorem set_hint {r : Addr} {Q : Bool → Shared → Prop} (hT : s.TypeIs (.ref r) "set") (h : Q false s) : wpAny (model P w) A (Builtin.List.listLengthHint (.ref r)) Q E s := by
  unfold Builtin.List.listLengthHint
  refine wpAny_bind (wpAny_specialOf hT PySem.F.slot_set_len.lookup ?_)
  generalize hid : ("set.__len__" : String) = id0
  wp_delta
  rw [show splitId id0 = some ("set", "__len__") from by subst hid; decide +kernel]
  subst hid
  refine wpAny_bind (wpAny_isInstance (T := "set") (b := true) hT (by rw [isSubtype_type]; kernel_rfl) ?_)
  refine wpAny_ite_split (fun hab => absurd hab (by decide)) fun _ => ?_; refine wpAny_ite_split (fun _ => ?_) fun hab => absurd (by decide +kernel) hab
  exact wpAny_bind (wpAny_typeOf hT (wpAny_pure h))
theorem SetRaw.ty {a : Addr} {es : Array (Int × Value)} {ep : Nat} {t : SetTable} (x : SetRaw s.heap a es ep t) : s.TypeIs (.ref a) "set" := let ⟨o, ho, hc, _⟩ := x; ⟨o, ho, hc.1⟩
theorem sj_slot : Slot "set_iterator" "__iter__" "set_iterator.__iter__" := .of (owner := "set_iterator") (n := "__iter__") (by rw [typeLookup_type, builtinLookup_eq_fast]; kernel_rfl) (by decide +kernel) (by decide +kernel) (by decide +kernel) (by first | exact .inl (by decide +kernel) | exact .inr (by decide +kernel)) (by rw [isSubtype_type]; kernel_rfl)
theorem sj_entry : entryFor table "set_iterator.__iter__" = some Builtin.«dict_keyiterator.__iter__» := entryFor_alias (id' := "dict_keyiterator.__iter__") (by kernel_rfl) rfl (by decide +kernel) (by kernel_rfl)
theorem sj_args (a : Value) : argsOk "set_iterator.__iter__" ⟨[a], []⟩ := by
  unfold argsOk
  kernel_rfl
theorem sj_self {it : Addr} {first : Value} {i a n ep : Nat} {Q : Value → Shared → Prop} (hit : SetIt s.heap it first i a n ep) (h : Q (.ref it) s) : wpAny (model P w) A (pyIter (.ref it)) Q E s := by
  refine wpAny_pyIter_slot hit.ty sj_slot (wpAny_call_entry sj_slot hit.ty sj_entry ?_ (sj_args _))
  show wpAny _ _ (ret (.ref it)) _ _ s
  exact wpAny_pure ⟨_, rfl, "set_iterator", _, hit.ty, si_slot.lookup, h⟩
theorem walks_num (hh : A.handled = none) (I a : Addr) (hne : a ≠ I) {es ord : Array (Int × Value)} {ep : Nat} {t : SetTable} (slots : Nat → Nat) (hsz : ord.size = es.size)
    (on : ∀ (i : Nat) (hi : i < ord.size) (s : Shared), SetRaw s.heap a es ep t → ∀ (A' : Around) (E' : Value → Shared → Prop) (Q' : Option (Value × Nat) → Shared → Prop), Q' (some (ord[i].2, slots (i + 1))) s → wpAny (model P w) A' (setNext a (slots i) i ep) Q' E' s)
    (off : ∀ (s : Shared), SetRaw s.heap a es ep t → ∀ (A' : Around) (E' : Value → Shared → Prop) (Q' : Option (Value × Nat) → Shared → Prop), Q' none s → wpAny (model P w) A' (setNext a (slots es.size) es.size ep) Q' E' s) :
    Walks P w A I [I, a] [I] es.size (fun i v => ∃ e, ord[i]? = some e ∧ v = e.2) (fun i h => SetIt h I (rawInt (slots i)) i a es.size ep ∧ SetRaw h a es ep t) where
  sub := fun b hb => by
    have : b = I := by simpa using hb
    simp [this]
  frame := fun _ _ _ st hk => ⟨st.1.to fun o e => hk I (by simp) o e, st.2.to fun o e => hk a (by simp) o e⟩
  item := fun i s Q E hi st hQ => by
    have hi' : i < ord.size := by omega
    refine si_item_num st.1 st.2 (fun A' E' Q' q => on i hi' s st.2 A' E' Q' q) fun h' st' sm => ?_
    exact hQ _ h' s.toks ⟨ord[i], by simp [hi'], rfl⟩ ⟨st', st.2.to fun o e => sm.extBut a o hne e⟩ fun b o hb e => sm.extBut b o (fun h => hb (by simp [h])) e
  done := fun s Q E st hQ => si_end_num hh st.1 st.2 (fun A' E' Q' q => off s st.2 A' E' Q' q) fun h' he => hQ h' s.toks fun b o hb e => he b o (fun h => hb (by simp [h])) e
  self := fun _ _ _ _ st hQ => sj_self st.1 hQ
theorem walks_drawn (hh : A.handled = none) (I a tp : Addr) (hne : a ≠ I) (htI : tp ≠ I) {es ord : Array (Int × Value)} {ep : Nat} {t : SetTable} {ys : List Nat} {ot : Obj} {c : Nat} (hot : ot.data = .seq (ys.map fun i : Nat => rawInt i).toArray c) (hsz : ys.length = es.size)
    (ho : ∀ (i : Nat) (e : Int × Value), ord[i]? = some e ↔ ∃ p, ys[i]? = some p ∧ es[p]? = some e) (hall : ∀ p ∈ ys, p < es.size) :
    Walks P w A I [I, a, tp] [I] es.size (fun i v => ∃ e, ord[i]? = some e ∧ v = e.2) (fun i h => SetIt h I (.ref tp) i a es.size ep ∧ SetRaw h a es ep t ∧ h.get? tp = some ot) where
  sub := fun b hb => by
    have : b = I := by simpa using hb
    simp [this]
  frame := fun _ _ _ st hk => ⟨st.1.to fun o e => hk I (by simp) o e, st.2.1.to fun o e => hk a (by simp) o e, hk tp (by simp) _ st.2.2⟩
  item := fun i s Q E hi st hQ => by
    have hi' : i < ys.length := by omega
    have hp : ys[i] < es.size := hall _ (List.getElem_mem _)
    refine si_item_drawn (p := ys[i]) (e := es[ys[i]]) st.1 st.2.1 st.2.2 hot (by simp [hi']) (by simp [hp]) fun h' st' sm => ?_
    exact hQ _ h' s.toks ⟨es[ys[i]], (ho i _).mpr ⟨ys[i], by simp [hi'], by simp [hp]⟩, rfl⟩ ⟨st', st.2.1.to fun o e => sm.extBut a o hne e, sm.extBut tp _ htI st.2.2⟩ fun b o hb e => sm.extBut b o (fun h => hb (by simp [h])) e
  done := fun s Q E st hQ => si_end_drawn hh st.1 st.2.1 st.2.2 hot (by simp [hsz]) fun h' he => hQ h' s.toks fun b o hb e => he b o (fun h => hb (by simp [h])) e
  self := fun _ _ _ _ st hQ => sj_self st.1 hQ
structure SetWalk (P : Program) (w : World) (A : Around) (s s' : Shared) (a : Addr) (es : Array (Int × Value)) (I : Addr) : Prop where
  same : ∃ h' d tk, s' = { s with heap := h', drawn := d, toks := tk }
  kp : ∀ b o, s.heap.get? b = some o → s'.heap.get? b = some o
  new : s.heap.objs.size ≤ I
  walk : ∃ (ord : Array (Int × Value)) (fp : List Addr) (St : Nat → Heap → Prop), ord.toList.Perm es.toList ∧ (∀ b ∈ fp, b = a ∨ s.heap.objs.size ≤ b) ∧ (∀ b ∈ fp, b < s'.heap.objs.size) ∧
    Walks P w A I fp [I] es.size (fun i v => ∃ e, ord[i]? = some e ∧ v = e.2) St ∧ St 0 s'.heap
theorem set_iter {a : Addr} {es : Array (Int × Value)} {ep : Nat} {t : SetTable} {Q : Value → Shared → Prop} (hh : A.handled = none) (hm : SetRaw s.heap a es ep t) (T : Tbl w t) (hbd : es.size ≤ 1000000)
    (hQ : ∀ I s', SetWalk P w A s s' a es I → Q (.ref I) s') : wpAny (model P w) A (pyIter (.ref a)) Q E s := by
  have hT := hm.ty
  obtain ⟨o, ho, hx, hd, hf⟩ := id hm
  have lt := Heap.lt_size ho
  refine wpAny_pyIter_slot hT PySem.F.slot_set_iter (wpAny_call_entry PySem.F.slot_set_iter hT st_entry ?_ (PySem.F.args_set_iter_1 _))
  unfold Builtin.«frozenset.__iter__»
  refine wpAny_bind ?_
  show wpAny _ _ (pure a) _ _ s
  refine wpAny_pure ?_
  show wpAny _ _ (Builtin.Frozenset.sizeOf a >>= _) _ _ s
  unfold Builtin.Frozenset.sizeOf
  refine wpAny_bind (wpAny_bind (si_entries hm (wpAny_pure ?_)))
  unfold setDrawn setsByText
  refine wpAny_bind (wpAny_bind (wpAny_setState_of ho hd hf ?_))
  try dsimp only
  refine wpAny_bind (wpAny_bind (wpAny_askSetting (wpAny_pure ?_)))
  refine wpAny_pure ?_
  have step : ∀ (slots : Nat → Nat) (ord : Array (Int × Value)), ord.toList.Perm es.toList → slots 0 = 0 → (∀ I : Addr, a ≠ I → Walks P w A I [I, a] [I] es.size (fun i v => ∃ e, ord[i]? = some e ∧ v = e.2) (fun i h => SetIt h I (rawInt (slots i)) i a es.size ep ∧ SetRaw h a es ep t)) →
      wpAny (model P w) A.in1 (do
        let first ← pure (rawInt 0)
        let e ← setEpoch a
        let v ← newFields "set_iterator" [first, rawInt 0, Value.ref a, rawInt es.size, rawInt e]
        ret v) (fun fin s' => ∃ v, fin = Fin.done (Flow.ret v) ∧ ∃ T' r, s'.TypeIs v T' ∧ typeLookup (Value.type T') (Str.ofString "__next__") = pure (some r) ∧ Q v s') E s := by
    intro slots ord hp h0 W
    refine wpAny_bind (wpAny_pure (wpAny_bind (si_epoch hm (wpAny_bind (wpAny_newObj_type (wpAny_pure ⟨_, rfl, "set_iterator", _, ⟨_, Heap.get?_push_size _ rfl, rfl⟩, si_slot.lookup, hQ _ _ ?_⟩))))))
    refine ⟨⟨_, s.drawn, s.toks, rfl⟩, fun b o e => Heap.get?_push_of_some _ e, Nat.le_refl _, ord, [s.heap.objs.size, a], _, hp, fun b hb => ?_, fun b hb => ?_, W _ (Nat.ne_of_lt lt), ?_⟩
    · rcases List.mem_cons.mp hb with z | z
      · exact .inr (Nat.le_of_eq z.symm)
      · exact .inl (by simpa using z)
    · rw [Heap.size_push]
      rcases List.mem_cons.mp hb with z | z
      · rw [z]; exact Nat.lt_succ_self _
      · have : b = a := by simpa using z
        rw [this]; exact Nat.lt_succ_of_lt lt
    · rw [h0]
      exact ⟨⟨_, Heap.get?_push_size _ rfl, rfl, rfl⟩, hm.to fun o e => Heap.get?_push_of_some _ e⟩
  cases bt : w.params.followText "set-order" with
  | true =>
    rw [if_neg (by rw [show (Setting.params ⟨(model P w).prog, (model P w).w.params⟩).followText "set-order" = true from bt]; simp)]
    have hpp := pick_perm (w.params.setOrder a ep) es
    have hps : (pickOrder (w.params.setOrder a ep) es).size = es.size := by have := hpp.length_eq; simpa using this
    refine step (fun _ => 0) (pickOrder (w.params.setOrder a ep) es) hpp rfl fun I hI => walks_num hh I a hI (fun _ => 0) hps (fun i hi s2 hm2 A' E' Q' q => ?_) fun s2 hm2 A' E' Q' q => ?_
    · obtain ⟨o2, ho2, hx2, hd2, hf2⟩ := hm2
      refine next_text ho2 hd2 hf2 bt ?_
      rw [Array.getElem?_eq_getElem hi]
      exact q
    · obtain ⟨o2, ho2, hx2, hd2, hf2⟩ := hm2
      refine next_text ho2 hd2 hf2 bt ?_
      rw [Array.getElem?_eq_none (by omega)]
      exact q
  | false =>
    by_cases dr : (!t.plain && decide (es.size > 1)) = true
    · rw [if_pos (by rw [show (Setting.params ⟨(model P w).prog, (model P w).w.params⟩).followText "set-order" = false from bt]; exact dr)]
      refine wpAny_bind (wp_drawOrder es.size (List.range es.size) s _ (by simp) fun ys d hp => ?_)
      have hl : ys.length = es.size := by have := hp.length_eq; simpa using this
      have hall : ∀ p ∈ ys, p < es.size := fun p h => List.mem_range.mp (hp.mem_iff.mp h)
      refine wpAny_bind (wpAny_newObj_type ?_ (by show (ys.map fun i : Nat => rawInt i).toArray.size ≤ sizeLine; simp [hl]; exact Nat.le_trans hbd (by decide)))
      refine wpAny_bind (si_epoch (s := { s with heap := s.heap.push _, drawn := d }) (hm.to fun o e => Heap.get?_push_of_some _ e) ?_)
      refine wpAny_bind (wpAny_newObj_type (wpAny_pure ⟨_, rfl, "set_iterator", _, ⟨_, Heap.get?_push_size _ rfl, rfl⟩, si_slot.lookup, hQ _ _ ?_⟩))
      have s1 : (s.heap.push { cls := Value.type "tuple", data := Data.seq (ys.map fun i : Nat => rawInt i).toArray }).objs.size = s.heap.objs.size + 1 := Heap.size_push ..
      refine ⟨⟨_, d, s.toks, rfl⟩, fun b o e => Heap.get?_push_of_some _ (Heap.get?_push_of_some _ e), by rw [s1]; exact Nat.le_succ _, (ys.map fun p => es.getD p (0, .none)).toArray, [s.heap.objs.size + 1, a, s.heap.objs.size], (fun i h => SetIt h (s.heap.objs.size + 1) (.ref s.heap.objs.size) i a es.size ep ∧ SetRaw h a es ep t ∧ h.get? s.heap.objs.size = some { cls := Value.type "tuple", data := Data.seq (ys.map fun i : Nat => rawInt i).toArray }), ?_, fun b hb => ?_, fun b hb => ?_, ?_, ?_⟩
      · have e : (List.range es.size).map (fun p => es.getD p (0, .none)) = es.toList := by
          refine List.ext_getElem (by simp) fun i h1 h2 => ?_
          have h3 : i < es.size := by simpa using h1
          simp [h3]
        rw [← e]
        simpa using hp.map fun p => es.getD p (0, .none)
      · rcases List.mem_cons.mp hb with z | z
        · exact .inr (by rw [z]; exact Nat.le_succ _)
        · rcases List.mem_cons.mp z with z | z
          · exact .inl z
          · exact .inr (by have : b = s.heap.objs.size := by simpa using z
                           rw [this]; exact Nat.le_refl _)
      · show b < ((s.heap.push _).push _).objs.size
        rw [Heap.size_push, Heap.size_push]
        rcases List.mem_cons.mp hb with z | z
        · rw [z]; exact Nat.lt_succ_self _
        · rcases List.mem_cons.mp z with z | z
          · rw [z]; exact Nat.lt_succ_of_lt (Nat.lt_succ_of_lt lt)
          · have : b = s.heap.objs.size := by simpa using z
            rw [this]; exact Nat.lt_succ_of_lt (Nat.lt_succ_self _)
      · rw [s1]
        exact walks_drawn (t := t) (ot := { cls := Value.type "tuple", data := Data.seq (ys.map fun i : Nat => rawInt i).toArray }) (ys := ys) hh _ a s.heap.objs.size (Nat.ne_of_lt (Nat.lt_succ_of_lt lt)) (Nat.ne_of_lt (Nat.lt_succ_self _)) rfl hl (fun i e => by
          rw [List.getElem?_toArray, List.getElem?_map, Option.map_eq_some_iff]
          refine exists_congr fun p => and_congr_right fun hp' => ?_
          have h3 : p < es.size := hall p (List.mem_of_getElem? hp')
          simp [h3]) hall
      · have gI : ∀ O : Obj, O.isFreed = false → ((s.heap.push { cls := Value.type "tuple", data := Data.seq (ys.map fun i : Nat => rawInt i).toArray }).push O).get? (s.heap.objs.size + 1) = some O := fun O hO => by rw [← s1]; exact Heap.get?_push_size _ hO
        exact ⟨⟨_, gI { cls := .type "set_iterator", data := .fields #[.ref s.heap.objs.size, rawInt 0, .ref a, rawInt es.size, rawInt ep] } rfl, rfl, rfl⟩, hm.to fun o e => Heap.get?_push_of_some _ (Heap.get?_push_of_some _ e), Heap.get?_push_of_some _ (Heap.get?_push_size _ rfl)⟩
    · rw [if_neg (by rw [show (Setting.params ⟨(model P w).prog, (model P w).w.params⟩).followText "set-order" = false from bt]; exact dr)]
      have pl : t.plain = true ∨ es.size ≤ 1 := by
        rcases Nat.lt_or_ge 1 es.size with z | z
        · left
          cases hpl : t.plain with
          | true => rfl
          | false => exact absurd (by rw [hpl, decide_eq_true z]; rfl) dr
        · exact .inr z
      have hz : t.place.size = es.size := by
        unfold SetTable.fits at hf
        simp at hf
        exact hf.1
      have up : t.place.toList.Pairwise (· < ·) := by
        rcases pl with z | z
        · exact T.up z
        · have : t.place.toList.length ≤ 1 := by simp; omega
          match t.place.toList, this with
          | [], _ => exact .nil
          | [x], _ => simp
      refine step (slotAt t) es (.refl _) rfl fun I hI => walks_num hh I a hI (slotAt t) rfl (fun i hi s2 hm2 A' E' Q' q => ?_) fun s2 hm2 A' E' Q' q => ?_
      · obtain ⟨o2, ho2, hx2, hd2, hf2⟩ := hm2
        refine next_plain ho2 hd2 hf2 T bt pl up (Nat.le_of_lt hi) ?_
        have hi2 : i < t.place.size := by omega
        rw [Array.getElem?_eq_getElem hi, Array.getElem?_eq_getElem hi2]
        have e : slotAt t (i + 1) = t.place[i] + 1 := by
          unfold slotAt
          rw [if_neg (by omega), Nat.add_sub_cancel]
          simp [hi2]
        rw [e] at q
        exact q
      · obtain ⟨o2, ho2, hx2, hd2, hf2⟩ := hm2
        refine next_plain ho2 hd2 hf2 T bt pl up (Nat.le_refl _) ?_
        rw [Array.getElem?_eq_none (Nat.le_refl _)]
        exact q
end
end L2
set_option maxRecDepth 100000
set_option maxHeartbeats 4000000
namespace L2
open PySem PySem.Spec PyProof.Rows
section
variable {P : Program} {w : World} {A : Around} {E : Value → Shared → Prop} {s : Shared}
theorem items_ord {acc : Array Value} {ord : Array (Int × Value)} {n : Nat} (hz : ord.size = n) (h : ItemsOf (fun i v => ∃ e, ord[i]? = some e ∧ v = e.2) acc n) : acc.toList = ord.toList.map (·.2) := by
  refine List.ext_getElem? fun i => ?_
  rcases Nat.lt_or_ge i acc.size with hi | hi
  · obtain ⟨e, he, hv⟩ := h.2 i acc[i] (by simp [hi])
    have e1 : acc.toList[i]? = some acc[i] := by simp [hi]
    rw [e1, hv, List.getElem?_map]
    have e2 : ord.toList[i]? = some e := by rw [Array.getElem?_toList]; exact he
    rw [e2]; rfl
  · rw [List.getElem?_eq_none (by simpa using hi), List.getElem?_eq_none (by have := h.1; simp; omega)]
theorem set_extend {R : Result → Shared → Prop} {a : Addr} {es : Array (Int × Value)} {ep : Nat} {t : SetTable} (hh : A.handled = none) (hm : SetRaw s.heap a es ep t) (T : Tbl w t) (hbd : es.size ≤ 1000000) (S : Addr) (hSa : S ≠ a) (res : Value) (c₀ : Nat) (hS : s.heap.get? S = some { cls := .type "list", data := .seq #[] c₀ })
    (hR : ∀ h' d tk acc' c' (ord : Array (Int × Value)), (∀ b o, b ≠ S → s.heap.get? b = some o → h'.get? b = some o) → h'.get? S = some { cls := .type "list", dict := none, data := .seq acc' c', slots := #[] } → ord.toList.Perm es.toList → acc'.toList = ord.toList.map (·.2) → R (.ok (.ret res)) { s with heap := h', drawn := d, toks := tk }) :
    wpAny (model P w) A.in1 (Builtin.List.listExtendWith (.ref S) (.ref a) res) (fun fin s' => match fin with | .done f => R (.ok f) s' | .again c' => c'.quiet = true ∧ codeAny (model P w) A c' R s') (fun e s' => R (.error e) s') s := by
  unfold Builtin.List.listExtendWith
  refine wpAny_bind (wpAny_typeOf (T := "set") hm.ty ?_)
  have h1 : Builtin.List.listSameRef (.ref S) (.ref a) = false := by simp [Builtin.List.listSameRef, hSa]
  have h2 : (Value.type "set" == Value.type "list") = false := by decide
  have h3 : (Value.type "set" == Value.type "tuple") = false := by decide
  simp only [h1, h2, h3, Bool.or_false, Bool.false_eq_true, if_false]
  refine wpAny_bind (set_iter (A := A.in1) (by simpa using hh) hm T hbd fun I s' W => ?_)
  obtain ⟨⟨h', d, tk, rfl⟩, kp, new, ord, fp, St, hp, fpa, fps, W, st⟩ := W
  have hS1 := kp _ _ hS
  have hm1 : SetRaw h' a es ep t := hm.to fun o e => kp _ _ e
  have hSf : S ∉ fp := fun z => by
    rcases fpa S z with u | u
    · exact hSa u
    · exact absurd (Heap.lt_size hS) (Nat.not_lt.mpr u)
  have hoz : ord.size = es.size := by have := hp.length_eq; simpa using this
  have key : ∀ (h2 : Heap) (c₁ tk' : Nat), St 0 h2 → (∀ b o, b ≠ S → s.heap.get? b = some o → h2.get? b = some o) → h2.get? S = some { cls := .type "list", data := .seq #[] c₁ } →
      codeAny (model P w) A (.builtin "list.extend.loop" ⟨[.ref S, .ref I, res], []⟩) R { s with heap := h2, drawn := d, toks := tk' } := by
    intro h2 c₁ tk' st2 k2 hS2
    refine codeAny_extend_loopS W.toS (Nat.le_trans hbd (by decide)) S hSf res es.size 0 _ #[] c₁ rfl (Nat.zero_le _) st2 hS2 (ItemsOf.nil _) fun s3 acc' c' mv hS3 hacc => ?_
    obtain ⟨h3, g3, d3, t3, os3⟩ := s3
    obtain rfl : g3 = s.gens := mv.gens
    obtain rfl : d3 = d := mv.drawn
    obtain rfl : os3 = s.os := mv.os
    refine hR h3 _ t3 acc' c' ord (fun b o hb e => mv.heap b o (fun z => ?_) (k2 b o hb e)) hS3 hp (items_ord hoz hacc)
    rcases List.mem_cons.mp z with u | u
    · exact hb u
    · have : b = I := by simpa using u
      exact absurd (Heap.lt_size e) (by rw [this]; exact Nat.not_lt.mpr new)
  refine wpAny_bind (wpAny_holding (set_hint (s := { s with heap := h', drawn := d, toks := tk }) (SetRaw.ty (s := { s with heap := h', drawn := d, toks := tk }) hm1) ?_))
  refine wpAny_ite_split (fun _ => ?_) (fun _ => wpAny_pure ⟨plainId_quiet PySem.F.plain_extend_loop _, key _ c₀ _ st (fun b o _ e => kp b o e) hS1⟩)
  refine wpAny_bind (wpAny_rule (wpAny_bind ?_))
  show wpAny _ _ (updateSeq S (·.push .none) >>= fun _ => updateSeq S (·.pop)) _ _ _
  refine wpAny_bind (wpAny_updateSeq hS1 rfl ?_)
  have g2 := Heap.get?_update_self (Obj.mapSeq (·.push Value.none)) hS1 rfl
  refine wpAny_updateSeq (hz := by seq_fits) g2 rfl ?_
  have g3 := Heap.get?_update_self (Obj.mapSeq (·.pop)) g2 rfl
  refine wpAny_pure ⟨plainId_quiet PySem.F.plain_extend_loop _, key _ _ _ ?_ (fun b o hb e => ?_) g3⟩
  · refine W.frame 0 _ _ st fun b hb o e => ?_
    have hbS : b ≠ S := fun h => hSf (h ▸ hb)
    rw [Heap.get?_update_ne _ _ _ _ hbS, Heap.get?_update_ne _ _ _ _ hbS]; exact e
  · rw [Heap.get?_update_ne _ _ _ _ hb, Heap.get?_update_ne _ _ _ _ hb]; exact kp b o e
theorem set_collect {R : List Value → Shared → Prop} {a : Addr} {es : Array (Int × Value)} {ep : Nat} {t : SetTable} (hh : A.handled = none) (hm : SetRaw s.heap a es ep t) (T : Tbl w t) (hbd : es.size ≤ 1000000)
    (h : ∀ (h' : Heap) d tk (vs : List Value) (ord : Array (Int × Value)), s.heap.objs.size < h'.objs.size → (∀ b o, s.heap.get? b = some o → h'.get? b = some o) → ord.toList.Perm es.toList → vs = ord.toList.map (·.2) → R vs { s with heap := h', drawn := d, toks := tk }) :
    wpAny (model P w) A (collect (.ref a)) R E s := by
  obtain ⟨oa, hoa, rest⟩ := id hm
  have lt := Heap.lt_size hoa
  unfold collect
  refine wpAny_bind (wpAny_runValue (codeAny_builtin entry_proto_collect' ?_)); rw [Around.under_plainId PySem.F.plain_proto_collect _]
  show wpAny _ A.in1 (newList [] >>= fun l => again (.builtin "list.__iadd__" ⟨[l, .ref a], []⟩)) _ _ s
  refine wpAny_bind (wpAny_newObj_type (wpAny_pure ⟨plainId_quiet PySem.F.plain_list_iadd _, codeAny_builtin entry_list_iadd' ?_⟩)); rw [Around.under_plainId PySem.F.plain_list_iadd _]
  have hS1 : (s.heap.push { cls := .type "list", data := .seq ([] : List Value).toArray }).get? s.heap.objs.size = some { cls := .type "list", data := .seq #[] } := Heap.get?_push_size _ rfl
  show wpAny _ A.in1 (Builtin.List.listExtendWith (.ref s.heap.objs.size) (.ref a) (.ref s.heap.objs.size)) _ _ _
  have key := set_extend (P := P) (w := w) (A := A) (s := { s with heap := s.heap.push { cls := .type "list", data := .seq ([] : List Value).toArray } }) (R := fun (q : Result) (s' : Shared) => ∃ (h' : Heap) (d : Drawn) (tk : Nat) (acc' : Array Value) (c' : Nat) (ord : Array (Int × Value)), q = .ok (.ret (.ref s.heap.objs.size)) ∧ s' = { s with heap := h', drawn := d, toks := tk } ∧ (∀ b o, s.heap.get? b = some o → h'.get? b = some o) ∧ h'.get? s.heap.objs.size = some { cls := .type "list", dict := none, data := .seq acc' c', slots := #[] } ∧ ord.toList.Perm es.toList ∧ acc'.toList = ord.toList.map (·.2))
    hh (hm.to fun o e => Heap.get?_push_of_some _ e) T hbd s.heap.objs.size (Nat.ne_of_gt lt) (.ref s.heap.objs.size) 0 hS1
    (fun h' d tk acc' c' ord hk hS' hp ha => ⟨h', d, tk, acc', c', ord, rfl, rfl, fun b o e => hk b o (Nat.ne_of_lt (Heap.lt_size e)) (Heap.get?_push_of_some _ e), hS', hp, ha⟩)
  have fin : ∀ (q : Result) (s' : Shared), (∃ (h' : Heap) (d : Drawn) (tk : Nat) (acc' : Array Value) (c' : Nat) (ord : Array (Int × Value)), q = .ok (.ret (.ref s.heap.objs.size)) ∧ s' = { s with heap := h', drawn := d, toks := tk } ∧ (∀ b o, s.heap.get? b = some o → h'.get? b = some o) ∧ h'.get? s.heap.objs.size = some { cls := .type "list", dict := none, data := .seq acc' c', slots := #[] } ∧ ord.toList.Perm es.toList ∧ acc'.toList = ord.toList.map (·.2)) → True := fun _ _ _ => trivial
  refine wpAny_mono key (fun fi s' x => ?_) fun e s' x => ?_
  · cases fi with
    | done f =>
      obtain ⟨h', d, tk, acc', c', ord, e, rfl, hk, hS', hp, ha⟩ := x
      cases e
      show wpAny _ A (load s.heap.objs.size >>= _) _ _ _
      refine wpAny_bind (wpAny_load hS' ?_)
      exact wpAny_pure (h h' d tk acc'.toList ord (Heap.lt_size hS') hk hp ha)
    | again c' =>
      obtain ⟨x1, x2⟩ := x
      refine ⟨x1, codeAny_mono x2 fun q s'' y => ?_⟩
      obtain ⟨h', d, tk, acc', c', ord, rfl, rfl, hk, hS', hp, ha⟩ := y
      show wpAny _ A (load s.heap.objs.size >>= _) _ _ _
      refine wpAny_bind (wpAny_load hS' ?_)
      exact wpAny_pure (h h' d tk acc'.toList ord (Heap.lt_size hS') hk hp ha)
  · obtain ⟨_, _, _, _, _, _, e', _⟩ := x
    cases e'
theorem ints_perm {l m : List (Int × Value)} (h : l.Perm m) : ∀ {ns : List Int}, IntsAre (m.map (·.2)) ns → ∃ ns', IntsAre (l.map (·.2)) ns' ∧ ns'.Perm ns := by
  induction h with
  | nil => intro ns h; exact ⟨ns, h, .refl _⟩
  | cons x _ ih =>
    intro ns h
    rw [List.map_cons] at h ⊢
    generalize x.2 = v at h ⊢
    cases h with
    | cons n t r =>
      obtain ⟨ns', h1, h2⟩ := ih r
      exact ⟨n :: ns', .cons n t h1, .cons n h2⟩
  | swap x y l =>
    intro ns h
    rw [List.map_cons, List.map_cons] at h ⊢
    generalize x.2 = v at h ⊢
    generalize y.2 = u at h ⊢
    cases h with
    | cons n t r =>
      cases r with
      | cons n' t' r => exact ⟨n' :: n :: _, .cons n' t' (.cons n t r), .swap ..⟩
  | trans _ _ ih1 ih2 =>
    intro ns h
    obtain ⟨ns1, a1, a2⟩ := ih2 h
    obtain ⟨ns2, b1, b2⟩ := ih1 a1
    exact ⟨ns2, b1, b2.trans a2⟩
theorem set_sorted {a : Addr} {es : Array (Int × Value)} {ep : Nat} {t : SetTable} {ns : List Int} {Q : Value → Shared → Prop} (hh : A.handled = none) (hm : SetRaw s.heap a es ep t) (T : Tbl w t) (h64 : es.size < 64) (hI : IntsAre (es.toList.map (·.2)) ns)
    (h : ∀ h' d tk (out : Array Value) (ns' : List Int) (D : Addr) (c : Nat), s.heap.objs.size ≤ D → (∀ b o, s.heap.get? b = some o → h'.get? b = some o) → h'.get? D = some { cls := .type "list", data := .seq out c } → IntsAre out.toList ns' → ns'.Perm ns → ns'.Pairwise (· ≤ ·) → Q (.ref D) { s with heap := h', drawn := d, toks := tk }) :
    wpAny (model P w) A (call (.builtin "sorted") [.ref a]) Q E s := by
  refine Calls.call_function_entry kind_sorted plain_sorted entry_sorted (args_sorted1 _) ?_
  unfold Builtin.«sorted»
  refine wpAny_bind (m := checkCount "sorted" 1 1 _) (wpAny_pure ?_)
  refine wpAny_bind (set_collect (A := A.in1) (by simpa using hh) hm T (by omega) fun h' d tk vs ord lts kp hp hv => ?_)
  have hl : vs.length = es.size := by rw [hv, List.length_map]; have := hp.length_eq; simpa using this
  obtain ⟨ns2, hI2, hp2⟩ := ints_perm hp hI
  rw [← hv] at hI2
  refine wpAny_bind (wpAny_newList ?_ (by rw [hl]; exact Nat.le_trans (Nat.le_of_lt h64) (by decide)))
  have hoL : (h'.push (seqObj "list" vs.toArray 0)).get? h'.objs.size = some (seqObj "list" vs.toArray 0) := Heap.get?_push_size _ rfl
  refine wpAny_bind (wpAny_holding (wpAny_call_entry slot_list_sort ⟨_, hoL, rfl⟩ entry_list_sort (list_sort_tree hoL hI2 (by omega) fun out ns' a1 a2 a3 => ⟨_, rfl, ?_⟩) (args_list_sort _)))
  refine wpAny_pure ⟨_, rfl, ?_⟩
  obtain ⟨c, hc⟩ := sortedHeap_at (out := out) hoL
  refine h _ d _ out ns' h'.objs.size c ?_ (fun b o e => ?_) hc a1 (a2.trans hp2) a3
  · exact Nat.le_of_lt lts
  · have lt := Heap.lt_size (kp b o e)
    rw [sortedHeap_old (Nat.ne_of_lt lt) (by rw [size_push']; exact Nat.lt_succ_of_lt lt)]
    exact Heap.get?_push_of_some _ (kp b o e)
end
end L2
set_option maxHeartbeats 4000000
namespace Lf
theorem fits_picks (row : List Int) : ∀ ps xs : List Int, ps.length = xs.length → fits row ps xs = decide (picks row ps = xs)
  | [], [], _ => rfl
  | [], _ :: _, h => by simp at h
  | _ :: _, [], h => by simp at h
  | p :: ps, x :: xs, h => by
    have ih := fits_picks row ps xs (by simpa using h)
    unfold fits at ih ⊢
    unfold picks at ih ⊢
    rw [List.zip_cons_cons, List.all_cons, ih, List.map_cons]
    by_cases e : row.getD p.toNat 0 = x
    · subst e; simp
    · simp only [decide_eq_false e, Bool.false_and, List.cons.injEq, e, false_and, decide_false]
theorem stands_picks (row ps xs : List Int) : stands row ps xs = (rising (-1) row.length ps && decide (picks row ps = xs)) := by
  by_cases h : ps.length = xs.length
  · rw [stands_eq _ _ _ h, fits_picks _ _ _ h]
  · have e : ¬ picks row ps = xs := fun z => h (by rw [← z]; unfold picks; simp)
    unfold stands
    rw [decide_eq_false h, decide_eq_false e, Bool.and_false, Bool.false_and]
theorem earl_uniq (row : List Int) : ∀ (r o ps : List Int) (i : Nat), r = row.drop i → i ≤ row.length → ps.length < o.length → standsFrom row ((i : Int) - 1) ps (o.take ps.length) = true →
    (∀ j, j ≤ ps.length → o.getD j 0 ∉ cut row (bAt i ps j) ((ps ++ [(row.length : Int)]).getD j 0)) → earl i r o = ps
  | [], o, [], i, h, hi, hl, hs, hc => earl_none _ _
  | [], [], p :: ps, i, h, hi, hl, hs, hc => by simp at hl
  | [], y :: o, p :: ps, i, h, hi, hl, hs, hc => by
    have hr : row.length ≤ i := by
      rcases Nat.lt_or_ge i row.length with q | q
      · rw [drop_at q] at h; cases h
      · exact q
    rw [List.length_cons, List.take_succ_cons, standsFrom] at hs
    simp only [Bool.and_eq_true, decide_eq_true_eq] at hs
    omega
  | x :: r, [], ps, i, h, hi, hl, hs, hc => by simp at hl
  | x :: r, y :: o, ps, i, h, hi, hl, hs, hc => by
    obtain ⟨hi', hx, hr⟩ := drop_cons_of h
    have ec : ((i : Int) + 1) = ((i + 1 : Nat) : Int) := by omega
    by_cases e : x = y
    · rw [earl, if_pos e]
      have here : ∀ e : Int, (i : Int) < e → y ∈ cut row i e := fun e' he => by
        rw [cut_step hi' he, hx, e]; exact List.mem_cons_self
      cases ps with
      | nil => exact absurd (here _ (by simp; omega)) (hc 0 (Nat.zero_le _))
      | cons p ps =>
        rw [List.length_cons, List.take_succ_cons, standsFrom] at hs
        simp only [Bool.and_eq_true, decide_eq_true_eq] at hs
        obtain ⟨⟨⟨h1, h2⟩, h3⟩, h4⟩ := hs
        have hp : p = (i : Int) := by
          rcases Int.lt_or_le (i : Int) p with q | q
          · exact absurd (here p q) (hc 0 (Nat.zero_le _))
          · omega
        subst hp
        rw [ec]
        congr 1
        refine earl_uniq row r o ps (i + 1) hr (by omega) (by simpa using hl) (by have : ((i + 1 : Nat) : Int) - 1 = i := by omega
                                                                                  rw [this]; exact h4) fun j hj => ?_
        have := hc (j + 1) (by simpa using hj)
        have b1 : bAt i ((i : Int) :: ps) (j + 1) = bAt ((i + 1 : Nat) : Int) ps j := by
          unfold bAt
          rw [if_neg (by omega)]
          cases j with
          | zero => simp
          | succ j => simp
        rw [b1] at this
        simpa using this
    · rw [earl, if_neg e, ec]
      refine earl_uniq row r (y :: o) ps (i + 1) hr (by omega) hl ?_ fun j hj => ?_
      · cases ps with
        | nil => rfl
        | cons p ps =>
          rw [List.length_cons, List.take_succ_cons, standsFrom] at hs ⊢
          simp only [Bool.and_eq_true, decide_eq_true_eq] at hs ⊢
          obtain ⟨⟨⟨h1, h2⟩, h3⟩, h4⟩ := hs
          refine ⟨⟨⟨?_, h2⟩, h3⟩, h4⟩
          have : p ≠ (i : Int) := fun q => e (by rw [← h3, q, Int.toNat_natCast, hx])
          omega
      · have q := hc j hj
        cases j with
        | succ j => exact q
        | zero =>
          have b0 : bAt i ps 0 = i := rfl
          have b1 : bAt ((i + 1 : Nat) : Int) ps 0 = ((i + 1 : Nat) : Int) := rfl
          rw [b0] at q
          rw [b1]
          intro m
          refine q ?_
          rcases Int.lt_or_le (i : Int) ((ps ++ [(row.length : Int)]).getD 0 0) with u | u
          · rw [cut_step hi' u, ec]
            exact List.mem_cons_of_mem _ m
          · rw [cut_none (by omega)] at m
            simp at m
theorem short_earliest {row other ps : List Int} (h : short row other ps = true) : ps = earliest row other := by
  obtain ⟨h1, h2, h3⟩ := short_parts h
  unfold stands at h2
  rw [Bool.and_eq_true] at h2
  refine (earl_uniq row row other ps 0 (by simp) (Nat.zero_le _) h1 h2.2 fun j hj => ?_).symm
  have := h3 j hj
  have e : bAt ((0 : Nat) : Int) ps j = beginAt ps j := by unfold bAt beginAt; rfl
  rw [e]
  exact this
theorem short_eq (row other ps : List Int) : short row other ps = (decide (ps.length < other.length) && decide (ps = earliest row other)) := by
  by_cases h : short row other ps = true
  · rw [h, decide_eq_true (short_parts h).1, decide_eq_true (short_earliest h)]; rfl
  · rw [Bool.eq_false_iff.mpr h]
    by_cases h1 : ps.length < other.length
    · by_cases h2 : ps = earliest row other
      · subst h2
        exact absurd (earliest_short (by omega)) h
      · rw [decide_eq_false h2, Bool.and_false]
    · rw [decide_eq_false h1, Bool.false_and]
end Lf
namespace Lf
theorem least_cons (m : Nat) (a : Int) (r : List Int) (hm : m ≤ r.length) : least (m + 1) (a :: r) = if ∀ y ∈ r.take (r.length - m), a ≤ y then a :: least m r else least (m + 1) r := by
  have ew : (a :: r).take ((a :: r).length - m) = a :: r.take (r.length - m) := by
    rw [List.length_cons, Nat.succ_sub hm, List.take_succ_cons]
  rw [least, ew]
  by_cases h : ∀ y ∈ r.take (r.length - m), a ≤ y
  · rw [if_pos h]
    have e : lmin (a :: r.take (r.length - m)) = a := (lmin_eq List.mem_cons_self (fun y hy => by
      rcases List.mem_cons.mp hy with q | q
      · omega
      · exact h y q)).symm
    rw [e]
    simp
  · rw [if_neg h]
    have hne : r.take (r.length - m) ≠ [] := fun e => h (by rw [e]; simp)
    have hm2 : m + 1 ≤ r.length := by
      rcases Nat.lt_or_ge m r.length with q | q
      · omega
      · exact absurd (by rw [show r.length - m = 0 by omega, List.take_zero]) hne
    have hlt : lmin (r.take (r.length - m)) < a := by
      refine Int.not_le.mp fun q => h fun y hy => ?_
      have := lmin_le _ y hy
      omega
    have e : lmin (a :: r.take (r.length - m)) = lmin (r.take (r.length - m)) := (lmin_eq (List.mem_cons_of_mem _ (lmin_mem _ hne)) (fun y hy => by
      rcases List.mem_cons.mp hy with q | q
      · omega
      · exact lmin_le _ y q)).symm
    rw [e, least]
    congr 1
    have ei : (a :: r.take (r.length - m)).idxOf (lmin (r.take (r.length - m))) = (r.take (r.length - m)).idxOf (lmin (r.take (r.length - m))) + 1 := by
      rw [List.idxOf_cons]
      have : (a == lmin (r.take (r.length - m))) = false := by
        rw [beq_eq_false_iff_ne]; omega
      rw [this]; rfl
    rw [ei, List.drop_succ_cons]
theorem take_ins {t r : List Int} {b y : Int} : ∀ {k : Nat}, y ∈ (t ++ b :: r).take (k + 1) → y ∈ t ∨ y = b ∨ y ∈ (t ++ r).take k := by
  induction t with
  | nil =>
    intro k h
    rw [List.nil_append, List.take_succ_cons] at h
    rcases List.mem_cons.mp h with q | q
    · exact .inr (.inl q)
    · exact .inr (.inr (by simpa using q))
  | cons c t ih =>
    intro k h
    rw [List.cons_append, List.take_succ_cons] at h
    rcases List.mem_cons.mp h with q | q
    · subst q; exact .inl List.mem_cons_self
    · cases k with
      | zero => simp at q
      | succ k =>
        rcases ih q with u | u | u
        · exact .inl (List.mem_cons_of_mem _ u)
        · exact .inr (.inl u)
        · exact .inr (.inr (by rw [List.cons_append, List.take_succ_cons]; exact List.mem_cons_of_mem _ u))
theorem take_del {t r : List Int} {b y : Int} : ∀ {k : Nat}, y ∈ (t ++ r).take k → y ∈ (t ++ b :: r).take (k + 1) := by
  induction t with
  | nil =>
    intro k h
    rw [List.nil_append, List.take_succ_cons]
    exact List.mem_cons_of_mem _ (by simpa using h)
  | cons c t ih =>
    intro k h
    cases k with
    | zero => simp at h
    | succ k =>
      rw [List.cons_append, List.take_succ_cons] at h ⊢
      rcases List.mem_cons.mp h with q | q
      · subst q; exact List.mem_cons_self
      · exact List.mem_cons_of_mem _ (ih q)
theorem least_del {b x : Int} {r : List Int} (hx : x < b) : ∀ (t : List Int) (m : Nat), (t ++ [b]).Pairwise (· ≤ ·) → m ≤ t.length + 1 + r.length → least m (t ++ b :: x :: r) = least m (t ++ x :: r)
  | _, 0, _, _ => rfl
  | [], m + 1, _, hm => by
    rw [List.nil_append, List.nil_append, least_cons _ _ _ (by simp at hm ⊢; omega), if_neg]
    intro h
    have := h x (by rw [List.length_cons, Nat.succ_sub (by simp at hm; omega), List.take_succ_cons]; exact List.mem_cons_self)
    omega
  | a :: t, m + 1, hs, hm => by
    rw [List.cons_append] at hs
    obtain ⟨ha, hs⟩ := List.pairwise_cons.mp hs
    have e1 : (t ++ b :: x :: r).length = t.length + 2 + r.length := by simp; omega
    have e2 : (t ++ x :: r).length = t.length + 1 + r.length := by simp; omega
    rw [List.length_cons] at hm
    rw [List.cons_append, List.cons_append, least_cons _ _ _ (by omega), least_cons _ _ _ (by omega), e1, e2]
    have ek : t.length + 2 + r.length - m = (t.length + 1 + r.length - m) + 1 := by omega
    rw [ek]
    by_cases h : ∀ y ∈ (t ++ x :: r).take (t.length + 1 + r.length - m), a ≤ y
    · rw [if_pos h, if_pos]
      · rw [least_del hx t m hs (by omega)]
      · intro y hy
        rcases take_ins hy with u | u | u
        · exact ha y (List.mem_append_left _ u)
        · exact ha y (List.mem_append_right _ (by simp [u]))
        · exact h y u
    · rw [if_neg h, if_neg fun q => h fun y hy => q y (take_del hy)]
      refine least_del hx t (m + 1) hs ?_
      rcases Nat.lt_or_ge m (r.length + 1) with q | q
      · omega
      · refine absurd (fun y hy => ?_) h
        have : (t ++ x :: r).take (t.length + 1 + r.length - m) = t.take (t.length + 1 + r.length - m) := by
          rw [List.take_append_of_le_length (by omega)]
        rw [this] at hy
        exact ha y (List.mem_append_left _ (List.mem_of_mem_take hy))
theorem least_sorted : ∀ (t : List Int) (m : Nat), t.Pairwise (· ≤ ·) → m ≤ t.length → least m t = t.take m
  | _, 0, _, _ => by simp [least]
  | [], m + 1, _, hm => by simp at hm
  | a :: t, m + 1, hs, hm => by
    obtain ⟨ha, hs⟩ := List.pairwise_cons.mp hs
    rw [least_cons _ _ _ (by simpa using hm), if_pos (fun y hy => ha y (List.mem_of_mem_take hy)), List.take_succ_cons, least_sorted t m hs (by simpa using hm)]
end Lf
namespace Lf
structure Stk (row told rest : List Int) (many spare : Nat) : Prop where
  up : spare = 0 ∨ told.Pairwise (· ≤ ·)
  len : told.length + rest.length = many + spare
  same : least many (told ++ rest) = least many row
theorem Stk.pop {row t rest : List Int} {b x : Int} {many spare : Nat} (S : Stk row (t ++ [b]) (x :: rest) many (spare + 1)) (h : x < b) : Stk row t (x :: rest) many spare := by
  obtain ⟨h1, h2, h3⟩ := S
  have hs : (t ++ [b]).Pairwise (· ≤ ·) := h1.resolve_left (by omega)
  refine ⟨.inr (List.pairwise_append.mp hs).1, by simp at h2 ⊢; omega, ?_⟩
  rw [← h3, List.append_assoc]
  exact (least_del h t many hs (by simp at h2; omega)).symm
theorem Stk.push {row told rest : List Int} {x : Int} {many spare : Nat} (S : Stk row told (x :: rest) many spare) (h : spare = 0 ∨ ∀ b, told.getLast? = some b → b ≤ x) : Stk row (told ++ [x]) rest many spare := by
  obtain ⟨h1, h2, h3⟩ := S
  refine ⟨?_, by simp at h2 ⊢; omega, by rw [List.append_assoc]; exact h3⟩
  rcases h1 with h1 | h1
  · exact .inl h1
  rcases h with h | h
  · exact .inl h
  refine .inr (List.pairwise_append.mpr ⟨h1, by simp, fun a ha y hy => ?_⟩)
  have e : y = x := by simpa using hy
  subst e
  have hne : told ≠ [] := List.ne_nil_of_mem ha
  have hb := h _ (List.getLast?_eq_some_getLast hne)
  rw [← List.dropLast_concat_getLast hne] at ha h1
  rcases List.mem_append.mp ha with q | q
  · have := (List.pairwise_append.mp h1).2.2 a q (told.getLast hne) (by simp)
    omega
  · have : a = told.getLast hne := by simpa using q
    omega
theorem Stk.done {row told : List Int} {many spare : Nat} (S : Stk row told [] many spare) : told.take many = least many row := by
  obtain ⟨h1, h2, h3⟩ := S
  rw [List.append_nil] at h3
  rw [List.length_nil] at h2
  rw [← h3]
  rcases h1 with h1 | h1
  · have e : told.length = many := by omega
    subst e
    rw [least_all, List.take_length]
  · exact (least_sorted told many h1 (by omega)).symm
end Lf
set_option maxRecDepth 100000
set_option maxHeartbeats 4000000
namespace L2
open PySem PySem.Spec PyProof.Rows
section
variable {σ : St} {H H' : Hp} {Q : VK} {D : Ends} {K : PySem.W.Frag} {X : Cx} {tg : Expr}
def Itd (hi : Int) (n : Nat) : It := ⟨fun i _ => i < n, fun i H x H' => H' = H ∧ x = .int (hi - i), fun i _ => n ≤ i⟩
def AtR3 (R : It → Hp → Prop) (vs : List V) (H1 : Hp) : Prop := ∃ i j : Int, vs = [.int i, .int j, .int (-1)] ∧ (-(2 ^ 60) ≤ i ∧ i < 2 ^ 60 ∧ -(2 ^ 60) ≤ j ∧ j < 2 ^ 60) ∧ R (Itd i (i - j).toNat) H1
def iRng3 (ta : TA) : TI := fun σ H R => ta σ H fun vs H1 => AtR3 R vs H1
theorem r_iRng3 {ta : TA} {R : It → Hp → Prop} (h : ta σ H fun vs H1 => AtR3 R vs H1) : iRng3 ta σ H R := h
theorem r_aug {i : Nat} {te : TE} {ti : TIp} {v : V} (e : σ[i]? = some (some v)) (h : te σ H fun y H1 => ti v y H1 fun z H2 => D.nx (σ.set i (some z)) H2) : tAug i te ti D σ H := ⟨v, e, h⟩
theorem r_ipI {f : Int → Int → Int} {i j : Int} (h : Q (.int (f i j)) H) : ipI f (.int i) (.int j) H Q := ⟨i, j, rfl, rfl, h⟩
theorem r_augS {to ti te : TE} {tget : V → V → Hp → VK → Prop} {tip : TIp} {tset : TSet} (h : to σ H fun o H1 => ti σ H1 fun i H2 => tget o i H2 fun x H3 => te σ H3 fun y H4 => tip x y H4 fun z H5 => tset o i z H5 fun H6 => D.nx σ H6) : tAugS to ti te tget tip tset D σ H := h
theorem r_while {c : TT} {tb : TS} (W : Nat → St → Hp → Prop) (m : Nat) (h0 : W m σ H) (hs : ∀ m σ H, W m σ H → c σ H fun b H1 => if b = true then ∃ N : St → Hp → Prop, (∀ σ' H', N σ' H' → ∃ m', m' < m ∧ W m' σ' H') ∧ tb { D with nx := N, ct := N, bk := D.nx } σ H1 else D.nx σ H1) : tWhile c tb D σ H := ⟨W, ⟨m, h0⟩, hs⟩
theorem r_turn {W : Nat → St → Hp → Prop} {m : Nat} {tb : TS} (h : tb { D with nx := fun σ' H' => ∃ m', m' < m ∧ W m' σ' H', ct := fun σ' H' => ∃ m', m' < m ∧ W m' σ' H', bk := D.nx } σ H) : ∃ N : St → Hp → Prop, (∀ σ' H', N σ' H' → ∃ m', m' < m ∧ W m' σ' H') ∧ tb { D with nx := N, ct := N, bk := D.nx } σ H := ⟨_, fun _ _ z => z, h⟩
end
end L2
set_option maxHeartbeats 4000000
namespace Lf
def bnds (one other : List Int) (tb : List (List Int)) (i j : Nat) : List Int :=
  [0] ++ (if 0 < i then [tg tb (i - 1) j] else []) ++ (if 0 < j then [tg tb i (j - 1)] else []) ++ (if 0 < i ∧ 0 < j ∧ one.getD (i - 1) 0 = other.getD (j - 1) 0 then [tg tb (i - 1) (j - 1) + 1] else [])
def lmax : List Int → Int
  | [] => 0
  | [x] => x
  | x :: y :: r => if lmax (y :: r) ≤ x then x else lmax (y :: r)
theorem lmax_le : ∀ (l : List Int), ∀ a ∈ l, a ≤ lmax l
  | [], a, h => by simp at h
  | [x], a, h => by simp at h; subst h; exact Int.le_refl _
  | x :: y :: r, a, h => by
    have ih := lmax_le (y :: r)
    rw [lmax]
    rcases List.mem_cons.mp h with e | h
    · subst e; split <;> omega
    · have := ih a h
      split <;> omega
theorem lmax_mem : ∀ (l : List Int), l ≠ [] → lmax l ∈ l
  | [], h => absurd rfl h
  | [x], _ => by simp [lmax]
  | x :: y :: r, _ => by
    have ih := lmax_mem (y :: r) (by simp)
    rw [lmax]
    split
    · simp
    · exact List.mem_cons_of_mem _ ih
def bnd (one other : List Int) (tb : List (List Int)) (i j : Nat) : Int := lmax (bnds one other tb i j)
theorem bnds_mem {one other : List Int} {tb : List (List Int)} {i j : Nat} {a : Int} : a ∈ bnds one other tb i j ↔ a = 0 ∨ (0 < i ∧ a = tg tb (i - 1) j) ∨ (0 < j ∧ a = tg tb i (j - 1)) ∨ (0 < i ∧ 0 < j ∧ one.getD (i - 1) 0 = other.getD (j - 1) 0 ∧ a = tg tb (i - 1) (j - 1) + 1) := by
  unfold bnds
  by_cases h1 : 0 < i <;> by_cases h2 : 0 < j <;> by_cases h3 : one.getD (i - 1) 0 = other.getD (j - 1) 0 <;> simp [h1, h2, h3, or_assoc]
theorem bnds_ne {one other : List Int} {tb : List (List Int)} {i j : Nat} : bnds one other tb i j ≠ [] := fun e => by
  have : (0 : Int) ∈ bnds one other tb i j := bnds_mem.mpr (.inl rfl)
  rw [e] at this
  simp at this
theorem bnd_mem {one other : List Int} {tb : List (List Int)} {i j : Nat} : bnd one other tb i j ∈ bnds one other tb i j := lmax_mem _ bnds_ne
theorem bnd_le {one other : List Int} {tb : List (List Int)} {i j : Nat} {a : Int} (h : a ∈ bnds one other tb i j) : a ≤ bnd one other tb i j := lmax_le _ a h
theorem bnd_same {one other : List Int} {tb tb' : List (List Int)} {i j : Nat} (h1 : 0 < i → tg tb (i - 1) j = tg tb' (i - 1) j) (h2 : 0 < j → tg tb i (j - 1) = tg tb' i (j - 1)) (h3 : 0 < i → 0 < j → tg tb (i - 1) (j - 1) = tg tb' (i - 1) (j - 1)) : bnd one other tb i j = bnd one other tb' i j := by
  unfold bnd
  congr 1
  unfold bnds
  by_cases q1 : 0 < i <;> by_cases q2 : 0 < j <;> simp [q1, q2]
  · simp [h1 q1, h2 q2, h3 q1 q2]
  · exact h1 q1
  · exact h2 q2
theorem tab_bnd {one other : List Int} {tb : List (List Int)} (h1 : tb.length = one.length + 1) (h2 : ∀ i, i ≤ one.length → (tb.getD i []).length = other.length + 1) :
    TabOk one other tb ↔ ∀ i j, i ≤ one.length → j ≤ other.length → bnd one other tb i j ≤ tg tb i j := by
  constructor
  · intro T i j hi hj
    rcases bnds_mem.mp (bnd_mem (one := one) (other := other) (tb := tb) (i := i) (j := j)) with q | ⟨q, e⟩ | ⟨q, e⟩ | ⟨q1, q2, q3, e⟩
    · rw [q]; exact tab_nonneg T _ i j rfl hi hj
    · rw [e]; exact (T.all i j hi hj).up q
    · rw [e]; exact (T.all i j hi hj).lf q
    · rw [e]; have := (T.all i j hi hj).dg q1 q2 q3; omega
  · intro h
    refine ⟨h1, ?_, h2, fun i j hi hj => ⟨fun q => ?_, fun q => ?_, fun q1 q2 q3 => ?_⟩⟩
    · exact Int.le_trans (bnd_le (bnds_mem.mpr (.inl rfl))) (h 0 0 (Nat.zero_le _) (Nat.zero_le _))
    · exact Int.le_trans (bnd_le (bnds_mem.mpr (.inr (.inl ⟨q, rfl⟩)))) (h i j hi hj)
    · exact Int.le_trans (bnd_le (bnds_mem.mpr (.inr (.inr (.inl ⟨q, rfl⟩))))) (h i j hi hj)
    · have := Int.le_trans (bnd_le (bnds_mem.mpr (.inr (.inr (.inr ⟨q1, q2, q3, rfl⟩))))) (h i j hi hj)
      omega
structure LT (one other : List Int) (tb : List (List Int)) : Prop where
  len : tb.length = one.length + 1
  lens : ∀ i, i ≤ one.length → (tb.getD i []).length = other.length + 1
  eq : ∀ i j, i ≤ one.length → j ≤ other.length → tg tb i j = bnd one other tb i j
theorem LT.ok {one other : List Int} {tb : List (List Int)} (L : LT one other tb) : TabOk one other tb := (tab_bnd L.len L.lens).mpr fun i j hi hj => Int.le_of_eq (L.eq i j hi hj).symm
theorem LT.zero {one other : List Int} {tb : List (List Int)} (L : LT one other tb) : ∀ (n i j : Nat), i + j = n → i ≤ one.length → j ≤ other.length → (i = 0 ∨ j = 0) → tg tb i j = 0
  | 0, i, j, hn, hi, hj, h => by
    have e1 : i = 0 := by omega
    have e2 : j = 0 := by omega
    subst e1; subst e2
    rw [L.eq 0 0 hi hj]
    rcases bnds_mem.mp (bnd_mem (one := one) (other := other) (tb := tb) (i := 0) (j := 0)) with q | ⟨q, e⟩ | ⟨q, e⟩ | ⟨q1, q2, q3, e⟩ <;> omega
  | n + 1, i, j, hn, hi, hj, h => by
    rw [L.eq i j hi hj]
    rcases bnds_mem.mp (bnd_mem (one := one) (other := other) (tb := tb) (i := i) (j := j)) with q | ⟨q, e⟩ | ⟨q, e⟩ | ⟨q1, q2, q3, e⟩
    · exact q
    · rw [e]; exact L.zero n (i - 1) j (by omega) (by omega) hj (by omega)
    · rw [e]; exact L.zero n i (j - 1) (by omega) hi (by omega) (by omega)
    · omega
theorem LT.pos {one other : List Int} {tb : List (List Int)} (L : LT one other tb) {i j : Nat} (hi : i ≤ one.length) (hj : j ≤ other.length) (h : 0 < tg tb i j) : 0 < i ∧ 0 < j := by
  constructor
  · rcases Nat.eq_zero_or_pos i with q | q
    · have := L.zero _ i j rfl hi hj (.inl q); omega
    · exact q
  · rcases Nat.eq_zero_or_pos j with q | q
    · have := L.zero _ i j rfl hi hj (.inr q); omega
    · exact q
structure AP (one other : List Int) (a b : Int) (ps : List (Int × Int)) : Prop where
  mine : rising a one.length (ps.map (·.1)) = true
  theirs : rising b other.length (ps.map (·.2)) = true
  alike : ∀ p ∈ ps, one.getD p.1.toNat 0 = other.getD p.2.toNat 0
theorem rising_low : ∀ (ps : List Int) (a a' c : Int), a' ≤ a → rising a c ps = true → rising a' c ps = true
  | [], _, _, _, _, _ => rfl
  | p :: ps, a, a', c, h, e => by
    rw [rising] at e ⊢
    simp only [Bool.and_eq_true, decide_eq_true_eq] at e ⊢
    exact ⟨⟨by omega, e.1.2⟩, e.2⟩
theorem AP.cons {one other : List Int} {ps : List (Int × Int)} {x y a b : Int} (A : AP one other x y ps) (h1 : a < x) (h2 : b < y) (h3 : x < one.length) (h4 : y < other.length) (h : one.getD x.toNat 0 = other.getD y.toNat 0) : AP one other a b ((x, y) :: ps) := by
  refine ⟨?_, ?_, fun p hp => ?_⟩
  · rw [List.map_cons, rising, decide_eq_true h1, decide_eq_true h3]
    exact A.mine
  · rw [List.map_cons, rising, decide_eq_true h2, decide_eq_true h4]
    exact A.theirs
  · rcases List.mem_cons.mp hp with e | e
    · subst e; exact h
    · exact A.alike p e
structure LTp (one other : List Int) (tb : List (List Int)) (i j : Nat) : Prop where
  len : tb.length = i + 1
  lens : ∀ k, k < i → (tb.getD k []).length = other.length + 1
  last : (tb.getD i []).length = j
  eq : ∀ k l, k ≤ i → (k < i → l ≤ other.length) → (k = i → l < j) → tg tb k l = bnd one other tb k l
theorem tg_set {tb : List (List Int)} {i k l : Nat} {line : List Int} (hi : i < tb.length) : tg (tb.set i line) k l = if k = i then line.getD l 0 else tg tb k l := by
  unfold tg
  by_cases h : k = i
  · subst h
    rw [if_pos rfl, set_getD hi]
  · rw [if_neg h]
    congr 1
    rw [List.getD_eq_getElem?_getD, List.getElem?_set_ne (fun z => h z.symm), ← List.getD_eq_getElem?_getD]
theorem getD_app {l : List Int} {v : Int} {k : Nat} : (l ++ [v]).getD k 0 = if k = l.length then v else l.getD k 0 := by
  by_cases h : k = l.length
  · subst h; rw [if_pos rfl]; simp
  · rw [if_neg h]
    rcases Nat.lt_or_ge k l.length with q | q
    · rw [List.getD_eq_getElem?_getD, List.getElem?_append_left q, ← List.getD_eq_getElem?_getD]
    · rw [List.getD_eq_getElem?_getD, List.getD_eq_getElem?_getD, List.getElem?_eq_none (by simp; omega), List.getElem?_eq_none q]
theorem LTp.step {one other : List Int} {tb : List (List Int)} {i j : Nat} (L : LTp one other tb i j) (hj : j ≤ other.length) : LTp one other (tb.set i (tb.getD i [] ++ [bnd one other tb i j])) i (j + 1) := by
  have hi : i < tb.length := by have := L.len; omega
  have e : ∀ k l, (k = i → l < j) → tg (tb.set i (tb.getD i [] ++ [bnd one other tb i j])) k l = tg tb k l := fun k l h => by
    rw [tg_set hi]
    by_cases q : k = i
    · rw [if_pos q, getD_app, if_neg (by have := h q; have := L.last; omega)]
      subst q; rfl
    · rw [if_neg q]
  refine ⟨by rw [List.length_set]; exact L.len, fun k hk => ?_, ?_, fun k l hk h1 h2 => ?_⟩
  · rw [List.getD_eq_getElem?_getD, List.getElem?_set_ne (by omega), ← List.getD_eq_getElem?_getD]
    exact L.lens k hk
  · rw [set_getD hi, List.length_append, L.last]; rfl
  · have eb : bnd one other (tb.set i (tb.getD i [] ++ [bnd one other tb i j])) k l = bnd one other tb k l := bnd_same (fun q => e _ _ (by omega)) (fun q => e _ _ (by omega)) (fun q q' => e _ _ (by omega))
    rw [eb]
    by_cases q : k = i ∧ l = j
    · obtain ⟨rfl, rfl⟩ := q
      rw [tg_set hi, if_pos rfl, getD_app, if_pos L.last.symm]
    · have h3 : k = i → l < j := fun z => by have := h2 z; omega
      rw [e k l h3]
      exact L.eq k l hk h1 h3
theorem LTp.line {one other : List Int} {tb : List (List Int)} {i : Nat} (L : LTp one other tb i (other.length + 1)) : LTp one other (tb ++ [[]]) (i + 1) 0 := by
  have g : ∀ k, k < tb.length → (tb ++ [[]]).getD k [] = tb.getD k [] := fun k hk => by
    rw [List.getD_eq_getElem?_getD, List.getElem?_append_left hk, ← List.getD_eq_getElem?_getD]
  have e : ∀ k l, k ≤ i → tg (tb ++ [[]]) k l = tg tb k l := fun k l hk => by
    unfold tg
    rw [g k (by have := L.len; omega)]
  refine ⟨by rw [List.length_append, L.len]; rfl, fun k hk => ?_, ?_, fun k l hk h1 h2 => ?_⟩
  · rw [g k (by have := L.len; omega)]
    rcases Nat.lt_or_ge k i with q | q
    · exact L.lens k q
    · have : k = i := by omega
      subst this
      exact L.last
  · rw [List.getD_eq_getElem?_getD, List.getElem?_append_right (by have := L.len; omega), L.len]
    simp
  · have hk' : k ≤ i := by
      rcases Nat.lt_or_ge k (i + 1) with q | q
      · omega
      · have := h2 (by omega); omega
    have eb : bnd one other (tb ++ [[]]) k l = bnd one other tb k l := bnd_same (fun q => e _ _ (by omega)) (fun q => e _ _ (by omega)) (fun q q' => e _ _ (by omega))
    rw [eb, e k l hk']
    exact L.eq k l hk' (fun q => h1 (by omega)) fun q => by have := h1 (by omega); omega
theorem LTp.start (one other : List Int) : LTp one other [[]] 0 0 := ⟨rfl, fun k hk => by omega, rfl, fun k l hk h1 h2 => by have := h2 (by omega); omega⟩
theorem LTp.done {one other : List Int} {tb : List (List Int)} (L : LTp one other tb one.length (other.length + 1)) : LT one other tb := by
  refine ⟨L.len, fun i hi => ?_, fun i j hi hj => L.eq i j hi (fun _ => hj) fun _ => by omega⟩
  rcases Nat.lt_or_ge i one.length with q | q
  · exact L.lens i q
  · have : i = one.length := by omega
    subst this
    exact L.last
end Lf
set_option maxHeartbeats 4000000
namespace Lf
theorem rising_more : ∀ (ps : List Int) (a c c' : Int), c ≤ c' → rising a c ps = true → rising a c' ps = true
  | [], _, _, _, _, _ => rfl
  | p :: ps, a, c, c', h, e => by
    rw [rising] at e ⊢
    simp only [Bool.and_eq_true, decide_eq_true_eq] at e ⊢
    exact ⟨⟨e.1.1, by omega⟩, rising_more ps p c c' h e.2⟩
theorem rising_snoc : ∀ (ps : List Int) (a c x : Int), rising a c ps = true → a < x → (∀ p ∈ ps, p < x) → x < c → rising a c (ps ++ [x]) = true
  | [], a, c, x, _, h1, _, h2 => by
    rw [List.nil_append, rising, decide_eq_true h1, decide_eq_true h2]; rfl
  | p :: ps, a, c, x, e, h1, h3, h2 => by
    rw [List.cons_append, rising] at *
    simp only [Bool.and_eq_true, decide_eq_true_eq] at e ⊢
    exact ⟨e.1, rising_snoc ps p c x e.2 (h3 p List.mem_cons_self) (fun q hq => h3 q (List.mem_cons_of_mem _ hq)) h2⟩
def upTo (r k : Nat) : List Int := (List.range k).map fun i : Nat => (r : Int) + i
theorem upTo_len (r k : Nat) : (upTo r k).length = k := by unfold upTo; simp
theorem upTo_succ (r k : Nat) : upTo r (k + 1) = upTo r k ++ [(r : Int) + k] := by
  unfold upTo; rw [List.range_succ, List.map_append]; rfl
theorem upTo_mem {r k : Nat} {p : Int} (h : p ∈ upTo r k) : (r : Int) ≤ p ∧ p < (r : Int) + k := by
  unfold upTo at h
  obtain ⟨i, hi, rfl⟩ := List.mem_map.mp h
  have := List.mem_range.mp hi
  omega
theorem rising_upTo (ps : List Int) (r : Nat) (h : rising (-1) r ps = true) : ∀ k : Nat, rising (-1) ((r : Int) + k) (ps ++ upTo r k) = true
  | 0 => by
    have : upTo r 0 = [] := rfl
    rw [this, List.append_nil]
    exact rising_more _ _ _ _ (by omega) h
  | k + 1 => by
    rw [upTo_succ, ← List.append_assoc]
    refine rising_snoc _ _ _ _ (rising_more _ _ _ _ (by omega) (rising_upTo ps r h k)) (by omega) (fun p hp => ?_) (by omega)
    rcases List.mem_append.mp hp with q | q
    · have := rising_in _ _ _ h p q; omega
    · have := upTo_mem q; omega
theorem picks_app {row seg ps : List Int} (h : ∀ p ∈ ps, 0 ≤ p ∧ p < (row.length : Int)) : picks (row ++ seg) ps = picks row ps := by
  unfold picks
  refine List.map_congr_left fun p hp => ?_
  have := h p hp
  rw [List.getD_eq_getElem?_getD, List.getElem?_append_left (by omega), ← List.getD_eq_getElem?_getD]
theorem picks_upTo (row seg : List Int) : picks (row ++ seg) (upTo row.length seg.length) = seg := by
  unfold picks upTo
  rw [List.map_map]
  refine List.ext_getElem (by simp) fun i h1 h2 => ?_
  rw [List.getElem_map, List.getElem_range]
  show (row ++ seg).getD ((row.length : Int) + (i : Int)).toNat 0 = seg[i]
  rw [show ((row.length : Int) + (i : Int)).toNat = row.length + i by omega, List.getD_eq_getElem?_getD, List.getElem?_append_right (by omega), Nat.add_sub_cancel_left, List.getElem?_eq_getElem h2]
  rfl
theorem picks_append (row ps qs : List Int) : picks row (ps ++ qs) = picks row ps ++ picks row qs := by unfold picks; rw [List.map_append]
structure Sh (one other row mine theirs : List Int) (m n c : Nat) : Prop where
  lm : mine.length = m
  ln : theirs.length = n
  rm : rising (-1) row.length mine = true
  rn : rising (-1) row.length theirs = true
  pm : picks row mine = one.take m
  pn : picks row theirs = other.take n
  len : row.length + c = m + n
theorem seg_len {l : List Int} {m m' : Nat} (h1 : m ≤ m') (h2 : m' ≤ l.length) : ((l.drop m).take (m' - m)).length = m' - m := by
  rw [List.length_take, List.length_drop]; omega
theorem take_seg {l : List Int} {m m' : Nat} (h1 : m ≤ m') : l.take m ++ (l.drop m).take (m' - m) = l.take m' := by
  have := List.take_add (l := l) (i := m) (j := m' - m)
  rw [show m + (m' - m) = m' by omega] at this
  exact this.symm
theorem Sh.mine {one other row mine theirs : List Int} {m n c m' : Nat} (S : Sh one other row mine theirs m n c) (h1 : m ≤ m') (h2 : m' ≤ one.length) : Sh one other (row ++ (one.drop m).take (m' - m)) (mine ++ upTo row.length (m' - m)) theirs m' n c := by
  have sl := seg_len h1 h2
  have inm : ∀ p ∈ mine, 0 ≤ p ∧ p < (row.length : Int) := fun p hp => by have := rising_in _ _ _ S.rm p hp; omega
  have inn : ∀ p ∈ theirs, 0 ≤ p ∧ p < (row.length : Int) := fun p hp => by have := rising_in _ _ _ S.rn p hp; omega
  have rl : (((row ++ (one.drop m).take (m' - m)).length : Nat) : Int) = (row.length : Int) + ((m' - m : Nat) : Int) := by rw [List.length_append, sl]; omega
  refine ⟨by rw [List.length_append, S.lm, upTo_len]; omega, S.ln, ?_, ?_, ?_, ?_, ?_⟩
  · rw [rl]; exact rising_upTo _ _ S.rm _
  · rw [rl]; exact rising_more _ _ _ _ (by omega) S.rn
  · rw [picks_append, picks_app inm, S.pm]
    conv => lhs; rw [← sl]
    rw [sl]
    have := picks_upTo row ((one.drop m).take (m' - m))
    rw [sl] at this
    rw [this, take_seg h1]
  · rw [picks_app inn, S.pn]
  · rw [List.length_append, sl]; have := S.len; omega
theorem Sh.theirs {one other row mine theirs : List Int} {m n c n' : Nat} (S : Sh one other row mine theirs m n c) (h1 : n ≤ n') (h2 : n' ≤ other.length) : Sh one other (row ++ (other.drop n).take (n' - n)) mine (theirs ++ upTo row.length (n' - n)) m n' c := by
  have S' : Sh other one row theirs mine n m c := ⟨S.ln, S.lm, S.rn, S.rm, S.pn, S.pm, by have := S.len; omega⟩
  have T := S'.mine h1 h2
  exact ⟨T.ln, T.lm, T.rn, T.rm, T.pn, T.pm, by have := T.len; omega⟩
theorem Sh.pair {one other row mine theirs : List Int} {i j c : Nat} {m : Nat} (S : Sh one other row mine theirs m j c) (h1 : m ≤ i) (h2 : i < one.length) (h3 : j < other.length) (h : one.getD i 0 = other.getD j 0) :
    Sh one other (row ++ (one.drop m).take (i + 1 - m)) (mine ++ upTo row.length (i + 1 - m)) (theirs ++ [((row.length + (i - m) : Nat) : Int)]) (i + 1) (j + 1) (c + 1) := by
  have T := S.mine (m' := i + 1) (by omega) (by omega)
  have sl := seg_len (l := one) (m := m) (m' := i + 1) (by omega) (by omega)
  have inn : ∀ p ∈ theirs, 0 ≤ p ∧ p < (row.length : Int) := fun p hp => by have := rising_in _ _ _ S.rn p hp; omega
  refine ⟨T.lm, by rw [List.length_append, T.ln]; rfl, T.rm, ?_, T.pm, ?_, by have := T.len; omega⟩
  · refine rising_snoc _ _ _ _ T.rn (by omega) (fun p hp => ?_) ?_
    · have := inn p hp; omega
    · rw [List.length_append, sl]; omega
  · rw [picks_append, T.pn]
    have : picks (row ++ (one.drop m).take (i + 1 - m)) [((row.length + (i - m) : Nat) : Int)] = [other.getD j 0] := by
      unfold picks
      rw [List.map_singleton, Int.toNat_natCast, List.getD_eq_getElem?_getD, List.getElem?_append_right (by omega), Nat.add_sub_cancel_left, List.getElem?_take_of_lt (by omega), List.getElem?_drop, show m + (i - m) = i by omega, ← List.getD_eq_getElem?_getD, h]
    rw [this]
    have := List.take_succ_eq_append_getElem h3
    rw [this, List.getD_eq_getElem?_getD, List.getElem?_eq_getElem h3]
    rfl
theorem Sh.start (one other : List Int) : Sh one other [] [] [] 0 0 0 := ⟨rfl, rfl, rfl, rfl, by simp [picks], by simp [picks], rfl⟩
end Lf
set_option maxRecDepth 100000
set_option maxHeartbeats 4000000
namespace L2
open PySem PySem.Spec PyProof.Rows
section
variable {σ : St} {H H' : Hp} {Q : VK} {D : Ends} {K : PySem.W.Frag} {X : Cx}
theorem Tab.snoc {t l : Addr} {ls : List Addr} {tb : List (List Int)} {line : List Int} (T : Tab H t ls tb) (hl : H l = some (.lst (line.map V.int))) (tl : t ≠ l) (tls : t ∉ ls) : Tab (upd H t (.lst (ls.map V.ref ++ [.ref l]))) t (ls ++ [l]) (tb ++ [line]) := by
  refine ⟨by rw [upd_same, List.map_append]; rfl, by rw [List.length_append, List.length_append, T.len]; rfl, fun i a ha => ?_⟩
  rcases Nat.lt_or_ge i ls.length with q | q
  · rw [List.getElem?_append_left q] at ha
    have at' : a ≠ t := fun z => tls (z ▸ List.mem_of_getElem? ha)
    have i2 : i < tb.length := by rw [← T.len]; exact q
    rw [upd_ne at', List.getD_eq_getElem?_getD, List.getElem?_append_left i2, ← List.getD_eq_getElem?_getD]
    exact T.row i a ha
  · have hn : i = ls.length := by
      have := (List.getElem?_eq_some_iff.mp ha).1
      rw [List.length_append, List.length_singleton] at this
      omega
    subst hn
    rw [List.getElem?_append_right (Nat.le_refl _), Nat.sub_self] at ha
    have : a = l := by simpa using ha.symm
    subst this
    rw [upd_ne (Ne.symm tl), List.getD_eq_getElem?_getD, T.len, List.getElem?_append_right (Nat.le_refl _), Nat.sub_self]
    exact hl
end
end L2
set_option maxRecDepth 100000
set_option maxHeartbeats 4000000
set_option maxRecDepth 100000
set_option maxHeartbeats 4000000
set_option maxRecDepth 100000
set_option maxHeartbeats 4000000
set_option maxRecDepth 100000
set_option maxHeartbeats 4000000
namespace PySem
open Sem (wp)
section
variable {prog : Program} {w : World} {A : Around} {E : Value → Shared → Prop} {s : Shared}
def Heap.DictRaw (h : Heap) (d : Addr) (es : Array DictEntry) (ep : Nat) : Prop := ∃ o, h.get? d = some o ∧ o.ExactDict ∧ o.data = .dict es ep
theorem Heap.DictRaw.ty {d : Addr} {es : Array DictEntry} {ep : Nat} (x : s.heap.DictRaw d es ep) : s.TypeIs (.ref d) "dict" := let ⟨o, ho, hc, _⟩ := x; ⟨o, ho, hc.1⟩
theorem Heap.DictRaw.to {h h' : Heap} {d : Addr} {es : Array DictEntry} {ep : Nat} (x : h.DictRaw d es ep) (e : ∀ o, h.get? d = some o → h'.get? d = some o) : h'.DictRaw d es ep := let ⟨o, ho, r⟩ := x; ⟨o, e o ho, r⟩
end
end PySem
set_option maxRecDepth 100000
set_option maxHeartbeats 4000000
namespace L2
open PySem PySem.Spec PyProof.Rows
section
variable {X : Cx} {σ : St} {H H' : Hp} {Q : VK} {D : Ends} {K : PySem.W.Frag} {tg : Expr} {pos : Pos}
theorem KT.get {kvs : List (List Key × V)} {ys : List (List Key × Addr × Value)} (r : KT H kvs ys) : ∀ {i : Nat} {kv : List Key × V}, kvs[i]? = some kv → ∃ y, ys[i]? = some y ∧ kv.1 = y.1 ∧ H y.2.1 = some (.tup (kv.1.map kV)) := by
  induction r with
  | nil => intro i kv h; simp at h
  | @cons p q ps qs hq t ih =>
    intro i kv h
    cases i with
    | zero => exact ⟨q, rfl, by simp at h; subst h; exact ⟨hq.1, hq.2.1⟩⟩
    | succ i => simpa using ih (i := i) (kv := kv) (by simpa using h)
def Itk (d : Addr) (o : Obj) (kvs : List (List Key × V)) : It :=
  ⟨fun i H => H d = some (.frz o (.dT kvs)) ∧ i < kvs.length, fun i H x H' => H' = H ∧ ∃ t kv, x = .ref t ∧ kvs[i]? = some kv ∧ H t = some (.tup (kv.1.map kV)), fun i H => H d = some (.frz o (.dT kvs)) ∧ kvs.length ≤ i⟩
def AtK (R : It → Hp → Prop) (x : V) (H1 : Hp) : Prop := ∃ d kvs, x = .ref d ∧ H1 d = some (.dT kvs) ∧ ∀ o, R (Itk d o kvs) (upd H1 d (.frz o (.dT kvs)))
def iKeys (tl : TE) : TI := fun σ H R => tl σ H fun x H1 => AtK R x H1
theorem r_iKeys {tl : TE} {R : It → Hp → Prop} (h : tl σ H fun x H1 => AtK R x H1) : iKeys tl σ H R := h
end
end L2
set_option maxHeartbeats 4000000
namespace Lf
def nexts (row one other : List Int) (p : Int × Int) : List (Int × Int) :=
  (if p.1 < (one.length : Int) ∧ one.getD p.1.toNat 0 = row.getD (p.1 + p.2).toNat 0 then [(p.1 + 1, p.2)] else []) ++
  (if p.2 < (other.length : Int) ∧ other.getD p.2.toNat 0 = row.getD (p.1 + p.2).toNat 0 then [(p.1, p.2 + 1)] else [])
structure Box (one other : List Int) (p : Int × Int) : Prop where
  i0 : 0 ≤ p.1
  i1 : p.1 ≤ (one.length : Int)
  j0 : 0 ≤ p.2
  j1 : p.2 ≤ (other.length : Int)
theorem nexts_mem {row one other : List Int} {p q : Int × Int} : q ∈ nexts row one other p ↔ (p.1 < (one.length : Int) ∧ one.getD p.1.toNat 0 = row.getD (p.1 + p.2).toNat 0 ∧ q = (p.1 + 1, p.2)) ∨ (p.2 < (other.length : Int) ∧ other.getD p.2.toNat 0 = row.getD (p.1 + p.2).toNat 0 ∧ q = (p.1, p.2 + 1)) := by
  unfold nexts
  rw [List.mem_append]
  refine or_congr ?_ ?_
  · split
    · next h => simp only [List.mem_singleton]; exact ⟨fun e => ⟨h.1, h.2, e⟩, fun e => e.2.2⟩
    · next h => simp only [List.not_mem_nil, false_iff]; exact fun e => h ⟨e.1, e.2.1⟩
  · split
    · next h => simp only [List.mem_singleton]; exact ⟨fun e => ⟨h.1, h.2, e⟩, fun e => e.2.2⟩
    · next h => simp only [List.not_mem_nil, false_iff]; exact fun e => h ⟨e.1, e.2.1⟩
structure Bfs (row one other : List Int) (ps : List (Int × Int)) (par : Int × Int → Option (Int × Int)) (gone : Nat) : Prop where
  nodup : ps.Nodup
  box : ∀ p ∈ ps, Box one other p
  zero : ((0, 0) : Int × Int) ∈ ps
  keys : ∀ p, (par p).isSome = true ↔ p ∈ ps
  step : ∀ p q, par p = some q → p ≠ (0, 0) → q ∈ ps ∧ p ∈ nexts row one other q
  done : ∀ k, k < gone → ∀ q ∈ nexts row one other (ps.getD k (0, 0)), q ∈ ps
def boxes (a b : Nat) : List (Int × Int) := ((List.range a).map fun i : Nat => (List.range b).map fun j : Nat => ((i : Int), (j : Int))).flatten
theorem boxes_len (b : Nat) : ∀ a, (boxes a b).length = a * b
  | 0 => by simp [boxes]
  | a + 1 => by
    have ih := boxes_len b a
    unfold boxes at ih ⊢
    rw [List.range_succ, List.map_append, List.flatten_append, List.length_append, ih, Nat.succ_mul]
    simp
theorem Bfs.len {row one other : List Int} {ps : List (Int × Int)} {par : Int × Int → Option (Int × Int)} {gone : Nat} (B : Bfs row one other ps par gone) : ps.length ≤ (one.length + 1) * (other.length + 1) := by
  rw [← boxes_len]
  refine len_le_of_sub _ _ B.nodup fun p hp => ?_
  obtain ⟨b1, b2, b3, b4⟩ := B.box p hp
  unfold boxes
  rw [List.mem_flatten]
  refine ⟨_, List.mem_map.mpr ⟨p.1.toNat, List.mem_range.mpr (by omega), rfl⟩, List.mem_map.mpr ⟨p.2.toNat, List.mem_range.mpr (by omega), ?_⟩⟩
  rw [Int.toNat_of_nonneg b1, Int.toNat_of_nonneg b3]
theorem Bfs.un {row one other : List Int} {ps : List (Int × Int)} {par : Int × Int → Option (Int × Int)} (B : Bfs row one other ps par ps.length) (hl : row.length = one.length + other.length) (hn : ((one.length : Int), (other.length : Int)) ∉ ps) : UnOk row one other ps := by
  refine ⟨hl, B.zero, hn, fun p hp => ?_⟩
  obtain ⟨b1, b2, b3, b4⟩ := B.box p hp
  obtain ⟨k, hk, e⟩ := List.mem_iff_getElem.mp hp
  have d := B.done k hk
  rw [List.getD_eq_getElem?_getD, List.getElem?_eq_getElem hk] at d
  have d : ∀ q ∈ nexts row one other p, q ∈ ps := by rw [← e]; exact d
  exact ⟨b1, b2, b3, b4, fun h1 h2 => d _ (nexts_mem.mpr (.inl ⟨h1, h2, rfl⟩)), fun h1 h2 => d _ (nexts_mem.mpr (.inr ⟨h1, h2, rfl⟩))⟩
theorem Bfs.start (row one other : List Int) : Bfs row one other [(0, 0)] (fun p => if p = (0, 0) then some (0, 0) else none) 0 := by
  refine ⟨by simp, fun p hp => ?_, by simp, fun p => ?_, fun p q h hn => ?_, fun k hk => by omega⟩
  · have : p = (0, 0) := by simpa using hp
    subst this
    exact ⟨by show (0 : Int) ≤ 0; omega, by show (0 : Int) ≤ _; omega, by show (0 : Int) ≤ 0; omega, by show (0 : Int) ≤ _; omega⟩
  · by_cases h : p = (0, 0) <;> simp [h]
  · rw [if_neg hn] at h; cases h
structure BfsIn (row one other : List Int) (ps : List (Int × Int)) (par : Int × Int → Option (Int × Int)) (gone : Nat) (pair : Int × Int) (k : Nat) : Prop where
  b : Bfs row one other ps par gone
  here : ps.getD gone (0, 0) = pair
  lt : gone < ps.length
  fst : ∀ q ∈ (nexts row one other pair).take k, q ∈ ps
theorem BfsIn.skip {row one other : List Int} {ps : List (Int × Int)} {par : Int × Int → Option (Int × Int)} {gone k : Nat} {pair q : Int × Int} (B : BfsIn row one other ps par gone pair k) (hq : (nexts row one other pair)[k]? = some q) (h : q ∈ ps) : BfsIn row one other ps par gone pair (k + 1) := by
  obtain ⟨hk, e⟩ := List.getElem?_eq_some_iff.mp hq
  refine ⟨B.b, B.here, B.lt, fun p hp => ?_⟩
  rw [List.take_succ_eq_append_getElem hk, e] at hp
  rcases List.mem_append.mp hp with z | z
  · exact B.fst p z
  · have : p = q := by simpa using z
    rw [this]; exact h
theorem BfsIn.turn {row one other : List Int} {ps : List (Int × Int)} {par : Int × Int → Option (Int × Int)} {gone k : Nat} {pair : Int × Int} (B : BfsIn row one other ps par gone pair k) (hk : (nexts row one other pair).length ≤ k) : Bfs row one other ps par (gone + 1) := by
  refine ⟨B.b.nodup, B.b.box, B.b.zero, B.b.keys, B.b.step, fun i hi q hq => ?_⟩
  rcases Nat.lt_or_ge i gone with z | z
  · exact B.b.done i z q hq
  · have : i = gone := by omega
    subst this
    rw [B.here] at hq
    refine B.fst q ?_
    rw [List.take_of_length_le hk]
    exact hq
structure Wy (row one other : List Int) (i j : Nat) (P : List Int) : Prop where
  up : rising ((i : Int) + j - 1) row.length P = true
  at_ : picks row P = one.drop i
  oth : ((row.zipIdx.drop (i + j)).filter fun y => !decide ((y.2 : Int) ∈ P)).map (fun y => y.1) = other.drop j
theorem zip_drop {row : List Int} {k : Nat} (h : k < row.length) : row.zipIdx.drop k = (row.getD k 0, k) :: row.zipIdx.drop (k + 1) := by
  rw [List.drop_eq_getElem_cons (by rw [List.length_zipIdx]; exact h), List.getElem_zipIdx, List.getD_eq_getElem?_getD, List.getElem?_eq_getElem h]
  simp
theorem zip_ge {row : List Int} {k : Nat} {y : Int × Nat} (h : y ∈ row.zipIdx.drop k) : k ≤ y.2 := by
  obtain ⟨n, hn, e⟩ := List.mem_iff_getElem.mp h
  rw [List.getElem_drop, List.getElem_zipIdx] at e
  rw [← e]
  show k ≤ 0 + (k + n)
  omega
theorem Wy.start {row one other : List Int} (hl : row.length = one.length + other.length) : Wy row one other one.length other.length [] := by
  refine ⟨rfl, by simp [picks], ?_⟩
  rw [List.drop_of_length_le (by rw [List.length_zipIdx]; omega)]
  simp
theorem getD_drop {l : List Int} {i : Nat} (h : i < l.length) : l.drop i = l.getD i 0 :: l.drop (i + 1) := by
  rw [List.drop_eq_getElem_cons h, List.getD_eq_getElem?_getD, List.getElem?_eq_getElem h]; rfl
theorem Wy.left {row one other P : List Int} {i j : Nat} (W : Wy row one other (i + 1) j P) (hi : i < one.length) (hr : i + j < row.length) (h : one.getD i 0 = row.getD (i + j) 0) : Wy row one other i j (((i + j : Nat) : Int) :: P) := by
  obtain ⟨w1, w2, w3⟩ := W
  refine ⟨?_, ?_, ?_⟩
  · rw [rising, decide_eq_true (by omega), decide_eq_true (by omega)]
    have : ((i + 1 : Nat) : Int) + (j : Int) - 1 = ((i + j : Nat) : Int) := by omega
    rw [this] at w1
    exact w1
  · unfold picks at w2 ⊢
    rw [List.map_cons, w2, Int.toNat_natCast, getD_drop hi, h]
  · rw [zip_drop hr, List.filter_cons]
    have e : (!decide ((((row.getD (i + j) 0, i + j) : Int × Nat).2 : Int) ∈ ((i + j : Nat) : Int) :: P)) = false := by
      simp
    rw [e, if_neg (by decide), ← w3, show i + 1 + j = i + j + 1 by omega]
    congr 1
    refine List.filter_congr fun y hy => ?_
    have := zip_ge hy
    have ne : ¬ (y.2 : Int) = ((i + j : Nat) : Int) := by omega
    simp only [List.mem_cons, ne, false_or]
theorem Wy.right {row one other P : List Int} {i j : Nat} (W : Wy row one other i (j + 1) P) (hj : j < other.length) (hr : i + j < row.length) (h : other.getD j 0 = row.getD (i + j) 0) : Wy row one other i j P := by
  obtain ⟨w1, w2, w3⟩ := W
  refine ⟨rising_low _ _ _ _ (by omega) w1, w2, ?_⟩
  rw [zip_drop hr, List.filter_cons]
  have e : (!decide ((((row.getD (i + j) 0, i + j) : Int × Nat).2 : Int) ∈ P)) = true := by
    rw [Bool.not_eq_true', decide_eq_false_iff_not]
    intro m
    have := rising_in P _ _ w1 _ m
    simp at this
    omega
  rw [e, if_pos rfl, List.map_cons, show i + j + 1 = i + (j + 1) by omega, w3, getD_drop hj, h]
end Lf
set_option maxHeartbeats 4000000
namespace Lf
def dd : List Int → List Int
  | [] => []
  | x :: r => x :: (dd r).filter fun y => decide (y ≠ x)
theorem dd_mem : ∀ (l : List Int) (a : Int), a ∈ dd l ↔ a ∈ l
  | [], a => by simp [dd]
  | x :: r, a => by
    rw [dd, List.mem_cons, List.mem_cons, List.mem_filter, dd_mem r a]
    by_cases h : a = x <;> simp [h]
theorem dd_nodup : ∀ l : List Int, (dd l).Nodup
  | [] => by simp [dd]
  | x :: r => by
    rw [dd, List.nodup_cons]
    refine ⟨fun h => ?_, (dd_nodup r).filter _⟩
    have := (List.mem_filter.mp h).2
    simp at this
def isKind (kinds x : Int) : Bool := decide (0 ≤ x ∧ x < kinds)
def kindsIn (kinds : Int) (l : List Int) : Nat := (dd (l.filter (isKind kinds))).length
theorem kindsIn_of {kinds : Int} {l m : List Int} (h1 : m.Nodup) (h2 : ∀ a, a ∈ m ↔ a ∈ l ∧ isKind kinds a = true) : m.length = kindsIn kinds l := by
  unfold kindsIn
  refine len_eq_of_same h1 (dd_nodup _) fun a => ?_
  rw [h2, dd_mem, List.mem_filter]
def range0 (n : Nat) : List Int := (List.range n).map fun i : Nat => (i : Int)
theorem range0_mem {n : Nat} {a : Int} : a ∈ range0 n ↔ 0 ≤ a ∧ a < (n : Int) := by
  unfold range0
  rw [List.mem_map]
  constructor
  · rintro ⟨i, hi, rfl⟩
    have := List.mem_range.mp hi
    omega
  · rintro ⟨h1, h2⟩
    exact ⟨a.toNat, List.mem_range.mpr (by omega), by omega⟩
theorem range0_nodup (n : Nat) : (range0 n).Nodup := by
  unfold range0
  refine List.pairwise_map.mpr (List.nodup_range.imp fun {a b} h e => h ?_)
  omega
theorem range0_len (n : Nat) : (range0 n).length = n := by unfold range0; simp
theorem full_iff {kinds : Int} (hk : 0 ≤ kinds) (l : List Int) : (kindsIn kinds l : Int) = kinds ↔ ∀ x, 0 ≤ x → x < kinds → x ∈ l := by
  have hn : kinds = (kinds.toNat : Int) := by omega
  constructor
  · intro h x h1 h2
    -- else one fewer
    refine Classical.byContradiction fun hx => ?_
    have sub : ∀ a ∈ dd (l.filter (isKind kinds)), a ∈ (range0 kinds.toNat).filter fun y => decide (y ≠ x) := fun a ha => by
      rw [dd_mem, List.mem_filter] at ha
      have k := of_decide_eq_true ha.2
      rw [List.mem_filter, range0_mem]
      refine ⟨⟨k.1, by omega⟩, decide_eq_true fun e => hx (e ▸ ha.1)⟩
    have le := len_le_of_sub _ _ (dd_nodup _) sub
    have lt : ((range0 kinds.toNat).filter fun y => decide (y ≠ x)).length < (range0 kinds.toNat).length := by
      have sp := filt_split (fun y : Int => decide (y ≠ x)) (range0 kinds.toNat)
      have pos : 0 < ((range0 kinds.toNat).filter fun a => !decide (a ≠ x)).length := by
        refine List.length_pos_of_mem (a := x) ?_
        rw [List.mem_filter, range0_mem]
        refine ⟨⟨h1, by omega⟩, by simp⟩
      omega
    rw [range0_len] at lt
    unfold kindsIn at h
    omega
  · intro h
    have : kindsIn kinds l = kinds.toNat := by
      rw [← range0_len kinds.toNat]
      refine (kindsIn_of (range0_nodup _) fun a => ?_).symm
      rw [range0_mem]
      unfold isKind
      rw [decide_eq_true_eq]
      constructor
      · rintro ⟨h1, h2⟩
        exact ⟨h a h1 (by omega), h1, by omega⟩
      · rintro ⟨_, h1, h2⟩
        exact ⟨h1, by omega⟩
    omega
def CutsOk (row : List Int) (kinds : Int) : Int → List Int → Prop
  | _, [] => True
  | b, e :: r => b < e ∧ e ≤ (row.length : Int) ∧ (kindsIn kinds (cut row b e) : Int) = kinds ∧ CutsOk row kinds e r
structure MiOk (row : List Int) (kinds : Int) (cuts word : List Int) : Prop where
  len : word.length = cuts.length + 1
  kin : ∀ s ∈ word, 0 ≤ s ∧ s < kinds
  gone : isLeft row word = false
  cuts : CutsOk row kinds 0 cuts
noncomputable def missed (row : List Int) (kinds : Int) (cuts word : List Int) : Bool := @decide (MiOk row kinds cuts word) (Classical.propDecidable _)
theorem missed_true {row : List Int} {kinds : Int} {cuts word : List Int} (h : MiOk row kinds cuts word) : missed row kinds cuts word = true := by
  unfold missed
  exact @decide_eq_true _ (Classical.propDecidable _) h
theorem missed_false {row : List Int} {kinds : Int} {cuts word : List Int} (h : ¬ MiOk row kinds cuts word) : missed row kinds cuts word = false := by
  unfold missed
  exact @decide_eq_false _ (Classical.propDecidable _) h
theorem missed_iff {row : List Int} {kinds : Int} {cuts word : List Int} : missed row kinds cuts word = true ↔ MiOk row kinds cuts word := by
  refine ⟨fun h => ?_, missed_true⟩
  rcases Classical.em (MiOk row kinds cuts word) with q | q
  · exact q
  · rw [missed_false q] at h
    cases h
theorem cuts_left {row : List Int} {kinds : Int} (hk : 0 ≤ kinds) : ∀ (cuts word : List Int) (b : Int), 0 ≤ b → CutsOk row kinds b cuts → word.length ≤ cuts.length → (∀ s ∈ word, 0 ≤ s ∧ s < kinds) → word.Sublist (row.drop b.toNat)
  | _, [], _, _, _, _, _ => List.nil_sublist _
  | [], x :: w, _, _, _, h, _ => by simp at h
  | e :: r, x :: w, b, hb, hc, hl, hw => by
    obtain ⟨c1, c2, c3, c4⟩ := hc
    have ih := cuts_left hk r w e (by omega) c4 (by simpa using hl) fun s hs => hw s (List.mem_cons_of_mem _ hs)
    have hx := hw x List.mem_cons_self
    have m := (full_iff hk _).mp c3 x hx.1 hx.2
    have es : row.drop b.toNat = cut row b e ++ row.drop e.toNat := by
      unfold cut
      have := List.take_append_drop (e.toNat - b.toNat) (row.drop b.toNat)
      rw [List.drop_drop, show b.toNat + (e.toNat - b.toNat) = e.toNat by omega] at this
      exact this.symm
    rw [es]
    exact List.Sublist.append (List.singleton_sublist.mpr m) ih
structure Mi (row : List Int) (kinds : Int) (cuts word : List Int) (b i : Nat) (seen : List Int) : Prop where
  few : (seen.length : Int) < kinds
  small : cuts.length ≤ i
  le : b ≤ i
  li : i ≤ row.length
  len : word.length = cuts.length
  last : (b : Int) = (if h : cuts = [] then 0 else cuts.getLast h)
  kin : ∀ s ∈ word, 0 ≤ s ∧ s < kinds
  nodup : seen.Nodup
  skip : ∀ L : List Int, (word ++ L).Sublist row → L.Sublist (row.drop b)
  cok : CutsOk row kinds 0 cuts
  sn : ∀ a, a ∈ seen ↔ a ∈ cut row b i ∧ isKind kinds a = true
theorem cutsOk_snoc {row : List Int} {kinds : Int} {e : Int} : ∀ (cuts : List Int) (b : Int), CutsOk row kinds b cuts → (if h : cuts = [] then b else cuts.getLast h) < e → e ≤ (row.length : Int) → (kindsIn kinds (cut row (if h : cuts = [] then b else cuts.getLast h) e) : Int) = kinds → CutsOk row kinds b (cuts ++ [e])
  | [], b, _, h1, h2, h3 => ⟨h1, h2, h3, trivial⟩
  | c :: r, b, ⟨c1, c2, c3, c4⟩, h1, h2, h3 => by
    refine ⟨c1, c2, c3, ?_⟩
    have el : (if h : c :: r = [] then b else (c :: r).getLast h) = (if h : r = [] then c else r.getLast h) := by
      cases r with
      | nil => rfl
      | cons d r => simp
    rw [el] at h1 h3
    exact cutsOk_snoc r c c4 h1 h2 h3
theorem cut_snoc {row : List Int} {b i : Nat} (h : b ≤ i) (hi : i < row.length) : cut row b ((i : Int) + 1) = cut row b i ++ [row.getD i 0] := by
  unfold cut
  rw [Int.toNat_natCast, Int.toNat_natCast, show ((i : Int) + 1).toNat - b = (i - b) + 1 by omega, List.take_succ_eq_append_getElem (by rw [List.length_drop]; omega), List.getElem_drop, List.getD_eq_getElem?_getD, List.getElem?_eq_getElem hi]
  congr 2
  have : b + (i - b) = i := by omega
  simp [this]
theorem cut_all {row : List Int} {b : Nat} : cut row b row.length = row.drop b := by
  unfold cut
  rw [Int.toNat_natCast, Int.toNat_natCast, List.take_of_length_le (by rw [List.length_drop]; exact Nat.le_refl _)]
theorem Mi.start {row : List Int} {kinds : Int} (hk : 1 ≤ kinds) : Mi row kinds [] [] 0 0 [] := by
  refine ⟨by simp; omega, Nat.le_refl _, Nat.le_refl _, Nat.zero_le _, rfl, rfl, by simp, by simp, fun L h => by simpa using h, trivial, fun a => ?_⟩
  have : cut row ((0 : Nat) : Int) ((0 : Nat) : Int) = [] := cut_none (Int.le_refl _)
  rw [this]; simp
theorem Mi.pass {row : List Int} {kinds : Int} {cuts word : List Int} {b i : Nat} {seen : List Int} (M : Mi row kinds cuts word b i seen) (hi : i < row.length) (h : isKind kinds (row.getD i 0) = false ∨ row.getD i 0 ∈ seen) : Mi row kinds cuts word b (i + 1) seen := by
  refine ⟨M.few, by have := M.small; omega, by have := M.le; omega, hi, M.len, M.last, M.kin, M.nodup, M.skip, M.cok, fun a => ?_⟩
  rw [show ((i + 1 : Nat) : Int) = (i : Int) + 1 by omega, cut_snoc M.le hi, M.sn a, List.mem_append, List.mem_singleton]
  constructor
  · rintro ⟨h1, h2⟩; exact ⟨.inl h1, h2⟩
  · rintro ⟨h1 | h1, h2⟩
    · exact ⟨h1, h2⟩
    · subst h1
      rcases h with h | h
      · rw [h] at h2; cases h2
      · exact ⟨((M.sn _).mp h).1, h2⟩
theorem Mi.more {row : List Int} {kinds : Int} {cuts word : List Int} {b i : Nat} {seen seen' : List Int} (M : Mi row kinds cuts word b i seen) (hi : i < row.length) (h : isKind kinds (row.getD i 0) = true) (hs : row.getD i 0 ∉ seen) (e : seen' = seen ++ [row.getD i 0]) (hf : (seen'.length : Int) < kinds) : Mi row kinds cuts word b (i + 1) seen' := by
  subst e
  refine ⟨hf, by have := M.small; omega, by have := M.le; omega, hi, M.len, M.last, M.kin, ?_, M.skip, M.cok, fun a => ?_⟩
  · rw [List.nodup_append]
    refine ⟨M.nodup, by simp, fun x hx y hy => ?_⟩
    have : y = row.getD i 0 := by simpa using hy
    rw [this]
    exact fun z => hs (z ▸ hx)
  · rw [show ((i + 1 : Nat) : Int) = (i : Int) + 1 by omega, cut_snoc M.le hi, List.mem_append, List.mem_append, M.sn a, List.mem_singleton]
    constructor
    · rintro (h1 | h1)
      · exact ⟨.inl h1.1, h1.2⟩
      · exact ⟨.inr h1, by rw [h1]; exact h⟩
    · rintro ⟨h1 | h1, h2⟩
      · exact .inl ⟨h1, h2⟩
      · exact .inr h1
theorem Mi.cutAt {row : List Int} {kinds : Int} {cuts word : List Int} {b i : Nat} {seen : List Int} (M : Mi row kinds cuts word b i seen) (hi : i < row.length) (h : isKind kinds (row.getD i 0) = true) (hs : row.getD i 0 ∉ seen) (hf : ((seen.length + 1 : Nat) : Int) = kinds) (hk : 1 ≤ kinds) : Mi row kinds (cuts ++ [(i : Int) + 1]) (word ++ [row.getD i 0]) (i + 1) (i + 1) [] := by
  have kk := of_decide_eq_true h
  have full : (kindsIn kinds (cut row b ((i : Int) + 1)) : Int) = kinds := by
    rw [← hf]
    have : (seen ++ [row.getD i 0]).length = kindsIn kinds (cut row b ((i : Int) + 1)) := by
      refine kindsIn_of ?_ fun a => ?_
      · rw [List.nodup_append]
        refine ⟨M.nodup, by simp, fun x hx y hy => ?_⟩
        have : y = row.getD i 0 := by simpa using hy
        rw [this]
        exact fun z => hs (z ▸ hx)
      · rw [cut_snoc M.le hi, List.mem_append, List.mem_append, M.sn a, List.mem_singleton]
        constructor
        · rintro (h1 | h1)
          · exact ⟨.inl h1.1, h1.2⟩
          · exact ⟨.inr h1, by rw [h1]; exact h⟩
        · rintro ⟨h1 | h1, h2⟩
          · exact .inl ⟨h1, h2⟩
          · exact .inr h1
    rw [hf, ← this, List.length_append, List.length_singleton]
    exact hf
  refine ⟨by simp; omega, by rw [List.length_append, List.length_singleton]; have := M.small; omega, Nat.le_refl _, hi, by rw [List.length_append, List.length_append, M.len]; rfl, ?_, fun s hs' => ?_, by simp, fun L hL => ?_, ?_, fun a => ?_⟩
  · rw [dif_neg (by simp)]; simp
  · rcases List.mem_append.mp hs' with q | q
    · exact M.kin s q
    · have : s = row.getD i 0 := by simpa using q
      rw [this]; exact kk
  · have h1 := M.skip (row.getD i 0 :: L) (by simpa using hL)
    have es : row.drop b = cut row b i ++ row.getD i 0 :: row.drop (i + 1) := by
      rw [← getD_drop hi]
      unfold cut
      rw [Int.toNat_natCast, Int.toNat_natCast]
      have := List.take_append_drop (i - b) (row.drop b)
      rw [List.drop_drop, show b + (i - b) = i by have := M.le; omega] at this
      exact this.symm
    rw [es] at h1
    have nin : row.getD i 0 ∉ Lf.cut row b i := fun z => hs ((M.sn _).mpr ⟨z, h⟩)
    exact sub_tail (sub_skip _ nin h1)
  · refine cutsOk_snoc _ _ M.cok ?_ (by omega) ?_
    · rw [← M.last]; have := M.le; omega
    · rw [← M.last]; exact full
  · have : Lf.cut row ((i + 1 : Nat) : Int) ((i + 1 : Nat) : Int) = [] := cut_none (Int.le_refl _)
    rw [this]; simp
theorem Mi.done {row : List Int} {kinds : Int} {cuts word : List Int} {b : Nat} {seen : List Int} {u : Int} (M : Mi row kinds cuts word b row.length seen) (h1 : 0 ≤ u) (h2 : u < kinds) (hu : u ∉ seen) : MiOk row kinds cuts (word ++ [u]) := by
  refine ⟨by rw [List.length_append, M.len]; rfl, fun s hs => ?_, ?_, M.cok⟩
  · rcases List.mem_append.mp hs with q | q
    · exact M.kin s q
    · have : s = u := by simpa using q
      rw [this]; exact ⟨h1, h2⟩
  · rw [Bool.eq_false_iff]
    intro z
    have := M.skip [u] ((isLeft_iff _ _).mp z)
    have m := List.singleton_sublist.mp this
    refine hu ((M.sn u).mpr ⟨?_, decide_eq_true ⟨h1, h2⟩⟩)
    rw [cut_all]; exact m
theorem below_seen {seen : List Int} {k : Nat} (hn : seen.Nodup) (h : ∀ j : Nat, j < k → (j : Int) ∈ seen) : k ≤ seen.length := by
  rw [← range0_len k]
  refine len_le_of_sub _ _ (range0_nodup k) fun a ha => ?_
  have := range0_mem.mp ha
  have := h a.toNat (by omega)
  rw [Int.toNat_of_nonneg (by omega)] at this
  exact this
end Lf
namespace Lf
def cutsB (row : List Int) (kinds : Int) : Int → List Int → Bool
  | _, [] => true
  | b, e :: r => decide (b < e) && decide (e ≤ (row.length : Int)) && decide ((kindsIn kinds (cut row b e) : Int) = kinds) && cutsB row kinds e r
theorem cutsB_iff (row : List Int) (kinds : Int) : ∀ (cuts : List Int) (b : Int), cutsB row kinds b cuts = true ↔ CutsOk row kinds b cuts
  | [], _ => by simp [cutsB, CutsOk]
  | e :: r, b => by
    rw [cutsB, CutsOk, ← cutsB_iff row kinds r e]
    simp only [Bool.and_eq_true, decide_eq_true_eq, and_assoc]
theorem cuts_prog {row : List Int} {kinds : Int} (hk : 1 ≤ kinds) : ∀ (cuts : List Int) (a b : Int), b - 1 ≤ a → a ≤ b → (rising a ((row.length : Int) + 1) cuts && ((b :: cuts).zip cuts).all fun y => decide ((kindsIn kinds (cut row y.1 y.2) : Int) = kinds)) = cutsB row kinds b cuts
  | [], a, b, _, _ => by simp [rising, cutsB]
  | e :: r, a, b, h1, h2 => by
    rw [rising, List.zip_cons_cons, List.all_cons, cutsB]
    by_cases h : b < e
    · have ih := cuts_prog (row := row) hk r e e (by omega) (Int.le_refl _)
      rw [← ih, decide_eq_true h, decide_eq_true (by omega : a < e)]
      have e1 : decide (e < (row.length : Int) + 1) = decide (e ≤ (row.length : Int)) := by
        by_cases z : e ≤ (row.length : Int)
        · rw [decide_eq_true z, decide_eq_true (by omega)]
        · rw [decide_eq_false z, decide_eq_false (by omega)]
      rw [e1]
      cases decide (e ≤ (row.length : Int)) <;> cases rising e ((row.length : Int) + 1) r <;> cases decide ((kindsIn kinds (cut row b e) : Int) = kinds) <;> simp
    · rw [decide_eq_false h, Bool.false_and, Bool.false_and, Bool.false_and]
      by_cases z : a < e
      · have hc : cut row b e = [] := cut_none (by omega)
        have : ¬ ((kindsIn kinds (cut row b e) : Int) = kinds) := by
          rw [hc]
          have : kindsIn kinds [] = 0 := rfl
          rw [this]; omega
        rw [decide_eq_false this]; simp
      · rw [decide_eq_false z]; simp
theorem missed_eq (row : List Int) (kinds : Int) (cuts word : List Int) : missed row kinds cuts word = ((word.all fun s => isKind kinds s) && decide (word.length = cuts.length + 1) && (cutsB row kinds 0 cuts && !isLeft row word)) := by
  by_cases h : MiOk row kinds cuts word
  · rw [missed_true h, (cutsB_iff _ _ _ _).mpr h.cuts, h.gone, decide_eq_true h.len]
    have : (word.all fun s => isKind kinds s) = true := List.all_eq_true.mpr fun s hs => decide_eq_true (h.kin s hs)
    rw [this]; rfl
  · rw [missed_false h]
    refine (Bool.eq_false_iff.mpr fun z => h ?_).symm
    simp only [Bool.and_eq_true, decide_eq_true_eq, List.all_eq_true, Bool.not_eq_true'] at z
    exact ⟨z.1.2, fun s hs => of_decide_eq_true (z.1.1 s hs), z.2.2, (cutsB_iff _ _ _ _).mp z.2.1⟩
end Lf
set_option maxRecDepth 100000
set_option maxHeartbeats 4000000
namespace L2
open PySem PySem.Spec PyProof.Rows
section
variable {σ : St} {H H' : Hp} {Q : VK} {D : Ends} {K : PySem.W.Frag} {X : Cx}
theorem RdV.pair {t : Addr} {i j : Int} (ht : H t = some (.tup [.int i, .int j])) : RdV K H (.ref t) (dP (i, j)) := .tup (SqT.of ht) (.cons (.int i) (.cons (.int j) .nil))
def GD (Q : VK) (x y : V) (H2 : Hp) : Prop := ∃ a v, x = .ref a ∧ DGet H2 a y (some v) ∧ Q v H2
theorem r_dget {td ty : TE} (h : td σ H fun x H1 => ty σ H1 fun y H2 => GD Q x y H2) : tDGet td ty σ H Q := h
end
end L2
namespace L2
open PySem PySem.Spec PyProof.Rows
abbrev kPp (q : Int × Int) : List Key := kP q.1 q.2
structure ParOk (H : Hp) (kvs : List (List Key × V)) (par : Int × Int → Option (Int × Int)) : Prop where
  no : ∀ p, par p = none → valV kvs (kPp p) = none
  yes : ∀ p q, par p = some q → ∃ t, valV kvs (kPp p) = some (.ref t) ∧ H t = some (.tup [.int q.1, .int q.2])
section
variable {H H' : Hp}
theorem ParOk.same {kvs : List (List Key × V)} {par : Int × Int → Option (Int × Int)} (A : ParOk H kvs par) (h : ∀ t xs, H t = some (.tup xs) → H' t = some (.tup xs)) : ParOk H' kvs par :=
  ⟨A.no, fun p q e => let ⟨t, h1, h2⟩ := A.yes p q e; ⟨t, h1, h _ _ h2⟩⟩
theorem kPp_inj {p q : Int × Int} : kPp p = kPp q ↔ p = q := kP_inj
theorem ParOk.put {kvs : List (List Key × V)} {par : Int × Int → Option (Int × Int)} (A : ParOk H kvs par) {q pair : Int × Int} {t : Addr} (ht : H t = some (.tup [.int pair.1, .int pair.2])) : ParOk H (putK kvs (kPp q) (.ref t)) (fun p => if p = q then some pair else par p) := by
  refine ⟨fun p e => ?_, fun p r e => ?_⟩
  · rw [valV_put]
    by_cases z : p = q
    · rw [if_pos z] at e; cases e
    · rw [if_neg z] at e
      rw [if_neg fun c => z (kPp_inj.mp c)]
      exact A.no p e
  · rw [valV_put]
    by_cases z : p = q
    · rw [if_pos z] at e
      cases e
      exact ⟨t, by rw [if_pos (by rw [z])], ht⟩
    · rw [if_neg z] at e
      rw [if_neg fun c => z (kPp_inj.mp c)]
      exact A.yes p r e
theorem Prs.off {p d : Addr} {ts : List Addr} {ps : List (Int × Int)} {o : HO} (T : Prs H p ts ps) (h1 : p ≠ d) (h2 : ∀ t ∈ ts, t ≠ d) : Prs (upd H d o) p ts ps :=
  ⟨upd_keepNe T.at_ h1, T.len, fun i t ht => upd_keepNe (T.row i t ht) (h2 t (List.mem_of_getElem? ht))⟩
theorem Prs.but {ls : List Addr} {p : Addr} {ts : List Addr} {ps : List (Int × Int)} (T : Prs H p ts ps) (s : SameBut ls H H') (h1 : p ∉ ls) (h2 : ∀ t ∈ ts, t ∉ ls) : Prs H' p ts ps :=
  ⟨s.at T.at_ h1, T.len, fun i t ht => s.at (T.row i t ht) (h2 t (List.mem_of_getElem? ht))⟩
theorem Prs.mem {p : Addr} {ts : List Addr} {ps : List (Int × Int)} (T : Prs H p ts ps) {t : Addr} (h : t ∈ ts) : ∃ i j, H t = some (.tup [.int i, .int j]) := by
  obtain ⟨n, hn⟩ := List.getElem?_of_mem h
  exact ⟨_, _, T.row n t hn⟩
end
end L2
set_option maxRecDepth 100000
set_option maxHeartbeats 4000000
namespace L2
open PySem PySem.Spec PyProof.Rows
theorem perm_of_sub : ∀ (l m : List Int), l.Nodup → (∀ a ∈ l, a ∈ m) → m.length ≤ l.length → m.Perm l
  | [], m, _, _, h => by
    have : m = [] := List.length_eq_zero_iff.mp (by simpa using h)
    rw [this]
  | a :: l, m, nd, sub, h => by
    obtain ⟨na, nd⟩ := List.nodup_cons.mp nd
    have ha := sub a List.mem_cons_self
    have p := List.perm_cons_erase ha
    refine p.trans (.cons a (perm_of_sub l (m.erase a) nd (fun b hb => ?_) ?_))
    · have hm := p.mem_iff.mp (sub b (List.mem_cons_of_mem _ hb))
      rcases List.mem_cons.mp hm with z | z
      · exact absurd (z ▸ hb) na
      · exact z
    · have := p.length_eq
      rw [List.length_cons] at this h
      omega
abbrev fm (ns : List Int) : List Int := firstMet (fun i => ns.getD i 0) ns.length
theorem fm_map (ns : List Int) : (List.range ns.length).map (fun i => ns.getD i 0) = ns := by
  refine List.ext_getElem (by simp) fun i h1 h2 => ?_
  simp [h2]
theorem fm_mem (ns : List Int) (k : Int) : k ∈ fm ns ↔ k ∈ ns := by
  have := firstMet_any (fun i => ns.getD i 0) ns.length k
  rw [fm_map] at this
  constructor
  · intro h
    have h1 : (fm ns).any (· == k) = true := List.any_eq_true.mpr ⟨k, h, by simp⟩
    rw [this] at h1
    obtain ⟨x, hx, e⟩ := List.any_eq_true.mp h1
    have : x = k := by simpa using e
    exact this ▸ hx
  · intro h
    have h1 : ns.any (· == k) = true := List.any_eq_true.mpr ⟨k, h, by simp⟩
    rw [← this] at h1
    obtain ⟨x, hx, e⟩ := List.any_eq_true.mp h1
    have : x = k := by simpa using e
    exact this ▸ hx
theorem fm_nodup_go (val : Nat → Int) : ∀ i, (firstMet val i).Nodup
  | 0 => by rw [firstMet_zero]; exact .nil
  | i + 1 => by
    have ih := fm_nodup_go val i
    rw [firstMet_succ]
    unfold step_dedup
    split
    · exact ih
    · next h =>
      rw [List.nodup_append]
      refine ⟨ih, by simp, fun x hx y hy => ?_⟩
      have : y = val i := by simpa using hy
      rw [this]
      intro z
      refine h ?_
      first
        | exact List.any_eq_true.mpr ⟨x, hx, by simp [z]⟩
        | (rw [← z]; simpa using hx)
theorem fm_len (ns : List Int) : (fm ns).length = (Lf.dd ns).length := Lf.len_eq_of_same (fm_nodup_go _ _) (Lf.dd_nodup _) fun a => by rw [fm_mem, Lf.dd_mem]
def isSet (P : Program) (w : World) (d : Addr) (ns : List Int) (h : Heap) : Prop := SetT P w h d (fun k => (fm ns).any (· == k)) (fm ns).length
section
variable {X : Cx} {σ : St} {H H' : Hp} {Q : VK} {D : Ends} {K : PySem.W.Frag} {P : Program} {w : World}
def rSetE (P : Program) (w : World) (K : PySem.W.Frag) (xs : List V) (H : Hp) (Q : VK) : Prop := ∃ (p : Addr) (ns : List Int), xs = [.ref p] ∧ SqL K H p (ns.map V.int) ∧ ns.length ≤ 4000 ∧ ∀ d, H d = none → Q (.ref d) (upd H d (.ext (isSet P w d ns)))
theorem call_setE (hc : X.calm = true) : CallR X (.type "set") (rSetE X.prog X.w X.K) := by
  intro pins s σ H xs us Q I r h
  obtain ⟨p, ns, rfl, hq, hn, q⟩ := h
  obtain ⟨u, rfl, ru⟩ := vals1 r
  cases ru
  obtain ⟨its, rv, pl, hz⟩ := I.list hq
  have hi := intsAre_of rv
  have hl := rv.length
  rw [List.length_map] at hl
  refine set_ofList (I.ok.hd hc) pl.isList hi (by rw [List.size_toArray, ← hl]; exact Nat.lt_of_le_of_lt (Nat.succ_le_succ hn) (by decide)) fun hp' tk hs kp => ?_
  have kp' : ∀ b o, s.heap.get? b = some o → hp'.get? b = some o := fun b o e => kp b o (Heap.lt_size e) e
  rw [show its.toArray.size = ns.length by rw [List.size_toArray, hl]] at hs
  have hs' : isSet X.prog X.w s.heap.objs.size ns hp' := hs
  refine ⟨.ref s.heap.objs.size, _, I.laid (o := .ext (isSet X.prog X.w s.heap.objs.size ns)) (h' := hp') (t' := tk) kp' (Nat.le_refl _) (show ObjOk X.prog X.w _ hp' _ (.ext _) from ⟨hs', ?_, fun h1 h2 a b => a.keep b⟩), rfl, q _ (I.hok.fresh (Nat.le_refl _))⟩
  obtain ⟨o, _, _, _, e, _⟩ := hs
  exact ⟨o, e⟩
def rLenE (P : Program) (w : World) (xs : List V) (H : Hp) (Q : VK) : Prop := ∃ (d : Addr) (ns : List Int), xs = [.ref d] ∧ H d = some (.ext (isSet P w d ns)) ∧ Q (.int ((Lf.dd ns).length : Nat)) H
theorem call_lenE : CallR X (.builtin "len") (rLenE X.prog X.w) := by
  intro pins s σ H xs us Q I r h
  obtain ⟨d, ns, rfl, hd, q⟩ := h
  obtain ⟨u, rfl, ru⟩ := vals1 r
  cases ru
  obtain ⟨hs, _, _⟩ := (show ObjOk X.prog X.w H s.heap d (.ext (isSet X.prog X.w d ns)) from I.hok d _ hd)
  obtain ⟨o, es, ep, t, h1, h2, h3, h4, h5, h6, h7, h8, T⟩ := hs
  have hb : es.size < 4096 := h6
  refine call_len_set h1 h2 h3 h7 (by omega) ⟨.int ((Lf.dd ns).length : Nat), H, I.tok _, ⟨s.toks + 1, ?_⟩, q⟩
  rw [h8, fm_len]
def rSortE (P : Program) (w : World) (xs : List V) (H : Hp) (Q : VK) : Prop := ∃ (d : Addr) (ns : List Int), xs = [.ref d] ∧ H d = some (.ext (isSet P w d ns)) ∧ ns.length < 64 ∧ ∀ l (ms : List Int), H l = none → ms.Nodup → (∀ a, a ∈ ms ↔ a ∈ ns) → Q (.ref l) (upd H l (.lst (ms.map V.int)))
theorem Inv.drawn {pins : List (Addr × Obj)} {s : Shared} (I : Inv X pins σ H s) (d : Drawn) : Inv X pins σ H { s with drawn := d } := ⟨I.ok, I.os, I.bare, I.base, I.loc, I.cell, I.free, I.freeC, I.pin, I.hok, I.len⟩
theorem ints_of_elems {P : Program} {w : World} : ∀ (es : List (Int × Value)), ElemsOf (intKind P w) es → ∃ ns, IntsAre (es.map (·.2)) ns ∧ ∀ k, k ∈ ns ↔ ∃ e ∈ es, (intKind P w).is k e.2 = true
  | [], _ => ⟨[], .nil, fun k => by simp⟩
  | e :: r, h => by
    obtain ⟨ns, h1, h2⟩ := ints_of_elems r fun e' he' => h e' (List.mem_cons_of_mem _ he')
    obtain ⟨⟨k, hk, _⟩, _⟩ := h e List.mem_cons_self
    obtain ⟨t, ht⟩ := Value.isInt_shape hk
    refine ⟨k :: ns, by rw [List.map_cons, ht]; exact .cons k t h1, fun k' => ?_⟩
    rw [List.mem_cons, h2]
    constructor
    · rintro (z | ⟨e', he', z⟩)
      · subst z; exact ⟨e, List.mem_cons_self, hk⟩
      · exact ⟨e', List.mem_cons_of_mem _ he', z⟩
    · rintro ⟨e', he', z⟩
      rcases List.mem_cons.mp he' with u | u
      · subst u
        obtain ⟨t', ht'⟩ := Value.isInt_shape z
        rw [ht] at ht'
        cases ht'
        exact .inl rfl
      · exact .inr ⟨e', u, z⟩
theorem call_sortE (hc : X.calm = true) : CallR X (.builtin "sorted") (rSortE X.prog X.w) := by
  intro pins s σ H xs us Q I r h
  obtain ⟨d, ns, rfl, hd, hl, q⟩ := h
  obtain ⟨u, rfl, ru⟩ := vals1 r
  cases ru
  obtain ⟨hs, _, _⟩ := (show ObjOk X.prog X.w H s.heap d (.ext (isSet X.prog X.w d ns)) from I.hok d _ hd)
  obtain ⟨o, es, ep, t, h1, h2, h3, h4, h5, h6, h7, h8, T⟩ := hs
  obtain ⟨L, hI, hmem⟩ := ints_of_elems es.toList h4
  have hfl : (fm ns).length ≤ ns.length := firstMet_length_le _ _
  have hLl : L.length = es.size := by have := IntsAre.length hI; simpa using this.symm
  have hLp : L.Perm (fm ns) := perm_of_sub (fm ns) L (fm_nodup_go _ _) (fun a ha => (hmem a).mpr ((h5 a).mp (List.any_eq_true.mpr ⟨a, ha, by simp⟩))) (by omega)
  refine set_sorted (I.ok.hd hc) ⟨o, h1, h2, h3, h7⟩ T (by omega) hI fun h' dr tk out ns' D c hD kp hg hI' hp hs => ?_
  have hnd : ns'.Nodup := (hp.trans hLp).nodup_iff.mpr (fm_nodup_go _ _)
  have hmm : ∀ a, a ∈ ns' ↔ a ∈ ns := fun a => by rw [(hp.trans hLp).mem_iff]; exact fm_mem ns a
  have hlen : ns'.length < 64 := by have := (hp.trans hLp).length_eq; omega
  have I1 := I.drawn dr
  refine ⟨.ref D, _, Inv.laid (s := { s with drawn := dr }) I1 (o := .lst (ns'.map V.int)) (h' := h') (t' := tk) kp hD (show ObjOk X.prog X.w _ h' D (.lst _) from ⟨?_, out.toList, c, ?_, ?_⟩), rfl, q D ns' (I.hok.fresh hD) hnd hmm⟩
  · rw [List.length_map]; exact Nat.le_trans (Nat.le_of_lt hlen) (by decide)
  · exact vals_ints hI'
  · rw [hg]
theorem r_setE {p : Addr} {ns : List Int} (hs : SqL K H p (ns.map V.int)) (hn : ns.length ≤ 4000) (h : ∀ d, H d = none → Q (.ref d) (upd H d (.ext (isSet P w d ns)))) : rSetE P w K [.ref p] H Q := ⟨p, ns, rfl, hs, hn, h⟩
theorem r_lenE {d : Addr} {ns : List Int} (hd : H d = some (.ext (isSet P w d ns))) (h : Q (.int ((Lf.dd ns).length : Nat)) H) : rLenE P w [.ref d] H Q := ⟨d, ns, rfl, hd, h⟩
theorem r_sortE {d : Addr} {ns : List Int} (hd : H d = some (.ext (isSet P w d ns))) (hn : ns.length < 64) (h : ∀ l (ms : List Int), H l = none → ms.Nodup → (∀ a, a ∈ ms ↔ a ∈ ns) → Q (.ref l) (upd H l (.lst (ms.map V.int)))) : rSortE P w [.ref d] H Q := ⟨d, ns, rfl, hd, hn, h⟩
end
end L2
set_option maxRecDepth 100000
set_option maxHeartbeats 4000000
namespace My
open PySem PySem.Spec PyProof.Rows L2
abbrev body := PySem.Challenge.pw_leftin_k04_whole_missing.main.body
seal PE PT PW PA PS PSs PC PG PGs PSet PIp PGet PI OpR UnR CallR TruR PK PO SlR IxR MtR PPs
local macro_rules | `(tactic| walk_at "nn") => `(tactic| omega)
local macro_rules | `(tactic| walk_at "sm") => `(tactic| first | with_reducible exact Same.refl _ | with_reducible assumption | ((with_reducible refine same_upd ?_ ?_); walk_at "sm"; walk_at "fr") | ((with_reducible apply same_trans); (focus with_reducible assumption); walk_at "sm"))
local macro_rules | `(tactic| walk_at "ce") => `(tactic| first | rfl | (dsimp only [cxComp]; done) | (dsimp only [cxComp]; rfl))
local macro_rules | `(tactic| walk_at "ci") => `(tactic| first | (show (0 : Int) < _; omega) | exact ⟨by omega, by omega⟩ | exact mul2Ok | exact ⟨by decide, by decide, by decide⟩)
local macro_rules | `(tactic| walk_at "fr1") => `(tactic| first | with_reducible assumption | ((with_reducible apply free_upd); first | with_reducible assumption | ((with_reducible apply free_upd); first | with_reducible assumption | ((with_reducible apply free_upd); first | with_reducible assumption | ((with_reducible apply free_upd); first | with_reducible assumption | ((with_reducible apply free_upd); first | with_reducible assumption | ((with_reducible apply free_upd); first | with_reducible assumption | ((with_reducible apply free_upd); first | with_reducible assumption | ((with_reducible apply free_upd); first | with_reducible assumption | ((with_reducible apply free_upd); first | with_reducible assumption | ((with_reducible apply free_upd); first | with_reducible assumption | ((with_reducible apply free_upd); first | with_reducible assumption | ((with_reducible apply free_upd); first | with_reducible assumption | ((with_reducible apply free_upd); with_reducible assumption))))))))))))))
local macro_rules | `(tactic| walk_at "fr") => `(tactic| first | walk_at "fr1" | ((with_reducible apply free_of); (focus with_reducible assumption); walk_at "sm") | ((with_reducible apply Same.free); (focus with_reducible assumption); walk_at "fr1"))
local macro_rules | `(tactic| walk_at "ft") => `(tactic| first
  | with_reducible assumption
  | with_reducible exact upd_same
  | ((with_reducible apply SqL.of); first | with_reducible assumption | with_reducible exact upd_same)
  | ((with_reducible apply mk_keep); (focus with_reducible assumption); (focus with_reducible assumption); walk_at "ft")
  | ((with_reducible apply mk_sq); (focus with_reducible assumption); (focus with_reducible assumption); walk_at "ft")
  | ((with_reducible apply upd_keepA); (focus with_reducible assumption); walk_at "ft")
  | ((with_reducible apply sq_keepA); (focus with_reducible assumption); walk_at "ft")
  | ((with_reducible apply Same.at); (focus with_reducible assumption); walk_at "ft")
  | ((with_reducible apply Same.seq); (focus with_reducible assumption); walk_at "ft")
  | ((with_reducible apply upd_keepNeA); (focus walk_at "ne"); walk_at "ft")
  | ((with_reducible apply sq_keepNeA); (focus walk_at "ne"); walk_at "ft")
  | assumption
  | exact upd_same)
local macro_rules | `(tactic| walk_at "ne") => `(tactic| first | with_reducible assumption | ((with_reducible apply Ne.symm); with_reducible assumption) | ((with_reducible apply ne_upd); with_reducible assumption) | ((with_reducible apply Ne.symm); (with_reducible apply ne_upd); with_reducible assumption) | ((with_reducible apply ne_of_none); rotate_left; (focus walk_at "fr"); walk_at "ft") | ((with_reducible apply Ne.symm); (with_reducible apply ne_of_none); rotate_left; (focus walk_at "fr"); walk_at "ft"))
local macro_rules | `(tactic| walk_at "rd1") => `(tactic| first
  | with_reducible refine iteTeF ?_ | with_reducible refine iteFeT ?_ | with_reducible refine iteTeT ?_ | with_reducible refine iteFeF ?_ | with_reducible refine iteTnT ?_ | with_reducible refine iteFnF ?_ | with_reducible refine iteTnF ?_ | with_reducible refine iteFnT ?_ | with_reducible refine iteNBB ?_ | with_reducible refine iteNDD ?_ | with_reducible refine iteDD ?_
  | with_reducible refine iteT ?_ | with_reducible refine iteF ?_ | with_reducible refine iteNT ?_ | with_reducible refine iteNF ?_
  | with_reducible refine r_seq ?_ | with_reducible refine r_asg ?_ | ((with_reducible refine r_name ?_); first | (dsimp only [inner]; dsimp only [List.replicate, List.map, List.cons_append, List.nil_append, List.getElem?_cons_zero, List.getElem?_cons_succ, Option.join_some, List.set]) | dsimp only [List.set] | skip) | with_reducible refine r_ifs ?_ | with_reducible refine r_ret ?_ | with_reducible refine r_next ?_ | with_reducible refine r_drop ?_
  | with_reducible refine r_break ?_ | with_reducible refine r_cont ?_ | ((with_reducible show tVar _ _ _ _); refine r_var rfl ?_) | with_reducible refine r_c ?_ | with_reducible refine r_op ?_ | with_reducible refine r_un ?_ | with_reducible refine r_cb ?_
  | with_reducible refine r_cons ?_ | with_reducible refine r_nil ?_ | with_reducible refine r_test ?_ | with_reducible refine r_tB ?_ | with_reducible refine r_bl ?_ | with_reducible refine r_not ?_ | with_reducible refine r_and ?_ | with_reducible refine r_or ?_
  | with_reducible refine r_andV ?_ | with_reducible refine r_orV ?_ | with_reducible refine r_notV ?_ | with_reducible refine r_call ?_ | with_reducible refine r_chain ?_ | with_reducible refine r_lst ?_ | with_reducible refine r_tup ?_
  | with_reducible refine r_sl ?_ | with_reducible refine r_sl3 ?_ | with_reducible refine r_part ?_ | with_reducible refine r_noPart ?_ | with_reducible refine r_int ?_ | with_reducible refine r_comp ?_ | with_reducible refine r_for ?_ | with_reducible refine r_iList ?_
  | with_reducible refine r_iZip ?_ | with_reducible refine r_iEnum ?_ | with_reducible refine r_iRng1 ?_ | with_reducible refine r_tBM ?_ | with_reducible refine r_tBM0 ?_ | with_reducible refine r_new0 ?_ | with_reducible refine r_new1 ?_ | with_reducible refine r_new2 ?_ | with_reducible refine r_new3 ?_ | with_reducible refine r_new4 ?_ | with_reducible refine r_new5 ?_ | ((with_reducible refine r_newL ?_ ?_); (· first | decide | (simp; done) | (simp; omega))) | ((with_reducible refine r_newT ?_ ?_); (· first | decide | (simp; done) | (simp; omega)))
  | ((with_reducible apply r_AtL); walk_at "ft") | ((with_reducible apply r_AtZ); walk_at "ft"; walk_at "ft") | ((with_reducible apply r_AtE); walk_at "ft")
  | ((with_reducible refine r_rI ?_ ?_); (· walk_at "ci")) | with_reducible refine r_rI0 ?_ | with_reducible refine r_rU ?_ | with_reducible refine r_addI ?_ | with_reducible refine r_eqI ?_ | with_reducible refine r_neI ?_ | with_reducible refine r_eqB ?_ | with_reducible refine r_neB ?_ | with_reducible refine r_isB ?_ | with_reducible refine r_isnotB ?_
  | ((with_reducible apply r_lenI); walk_at "ft") | ((with_reducible apply r_lenD); walk_at "ft")
  | ((with_reducible apply r_eqL); walk_at "ft"; walk_at "ft") | ((with_reducible apply r_neL); walk_at "ft"; walk_at "ft")
  | ((with_reducible apply r_inI); walk_at "ft") | ((with_reducible apply r_notInI); walk_at "ft")
  | ((with_reducible apply r_slNeg1); walk_at "ft") | ((with_reducible apply r_slTo); walk_at "ft"; (focus walk_at "nn")) | ((with_reducible apply r_slFrom); walk_at "ft"; (focus walk_at "nn")) | ((with_reducible apply r_slMid); walk_at "ft"; (focus walk_at "nn"); (focus walk_at "nn"))
  | ((with_reducible apply r_lofI); walk_at "ft") | with_reducible refine r_new0 ?_ | with_reducible refine r_new1 ?_ | with_reducible refine r_new2 ?_ | with_reducible refine r_new3 ?_ | with_reducible refine r_new4 ?_ | with_reducible refine r_new5 ?_
  | ((with_reducible apply r_rev); walk_at "ft") | ((with_reducible apply r_ev); walk_at "ft") | ((with_reducible apply r_od); walk_at "ft")
  | ((with_reducible apply r_AtM); walk_at "ft")
  | with_reducible refine r_dget2 ?_ | ((with_reducible apply r_AtD2); walk_at "ft") | ((with_reducible apply r_DG2); walk_at "ft") | with_reducible refine r_dput ?_ | with_reducible refine r_dnewK ?_ | with_reducible refine r_par ?_ | ((with_reducible refine r_Par2 ?_); dsimp only [List.set])
  | ((with_reducible apply r_isi_tt); (focus walk_at "ft"))
  | with_reducible refine r_isi_ii ?_ | with_reducible refine r_isi_ib ?_ | ((with_reducible apply r_isi_ll); walk_at "ft")
  | ((with_reducible apply r_sum); walk_at "ft") | ((with_reducible apply r_ixLit); (focus walk_at "ft"); (focus rfl))
  | ((with_reducible refine r_eiL ?_); (with_reducible refine r_meth ?_); ((with_reducible show tVar _ _ _ _); refine r_var rfl ?_); ((with_reducible apply r_AtMe); (focus walk_at "ft"); (focus first | with_reducible assumption | rfl))) | with_reducible refine r_eiR ?_
  | ((with_reducible apply r_any3F); (focus walk_at "ft")) | ((with_reducible apply r_any2F); (focus walk_at "ft"))
  | with_reducible refine r_max2 ?_ | with_reducible refine r_par3 ?_ | ((with_reducible refine r_Par3 ?_); dsimp only [List.set])
  | with_reducible refine r_din ?_ | with_reducible refine r_dnotin ?_ | with_reducible refine r_dnewT ?_
  | with_reducible refine r_gsub ?_ | with_reducible refine r_lr1 ?_ | with_reducible refine r_lr2 ?_
  | with_reducible refine r_fld ?_ | ((with_reducible apply r_AtF); (focus walk_at "ft"); (focus assumption); (focus assumption); (focus first | with_reducible assumption | rfl)) | with_reducible refine r_sfld ?_ | ((with_reducible apply r_SetF); (focus walk_at "ft"); (focus assumption); (focus assumption); (focus first | (show _ < 1000; decide) | exact (show 1 < 1000 by decide) | exact (show 2 < 1000 by decide) | exact (show 3 < 1000 by decide)))
  | with_reducible refine r_meth ?_ | ((with_reducible apply r_AtMe); (focus walk_at "ft"); (focus first | with_reducible assumption | rfl)) | with_reducible refine r_make ?_ | ((with_reducible apply r_isi_cls); (focus walk_at "ft"); (focus assumption); (focus assumption))
  | with_reducible refine r_iRng3 ?_ | ((with_reducible show tAug _ _ _ _ _ _); refine r_aug rfl ?_; dsimp only [List.set]) | with_reducible refine r_ipI ?_ | with_reducible refine r_augS ?_
  | with_reducible refine r_iKeys ?_ | with_reducible refine r_dget ?_
  | with_reducible refine r_gCons ?_ | with_reducible refine r_gNil ?_ | ((with_reducible apply r_gTup); walk_at "ft"; rfl))
local macro_rules | `(tactic| walk_at "rd") => `(tactic| repeat walk_at "rd1")

abbrev s_is_whole : Stmt := body.getD 5 (.Pass ⟨0, 0, 0, 0⟩)
abbrev N_is_whole : List Str := ["value"]
abbrev P_is_whole : List Str := ["value"]
theorem sc_is_whole : FnScope N_is_whole P_is_whole (defScope s_is_whole) := ⟨rfl, rfl, rfl, by decide, rfl, by decide, by decide⟩
section
variable {P : Program} {w : World} {K : PySem.W.Frag} {mg : Str → Option Value} {base : Heap} {f : Addr} {fd : FuncData}
def sp_is_whole : Sp := fun vs H Q _ => ∃ z : Int, vs = [.int z] ∧ Q (.bl true) H
theorem ok_is_whole (F : Fun K "is_whole" "is_whole" s_is_whole f fd) (T : Blt mg) : FnOk P w K mg base CX0 1 f fd P_is_whole sp_is_whole := by
  refine F.ok sc_is_whole (fun vs H Q E h => ?_) (fun cdv A outer s H vs Q E hr h => ?_)
  · obtain ⟨_, rfl, _⟩ := h
    rfl
  · obtain ⟨z, rfl, k⟩ := h
    have nd := sc_is_whole.nd
    have hu := hr.units
    refine ⟨_, (pss_one (ps_ret (pe_and (pe_callB call_isinst rfl T.no_isinstance boot_isinstance (pa_cons (pv 0) (pa_cons (pe_bty rfl T.no_int boot_int) pa_nil))) (pe_one (pe_not (pe_callB call_isinst rfl T.no_isinstance boot_isinstance (pa_cons (pv 0) (pa_cons (pe_bty rfl T.no_bool boot_bool) pa_nil)))))))), ?_⟩
    try simp only [show (cxOf CX0 P w K mg base N_is_whole "is_whole" (defScope s_is_whole) f cdv A outer s H E).nox.K = K from rfl, show (cxOf CX0 P w K mg base N_is_whole "is_whole" (defScope s_is_whole) f cdv A outer s H E).K = K from rfl]
    rw [show L2.start N_is_whole [V.int z] = [some (V.int z)] from rfl]
    walk_at "rd"
    exact k
end

abbrev s_is_count : Stmt := body.getD 6 (.Pass ⟨0, 0, 0, 0⟩)
abbrev N_is_count : List Str := ["value", "most"]
abbrev P_is_count : List Str := ["value", "most"]
theorem sc_is_count : FnScope N_is_count P_is_count (defScope s_is_count) := ⟨rfl, rfl, rfl, by decide, rfl, by decide, by decide⟩
section
variable {P : Program} {w : World} {K : PySem.W.Frag} {mg : Str → Option Value} {base : Heap} {f f2 : Addr} {fd fd2 : FuncData}
def sp_is_count : Sp := fun vs H Q _ => ∃ z m : Int, vs = [.int z, .int m] ∧ Q (.bl (decide (0 ≤ z ∧ z ≤ m))) H
theorem ok_is_count (F : Fun K "is_count" "is_count" s_is_count f fd) (T : Blt mg) (C_is_whole : Cal K mg "is_whole" f2 fd2 P_is_whole) (G_is_whole : FnOk P w K mg base CX0 1 f2 fd2 P_is_whole sp_is_whole) : FnOk P w K mg base CX0 2 f fd P_is_count sp_is_count := by
  refine F.ok sc_is_count (fun vs H Q E h => ?_) (fun cdv A outer s H vs Q E hr h => ?_)
  · obtain ⟨_, _, rfl, _⟩ := h
    rfl
  · obtain ⟨z, m, rfl, k⟩ := h
    have nd := sc_is_count.nd
    have hu := hr.units
    refine ⟨_, (pss_one (ps_ret (pe_and (pe_call G_is_whole (hr.mono (by decide)) rfl C_is_whole.mg C_is_whole.kp C_is_whole.b .nil pass0 (pa_cons (pv 0) pa_nil)) (pe_one (pe_chain op_le op_le pe_int (pv 0) (pv 1)))))), ?_⟩
    try simp only [show (cxOf CX0 P w K mg base N_is_count "is_count" (defScope s_is_count) f cdv A outer s H E).nox.K = K from rfl, show (cxOf CX0 P w K mg base N_is_count "is_count" (defScope s_is_count) f cdv A outer s H E).K = K from rfl]
    rw [show L2.start N_is_count [V.int z, V.int m] = [some (V.int z), some (V.int m)] from rfl]
    walk_at "rd"
    refine ⟨z, rfl, ?_⟩
    walk_at "rd"
    refine iteD (fun h1 => ?_) (fun h1 => ?_)
    · walk_at "rd"
      have e : decide (0 ≤ z ∧ z ≤ m) = decide (z ≤ m) := by
        by_cases h2 : z ≤ m
        · rw [decide_eq_true h2, decide_eq_true ⟨h1, h2⟩]
        · rw [decide_eq_false h2, decide_eq_false fun q => h2 q.2]
      rw [e] at k
      exact k
    · walk_at "rd"
      rw [decide_eq_false fun q => h1 q.1] at k
      exact k
end

abbrev s_is_row : Stmt := body.getD 7 (.Pass ⟨0, 0, 0, 0⟩)
abbrev N_is_row : List Str := ["value"]
abbrev P_is_row : List Str := ["value"]
theorem sc_is_row : FnScope N_is_row P_is_row (defScope s_is_row) := ⟨rfl, rfl, rfl, by decide, rfl, by decide, by decide⟩
section
variable {P : Program} {w : World} {K : PySem.W.Frag} {mg : Str → Option Value} {base : Heap} {f f2 : Addr} {fd fd2 : FuncData}
def sp_is_row : Sp := fun vs H Q _ => ∃ (a : Addr) (ns : List Int), vs = [.ref a] ∧ H a = some (.lst (ns.map V.int)) ∧ ns.length ≤ 1000000 ∧ ∀ H', Same H H' → Q (.bl true) H'
theorem ok_is_row (F : Fun K "is_row" "is_row" s_is_row f fd) (T : Blt mg) (C_is_whole : Cal K mg "is_whole" f2 fd2 P_is_whole) (G_is_whole : FnOk P w K mg base CX0 1 f2 fd2 P_is_whole sp_is_whole) : FnOk P w K mg base CX0 2 f fd P_is_row sp_is_row := by
  refine F.ok sc_is_row (fun vs H Q E h => ?_) (fun cdv A outer s H vs Q E hr h => ?_)
  · obtain ⟨_, _, rfl, _⟩ := h
    rfl
  · obtain ⟨a, ns, rfl, ha, hn, k⟩ := h
    have nd := sc_is_row.nd
    have hu := hr.units
    refine ⟨_, (pss_one (ps_ret (pe_and (pe_callB call_isinst rfl T.no_isinstance boot_isinstance (pa_cons (pv 0) (pa_cons (pe_bty rfl T.no_list boot_list) pa_nil))) (pe_one (pe_callB (call_allB rfl) rfl T.no_all boot_all (pa_cons (pe_comp (N := ["sign"]) (k := 1) (caps := []) (Block.of (by kernel_rfl)) rfl (pi_list (pv 0)) (fun _ _ _ _ => ⟨_, (pg_name (i := 0) (by show List.Nodup (["sign"] : List Str); decide) rfl (by first | exact Or.inl rfl | exact Or.inr rfl)), by walk_at "ce"⟩) (fun _ _ _ _ => ⟨_, PIfs.none, by walk_at "ce"⟩) (fun _ _ _ _ => ⟨_, (pe_call G_is_whole (hr.mono (by decide)) rfl C_is_whole.mg C_is_whole.kp C_is_whole.b .nil pass0 (pa_cons (pv 0) pa_nil)), by walk_at "ce"⟩)) pa_nil)))))), ?_⟩
    try simp only [show (cxOf CX0 P w K mg base N_is_row "is_row" (defScope s_is_row) f cdv A outer s H E).nox.K = K from rfl, show (cxOf CX0 P w K mg base N_is_row "is_row" (defScope s_is_row) f cdv A outer s H E).K = K from rfl]
    rw [show L2.start N_is_row [V.ref a] = [some (V.ref a)] from rfl]
    walk_at "rd"
    refine comp_map (ov_ints (ns := ns)) (fun _ => .bl true) (fun H' s' => s'.seq (SqL.of ha)) hn ?_ ?_
    · rintro i z x H3 H4 R R' hi s3 ⟨rfl, rfl⟩ h1
      walk_at "rd"
      refine ⟨⟨rfl, rfl⟩, ?_⟩
      walk_at "rd"
      exact ⟨z, rfl, h1 _ (Same.refl _)⟩
    · intro D H' hD s' hd
      walk_at "rd"
      refine ⟨D, ns.map (fun _ => true), rfl, SqL.of ?_, ?_⟩
      · rw [hd]
        rw [List.map_map]; rfl
      · rw [all_true]
        exact k _ s'
end

abbrev s_checked_row : Stmt := body.getD 8 (.Pass ⟨0, 0, 0, 0⟩)
abbrev N_checked_row : List Str := ["value"]
abbrev P_checked_row : List Str := ["value"]
theorem sc_checked_row : FnScope N_checked_row P_checked_row (defScope s_checked_row) := ⟨rfl, rfl, rfl, by decide, rfl, by decide, by decide⟩
section
variable {P : Program} {w : World} {K : PySem.W.Frag} {mg : Str → Option Value} {base : Heap} {f f2 : Addr} {fd fd2 : FuncData}
def sp_checked_row : Sp := fun vs H Q _ => ∃ (a : Addr) (ns : List Int), vs = [.ref a] ∧ H a = some (.lst (ns.map V.int)) ∧ ns.length ≤ 1000000 ∧ ∀ p H', H p = none → Same H H' → H' p = some (.lst (ns.map V.int)) → Q (.ref p) H'
theorem ok_checked_row (F : Fun K "checked_row" "checked_row" s_checked_row f fd) (T : Blt mg) (C_is_row : Cal K mg "is_row" f2 fd2 P_is_row) (G_is_row : FnOk P w K mg base CX0 2 f2 fd2 P_is_row sp_is_row) : FnOk P w K mg base CX0 3 f fd P_checked_row sp_checked_row := by
  refine F.ok sc_checked_row (fun vs H Q E h => ?_) (fun cdv A outer s H vs Q E hr h => ?_)
  · obtain ⟨_, _, rfl, _⟩ := h
    rfl
  · obtain ⟨a, ns, rfl, ha, hn, k⟩ := h
    have nd := sc_checked_row.nd
    have hu := hr.units
    refine ⟨_, (pss_cons (ps_if (pt_not (pt_val (pe_call G_is_row (hr.mono (by decide)) rfl C_is_row.mg C_is_row.kp C_is_row.b .nil pass0 (pa_cons (pv 0) pa_nil)))) (pss_one ps_never) pss_nil)
     (pss_one (ps_ret (pe_callTy call_listOf rfl T.no_list boot_list (pa_cons (pv 0) pa_nil))))), ?_⟩
    try simp only [show (cxOf CX0 P w K mg base N_checked_row "checked_row" (defScope s_checked_row) f cdv A outer s H E).nox.K = K from rfl, show (cxOf CX0 P w K mg base N_checked_row "checked_row" (defScope s_checked_row) f cdv A outer s H E).K = K from rfl]
    rw [show L2.start N_checked_row [V.ref a] = [some (V.ref a)] from rfl]
    walk_at "rd"
    refine ⟨a, ns, rfl, ha, hn, fun H1 s1 => ?_⟩
    walk_at "rd"
    intro p hp
    walk_at "rd"
    exact k p _ (by walk_at "fr") (by walk_at "sm") (by walk_at "ft")
end

abbrev s_are_places : Stmt := body.getD 9 (.Pass ⟨0, 0, 0, 0⟩)
abbrev N_are_places : List Str := ["places", "count", "ahead", "place"]
abbrev P_are_places : List Str := ["places", "count"]
theorem sc_are_places : FnScope N_are_places P_are_places (defScope s_are_places) := ⟨rfl, rfl, rfl, by decide, rfl, by decide, by decide⟩
section
variable {P : Program} {w : World} {K : PySem.W.Frag} {mg : Str → Option Value} {base : Heap} {f f2 : Addr} {fd fd2 : FuncData}
def sp_are_places : Sp := fun vs H Q _ => ∃ (a : Addr) (ns : List Int) (count : Int), vs = [.ref a, .int count] ∧ H a = some (.lst (ns.map V.int)) ∧ ns.length ≤ 1000000 ∧ ∀ H', Same H H' → Q (.bl (Lf.rising (-1) count ns)) H'
theorem ok_are_places (F : Fun K "are_places" "are_places" s_are_places f fd) (T : Blt mg) (C_is_row : Cal K mg "is_row" f2 fd2 P_is_row) (G_is_row : FnOk P w K mg base CX0 2 f2 fd2 P_is_row sp_is_row) : FnOk P w K mg base CX0 3 f fd P_are_places sp_are_places := by
  refine F.ok sc_are_places (fun vs H Q E h => ?_) (fun cdv A outer s H vs Q E hr h => ?_)
  · obtain ⟨_, _, _, rfl, _⟩ := h
    rfl
  · obtain ⟨a, ns, count, rfl, ha, hn, k⟩ := h
    have nd := sc_are_places.nd
    have hu := hr.units
    refine ⟨_, (pss_cons (ps_if (pt_not (pt_val (pe_call G_is_row (hr.mono (by decide)) rfl C_is_row.mg C_is_row.kp C_is_row.b .nil pass0 (pa_cons (pv 0) pa_nil)))) (pss_one (ps_ret pe_bl)) pss_nil)
     (pss_cons (ps_set (i := 2) nd rfl (by first | exact Or.inl rfl | exact Or.inr rfl) (pe_un un_neg pe_int))
     (pss_cons (ps_for PassesOwn.never rfl (pi_list (pv 0)) (pg_name (i := 3) nd rfl (by first | exact Or.inl rfl | exact Or.inr rfl)) (pss_cons (ps_if (PW.pt (pw_or (pt_cmpR op_le (pv 3) (pv 2) (nomark _)) (pw_or1 (pt_cmpR op_ge (pv 3) (pv 1) (nomark _))))) (pss_one (ps_ret pe_bl)) pss_nil)
     (pss_one (ps_set (i := 2) nd rfl (by first | exact Or.inl rfl | exact Or.inr rfl) (pv 3)))))
     (pss_one (ps_ret pe_bl))))), ?_⟩
    try simp only [show (cxOf CX0 P w K mg base N_are_places "are_places" (defScope s_are_places) f cdv A outer s H E).nox.K = K from rfl, show (cxOf CX0 P w K mg base N_are_places "are_places" (defScope s_are_places) f cdv A outer s H E).K = K from rfl]
    rw [show L2.start N_are_places [V.ref a, V.int count] = [some (V.ref a), some (V.int count), none, none] from rfl]
    walk_at "rd"
    refine ⟨a, ns, rfl, ha, hn, fun H1 s1 => ?_⟩
    walk_at "rd"
    refine for_by (ov_ints (ns := ns)) (fun i σ H2 => ∃ (ahead : Int) (v3 : Option V), σ = [some (V.ref a), some (V.int count), some (V.int ahead), v3] ∧ Same H H2 ∧ Lf.rising (-1) count ns = Lf.rising ahead count (ns.drop i)) ?_ ?_ ?_ ?_
    · exact ⟨-1, _, rfl, s1, rfl⟩
    · rintro i σ H2 _ ⟨_, _, _, s2, _⟩
      exact SqL.of (s2.at ha)
    · rintro i z x σ H2 H3 hy ⟨ahead, v3, rfl, s2, inv⟩ ⟨rfl, rfl⟩
      have step : Lf.rising ahead count (ns.drop i) = (decide (ahead < z) && decide (z < count) && Lf.rising z count (ns.drop (i + 1))) := by
        obtain ⟨l1, e1⟩ := List.getElem?_eq_some_iff.mp hy
        rw [List.drop_eq_getElem_cons l1, e1]; rfl
      walk_at "rd"
      refine iteD (fun h1 => ?_) (fun h1 => ?_)
      · walk_at "rd"
        have e : Lf.rising (-1) count ns = false := by rw [inv, step, decide_eq_false (by omega)]; rfl
        rw [← e]
        exact k _ s2
      · walk_at "rd"
        refine iteD (fun h2 => ?_) (fun h2 => ?_)
        · walk_at "rd"
          have e : Lf.rising (-1) count ns = false := by rw [inv, step, decide_eq_false (p := z < count) (by omega), Bool.and_false]; rfl
          rw [← e]
          exact k _ s2
        · walk_at "rd"
          refine ⟨z, _, rfl, s2, ?_⟩
          rw [inv, step, decide_eq_true (p := ahead < z) (by omega), decide_eq_true (p := z < count) (by omega)]
          rfl
    · rintro σ H2 ⟨ahead, v3, rfl, s2, inv⟩
      walk_at "rd"
      have e : Lf.rising (-1) count ns = true := by rw [inv, List.drop_length]; rfl
      rw [← e]
      exact k _ s2
end

abbrev s_signs_at : Stmt := body.getD 10 (.Pass ⟨0, 0, 0, 0⟩)
abbrev N_signs_at : List Str := ["row", "places"]
abbrev P_signs_at : List Str := ["row", "places"]
theorem sc_signs_at : FnScope N_signs_at P_signs_at (defScope s_signs_at) := ⟨rfl, rfl, rfl, by decide, rfl, by decide, by decide⟩
section
variable {P : Program} {w : World} {K : PySem.W.Frag} {mg : Str → Option Value} {base : Heap} {f : Addr} {fd : FuncData}
def sp_signs_at (K : PySem.W.Frag) : Sp := fun vs H Q _ => ∃ (a c : Addr) (row ps : List Int), vs = [.ref a, .ref c] ∧ SqL K H a (row.map V.int) ∧ SqL K H c (ps.map V.int) ∧ (∀ p ∈ ps, 0 ≤ p ∧ p < (row.length : Int)) ∧ ps.length ≤ 1000000 ∧ ∀ p H', H p = none → Same H H' → H' p = some (.lst ((Lf.picks row ps).map V.int)) → Q (.ref p) H'
theorem ok_signs_at (F : Fun K "signs_at" "signs_at" s_signs_at f fd) (T : Blt mg) : FnOk P w K mg base CX0 1 f fd P_signs_at (sp_signs_at K) := by
  refine F.ok sc_signs_at (fun vs H Q E h => ?_) (fun cdv A outer s H vs Q E hr h => ?_)
  · obtain ⟨_, _, _, _, rfl, _⟩ := h
    rfl
  · obtain ⟨a, c, row, ps, rfl, ha, hc, hin, hn, k⟩ := h
    have nd := sc_signs_at.nd
    have hu := hr.units
    refine ⟨_, (pss_one (ps_ret (pe_comp (N := ["place", "row"]) (k := 1) (caps := [0]) (Block.of (by kernel_rfl)) rfl (pi_list (pv 1)) (fun _ _ _ _ => ⟨_, (pg_name (i := 0) (by show List.Nodup (["place", "row"] : List Str); decide) rfl (by first | exact Or.inl rfl | exact Or.inr rfl)), by walk_at "ce"⟩) (fun _ _ _ _ => ⟨_, PIfs.none, by walk_at "ce"⟩) (fun _ _ _ _ => ⟨_, (pe_ix ix_G (pv 1) (pv 0) (fun _ _ => rfl)), by walk_at "ce"⟩)))), ?_⟩
    try simp only [show (cxOf CX0 P w K mg base N_signs_at "signs_at" (defScope s_signs_at) f cdv A outer s H E).nox.K = K from rfl, show (cxOf CX0 P w K mg base N_signs_at "signs_at" (defScope s_signs_at) f cdv A outer s H E).K = K from rfl]
    rw [show L2.start N_signs_at [V.ref a, V.ref c] = [some (V.ref a), some (V.ref c)] from rfl]
    walk_at "rd"
    refine comp_mapI (ov_ints (ns := ps)) (fun p => row.getD p.toNat 0) (fun H' s' => s'.seq hc) hn ?_ ?_
    · rintro i z x H3 H4 R R' hi s3 ⟨rfl, rfl⟩ h1
      obtain ⟨b1, b2⟩ := hin z (List.mem_of_getElem? hi)
      walk_at "rd"
      refine ⟨⟨rfl, rfl⟩, ?_⟩
      walk_at "rd"
      refine r_ixI (by walk_at "ft") b1 b2 ?_
      exact h1 _ (Same.refl _)
    · intro D H' hD s' hd
      walk_at "rd"
      exact k D H' hD s' hd
end

abbrev s_stands_at : Stmt := body.getD 11 (.Pass ⟨0, 0, 0, 0⟩)
abbrev N_stands_at : List Str := ["row", "other", "places"]
abbrev P_stands_at : List Str := ["row", "other", "places"]
theorem sc_stands_at : FnScope N_stands_at P_stands_at (defScope s_stands_at) := ⟨rfl, rfl, rfl, by decide, rfl, by decide, by decide⟩
section
variable {P : Program} {w : World} {K : PySem.W.Frag} {mg : Str → Option Value} {base : Heap} {f f2 f3 : Addr} {fd fd2 fd3 : FuncData}
def sp_stands_at (K : PySem.W.Frag) : Sp := fun vs H Q _ => ∃ (a b c : Addr) (row other ps : List Int), vs = [.ref a, .ref b, .ref c] ∧ SqL K H a (row.map V.int) ∧ SqL K H b (other.map V.int) ∧ H c = some (.lst (ps.map V.int)) ∧ ps.length ≤ 1000000 ∧ ∀ H', Same H H' → Q (.bl (Lf.stands row ps other)) H'
theorem ok_stands_at (F : Fun K "stands_at" "stands_at" s_stands_at f fd) (T : Blt mg) (C_are_places : Cal K mg "are_places" f2 fd2 P_are_places) (G_are_places : FnOk P w K mg base CX0 3 f2 fd2 P_are_places sp_are_places)
    (C_signs_at : Cal K mg "signs_at" f3 fd3 P_signs_at) (G_signs_at : FnOk P w K mg base CX0 3 f3 fd3 P_signs_at (sp_signs_at K)) : FnOk P w K mg base CX0 4 f fd P_stands_at (sp_stands_at K) := by
  refine F.ok sc_stands_at (fun vs H Q E h => ?_) (fun cdv A outer s H vs Q E hr h => ?_)
  · obtain ⟨_, _, _, _, _, _, rfl, _⟩ := h
    rfl
  · obtain ⟨a, b, c, row, other, ps, rfl, ha, hb, hc, hn, k⟩ := h
    have nd := sc_stands_at.nd
    have hu := hr.units
    refine ⟨_, (pss_one (ps_ret (pe_and (pe_call G_are_places (hr.mono (by decide)) rfl C_are_places.mg C_are_places.kp C_are_places.b .nil pass0 (pa_cons (pv 2) (pa_cons (pe_callB len_G rfl T.no_len boot_len (pa_cons (pv 0) pa_nil)) pa_nil))) (pe_one (pe_cmpR (op_eqG hu) (pe_call G_signs_at (hr.mono (by decide)) rfl C_signs_at.mg C_signs_at.kp C_signs_at.b .nil pass0 (pa_cons (pv 0) (pa_cons (pv 2) pa_nil))) (pv 1) (nomark _)))))), ?_⟩
    try simp only [show (cxOf CX0 P w K mg base N_stands_at "stands_at" (defScope s_stands_at) f cdv A outer s H E).nox.K = K from rfl, show (cxOf CX0 P w K mg base N_stands_at "stands_at" (defScope s_stands_at) f cdv A outer s H E).K = K from rfl]
    rw [show L2.start N_stands_at [V.ref a, V.ref b, V.ref c] = [some (V.ref a), some (V.ref b), some (V.ref c)] from rfl]
    walk_at "rd"
    refine ⟨c, ps, row.length, rfl, hc, hn, fun H1 s1 => ?_⟩
    rw [Lf.stands_picks] at k
    walk_at "rd"
    refine iteB (fun h1 => ?_) (fun h1 => ?_)
    · walk_at "rd"
      refine ⟨a, c, row, ps, rfl, s1.seq ha, SqL.of (s1.at hc), fun p hp => ?_, hn, fun d H2 hd s2 h2 => ?_⟩
      · have := Lf.rising_in ps _ _ h1 p hp
        omega
      have hb2 : SqL K H2 b (other.map V.int) := (s1.trans s2).seq hb
      walk_at "rd"
      rw [h1, Bool.true_and] at k
      exact k _ (s1.trans s2)
    · walk_at "rd"
      rw [h1, Bool.false_and] at k
      exact k _ s1
end

abbrev s_earliest_places : Stmt := body.getD 12 (.Pass ⟨0, 0, 0, 0⟩)
abbrev N_earliest_places : List Str := ["row", "other", "places", "place", "sign"]
abbrev P_earliest_places : List Str := ["row", "other"]
theorem sc_earliest_places : FnScope N_earliest_places P_earliest_places (defScope s_earliest_places) := ⟨rfl, rfl, rfl, by decide, rfl, by decide, by decide⟩
section
variable {P : Program} {w : World} {K : PySem.W.Frag} {mg : Str → Option Value} {base : Heap} {f : Addr} {fd : FuncData}
def sp_earliest_places (K : PySem.W.Frag) : Sp := fun vs H Q _ => ∃ (a b : Addr) (row other : List Int), vs = [.ref a, .ref b] ∧ SqL K H a (row.map V.int) ∧ SqL K H b (other.map V.int) ∧ row.length ≤ 100000 ∧ ∀ p H', H p = none → Same H H' → H' p = some (.lst ((Lf.earliest row other).map V.int)) → Q (.ref p) H'
theorem ok_earliest_places (F : Fun K "earliest_places" "earliest_places" s_earliest_places f fd) (T : Blt mg) : FnOk P w K mg base CX0 1 f fd P_earliest_places (sp_earliest_places K) := by
  refine F.ok sc_earliest_places (fun vs H Q E h => ?_) (fun cdv A outer s H vs Q E hr h => ?_)
  · obtain ⟨_, _, _, _, rfl, _⟩ := h
    rfl
  · obtain ⟨a, b, row, other, rfl, ha, hb, hn, k⟩ := h
    have nd := sc_earliest_places.nd
    have hu := hr.units
    refine ⟨_, (pss_cons (ps_set (i := 2) nd rfl (by first | exact Or.inl rfl | exact Or.inr rfl) (pe_lst pa_nil))
     (pss_cons (ps_for PassesOwn.never rfl (pi_enum rfl T.no_enumerate boot_enumerate (pa_cons (pv 0) pa_nil)) (pg_tup (n := 2) rfl (pgs_cons (pg_name (i := 3) nd rfl (by first | exact Or.inl rfl | exact Or.inr rfl)) (pgs_cons (pg_name (i := 4) nd rfl (by first | exact Or.inl rfl | exact Or.inr rfl)) pgs_nil))) (pss_cons (ps_if (pt_cmpR (op_eqG hu) (pe_callB len_G rfl T.no_len boot_len (pa_cons (pv 2) pa_nil)) (pe_callB len_G rfl T.no_len boot_len (pa_cons (pv 1) pa_nil)) (nomark _)) (pss_one ps_break) pss_nil)
     (pss_one (ps_if (pt_cmpR (op_eqG hu) (pv 4) (pe_ix ix_G (pv 1) (pe_callB len_G rfl T.no_len boot_len (pa_cons (pv 2) pa_nil)) (fun _ _ => rfl)) (nomark _)) (pss_one (ps_expr (pe_bm PySem.F.plainAttrs_list PySem.F.slot_list_append PySem.F.type_list_append mr_append (pv 2) (pa_cons (pv 3) pa_nil)))) pss_nil))))
     (pss_one (ps_ret (pv 2))))), ?_⟩
    try simp only [show (cxOf CX0 P w K mg base N_earliest_places "earliest_places" (defScope s_earliest_places) f cdv A outer s H E).nox.K = K from rfl, show (cxOf CX0 P w K mg base N_earliest_places "earliest_places" (defScope s_earliest_places) f cdv A outer s H E).K = K from rfl]
    rw [show L2.start N_earliest_places [V.ref a, V.ref b] = [some (V.ref a), some (V.ref b), none, none, none] from rfl]
    walk_at "rd"
    intro r hr0
    walk_at "rd"
    refine for_by (ov_enumI (xs := row)) (fun i σ H2 => ∃ (pl : List Int) (v3 v4 : Option V), σ = [some (.ref a), some (.ref b), some (.ref r), v3, v4] ∧ Same H H2 ∧ H2 r = some (.lst (pl.map V.int)) ∧ pl.length ≤ i ∧ pl.length ≤ other.length ∧ Lf.earliest row other = pl ++ Lf.earl i (row.drop i) (other.drop pl.length)) ?_ ?_ ?_ ?_
    · exact ⟨[], _, _, rfl, by walk_at "sm", by walk_at "ft", Nat.le_refl _, Nat.zero_le _, rfl⟩
    · rintro i σ H2 _ ⟨_, _, _, _, s2, _⟩
      exact s2.seq ha
    · rintro i ⟨z, j⟩ x σ H2 H3 hy ⟨pl, v3, v4, rfl, s2, h2, l1, l2, inv⟩ ⟨T', hT, rfl, rfl⟩
      rw [List.getElem?_zipIdx] at hy
      obtain ⟨z', e1, e2⟩ := Option.map_eq_some_iff.mp hy
      have ej : j = i := by have := congrArg Prod.snd e2; simpa using this.symm
      have ez : z' = z := congrArg Prod.fst e2
      subst ej ez
      obtain ⟨hi, e1⟩ := List.getElem?_eq_some_iff.mp e1
      have d1 : row.drop j = z' :: row.drop (j + 1) := by rw [List.drop_eq_getElem_cons hi, e1]
      walk_at "rd"
      refine iteD (fun h1 => ?_) (fun h1 => ?_)
      · walk_at "rd"
        have d2 : other.drop pl.length = [] := List.drop_of_length_le (by omega)
        rw [d2, Lf.earl_nil, List.append_nil] at inv
        exact k r _ hr0 (by walk_at "sm") (by rw [inv]; walk_at "ft")
      · walk_at "rd"
        refine r_ixI (by walk_at "ft") (by omega) (by omega) ?_
        walk_at "rd"
        have ho : pl.length < other.length := by omega
        have d2 : other.drop pl.length = other.getD ((pl.length : Int)).toNat 0 :: other.drop (pl.length + 1) := by
          rw [List.drop_eq_getElem_cons ho, Int.toNat_natCast, List.getD_eq_getElem?_getD]
          simp [ho]
        refine iteD (fun h3 => ?_) (fun h3 => ?_)
        · walk_at "rd"
          refine r_appI (by walk_at "ft") (by omega) ?_
          walk_at "rd"
          refine ⟨pl ++ [(j : Int)], _, _, rfl, by walk_at "sm", by walk_at "ft", by simp; omega, by simp; omega, ?_⟩
          rw [inv, d1, d2, Lf.earl, if_pos h3]
          simp
        · walk_at "rd"
          refine ⟨pl, _, _, rfl, by walk_at "sm", by walk_at "ft", by omega, by omega, ?_⟩
          rw [inv, d1, d2, Lf.earl, if_neg h3]
          simp
    · rintro σ H2 ⟨pl, v3, v4, rfl, s2, h2, l1, l2, inv⟩
      walk_at "rd"
      rw [List.length_zipIdx, List.drop_length, Lf.earl_none, List.append_nil] at inv
      exact k r _ hr0 (by walk_at "sm") (by rw [inv]; walk_at "ft")
end

abbrev s_is_left : Stmt := body.getD 13 (.Pass ⟨0, 0, 0, 0⟩)
abbrev N_is_left : List Str := ["row", "other"]
abbrev P_is_left : List Str := ["row", "other"]
theorem sc_is_left : FnScope N_is_left P_is_left (defScope s_is_left) := ⟨rfl, rfl, rfl, by decide, rfl, by decide, by decide⟩
section
variable {P : Program} {w : World} {K : PySem.W.Frag} {mg : Str → Option Value} {base : Heap} {f f2 : Addr} {fd fd2 : FuncData}
def sp_is_left (K : PySem.W.Frag) : Sp := fun vs H Q _ => ∃ (a b : Addr) (row other : List Int), vs = [.ref a, .ref b] ∧ SqL K H a (row.map V.int) ∧ SqL K H b (other.map V.int) ∧ row.length ≤ 100000 ∧ ∀ H', Same H H' → Q (.bl (Lf.isLeft row other)) H'
theorem ok_is_left (F : Fun K "is_left" "is_left" s_is_left f fd) (T : Blt mg) (C_earliest_places : Cal K mg "earliest_places" f2 fd2 P_earliest_places) (G_earliest_places : FnOk P w K mg base CX0 1 f2 fd2 P_earliest_places (sp_earliest_places K)) : FnOk P w K mg base CX0 2 f fd P_is_left (sp_is_left K) := by
  refine F.ok sc_is_left (fun vs H Q E h => ?_) (fun cdv A outer s H vs Q E hr h => ?_)
  · obtain ⟨_, _, _, _, rfl, _⟩ := h
    rfl
  · obtain ⟨a, b, row, other, rfl, ha, hb, hn, k⟩ := h
    have nd := sc_is_left.nd
    have hu := hr.units
    refine ⟨_, (pss_one (ps_ret (pe_cmpR (op_eqG hu) (pe_callB len_G rfl T.no_len boot_len (pa_cons (pe_call G_earliest_places (hr.mono (by decide)) rfl C_earliest_places.mg C_earliest_places.kp C_earliest_places.b .nil pass0 (pa_cons (pv 0) (pa_cons (pv 1) pa_nil))) pa_nil)) (pe_callB len_G rfl T.no_len boot_len (pa_cons (pv 1) pa_nil)) (nomark _)))), ?_⟩
    try simp only [show (cxOf CX0 P w K mg base N_is_left "is_left" (defScope s_is_left) f cdv A outer s H E).nox.K = K from rfl, show (cxOf CX0 P w K mg base N_is_left "is_left" (defScope s_is_left) f cdv A outer s H E).K = K from rfl]
    rw [show L2.start N_is_left [V.ref a, V.ref b] = [some (V.ref a), some (V.ref b)] from rfl]
    walk_at "rd"
    refine ⟨a, b, row, other, rfl, ha, hb, hn, fun p H1 hp s1 h1 => ?_⟩
    walk_at "rd"
    have e : Lf.isLeft row other = decide (((Lf.earliest row other).length : Int) = other.length) := by
      have := Lf.earl_all row other 0
      have q := Lf.isLeft_iff row other
      by_cases h : Lf.isLeft row other = true
      · rw [h]
        have e2 := this.mpr (q.mp h)
        unfold Lf.earliest
        rw [e2]; simp
      · have e2 : ¬ (Lf.earl 0 row other).length = other.length := fun z => h (q.mpr (this.mp z))
        rw [Bool.eq_false_iff.mpr h]
        unfold Lf.earliest
        rw [decide_eq_false (by omega)]
    rw [← e]
    exact k _ s1
end

def sp_Left_shows (C : Addr) : Sp := fun vs H Q _ => ∃ (x dx pl a b : Addr) (ps row other : List Int), vs = [.ref x, .ref a, .ref b] ∧ H x = some (.ins C dx [("places", .ref pl)]) ∧ H pl = some (.lst (ps.map V.int)) ∧ H a = some (.lst (row.map V.int)) ∧ H b = some (.lst (other.map V.int)) ∧ ps.length ≤ 1000 ∧ row.length ≤ 1000 ∧ other.length ≤ 1000 ∧ ∀ H', Same H H' → Q (.bl (Lf.stands row ps other)) H'
def sp_Short_shows (C : Addr) : Sp := fun vs H Q _ => ∃ (x dx pl a b : Addr) (ps row other : List Int), vs = [.ref x, .ref a, .ref b] ∧ H x = some (.ins C dx [("places", .ref pl)]) ∧ H pl = some (.lst (ps.map V.int)) ∧ H a = some (.lst (row.map V.int)) ∧ H b = some (.lst (other.map V.int)) ∧ ps.length ≤ 1000 ∧ row.length ≤ 1000 ∧ other.length ≤ 1000 ∧ ∀ H', Same H H' → Q (.bl (Lf.short row other ps)) H'
def sp_left (kL kS : Addr) : Sp := fun vs H Q _ => ∃ (a b : Addr) (row other : List Int), vs = [.ref a, .ref b] ∧ H a = some (.lst (row.map V.int)) ∧ H b = some (.lst (other.map V.int)) ∧ row.length ≤ 1000 ∧ other.length ≤ 1000 ∧
  ∀ (C x dx pl : Addr) (ps : List Int) H', H x = none → H pl = none → x ≠ pl → Same H H' → H' x = some (.ins C dx [("places", .ref pl)]) → H' pl = some (.lst (ps.map V.int)) →
    ((C = kL ∧ Lf.stands row ps other = true) ∨ (C = kS ∧ Lf.short row other ps = true)) → Q (.ref x) H'

abbrev s_Left___init__ : Stmt := (inClass (body.getD 26 (.Pass ⟨0, 0, 0, 0⟩)) 0)
abbrev N_Left___init__ : List Str := ["self", "places"]
abbrev P_Left___init__ : List Str := ["self", "places"]
theorem sc_Left___init__ : FnScope N_Left___init__ P_Left___init__ (defScope s_Left___init__) := ⟨rfl, rfl, rfl, by decide, rfl, by decide, by decide⟩
abbrev s_Short___init__ : Stmt := (inClass (body.getD 27 (.Pass ⟨0, 0, 0, 0⟩)) 0)
abbrev N_Short___init__ : List Str := ["self", "places"]
abbrev P_Short___init__ : List Str := ["self", "places"]
theorem sc_Short___init__ : FnScope N_Short___init__ P_Short___init__ (defScope s_Short___init__) := ⟨rfl, rfl, rfl, by decide, rfl, by decide, by decide⟩
abbrev s_Left_shows : Stmt := (inClass (body.getD 26 (.Pass ⟨0, 0, 0, 0⟩)) 1)
abbrev N_Left_shows : List Str := ["self", "row", "other"]
abbrev P_Left_shows : List Str := ["self", "row", "other"]
theorem sc_Left_shows : FnScope N_Left_shows P_Left_shows (defScope s_Left_shows) := ⟨rfl, rfl, rfl, by decide, rfl, by decide, by decide⟩
abbrev s_Short_shows : Stmt := (inClass (body.getD 27 (.Pass ⟨0, 0, 0, 0⟩)) 1)
abbrev N_Short_shows : List Str := ["self", "row", "other", "many"]
abbrev P_Short_shows : List Str := ["self", "row", "other"]
theorem sc_Short_shows : FnScope N_Short_shows P_Short_shows (defScope s_Short_shows) := ⟨rfl, rfl, rfl, by decide, rfl, by decide, by decide⟩
abbrev s_left : Stmt := body.getD 34 (.Pass ⟨0, 0, 0, 0⟩)
abbrev N_left : List Str := ["row", "other", "signs", "asked", "places"]
abbrev P_left : List Str := ["row", "other"]
theorem sc_left : FnScope N_left P_left (defScope s_left) := ⟨rfl, rfl, rfl, by decide, rfl, by decide, by decide⟩
section
variable {P : Program} {w : World} {K : PySem.W.Frag} {mg : Str → Option Value} {base : Heap} {f f1 f2 f3 f4 k_Left k_Short : Addr} {fd fd1 fd2 fd3 fd4 : FuncData}
def sp_init1 (C : Addr) : Sp := fun vs H Q _ => ∃ (x dx a : Addr) (ps : List Int), vs = [.ref x, .ref a] ∧ H x = some (.ins C dx []) ∧ H a = some (.lst (ps.map V.int)) ∧ ∀ pl H', H pl = none → SameBut [x] H H' → H' x = some (.ins C dx [("places", .ref pl)]) → H' pl = some (.lst (ps.map V.int)) → Q .non H'
theorem ok_Left___init__ (F : Fun K "__init__" "Left.__init__" s_Left___init__ f fd) (T : Blt mg) (I_Left : Ins K k_Left) (n_Left_places : NoAttr K k_Left "places") : FnOk P w K mg base CX0 1 f fd P_Left___init__ (sp_init1 k_Left) := by
  refine F.ok sc_Left___init__ (fun vs H Q E h => ?_) (fun cdv A outer s H vs Q E hr h => ?_)
  · obtain ⟨_, _, _, _, rfl, _⟩ := h
    rfl
  · obtain ⟨x, dx, a, ps, rfl, hx, ha, k⟩ := h
    have nd := sc_Left___init__.nd
    have hu := hr.units
    refine ⟨_, (pss_one (ps_fld (pv 0) (pe_callTy call_listOf rfl T.no_list boot_list (pa_cons (pv 1) pa_nil)) rfl)), ?_⟩
    try simp only [show (cxOf CX0 P w K mg base N_Left___init__ "Left.__init__" (defScope s_Left___init__) f cdv A outer s H E).nox.K = K from rfl, show (cxOf CX0 P w K mg base N_Left___init__ "Left.__init__" (defScope s_Left___init__) f cdv A outer s H E).K = K from rfl]
    rw [show L2.start N_Left___init__ [V.ref x, V.ref a] = [some (V.ref x), some (V.ref a)] from rfl]
    walk_at "rd"
    intro pl hpl
    walk_at "rd"
    have xpl : pl ≠ x := Ne.symm (ne_of_none hx hpl)
    exact k pl _ hpl ((Same.upd_new hpl).but.upd (by simp)) upd_same (by walk_at "ft")
theorem ok_Short___init__ (F : Fun K "__init__" "Short.__init__" s_Short___init__ f fd) (T : Blt mg) (I_Short : Ins K k_Short) (n_Short_places : NoAttr K k_Short "places") : FnOk P w K mg base CX0 1 f fd P_Short___init__ (sp_init1 k_Short) := by
  refine F.ok sc_Short___init__ (fun vs H Q E h => ?_) (fun cdv A outer s H vs Q E hr h => ?_)
  · obtain ⟨_, _, _, _, rfl, _⟩ := h
    rfl
  · obtain ⟨x, dx, a, ps, rfl, hx, ha, k⟩ := h
    have nd := sc_Short___init__.nd
    have hu := hr.units
    refine ⟨_, (pss_one (ps_fld (pv 0) (pe_callTy call_listOf rfl T.no_list boot_list (pa_cons (pv 1) pa_nil)) rfl)), ?_⟩
    try simp only [show (cxOf CX0 P w K mg base N_Short___init__ "Short.__init__" (defScope s_Short___init__) f cdv A outer s H E).nox.K = K from rfl, show (cxOf CX0 P w K mg base N_Short___init__ "Short.__init__" (defScope s_Short___init__) f cdv A outer s H E).K = K from rfl]
    rw [show L2.start N_Short___init__ [V.ref x, V.ref a] = [some (V.ref x), some (V.ref a)] from rfl]
    walk_at "rd"
    intro pl hpl
    walk_at "rd"
    have xpl : pl ≠ x := Ne.symm (ne_of_none hx hpl)
    exact k pl _ hpl ((Same.upd_new hpl).but.upd (by simp)) upd_same (by walk_at "ft")
theorem ok_Left_shows (F : Fun K "shows" "Left.shows" s_Left_shows f fd) (T : Blt mg) (I_Left : Ins K k_Left) (n_Left_places : NoAttr K k_Left "places")
    (C_stands_at : Cal K mg "stands_at" f1 fd1 P_stands_at) (G_stands_at : FnOk P w K mg base CX0 4 f1 fd1 P_stands_at (sp_stands_at K)) : FnOk P w K mg base CX0 5 f fd P_Left_shows (sp_Left_shows k_Left) := by
  refine F.ok sc_Left_shows (fun vs H Q E h => ?_) (fun cdv A outer s H vs Q E hr h => ?_)
  · obtain ⟨_, _, _, _, _, _, _, _, rfl, _⟩ := h
    rfl
  · obtain ⟨x, dx, pl, a, b, ps, row, other, rfl, hx, hpl, ha, hb, l1, l2, l3, k⟩ := h
    have nd := sc_Left_shows.nd
    have hu := hr.units
    refine ⟨_, (pss_one (ps_ret (pe_call G_stands_at (hr.mono (by decide)) rfl C_stands_at.mg C_stands_at.kp C_stands_at.b .nil pass0 (pa_cons (pv 1) (pa_cons (pv 2) (pa_cons (pe_fld (pv 0) rfl) pa_nil)))))), ?_⟩
    try simp only [show (cxOf CX0 P w K mg base N_Left_shows "Left.shows" (defScope s_Left_shows) f cdv A outer s H E).nox.K = K from rfl, show (cxOf CX0 P w K mg base N_Left_shows "Left.shows" (defScope s_Left_shows) f cdv A outer s H E).K = K from rfl]
    rw [show L2.start N_Left_shows [V.ref x, V.ref a, V.ref b] = [some (V.ref x), some (V.ref a), some (V.ref b)] from rfl]
    walk_at "rd"
    exact ⟨a, b, pl, row, other, ps, rfl, SqL.of ha, SqL.of hb, hpl, by omega, k⟩
theorem ok_Short_shows (F : Fun K "shows" "Short.shows" s_Short_shows f fd) (T : Blt mg) (I_Short : Ins K k_Short) (n_Short_places : NoAttr K k_Short "places")
    (C_stands_at : Cal K mg "stands_at" f1 fd1 P_stands_at) (G_stands_at : FnOk P w K mg base CX0 4 f1 fd1 P_stands_at (sp_stands_at K))
    (C_earliest_places : Cal K mg "earliest_places" f2 fd2 P_earliest_places) (G_earliest_places : FnOk P w K mg base CX0 1 f2 fd2 P_earliest_places (sp_earliest_places K)) : FnOk P w K mg base CX0 5 f fd P_Short_shows (sp_Short_shows k_Short) := by
  refine F.ok sc_Short_shows (fun vs H Q E h => ?_) (fun cdv A outer s H vs Q E hr h => ?_)
  · obtain ⟨_, _, _, _, _, _, _, _, rfl, _⟩ := h
    rfl
  · obtain ⟨x, dx, pl, a, b, ps, row, other, rfl, hx, hpl, ha, hb, l1, l2, l3, k⟩ := h
    have nd := sc_Short_shows.nd
    have hu := hr.units
    refine ⟨_, (pss_cons (ps_set (i := 3) nd rfl (by first | exact Or.inl rfl | exact Or.inr rfl) (pe_callB len_G rfl T.no_len boot_len (pa_cons (pe_fld (pv 0) rfl) pa_nil)))
     (pss_cons (ps_if (PW.pt (pw_or (pt_cmpR op_ge (pv 3) (pe_callB len_G rfl T.no_len boot_len (pa_cons (pv 2) pa_nil)) (nomark _)) (pw_or1 (pt_not (pt_val (pe_call G_stands_at (hr.mono (by decide)) rfl C_stands_at.mg C_stands_at.kp C_stands_at.b .nil pass0 (pa_cons (pv 1) (pa_cons (pe_slice sl_list (pv 2) po_none (po_some (pv 3))) (pa_cons (pe_fld (pv 0) rfl) pa_nil))))))))) (pss_one (ps_ret pe_bl)) pss_nil)
     (pss_one (ps_ret (pe_cmpR (op_eqG hu) (pe_fld (pv 0) rfl) (pe_call G_earliest_places (hr.mono (by decide)) rfl C_earliest_places.mg C_earliest_places.kp C_earliest_places.b .nil pass0 (pa_cons (pv 1) (pa_cons (pv 2) pa_nil))) (nomark _)))))), ?_⟩
    try simp only [show (cxOf CX0 P w K mg base N_Short_shows "Short.shows" (defScope s_Short_shows) f cdv A outer s H E).nox.K = K from rfl, show (cxOf CX0 P w K mg base N_Short_shows "Short.shows" (defScope s_Short_shows) f cdv A outer s H E).K = K from rfl]
    rw [show L2.start N_Short_shows [V.ref x, V.ref a, V.ref b] = [some (V.ref x), some (V.ref a), some (V.ref b), none] from rfl]
    walk_at "rd"
    refine iteD (fun h1 => ?_) (fun h1 => ?_)
    · walk_at "rd"
      rw [Lf.short_eq, decide_eq_false (by omega), Bool.false_and] at k
      exact k _ (by walk_at "sm")
    · walk_at "rd"
      intro q hq
      walk_at "rd"
      have et : (other.take ((ps.length : Int)).toNat) = other.take ps.length := by rw [Int.toNat_natCast]
      try rw [et]
      have s1 : Same H (upd H q (.lst ((other.take ps.length).map V.int))) := Same.upd_new hq
      refine ⟨a, q, pl, row, other.take ps.length, ps, rfl, s1.seq (SqL.of ha), SqL.of upd_same, s1.at hpl, by omega, fun H2 s2 => ?_⟩
      have s02 := s1.trans s2
      clear s1 s2
      have hx2 := s02.at hx
      have hpl2 := s02.at hpl
      have ha2 := s02.at ha
      have hb2 := s02.at hb
      walk_at "rd"
      refine iteNB (fun h2 => ?_) (fun h2 => ?_)
      · walk_at "rd"
        have e : Lf.short row other ps = false := by
          rw [Bool.eq_false_iff]
          intro z
          rw [(Lf.short_parts z).2.1] at h2
          cases h2
        rw [e] at k
        exact k _ s02
      · walk_at "rd"
        refine ⟨a, b, row, other, rfl, SqL.of ha2, SqL.of hb2, by omega, fun p H3 hp s3 h3 => ?_⟩
        walk_at "rd"
        rw [Lf.short_eq, decide_eq_true (by omega), Bool.true_and] at k
        exact k _ (s02.trans s3)
theorem ok_left (F : Fun K "left" "left" s_left f fd) (T : Blt mg)
    (C_checked_row : Cal K mg "checked_row" f1 fd1 P_checked_row) (G_checked_row : FnOk P w K mg base CX0 3 f1 fd1 P_checked_row sp_checked_row)
    (C_earliest_places : Cal K mg "earliest_places" f2 fd2 P_earliest_places) (G_earliest_places : FnOk P w K mg base CX0 1 f2 fd2 P_earliest_places (sp_earliest_places K))
    (M_Left : Mak K mg "Left" k_Left f3 fd3 P_Left___init__) (G_Left___init__ : FnOk P w K mg base CX0 1 f3 fd3 P_Left___init__ (sp_init1 k_Left))
    (M_Short : Mak K mg "Short" k_Short f4 fd4 P_Short___init__) (G_Short___init__ : FnOk P w K mg base CX0 1 f4 fd4 P_Short___init__ (sp_init1 k_Short))
    : FnOk P w K mg base CX0 4 f fd P_left (sp_left k_Left k_Short) := by
  refine F.ok sc_left (fun vs H Q E h => ?_) (fun cdv A outer s H vs Q E hr h => ?_)
  · obtain ⟨_, _, _, _, rfl, _⟩ := h
    rfl
  · obtain ⟨a, b, row, other, rfl, ha, hb, l1, l2, k⟩ := h
    have nd := sc_left.nd
    have hu := hr.units
    refine ⟨_, (pss_cons (ps_set (i := 2) nd rfl (by first | exact Or.inl rfl | exact Or.inr rfl) (pe_call G_checked_row (hr.mono (by decide)) rfl C_checked_row.mg C_checked_row.kp C_checked_row.b .nil pass0 (pa_cons (pv 0) pa_nil)))
     (pss_cons (ps_set (i := 3) nd rfl (by first | exact Or.inl rfl | exact Or.inr rfl) (pe_call G_checked_row (hr.mono (by decide)) rfl C_checked_row.mg C_checked_row.kp C_checked_row.b .nil pass0 (pa_cons (pv 1) pa_nil)))
     (pss_cons (ps_set (i := 4) nd rfl (by first | exact Or.inl rfl | exact Or.inr rfl) (pe_call G_earliest_places (hr.mono (by decide)) rfl C_earliest_places.mg C_earliest_places.kp C_earliest_places.b .nil pass0 (pa_cons (pv 2) (pa_cons (pv 3) pa_nil))))
     (pss_cons (ps_if (pt_cmpR (op_eqG hu) (pe_callB len_G rfl T.no_len boot_len (pa_cons (pv 4) pa_nil)) (pe_callB len_G rfl T.no_len boot_len (pa_cons (pv 3) pa_nil)) (nomark _)) (pss_one (ps_ret (pe_make M_Left.mkk G_Left___init__ (hr.mono (by decide)) rfl M_Left.mg M_Left.b .nil pass0 (pa_cons (pv 4) pa_nil)))) pss_nil)
     (pss_one (ps_ret (pe_make M_Short.mkk G_Short___init__ (hr.mono (by decide)) rfl M_Short.mg M_Short.b .nil pass0 (pa_cons (pv 4) pa_nil)))))))), ?_⟩
    try simp only [show (cxOf CX0 P w K mg base N_left "left" (defScope s_left) f cdv A outer s H E).nox.K = K from rfl, show (cxOf CX0 P w K mg base N_left "left" (defScope s_left) f cdv A outer s H E).K = K from rfl]
    rw [show L2.start N_left [V.ref a, V.ref b] = [some (V.ref a), some (V.ref b), none, none, none] from rfl]
    walk_at "rd"
    refine ⟨a, row, rfl, ha, by omega, fun a2 H1 ha2 s1 h1 => ?_⟩
    walk_at "rd"
    refine ⟨b, other, rfl, s1.at hb, by omega, fun b2 H2 hb2 s2 h2 => ?_⟩
    walk_at "rd"
    refine ⟨a2, b2, row, other, rfl, SqL.of (by walk_at "ft"), SqL.of (by walk_at "ft"), by omega, fun p H3 hp s3 h3 => ?_⟩
    walk_at "rd"
    refine iteD (fun h => ?_) (fun h => ?_)
    · walk_at "rd"
      intro x dx hx hdx xdx
      refine ⟨x, dx, p, _, rfl, upd_same, by walk_at "ft", fun pl H4 hpl s4 h4 h5 => ⟨rfl, ?_⟩⟩
      have pl0 := free_upd (free_upd hpl)
      refine k k_Left x dx pl _ H4 (by walk_at "fr") (by walk_at "fr") (ne_of_none (H := upd (upd H3 dx (.own x)) x (.ins k_Left dx [])) upd_same hpl) ?_ h4 h5 (.inl ⟨rfl, Lf.earliest_stands (by omega)⟩)
      have s03 : Same H H3 := by walk_at "sm"
      intro b' o hb'
      refine s4 b' o (upd_keepNe (upd_keep (s03 _ _ hb') hdx) (ne_of_none hb' (s03.free hx))) ?_
      have := ne_of_none hb' (s03.free hx)
      simpa using this
    · walk_at "rd"
      intro x dx hx hdx xdx
      refine ⟨x, dx, p, _, rfl, upd_same, by walk_at "ft", fun pl H4 hpl s4 h4 h5 => ⟨rfl, ?_⟩⟩
      have pl0 := free_upd (free_upd hpl)
      refine k k_Short x dx pl _ H4 (by walk_at "fr") (by walk_at "fr") (ne_of_none (H := upd (upd H3 dx (.own x)) x (.ins k_Short dx [])) upd_same hpl) ?_ h4 h5 (.inr ⟨rfl, Lf.earliest_short (by omega)⟩)
      have s03 : Same H H3 := by walk_at "sm"
      intro b' o hb'
      refine s4 b' o (upd_keepNe (upd_keep (s03 _ _ hb') hdx) (ne_of_none hb' (s03.free hx))) ?_
      have := ne_of_none hb' (s03.free hx)
      simpa using this
end

abbrev s_has_all_kinds : Stmt := body.getD 23 (.Pass ⟨0, 0, 0, 0⟩)
abbrev N_has_all_kinds : List Str := ["signs", "kinds"]
abbrev P_has_all_kinds : List Str := ["signs", "kinds"]
theorem sc_has_all_kinds : FnScope N_has_all_kinds P_has_all_kinds (defScope s_has_all_kinds) := ⟨rfl, rfl, rfl, by decide, rfl, by decide, by decide⟩
abbrev s_are_cuts : Stmt := body.getD 24 (.Pass ⟨0, 0, 0, 0⟩)
abbrev N_are_cuts : List Str := ["cuts", "row", "kinds"]
abbrev P_are_cuts : List Str := ["cuts", "row", "kinds"]
theorem sc_are_cuts : FnScope N_are_cuts P_are_cuts (defScope s_are_cuts) := ⟨rfl, rfl, rfl, by decide, rfl, by decide, by decide⟩
abbrev s_least_unseen : Stmt := body.getD 35 (.Pass ⟨0, 0, 0, 0⟩)
abbrev N_least_unseen : List Str := ["seen", "kind"]
abbrev P_least_unseen : List Str := ["seen"]
theorem sc_least_unseen : FnScope N_least_unseen P_least_unseen (defScope s_least_unseen) := ⟨rfl, rfl, rfl, by decide, rfl, by decide, by decide⟩
abbrev s_missing : Stmt := body.getD 36 (.Pass ⟨0, 0, 0, 0⟩)
abbrev N_missing : List Str := ["row", "kinds", "signs", "cuts", "word", "seen", "place", "sign"]
abbrev P_missing : List Str := ["row", "kinds"]
theorem sc_missing : FnScope N_missing P_missing (defScope s_missing) := ⟨rfl, rfl, rfl, by decide, rfl, by decide, by decide⟩
abbrev s_Missing___init__ : Stmt := (inClass (body.getD 30 (.Pass ⟨0, 0, 0, 0⟩)) 0)
abbrev N_Missing___init__ : List Str := ["self", "cuts", "word"]
abbrev P_Missing___init__ : List Str := ["self", "cuts", "word"]
theorem sc_Missing___init__ : FnScope N_Missing___init__ P_Missing___init__ (defScope s_Missing___init__) := ⟨rfl, rfl, rfl, by decide, rfl, by decide, by decide⟩
abbrev s_Missing_shows : Stmt := (inClass (body.getD 30 (.Pass ⟨0, 0, 0, 0⟩)) 1)
abbrev N_Missing_shows : List Str := ["self", "row", "kinds"]
abbrev P_Missing_shows : List Str := ["self", "row", "kinds"]
theorem sc_Missing_shows : FnScope N_Missing_shows P_Missing_shows (defScope s_Missing_shows) := ⟨rfl, rfl, rfl, by decide, rfl, by decide, by decide⟩
section
variable {P : Program} {w : World} {K : PySem.W.Frag} {mg : Str → Option Value} {base : Heap} {f f1 f2 f3 f4 f5 k_Missing : Addr} {fd fd1 fd2 fd3 fd4 fd5 : FuncData}
structure MisAt (C : Addr) (H : Hp) (x dx : Addr) (fs : List (Str × V)) (c q : Addr) (cuts word : List Int) : Prop where
  ob : H x = some (.ins C dx fs)
  fc : fs.lookup ("cuts" : Str) = some (.ref c)
  fw : fs.lookup ("word" : Str) = some (.ref q)
  fn : fs.lookup ("shows" : Str) = none
  hc : H c = some (.lst (cuts.map V.int))
  hq : H q = some (.lst (word.map V.int))
theorem MisAt.same {C : Addr} {H H' : Hp} {x dx : Addr} {fs : List (Str × V)} {c q : Addr} {cuts word : List Int} (L : MisAt C H x dx fs c q cuts word) (s : Same H H') : MisAt C H' x dx fs c q cuts word := ⟨s.at L.ob, L.fc, L.fw, L.fn, s.at L.hc, s.at L.hq⟩
def sp_has_all_kinds (K : PySem.W.Frag) : Sp := fun vs H Q _ => ∃ (a : Addr) (l : List Int) (kinds : Int), vs = [.ref a, .int kinds] ∧ SqL K H a (l.map V.int) ∧ l.length ≤ 4000 ∧ ∀ H', Same H H' → Q (.bl (decide ((Lf.kindsIn kinds l : Int) = kinds))) H'
theorem ok_has_all_kinds (F : Fun K "has_all_kinds" "has_all_kinds" s_has_all_kinds f fd) (T : Blt mg) (C_is_count : Cal K mg "is_count" f1 fd1 P_is_count) (G_is_count : FnOk P w K mg base CX0 2 f1 fd1 P_is_count sp_is_count) : FnOk P w K mg base CX0 3 f fd P_has_all_kinds (sp_has_all_kinds K) := by
  refine F.ok sc_has_all_kinds (fun vs H Q E h => ?_) (fun cdv A outer s H vs Q E hr h => ?_)
  · obtain ⟨_, _, _, rfl, _⟩ := h
    rfl
  · obtain ⟨a, l, kinds, rfl, ha, hn, k⟩ := h
    have nd := sc_has_all_kinds.nd
    have hu := hr.units
    refine ⟨_, (pss_one (ps_ret (pe_cmpR (op_eqG hu) (pe_callB call_lenE rfl T.no_len boot_len (pa_cons (pe_callTy (call_setE rfl) rfl T.no_set boot_set (pa_cons (pe_comp (N := ["sign", "kinds"]) (k := 1) (caps := [1]) (Block.of (by kernel_rfl)) rfl (pi_list (pv 0)) (fun _ _ _ _ => ⟨_, (pg_name (i := 0) (by show List.Nodup (["sign", "kinds"] : List Str); decide) rfl (by first | exact Or.inl rfl | exact Or.inr rfl)), by walk_at "ce"⟩) (fun _ _ _ _ => ⟨_, (PIfs.one (pt_val (pe_call G_is_count (hr.mono (by decide)) rfl C_is_count.mg C_is_count.kp C_is_count.b .nil pass0 (pa_cons (pv 0) (pa_cons (pe_op op_sub (pv 1) pe_int) pa_nil))))), by walk_at "ce"⟩) (fun _ _ _ _ => ⟨_, (pv 0), by walk_at "ce"⟩)) pa_nil)) pa_nil)) (pv 1) (nomark _)))), ?_⟩
    try simp only [show (cxOf CX0 P w K mg base N_has_all_kinds "has_all_kinds" (defScope s_has_all_kinds) f cdv A outer s H E).nox.K = K from rfl, show (cxOf CX0 P w K mg base N_has_all_kinds "has_all_kinds" (defScope s_has_all_kinds) f cdv A outer s H E).K = K from rfl]
    try simp only [show (cxOf CX0 P w K mg base N_has_all_kinds "has_all_kinds" (defScope s_has_all_kinds) f cdv A outer s H E).nox.prog = P from rfl, show (cxOf CX0 P w K mg base N_has_all_kinds "has_all_kinds" (defScope s_has_all_kinds) f cdv A outer s H E).prog = P from rfl, show (cxOf CX0 P w K mg base N_has_all_kinds "has_all_kinds" (defScope s_has_all_kinds) f cdv A outer s H E).nox.w = w from rfl, show (cxOf CX0 P w K mg base N_has_all_kinds "has_all_kinds" (defScope s_has_all_kinds) f cdv A outer s H E).w = w from rfl]
    rw [show L2.start N_has_all_kinds [V.ref a, V.int kinds] = [some (V.ref a), some (V.int kinds)] from rfl]
    walk_at "rd"
    refine comp_filtI (ov_ints (ns := l)) (Lf.isKind kinds) (fun y => y) (fun H' s' => s'.seq ha) (by omega) ?_ ?_
    · rintro i z x H3 H4 R R' hi s3 ⟨rfl, rfl⟩ h1 h2
      walk_at "rd"
      refine ⟨⟨rfl, rfl⟩, ?_⟩
      walk_at "rd"
      refine ⟨z, _, rfl, ?_⟩
      have e : decide (0 ≤ z ∧ z ≤ kinds - 1) = Lf.isKind kinds z := by
        unfold Lf.isKind
        by_cases q : 0 ≤ z ∧ z < kinds
        · rw [decide_eq_true q, decide_eq_true ⟨q.1, by omega⟩]
        · rw [decide_eq_false q, decide_eq_false fun u => q ⟨u.1, by omega⟩]
      rw [e]
      walk_at "rd"
      refine iteB (fun h5 => ?_) (fun h5 => ?_)
      · walk_at "rd"
        exact h1 h5 _ (Same.refl _)
      · exact h2 h5 _ (Same.refl _)
    · intro D H1 hD s1 hd
      walk_at "rd"
      have el : (l.filter (Lf.isKind kinds)).map (fun y => y) = l.filter (Lf.isKind kinds) := by simp
      rw [el] at hd
      refine r_setE (SqL.of hd) (by have := List.length_filter_le (Lf.isKind kinds) l; omega) fun d hd0 => ?_
      walk_at "rd"
      refine r_lenE upd_same ?_
      walk_at "rd"
      exact k _ (s1.trans (Same.upd_new hd0))
def sp_are_cuts : Sp := fun vs H Q _ => ∃ (c a : Addr) (cuts row : List Int) (kinds : Int), vs = [.ref c, .ref a, .int kinds] ∧ H c = some (.lst (cuts.map V.int)) ∧ H a = some (.lst (row.map V.int)) ∧ cuts.length ≤ 1000 ∧ row.length ≤ 1000 ∧ 1 ≤ kinds ∧ ∀ H', Same H H' → Q (.bl (Lf.cutsB row kinds 0 cuts)) H'
theorem ok_are_cuts (F : Fun K "are_cuts" "are_cuts" s_are_cuts f fd) (T : Blt mg) (C_are_places : Cal K mg "are_places" f1 fd1 P_are_places) (G_are_places : FnOk P w K mg base CX0 3 f1 fd1 P_are_places sp_are_places)
    (C_has_all_kinds : Cal K mg "has_all_kinds" f2 fd2 P_has_all_kinds) (G_has_all_kinds : FnOk P w K mg base CX0 3 f2 fd2 P_has_all_kinds (sp_has_all_kinds K)) : FnOk P w K mg base CX0 4 f fd P_are_cuts sp_are_cuts := by
  refine F.ok sc_are_cuts (fun vs H Q E h => ?_) (fun cdv A outer s H vs Q E hr h => ?_)
  · obtain ⟨_, _, _, _, _, rfl, _⟩ := h
    rfl
  · obtain ⟨c, a, cuts, row, kinds, rfl, hc, ha, l1, l2, hk, k⟩ := h
    have nd := sc_are_cuts.nd
    have hu := hr.units
    rw [← Lf.cuts_prog hk cuts (-1) 0 (by omega) (by omega)] at k
    refine ⟨_, (pss_cons (ps_if (pt_not (pt_val (pe_call G_are_places (hr.mono (by decide)) rfl C_are_places.mg C_are_places.kp C_are_places.b .nil pass0 (pa_cons (pv 0) (pa_cons (pe_op op_addG (pe_callB len_G rfl T.no_len boot_len (pa_cons (pv 1) pa_nil)) pe_int) pa_nil))))) (pss_one (ps_ret pe_bl)) pss_nil)
     (pss_one (ps_ret (pe_callB (call_allB rfl) rfl T.no_all boot_all (pa_cons (pe_comp (N := ["start", "end", "kinds", "row"]) (k := 2) (caps := [2, 1]) (Block.of (by kernel_rfl)) rfl (pi_zip rfl T.no_zip boot_zip (pa_cons (pe_op op_addG (pe_lst (pa_cons pe_int pa_nil)) (pv 0)) (pa_cons (pv 0) pa_nil))) (fun _ _ _ _ => ⟨_, (pg_tup (n := 2) rfl (pgs_cons (pg_name (i := 0) (by show List.Nodup (["start", "end", "kinds", "row"] : List Str); decide) rfl (by first | exact Or.inl rfl | exact Or.inr rfl)) (pgs_cons (pg_name (i := 1) (by show List.Nodup (["start", "end", "kinds", "row"] : List Str); decide) rfl (by first | exact Or.inl rfl | exact Or.inr rfl)) pgs_nil))), by walk_at "ce"⟩) (fun _ _ _ _ => ⟨_, PIfs.none, by walk_at "ce"⟩) (fun _ _ _ _ => ⟨_, (pe_call G_has_all_kinds (hr.mono (by decide)) rfl C_has_all_kinds.mg C_has_all_kinds.kp C_has_all_kinds.b .nil pass0 (pa_cons (pe_slice sl_list (pv 3) (po_some (pv 0)) (po_some (pv 1))) (pa_cons (pv 2) pa_nil))), by walk_at "ce"⟩)) pa_nil))))), ?_⟩
    try simp only [show (cxOf CX0 P w K mg base N_are_cuts "are_cuts" (defScope s_are_cuts) f cdv A outer s H E).nox.K = K from rfl, show (cxOf CX0 P w K mg base N_are_cuts "are_cuts" (defScope s_are_cuts) f cdv A outer s H E).K = K from rfl]
    rw [show L2.start N_are_cuts [V.ref c, V.ref a, V.int kinds] = [some (V.ref c), some (V.ref a), some (V.int kinds)] from rfl]
    walk_at "rd"
    refine ⟨c, cuts, _, rfl, hc, by omega, fun H1 s1 => ?_⟩
    have hc1 := s1.at hc
    have ha1 := s1.at ha
    walk_at "rd"
    refine iteNB (fun h1 => ?_) (fun h1 => ?_)
    · walk_at "rd"
      rw [h1, Bool.false_and] at k
      exact k _ s1
    rw [h1, Bool.true_and] at k
    walk_at "rd"
    intro z hz
    walk_at "rd"
    refine r_catI (xs := [0]) upd_same (upd_keep hc1 hz) (by simp; omega) ?_
    intro b hb
    have s2 : Same H1 (upd (upd H1 z (.lst (([0] : List Int).map V.int))) b (.lst (([0] ++ cuts).map V.int))) := (Same.upd_new hz).trans (Same.upd_new hb)
    have hb2 : (upd (upd H1 z (.lst (([0] : List Int).map V.int))) b (.lst (([0] ++ cuts).map V.int))) b = some (.lst ((0 :: cuts).map V.int)) := upd_same
    generalize upd (upd H1 z (.lst (([0] : List Int).map V.int))) b (.lst (([0] ++ cuts).map V.int)) = H2 at s2 hb2 ⊢
    have hc2 := s2.at hc1
    have ha2 := s2.at ha1
    walk_at "rd"
    refine comp_map (ov_zipI (xs := 0 :: cuts) (ys := cuts)) (fun y => .bl (decide ((Lf.kindsIn kinds (Lf.cut row y.1 y.2) : Int) = kinds))) (fun H' s' => ⟨SqL.of (s'.at hb2), SqL.of (s'.at hc2)⟩) (by rw [List.length_zip]; simp; omega) ?_ ?_
    · rintro i ⟨p, q⟩ x H3 H4 R R' hi s3 ⟨T', hT, rfl, rfl⟩ h3
      have hm := List.of_mem_zip (List.mem_of_getElem? hi)
      have hq0 : 0 ≤ q := by have := Lf.rising_in cuts _ _ h1 q hm.2; omega
      have hp0 : 0 ≤ p := by
        rcases List.mem_cons.mp hm.1 with z | z
        · omega
        · have := Lf.rising_in cuts _ _ h1 p z; omega
      have ha4 := upd_keep (o := .tup [.int p, .int q]) (s3.at ha2) hT
      have ht4 : (upd H3 T' (.tup [.int p, .int q])) T' = some (.tup [.int p, .int q]) := upd_same
      have s34 : Same H3 (upd H3 T' (.tup [.int p, .int q])) := Same.upd_new hT
      simp only at ha4 ht4 s34 ⊢
      generalize upd H3 T' (.tup [.int p, .int q]) = H4 at ha4 ht4 s34 ⊢
      walk_at "rd"
      refine ⟨⟨rfl, rfl⟩, ?_⟩
      walk_at "rd"
      rw [if_pos trivial]
      walk_at "rd"
      intro u hu'
      have cl : (Lf.cut row p q).length ≤ row.length := by unfold Lf.cut; rw [List.length_take, List.length_drop]; omega
      walk_at "rd"
      refine ⟨u, _, kinds, rfl, SqL.of upd_same, by omega, fun H5 s5 => ?_⟩
      exact h3 _ ((s34.trans (Same.upd_new hu')).trans s5)
    · intro D H3 hD s3 hd
      walk_at "rd"
      refine r_allM (l := (0 :: cuts).zip cuts) (g := fun y => decide ((Lf.kindsIn kinds (Lf.cut row y.1 y.2) : Int) = kinds)) (SqL.of hd) ?_
      exact k _ ((s1.trans s2).trans s3)
def sp_least_unseen : Sp := fun vs H Q _ => ∃ (d : Addr) (kvs : List (Key × V)) (seen : List Int), vs = [.ref d] ∧ H d = some (.dK kvs) ∧ seen.Nodup ∧ (∀ y, (valV kvs (.inl y)).isSome = decide (y ∈ seen)) ∧ ∀ k : Nat, (k : Int) ∉ seen → k ≤ seen.length → Q (.int k) H
theorem ok_least_unseen (F : Fun K "least_unseen" "least_unseen" s_least_unseen f fd) (T : Blt mg) : FnOk P w K mg base CX0 1 f fd P_least_unseen sp_least_unseen := by
  refine F.ok sc_least_unseen (fun vs H Q E h => ?_) (fun cdv A outer s H vs Q E hr h => ?_)
  · obtain ⟨_, _, _, rfl, _⟩ := h
    rfl
  · obtain ⟨d, kvs, seen, rfl, hd, hnd, hv, k⟩ := h
    have nd := sc_least_unseen.nd
    have hu := hr.units
    have hu1 : (A.deeper (envOfC "least_unseen" (defScope s_least_unseen) s.heap.objs.size f cdv)).units + 1 < cLine := by omega
    refine ⟨_, (pss_cons (ps_set (i := 1) nd rfl (by first | exact Or.inl rfl | exact Or.inr rfl) pe_int)
     (pss_cons (ps_while PassesOwn.never (pt_cmp (pc_din hu1 (pv 1) (pv 0)) (by with_unfolding_all rfl)) (pss_one (ps_aug (i := 1) nd rfl (by first | exact Or.inl rfl | exact Or.inr rfl) pe_int ip_add)))
     (pss_one (ps_ret (pv 1))))), ?_⟩
    try simp only [show (cxOf CX0 P w K mg base N_least_unseen "least_unseen" (defScope s_least_unseen) f cdv A outer s H E).nox.K = K from rfl, show (cxOf CX0 P w K mg base N_least_unseen "least_unseen" (defScope s_least_unseen) f cdv A outer s H E).K = K from rfl]
    rw [show L2.start N_least_unseen [V.ref d] = [some (V.ref d), none] from rfl]
    walk_at "rd"
    refine r_while (fun m σ H2 => ∃ j : Nat, σ = [some (.ref d), some (.int j)] ∧ H2 = H ∧ (∀ i : Nat, i < j → (i : Int) ∈ seen) ∧ m = seen.length - j) _ ⟨0, rfl, rfl, fun i hi => by omega, rfl⟩ ?_
    rintro m σ H2 ⟨j, rfl, rfl, hj, rfl⟩
    have hle := Lf.below_seen hnd hj
    walk_at "rd"
    refine r_DInK hd ?_
    rw [if_neg Bool.false_ne_true, hv]
    walk_at "rd"
    refine iteD (fun h1 => ?_) (fun h1 => ?_)
    · have hj' : ∀ i : Nat, i < j + 1 → (i : Int) ∈ seen := fun i hi => by
        by_cases e : i = j
        · rw [e]; exact h1
        · exact hj i (by omega)
      have hle' := Lf.below_seen hnd hj'
      refine r_turn ?_
      walk_at "rd"
      have e1 : ((j : Int) + 1) = ((j + 1 : Nat) : Int) := by omega
      rw [e1]
      exact ⟨_, by omega, j + 1, rfl, rfl, hj', rfl⟩
    · walk_at "rd"
      exact k j h1 hle
def sp_init2 (C : Addr) : Sp := fun vs H Q _ => ∃ (x dx a b : Addr) (cs ws : List Int), vs = [.ref x, .ref a, .ref b] ∧ H x = some (.ins C dx []) ∧ H a = some (.lst (cs.map V.int)) ∧ H b = some (.lst (ws.map V.int)) ∧ ∀ (fs : List (Str × V)) (c q : Addr) H', H c = none → H q = none → c ≠ q → SameBut [x] H H' → MisAt C H' x dx fs c q cs ws → Q .non H'
theorem ok_Missing___init__ (F : Fun K "__init__" "Missing.__init__" s_Missing___init__ f fd) (T : Blt mg) (I_Missing : Ins K k_Missing) (n_Missing_cuts : NoAttr K k_Missing "cuts") (n_Missing_word : NoAttr K k_Missing "word") : FnOk P w K mg base CX0 1 f fd P_Missing___init__ (sp_init2 k_Missing) := by
  refine F.ok sc_Missing___init__ (fun vs H Q E h => ?_) (fun cdv A outer s H vs Q E hr h => ?_)
  · obtain ⟨_, _, _, _, _, _, rfl, _⟩ := h
    rfl
  · obtain ⟨x, dx, a, b, cs, ws, rfl, hx, ha, hb, k⟩ := h
    have nd := sc_Missing___init__.nd
    have hu := hr.units
    have ax : a ≠ x := fun e => by rw [e, hx] at ha; cases ha
    have bx : b ≠ x := fun e => by rw [e, hx] at hb; cases hb
    refine ⟨_, (pss_cons (ps_fld (pv 0) (pe_callTy call_listOf rfl T.no_list boot_list (pa_cons (pv 1) pa_nil)) rfl)
     (pss_one (ps_fld (pv 0) (pe_callTy call_listOf rfl T.no_list boot_list (pa_cons (pv 2) pa_nil)) rfl))), ?_⟩
    try simp only [show (cxOf CX0 P w K mg base N_Missing___init__ "Missing.__init__" (defScope s_Missing___init__) f cdv A outer s H E).nox.K = K from rfl, show (cxOf CX0 P w K mg base N_Missing___init__ "Missing.__init__" (defScope s_Missing___init__) f cdv A outer s H E).K = K from rfl]
    rw [show L2.start N_Missing___init__ [V.ref x, V.ref a, V.ref b] = [some (V.ref x), some (V.ref a), some (V.ref b)] from rfl]
    walk_at "rd"
    intro c hc
    have xc : c ≠ x := Ne.symm (ne_of_none hx hc)
    walk_at "rd"
    intro q hq
    have xq : q ≠ x := ne_upd hq
    have cq : c ≠ q := ne_of_none (upd_keepNe upd_same xc) hq
    walk_at "rd"
    exact k _ c q _ hc (free_upd (free_upd hq)) cq (((((Same.upd_new hc).but (ls := [x])).upd (by simp)).new hq).upd (by simp)) ⟨upd_same, by simp only [lookup_putF]; rfl, by simp only [lookup_putF]; rfl, by simp only [lookup_putF]; rfl, upd_keepNe (upd_keep (upd_keepNe upd_same xc) hq) xc, upd_keepNe upd_same xq⟩
def sp_Missing_shows (C : Addr) : Sp := fun vs H Q _ => ∃ (x dx : Addr) (fs : List (Str × V)) (c q : Addr) (cuts word : List Int) (a : Addr) (row : List Int) (kinds : Int), vs = [.ref x, .ref a, .int kinds] ∧ MisAt C H x dx fs c q cuts word ∧ H a = some (.lst (row.map V.int)) ∧ cuts.length ≤ 1000 ∧ word.length ≤ 1000 ∧ row.length ≤ 1000 ∧ 1 ≤ kinds ∧ ∀ H', Same H H' → Q (.bl (Lf.missed row kinds cuts word)) H'
theorem ok_Missing_shows (F : Fun K "shows" "Missing.shows" s_Missing_shows f fd) (T : Blt mg) (I_Missing : Ins K k_Missing) (n_Missing_cuts : NoAttr K k_Missing "cuts") (n_Missing_word : NoAttr K k_Missing "word")
    (C_is_count : Cal K mg "is_count" f1 fd1 P_is_count) (G_is_count : FnOk P w K mg base CX0 2 f1 fd1 P_is_count sp_is_count)
    (C_are_cuts : Cal K mg "are_cuts" f2 fd2 P_are_cuts) (G_are_cuts : FnOk P w K mg base CX0 4 f2 fd2 P_are_cuts sp_are_cuts)
    (C_is_left : Cal K mg "is_left" f3 fd3 P_is_left) (G_is_left : FnOk P w K mg base CX0 2 f3 fd3 P_is_left (sp_is_left K)) : FnOk P w K mg base CX0 5 f fd P_Missing_shows (sp_Missing_shows k_Missing) := by
  refine F.ok sc_Missing_shows (fun vs H Q E h => ?_) (fun cdv A outer s H vs Q E hr h => ?_)
  · obtain ⟨_, _, _, _, _, _, _, _, _, _, rfl, _⟩ := h
    rfl
  · obtain ⟨x, dx, fs, c, q, cuts, word, a, row, kinds, rfl, M, ha, n1, n2, n3, hk, k⟩ := h
    obtain ⟨ob, fc, fw, fn, hc, hq⟩ := id M
    have nd := sc_Missing_shows.nd
    have hu := hr.units
    rw [Lf.missed_eq] at k
    refine ⟨_, (pss_cons (ps_if (PW.pt (pw_or (pt_not (pt_val (pe_callB (call_allB rfl) rfl T.no_all boot_all (pa_cons (pe_comp (N := ["sign", "kinds"]) (k := 1) (caps := [2]) (Block.of (by kernel_rfl)) rfl (pi_list (pe_fld (pv 0) rfl)) (fun _ _ _ _ => ⟨_, (pg_name (i := 0) (by show List.Nodup (["sign", "kinds"] : List Str); decide) rfl (by first | exact Or.inl rfl | exact Or.inr rfl)), by walk_at "ce"⟩) (fun _ _ _ _ => ⟨_, PIfs.none, by walk_at "ce"⟩) (fun _ _ _ _ => ⟨_, (pe_call G_is_count (hr.mono (by decide)) rfl C_is_count.mg C_is_count.kp C_is_count.b .nil pass0 (pa_cons (pv 0) (pa_cons (pe_op op_sub (pv 1) pe_int) pa_nil))), by walk_at "ce"⟩)) pa_nil)))) (pw_or1 (pt_cmpR (op_neG hu) (pe_callB len_G rfl T.no_len boot_len (pa_cons (pe_fld (pv 0) rfl) pa_nil)) (pe_op op_addG (pe_callB len_G rfl T.no_len boot_len (pa_cons (pe_fld (pv 0) rfl) pa_nil)) pe_int) (nomark _))))) (pss_one (ps_ret pe_bl)) pss_nil)
     (pss_one (ps_ret (pe_and (pe_call G_are_cuts (hr.mono (by decide)) rfl C_are_cuts.mg C_are_cuts.kp C_are_cuts.b .nil pass0 (pa_cons (pe_fld (pv 0) rfl) (pa_cons (pv 1) (pa_cons (pv 2) pa_nil)))) (pe_one (pe_not (pe_call G_is_left (hr.mono (by decide)) rfl C_is_left.mg C_is_left.kp C_is_left.b .nil pass0 (pa_cons (pv 1) (pa_cons (pe_fld (pv 0) rfl) pa_nil))))))))), ?_⟩
    try simp only [show (cxOf CX0 P w K mg base N_Missing_shows "Missing.shows" (defScope s_Missing_shows) f cdv A outer s H E).nox.K = K from rfl, show (cxOf CX0 P w K mg base N_Missing_shows "Missing.shows" (defScope s_Missing_shows) f cdv A outer s H E).K = K from rfl]
    rw [show L2.start N_Missing_shows [V.ref x, V.ref a, V.int kinds] = [some (V.ref x), some (V.ref a), some (V.int kinds)] from rfl]
    walk_at "rd"
    refine comp_map (ov_ints (ns := word)) (fun y => .bl (Lf.isKind kinds y)) (fun H' s' => SqL.of (s'.at hq)) (by omega) ?_ ?_
    · rintro i z x' H3 H4 R R' hi s3 ⟨rfl, rfl⟩ h1
      walk_at "rd"
      refine ⟨⟨rfl, rfl⟩, ?_⟩
      walk_at "rd"
      refine ⟨z, _, rfl, ?_⟩
      have e : decide (0 ≤ z ∧ z ≤ kinds - 1) = Lf.isKind kinds z := by
        unfold Lf.isKind
        by_cases q : 0 ≤ z ∧ z < kinds
        · rw [decide_eq_true q, decide_eq_true ⟨q.1, by omega⟩]
        · rw [decide_eq_false q, decide_eq_false fun u => q ⟨u.1, by omega⟩]
      rw [e]
      exact h1 _ (Same.refl _)
    intro D H1 hD s1 hd
    have ob1 := s1.at ob
    have hq1 := s1.at hq
    have hc1 := s1.at hc
    walk_at "rd"
    refine r_allM (l := word) (g := fun y => Lf.isKind kinds y) (SqL.of hd) ?_
    walk_at "rd"
    refine iteNB (fun h1 => ?_) (fun h1 => ?_)
    · walk_at "rd"
      rw [h1, Bool.false_and, Bool.false_and] at k
      exact k _ s1
    rw [h1, Bool.true_and] at k
    walk_at "rd"
    refine iteND (fun h2 => ?_) (fun h2 => ?_)
    · walk_at "rd"
      rw [decide_eq_false (fun z => h2 (by omega)), Bool.false_and] at k
      exact k _ s1
    rw [decide_eq_true (by omega), Bool.true_and] at k
    walk_at "rd"
    refine ⟨c, a, cuts, row, kinds, rfl, hc1, s1.at ha, n1, n3, hk, fun H2 s2 => ?_⟩
    have s02 := s1.trans s2
    have ob2 := s02.at ob
    clear s1 s2 ob1 hq1 hc1
    walk_at "rd"
    refine iteB (fun h3 => ?_) (fun h3 => ?_)
    · walk_at "rd"
      refine ⟨a, q, row, word, rfl, SqL.of (s02.at ha), SqL.of (s02.at hq), by omega, fun H3 s3 => ?_⟩
      walk_at "rd"
      rw [h3, Bool.true_and] at k
      exact k _ (s02.trans s3)
    · walk_at "rd"
      rw [h3, Bool.false_and] at k
      exact k _ s02
theorem putK_old {kvs : List (Key × V)} {k : Key} {v : V} (h : (valV kvs k).isSome = true) : (putK kvs k v).length = kvs.length := by
  unfold putK
  rw [valV_any, h, if_pos rfl, List.length_map]
theorem putK_fresh {kvs : List (Key × V)} {k : Key} {v : V} (h : (valV kvs k).isSome = false) : (putK kvs k v).length = kvs.length + 1 := by
  unfold putK
  rw [valV_any, h, if_neg (by decide), List.length_append]; rfl
def sp_missing (C : Addr) : Sp := fun vs H Q _ => ∃ (a : Addr) (row : List Int) (kinds : Int), vs = [.ref a, .int kinds] ∧ H a = some (.lst (row.map V.int)) ∧ row.length ≤ 900 ∧ 1 ≤ kinds ∧ ∀ (x dx : Addr) (fs : List (Str × V)) (c q : Addr) (cuts word : List Int) H', H x = none → H c = none → H q = none → c ≠ q → Same H H' → MisAt C H' x dx fs c q cuts word → Lf.missed row kinds cuts word = true → cuts.length ≤ row.length → Q (.ref x) H'
theorem ok_missing (F : Fun K "missing" "missing" s_missing f fd) (T : Blt mg) (C_checked_row : Cal K mg "checked_row" f1 fd1 P_checked_row) (G_checked_row : FnOk P w K mg base CX0 3 f1 fd1 P_checked_row sp_checked_row)
    (C_is_whole : Cal K mg "is_whole" f2 fd2 P_is_whole) (G_is_whole : FnOk P w K mg base CX0 1 f2 fd2 P_is_whole sp_is_whole)
    (C_is_count : Cal K mg "is_count" f3 fd3 P_is_count) (G_is_count : FnOk P w K mg base CX0 2 f3 fd3 P_is_count sp_is_count)
    (C_least_unseen : Cal K mg "least_unseen" f4 fd4 P_least_unseen) (G_least_unseen : FnOk P w K mg base CX0 1 f4 fd4 P_least_unseen sp_least_unseen)
    (M_Missing : Mak K mg "Missing" k_Missing f5 fd5 P_Missing___init__) (G_Missing___init__ : FnOk P w K mg base CX0 1 f5 fd5 P_Missing___init__ (sp_init2 k_Missing)) : FnOk P w K mg base CX0 4 f fd P_missing (sp_missing k_Missing) := by
  refine F.ok sc_missing (fun vs H Q E h => ?_) (fun cdv A outer s H vs Q E hr h => ?_)
  · obtain ⟨_, _, _, rfl, _⟩ := h
    rfl
  · obtain ⟨a, row, kinds, rfl, ha, hn, hk, k⟩ := h
    have nd := sc_missing.nd
    have hu := hr.units
    have hu1 : (A.deeper (envOfC "missing" (defScope s_missing) s.heap.objs.size f cdv)).units + 1 < cLine := by omega
    refine ⟨_, (pss_cons (ps_set (i := 2) nd rfl (by first | exact Or.inl rfl | exact Or.inr rfl) (pe_call G_checked_row (hr.mono (by decide)) rfl C_checked_row.mg C_checked_row.kp C_checked_row.b .nil pass0 (pa_cons (pv 0) pa_nil)))
     (pss_cons (ps_if (PW.pt (pw_or (pt_not (pt_val (pe_call G_is_whole (hr.mono (by decide)) rfl C_is_whole.mg C_is_whole.kp C_is_whole.b .nil pass0 (pa_cons (pv 1) pa_nil)))) (pw_or1 (pt_cmpR op_lt (pv 1) pe_int (nomark _))))) (pss_one ps_never) pss_nil)
     (pss_cons (ps_set (i := 3) nd rfl (by first | exact Or.inl rfl | exact Or.inr rfl) (pe_lst pa_nil))
     (pss_cons (ps_set (i := 4) nd rfl (by first | exact Or.inl rfl | exact Or.inr rfl) (pe_lst pa_nil))
     (pss_cons (ps_set (i := 5) nd rfl (by first | exact Or.inl rfl | exact Or.inr rfl) pe_dnewK)
     (pss_cons (ps_for PassesOwn.never rfl (pi_enum rfl T.no_enumerate boot_enumerate (pa_cons (pv 2) pa_nil)) (pg_tup (n := 2) rfl (pgs_cons (pg_name (i := 6) nd rfl (by first | exact Or.inl rfl | exact Or.inr rfl)) (pgs_cons (pg_name (i := 7) nd rfl (by first | exact Or.inl rfl | exact Or.inr rfl)) pgs_nil))) (pss_cons (ps_if (pt_val (pe_call G_is_count (hr.mono (by decide)) rfl C_is_count.mg C_is_count.kp C_is_count.b .nil pass0 (pa_cons (pv 7) (pa_cons (pe_op op_sub (pv 1) pe_int) pa_nil)))) (pss_one (ps_dput hu1 (pv 5) (pv 7) pe_bl rfl)) pss_nil)
     (pss_one (ps_if (pt_cmpR (op_eqG hu) (pe_callB len_G rfl T.no_len boot_len (pa_cons (pv 5) pa_nil)) (pv 1) (nomark _)) (pss_cons (ps_expr (pe_bm PySem.F.plainAttrs_list PySem.F.slot_list_append PySem.F.type_list_append mr_append (pv 3) (pa_cons (pe_op op_addG (pv 6) pe_int) pa_nil)))
     (pss_cons (ps_expr (pe_bm PySem.F.plainAttrs_list PySem.F.slot_list_append PySem.F.type_list_append mr_append (pv 4) (pa_cons (pv 7) pa_nil)))
     (pss_one (ps_set (i := 5) nd rfl (by first | exact Or.inl rfl | exact Or.inr rfl) pe_dnewK)))) pss_nil))))
     (pss_cons (ps_expr (pe_bm PySem.F.plainAttrs_list PySem.F.slot_list_append PySem.F.type_list_append mr_append (pv 4) (pa_cons (pe_call G_least_unseen (hr.mono (by decide)) rfl C_least_unseen.mg C_least_unseen.kp C_least_unseen.b .nil pass0 (pa_cons (pv 5) pa_nil)) pa_nil)))
     (pss_one (ps_ret (pe_make M_Missing.mkk G_Missing___init__ (hr.mono (by decide)) rfl M_Missing.mg M_Missing.b .nil pass0 (pa_cons (pv 3) (pa_cons (pv 4) pa_nil)))))))))))), ?_⟩
    try simp only [show (cxOf CX0 P w K mg base N_missing "missing" (defScope s_missing) f cdv A outer s H E).nox.K = K from rfl, show (cxOf CX0 P w K mg base N_missing "missing" (defScope s_missing) f cdv A outer s H E).K = K from rfl]
    rw [show L2.start N_missing [V.ref a, V.int kinds] = [some (V.ref a), some (V.int kinds), none, none, none, none, none, none] from rfl]
    walk_at "rd"
    refine ⟨a, row, rfl, ha, by omega, fun a2 H1 ha2 s1 h1 => ?_⟩
    walk_at "rd"
    refine ⟨kinds, rfl, ?_⟩
    walk_at "rd"
    refine iteD (fun h2 => absurd h2 (by omega)) (fun h2 => ?_)
    walk_at "rd"
    intro c hc
    walk_at "rd"
    intro q hq
    walk_at "rd"
    intro d hd
    have cq : c ≠ q := ne_of_none upd_same hq
    have cd : c ≠ d := ne_of_none (upd_keepNe upd_same cq) hd
    have qd : q ≠ d := ne_of_none upd_same hd
    have f1 := free_upd hq
    have f2 := free_upd (free_upd hd)
    have s4 : Same H (upd (upd (upd H1 c (.lst [])) q (.lst [])) d (.dK [])) := s1.trans (((Same.upd_new hc).trans (Same.upd_new hq)).trans (Same.upd_new hd))
    have hc4 : (upd (upd (upd H1 c (.lst [])) q (.lst [])) d (.dK [])) c = some (.lst (([] : List Int).map V.int)) := upd_keepNe (upd_keepNe upd_same cq) cd
    have hq4 : (upd (upd (upd H1 c (.lst [])) q (.lst [])) d (.dK [])) q = some (.lst (([] : List Int).map V.int)) := upd_keepNe upd_same qd
    have hd4 : (upd (upd (upd H1 c (.lst [])) q (.lst [])) d (.dK [])) d = some (.dK []) := upd_same
    have h14 : (upd (upd (upd H1 c (.lst [])) q (.lst [])) d (.dK [])) a2 = some (.lst (row.map V.int)) := upd_keep (upd_keep (upd_keep h1 hc) hq) hd
    have c0 : H c = none := s1.free hc
    have q0 : H q = none := s1.free f1
    have d0 : H d = none := s1.free f2
    have ac : a2 ≠ c := ne_of_none h1 hc
    have aq : a2 ≠ q := ne_of_none h1 f1
    simp only [List.map_nil]
    generalize (upd (upd (upd H1 c (.lst [])) q (.lst [])) d (.dK [])) = H4 at s4 hc4 hq4 hd4 h14 ⊢
    clear hc hq hd f1 f2 s1 h1
    walk_at "rd"
    refine for_by (ov_enumI (xs := row)) (fun i σ H2 => ∃ (d : Addr) (kvs : List (Key × V)) (cuts word : List Int) (b : Nat) (seen : List Int) (v6 v7 : Option V), σ = [some (.ref a), some (.int kinds), some (.ref a2), some (.ref c), some (.ref q), some (.ref d), v6, v7] ∧ Same H H2 ∧ H d = none ∧ H2 a2 = some (.lst (row.map V.int)) ∧ H2 c = some (.lst (cuts.map V.int)) ∧ H2 q = some (.lst (word.map V.int)) ∧ H2 d = some (.dK kvs) ∧ kvs.length = seen.length ∧ (∀ y, (valV kvs (.inl y)).isSome = decide (y ∈ seen)) ∧ Lf.Mi row kinds cuts word b i seen ∧ seen.length ≤ i) ?_ ?_ ?_ ?_
    · exact ⟨d, [], [], [], 0, [], none, none, rfl, s4, d0, h14, hc4, hq4, hd4, rfl, fun y => rfl, Lf.Mi.start hk, Nat.zero_le _⟩
    · rintro i σ H2 _ ⟨_, _, _, _, _, _, _, _, _, _, _, q, _⟩
      exact SqL.of q
    · rintro i ⟨z, j⟩ x σ H2 H3 hy ⟨d, kvs, cuts, word, b, seen, v6, v7, rfl, s2, d0, h1, hc, hq, hd, lk, hv, M, li⟩ ⟨T', hT, rfl, rfl⟩
      rw [List.getElem?_zipIdx] at hy
      obtain ⟨z', e1, e2⟩ := Option.map_eq_some_iff.mp hy
      have ej : j = i := by have := congrArg Prod.snd e2; simpa using this.symm
      have ez : z' = z := congrArg Prod.fst e2
      subst ej ez
      obtain ⟨hi, e1⟩ := List.getElem?_eq_some_iff.mp e1
      have ez : z' = row.getD j 0 := by rw [List.getD_eq_getElem?_getD, List.getElem?_eq_getElem hi, e1]; rfl
      have cd : c ≠ d := fun e => by rw [e, hd] at hc; cases hc
      have qd : q ≠ d := fun e => by rw [e, hd] at hq; cases hq
      have ad : a2 ≠ d := fun e => by rw [e, hd] at h1; cases h1
      have s3 : Same H (upd H2 T' (.tup [.int (j : Nat), .int z'])) := s2.trans (Same.upd_new hT)
      have h13 := upd_keep (o := .tup [.int (j : Nat), .int z']) h1 hT
      have hc3 := upd_keep (o := .tup [.int (j : Nat), .int z']) hc hT
      have hq3 := upd_keep (o := .tup [.int (j : Nat), .int z']) hq hT
      have hd3 := upd_keep (o := .tup [.int (j : Nat), .int z']) hd hT
      have ht3 : (upd H2 T' (.tup [.int (j : Nat), .int z'])) T' = some (.tup [.int (j : Nat), .int z']) := upd_same
      simp only at h13 hc3 hq3 hd3 ht3 s3 ⊢
      generalize upd H2 T' (.tup [.int (j : Nat), .int z']) = H3 at h13 hc3 hq3 hd3 ht3 s3 ⊢
      clear h1 hc hq hd hT s2 hy
      have few := M.few
      have csm := M.small
      have cl := M.len
      walk_at "rd"
      refine ⟨z', kinds - 1, rfl, ?_⟩
      have e : decide (0 ≤ z' ∧ z' ≤ kinds - 1) = Lf.isKind kinds z' := by
        unfold Lf.isKind
        by_cases q : 0 ≤ z' ∧ z' < kinds
        · rw [decide_eq_true q, decide_eq_true ⟨q.1, by omega⟩]
        · rw [decide_eq_false q, decide_eq_false fun u => q ⟨u.1, by omega⟩]
      rw [e]
      walk_at "rd"
      refine iteB (fun h5 => ?_) (fun h5 => ?_)
      · walk_at "rd"
        refine r_DP hd3 (by omega) ?_
        by_cases h6 : z' ∈ seen
        · have lk' : (putK kvs (.inl z') (V.bl true)).length = seen.length := by rw [putK_old (by rw [hv]; exact decide_eq_true h6), lk]
          have hv' : ∀ y, (valV (putK kvs (.inl z') (V.bl true)) (.inl y)).isSome = decide (y ∈ seen) := fun y => by
            rw [valV_put]
            by_cases e : y = z'
            · rw [e, if_pos rfl, decide_eq_true h6]; rfl
            · rw [if_neg (fun c => e (Sum.inl.inj c)), hv]
          generalize putK kvs (.inl z') (V.bl true) = kvs' at lk' hv' ⊢
          have hd4 : (upd H3 d (.dK kvs')) d = some (.dK kvs') := upd_same
          walk_at "rd"
          refine iteD (fun h7 => absurd h7 (by omega)) (fun h7 => ?_)
          walk_at "rd"
          exact ⟨d, kvs', cuts, word, b, seen, _, _, rfl, by walk_at "sm", d0, upd_keepNe h13 ad, upd_keepNe hc3 cd, upd_keepNe hq3 qd, hd4, lk', hv', M.pass hi (.inr (ez ▸ h6)), by omega⟩
        · have lk' : (putK kvs (.inl z') (V.bl true)).length = (seen ++ [z']).length := by rw [putK_fresh (by rw [hv]; exact decide_eq_false h6), lk, List.length_append]; rfl
          have hv' : ∀ y, (valV (putK kvs (.inl z') (V.bl true)) (.inl y)).isSome = decide (y ∈ seen ++ [z']) := fun y => by
            rw [valV_put]
            by_cases e : y = z'
            · rw [e, if_pos rfl, decide_eq_true (by simp)]; rfl
            · rw [if_neg (fun c => e (Sum.inl.inj c)), hv]; simp [e]
          generalize putK kvs (.inl z') (V.bl true) = kvs' at lk' hv' ⊢
          have hd4 : (upd H3 d (.dK kvs')) d = some (.dK kvs') := upd_same
          have hc4 := upd_keepNe (o := .dK kvs') hc3 cd
          have hq4 := upd_keepNe (o := .dK kvs') hq3 qd
          have h14 := upd_keepNe (o := .dK kvs') h13 ad
          have s4 : Same H (upd H3 d (.dK kvs')) := by walk_at "sm"
          generalize upd H3 d (.dK kvs') = H4 at hd4 hc4 hq4 h14 s4 ⊢
          rw [List.length_append, List.length_singleton] at lk'
          walk_at "rd"
          refine iteD (fun h7 => ?_) (fun h7 => ?_)
          · walk_at "rd"
            refine r_appI hc4 (by omega) ?_
            walk_at "rd"
            refine r_appI (upd_keepNe hq4 (Ne.symm cq)) (by omega) ?_
            walk_at "rd"
            intro d2 hd2
            have d20 : H d2 = none := s4.free (free_upd (free_upd hd2))
            walk_at "rd"
            have cd2 : c ≠ d2 := ne_of_none (upd_keepNe upd_same cq) hd2
            have qd2 : q ≠ d2 := ne_of_none upd_same hd2
            have ad2 : a2 ≠ d2 := ne_of_none (upd_keepNe (upd_keepNe h14 ac) aq) hd2
            have M' := M.cutAt hi (ez ▸ h5) (ez ▸ h6) (by omega) hk
            rw [← ez] at M'
            exact ⟨d2, [], cuts ++ [(j : Int) + 1], word ++ [z'], j + 1, [], _, _, rfl, by walk_at "sm", d20, upd_keepNe (upd_keepNe (upd_keepNe h14 ac) aq) ad2, upd_keepNe (upd_keepNe upd_same cq) cd2, upd_keepNe upd_same qd2, upd_same, rfl, fun y => rfl, M', Nat.zero_le _⟩
          · walk_at "rd"
            exact ⟨d, kvs', cuts, word, b, seen ++ [z'], _, _, rfl, s4, d0, h14, hc4, hq4, hd4, by rw [List.length_append, List.length_singleton]; exact lk', hv', M.more hi (ez ▸ h5) (ez ▸ h6) (by rw [ez]) (by rw [List.length_append, List.length_singleton]; omega), by rw [List.length_append, List.length_singleton]; omega⟩
      · walk_at "rd"
        refine iteD (fun h7 => absurd h7 (by omega)) (fun h7 => ?_)
        walk_at "rd"
        exact ⟨d, kvs, cuts, word, b, seen, _, _, rfl, s3, d0, h13, hc3, hq3, hd3, lk, hv, M.pass hi (.inl (ez ▸ h5)), by omega⟩
    · rintro σ H2 ⟨d, kvs, cuts, word, b, seen, v6, v7, rfl, s2, d0, h1, hc, hq, hd, lk, hv, M, li⟩
      rw [List.length_zipIdx] at M li
      have few := M.few
      have csm := M.small
      have cl := M.len
      walk_at "rd"
      refine ⟨d, kvs, seen, rfl, hd, M.nodup, hv, fun u hu1 hu2 => ?_⟩
      walk_at "rd"
      refine r_appI hq (by omega) ?_
      have fin := M.done (u := (u : Int)) (by omega) (by omega) hu1
      have s3 : Same H (upd H2 q (.lst ((word ++ [(u : Int)]).map V.int))) := by walk_at "sm"
      have hc3 : (upd H2 q (.lst ((word ++ [(u : Int)]).map V.int))) c = some (.lst (cuts.map V.int)) := upd_keepNe hc cq
      have hq3 : (upd H2 q (.lst ((word ++ [(u : Int)]).map V.int))) q = some (.lst ((word ++ [(u : Int)]).map V.int)) := upd_same
      generalize upd H2 q (.lst ((word ++ [(u : Int)]).map V.int)) = H3 at s3 hc3 hq3 ⊢
      walk_at "rd"
      intro x dx hx hdx xdx
      have hD6 : ∀ {c o}, H3 c = some o → (upd (upd H3 dx (.own x)) x (.ins k_Missing dx [])) c = some o := fun {c o} hc => upd_keepNe (upd_keep hc hdx) (ne_of_none hc hx)
      refine ⟨x, dx, c, q, cuts, _, rfl, upd_same, hD6 hc3, hD6 hq3, fun fs c' q' H7 hc' hq' cq' s7 LA => ⟨rfl, ?_⟩⟩
      refine k x dx fs c' q' cuts _ H7 (s3.free hx) (s3.free (free_upd (free_upd hc'))) (s3.free (free_upd (free_upd hq'))) cq' ?_ LA (Lf.missed_true fin) csm
      intro y o hy
      exact s7 y o (hD6 (s3 _ _ hy)) (by simpa using ne_of_none hy (s3.free hx))
end

abbrev s__law_numbers : Stmt := body.getD 38 (.Pass ⟨0, 0, 0, 0⟩)
abbrev N__law_numbers : List Str := ["_law_found"]
abbrev P__law_numbers : List Str := ["_law_found"]
theorem sc__law_numbers : FnScope N__law_numbers P__law_numbers (defScope s__law_numbers) := ⟨rfl, rfl, rfl, by decide, rfl, by decide, by decide⟩
section
variable {P : Program} {w : World} {K : PySem.W.Frag} {mg : Str → Option Value} {base : Heap} {f : Addr} {fd : FuncData}
def sp__law_numbers (K : PySem.W.Frag) : Sp := fun vs H Q _ => ∃ (a : Addr) (ns : List Int), vs = [.ref a] ∧ H a = some (.lst (ns.map V.int)) ∧ ns.length ≤ 1000000 ∧ ∀ H', Same H H' → Q (.bl true) H'
theorem ok__law_numbers (F : Fun K "_law_numbers" "_law_numbers" s__law_numbers f fd) (T : Blt mg) : FnOk P w K mg base CX0 1 f fd P__law_numbers (sp__law_numbers K) := by
  refine F.ok sc__law_numbers (fun vs H Q E h => ?_) (fun cdv A outer s H vs Q E hr h => ?_)
  · obtain ⟨_, _, rfl, _⟩ := h
    rfl
  · obtain ⟨a, ns, rfl, ha, hn, k⟩ := h
    have nd := sc__law_numbers.nd
    have hu := hr.units
    refine ⟨_, (pss_cons (ps_if (pt_not (pt_val (pe_callB call_isinst rfl T.no_isinstance boot_isinstance (pa_cons (pv 0) (pa_cons (pe_bty rfl T.no_list boot_list) pa_nil))))) (pss_one (ps_ret pe_bl)) pss_nil)
     (pss_one (ps_ret (pe_callB (call_allB rfl) rfl T.no_all boot_all (pa_cons (pe_comp (N := ["_law_one"]) (k := 1) (caps := []) (Block.of (by kernel_rfl)) rfl (pi_list (pv 0)) (fun _ _ _ _ => ⟨_, (pg_name (i := 0) (by show List.Nodup (["_law_one"] : List Str); decide) rfl (by first | exact Or.inl rfl | exact Or.inr rfl)), by walk_at "ce"⟩) (fun _ _ _ _ => ⟨_, PIfs.none, by walk_at "ce"⟩) (fun _ _ _ _ => ⟨_, (pe_and (pe_callB call_isinst rfl T.no_isinstance boot_isinstance (pa_cons (pv 0) (pa_cons (pe_bty rfl T.no_int boot_int) pa_nil))) (pe_one (pe_not (pe_callB call_isinst rfl T.no_isinstance boot_isinstance (pa_cons (pv 0) (pa_cons (pe_bty rfl T.no_bool boot_bool) pa_nil)))))), by walk_at "ce"⟩)) pa_nil))))), ?_⟩
    try simp only [show (cxOf CX0 P w K mg base N__law_numbers "_law_numbers" (defScope s__law_numbers) f cdv A outer s H E).nox.K = K from rfl, show (cxOf CX0 P w K mg base N__law_numbers "_law_numbers" (defScope s__law_numbers) f cdv A outer s H E).K = K from rfl]
    rw [show L2.start N__law_numbers [V.ref a] = [some (V.ref a)] from rfl]
    walk_at "rd"
    refine comp_map (ov_ints (ns := ns)) (fun _ => .bl true) (fun H' s' => s'.seq (SqL.of ha)) hn ?_ ?_
    · rintro i z x H3 H4 R R' hi s3 ⟨rfl, rfl⟩ h1
      walk_at "rd"
      refine ⟨⟨rfl, rfl⟩, ?_⟩
      walk_at "rd"
      exact h1 _ (Same.refl _)
    · intro D H' hD s' hd
      walk_at "rd"
      refine ⟨D, ns.map (fun _ => true), rfl, SqL.of ?_, ?_⟩
      · rw [hd]
        rw [List.map_map]; rfl
      · rw [all_true]
        exact k _ s'
end

abbrev s__law_is_left : Stmt := body.getD 39 (.Pass ⟨0, 0, 0, 0⟩)
abbrev N__law_is_left : List Str := ["_law_row", "_law_other", "_law_rest", "_law_sign"]
abbrev P__law_is_left : List Str := ["_law_row", "_law_other"]
theorem sc__law_is_left : FnScope N__law_is_left P__law_is_left (defScope s__law_is_left) := ⟨rfl, rfl, rfl, by decide, rfl, by decide, by decide⟩
section
variable {P : Program} {w : World} {K : PySem.W.Frag} {mg : Str → Option Value} {base : Heap} {f : Addr} {fd : FuncData}
def sp__law_is_left (K : PySem.W.Frag) : Sp := fun vs H Q _ => ∃ (a b : Addr) (row other : List Int), vs = [.ref a, .ref b] ∧ SqL K H a (row.map V.int) ∧ SqL K H b (other.map V.int) ∧ ∀ H', Same H H' → Q (.bl (Lf.isLeft row other)) H'
theorem ok__law_is_left (F : Fun K "_law_is_left" "_law_is_left" s__law_is_left f fd) (T : Blt mg) : FnOk P w K mg base CX0 1 f fd P__law_is_left (sp__law_is_left K) := by
  refine F.ok sc__law_is_left (fun vs H Q E h => ?_) (fun cdv A outer s H vs Q E hr h => ?_)
  · obtain ⟨_, _, _, _, rfl, _⟩ := h
    rfl
  · obtain ⟨a, b, row, other, rfl, ha, hb, k⟩ := h
    have nd := sc__law_is_left.nd
    have hu := hr.units
    refine ⟨_, (pss_cons (ps_set (i := 2) nd rfl (by first | exact Or.inl rfl | exact Or.inr rfl) (pe_callTy call_listOf rfl T.no_list boot_list (pa_cons (pv 1) pa_nil)))
     (pss_cons (ps_for PassesOwn.never rfl (pi_list (pe_slice3 (pv 0) po_none po_none (pe_un un_neg pe_int))) (pg_name (i := 3) nd rfl (by first | exact Or.inl rfl | exact Or.inr rfl)) (pss_one (ps_if (PW.pt (pw_and (pt_cmpR (op_neG hu) (pv 2) (pe_lst pa_nil) (nomark _)) (pw_and1 (pt_cmpR (op_eqG hu) (pe_ix ix_G (pv 2) (pe_un un_neg pe_int) (fun _ _ => rfl)) (pv 3) (nomark _))))) (pss_one (ps_expr (pe_bm0 PySem.F.plainAttrs_list PySem.F.slot_list_pop PySem.F.type_list_pop mr_pop (pv 2)))) pss_nil)))
     (pss_one (ps_ret (pe_cmpR (op_eqG hu) (pv 2) (pe_lst pa_nil) (nomark _)))))), ?_⟩
    try simp only [show (cxOf CX0 P w K mg base N__law_is_left "_law_is_left" (defScope s__law_is_left) f cdv A outer s H E).nox.K = K from rfl, show (cxOf CX0 P w K mg base N__law_is_left "_law_is_left" (defScope s__law_is_left) f cdv A outer s H E).K = K from rfl]
    rw [show L2.start N__law_is_left [V.ref a, V.ref b] = [some (V.ref a), some (V.ref b), none, none] from rfl]
    walk_at "rd"
    intro r hr0
    walk_at "rd"
    intro q hq
    walk_at "rd"
    have qr : q ≠ r := fun e => by subst e; rw [upd_same] at hq; cases hq
    refine for_by (ov_ints (ns := row.reverse)) (fun i σ H2 => ∃ (rest : List Int) (v3 : Option V), σ = [some (.ref a), some (.ref b), some (.ref r), v3] ∧ Same H H2 ∧ H2 r = some (.lst (rest.map V.int)) ∧ H2 q = some (.lst (row.reverse.map V.int)) ∧ Lf.strike row.reverse other.reverse = Lf.strike (row.reverse.drop i) rest.reverse) ?_ ?_ ?_ ?_
    · exact ⟨other, none, rfl, by walk_at "sm", by walk_at "ft", by walk_at "ft", rfl⟩
    · rintro i σ H2 _ ⟨_, _, _, _, _, h, _⟩
      exact SqL.of h
    · rintro i z x σ H2 H3 hy ⟨rest, v3, rfl, s2, h2, hq2, inv⟩ ⟨rfl, rfl⟩
      have step : Lf.strike (row.reverse.drop i) rest.reverse = Lf.strike (row.reverse.drop (i + 1)) (match rest.reverse with | [] => [] | x :: r => if x = z then r else x :: r) := by
        obtain ⟨l1, e1⟩ := List.getElem?_eq_some_iff.mp hy
        rw [List.drop_eq_getElem_cons l1, e1]; rfl
      walk_at "rd"
      intro n hn
      walk_at "rd"
      refine iteND (fun h => ?_) (fun h => ?_)
      · walk_at "rd"
        refine r_ixLast (by walk_at "ft") h ?_
        walk_at "rd"
        have er : rest.reverse = rest.getLast h :: rest.dropLast.reverse := by
          conv => lhs; rw [← List.dropLast_concat_getLast h]
          simp
        refine iteD (fun h1 => ?_) (fun h1 => ?_)
        · walk_at "rd"
          refine r_popI (by walk_at "ft") h ?_
          walk_at "rd"
          refine ⟨rest.dropLast, _, rfl, by walk_at "sm", by walk_at "ft", by walk_at "ft", ?_⟩
          rw [inv, step, er]
          simp only [h1, if_true]
        · walk_at "rd"
          refine ⟨rest, _, rfl, by walk_at "sm", by walk_at "ft", by walk_at "ft", ?_⟩
          rw [inv, step, er]
          simp only [h1, if_false]
      · walk_at "rd"
        subst h
        refine ⟨[], _, rfl, by walk_at "sm", by walk_at "ft", by walk_at "ft", ?_⟩
        rw [inv, step]
        rfl
    · rintro σ H2 ⟨rest, v3, rfl, s2, h2, hq2, inv⟩
      walk_at "rd"
      intro n hn
      walk_at "rd"
      have e : Lf.isLeft row other = decide (rest = []) := by
        unfold Lf.isLeft
        rw [inv, List.drop_length]
        cases rest with
        | nil => rfl
        | cons x r => simp [Lf.strike]
      rw [← e]
      exact k _ (by walk_at "sm")
end

abbrev s__law_missed : Stmt := body.getD 40 (.Pass ⟨0, 0, 0, 0⟩)
abbrev N__law_missed : List Str := ["_law_row", "_law_kinds", "_law_cuts", "_law_word", "_law_begins", "_law_begin", "_law_end"]
abbrev P__law_missed : List Str := ["_law_row", "_law_kinds", "_law_cuts", "_law_word"]
theorem sc__law_missed : FnScope N__law_missed P__law_missed (defScope s__law_missed) := ⟨rfl, rfl, rfl, by decide, rfl, by decide, by decide⟩
section
variable {P : Program} {w : World} {K : PySem.W.Frag} {mg : Str → Option Value} {base : Heap} {f f1 : Addr} {fd fd1 : FuncData}
def sp__law_missed : Sp := fun vs H Q _ => ∃ (a c q : Addr) (row cuts word : List Int) (kinds : Int), vs = [.ref a, .int kinds, .ref c, .ref q] ∧ H a = some (.lst (row.map V.int)) ∧ H c = some (.lst (cuts.map V.int)) ∧ H q = some (.lst (word.map V.int)) ∧ row.length < 64 ∧ cuts.length ≤ 1000 ∧ word.length ≤ 1000 ∧ ∀ H', Same H H' → Q (.bl (Lf.missed row kinds cuts word)) H'
theorem ok__law_missed (F : Fun K "_law_missed" "_law_missed" s__law_missed f fd) (T : Blt mg)
    (C__law_is_left : Cal K mg "_law_is_left" f1 fd1 P__law_is_left) (G__law_is_left : FnOk P w K mg base CX0 1 f1 fd1 P__law_is_left (sp__law_is_left K)) : FnOk P w K mg base CX0 2 f fd P__law_missed sp__law_missed := by
  refine F.ok sc__law_missed (fun vs H Q E h => ?_) (fun cdv A outer s H vs Q E hr h => ?_)
  · obtain ⟨_, _, _, _, _, _, _, rfl, _⟩ := h
    rfl
  · obtain ⟨a, c, q, row, cuts, word, kinds, rfl, ha, hc, hq, n1, n2, n3, k⟩ := h
    have nd := sc__law_missed.nd
    have hu := hr.units
    rw [Lf.missed_eq] at k
    refine ⟨_, (pss_cons (ps_if (PW.pt (pw_or (pt_cmpR (op_neG hu) (pe_callB len_G rfl T.no_len boot_len (pa_cons (pv 3) pa_nil)) (pe_op op_addG (pe_callB len_G rfl T.no_len boot_len (pa_cons (pv 2) pa_nil)) pe_int) (nomark _)) (pw_or (pt_val (pe_callB (call_anyB rfl) rfl T.no_any boot_any (pa_cons (pe_comp (N := ["_law_sign", "_law_kinds"]) (k := 1) (caps := [1]) (Block.of (by kernel_rfl)) rfl (pi_list (pv 3)) (fun _ _ _ _ => ⟨_, (pg_name (i := 0) (by show List.Nodup (["_law_sign", "_law_kinds"] : List Str); decide) rfl (by first | exact Or.inl rfl | exact Or.inr rfl)), by walk_at "ce"⟩) (fun _ _ _ _ => ⟨_, PIfs.none, by walk_at "ce"⟩) (fun _ _ _ _ => ⟨_, (pe_not (pe_chain op_le op_lt pe_int (pv 0) (pv 1))), by walk_at "ce"⟩)) pa_nil))) (pw_or1 (pt_val (pe_call G__law_is_left (hr.mono (by decide)) rfl C__law_is_left.mg C__law_is_left.kp C__law_is_left.b .nil pass0 (pa_cons (pv 0) (pa_cons (pv 3) pa_nil)))))))) (pss_one (ps_ret pe_bl)) pss_nil)
     (pss_cons (ps_set (i := 4) nd rfl (by first | exact Or.inl rfl | exact Or.inr rfl) (pe_op op_addG (pe_lst (pa_cons pe_int pa_nil)) (pv 2)))
     (pss_cons (ps_for PassesOwn.never rfl (pi_zip rfl T.no_zip boot_zip (pa_cons (pv 4) (pa_cons (pv 2) pa_nil))) (pg_tup (n := 2) rfl (pgs_cons (pg_name (i := 5) nd rfl (by first | exact Or.inl rfl | exact Or.inr rfl)) (pgs_cons (pg_name (i := 6) nd rfl (by first | exact Or.inl rfl | exact Or.inr rfl)) pgs_nil))) (pss_cons (ps_if (pt_not (pt_chain op_lt op_le (pv 5) (pv 6) (pe_callB len_G rfl T.no_len boot_len (pa_cons (pv 0) pa_nil)))) (pss_one (ps_ret pe_bl)) pss_nil)
     (pss_one (ps_if (pt_cmpR (op_neG hu) (pe_callB len_G rfl T.no_len boot_len (pa_cons (pe_comp (N := ["_law_sign", "_law_kinds"]) (k := 1) (caps := [1]) (Block.of (by kernel_rfl)) rfl (pi_list (pe_callB (call_sortE rfl) rfl T.no_sorted boot_sorted (pa_cons (pe_callTy (call_setE rfl) rfl T.no_set boot_set (pa_cons (pe_slice sl_list (pv 0) (po_some (pv 5)) (po_some (pv 6))) pa_nil)) pa_nil))) (fun _ _ _ _ => ⟨_, (pg_name (i := 0) (by show List.Nodup (["_law_sign", "_law_kinds"] : List Str); decide) rfl (by first | exact Or.inl rfl | exact Or.inr rfl)), by walk_at "ce"⟩) (fun _ _ _ _ => ⟨_, (PIfs.one (pt_chain op_le op_lt pe_int (pv 0) (pv 1))), by walk_at "ce"⟩) (fun _ _ _ _ => ⟨_, (pv 0), by walk_at "ce"⟩)) pa_nil)) (pv 1) (nomark _)) (pss_one (ps_ret pe_bl)) pss_nil))))
     (pss_one (ps_ret pe_bl))))), ?_⟩
    try simp only [show (cxOf CX0 P w K mg base N__law_missed "_law_missed" (defScope s__law_missed) f cdv A outer s H E).nox.K = K from rfl, show (cxOf CX0 P w K mg base N__law_missed "_law_missed" (defScope s__law_missed) f cdv A outer s H E).K = K from rfl]
    try simp only [show (cxOf CX0 P w K mg base N__law_missed "_law_missed" (defScope s__law_missed) f cdv A outer s H E).nox.prog = P from rfl, show (cxOf CX0 P w K mg base N__law_missed "_law_missed" (defScope s__law_missed) f cdv A outer s H E).prog = P from rfl, show (cxOf CX0 P w K mg base N__law_missed "_law_missed" (defScope s__law_missed) f cdv A outer s H E).nox.w = w from rfl, show (cxOf CX0 P w K mg base N__law_missed "_law_missed" (defScope s__law_missed) f cdv A outer s H E).w = w from rfl]
    rw [show L2.start N__law_missed [V.ref a, V.int kinds, V.ref c, V.ref q] = [some (V.ref a), some (V.int kinds), some (V.ref c), some (V.ref q), none, none, none] from rfl]
    walk_at "rd"
    refine iteND (fun h1 => ?_) (fun h1 => ?_)
    · walk_at "rd"
      rw [decide_eq_false (fun z => h1 (by omega)), Bool.and_false, Bool.false_and] at k
      exact k _ (Same.refl _)
    rw [decide_eq_true (by omega), Bool.and_true] at k
    walk_at "rd"
    refine comp_map (ov_ints (ns := word)) (fun y => .bl (!Lf.isKind kinds y)) (fun H' s' => SqL.of (s'.at hq)) (by omega) ?_ ?_
    · rintro i z x H3 H4 R R' hi s3 ⟨rfl, rfl⟩ h1
      walk_at "rd"
      refine ⟨⟨rfl, rfl⟩, ?_⟩
      have e : Lf.isKind kinds z = (decide (0 ≤ z) && decide (z < kinds)) := by
        unfold Lf.isKind; simp
      rw [e] at h1
      walk_at "rd"
      refine iteD (fun h2 => ?_) (fun h2 => ?_)
      · walk_at "rd"
        rw [decide_eq_true h2, Bool.true_and] at h1
        exact h1 _ (Same.refl _)
      · rw [decide_eq_false h2, Bool.false_and] at h1
        walk_at "rd"
        exact h1 _ (Same.refl _)
    intro D H1 hD s1 hd
    walk_at "rd"
    refine r_anyM (SqL.of hd) ?_
    have ea : (word.any fun y => !Lf.isKind kinds y) = !(word.all fun s => Lf.isKind kinds s) := by
      rw [List.not_all_eq_any_not]
    rw [ea]
    walk_at "rd"
    refine iteNB (fun h2 => ?_) (fun h2 => ?_)
    · walk_at "rd"
      rw [h2, Bool.false_and] at k
      exact k _ s1
    rw [h2, Bool.true_and] at k
    walk_at "rd"
    refine ⟨a, q, row, word, rfl, SqL.of (s1.at ha), SqL.of (s1.at hq), fun H2 s2 => ?_⟩
    have s02 := s1.trans s2
    clear s1 s2 hd
    walk_at "rd"
    refine iteB (fun h3 => ?_) (fun h3 => ?_)
    · walk_at "rd"
      rw [h3] at k
      simp only [Bool.not_true, Bool.and_false] at k
      exact k _ s02
    rw [h3] at k
    simp only [Bool.not_false, Bool.and_true] at k
    walk_at "rd"
    intro z hz
    walk_at "rd"
    refine r_catI (xs := [0]) upd_same (upd_keep (s02.at hc) hz) (by simp; omega) ?_
    intro b hb
    have s3 : Same H2 (upd (upd H2 z (.lst (([0] : List Int).map V.int))) b (.lst (([0] ++ cuts).map V.int))) := (Same.upd_new hz).trans (Same.upd_new hb)
    have hb3 : (upd (upd H2 z (.lst (([0] : List Int).map V.int))) b (.lst (([0] ++ cuts).map V.int))) b = some (.lst ((0 :: cuts).map V.int)) := upd_same
    generalize upd (upd H2 z (.lst (([0] : List Int).map V.int))) b (.lst (([0] ++ cuts).map V.int)) = H3 at s3 hb3 ⊢
    have s03 := s02.trans s3
    clear s02 s3 hz hb
    walk_at "rd"
    refine for_by (ov_zipI (xs := 0 :: cuts) (ys := cuts)) (fun i σ H4 => ∃ (v5 v6 : Option V) (g : Int), σ = [some (.ref a), some (.int kinds), some (.ref c), some (.ref q), some (.ref b), v5, v6] ∧ Same H3 H4 ∧ 0 ≤ g ∧ (0 :: cuts).drop i = g :: cuts.drop i ∧ Lf.cutsB row kinds 0 cuts = Lf.cutsB row kinds g (cuts.drop i)) ?_ ?_ ?_ ?_
    · exact ⟨none, none, 0, rfl, Same.refl _, Int.le_refl _, rfl, rfl⟩
    · rintro i σ H4 _ ⟨_, _, _, _, s4, _⟩
      exact ⟨SqL.of (s4.at hb3), SqL.of ((s03.trans s4).at hc)⟩
    · rintro i ⟨p, e⟩ x σ H4 H5 hy ⟨v5, v6, g, rfl, s4, hg, hdr, inv⟩ ⟨T', hT, rfl, rfl⟩
      have hz := List.getElem?_zip_eq_some.mp hy
      have ep : p = g := by
        have := congrArg (fun l => l[0]?) hdr
        simp only [List.getElem?_drop, Nat.add_zero] at this
        rw [hz.1] at this
        simpa using this
      subst ep
      obtain ⟨hi, e1⟩ := List.getElem?_eq_some_iff.mp hz.2
      have d1 : cuts.drop i = e :: cuts.drop (i + 1) := by rw [List.drop_eq_getElem_cons hi, e1]
      have d2 : (0 :: cuts).drop (i + 1) = e :: cuts.drop (i + 1) := by rw [List.drop_succ_cons, d1]
      rw [d1] at inv
      have s04 := s03.trans s4
      have ha5 := upd_keep (o := .tup [.int p, .int e]) (s04.at ha) hT
      have ht5 : (upd H4 T' (.tup [.int p, .int e])) T' = some (.tup [.int p, .int e]) := upd_same
      have s45 : Same H3 (upd H4 T' (.tup [.int p, .int e])) := s4.trans (Same.upd_new hT)
      simp only at ha5 ht5 s45 ⊢
      generalize upd H4 T' (.tup [.int p, .int e]) = H5 at ha5 ht5 s45 ⊢
      clear hT s04 s4
      have s05 := s03.trans s45
      have no : Lf.cutsB row kinds p (e :: cuts.drop (i + 1)) = false → ∀ H', Same H H' → Q (.bl false) H' := fun z H' s' => by
        have := k H' s'
        rw [inv, z] at this
        exact this
      walk_at "rd"
      refine iteD (fun h5 => ?_) (fun h5 => ?_)
      · walk_at "rd"
        refine iteND (fun h6 => ?_) (fun h6 => ?_)
        · walk_at "rd"
          refine no ?_ _ s05
          unfold Lf.cutsB
          rw [decide_eq_false h6, Bool.and_false, Bool.false_and, Bool.false_and]
        walk_at "rd"
        intro u hu'
        have lcut : (Lf.cut row p e).length ≤ row.length := by unfold Lf.cut; rw [List.length_take, List.length_drop]; omega
        walk_at "rd"
        refine r_setE (SqL.of upd_same) (by omega) fun d hd0 => ?_
        walk_at "rd"
        refine r_sortE upd_same (by omega) fun l ms hl0 hmn hms => ?_
        have s6 : Same H5 (upd (upd (upd H5 u (.lst ((Lf.cut row p e).map V.int))) d (.ext (isSet P w d (Lf.cut row p e)))) l (.lst (ms.map V.int))) := ((Same.upd_new hu').trans (Same.upd_new hd0)).trans (Same.upd_new hl0)
        have hl6 : (upd (upd (upd H5 u (.lst ((Lf.cut row p e).map V.int))) d (.ext (isSet P w d (Lf.cut row p e)))) l (.lst (ms.map V.int))) l = some (.lst (ms.map V.int)) := upd_same
        generalize upd (upd (upd H5 u (.lst ((Lf.cut row p e).map V.int))) d (.ext (isSet P w d (Lf.cut row p e)))) l (.lst (ms.map V.int)) = H6 at s6 hl6 ⊢
        clear hu' hd0 hl0
        have s36 := s45.trans s6
        have s06 := s05.trans s6
        have mlen : ms.length ≤ row.length := Nat.le_trans (Lf.len_le_of_sub _ _ hmn fun a ha => (hms a).mp ha) lcut
        walk_at "rd"
        refine comp_filtI (ov_ints (ns := ms)) (Lf.isKind kinds) (fun y => y) (fun H' s' => SqL.of (s'.at hl6)) (by omega) ?_ ?_
        · rintro j y x H7 H8 R R' hi s7 ⟨rfl, rfl⟩ h7 h8
          walk_at "rd"
          refine ⟨⟨rfl, rfl⟩, ?_⟩
          have e : Lf.isKind kinds y = (decide (0 ≤ y) && decide (y < kinds)) := by
            unfold Lf.isKind; simp
          rw [e] at h7 h8
          walk_at "rd"
          refine iteD (fun h9 => ?_) (fun h9 => ?_)
          · walk_at "rd"
            rw [decide_eq_true h9, Bool.true_and] at h7 h8
            refine iteD (fun h10 => ?_) (fun h10 => ?_)
            · walk_at "rd"
              exact h7 (decide_eq_true h10) _ (Same.refl _)
            · exact h8 (decide_eq_false h10) _ (Same.refl _)
          · rw [decide_eq_false h9, Bool.false_and] at h8
            walk_at "rd"
            exact h8 rfl _ (Same.refl _)
        intro D2 H7 hD2 s7 hd2
        have s37 := s36.trans s7
        have s07 := s06.trans s7
        have em : (ms.filter (Lf.isKind kinds)).map (fun y => y) = ms.filter (Lf.isKind kinds) := by simp
        rw [em] at hd2
        have ek : (ms.filter (Lf.isKind kinds)).length = Lf.kindsIn kinds (Lf.cut row p e) := Lf.kindsIn_of (hmn.filter _) fun a => by rw [List.mem_filter, hms]
        walk_at "rd"
        rw [ek]
        refine iteND (fun h8 => ?_) (fun h8 => ?_)
        · walk_at "rd"
          refine no ?_ _ s07
          unfold Lf.cutsB
          rw [decide_eq_false h8, Bool.and_false, Bool.false_and]
        walk_at "rd"
        refine ⟨_, _, e, rfl, s37, by omega, d2, ?_⟩
        rw [inv]
        conv => lhs; unfold Lf.cutsB
        rw [decide_eq_true h5, decide_eq_true h6, decide_eq_true h8, Bool.true_and, Bool.true_and, Bool.true_and]
      · walk_at "rd"
        refine no ?_ _ s05
        unfold Lf.cutsB
        rw [decide_eq_false h5, Bool.false_and, Bool.false_and, Bool.false_and]
    · rintro σ H4 ⟨v5, v6, g, rfl, s4, hg, hdr, inv⟩
      rw [List.length_zip, Nat.min_eq_right (by simp), List.drop_length] at inv
      walk_at "rd"
      rw [inv] at k
      exact k _ (s03.trans s4)
end

abbrev s__law_right : Stmt := body.getD 41 (.Pass ⟨0, 0, 0, 0⟩)
abbrev N__law_right : List Str := ["_law_row", "_law_kinds", "_law_script", "_law_handed", "_law_found", "_law_some", "_law_many", "_law_by", "_law_word"]
abbrev P__law_right : List Str := ["_law_row", "_law_kinds", "_law_script"]
theorem sc__law_right : FnScope N__law_right P__law_right (defScope s__law_right) := ⟨rfl, rfl, rfl, by decide, rfl, by decide, by decide⟩
section
variable {P : Program} {w : World} {K : PySem.W.Frag} {mg : Str → Option Value} {base : Heap} {f f1 f2 f3 f4 f5 f6 k_Answer k_Left k_Short k_Both k_Longest k_Missing k_Mixed k_Unmixed : Addr} {fd fd1 fd2 fd3 fd4 fd5 fd6 : FuncData}
def sp__law_right (K : PySem.W.Frag) : Sp := fun vs H Q _ => ∃ (a e : Addr) (row ns : List Int) (kinds : Int), vs = [.ref a, .int kinds, .ref e] ∧ H a = some (.lst (row.map V.int)) ∧ SqL K H e (ns.map V.int) ∧ row.length ≤ 63 ∧ ns.length ≤ 63 ∧ 1 ≤ kinds ∧ ∀ H', Same H H' → Q (.bl true) H'
theorem ok__law_right (F : Fun K "_law_right" "_law_right" s__law_right f fd) (T : Blt mg)
    (C_missing : Cal K mg "missing" f1 fd1 P_missing) (G_missing : FnOk P w K mg base CX0 8 f1 fd1 P_missing (sp_missing k_Missing))
    (C__law_numbers : Cal K mg "_law_numbers" f2 fd2 P__law_numbers) (G__law_numbers : FnOk P w K mg base CX0 1 f2 fd2 P__law_numbers (sp__law_numbers K))
    (C__law_missed : Cal K mg "_law_missed" f3 fd3 P__law_missed) (G__law_missed : FnOk P w K mg base CX0 2 f3 fd3 P__law_missed sp__law_missed)
    (C_left : Cal K mg "left" f4 fd4 P_left) (G_left : FnOk P w K mg base CX0 8 f4 fd4 P_left (sp_left k_Left k_Short))
    (D_Missing_shows : Met K k_Missing "shows" f5 fd5 P_Missing_shows) (G_Missing_shows : FnOk P w K mg base CX0 8 f5 fd5 P_Missing_shows (sp_Missing_shows k_Missing))
    (g_Answer : mg "Answer" = some (.ref k_Answer))
    (g_Left : mg "Left" = some (.ref k_Left))
    (g_Short : mg "Short" = some (.ref k_Short))
    (g_Both : mg "Both" = some (.ref k_Both))
    (g_Longest : mg "Longest" = some (.ref k_Longest))
    (g_Missing : mg "Missing" = some (.ref k_Missing))
    (g_Mixed : mg "Mixed" = some (.ref k_Mixed))
    (g_Unmixed : mg "Unmixed" = some (.ref k_Unmixed))
    (I_Left : Ins K k_Left) (I_Short : Ins K k_Short) (I_Missing : Ins K k_Missing) (n_Missing_cuts : NoAttr K k_Missing "cuts") (n_Missing_word : NoAttr K k_Missing "word")
    (i_Missing_Answer : PySem.W.kitOne K (.ref k_Missing) (.ref k_Answer) = some true)
    (i_Missing_Left : PySem.W.kitOne K (.ref k_Missing) (.ref k_Left) = some false)
    (i_Missing_Short : PySem.W.kitOne K (.ref k_Missing) (.ref k_Short) = some false)
    (i_Missing_Both : PySem.W.kitOne K (.ref k_Missing) (.ref k_Both) = some false)
    (i_Missing_Longest : PySem.W.kitOne K (.ref k_Missing) (.ref k_Longest) = some false)
    (i_Missing_Missing : PySem.W.kitOne K (.ref k_Missing) (.ref k_Missing) = some true)
    (i_Missing_Mixed : PySem.W.kitOne K (.ref k_Missing) (.ref k_Mixed) = some false)
    (i_Missing_Unmixed : PySem.W.kitOne K (.ref k_Missing) (.ref k_Unmixed) = some false)
    (i_Left_Left : PySem.W.kitOne K (.ref k_Left) (.ref k_Left) = some true)
    : FnOk P w K mg base CX0 9 f fd P__law_right (sp__law_right K) := by
  refine F.ok sc__law_right (fun vs H Q E h => ?_) (fun cdv A outer s H vs Q E hr h => ?_)
  · obtain ⟨_, _, _, _, _, rfl, _⟩ := h
    rfl
  · obtain ⟨a, e, row, ns, kinds, rfl, ha, he, l1, l2, hk, k⟩ := h
    have nd := sc__law_right.nd
    have hu := hr.units
    refine ⟨_, (pss_cons (ps_set (i := 3) nd rfl (by first | exact Or.inl rfl | exact Or.inr rfl) (pe_callTy call_listOf rfl T.no_list boot_list (pa_cons (pv 0) pa_nil)))
     (pss_cons (ps_set (i := 4) nd rfl (by first | exact Or.inl rfl | exact Or.inr rfl) (pe_call G_missing (hr.mono (by decide)) rfl C_missing.mg C_missing.kp C_missing.b .nil pass0 (pa_cons (pv 3) (pa_cons (pv 1) pa_nil))))
     (pss_cons (ps_if (PW.pt (pw_or (pt_not (pt_val (pe_callB call_isinst rfl T.no_isinstance boot_isinstance (pa_cons (pv 4) (pa_cons (pe_gref rfl g_Answer) pa_nil))))) (pw_or (pt_not (pt_val (pe_callB call_isinst rfl T.no_isinstance boot_isinstance (pa_cons (pv 4) (pa_cons (pe_gref rfl g_Missing) pa_nil))))) (pw_or1 (pt_cmpR (op_neG hu) (pv 3) (pv 0) (nomark _)))))) (pss_one (ps_ret pe_bl)) pss_nil)
     (pss_cons (ps_if (pt_val (pe_callB (call_anyB rfl) rfl T.no_any boot_any (pa_cons (pe_lst (pa_cons (pe_callB call_isinst rfl T.no_isinstance boot_isinstance (pa_cons (pv 4) (pa_cons (pe_gref rfl g_Both) pa_nil))) (pa_cons (pe_callB call_isinst rfl T.no_isinstance boot_isinstance (pa_cons (pv 4) (pa_cons (pe_gref rfl g_Left) pa_nil))) (pa_cons (pe_callB call_isinst rfl T.no_isinstance boot_isinstance (pa_cons (pv 4) (pa_cons (pe_gref rfl g_Longest) pa_nil))) pa_nil)))) pa_nil))) (pss_one (ps_ret pe_bl)) pss_nil)
     (pss_cons (ps_if (pt_val (pe_callB (call_anyB rfl) rfl T.no_any boot_any (pa_cons (pe_lst (pa_cons (pe_callB call_isinst rfl T.no_isinstance boot_isinstance (pa_cons (pv 4) (pa_cons (pe_gref rfl g_Mixed) pa_nil))) (pa_cons (pe_callB call_isinst rfl T.no_isinstance boot_isinstance (pa_cons (pv 4) (pa_cons (pe_gref rfl g_Short) pa_nil))) (pa_cons (pe_callB call_isinst rfl T.no_isinstance boot_isinstance (pa_cons (pv 4) (pa_cons (pe_gref rfl g_Unmixed) pa_nil))) pa_nil)))) pa_nil))) (pss_one (ps_ret pe_bl)) pss_nil)
     (pss_cons (ps_if (PW.pt (pw_or (pt_not (pt_val (pe_call G__law_numbers (hr.mono (by decide)) rfl C__law_numbers.mg C__law_numbers.kp C__law_numbers.b .nil pass0 (pa_cons (pe_fld (pv 4) rfl) pa_nil)))) (pw_or (pt_not (pt_val (pe_call G__law_numbers (hr.mono (by decide)) rfl C__law_numbers.mg C__law_numbers.kp C__law_numbers.b .nil pass0 (pa_cons (pe_fld (pv 4) rfl) pa_nil)))) (pw_or1 (pt_cmpR op_isnotG (pe_meth (pv 4) I_Missing.cl D_Missing_shows.m G_Missing_shows (hr.mono (by decide)) D_Missing_shows.b .nil pass0 (pa_cons (pv 0) (pa_cons (pv 1) pa_nil))) pe_bl (nomark _)))))) (pss_one (ps_ret pe_bl)) pss_nil)
     (pss_cons (ps_if (pt_not (pt_val (pe_call G__law_missed (hr.mono (by decide)) rfl C__law_missed.mg C__law_missed.kp C__law_missed.b .nil pass0 (pa_cons (pv 0) (pa_cons (pv 1) (pa_cons (pe_fld (pv 4) rfl) (pa_cons (pe_fld (pv 4) rfl) pa_nil))))))) (pss_one (ps_ret pe_bl)) pss_nil)
     (pss_cons (ps_for PassesOwn.never rfl (pi_list (pe_lst (pa_cons (pe_tup (pa_cons (pv 0) (pa_cons (pe_op op_addG (pv 1) pe_int) pa_nil))) (pa_cons (pe_tup (pa_cons (pv 0) (pa_cons (pe_callB (call_max2N rfl) rfl T.no_max boot_max (pa_cons pe_int (pa_cons (pe_op op_sub (pv 1) pe_int) pa_nil))) pa_nil))) (pa_cons (pe_tup (pa_cons (pe_slice3 (pv 0) po_none po_none (pe_un un_neg pe_int)) (pa_cons (pv 1) pa_nil))) pa_nil))))) (pg_tup (n := 2) rfl (pgs_cons (pg_name (i := 5) nd rfl (by first | exact Or.inl rfl | exact Or.inr rfl)) (pgs_cons (pg_name (i := 6) nd rfl (by first | exact Or.inl rfl | exact Or.inr rfl)) pgs_nil))) (pss_one (ps_if (pt_cmpR (op_neG hu) (pe_meth (pv 4) I_Missing.cl D_Missing_shows.m G_Missing_shows (hr.mono (by decide)) D_Missing_shows.b .nil pass0 (pa_cons (pv 5) (pa_cons (pv 6) pa_nil))) (pe_call G__law_missed (hr.mono (by decide)) rfl C__law_missed.mg C__law_missed.kp C__law_missed.b .nil pass0 (pa_cons (pv 5) (pa_cons (pv 6) (pa_cons (pe_fld (pv 4) rfl) (pa_cons (pe_fld (pv 4) rfl) pa_nil))))) (nomark _)) (pss_one (ps_ret pe_bl)) pss_nil)))
     (pss_cons (ps_for PassesOwn.never rfl (pi_list (pe_lst (pa_cons pe_int (pa_cons pe_int (pa_cons pe_int pa_nil))))) (pg_name (i := 7) nd rfl (by first | exact Or.inl rfl | exact Or.inr rfl)) (pss_cons (ps_comp (N := ["_law_cell", "_law_kinds", "_law_by"]) (k := 1) (caps := [1, 7]) (Block.of (by kernel_rfl)) rfl (pi_list (pe_slice sl_list (pv 2) po_none (po_some (pe_callB len_G rfl T.no_len boot_len (pa_cons (pe_fld (pv 4) rfl) pa_nil))))) (fun _ _ _ _ => ⟨_, (pg_name (i := 0) (by show List.Nodup (["_law_cell", "_law_kinds", "_law_by"] : List Str); decide) rfl (by first | exact Or.inl rfl | exact Or.inr rfl)), by walk_at "ce"⟩) (fun _ _ _ _ => ⟨_, PIfs.none, by walk_at "ce"⟩) (fun _ _ _ _ => ⟨_, (pe_op op_mod (pe_op op_fdiv (pv 0) (pv 2)) (pv 1)), by walk_at "ce"⟩) nd (i := 8) rfl rfl (by with_unfolding_all rfl))
     (pss_one (ps_if (pt_not (pt_val (pe_callB call_isinst rfl T.no_isinstance boot_isinstance (pa_cons (pe_call G_left (hr.mono (by decide)) rfl C_left.mg C_left.kp C_left.b .nil pass0 (pa_cons (pv 0) (pa_cons (pv 8) pa_nil))) (pa_cons (pe_gref rfl g_Left) pa_nil))))) (pss_one (ps_ret pe_bl)) pss_nil))))
     (pss_cons (ps_expr (pe_bm PySem.F.plainAttrs_list PySem.F.slot_list_append PySem.F.type_list_append mr_append (pe_fld (pv 4) rfl) (pa_cons (pe_op op_addG (pe_callB len_G rfl T.no_len boot_len (pa_cons (pv 0) pa_nil)) pe_int) pa_nil)))
     (pss_cons (ps_if (pt_cmpR op_isnotG (pe_meth (pv 4) I_Missing.cl D_Missing_shows.m G_Missing_shows (hr.mono (by decide)) D_Missing_shows.b .nil pass0 (pa_cons (pv 0) (pa_cons (pv 1) pa_nil))) pe_bl (nomark _)) (pss_one (ps_ret pe_bl)) pss_nil)
     (pss_cons (ps_expr (pe_bm0 PySem.F.plainAttrs_list PySem.F.slot_list_pop PySem.F.type_list_pop mr_pop (pe_fld (pv 4) rfl)))
     (pss_cons (ps_expr (pe_bm PySem.F.plainAttrs_list PySem.F.slot_list_append PySem.F.type_list_append mr_append (pe_fld (pv 4) rfl) (pa_cons pe_int pa_nil)))
     (pss_one (ps_ret (pe_cmpR op_isG (pe_meth (pv 4) I_Missing.cl D_Missing_shows.m G_Missing_shows (hr.mono (by decide)) D_Missing_shows.b .nil pass0 (pa_cons (pv 0) (pa_cons (pv 1) pa_nil))) pe_bl (nomark _))))))))))))))))), ?_⟩
    try simp only [show (cxOf CX0 P w K mg base N__law_right "_law_right" (defScope s__law_right) f cdv A outer s H E).nox.K = K from rfl, show (cxOf CX0 P w K mg base N__law_right "_law_right" (defScope s__law_right) f cdv A outer s H E).K = K from rfl]
    rw [show L2.start N__law_right [V.ref a, V.int kinds, V.ref e] = [some (V.ref a), some (V.int kinds), some (V.ref e), none, none, none, none, none, none] from rfl]
    walk_at "rd"
    intro p hp
    walk_at "rd"
    refine ⟨p, row, kinds, rfl, by walk_at "ft", by omega, hk, fun x dx fs c q cuts word H1 fx fc0 fq0 cq s1 L hL cl => ?_⟩
    have fx0 : H x = none := by walk_at "fr"
    have fc1 : H c = none := by walk_at "fr"
    have fq1 : H q = none := by walk_at "fr"
    have hp1 : H1 p = some (.lst (row.map V.int)) := by walk_at "ft"
    have s1' : Same H H1 := by walk_at "sm"
    clear s1 hp fx fc0 fq0
    have ha1 := s1'.at ha
    obtain ⟨hx, fc, fw, fn, hc, hq⟩ := id L
    have mo := Lf.missed_iff.mp hL
    have wl := mo.len
    walk_at "rd"
    intro n1 hn1
    walk_at "rd"
    intro n2 hn2
    walk_at "rd"
    refine ⟨c, cuts, rfl, by walk_at "ft", by omega, fun H2 s2 => ?_⟩
    have s12 : Same H1 H2 := by walk_at "sm"
    have hx2 := s12.at hx
    clear s2 hn1 hn2
    walk_at "rd"
    refine ⟨q, word, rfl, s12.at hq, by omega, fun H3 s3 => ?_⟩
    have s13 := s12.trans s3
    have hx3 := s13.at hx
    clear s12 s3 hx2
    walk_at "rd"
    refine ⟨x, dx, fs, c, q, cuts, word, a, row, kinds, rfl, L.same s13, s13.at ha1, by omega, by omega, by omega, hk, fun H4 s4 => ?_⟩
    have s14 := s13.trans s4
    have hx4 := s14.at hx
    clear s13 s4 hx3
    rw [hL]
    walk_at "rd"
    refine ⟨a, c, q, row, cuts, word, kinds, rfl, s14.at ha1, s14.at hc, s14.at hq, by omega, by omega, by omega, fun H5 s5 => ?_⟩
    have s15 := s14.trans s5
    have hx5 := s15.at hx
    have ha5 := s15.at ha1
    have hc5 := s15.at hc
    have hq5 := s15.at hq
    have he5 := s15.seq (s1'.seq he)
    have s05 := s1'.trans s15
    have L5 := L.same s15
    rw [hL]
    clear s14 s5 hx4 s15 hx hc hq he ha1 s1' hp1 L
    walk_at "rd"
    intro t1 ht1
    walk_at "rd"
    intro t2 ht2
    walk_at "rd"
    intro v1 hv1
    walk_at "rd"
    intro t3 ht3
    walk_at "rd"
    intro g hg
    generalize hH6 : upd (upd _ t3 (HO.tup [V.ref v1, V.int kinds])) g (HO.lst [V.ref t1, V.ref t2, V.ref t3]) = H6
    have s56 : Same H5 H6 := by rw [← hH6]; walk_at "sm"
    have hg6 : H6 g = some (.lst [.ref t1, .ref t2, .ref t3]) := by rw [← hH6]; walk_at "ft"
    have all6 : ∀ v ∈ [V.ref t1, V.ref t2, V.ref t3], ∃ (t d : Addr) (R : List Int) (m : Int), v = .ref t ∧ H6 t = some (.tup [.ref d, .int m]) ∧ H6 d = some (.lst (R.map V.int)) ∧ R.length ≤ 63 ∧ 1 ≤ m := by
      intro v hv
      simp only [List.mem_cons, List.mem_nil_iff, or_false] at hv
      rcases hv with rfl | rfl | rfl
      · exact ⟨t1, a, row, _, rfl, by rw [← hH6]; walk_at "ft", by rw [← hH6]; walk_at "ft", l1, by omega⟩
      · exact ⟨t2, a, row, _, rfl, by rw [← hH6]; walk_at "ft", by rw [← hH6]; walk_at "ft", l1, by omega⟩
      · exact ⟨t3, v1, row.reverse, _, rfl, by rw [← hH6]; walk_at "ft", by rw [← hH6]; walk_at "ft", by rw [List.length_reverse]; exact l1, hk⟩
    clear hH6 ht1 ht2 hv1 ht3 hg
    have hx6 := s56.at hx5
    walk_at "rd"
    refine for_by (ov_list (xs := [V.ref t1, V.ref t2, V.ref t3])) (fun i σ H7 => ∃ v5 v6 : Option V, σ = [some (.ref a), some (.int kinds), some (.ref e), some (.ref p), some (.ref x), v5, v6, none, none] ∧ Same H6 H7) ?_ ?_ ?_ ?_
    · exact ⟨_, _, rfl, Same.refl _⟩
    · rintro i σ H7 _ ⟨_, _, _, s7⟩
      exact SqL.of (s7.at hg6)
    · rintro i v y σ H7 H7' hy ⟨v5, v6, rfl, s7⟩ ⟨rfl, rfl⟩
      obtain ⟨t, d, R, m, rfl, ht, hd, hR, hm⟩ := all6 _ (List.mem_of_getElem? hy)
      have ht7 := s7.at ht
      have hd7 := s7.at hd
      have s57 := s56.trans s7
      have hx7 := s57.at hx5
      have hc7 := s57.at hc5
      have hq7 := s57.at hq5
      walk_at "rd"
      refine ⟨x, dx, fs, c, q, cuts, word, d, R, m, rfl, L5.same s57, hd7, by omega, by omega, by omega, hm, fun H8 s8 => ?_⟩
      have hx8 := s8.at hx7
      have s78 := s7.trans s8
      walk_at "rd"
      refine ⟨d, c, q, R, cuts, word, m, rfl, s8.at hd7, s8.at hc7, s8.at hq7, by omega, by omega, by omega, fun H9 s9 => ?_⟩
      walk_at "rd"
      exact ⟨_, _, rfl, s78.trans s9⟩
    · rintro σ H7 ⟨v5, v6, rfl, s7⟩
      have s57 := s56.trans s7
      have hx7 := s57.at hx5
      have ha7 := s57.at ha5
      have hc7 := s57.at hc5
      have hq7 := s57.at hq5
      have he7 := s57.seq he5
      have s07 := s05.trans s57
      have L7 := L5.same s57
      clear all6 hg6 s7 s57 s56 s05 hx6 hx5 ha5 hc5 hq5 he5 L5
      walk_at "rd"
      intro b hb
      have hb8 : (upd H7 b (.lst (([1, 5, 25] : List Int).map V.int))) b = some (.lst (([1, 5, 25] : List Int).map V.int)) := upd_same
      have s78 : Same H7 (upd H7 b (.lst (([1, 5, 25] : List Int).map V.int))) := Same.upd_new hb
      generalize upd H7 b (.lst (([1, 5, 25] : List Int).map V.int)) = H8 at hb8 s78 ⊢
      have hx8 := s78.at hx7
      walk_at "rd"
      refine for_by (ov_ints (ns := [1, 5, 25])) (fun i σ H9 => ∃ v7 v8 : Option V, σ = [some (.ref a), some (.int kinds), some (.ref e), some (.ref p), some (.ref x), v5, v6, v7, v8] ∧ Same H7 H9 ∧ H9 b = some (.lst (([1, 5, 25] : List Int).map V.int))) ?_ ?_ ?_ ?_
      · exact ⟨_, _, rfl, s78, hb8⟩
      · rintro i σ H9 _ ⟨_, _, _, _, h9⟩
        exact SqL.of h9
      · rintro i by' y σ H9' H9 hy ⟨v7, v8, rfl, s9, hb9⟩ ⟨rfl, rfl⟩
        have hby : 1 ≤ by' ∧ by' ≤ 25 := by
          have := List.mem_of_getElem? hy
          simp only [List.mem_cons, List.mem_nil_iff, or_false] at this
          omega
        have hx9 := s9.at hx7
        have hc9 := s9.at hc7
        have he9 := s9.seq he7
        have ha9 := s9.at ha7
        walk_at "rd"
        intro u hu'
        have hu9 := (upd_same : (upd H9 u (.lst ((ns.take (cuts.length : Int).toNat).map V.int))) u = _)
        have s910 : Same H9 (upd H9 u (.lst ((ns.take (cuts.length : Int).toNat).map V.int))) := Same.upd_new hu'
        generalize upd H9 u (.lst ((ns.take (cuts.length : Int).toNat).map V.int)) = H10 at hu9 s910 ⊢
        have tl : (ns.take (cuts.length : Int).toNat).length ≤ cuts.length := by rw [List.length_take]; omega
        generalize ns.take (cuts.length : Int).toNat = us at hu9 tl
        walk_at "rd"
        refine comp_mapI (ov_ints (ns := us)) (fun z => z / by' % kinds) (fun H' s' => SqL.of (s'.at hu9)) (by omega) ?_ ?_
        · rintro j z x' H11 H12 R R' hi s11 ⟨rfl, rfl⟩ h1
          walk_at "rd"
          refine ⟨⟨rfl, rfl⟩, ?_⟩
          walk_at "rd"
          exact h1 _ (Same.refl _)
        intro D H11 hD s11 hd
        have s911 := s910.trans s11
        have lw : (us.map fun z => z / by' % kinds).length ≤ cuts.length := by rw [List.length_map]; exact tl
        have isl : Lf.isLeft row (us.map fun z => z / by' % kinds) = true := by
          have := Lf.cuts_left (by omega) cuts (us.map fun z => z / by' % kinds) 0 (Int.le_refl _) mo.cuts lw (fun z hz => by
            obtain ⟨y, _, rfl⟩ := List.mem_map.mp hz
            exact ⟨Int.emod_nonneg _ (by omega), Int.emod_lt_of_pos _ (by omega)⟩)
          exact (Lf.isLeft_iff _ _).mpr (by simpa using this)
        generalize (us.map fun z => z / by' % kinds) = wd at hd lw isl
        walk_at "rd"
        refine ⟨a, D, row, wd, rfl, s911.at ha9, hd, by omega, by omega, fun C x2 dx2 pl ps H12 hx2 hpl xpl s12 h1 h2 hC => ?_⟩
        have s912 := s911.trans s12
        have hb12 := s912.at hb9
        rcases hC with ⟨e, hC⟩ | ⟨e, hC⟩
        · obtain rfl := e.symm
          walk_at "rd"
          exact ⟨_, _, rfl, s9.trans s912, hb12⟩
        · rw [Lf.short_not_left hC] at isl
          cases isl
      · rintro σ H9 ⟨v7, v8, rfl, s9, hb9⟩
        have hx9 := s9.at hx7
        have ha9 := s9.at ha7
        have hc9 := s9.at hc7
        have hq9 := s9.at hq7
        have s09 := s07.trans s9
        have ac : a ≠ c := ne_of_none ha fc1
        have aq : a ≠ q := ne_of_none ha fq1
        have cx : x ≠ c := fun e => by rw [e, hc9] at hx9; cases hx9
        have qx : x ≠ q := fun e => by rw [e, hq9] at hx9; cases hx9
        clear s78 hb8 hb9 s9 hx8 s07 L7 he7 hx7 ha7 hc7 hq7
        walk_at "rd"
        refine r_appI hc9 (by omega) ?_
        have hx10 := upd_keepNe (o := .lst ((cuts ++ [(row.length : Int) + 1]).map V.int)) hx9 cx
        have ha10 := upd_keepNe (o := .lst ((cuts ++ [(row.length : Int) + 1]).map V.int)) ha9 ac
        have hq10 := upd_keepNe (o := .lst ((cuts ++ [(row.length : Int) + 1]).map V.int)) hq9 (Ne.symm cq)
        have hc10 : (upd H9 c (.lst ((cuts ++ [(row.length : Int) + 1]).map V.int))) c = some (.lst ((cuts ++ [(row.length : Int) + 1]).map V.int)) := upd_same
        have s10 : Same H (upd H9 c (.lst ((cuts ++ [(row.length : Int) + 1]).map V.int))) := by walk_at "sm"
        generalize upd H9 c (.lst ((cuts ++ [(row.length : Int) + 1]).map V.int)) = H10 at hx10 ha10 hq10 hc10 s10 ⊢
        have L10 : MisAt k_Missing H10 x dx fs c q (cuts ++ [(row.length : Int) + 1]) word := ⟨hx10, fc, fw, fn, hc10, hq10⟩
        have f1 : Lf.missed row kinds (cuts ++ [(row.length : Int) + 1]) word = false := Lf.missed_false fun z => by
          have := z.len
          rw [List.length_append, List.length_singleton] at this
          omega
        have f2 : Lf.missed row kinds cuts (word ++ [0]) = false := Lf.missed_false fun z => by
          have := z.len
          rw [List.length_append, List.length_singleton] at this
          omega
        walk_at "rd"
        refine ⟨x, dx, fs, c, q, _, word, a, row, kinds, rfl, L10, ha10, by rw [List.length_append, List.length_singleton]; omega, by omega, by omega, hk, fun H11 s11 => ?_⟩
        have hx11 := s11.at hx10
        have hc11 := s11.at hc10
        have hq11 := s11.at hq10
        have ha11 := s11.at ha10
        have s011 := s10.trans s11
        clear s10 s11 hx10 hc10 hq10 ha10 L10 hx9 hc9 hq9 ha9
        rw [f1]
        walk_at "rd"
        refine r_popI hc11 (by simp) ?_
        rw [List.dropLast_concat]
        have hx12 := upd_keepNe (o := .lst (cuts.map V.int)) hx11 cx
        have ha12 := upd_keepNe (o := .lst (cuts.map V.int)) ha11 ac
        have hq12 := upd_keepNe (o := .lst (cuts.map V.int)) hq11 (Ne.symm cq)
        have hc12 : (upd H11 c (.lst (cuts.map V.int))) c = some (.lst (cuts.map V.int)) := upd_same
        have s012 : Same H (upd H11 c (.lst (cuts.map V.int))) := by walk_at "sm"
        generalize upd H11 c (.lst (cuts.map V.int)) = H12 at hx12 ha12 hq12 hc12 s012 ⊢
        clear s011 hx11 hc11 hq11 ha11
        walk_at "rd"
        refine r_appI hq12 (by omega) ?_
        walk_at "rd"
        have hx13 := upd_keepNe (o := .lst ((word ++ [0]).map V.int)) hx12 qx
        have ha13 := upd_keepNe (o := .lst ((word ++ [0]).map V.int)) ha12 aq
        have hc13 := upd_keepNe (o := .lst ((word ++ [0]).map V.int)) hc12 cq
        have hq13 : (upd H12 q (.lst ((word ++ [0]).map V.int))) q = some (.lst ((word ++ [0]).map V.int)) := upd_same
        have s013 : Same H (upd H12 q (.lst ((word ++ [0]).map V.int))) := by walk_at "sm"
        refine ⟨x, dx, fs, c, q, cuts, _, a, row, kinds, rfl, ⟨hx13, fc, fw, fn, hc13, hq13⟩, ha13, by omega, by rw [List.length_append, List.length_singleton]; omega, by omega, hk, fun H14 s14 => ?_⟩
        rw [f2]
        walk_at "rd"
        exact k _ (s013.trans s14)
end

abbrev s_law : Stmt := body.getD 42 (.Pass ⟨0, 0, 0, 0⟩)
abbrev N_law : List Str := ["_law_script", "_law_row", "_law_code", "_law_strange", "_law_some", "_law_kinds"]
abbrev P_law : List Str := ["_law_script"]
theorem sc_law : FnScope N_law P_law (defScope s_law) := ⟨rfl, rfl, rfl, by decide, rfl, by decide, by decide⟩
section
variable {P : Program} {w : World} {K : PySem.W.Frag} {mg : Str → Option Value} {base : Heap} {f f1 : Addr} {fd fd1 : FuncData}
def sp_law (K : PySem.W.Frag) : Sp := fun vs H Q _ => ∃ (a : Addr) (ns : List Int), vs = [.ref a] ∧ SqL K H a (ns.map V.int) ∧ ns.length ≤ 63 ∧ ∀ H', Q (.bl true) H'
theorem ok_law (F : Fun K "law" "law" s_law f fd) (T : Blt mg)
    (C__law_right : Cal K mg "_law_right" f1 fd1 P__law_right) (G__law_right : FnOk P w K mg base CX0 9 f1 fd1 P__law_right (sp__law_right K)) :
    FnOk P w K mg base CX0 10 f fd P_law (sp_law K) := by
  refine F.ok sc_law (fun vs H Q E h => ?_) (fun cdv A outer s H vs Q E hr h => ?_)
  · obtain ⟨_, _, rfl, _⟩ := h
    rfl
  · obtain ⟨a, ns, rfl, ha, hn, k⟩ := h
    have nd := sc_law.nd
    have hu := hr.units
    refine ⟨_, (pss_cons (ps_par (i := 1) (j := 2) rfl nd rfl rfl (by decide) rfl rfl (pa_cons (pe_comp (N := ["_law_cell", "_law_script"]) (k := 1) (caps := [0]) (Block.of (by kernel_rfl)) rfl (pi_list (pv 0)) (fun _ _ _ _ => ⟨_, (pg_name (i := 0) (by show List.Nodup (["_law_cell", "_law_script"] : List Str); decide) rfl (by first | exact Or.inl rfl | exact Or.inr rfl)), by walk_at "ce"⟩) (fun _ _ _ _ => ⟨_, PIfs.none, by walk_at "ce"⟩) (fun _ _ _ _ => ⟨_, (pe_op op_mod (pv 0) (pe_ix ix_G (pe_tup (pa_cons pe_int (pa_cons pe_int (pa_cons pe_int (pa_cons pe_int pa_nil))))) (pe_op op_mod (pe_callB (call_sum rfl) rfl T.no_sum boot_sum (pa_cons (pv 1) pa_nil)) pe_int) (fun _ _ => rfl))), by walk_at "ce"⟩)) (pa_cons (pe_op op_fdiv (pe_callB (call_sum rfl) rfl T.no_sum boot_sum (pa_cons (pv 0) pa_nil)) pe_int) pa_nil)) (by with_unfolding_all rfl))
     (pss_cons (ps_comp (N := ["_law_sign", "_law_cell"]) (k := 2) (caps := []) (Block.of (by kernel_rfl)) rfl (pi_zip rfl T.no_zip boot_zip (pa_cons (pv 1) (pa_cons (pv 0) pa_nil))) (fun _ _ _ _ => ⟨_, (pg_tup (n := 2) rfl (pgs_cons (pg_name (i := 0) (by show List.Nodup (["_law_sign", "_law_cell"] : List Str); decide) rfl (by first | exact Or.inl rfl | exact Or.inr rfl)) (pgs_cons (pg_name (i := 1) (by show List.Nodup (["_law_sign", "_law_cell"] : List Str); decide) rfl (by first | exact Or.inl rfl | exact Or.inr rfl)) pgs_nil))), by walk_at "ce"⟩) (fun _ _ _ _ => ⟨_, PIfs.none, by walk_at "ce"⟩) (fun _ _ _ _ => ⟨_, (pe_op op_addG (pv 0) (pe_ix ix_G (pe_tup (pa_cons pe_int (pa_cons pe_int (pa_cons pe_int (pa_cons (pe_un un_neg pe_int) (pa_cons (pe_op op_pow pe_int pe_int) pa_nil)))))) (pe_op op_mod (pe_op op_fdiv (pv 1) pe_int) pe_int) (fun _ _ => rfl))), by walk_at "ce"⟩) nd (i := 3) rfl rfl (by with_unfolding_all rfl))
     (pss_cons (ps_for PassesOwn.never rfl (pi_list (pe_lst (pa_cons (pe_tup (pa_cons (pv 1) (pa_cons (pe_op op_addG pe_int (pe_op op_mod (pv 2) pe_int)) pa_nil))) (pa_cons (pe_tup (pa_cons (pv 1) (pa_cons (pe_op op_addG (pe_callB call_lenE rfl T.no_len boot_len (pa_cons (pe_callTy (call_setE rfl) rfl T.no_set boot_set (pa_cons (pv 1) pa_nil)) pa_nil)) pe_int) pa_nil))) (pa_cons (pe_tup (pa_cons (pv 1) (pa_cons (pe_callB (call_max2N rfl) rfl T.no_max boot_max (pa_cons pe_int (pa_cons (pe_callB call_lenE rfl T.no_len boot_len (pa_cons (pe_callTy (call_setE rfl) rfl T.no_set boot_set (pa_cons (pv 1) pa_nil)) pa_nil)) pa_nil))) pa_nil))) (pa_cons (pe_tup (pa_cons (pv 3) (pa_cons pe_int pa_nil))) pa_nil)))))) (pg_tup (n := 2) rfl (pgs_cons (pg_name (i := 4) nd rfl (by first | exact Or.inl rfl | exact Or.inr rfl)) (pgs_cons (pg_name (i := 5) nd rfl (by first | exact Or.inl rfl | exact Or.inr rfl)) pgs_nil))) (pss_one (ps_if (pt_not (pt_val (pe_call G__law_right (hr.mono (by decide)) rfl C__law_right.mg C__law_right.kp C__law_right.b .nil pass0 (pa_cons (pv 4) (pa_cons (pv 5) (pa_cons (pv 0) pa_nil)))))) (pss_one (ps_ret pe_bl)) pss_nil)))
     (pss_cons (ps_if (pt_not (pt_val (pe_call G__law_right (hr.mono (by decide)) rfl C__law_right.mg C__law_right.kp C__law_right.b .nil pass0 (pa_cons (pv 1) (pa_cons (pe_op op_addG pe_int (pe_op op_mod (pe_op op_fdiv (pv 2) pe_int) pe_int)) (pa_cons (pv 0) pa_nil)))))) (pss_one (ps_ret pe_bl)) pss_nil)
     (pss_one (ps_ret (pe_and (pe_call G__law_right (hr.mono (by decide)) rfl C__law_right.mg C__law_right.kp C__law_right.b .nil pass0 (pa_cons (pv 1) (pa_cons (pe_op op_addG (pe_op op_pow pe_int pe_int) (pe_op op_mod (pv 2) pe_int)) (pa_cons (pv 0) pa_nil)))) (pe_one (pe_call G__law_right (hr.mono (by decide)) rfl C__law_right.mg C__law_right.kp C__law_right.b .nil pass0 (pa_cons (pv 3) (pa_cons pe_int (pa_cons (pv 0) pa_nil)))))))))))), ?_⟩
    try simp only [show (cxOf CX0 P w K mg base N_law "law" (defScope s_law) f cdv A outer s H E).nox.K = K from rfl, show (cxOf CX0 P w K mg base N_law "law" (defScope s_law) f cdv A outer s H E).K = K from rfl]
    try simp only [show (cxOf CX0 P w K mg base N_law "law" (defScope s_law) f cdv A outer s H E).nox.prog = P from rfl, show (cxOf CX0 P w K mg base N_law "law" (defScope s_law) f cdv A outer s H E).prog = P from rfl, show (cxOf CX0 P w K mg base N_law "law" (defScope s_law) f cdv A outer s H E).nox.w = w from rfl, show (cxOf CX0 P w K mg base N_law "law" (defScope s_law) f cdv A outer s H E).w = w from rfl]
    rw [show L2.start N_law [V.ref a] = [some (V.ref a), none, none, none, none, none] from rfl]
    walk_at "rd"
    have hm : ∃ m : Int, 0 < m ∧ atI [V.int 2, V.int 3, V.int 5, V.int 30] (ns.sum % 4) = some (.int m) := by
      have : ns.sum % 4 = 0 ∨ ns.sum % 4 = 1 ∨ ns.sum % 4 = 2 ∨ ns.sum % 4 = 3 := by omega
      rcases this with e | e | e | e <;> rw [e]
      · exact ⟨2, by decide, rfl⟩
      · exact ⟨3, by decide, rfl⟩
      · exact ⟨5, by decide, rfl⟩
      · exact ⟨30, by decide, rfl⟩
    obtain ⟨m, hm0, hm⟩ := hm
    refine comp_mapI (ov_ints (ns := ns)) (fun z => z % m) (fun H' s' => s'.seq ha) (by omega) ?_ ?_
    · rintro i z x H3 H4 R R' hi s3 ⟨rfl, rfl⟩ h1
      have ha3 := s3.seq ha
      walk_at "rd"
      refine ⟨⟨rfl, rfl⟩, ?_⟩
      walk_at "rd"
      intro p hp
      walk_at "rd"
      refine r_ixT (by walk_at "ft") hm ?_
      walk_at "rd"
      exact h1 _ (by walk_at "sm")
    intro r H1 hr1 s1 h1
    have lr : (ns.map fun z => z % m).length = ns.length := List.length_map _
    generalize (ns.map fun z => z % m) = row at h1 lr
    have ha1 := s1.seq ha
    walk_at "rd"
    have hst : ∀ z : Int, ∃ k : Int, atI [V.int 0, V.int 0, V.int 0, V.int (-7), V.int (10 ^ (30 : Int).toNat)] (z / 60 % 5) = some (.int k) := fun z => by
      have : z / 60 % 5 = 0 ∨ z / 60 % 5 = 1 ∨ z / 60 % 5 = 2 ∨ z / 60 % 5 = 3 ∨ z / 60 % 5 = 4 := by omega
      rcases this with e | e | e | e | e <;> rw [e] <;> exact ⟨_, rfl⟩
    obtain ⟨st, hst⟩ := Classical.axiomOfChoice hst
    refine comp_mapI (ov_zipI (xs := row) (ys := ns)) (fun y => y.1 + st y.2) (fun H' s' => ⟨SqL.of (s'.at h1), s'.seq ha1⟩) (by rw [List.length_zip]; omega) ?_ ?_
    · rintro i ⟨p, z⟩ x H3 H4 R R' hi s3 ⟨T', hT, rfl, rfl⟩ h3
      walk_at "rd"
      refine ⟨⟨rfl, rfl⟩, ?_⟩
      walk_at "rd"
      intro q hq
      walk_at "rd"
      refine r_ixT (by walk_at "ft") (hst z) ?_
      walk_at "rd"
      exact h3 _ (by walk_at "sm")
    intro r2 H2 hr2 s2 h2
    have lr2 : ((row.zip ns).map fun y => y.1 + st y.2).length ≤ 63 := by rw [List.length_map, List.length_zip]; omega
    generalize ((row.zip ns).map fun y => y.1 + st y.2) = row2 at h2 lr2
    have h12 := s2.at h1
    have ha2 := s2.seq ha1
    generalize hcode : ns.sum / 4 = code
    walk_at "rd"
    intro t1 ht1
    walk_at "rd"
    refine r_setE (SqL.of (by walk_at "ft")) (by omega) fun d1 hd1 => ?_
    walk_at "rd"
    refine r_lenE upd_same ?_
    walk_at "rd"
    intro t2 ht2
    walk_at "rd"
    refine r_setE (SqL.of (by walk_at "ft")) (by omega) fun d2 hd2 => ?_
    walk_at "rd"
    refine r_lenE upd_same ?_
    walk_at "rd"
    intro t3 ht3
    walk_at "rd"
    intro t4 ht4
    walk_at "rd"
    intro g hg
    generalize hH6 : upd _ g (HO.lst [V.ref t1, V.ref t2, V.ref t3, V.ref t4]) = H6
    have s26 : Same H2 H6 := by rw [← hH6]; walk_at "sm"
    have hg6 : H6 g = some (.lst [.ref t1, .ref t2, .ref t3, .ref t4]) := by rw [← hH6]; walk_at "ft"
    have all6 : ∀ v ∈ [V.ref t1, V.ref t2, V.ref t3, V.ref t4], ∃ (t d : Addr) (R : List Int) (m : Int), v = .ref t ∧ H6 t = some (.tup [.ref d, .int m]) ∧ H6 d = some (.lst (R.map V.int)) ∧ R.length ≤ 63 ∧ 1 ≤ m := by
      intro v hv
      simp only [List.mem_cons, List.mem_nil_iff, or_false] at hv
      rcases hv with rfl | rfl | rfl | rfl
      · exact ⟨t1, r, row, _, rfl, by rw [← hH6]; walk_at "ft", s26.at h12, by omega, by omega⟩
      · exact ⟨t2, r, row, _, rfl, by rw [← hH6]; walk_at "ft", s26.at h12, by omega, by omega⟩
      · exact ⟨t3, r, row, _, rfl, by rw [← hH6]; walk_at "ft", s26.at h12, by omega, by omega⟩
      · exact ⟨t4, r2, row2, _, rfl, by rw [← hH6]; walk_at "ft", s26.at h2, by omega, by omega⟩
    clear hH6 ht1 hd1 ht2 hd2 ht3 ht4 hg
    have ha6 := s26.seq ha2
    have h16 := s26.at h12
    have h26 := s26.at h2
    clear s26 h12 h2 ha2 h1 ha1 ha s1 s2
    walk_at "rd"
    refine for_by (ov_list (xs := [V.ref t1, V.ref t2, V.ref t3, V.ref t4])) (fun i σ H7 => ∃ v4 v5 : Option V, σ = [some (.ref a), some (.ref r), some (.int code), some (.ref r2), v4, v5] ∧ Same H6 H7) ?_ ?_ ?_ ?_
    · exact ⟨_, _, rfl, Same.refl _⟩
    · rintro i σ H7 _ ⟨_, _, _, s7⟩
      exact SqL.of (s7.at hg6)
    · rintro i v y σ H7' H7 hy ⟨v4, v5, rfl, s7⟩ ⟨rfl, rfl⟩
      obtain ⟨t, d, R, m, rfl, ht, hd, hR, hm⟩ := all6 _ (List.mem_of_getElem? hy)
      have ht7 := s7.at ht
      have hd7 := s7.at hd
      walk_at "rd"
      refine ⟨d, a, R, ns, m, rfl, hd7, s7.seq ha6, by omega, by omega, hm, fun H8 s8 => ?_⟩
      walk_at "rd"
      exact ⟨_, _, rfl, s7.trans s8⟩
    · rintro σ H7 ⟨v4, v5, rfl, s7⟩
      walk_at "rd"
      refine ⟨r, a, row, ns, _, rfl, s7.at h16, s7.seq ha6, by omega, by omega, by omega, fun H8 s8 => ?_⟩
      have s68 := s7.trans s8
      walk_at "rd"
      refine ⟨r, a, row, ns, _, rfl, s68.at h16, s68.seq ha6, by omega, by omega, ?_, fun H9 s9 => ?_⟩
      · have : (1 : Int) ≤ 10 ^ (30 : Int).toNat := by decide
        omega
      have s69 := s68.trans s9
      walk_at "rd"
      refine ⟨r2, a, row2, ns, _, rfl, s69.at h26, s69.seq ha6, by omega, by omega, by omega, fun H10 s10 => ?_⟩
      exact k _
end

theorem all_mk {l : PySem.W.OpenLaw} {w : World} {K : PySem.W.Frag} {h : Heap} {mg : Str → Option Value} {fa : Addr} (X : K.In h) (G : h.Ns mainGlobals mg) (hfa : mg "law" = some (.ref fa))
    {f_is_whole : Addr} {od_is_whole an_is_whole : Option Addr} {sl_is_whole : Array (Option Value)} {oc_is_whole kV_is_whole dc_is_whole pm_is_whole cd_is_whole ct_is_whole : Value}
    {f_is_count : Addr} {od_is_count an_is_count : Option Addr} {sl_is_count : Array (Option Value)} {oc_is_count kV_is_count dc_is_count pm_is_count cd_is_count ct_is_count : Value}
    {f_is_row : Addr} {od_is_row an_is_row : Option Addr} {sl_is_row : Array (Option Value)} {oc_is_row kV_is_row dc_is_row pm_is_row cd_is_row ct_is_row : Value}
    {f_checked_row : Addr} {od_checked_row an_checked_row : Option Addr} {sl_checked_row : Array (Option Value)} {oc_checked_row kV_checked_row dc_checked_row pm_checked_row cd_checked_row ct_checked_row : Value}
    {f_are_places : Addr} {od_are_places an_are_places : Option Addr} {sl_are_places : Array (Option Value)} {oc_are_places kV_are_places dc_are_places pm_are_places cd_are_places ct_are_places : Value}
    {f_signs_at : Addr} {od_signs_at an_signs_at : Option Addr} {sl_signs_at : Array (Option Value)} {oc_signs_at kV_signs_at dc_signs_at pm_signs_at cd_signs_at ct_signs_at : Value}
    {f_stands_at : Addr} {od_stands_at an_stands_at : Option Addr} {sl_stands_at : Array (Option Value)} {oc_stands_at kV_stands_at dc_stands_at pm_stands_at cd_stands_at ct_stands_at : Value}
    {f_earliest_places : Addr} {od_earliest_places an_earliest_places : Option Addr} {sl_earliest_places : Array (Option Value)} {oc_earliest_places kV_earliest_places dc_earliest_places pm_earliest_places cd_earliest_places ct_earliest_places : Value}
    {f_is_left : Addr} {od_is_left an_is_left : Option Addr} {sl_is_left : Array (Option Value)} {oc_is_left kV_is_left dc_is_left pm_is_left cd_is_left ct_is_left : Value}
    {f_Left___init__ : Addr} {od_Left___init__ an_Left___init__ : Option Addr} {sl_Left___init__ : Array (Option Value)} {oc_Left___init__ kV_Left___init__ dc_Left___init__ pm_Left___init__ cd_Left___init__ ct_Left___init__ : Value}
    {f_Short___init__ : Addr} {od_Short___init__ an_Short___init__ : Option Addr} {sl_Short___init__ : Array (Option Value)} {oc_Short___init__ kV_Short___init__ dc_Short___init__ pm_Short___init__ cd_Short___init__ ct_Short___init__ : Value}
    {f_Left_shows : Addr} {od_Left_shows an_Left_shows : Option Addr} {sl_Left_shows : Array (Option Value)} {oc_Left_shows kV_Left_shows dc_Left_shows pm_Left_shows cd_Left_shows ct_Left_shows : Value}
    {f_Short_shows : Addr} {od_Short_shows an_Short_shows : Option Addr} {sl_Short_shows : Array (Option Value)} {oc_Short_shows kV_Short_shows dc_Short_shows pm_Short_shows cd_Short_shows ct_Short_shows : Value}
    {f_left : Addr} {od_left an_left : Option Addr} {sl_left : Array (Option Value)} {oc_left kV_left dc_left pm_left cd_left ct_left : Value}
    {f_has_all_kinds : Addr} {od_has_all_kinds an_has_all_kinds : Option Addr} {sl_has_all_kinds : Array (Option Value)} {oc_has_all_kinds kV_has_all_kinds dc_has_all_kinds pm_has_all_kinds cd_has_all_kinds ct_has_all_kinds : Value}
    {f_are_cuts : Addr} {od_are_cuts an_are_cuts : Option Addr} {sl_are_cuts : Array (Option Value)} {oc_are_cuts kV_are_cuts dc_are_cuts pm_are_cuts cd_are_cuts ct_are_cuts : Value}
    {f_least_unseen : Addr} {od_least_unseen an_least_unseen : Option Addr} {sl_least_unseen : Array (Option Value)} {oc_least_unseen kV_least_unseen dc_least_unseen pm_least_unseen cd_least_unseen ct_least_unseen : Value}
    {f_Missing___init__ : Addr} {od_Missing___init__ an_Missing___init__ : Option Addr} {sl_Missing___init__ : Array (Option Value)} {oc_Missing___init__ kV_Missing___init__ dc_Missing___init__ pm_Missing___init__ cd_Missing___init__ ct_Missing___init__ : Value}
    {f_Missing_shows : Addr} {od_Missing_shows an_Missing_shows : Option Addr} {sl_Missing_shows : Array (Option Value)} {oc_Missing_shows kV_Missing_shows dc_Missing_shows pm_Missing_shows cd_Missing_shows ct_Missing_shows : Value}
    {f_missing : Addr} {od_missing an_missing : Option Addr} {sl_missing : Array (Option Value)} {oc_missing kV_missing dc_missing pm_missing cd_missing ct_missing : Value}
    {f__law_numbers : Addr} {od__law_numbers an__law_numbers : Option Addr} {sl__law_numbers : Array (Option Value)} {oc__law_numbers kV__law_numbers dc__law_numbers pm__law_numbers cd__law_numbers ct__law_numbers : Value}
    {f__law_is_left : Addr} {od__law_is_left an__law_is_left : Option Addr} {sl__law_is_left : Array (Option Value)} {oc__law_is_left kV__law_is_left dc__law_is_left pm__law_is_left cd__law_is_left ct__law_is_left : Value}
    {f__law_missed : Addr} {od__law_missed an__law_missed : Option Addr} {sl__law_missed : Array (Option Value)} {oc__law_missed kV__law_missed dc__law_missed pm__law_missed cd__law_missed ct__law_missed : Value}
    {f__law_right : Addr} {od__law_right an__law_right : Option Addr} {sl__law_right : Array (Option Value)} {oc__law_right kV__law_right dc__law_right pm__law_right cd__law_right ct__law_right : Value}
    {f_law : Addr} {od_law an_law : Option Addr} {sl_law : Array (Option Value)} {oc_law kV_law dc_law pm_law cd_law ct_law : Value}
    {k_LeftError : Addr}
    {k_BadRow : Addr}
    {k_BadKinds : Addr}
    {k_Answer : Addr}
    {k_Left : Addr}
    {k_Short : Addr}
    {k_Longest : Addr}
    {k_Both : Addr}
    {k_Missing : Addr}
    {k_Mixed : Addr}
    {k_Unmixed : Addr}
    (aC_LeftError : PySem.W.nsIn K mainGlobals "LeftError" = some (some (.ref k_LeftError)))
    (aC_BadRow : PySem.W.nsIn K mainGlobals "BadRow" = some (some (.ref k_BadRow)))
    (aC_BadKinds : PySem.W.nsIn K mainGlobals "BadKinds" = some (some (.ref k_BadKinds)))
    (aC_Answer : PySem.W.nsIn K mainGlobals "Answer" = some (some (.ref k_Answer)))
    (aC_Left : PySem.W.nsIn K mainGlobals "Left" = some (some (.ref k_Left)))
    (aC_Short : PySem.W.nsIn K mainGlobals "Short" = some (some (.ref k_Short)))
    (aC_Longest : PySem.W.nsIn K mainGlobals "Longest" = some (some (.ref k_Longest)))
    (aC_Both : PySem.W.nsIn K mainGlobals "Both" = some (some (.ref k_Both)))
    (aC_Missing : PySem.W.nsIn K mainGlobals "Missing" = some (some (.ref k_Missing)))
    (aC_Mixed : PySem.W.nsIn K mainGlobals "Mixed" = some (some (.ref k_Mixed)))
    (aC_Unmixed : PySem.W.nsIn K mainGlobals "Unmixed" = some (some (.ref k_Unmixed)))
    (sn : PySem.W.specialIn K (.builtin "object.__class__") "__get__" = some (some (.builtin "getset_descriptor.__get__")))
    (st : PySem.W.takesIn K (.builtin "object.__class__") = some true)
    (u_Left : PySem.W.findIn K (.ref k_Left) "__class__" = some (some (.builtin "object.__class__")))
    (v_Left : PySem.W.mroIn K k_Left (.type "object") = some true)
    (pg_Left : PySem.W.plainGet K k_Left Str.empty = true)
    (hd_Left : PySem.W.hasDictIn K k_Left = true)
    (po_Left : PySem.W.plainOver K k_Left = true)
    (sa_Left : PySem.W.findIn K (.ref k_Left) "__setattr__" = some (some (.builtin "object.__setattr__")))
    (mkk_Left : PySem.W.makesIn K k_Left = true)
    (kc_Left : PySem.W.keepIn K (.ref k_Left) = true)
    (n_Left_places : PySem.W.findIn K (.ref k_Left) "places" = some none)
    (u_Short : PySem.W.findIn K (.ref k_Short) "__class__" = some (some (.builtin "object.__class__")))
    (v_Short : PySem.W.mroIn K k_Short (.type "object") = some true)
    (pg_Short : PySem.W.plainGet K k_Short Str.empty = true)
    (hd_Short : PySem.W.hasDictIn K k_Short = true)
    (po_Short : PySem.W.plainOver K k_Short = true)
    (sa_Short : PySem.W.findIn K (.ref k_Short) "__setattr__" = some (some (.builtin "object.__setattr__")))
    (mkk_Short : PySem.W.makesIn K k_Short = true)
    (kc_Short : PySem.W.keepIn K (.ref k_Short) = true)
    (n_Short_places : PySem.W.findIn K (.ref k_Short) "places" = some none)
    (u_Missing : PySem.W.findIn K (.ref k_Missing) "__class__" = some (some (.builtin "object.__class__")))
    (v_Missing : PySem.W.mroIn K k_Missing (.type "object") = some true)
    (pg_Missing : PySem.W.plainGet K k_Missing Str.empty = true)
    (hd_Missing : PySem.W.hasDictIn K k_Missing = true)
    (po_Missing : PySem.W.plainOver K k_Missing = true)
    (sa_Missing : PySem.W.findIn K (.ref k_Missing) "__setattr__" = some (some (.builtin "object.__setattr__")))
    (mkk_Missing : PySem.W.makesIn K k_Missing = true)
    (kc_Missing : PySem.W.keepIn K (.ref k_Missing) = true)
    (n_Missing_cuts : PySem.W.findIn K (.ref k_Missing) "cuts" = some none)
    (n_Missing_word : PySem.W.findIn K (.ref k_Missing) "word" = some none)
    (i_Left_Left : PySem.W.kitOne K (.ref k_Left) (.ref k_Left) = some true)
    (i_Missing_Answer : PySem.W.kitOne K (.ref k_Missing) (.ref k_Answer) = some true)
    (i_Missing_Left : PySem.W.kitOne K (.ref k_Missing) (.ref k_Left) = some false)
    (i_Missing_Short : PySem.W.kitOne K (.ref k_Missing) (.ref k_Short) = some false)
    (i_Missing_Longest : PySem.W.kitOne K (.ref k_Missing) (.ref k_Longest) = some false)
    (i_Missing_Both : PySem.W.kitOne K (.ref k_Missing) (.ref k_Both) = some false)
    (i_Missing_Missing : PySem.W.kitOne K (.ref k_Missing) (.ref k_Missing) = some true)
    (i_Missing_Mixed : PySem.W.kitOne K (.ref k_Missing) (.ref k_Mixed) = some false)
    (i_Missing_Unmixed : PySem.W.kitOne K (.ref k_Missing) (.ref k_Unmixed) = some false)
    (a_is_whole : PySem.W.nsIn K mainGlobals "is_whole" = some (some (.ref f_is_whole)))
    (l_is_whole : K.lookup f_is_whole = some ⟨oc_is_whole, od_is_whole, .func (PySem.W.fnOf "is_whole" "is_whole" (defArgs s_is_whole) (defBody s_is_whole) (defScope s_is_whole) .none kV_is_whole dc_is_whole pm_is_whole an_is_whole cd_is_whole ct_is_whole), sl_is_whole⟩)
    (c_is_whole : PySem.W.codeIn K cd_is_whole "is_whole" = true)
    (h_is_whole : PySem.W.keepIn K (.ref f_is_whole) = true)
    (a_is_count : PySem.W.nsIn K mainGlobals "is_count" = some (some (.ref f_is_count)))
    (l_is_count : K.lookup f_is_count = some ⟨oc_is_count, od_is_count, .func (PySem.W.fnOf "is_count" "is_count" (defArgs s_is_count) (defBody s_is_count) (defScope s_is_count) .none kV_is_count dc_is_count pm_is_count an_is_count cd_is_count ct_is_count), sl_is_count⟩)
    (c_is_count : PySem.W.codeIn K cd_is_count "is_count" = true)
    (h_is_count : PySem.W.keepIn K (.ref f_is_count) = true)
    (a_is_row : PySem.W.nsIn K mainGlobals "is_row" = some (some (.ref f_is_row)))
    (l_is_row : K.lookup f_is_row = some ⟨oc_is_row, od_is_row, .func (PySem.W.fnOf "is_row" "is_row" (defArgs s_is_row) (defBody s_is_row) (defScope s_is_row) .none kV_is_row dc_is_row pm_is_row an_is_row cd_is_row ct_is_row), sl_is_row⟩)
    (c_is_row : PySem.W.codeIn K cd_is_row "is_row" = true)
    (h_is_row : PySem.W.keepIn K (.ref f_is_row) = true)
    (a_checked_row : PySem.W.nsIn K mainGlobals "checked_row" = some (some (.ref f_checked_row)))
    (l_checked_row : K.lookup f_checked_row = some ⟨oc_checked_row, od_checked_row, .func (PySem.W.fnOf "checked_row" "checked_row" (defArgs s_checked_row) (defBody s_checked_row) (defScope s_checked_row) .none kV_checked_row dc_checked_row pm_checked_row an_checked_row cd_checked_row ct_checked_row), sl_checked_row⟩)
    (c_checked_row : PySem.W.codeIn K cd_checked_row "checked_row" = true)
    (h_checked_row : PySem.W.keepIn K (.ref f_checked_row) = true)
    (a_are_places : PySem.W.nsIn K mainGlobals "are_places" = some (some (.ref f_are_places)))
    (l_are_places : K.lookup f_are_places = some ⟨oc_are_places, od_are_places, .func (PySem.W.fnOf "are_places" "are_places" (defArgs s_are_places) (defBody s_are_places) (defScope s_are_places) .none kV_are_places dc_are_places pm_are_places an_are_places cd_are_places ct_are_places), sl_are_places⟩)
    (c_are_places : PySem.W.codeIn K cd_are_places "are_places" = true)
    (h_are_places : PySem.W.keepIn K (.ref f_are_places) = true)
    (a_signs_at : PySem.W.nsIn K mainGlobals "signs_at" = some (some (.ref f_signs_at)))
    (l_signs_at : K.lookup f_signs_at = some ⟨oc_signs_at, od_signs_at, .func (PySem.W.fnOf "signs_at" "signs_at" (defArgs s_signs_at) (defBody s_signs_at) (defScope s_signs_at) .none kV_signs_at dc_signs_at pm_signs_at an_signs_at cd_signs_at ct_signs_at), sl_signs_at⟩)
    (c_signs_at : PySem.W.codeIn K cd_signs_at "signs_at" = true)
    (h_signs_at : PySem.W.keepIn K (.ref f_signs_at) = true)
    (a_stands_at : PySem.W.nsIn K mainGlobals "stands_at" = some (some (.ref f_stands_at)))
    (l_stands_at : K.lookup f_stands_at = some ⟨oc_stands_at, od_stands_at, .func (PySem.W.fnOf "stands_at" "stands_at" (defArgs s_stands_at) (defBody s_stands_at) (defScope s_stands_at) .none kV_stands_at dc_stands_at pm_stands_at an_stands_at cd_stands_at ct_stands_at), sl_stands_at⟩)
    (c_stands_at : PySem.W.codeIn K cd_stands_at "stands_at" = true)
    (h_stands_at : PySem.W.keepIn K (.ref f_stands_at) = true)
    (a_earliest_places : PySem.W.nsIn K mainGlobals "earliest_places" = some (some (.ref f_earliest_places)))
    (l_earliest_places : K.lookup f_earliest_places = some ⟨oc_earliest_places, od_earliest_places, .func (PySem.W.fnOf "earliest_places" "earliest_places" (defArgs s_earliest_places) (defBody s_earliest_places) (defScope s_earliest_places) .none kV_earliest_places dc_earliest_places pm_earliest_places an_earliest_places cd_earliest_places ct_earliest_places), sl_earliest_places⟩)
    (c_earliest_places : PySem.W.codeIn K cd_earliest_places "earliest_places" = true)
    (h_earliest_places : PySem.W.keepIn K (.ref f_earliest_places) = true)
    (a_is_left : PySem.W.nsIn K mainGlobals "is_left" = some (some (.ref f_is_left)))
    (l_is_left : K.lookup f_is_left = some ⟨oc_is_left, od_is_left, .func (PySem.W.fnOf "is_left" "is_left" (defArgs s_is_left) (defBody s_is_left) (defScope s_is_left) .none kV_is_left dc_is_left pm_is_left an_is_left cd_is_left ct_is_left), sl_is_left⟩)
    (c_is_left : PySem.W.codeIn K cd_is_left "is_left" = true)
    (h_is_left : PySem.W.keepIn K (.ref f_is_left) = true)
    (a_Left___init__ : PySem.W.findIn K (.ref k_Left) "__init__" = some (some (.ref f_Left___init__)))
    (i_Left___init__ : PySem.W.isFn K (.ref f_Left___init__) = true)
    (l_Left___init__ : K.lookup f_Left___init__ = some ⟨oc_Left___init__, od_Left___init__, .func (PySem.W.fnOf "__init__" "Left.__init__" (defArgs s_Left___init__) (defBody s_Left___init__) (defScope s_Left___init__) .none kV_Left___init__ dc_Left___init__ pm_Left___init__ an_Left___init__ cd_Left___init__ ct_Left___init__), sl_Left___init__⟩)
    (c_Left___init__ : PySem.W.codeIn K cd_Left___init__ "Left.__init__" = true)
    (h_Left___init__ : PySem.W.keepIn K (.ref f_Left___init__) = true)
    (a_Short___init__ : PySem.W.findIn K (.ref k_Short) "__init__" = some (some (.ref f_Short___init__)))
    (i_Short___init__ : PySem.W.isFn K (.ref f_Short___init__) = true)
    (l_Short___init__ : K.lookup f_Short___init__ = some ⟨oc_Short___init__, od_Short___init__, .func (PySem.W.fnOf "__init__" "Short.__init__" (defArgs s_Short___init__) (defBody s_Short___init__) (defScope s_Short___init__) .none kV_Short___init__ dc_Short___init__ pm_Short___init__ an_Short___init__ cd_Short___init__ ct_Short___init__), sl_Short___init__⟩)
    (c_Short___init__ : PySem.W.codeIn K cd_Short___init__ "Short.__init__" = true)
    (h_Short___init__ : PySem.W.keepIn K (.ref f_Short___init__) = true)
    (a_Left_shows : PySem.W.findIn K (.ref k_Left) "shows" = some (some (.ref f_Left_shows)))
    (i_Left_shows : PySem.W.isFn K (.ref f_Left_shows) = true)
    (l_Left_shows : K.lookup f_Left_shows = some ⟨oc_Left_shows, od_Left_shows, .func (PySem.W.fnOf "shows" "Left.shows" (defArgs s_Left_shows) (defBody s_Left_shows) (defScope s_Left_shows) .none kV_Left_shows dc_Left_shows pm_Left_shows an_Left_shows cd_Left_shows ct_Left_shows), sl_Left_shows⟩)
    (c_Left_shows : PySem.W.codeIn K cd_Left_shows "Left.shows" = true)
    (h_Left_shows : PySem.W.keepIn K (.ref f_Left_shows) = true)
    (a_Short_shows : PySem.W.findIn K (.ref k_Short) "shows" = some (some (.ref f_Short_shows)))
    (i_Short_shows : PySem.W.isFn K (.ref f_Short_shows) = true)
    (l_Short_shows : K.lookup f_Short_shows = some ⟨oc_Short_shows, od_Short_shows, .func (PySem.W.fnOf "shows" "Short.shows" (defArgs s_Short_shows) (defBody s_Short_shows) (defScope s_Short_shows) .none kV_Short_shows dc_Short_shows pm_Short_shows an_Short_shows cd_Short_shows ct_Short_shows), sl_Short_shows⟩)
    (c_Short_shows : PySem.W.codeIn K cd_Short_shows "Short.shows" = true)
    (h_Short_shows : PySem.W.keepIn K (.ref f_Short_shows) = true)
    (a_left : PySem.W.nsIn K mainGlobals "left" = some (some (.ref f_left)))
    (l_left : K.lookup f_left = some ⟨oc_left, od_left, .func (PySem.W.fnOf "left" "left" (defArgs s_left) (defBody s_left) (defScope s_left) .none kV_left dc_left pm_left an_left cd_left ct_left), sl_left⟩)
    (c_left : PySem.W.codeIn K cd_left "left" = true)
    (h_left : PySem.W.keepIn K (.ref f_left) = true)
    (a_has_all_kinds : PySem.W.nsIn K mainGlobals "has_all_kinds" = some (some (.ref f_has_all_kinds)))
    (l_has_all_kinds : K.lookup f_has_all_kinds = some ⟨oc_has_all_kinds, od_has_all_kinds, .func (PySem.W.fnOf "has_all_kinds" "has_all_kinds" (defArgs s_has_all_kinds) (defBody s_has_all_kinds) (defScope s_has_all_kinds) .none kV_has_all_kinds dc_has_all_kinds pm_has_all_kinds an_has_all_kinds cd_has_all_kinds ct_has_all_kinds), sl_has_all_kinds⟩)
    (c_has_all_kinds : PySem.W.codeIn K cd_has_all_kinds "has_all_kinds" = true)
    (h_has_all_kinds : PySem.W.keepIn K (.ref f_has_all_kinds) = true)
    (a_are_cuts : PySem.W.nsIn K mainGlobals "are_cuts" = some (some (.ref f_are_cuts)))
    (l_are_cuts : K.lookup f_are_cuts = some ⟨oc_are_cuts, od_are_cuts, .func (PySem.W.fnOf "are_cuts" "are_cuts" (defArgs s_are_cuts) (defBody s_are_cuts) (defScope s_are_cuts) .none kV_are_cuts dc_are_cuts pm_are_cuts an_are_cuts cd_are_cuts ct_are_cuts), sl_are_cuts⟩)
    (c_are_cuts : PySem.W.codeIn K cd_are_cuts "are_cuts" = true)
    (h_are_cuts : PySem.W.keepIn K (.ref f_are_cuts) = true)
    (a_least_unseen : PySem.W.nsIn K mainGlobals "least_unseen" = some (some (.ref f_least_unseen)))
    (l_least_unseen : K.lookup f_least_unseen = some ⟨oc_least_unseen, od_least_unseen, .func (PySem.W.fnOf "least_unseen" "least_unseen" (defArgs s_least_unseen) (defBody s_least_unseen) (defScope s_least_unseen) .none kV_least_unseen dc_least_unseen pm_least_unseen an_least_unseen cd_least_unseen ct_least_unseen), sl_least_unseen⟩)
    (c_least_unseen : PySem.W.codeIn K cd_least_unseen "least_unseen" = true)
    (h_least_unseen : PySem.W.keepIn K (.ref f_least_unseen) = true)
    (a_Missing___init__ : PySem.W.findIn K (.ref k_Missing) "__init__" = some (some (.ref f_Missing___init__)))
    (i_Missing___init__ : PySem.W.isFn K (.ref f_Missing___init__) = true)
    (l_Missing___init__ : K.lookup f_Missing___init__ = some ⟨oc_Missing___init__, od_Missing___init__, .func (PySem.W.fnOf "__init__" "Missing.__init__" (defArgs s_Missing___init__) (defBody s_Missing___init__) (defScope s_Missing___init__) .none kV_Missing___init__ dc_Missing___init__ pm_Missing___init__ an_Missing___init__ cd_Missing___init__ ct_Missing___init__), sl_Missing___init__⟩)
    (c_Missing___init__ : PySem.W.codeIn K cd_Missing___init__ "Missing.__init__" = true)
    (h_Missing___init__ : PySem.W.keepIn K (.ref f_Missing___init__) = true)
    (a_Missing_shows : PySem.W.findIn K (.ref k_Missing) "shows" = some (some (.ref f_Missing_shows)))
    (i_Missing_shows : PySem.W.isFn K (.ref f_Missing_shows) = true)
    (l_Missing_shows : K.lookup f_Missing_shows = some ⟨oc_Missing_shows, od_Missing_shows, .func (PySem.W.fnOf "shows" "Missing.shows" (defArgs s_Missing_shows) (defBody s_Missing_shows) (defScope s_Missing_shows) .none kV_Missing_shows dc_Missing_shows pm_Missing_shows an_Missing_shows cd_Missing_shows ct_Missing_shows), sl_Missing_shows⟩)
    (c_Missing_shows : PySem.W.codeIn K cd_Missing_shows "Missing.shows" = true)
    (h_Missing_shows : PySem.W.keepIn K (.ref f_Missing_shows) = true)
    (a_missing : PySem.W.nsIn K mainGlobals "missing" = some (some (.ref f_missing)))
    (l_missing : K.lookup f_missing = some ⟨oc_missing, od_missing, .func (PySem.W.fnOf "missing" "missing" (defArgs s_missing) (defBody s_missing) (defScope s_missing) .none kV_missing dc_missing pm_missing an_missing cd_missing ct_missing), sl_missing⟩)
    (c_missing : PySem.W.codeIn K cd_missing "missing" = true)
    (h_missing : PySem.W.keepIn K (.ref f_missing) = true)
    (a__law_numbers : PySem.W.nsIn K mainGlobals "_law_numbers" = some (some (.ref f__law_numbers)))
    (l__law_numbers : K.lookup f__law_numbers = some ⟨oc__law_numbers, od__law_numbers, .func (PySem.W.fnOf "_law_numbers" "_law_numbers" (defArgs s__law_numbers) (defBody s__law_numbers) (defScope s__law_numbers) .none kV__law_numbers dc__law_numbers pm__law_numbers an__law_numbers cd__law_numbers ct__law_numbers), sl__law_numbers⟩)
    (c__law_numbers : PySem.W.codeIn K cd__law_numbers "_law_numbers" = true)
    (h__law_numbers : PySem.W.keepIn K (.ref f__law_numbers) = true)
    (a__law_is_left : PySem.W.nsIn K mainGlobals "_law_is_left" = some (some (.ref f__law_is_left)))
    (l__law_is_left : K.lookup f__law_is_left = some ⟨oc__law_is_left, od__law_is_left, .func (PySem.W.fnOf "_law_is_left" "_law_is_left" (defArgs s__law_is_left) (defBody s__law_is_left) (defScope s__law_is_left) .none kV__law_is_left dc__law_is_left pm__law_is_left an__law_is_left cd__law_is_left ct__law_is_left), sl__law_is_left⟩)
    (c__law_is_left : PySem.W.codeIn K cd__law_is_left "_law_is_left" = true)
    (h__law_is_left : PySem.W.keepIn K (.ref f__law_is_left) = true)
    (a__law_missed : PySem.W.nsIn K mainGlobals "_law_missed" = some (some (.ref f__law_missed)))
    (l__law_missed : K.lookup f__law_missed = some ⟨oc__law_missed, od__law_missed, .func (PySem.W.fnOf "_law_missed" "_law_missed" (defArgs s__law_missed) (defBody s__law_missed) (defScope s__law_missed) .none kV__law_missed dc__law_missed pm__law_missed an__law_missed cd__law_missed ct__law_missed), sl__law_missed⟩)
    (c__law_missed : PySem.W.codeIn K cd__law_missed "_law_missed" = true)
    (h__law_missed : PySem.W.keepIn K (.ref f__law_missed) = true)
    (a__law_right : PySem.W.nsIn K mainGlobals "_law_right" = some (some (.ref f__law_right)))
    (l__law_right : K.lookup f__law_right = some ⟨oc__law_right, od__law_right, .func (PySem.W.fnOf "_law_right" "_law_right" (defArgs s__law_right) (defBody s__law_right) (defScope s__law_right) .none kV__law_right dc__law_right pm__law_right an__law_right cd__law_right ct__law_right), sl__law_right⟩)
    (c__law_right : PySem.W.codeIn K cd__law_right "_law_right" = true)
    (h__law_right : PySem.W.keepIn K (.ref f__law_right) = true)
    (a_law : PySem.W.nsIn K mainGlobals "law" = some (some (.ref f_law)))
    (l_law : K.lookup f_law = some ⟨oc_law, od_law, .func (PySem.W.fnOf "law" "law" (defArgs s_law) (defBody s_law) (defScope s_law) .none kV_law dc_law pm_law an_law cd_law ct_law), sl_law⟩)
    (c_law : PySem.W.codeIn K cd_law "law" = true)
    (h_law : PySem.W.keepIn K (.ref f_law) = true)
    (z_len : PySem.W.nsIn K mainGlobals "len" = some none)
    (z_zip : PySem.W.nsIn K mainGlobals "zip" = some none)
    (z_enumerate : PySem.W.nsIn K mainGlobals "enumerate" = some none)
    (z_range : PySem.W.nsIn K mainGlobals "range" = some none)
    (z_list : PySem.W.nsIn K mainGlobals "list" = some none)
    (z_int : PySem.W.nsIn K mainGlobals "int" = some none)
    (z_bool : PySem.W.nsIn K mainGlobals "bool" = some none)
    (z_tuple : PySem.W.nsIn K mainGlobals "tuple" = some none)
    (z_set : PySem.W.nsIn K mainGlobals "set" = some none)
    (z_all : PySem.W.nsIn K mainGlobals "all" = some none)
    (z_any : PySem.W.nsIn K mainGlobals "any" = some none)
    (z_sum : PySem.W.nsIn K mainGlobals "sum" = some none)
    (z_min : PySem.W.nsIn K mainGlobals "min" = some none)
    (z_max : PySem.W.nsIn K mainGlobals "max" = some none)
    (z_sorted : PySem.W.nsIn K mainGlobals "sorted" = some none)
    (z_isinstance : PySem.W.nsIn K mainGlobals "isinstance" = some none)
    (z_dict : PySem.W.nsIn K mainGlobals "dict" = some none)
    : ∃ fd : FuncData, (∀ (s : Shared) (v : Value), BindsTo s fd ⟨[v], []⟩ [(P_law.headD "", v)]) ∧ ∀ base : Heap, K.In base → base.Ns mainGlobals mg → FnOk l.prog w K mg base CX0 10 fa fd P_law (sp_law K) := by
  have e := hfa.symm.trans (PySem.W.mg_of X G a_law)
  cases e
  have T : Blt mg := ⟨PySem.W.mg_none_of X G z_len, PySem.W.mg_none_of X G z_zip, PySem.W.mg_none_of X G z_enumerate, PySem.W.mg_none_of X G z_range, PySem.W.mg_none_of X G z_list, PySem.W.mg_none_of X G z_int, PySem.W.mg_none_of X G z_bool, PySem.W.mg_none_of X G z_tuple, PySem.W.mg_none_of X G z_set, PySem.W.mg_none_of X G z_all, PySem.W.mg_none_of X G z_any, PySem.W.mg_none_of X G z_sum, PySem.W.mg_none_of X G z_min, PySem.W.mg_none_of X G z_max, PySem.W.mg_none_of X G z_sorted, PySem.W.mg_none_of X G z_isinstance, PySem.W.mg_none_of X G z_dict⟩
  have g_LeftError : mg "LeftError" = some (.ref k_LeftError) := PySem.W.mg_of X G aC_LeftError
  have g_BadRow : mg "BadRow" = some (.ref k_BadRow) := PySem.W.mg_of X G aC_BadRow
  have g_BadKinds : mg "BadKinds" = some (.ref k_BadKinds) := PySem.W.mg_of X G aC_BadKinds
  have g_Answer : mg "Answer" = some (.ref k_Answer) := PySem.W.mg_of X G aC_Answer
  have g_Left : mg "Left" = some (.ref k_Left) := PySem.W.mg_of X G aC_Left
  have g_Short : mg "Short" = some (.ref k_Short) := PySem.W.mg_of X G aC_Short
  have g_Longest : mg "Longest" = some (.ref k_Longest) := PySem.W.mg_of X G aC_Longest
  have g_Both : mg "Both" = some (.ref k_Both) := PySem.W.mg_of X G aC_Both
  have g_Missing : mg "Missing" = some (.ref k_Missing) := PySem.W.mg_of X G aC_Missing
  have g_Mixed : mg "Mixed" = some (.ref k_Mixed) := PySem.W.mg_of X G aC_Mixed
  have g_Unmixed : mg "Unmixed" = some (.ref k_Unmixed) := PySem.W.mg_of X G aC_Unmixed
  have I_Left : Ins K k_Left := ⟨⟨pg_Left, hd_Left, po_Left, sa_Left⟩, u_Left, sn, st, v_Left⟩
  have I_Short : Ins K k_Short := ⟨⟨pg_Short, hd_Short, po_Short, sa_Short⟩, u_Short, sn, st, v_Short⟩
  have I_Missing : Ins K k_Missing := ⟨⟨pg_Missing, hd_Missing, po_Missing, sa_Missing⟩, u_Missing, sn, st, v_Missing⟩
  have F_is_whole := fun_mk (st := s_is_whole) l_is_whole c_is_whole h_is_whole
  have b_is_whole := F_is_whole.binds (ps := P_is_whole) fun _ _ _ _ _ _ us hl => match us, hl with | [_], _ => rfl
  have C_is_whole : Cal K mg "is_whole" f_is_whole _ P_is_whole := ⟨PySem.W.mg_of X G a_is_whole, h_is_whole, b_is_whole⟩
  have F_is_count := fun_mk (st := s_is_count) l_is_count c_is_count h_is_count
  have b_is_count := F_is_count.binds (ps := P_is_count) fun _ _ _ _ _ _ us hl => match us, hl with | [_, _], _ => rfl
  have C_is_count : Cal K mg "is_count" f_is_count _ P_is_count := ⟨PySem.W.mg_of X G a_is_count, h_is_count, b_is_count⟩
  have F_is_row := fun_mk (st := s_is_row) l_is_row c_is_row h_is_row
  have b_is_row := F_is_row.binds (ps := P_is_row) fun _ _ _ _ _ _ us hl => match us, hl with | [_], _ => rfl
  have C_is_row : Cal K mg "is_row" f_is_row _ P_is_row := ⟨PySem.W.mg_of X G a_is_row, h_is_row, b_is_row⟩
  have F_checked_row := fun_mk (st := s_checked_row) l_checked_row c_checked_row h_checked_row
  have b_checked_row := F_checked_row.binds (ps := P_checked_row) fun _ _ _ _ _ _ us hl => match us, hl with | [_], _ => rfl
  have C_checked_row : Cal K mg "checked_row" f_checked_row _ P_checked_row := ⟨PySem.W.mg_of X G a_checked_row, h_checked_row, b_checked_row⟩
  have F_are_places := fun_mk (st := s_are_places) l_are_places c_are_places h_are_places
  have b_are_places := F_are_places.binds (ps := P_are_places) fun _ _ _ _ _ _ us hl => match us, hl with | [_, _], _ => rfl
  have C_are_places : Cal K mg "are_places" f_are_places _ P_are_places := ⟨PySem.W.mg_of X G a_are_places, h_are_places, b_are_places⟩
  have F_signs_at := fun_mk (st := s_signs_at) l_signs_at c_signs_at h_signs_at
  have b_signs_at := F_signs_at.binds (ps := P_signs_at) fun _ _ _ _ _ _ us hl => match us, hl with | [_, _], _ => rfl
  have C_signs_at : Cal K mg "signs_at" f_signs_at _ P_signs_at := ⟨PySem.W.mg_of X G a_signs_at, h_signs_at, b_signs_at⟩
  have F_stands_at := fun_mk (st := s_stands_at) l_stands_at c_stands_at h_stands_at
  have b_stands_at := F_stands_at.binds (ps := P_stands_at) fun _ _ _ _ _ _ us hl => match us, hl with | [_, _, _], _ => rfl
  have C_stands_at : Cal K mg "stands_at" f_stands_at _ P_stands_at := ⟨PySem.W.mg_of X G a_stands_at, h_stands_at, b_stands_at⟩
  have F_earliest_places := fun_mk (st := s_earliest_places) l_earliest_places c_earliest_places h_earliest_places
  have b_earliest_places := F_earliest_places.binds (ps := P_earliest_places) fun _ _ _ _ _ _ us hl => match us, hl with | [_, _], _ => rfl
  have C_earliest_places : Cal K mg "earliest_places" f_earliest_places _ P_earliest_places := ⟨PySem.W.mg_of X G a_earliest_places, h_earliest_places, b_earliest_places⟩
  have F_is_left := fun_mk (st := s_is_left) l_is_left c_is_left h_is_left
  have b_is_left := F_is_left.binds (ps := P_is_left) fun _ _ _ _ _ _ us hl => match us, hl with | [_, _], _ => rfl
  have C_is_left : Cal K mg "is_left" f_is_left _ P_is_left := ⟨PySem.W.mg_of X G a_is_left, h_is_left, b_is_left⟩
  have F_Left___init__ := fun_mk (st := s_Left___init__) l_Left___init__ c_Left___init__ h_Left___init__
  have b_Left___init__ := F_Left___init__.binds (ps := P_Left___init__) fun _ _ _ _ _ _ us hl => match us, hl with | [_, _], _ => rfl
  have M_Left : Mak K mg "Left" k_Left f_Left___init__ _ P_Left___init__ := ⟨g_Left, ⟨mkk_Left, a_Left___init__, i_Left___init__, kc_Left⟩, I_Left.cl, b_Left___init__⟩
  have F_Short___init__ := fun_mk (st := s_Short___init__) l_Short___init__ c_Short___init__ h_Short___init__
  have b_Short___init__ := F_Short___init__.binds (ps := P_Short___init__) fun _ _ _ _ _ _ us hl => match us, hl with | [_, _], _ => rfl
  have M_Short : Mak K mg "Short" k_Short f_Short___init__ _ P_Short___init__ := ⟨g_Short, ⟨mkk_Short, a_Short___init__, i_Short___init__, kc_Short⟩, I_Short.cl, b_Short___init__⟩
  have F_Left_shows := fun_mk (st := s_Left_shows) l_Left_shows c_Left_shows h_Left_shows
  have b_Left_shows := F_Left_shows.binds (ps := P_Left_shows) fun _ _ _ _ _ _ us hl => match us, hl with | [_, _, _], _ => rfl
  have D_Left_shows : Met K k_Left "shows" f_Left_shows _ P_Left_shows := ⟨⟨a_Left_shows, i_Left_shows, h_Left_shows⟩, b_Left_shows⟩
  have F_Short_shows := fun_mk (st := s_Short_shows) l_Short_shows c_Short_shows h_Short_shows
  have b_Short_shows := F_Short_shows.binds (ps := P_Short_shows) fun _ _ _ _ _ _ us hl => match us, hl with | [_, _, _], _ => rfl
  have D_Short_shows : Met K k_Short "shows" f_Short_shows _ P_Short_shows := ⟨⟨a_Short_shows, i_Short_shows, h_Short_shows⟩, b_Short_shows⟩
  have F_left := fun_mk (st := s_left) l_left c_left h_left
  have b_left := F_left.binds (ps := P_left) fun _ _ _ _ _ _ us hl => match us, hl with | [_, _], _ => rfl
  have C_left : Cal K mg "left" f_left _ P_left := ⟨PySem.W.mg_of X G a_left, h_left, b_left⟩
  have F_has_all_kinds := fun_mk (st := s_has_all_kinds) l_has_all_kinds c_has_all_kinds h_has_all_kinds
  have b_has_all_kinds := F_has_all_kinds.binds (ps := P_has_all_kinds) fun _ _ _ _ _ _ us hl => match us, hl with | [_, _], _ => rfl
  have C_has_all_kinds : Cal K mg "has_all_kinds" f_has_all_kinds _ P_has_all_kinds := ⟨PySem.W.mg_of X G a_has_all_kinds, h_has_all_kinds, b_has_all_kinds⟩
  have F_are_cuts := fun_mk (st := s_are_cuts) l_are_cuts c_are_cuts h_are_cuts
  have b_are_cuts := F_are_cuts.binds (ps := P_are_cuts) fun _ _ _ _ _ _ us hl => match us, hl with | [_, _, _], _ => rfl
  have C_are_cuts : Cal K mg "are_cuts" f_are_cuts _ P_are_cuts := ⟨PySem.W.mg_of X G a_are_cuts, h_are_cuts, b_are_cuts⟩
  have F_least_unseen := fun_mk (st := s_least_unseen) l_least_unseen c_least_unseen h_least_unseen
  have b_least_unseen := F_least_unseen.binds (ps := P_least_unseen) fun _ _ _ _ _ _ us hl => match us, hl with | [_], _ => rfl
  have C_least_unseen : Cal K mg "least_unseen" f_least_unseen _ P_least_unseen := ⟨PySem.W.mg_of X G a_least_unseen, h_least_unseen, b_least_unseen⟩
  have F_Missing___init__ := fun_mk (st := s_Missing___init__) l_Missing___init__ c_Missing___init__ h_Missing___init__
  have b_Missing___init__ := F_Missing___init__.binds (ps := P_Missing___init__) fun _ _ _ _ _ _ us hl => match us, hl with | [_, _, _], _ => rfl
  have M_Missing : Mak K mg "Missing" k_Missing f_Missing___init__ _ P_Missing___init__ := ⟨g_Missing, ⟨mkk_Missing, a_Missing___init__, i_Missing___init__, kc_Missing⟩, I_Missing.cl, b_Missing___init__⟩
  have F_Missing_shows := fun_mk (st := s_Missing_shows) l_Missing_shows c_Missing_shows h_Missing_shows
  have b_Missing_shows := F_Missing_shows.binds (ps := P_Missing_shows) fun _ _ _ _ _ _ us hl => match us, hl with | [_, _, _], _ => rfl
  have D_Missing_shows : Met K k_Missing "shows" f_Missing_shows _ P_Missing_shows := ⟨⟨a_Missing_shows, i_Missing_shows, h_Missing_shows⟩, b_Missing_shows⟩
  have F_missing := fun_mk (st := s_missing) l_missing c_missing h_missing
  have b_missing := F_missing.binds (ps := P_missing) fun _ _ _ _ _ _ us hl => match us, hl with | [_, _], _ => rfl
  have C_missing : Cal K mg "missing" f_missing _ P_missing := ⟨PySem.W.mg_of X G a_missing, h_missing, b_missing⟩
  have F__law_numbers := fun_mk (st := s__law_numbers) l__law_numbers c__law_numbers h__law_numbers
  have b__law_numbers := F__law_numbers.binds (ps := P__law_numbers) fun _ _ _ _ _ _ us hl => match us, hl with | [_], _ => rfl
  have C__law_numbers : Cal K mg "_law_numbers" f__law_numbers _ P__law_numbers := ⟨PySem.W.mg_of X G a__law_numbers, h__law_numbers, b__law_numbers⟩
  have F__law_is_left := fun_mk (st := s__law_is_left) l__law_is_left c__law_is_left h__law_is_left
  have b__law_is_left := F__law_is_left.binds (ps := P__law_is_left) fun _ _ _ _ _ _ us hl => match us, hl with | [_, _], _ => rfl
  have C__law_is_left : Cal K mg "_law_is_left" f__law_is_left _ P__law_is_left := ⟨PySem.W.mg_of X G a__law_is_left, h__law_is_left, b__law_is_left⟩
  have F__law_missed := fun_mk (st := s__law_missed) l__law_missed c__law_missed h__law_missed
  have b__law_missed := F__law_missed.binds (ps := P__law_missed) fun _ _ _ _ _ _ us hl => match us, hl with | [_, _, _, _], _ => rfl
  have C__law_missed : Cal K mg "_law_missed" f__law_missed _ P__law_missed := ⟨PySem.W.mg_of X G a__law_missed, h__law_missed, b__law_missed⟩
  have F__law_right := fun_mk (st := s__law_right) l__law_right c__law_right h__law_right
  have b__law_right := F__law_right.binds (ps := P__law_right) fun _ _ _ _ _ _ us hl => match us, hl with | [_, _, _], _ => rfl
  have C__law_right : Cal K mg "_law_right" f__law_right _ P__law_right := ⟨PySem.W.mg_of X G a__law_right, h__law_right, b__law_right⟩
  have F_law := fun_mk (st := s_law) l_law c_law h_law
  have b_law := F_law.binds (ps := P_law) fun _ _ _ _ _ _ us hl => match us, hl with | [_], _ => rfl
  refine ⟨PySem.W.fnOf "law" "law" (defArgs s_law) (defBody s_law) (defScope s_law) .none kV_law dc_law pm_law an_law cd_law ct_law, fun s v => .of_eq rfl, fun base _ _ => ?_⟩
  have G_is_whole := ok_is_whole (P := l.prog) (w := w) (base := base) (F := F_is_whole) (T := T)
  have G_is_count := ok_is_count (P := l.prog) (w := w) (base := base) (F := F_is_count) (T := T) (C_is_whole := C_is_whole) (G_is_whole := G_is_whole.mono (by decide))
  have G_is_row := ok_is_row (P := l.prog) (w := w) (base := base) (F := F_is_row) (T := T) (C_is_whole := C_is_whole) (G_is_whole := G_is_whole.mono (by decide))
  have G_checked_row := ok_checked_row (P := l.prog) (w := w) (base := base) (F := F_checked_row) (T := T) (C_is_row := C_is_row) (G_is_row := G_is_row.mono (by decide))
  have G_are_places := ok_are_places (P := l.prog) (w := w) (base := base) (F := F_are_places) (T := T) (C_is_row := C_is_row) (G_is_row := G_is_row.mono (by decide))
  have G_signs_at := ok_signs_at (P := l.prog) (w := w) (base := base) (F := F_signs_at) (T := T)
  have G_stands_at := ok_stands_at (P := l.prog) (w := w) (base := base) (F := F_stands_at) (T := T) (C_are_places := C_are_places) (G_are_places := G_are_places.mono (by decide)) (C_signs_at := C_signs_at) (G_signs_at := G_signs_at.mono (by decide))
  have G_earliest_places := ok_earliest_places (P := l.prog) (w := w) (base := base) (F := F_earliest_places) (T := T)
  have G_is_left := ok_is_left (P := l.prog) (w := w) (base := base) (F := F_is_left) (T := T) (C_earliest_places := C_earliest_places) (G_earliest_places := G_earliest_places.mono (by decide))
  have G_Left___init__ := ok_Left___init__ (P := l.prog) (w := w) (base := base) (F := F_Left___init__) (T := T) (I_Left := I_Left) (n_Left_places := n_Left_places)
  have G_Short___init__ := ok_Short___init__ (P := l.prog) (w := w) (base := base) (F := F_Short___init__) (T := T) (I_Short := I_Short) (n_Short_places := n_Short_places)
  have G_Left_shows := ok_Left_shows (P := l.prog) (w := w) (base := base) (F := F_Left_shows) (T := T) (I_Left := I_Left) (n_Left_places := n_Left_places) (C_stands_at := C_stands_at) (G_stands_at := G_stands_at.mono (by decide))
  have G_Short_shows := ok_Short_shows (P := l.prog) (w := w) (base := base) (F := F_Short_shows) (T := T) (I_Short := I_Short) (n_Short_places := n_Short_places) (C_stands_at := C_stands_at) (G_stands_at := G_stands_at.mono (by decide)) (C_earliest_places := C_earliest_places) (G_earliest_places := G_earliest_places.mono (by decide))
  have G_left := ok_left (P := l.prog) (w := w) (base := base) (F := F_left) (T := T) (C_checked_row := C_checked_row) (G_checked_row := G_checked_row.mono (by decide)) (C_earliest_places := C_earliest_places) (G_earliest_places := G_earliest_places.mono (by decide)) (M_Left := M_Left) (G_Left___init__ := G_Left___init__.mono (by decide)) (M_Short := M_Short) (G_Short___init__ := G_Short___init__.mono (by decide))
  have G_has_all_kinds := ok_has_all_kinds (P := l.prog) (w := w) (base := base) (F := F_has_all_kinds) (T := T) (C_is_count := C_is_count) (G_is_count := G_is_count.mono (by decide))
  have G_are_cuts := ok_are_cuts (P := l.prog) (w := w) (base := base) (F := F_are_cuts) (T := T) (C_are_places := C_are_places) (G_are_places := G_are_places.mono (by decide)) (C_has_all_kinds := C_has_all_kinds) (G_has_all_kinds := G_has_all_kinds.mono (by decide))
  have G_least_unseen := ok_least_unseen (P := l.prog) (w := w) (base := base) (F := F_least_unseen) (T := T)
  have G_Missing___init__ := ok_Missing___init__ (P := l.prog) (w := w) (base := base) (F := F_Missing___init__) (T := T) (I_Missing := I_Missing) (n_Missing_cuts := n_Missing_cuts) (n_Missing_word := n_Missing_word)
  have G_Missing_shows := ok_Missing_shows (P := l.prog) (w := w) (base := base) (F := F_Missing_shows) (T := T) (I_Missing := I_Missing) (n_Missing_cuts := n_Missing_cuts) (n_Missing_word := n_Missing_word) (C_is_count := C_is_count) (G_is_count := G_is_count.mono (by decide)) (C_are_cuts := C_are_cuts) (G_are_cuts := G_are_cuts.mono (by decide)) (C_is_left := C_is_left) (G_is_left := G_is_left.mono (by decide))
  have G_missing := ok_missing (P := l.prog) (w := w) (base := base) (F := F_missing) (T := T) (C_checked_row := C_checked_row) (G_checked_row := G_checked_row.mono (by decide)) (C_is_whole := C_is_whole) (G_is_whole := G_is_whole.mono (by decide)) (C_is_count := C_is_count) (G_is_count := G_is_count.mono (by decide)) (C_least_unseen := C_least_unseen) (G_least_unseen := G_least_unseen.mono (by decide)) (M_Missing := M_Missing) (G_Missing___init__ := G_Missing___init__.mono (by decide))
  have G__law_numbers := ok__law_numbers (P := l.prog) (w := w) (base := base) (F := F__law_numbers) (T := T)
  have G__law_is_left := ok__law_is_left (P := l.prog) (w := w) (base := base) (F := F__law_is_left) (T := T)
  have G__law_missed := ok__law_missed (P := l.prog) (w := w) (base := base) (F := F__law_missed) (T := T) (C__law_is_left := C__law_is_left) (G__law_is_left := G__law_is_left.mono (by decide))
  have G__law_right := ok__law_right (P := l.prog) (w := w) (base := base) (F := F__law_right) (T := T) (C_missing := C_missing) (G_missing := G_missing.mono (by decide)) (C__law_numbers := C__law_numbers) (G__law_numbers := G__law_numbers.mono (by decide)) (C__law_missed := C__law_missed) (G__law_missed := G__law_missed.mono (by decide)) (C_left := C_left) (G_left := G_left.mono (by decide)) (D_Missing_shows := D_Missing_shows) (G_Missing_shows := G_Missing_shows.mono (by decide)) (g_Answer := g_Answer) (g_Left := g_Left) (g_Short := g_Short) (g_Both := g_Both) (g_Longest := g_Longest) (g_Missing := g_Missing) (g_Mixed := g_Mixed) (g_Unmixed := g_Unmixed) (I_Left := I_Left) (I_Short := I_Short) (I_Missing := I_Missing) (n_Missing_cuts := n_Missing_cuts) (n_Missing_word := n_Missing_word) (i_Missing_Answer := i_Missing_Answer) (i_Missing_Left := i_Missing_Left) (i_Missing_Short := i_Missing_Short) (i_Missing_Both := i_Missing_Both) (i_Missing_Longest := i_Missing_Longest) (i_Missing_Missing := i_Missing_Missing) (i_Missing_Mixed := i_Missing_Mixed) (i_Missing_Unmixed := i_Missing_Unmixed) (i_Left_Left := i_Left_Left)
  exact ok_law (P := l.prog) (w := w) (base := base) (F := F_law) (T := T) (C__law_right := C__law_right) (G__law_right := G__law_right.mono (by decide))
theorem walk {l : PySem.W.OpenLaw} {q : Program} {loose : List Str} {XP : (Str → Option Value) → Heap → Prop} {YP : World → Heap → Prop} {d : DefRec} {K : Params → PySem.W.Frag} (hn : l.most = some 63) (hdf : d.params.defaults = [])
    (hY : ∀ (w : World) (h : Heap), YP w h → (K w.params).In h)
    (F : ∀ (w : World) (mg : Str → Option Value) (fa : Addr) (h : Heap), (K w.params).In h → h.Ns mainGlobals mg → mg d.name = some (.ref fa) →
      ∃ fd : FuncData, (∀ (s : Shared) (u : Value), BindsTo s fd ⟨[u], []⟩ [(P_law.headD "", u)]) ∧ ∀ base : Heap, (K w.params).In base → base.Ns mainGlobals mg → FnOk l.prog w (K w.params) mg base CX0 10 fa fd P_law (sp_law (K w.params))) :
    PySem.W.WalkO q loose XP YP l.row.toRowW d [] (fun f vs => PySem.call f vs) :=
  L2.walk_of (n := 63) (k := 10) (x := P_law.headD "") (CX := fun _ => CX0) (sp := fun w => sp_law (K w.params)) hn (by decide) hdf ⟨rfl, by decide, by decide⟩ hY F (fun _ _ a ns hl _ hS => ⟨a, ns, rfl, hS, hl, fun _ => rfl⟩) fun _ _ _ _ _ z => z
end My
open PySem PySem.W PyProof.Rows
set_option maxRecDepth 100000 in
set_option maxHeartbeats 0 in
theorem PySem.W.Fast.tw11543314663403654512 : True := trivial
theorem PySem.W.Fast.tw3439776311903331844 : True := trivial
theorem PySem.W.Fast.tw13453414583775016603 : True := trivial
theorem PySem.W.Fast.tw1532007839827000675 : True := trivial
theorem PySem.W.Fast.tw1113475539195059791 : True := trivial
theorem PySem.W.Fast.tw7687981453791694505 : True := trivial
theorem PySem.W.Fast.tw3241327438172519385 : True := trivial
theorem PySem.W.Fast.tw11069767227917583742 : True := trivial
theorem PySem.W.Fast.tw968712172881591685 : True := trivial
theorem PySem.W.Fast.tw9257872081057486171 : True := trivial
theorem PySem.W.Fast.tw9982139507654455897 : True := trivial
theorem PySem.W.Fast.tw11205301353847254523 : True := trivial
theorem PySem.W.Fast.tw9371455067826283410 : True := trivial
theorem PySem.W.Fast.tw11712500320258328478 : True := trivial
theorem PySem.Challenge.cw_leftin_k04_whole_missing_holds : PySem.Challenge.rw_leftin_k04_whole_missing.Holds := by
  w_on; o_law; k_head; (case hw => w_witness2)
  k_fill
  refine My.walk (l := PySem.Challenge.rw_leftin_k04_whole_missing) rfl rfl (fun w h Y => PySem.W.kIn_of Y) ?F
  case F =>
    intro w mg fa h KX G hmg
    refine' My.all_mk KX G hmg ?aC_LeftError ?aC_BadRow ?aC_BadKinds ?aC_Answer ?aC_Left ?aC_Short ?aC_Longest ?aC_Both ?aC_Missing ?aC_Mixed ?aC_Unmixed ?sn ?st ?u_Left ?v_Left ?pg_Left ?hd_Left ?po_Left ?sa_Left ?mkk_Left ?kc_Left ?n_Left_places ?u_Short ?v_Short ?pg_Short ?hd_Short ?po_Short ?sa_Short ?mkk_Short ?kc_Short ?n_Short_places ?u_Missing ?v_Missing ?pg_Missing ?hd_Missing ?po_Missing ?sa_Missing ?mkk_Missing ?kc_Missing ?n_Missing_cuts ?n_Missing_word ?i_Left_Left ?i_Missing_Answer ?i_Missing_Left ?i_Missing_Short ?i_Missing_Longest ?i_Missing_Both ?i_Missing_Missing ?i_Missing_Mixed ?i_Missing_Unmixed ?a_is_whole ?l_is_whole ?c_is_whole ?h_is_whole ?a_is_count ?l_is_count ?c_is_count ?h_is_count ?a_is_row ?l_is_row ?c_is_row ?h_is_row ?a_checked_row ?l_checked_row ?c_checked_row ?h_checked_row ?a_are_places ?l_are_places ?c_are_places ?h_are_places ?a_signs_at ?l_signs_at ?c_signs_at ?h_signs_at ?a_stands_at ?l_stands_at ?c_stands_at ?h_stands_at ?a_earliest_places ?l_earliest_places ?c_earliest_places ?h_earliest_places ?a_is_left ?l_is_left ?c_is_left ?h_is_left ?a_Left___init__ ?i_Left___init__ ?l_Left___init__ ?c_Left___init__ ?h_Left___init__ ?a_Short___init__ ?i_Short___init__ ?l_Short___init__ ?c_Short___init__ ?h_Short___init__ ?a_Left_shows ?i_Left_shows ?l_Left_shows ?c_Left_shows ?h_Left_shows ?a_Short_shows ?i_Short_shows ?l_Short_shows ?c_Short_shows ?h_Short_shows ?a_left ?l_left ?c_left ?h_left ?a_has_all_kinds ?l_has_all_kinds ?c_has_all_kinds ?h_has_all_kinds ?a_are_cuts ?l_are_cuts ?c_are_cuts ?h_are_cuts ?a_least_unseen ?l_least_unseen ?c_least_unseen ?h_least_unseen ?a_Missing___init__ ?i_Missing___init__ ?l_Missing___init__ ?c_Missing___init__ ?h_Missing___init__ ?a_Missing_shows ?i_Missing_shows ?l_Missing_shows ?c_Missing_shows ?h_Missing_shows ?a_missing ?l_missing ?c_missing ?h_missing ?a__law_numbers ?l__law_numbers ?c__law_numbers ?h__law_numbers ?a__law_is_left ?l__law_is_left ?c__law_is_left ?h__law_is_left ?a__law_missed ?l__law_missed ?c__law_missed ?h__law_missed ?a__law_right ?l__law_right ?c__law_right ?h__law_right ?a_law ?l_law ?c_law ?h_law ?z_len ?z_zip ?z_enumerate ?z_range ?z_list ?z_int ?z_bool ?z_tuple ?z_set ?z_all ?z_any ?z_sum ?z_min ?z_max ?z_sorted ?z_isinstance ?z_dict
    (case aC_LeftError => k_is)
    (case aC_BadRow => k_is)
    (case aC_BadKinds => k_is)
    (case aC_Answer => k_is)
    (case aC_Left => k_is)
    (case aC_Short => k_is)
    (case aC_Longest => k_is)
    (case aC_Both => k_is)
    (case aC_Missing => k_is)
    (case aC_Mixed => k_is)
    (case aC_Unmixed => k_is)
    (case sn => k_is)
    (case st => k_is)
    (case u_Left => k_is)
    (case v_Left => k_is)
    (case pg_Left => k_is)
    (case hd_Left => k_is)
    (case po_Left => k_is)
    (case sa_Left => k_is)
    (case mkk_Left => k_is)
    (case kc_Left => k_is)
    (case n_Left_places => k_is)
    (case u_Short => k_is)
    (case v_Short => k_is)
    (case pg_Short => k_is)
    (case hd_Short => k_is)
    (case po_Short => k_is)
    (case sa_Short => k_is)
    (case mkk_Short => k_is)
    (case kc_Short => k_is)
    (case n_Short_places => k_is)
    (case u_Missing => k_is)
    (case v_Missing => k_is)
    (case pg_Missing => k_is)
    (case hd_Missing => k_is)
    (case po_Missing => k_is)
    (case sa_Missing => k_is)
    (case mkk_Missing => k_is)
    (case kc_Missing => k_is)
    (case n_Missing_cuts => k_is)
    (case n_Missing_word => k_is)
    (case i_Left_Left => kit_is)
    (case i_Missing_Answer => kit_is)
    (case i_Missing_Left => kit_is)
    (case i_Missing_Short => kit_is)
    (case i_Missing_Longest => kit_is)
    (case i_Missing_Both => kit_is)
    (case i_Missing_Missing => kit_is)
    (case i_Missing_Mixed => kit_is)
    (case i_Missing_Unmixed => kit_is)
    (case a_is_whole => k_is)
    (case l_is_whole => k_is)
    (case c_is_whole => k_is)
    (case h_is_whole => k_is)
    (case a_is_count => k_is)
    (case l_is_count => k_is)
    (case c_is_count => k_is)
    (case h_is_count => k_is)
    (case a_is_row => k_is)
    (case l_is_row => k_is)
    (case c_is_row => k_is)
    (case h_is_row => k_is)
    (case a_checked_row => k_is)
    (case l_checked_row => k_is)
    (case c_checked_row => k_is)
    (case h_checked_row => k_is)
    (case a_are_places => k_is)
    (case l_are_places => k_is)
    (case c_are_places => k_is)
    (case h_are_places => k_is)
    (case a_signs_at => k_is)
    (case l_signs_at => k_is)
    (case c_signs_at => k_is)
    (case h_signs_at => k_is)
    (case a_stands_at => k_is)
    (case l_stands_at => k_is)
    (case c_stands_at => k_is)
    (case h_stands_at => k_is)
    (case a_earliest_places => k_is)
    (case l_earliest_places => k_is)
    (case c_earliest_places => k_is)
    (case h_earliest_places => k_is)
    (case a_is_left => k_is)
    (case l_is_left => k_is)
    (case c_is_left => k_is)
    (case h_is_left => k_is)
    (case a_Left___init__ => k_is)
    (case i_Left___init__ => k_is)
    (case l_Left___init__ => k_is)
    (case c_Left___init__ => k_is)
    (case h_Left___init__ => k_is)
    (case a_Short___init__ => k_is)
    (case i_Short___init__ => k_is)
    (case l_Short___init__ => k_is)
    (case c_Short___init__ => k_is)
    (case h_Short___init__ => k_is)
    (case a_Left_shows => k_is)
    (case i_Left_shows => k_is)
    (case l_Left_shows => k_is)
    (case c_Left_shows => k_is)
    (case h_Left_shows => k_is)
    (case a_Short_shows => k_is)
    (case i_Short_shows => k_is)
    (case l_Short_shows => k_is)
    (case c_Short_shows => k_is)
    (case h_Short_shows => k_is)
    (case a_left => k_is)
    (case l_left => k_is)
    (case c_left => k_is)
    (case h_left => k_is)
    (case a_has_all_kinds => k_is)
    (case l_has_all_kinds => k_is)
    (case c_has_all_kinds => k_is)
    (case h_has_all_kinds => k_is)
    (case a_are_cuts => k_is)
    (case l_are_cuts => k_is)
    (case c_are_cuts => k_is)
    (case h_are_cuts => k_is)
    (case a_least_unseen => k_is)
    (case l_least_unseen => k_is)
    (case c_least_unseen => k_is)
    (case h_least_unseen => k_is)
    (case a_Missing___init__ => k_is)
    (case i_Missing___init__ => k_is)
    (case l_Missing___init__ => k_is)
    (case c_Missing___init__ => k_is)
    (case h_Missing___init__ => k_is)
    (case a_Missing_shows => k_is)
    (case i_Missing_shows => k_is)
    (case l_Missing_shows => k_is)
    (case c_Missing_shows => k_is)
    (case h_Missing_shows => k_is)
    (case a_missing => k_is)
    (case l_missing => k_is)
    (case c_missing => k_is)
    (case h_missing => k_is)
    (case a__law_numbers => k_is)
    (case l__law_numbers => k_is)
    (case c__law_numbers => k_is)
    (case h__law_numbers => k_is)
    (case a__law_is_left => k_is)
    (case l__law_is_left => k_is)
    (case c__law_is_left => k_is)
    (case h__law_is_left => k_is)
    (case a__law_missed => k_is)
    (case l__law_missed => k_is)
    (case c__law_missed => k_is)
    (case h__law_missed => k_is)
    (case a__law_right => k_is)
    (case l__law_right => k_is)
    (case c__law_right => k_is)
    (case h__law_right => k_is)
    (case a_law => k_is)
    (case l_law => k_is)
    (case c_law => k_is)
    (case h_law => k_is)
    (case z_len => k_is)
    (case z_zip => k_is)
    (case z_enumerate => k_is)
    (case z_range => k_is)
    (case z_list => k_is)
    (case z_int => k_is)
    (case z_bool => k_is)
    (case z_tuple => k_is)
    (case z_set => k_is)
    (case z_all => k_is)
    (case z_any => k_is)
    (case z_sum => k_is)
    (case z_min => k_is)
    (case z_max => k_is)
    (case z_sorted => k_is)
    (case z_isinstance => k_is)
    (case z_dict => k_is)
