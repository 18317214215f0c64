import PyProof.Rows.All
import Wide.All
import OpenK.AllK
import Wide.FinOn
import Lean
import PyProof.EqAt
import PyProof.EqKinds
import PyProof.TupleCall
import PyProof.ZipIter
import PyProof.EnumMake
import PyProof.EnumFor
import PyProof.AttrMissSeq
import PyProof.DictRoadsH
import KE.KDictOf
import PyProof.DictIter
import PyProof.DictWalks
import KE.KDictList
import PyProof.Rows.TupDisplay
import PySem.Challenge.RW_leftin_k05_whole_mixed
set_option Elab.async false
set_option linter.all false
set_option maxRecDepth 100000
namespace L2
open PySem PySem.Spec PyProof.Rows

abbrev Key := Sum Int Str
def keyIs : Key → Value → Bool
  | .inl k, v => Value.isInt k v
  | .inr x, v => Value.isStrOf x v
def keyH (w : World) : Key → Int
  | .inl k => hashInt k
  | .inr x => hashStr w x
theorem keyIs_shape : ∀ {k : Key} {v : Value}, keyIs k v = true → (∃ i t, k = Sum.inl i ∧ v = Value.int i t) ∨ (∃ x t, k = Sum.inr x ∧ v = Value.str x t)
  | .inl i, v, h => by
    obtain ⟨t, e⟩ := Value.isInt_shape (k := i) (v := v) h
    exact .inl ⟨i, t, rfl, e⟩
  | .inr x, v, h => by
    obtain ⟨t, e⟩ := Value.isStrOf_shape (x := x) (v := v) h
    exact .inr ⟨x, t, rfl, e⟩
theorem keyIs_int (i : Int) (t : Tok) : keyIs (.inl i) (.int i t) = true := by simp [keyIs, Value.isInt]
theorem keyIs_str (x : Str) (t : Tok) : keyIs (.inr x) (.str x t) = true := by simp [keyIs, Value.isStrOf]
theorem key_ll (a b : Int) : decide ((Sum.inl a : Key) = Sum.inl b) = (a == b) := by
  by_cases e : a = b
  · subst e; simp
  · have h : ¬ (Sum.inl a : Key) = Sum.inl b := fun q => e (Sum.inl.inj q)
    rw [decide_eq_false h]
    exact (beq_eq_false_iff_ne.mpr e).symm
theorem key_rr (a b : Str) : decide ((Sum.inr a : Key) = Sum.inr b) = decide (a = b) := by
  by_cases e : a = b
  · subst e; simp
  · have h : ¬ (Sum.inr a : Key) = Sum.inr b := fun q => e (Sum.inr.inj q)
    rw [decide_eq_false h, decide_eq_false e]
theorem key_lr (a : Int) (b : Str) : decide ((Sum.inl a : Key) = Sum.inr b) = false := decide_eq_false (fun q => nomatch q)
theorem key_rl (a : Str) (b : Int) : decide ((Sum.inr a : Key) = Sum.inl b) = false := decide_eq_false (fun q => nomatch q)

def mixKind (prog : Program) (w : World) : PySem.KeyKind prog w Key where
  is := keyIs
  hash := keyH w
  inj := fun v a b ha hb => by
    rcases keyIs_shape ha with ⟨i, t, rfl, rfl⟩ | ⟨x, t, rfl, rfl⟩
    · rcases keyIs_shape hb with ⟨j, u, rfl, e⟩ | ⟨y, u, rfl, e⟩
      · injection e with e1 _; rw [e1]
      · exact nomatch e
    · rcases keyIs_shape hb with ⟨j, u, rfl, e⟩ | ⟨y, u, rfl, e⟩
      · exact nomatch e
      · injection e with e1 _; rw [e1]
  byValue := fun k v h => by
    rcases keyIs_shape h with ⟨i, t, rfl, rfl⟩ | ⟨x, t, rfl, rfl⟩ <;> rfl
  pyHash := fun hv h => by
    rcases keyIs_shape hv with ⟨i, t, rfl, rfl⟩ | ⟨x, t, rfl, rfl⟩
    · exact wpAny_pyHash_int h
    · exact wpAny_pyHash_str h
  eqBool := fun hu hv h => by
    rcases keyIs_shape hu with ⟨i, t, rfl, rfl⟩ | ⟨x, t, rfl, rfl⟩
    · rcases keyIs_shape hv with ⟨j, u, rfl, rfl⟩ | ⟨y, u, rfl, rfl⟩
      · rw [key_ll] at h; exact wpAny_eqBool_int h
      · rw [key_lr] at h; exact SeqAt.EqAt.int_str i t y u _ _ _ _ h
    · rcases keyIs_shape hv with ⟨j, u, rfl, rfl⟩ | ⟨y, u, rfl, rfl⟩
      · rw [key_rl] at h; exact SeqAt.EqAt.str_int x t j u _ _ _ _ h
      · rw [key_rr] at h; exact wpAny_eqBool_str h
  «strs» := fun k x t v h => by
    rcases keyIs_shape h with ⟨i, u, rfl, e⟩ | ⟨y, u, rfl, e⟩
    · exact nomatch e
    · injection e with e1 _
      subst e1
      cases v <;> rfl

theorem mixKind_int (prog : Program) (w : World) (i : Int) (t : Tok) : (mixKind prog w).is (.inl i) (.int i t) = true := keyIs_int i t
theorem mixKind_str (prog : Program) (w : World) (x : Str) (t : Tok) : (mixKind prog w).is (.inr x) (.str x t) = true := keyIs_str x t
end L2

namespace L2
open PySem PySem.Spec PyProof.Rows

inductive V where
  | non | bl (b : Bool) | int (i : Int) | str (x : Str) | byt (b : Array UInt8) | flt (b : UInt64) | ref (a : Addr) | ty (n : String)
  deriving DecidableEq

def RelV : V → Value → Prop
  | .non, u => u = Value.none
  | .bl b, u => u = Value.bool b
  | .int i, u => ∃ t, u = Value.int i t
  | .str x, u => ∃ t, u = Value.str x t
  | .byt b, u => ∃ t, u = Value.bytes b t
  | .flt b, u => ∃ t, u = Value.float b t
  | .ref a, u => u = Value.ref a
  | .ty n, u => u = Value.type n

abbrev Vals : List V → List Value → Prop := Paired RelV
theorem Vals.length {xs : List V} {us : List Value} (r : Vals xs us) : xs.length = us.length := Paired.length r
theorem Vals.get : ∀ {xs : List V} {us : List Value} {i : Nat} {x : V}, Vals xs us → xs[i]? = some x → ∃ u, us[i]? = some u ∧ RelV x u
  | _, _, _, _, .nil, e => by simp at e
  | _, _, 0, _, .cons r _, e => by simp at e; subst e; exact ⟨_, rfl, r⟩
  | _, _, i + 1, x, .cons _ t, e => by
    obtain ⟨u, h1, h2⟩ := Vals.get (i := i) (x := x) t (by simpa using e)
    exact ⟨u, by simpa using h1, h2⟩
theorem Vals.set {x : V} {u : Value} (r : RelV x u) : ∀ {xs : List V} {us : List Value} (i : Nat), Vals xs us → Vals (xs.set i x) (us.set i u)
  | _, _, _, .nil => .nil
  | _, _, 0, .cons _ t => .cons r t
  | _, _, i + 1, .cons q t => .cons q (Vals.set r i t)
theorem Vals.append : ∀ {xs ys : List V} {us ws : List Value}, Vals xs us → Vals ys ws → Vals (xs ++ ys) (us ++ ws)
  | _, _, _, _, .nil, s => s
  | _, _, _, _, .cons r t, s => .cons r (Vals.append t s)
theorem Vals.take : ∀ {xs : List V} {us : List Value} (n : Nat), Vals xs us → Vals (xs.take n) (us.take n)
  | _, _, 0, _ => .nil
  | _, _, _ + 1, .nil => .nil
  | _, _, n + 1, .cons r t => .cons r (Vals.take n t)
theorem Vals.drop : ∀ {xs : List V} {us : List Value} (n : Nat), Vals xs us → Vals (xs.drop n) (us.drop n)
  | _, _, 0, r => r
  | _, _, _ + 1, .nil => .nil
  | _, _, n + 1, .cons _ t => Vals.drop n t
theorem Vals.none_of : ∀ {xs : List V} {us : List Value} {i : Nat}, Vals xs us → xs[i]? = none → us[i]? = none := fun {xs us i} r e => by
  have h1 := r.length
  have h2 : xs.length ≤ i := List.getElem?_eq_none_iff.mp e
  exact List.getElem?_eq_none_iff.mpr (by omega)

def RelO : Option V → Option Value → Prop
  | some v, some u => RelV v u
  | none, none => True
  | _, _ => False
def KV {κ : Type} : List (κ × V) → List (κ × Value) → Prop := Paired fun (p : κ × V) (q : κ × Value) => p.1 = q.1 ∧ RelV p.2 q.2

def kV : Key → V
  | .inl i => .int i
  | .inr x => .str x

inductive HO where
    | lst (xs : List V)
    | tup (xs : List V)
    | dK (kvs : List (Key × V)) | dT (kvs : List (List Key × V))
    | set (S : Int → Bool) (n : Nat)
    | ins (C dx : Addr) (fs : List (Str × V))
    | own (x : Addr)
    | xd (fs : List (Str × V))
    | met (f x : Addr)
    | rng (lo hi : Int)
    | frz (o : Obj) (u : HO)
    | tbl (ps : Array Value)
    | ext (φ : Heap → Prop)

abbrev Hp := Addr → Option HO
def upd (H : Hp) (a : Addr) (o : HO) : Hp := fun b => if b = a then some o else H b
theorem upd_same {H : Hp} {a : Addr} {o : HO} : upd H a o a = some o := by unfold upd; rw [if_pos rfl]
theorem upd_ne {H : Hp} {a b : Addr} {o : HO} (h : b ≠ a) : upd H a o b = H b := by unfold upd; rw [if_neg h]
theorem ne_of {H : Hp} {a b : Addr} {o u : HO} (h : H a = some o) (h' : H b = some u) (d : o ≠ u) : a ≠ b := by
  intro e; subst e; rw [h] at h'; exact d (Option.some.inj h')
theorem ne_of_none {H : Hp} {a b : Addr} {o : HO} (h : H a = some o) (h' : H b = none) : a ≠ b := by
  intro e; subst e; rw [h] at h'; cases h'

section
variable (P : Program) (w : World)
def ObjOk (H : Hp) (h : Heap) (a : Addr) : HO → Prop
  | .lst xs => xs.length ≤ sizeLine ∧ ∃ (its : List Value) (n : Nat), Vals xs its ∧ h.get? a = some { cls := .type "list", data := .seq its.toArray n }
  | .tup xs => xs.length ≤ sizeLine ∧ ∃ its : List Value, Vals xs its ∧ IsTup h a its.toArray
  | .dK kvs => kvs.length ≤ sizeLine ∧ (a == sysModules) = false ∧ ∃ vs, KV kvs vs ∧ h.DictOf (mixKind P w) a vs
  | .dT kvs => kvs.length ≤ sizeLine ∧ (a == sysModules) = false ∧ ∃ xs : List (List Key × Addr × Value),
      Paired (fun (p : List Key × V) (q : List Key × Addr × Value) => p.1 = q.1 ∧ H q.2.1 = some (.tup (p.1.map kV)) ∧ RelV p.2 q.2.2) kvs xs ∧
      ∃ o es ep, h.get? a = some o ∧ o.ExactDict ∧ o.data = .dict es ep ∧ es.toList = xs.map (entryOfKey (tupleKind (mixKind P w))) ∧ (xs.map (·.1)).Nodup
  | .set S n => h.SetOf (intKind P w) a S n
  | .ins C dx fs => H dx = some (.own a) ∧ fs.length ≤ 1000 ∧ dx ≠ a ∧ h.get? a = some (PySem.W.instObj C dx) ∧
      ∃ mA, h.Ns1 dx mA ∧ (∀ f, RelO (fs.lookup f) (mA f)) ∧ PySem.Within mA (fs.map (·.1))
  | .own _ => ∃ o, h.get? a = some o
  | .xd fs => ∃ mA, h.Ns1 a mA ∧ ∀ f, RelO (fs.lookup f) (mA f)
  | .rng lo hi => ∃ t u v, h.get? a = some { cls := .type "range", data := .fields #[.int lo t, .int hi u, .int 1 v] }
  | .frz o u => h.get? a = some o ∧ ObjOk H h a u
  | .tbl ps => h.get? a = some { cls := .none, data := .fields ps }
  | .met f x => h.get? a = some (PySem.W.methodObj (.ref f) (.ref x))
  | .ext φ => φ h ∧ (∃ o, h.get? a = some o) ∧ ∀ h1 h2 : Heap, φ h1 → (∀ o, h1.get? a = some o → h2.get? a = some o) → φ h2
def HOk (H : Hp) (h : Heap) : Prop := ∀ a o, H a = some o → ObjOk P w H h a o
end

section
variable {P : Program} {w : World} {H H' : Hp} {h h' : Heap} {a : Addr} {o : HO}
theorem ObjOk.lt (x : ObjOk P w H h a o) : a < h.objs.size := by
  cases o with
  | lst xs => obtain ⟨_, _, _, _, e⟩ := x; exact Heap.lt_size e
  | tup xs => obtain ⟨_, _, _, p⟩ := x; exact p.lt
  | dK kvs => obtain ⟨_, _, _, _, o, _, _, e, _⟩ := x; exact Heap.lt_size e
  | dT kvs => obtain ⟨_, _, _, _, o, _, _, e, _⟩ := x; exact Heap.lt_size e
  | set S n => obtain ⟨o, _, _, _, e, _⟩ := x; exact Heap.lt_size e
  | ins C dx fs => obtain ⟨_, _, _, e, _⟩ := x; exact Heap.lt_size e
  | own y => obtain ⟨_, e⟩ := x; exact Heap.lt_size e
  | xd fs => obtain ⟨_, ⟨_, _, _, e, _⟩, _⟩ := x; exact Heap.lt_size e
  | rng lo hi => obtain ⟨_, _, _, e⟩ := x; exact Heap.lt_size e
  | frz ob u => obtain ⟨e, _⟩ := x; exact Heap.lt_size e
  | tbl ps => exact Heap.lt_size (show h.get? a = some _ from x)
  | met f y => exact Heap.lt_size (show h.get? a = some _ from x)
  | ext φ => obtain ⟨_, ⟨_, e⟩, _⟩ := x; exact Heap.lt_size e
theorem Paired.mapP {α β : Type} {F G : α → β → Prop} : ∀ {l₁ : List α} {l₂ : List β}, Paired F l₁ l₂ → (∀ a b, F a b → G a b) → Paired G l₁ l₂
  | _, _, .nil, _ => .nil
  | _, _, .cons r t, f => .cons (f _ _ r) (Paired.mapP t f)
theorem ObjOk.stay (x : ObjOk P w H h a o) (k : ∀ b u, (b = a ∨ H b = some (.own a)) → h.get? b = some u → h'.get? b = some u)
    (ho : ∀ b, H b = some (.own a) → H' b = some (.own a)) (ht : ∀ b xs, H b = some (.tup xs) → H' b = some (.tup xs)) : ObjOk P w H' h' a o := by
  induction o with
  | lst xs => obtain ⟨z, its, n, r, e⟩ := x; exact ⟨z, its, n, r, k _ _ (.inl rfl) e⟩
  | tup xs => obtain ⟨z, its, r, ob, e, c⟩ := x; exact ⟨z, its, r, ob, k _ _ (.inl rfl) e, c⟩
  | dK kvs => obtain ⟨z, y, vs, r, ob, es, ep, e, c⟩ := x; exact ⟨z, y, vs, r, ob, es, ep, k _ _ (.inl rfl) e, c⟩
  | dT kvs =>
    obtain ⟨z, y, xs, r, ob, es, ep, e, c⟩ := x
    exact ⟨z, y, xs, Paired.mapP r fun p q z => ⟨z.1, ht _ _ z.2.1, z.2.2⟩, ob, es, ep, k _ _ (.inl rfl) e, c⟩
  | set S n => obtain ⟨ob, es, ep, t, e, c⟩ := x; exact ⟨ob, es, ep, t, k _ _ (.inl rfl) e, c⟩
  | ins C dx fs =>
    obtain ⟨d, z, ne, e, mA, ⟨od, es, ep, e2, c⟩, r⟩ := x
    exact ⟨ho _ d, z, ne, k _ _ (.inl rfl) e, mA, ⟨od, es, ep, k _ _ (.inr d) e2, c⟩, r⟩
  | own y => obtain ⟨ob, e⟩ := x; exact ⟨ob, k _ _ (.inl rfl) e⟩
  | xd fs => obtain ⟨mA, ⟨od, es, ep, e, c⟩, r⟩ := x; exact ⟨mA, ⟨od, es, ep, k _ _ (.inl rfl) e, c⟩, r⟩
  | rng lo hi => obtain ⟨t, u, v, e⟩ := x; exact ⟨t, u, v, k _ _ (.inl rfl) e⟩
  | frz ob u ih => obtain ⟨e, q⟩ := x; exact ⟨k _ _ (.inl rfl) e, ih q⟩
  | tbl ps =>
    have e : h.get? a = some { cls := .none, data := .fields ps } := x
    show h'.get? a = some { cls := .none, data := .fields ps }
    exact k a _ (.inl rfl) e
  | met f y =>
    have e : h.get? a = some (PySem.W.methodObj (.ref f) (.ref y)) := x
    show h'.get? a = some (PySem.W.methodObj (.ref f) (.ref y))
    exact k a _ (.inl rfl) e
  | ext φ => obtain ⟨p, ⟨o, e⟩, st⟩ := x; exact ⟨st _ _ p fun o q => k _ _ (.inl rfl) q, ⟨o, k _ _ (.inl rfl) e⟩, st⟩
theorem HOk.lt (x : HOk P w H h) (e : H a = some o) : a < h.objs.size := (x a o e).lt
theorem HOk.fresh (x : HOk P w H h) (e : h.objs.size ≤ a) : H a = none := by
  cases q : H a with
  | none => rfl
  | some u => exact absurd (Nat.lt_of_lt_of_le (x.lt q) e) (Nat.lt_irrefl _)
theorem HOk.kept (x : HOk P w H h) (k : ∀ b u, h.get? b = some u → h'.get? b = some u) : HOk P w H h' := fun a o e =>
  (x a o e).stay (fun b u _ q => k b u q) (fun _ q => q) fun _ _ q => q
theorem HOk.laid (x : HOk P w H h) (k : ∀ b u, h.get? b = some u → h'.get? b = some u) (hp : h.objs.size ≤ a) (new : ObjOk P w (upd H a o) h' a o) : HOk P w (upd H a o) h' := fun b u e => by
  have hn := x.fresh hp
  by_cases hb : b = a
  · subst hb; rw [upd_same] at e; cases e; exact new
  · rw [upd_ne hb] at e
    exact (x b u e).stay (fun c v _ q => k c v q) (fun c q => by rw [upd_ne (ne_of_none q hn)]; exact q) fun c xs q => by rw [upd_ne (ne_of_none q hn)]; exact q
end

def Rd (H : Hp) (a : Addr) (u : HO) : Prop := H a = some u ∨ ∃ o, H a = some (.frz o u)
theorem Rd.of {H : Hp} {a : Addr} {u : HO} (h : H a = some u) : Rd H a u := .inl h
theorem Rd.ok {P : Program} {w : World} {H : Hp} {h : Heap} {a : Addr} {u : HO} (r : Rd H a u) (x : HOk P w H h) : ObjOk P w H h a u := by
  rcases r with r | ⟨o, r⟩
  · exact x a u r
  · obtain ⟨_, q⟩ := x a _ r
    exact q
def Mut : Option HO → Prop
  | some (.lst _) => True
  | some (.dK _) => True
  | some (.dT _) => True
  | some (.set _ _) => True
  | some (.ins _ _ _) => True
  | some (.ext _) => True
  | _ => False
section
variable {P : Program} {w : World} {H : Hp} {h h' : Heap} {x e : Addr} {o' : HO}
theorem HOk.write (ok : HOk P w H h) (mu : Mut (H x)) (he : e = x ∨ H e = some (.own x)) (k : ∀ b u, b ≠ e → h.get? b = some u → h'.get? b = some u) (heo : ∃ u, h'.get? e = some u)
    (new : ObjOk P w (upd H x o') h' x o') : HOk P w (upd H x o') h' := fun b u q => by
  have nown : ∀ c y, H c = some (.own y) → c ≠ x := fun c y r z => by subst z; rw [r] at mu; exact mu
  have ntup : ∀ c xs, H c = some (.tup xs) → c ≠ x := fun c xs r z => by subst z; rw [r] at mu; exact mu
  by_cases hb : b = x
  · subst hb; rw [upd_same] at q; cases q; exact new
  · rw [upd_ne hb] at q
    by_cases hbe : b = e
    · have q' : H b = some (.own x) := by
        rcases he with z | z
        · exact absurd (hbe.trans z) hb
        · rw [hbe]; exact z
      rw [q] at q'; cases q'
      obtain ⟨v, hv⟩ := heo
      exact ⟨v, by rw [hbe]; exact hv⟩
    · refine (ok b u q).stay (fun c v hc r => k c v ?_ r) (fun c r => by rw [upd_ne (nown c b r)]; exact r) fun c xs r => by rw [upd_ne (ntup c xs r)]; exact r
      rcases hc with rfl | hc
      · exact hbe
      · rintro rfl
        rcases he with z | z
        · exact nown c b hc z
        · rw [hc] at z; cases z; exact hb rfl
end

structure Un (fs ex : List Addr) (H H' : Hp) (h h' : Heap) : Prop where
  keep : ∀ b o, h.get? b = some o → H b = none → b ∉ fs → b ∉ ex → h'.get? b = some o
  slot : ∀ b o, h.get? b = some o → H b = none → b ∈ fs → b ∉ ex → ∃ sl, h'.get? b = some { o with slots := sl }
  free : ∀ b o, h.get? b = some o → H b = none → b ∉ ex → H' b = none
  there : ∀ b o, h.get? b = some o → b ∉ ex → ∃ o', h'.get? b = some o'
  tups : ∀ b xs, H b = some (.tup xs) → H' b = some (.tup xs)
  frzs : ∀ b o u, H b = some (.frz o u) → H' b = some (.frz o u)
  tbls : ∀ b ps, H b = some (.tbl ps) → ∃ more, H' b = some (.tbl (ps ++ more))
section
variable {fs fs' ex ex' : List Addr} {H H1 H2 : Hp} {h h1 h2 h' : Heap} {a x e : Addr} {o : HO}
theorem Un.any (u : Un fs ex H H1 h h1) {b : Addr} {ob : Obj} (q : h.get? b = some ob) (n : H b = none) (hx : b ∉ ex) : ∃ sl, h1.get? b = some { ob with slots := sl } := by
  by_cases hb : b ∈ fs
  · exact u.slot b ob q n hb hx
  · exact ⟨ob.slots, u.keep b ob q n hb hx⟩
theorem Un.trans (a : Un fs ex H H1 h h1) (b : Un fs ex H1 H2 h1 h2) : Un fs ex H H2 h h2 where
  keep := fun c ob q n hc hx => b.keep c ob (a.keep c ob q n hc hx) (a.free c ob q n hx) hc hx
  slot := fun c ob q n hc hx => by
    obtain ⟨sl, e1⟩ := a.slot c ob q n hc hx
    obtain ⟨sl', e2⟩ := b.slot c _ e1 (a.free c ob q n hx) hc hx
    exact ⟨sl', e2⟩
  free := fun c ob q n hx => by
    obtain ⟨o', e1⟩ := a.there c ob q hx
    exact b.free c o' e1 (a.free c ob q n hx) hx
  there := fun c ob q hx => by
    obtain ⟨o', e1⟩ := a.there c ob q hx
    exact b.there c o' e1 hx
  tups := fun c xs q => b.tups c xs (a.tups c xs q)
  frzs := fun c ob xs q => b.frzs c ob xs (a.frzs c ob xs q)
  tbls := fun c ps q => by
    obtain ⟨m1, e1⟩ := a.tbls c ps q
    obtain ⟨m2, e2⟩ := b.tbls c _ e1
    exact ⟨m1 ++ m2, by rw [e2, Array.append_assoc]⟩
theorem Un.kept (k : ∀ b u, h.get? b = some u → h'.get? b = some u) : Un fs ex H H h h' :=
  ⟨fun b ob q _ _ _ => k b ob q, fun b ob q _ _ _ => ⟨ob.slots, k b ob q⟩, fun _ _ _ n _ => n, fun b ob q _ => ⟨ob, k b ob q⟩, fun _ _ q => q, fun _ _ _ q => q, fun _ ps q => ⟨#[], by rw [q]; simp⟩⟩
theorem Un.refl : Un fs ex H H h h := Un.kept fun _ _ q => q
theorem Un.laid (k : ∀ b u, h.get? b = some u → h'.get? b = some u) (hp : h.objs.size ≤ a) (hn : H a = none) : Un fs ex H (upd H a o) h h' where
  keep := fun b u q _ _ _ => k b u q
  slot := fun b u q _ _ _ => ⟨u.slots, k b u q⟩
  free := fun b u q n _ => by rw [upd_ne (Nat.ne_of_lt (Nat.lt_of_lt_of_le (Heap.lt_size q) hp))]; exact n
  there := fun b u q _ => ⟨u, k b u q⟩
  tups := fun b xs q => by rw [upd_ne (ne_of_none q hn)]; exact q
  frzs := fun b u xs q => by rw [upd_ne (ne_of_none q hn)]; exact q
  tbls := fun b ps q => ⟨#[], by rw [upd_ne (ne_of_none q hn), q]; simp⟩
theorem Un.write (mu : Mut (H x)) (he : e = x ∨ H e = some (.own x)) (k : ∀ b u, b ≠ e → h.get? b = some u → h'.get? b = some u) (heo : ∃ u, h'.get? e = some u) : Un fs ex H (upd H x o) h h' := by
  have hx : ∀ b, H b = none → b ≠ x := fun b n z => by subst z; rw [n] at mu; exact mu
  have hb : ∀ b, H b = none → b ≠ e := fun b n z => by
    subst z
    rcases he with r | r
    · exact hx b n r
    · rw [n] at r; cases r
  have hm : ∀ b u, H b = some u → ¬ Mut (some u) → b ≠ x := fun b u q nm z => by subst z; rw [q] at mu; exact nm mu
  refine ⟨fun b u q n _ _ => k b u (hb b n) q, fun b u q n _ _ => ⟨u.slots, k b u (hb b n) q⟩, fun b u q n _ => by rw [upd_ne (hx b n)]; exact n, fun b u q _ => ?_,
    fun b xs q => by rw [upd_ne (hm b _ q fun z => z)]; exact q, fun b u xs q => by rw [upd_ne (hm b _ q fun z => z)]; exact q, fun b ps q => ⟨#[], by rw [upd_ne (hm b _ q fun z => z), q]; simp⟩⟩
  by_cases hbe : b = e
  · subst hbe; exact heo
  · exact ⟨u, k b u hbe q⟩
theorem Un.mono (u : Un fs ex H H1 h h1) (hs : ∀ b ∈ fs, b ∈ fs') (hx : ∀ b ∈ ex, b ∈ ex') : Un fs' ex' H H1 h h1 :=
  ⟨fun b ob q n hb he => u.keep b ob q n (fun z => hb (hs b z)) fun z => he (hx b z), fun _ _ q n _ he => u.any q n fun z => he (hx _ z), fun b ob q n he => u.free b ob q n fun z => he (hx b z), fun b ob q he => u.there b ob q fun z => he (hx b z), u.tups, u.frzs, u.tbls⟩
end

def trk (h : Heap) (H : Hp) : List Addr := (List.range h.objs.size).filter fun a => (H a).isSome
def hidT (h : Heap) (H : Hp) : Heap := PySem.W.hideAll h (trk h H)
theorem hidT_size (h : Heap) (H : Hp) : (hidT h H).objs.size = h.objs.size := PySem.W.hideAll_size _ _
theorem hidT_get {h : Heap} {H : Hp} {b : Addr} {o : Obj} (e : h.get? b = some o) (n : H b = none) : (hidT h H).get? b = some o :=
  PySem.W.hideAll_get _ e fun hm => by
    have q : (H b).isSome = true := (List.mem_filter.mp hm).2
    rw [n] at q; simp at q
theorem of_hidT {h : Heap} {H : Hp} {b : Addr} {o : Obj} (e : (hidT h H).get? b = some o) : h.get? b = some o ∧ H b = none := by
  have e' : h.get? b = some o := PySem.W.of_hideAll (trk h H) e
  refine ⟨e', ?_⟩
  cases q : H b with
  | none => rfl
  | some x =>
    have hm : b ∈ trk h H := List.mem_filter.mpr ⟨List.mem_range.mpr (Heap.lt_size e'), by simp [q]⟩
    have z : (hidT h H).get? b = none := PySem.W.hideAll_none (trk h H) hm
    rw [z] at e; cases e

def allNews (g h : Heap) (L : Addr) : List (Addr × Obj) := (List.range h.objs.size).filterMap fun a => if a = L ∨ (g.get? a).isSome = true then none else (h.get? a).map fun o => (a, o)
def rest (g h : Heap) (L d : Addr) : List (Addr × Obj) := (allNews g h L).filter fun p => decide (p.1 ≠ d)
end L2

namespace L2
open PySem PySem.Spec PyProof.Rows

structure Mod (K : PySem.W.Frag) (mg : Str → Option Value) (base : Heap) : Prop where
  kin : K.In base
  glob : base.Ns mainGlobals mg
  blt : ∃ mb, base.Ns builtinsNs mb ∧ ∀ x : Str, x ≠ "__name__" → mb x = bootBuiltins x
  nolimit : base.NoLimit

structure Cx where
  prog : Program
  w : World
  K : PySem.W.Frag
  mg : Str → Option Value
  base : Heap
  A : Around
  N : List Str
  s₀ : Shared
  H₀ : Hp
  env : Env
  outer : List Env
  stack : List Env
  ex : List Addr
  fn : Str → Bool
  calm : Bool
  pn : List (Addr × Obj)
  xe : Value → Shared → Prop
def frs (l : List Env) : List Addr := l.filterMap (·.frame)
abbrev Cx.fs (X : Cx) : List Addr := frs X.outer

def Vis (sc : Scope) (x : Str) : Prop := sc.names.lookup x = some .local ∨ sc.names.lookup x = some .cell ∨ sc.names.lookup x = some .free
def Loc (sc : Scope) (x : Str) : Prop := sc.names.lookup x = some .local ∨ sc.names.lookup x = some .cell
def Look (env : Env) (h : Heap) (m : Str → Option Value) (x : Str) (u : Value) : Prop :=
  (env.kindOf x = some .local ∧ m x = some u) ∨ ((env.kindOf x = some .cell ∨ env.kindOf x = some .free) ∧ ∃ c, env.cells.lookup x = some c ∧ h.IsCell c (some u))

structure Cx.Ok (X : Cx) : Prop where
  mod : Mod X.K X.mg X.base
  kind : X.env.scope.kind = .function
  glob : X.env.globals = mainGlobals
  blt : X.env.builtins = builtinsNs
  above : X.s₀.heap.objs.size ≤ X.env.locals
  inj : ∀ x y c, X.env.cells.lookup x = some c → X.env.cells.lookup y = some c → x = y
  has : ∀ x, (X.env.kindOf x = some .cell ∨ X.env.kindOf x = some .free) → ∃ c, X.env.cells.lookup x = some c
  cab : ∀ x c, X.fn x = true → X.env.cells.lookup x = some c → X.s₀.heap.objs.size ≤ c
  hd : X.calm = true → X.A.handled = none
  frames : X.A.frames = some X.stack
  stk : X.stack = X.outer ∨ (X.stack = X.env :: X.outer ∧ X.env.frame = some X.env.locals)
  exf : ∀ b ∈ X.ex, b ≠ X.env.locals ∧ ∀ x c, X.env.cells.lookup x = some c → c ≠ b
  bs : ∀ b o, X.base.get? b = some o → X.s₀.heap.get? b = some o ∧ X.H₀ b = none
  bsz : X.base.objs.size ≤ X.s₀.heap.objs.size
  noex : ∀ b o, X.base.get? b = some o → b ∉ X.ex
  exfs : ∀ b ∈ X.ex, b ∉ X.fs
  funs : X.s₀.heap.FunFrames X.base X.outer
  frf : ∀ b ∈ X.fs, X.H₀ b = none

structure Inv (X : Cx) (pins : List (Addr × Obj)) (σ : List (Option V)) (H : Hp) (s : Shared) : Prop where
  ok : X.Ok
  os : s.os = X.s₀.os
  bare : AllBare s.gens
  base : Un X.fs X.ex X.H₀ H X.s₀.heap s.heap
  loc : ∃ m, s.heap.Ns X.env.locals m ∧ ∀ (i : Nat) (x : Str) (v : V), X.N[i]? = some x → σ[i]? = some (some v) → Vis X.env.scope x → ∃ u, RelV v u ∧ Look X.env s.heap m x u
  cell : ∀ x c, X.env.cells.lookup x = some c → ∃ v, s.heap.IsCell c v
  free : H X.env.locals = none
  freeC : ∀ x c, X.env.cells.lookup x = some c → H c = none
  pin : ∀ p ∈ X.pn ++ pins, s.heap.get? p.1 = some p.2 ∧ H p.1 = none ∧ p.1 ≠ X.env.locals ∧ p.1 ∉ X.fs ∧ ∀ v, p.2.data ≠ .cell v
  hok : HOk X.prog X.w H s.heap
  len : σ.length = X.N.length

section
variable {X : Cx} {pins : List (Addr × Obj)} {σ : List (Option V)} {H H' : Hp} {s : Shared} {h' : Heap}

theorem Cx.Ok.nofr (ok : X.Ok) {b : Addr} {o : Obj} (e : X.base.get? b = some o) : b ∉ X.fs := fun hb => by
  have := (ok.funs.mem hb).1
  rw [e] at this; cases this
theorem Inv.bs (I : Inv X pins σ H s) : ∀ b o, X.base.get? b = some o → s.heap.get? b = some o ∧ H b = none := fun b o e =>
  ⟨I.base.keep b o (I.ok.bs b o e).1 (I.ok.bs b o e).2 (I.ok.nofr e) (I.ok.noex b o e), I.base.free b o (I.ok.bs b o e).1 (I.ok.bs b o e).2 (I.ok.noex b o e)⟩
theorem Inv.bk (I : Inv X pins σ H s) : ∀ b o, X.base.get? b = some o → s.heap.get? b = some o := fun b o e => (I.bs b o e).1
theorem Inv.mod (I : Inv X pins σ H s) : Mod X.K X.mg X.base := I.ok.mod
theorem Inv.kIn (I : Inv X pins σ H s) : X.K.In s.heap := I.ok.mod.kin.keeps I.bk
theorem Inv.nolimit (I : Inv X pins σ H s) : s.heap.NoLimit := I.ok.mod.nolimit.keeps I.bk
theorem Inv.fr (I : Inv X pins σ H s) : ∃ m, Fr X.base X.env.locals s.heap m :=
  let ⟨m, hn, _⟩ := I.loc
  ⟨m, hn, I.bk, Nat.le_trans I.ok.bsz I.ok.above⟩
theorem Inv.lt (I : Inv X pins σ H s) : X.env.locals < s.heap.objs.size := let ⟨_, hn, _⟩ := I.loc; hn.lt
theorem Inv.sz (I : Inv X pins σ H s) : X.s₀.heap.objs.size ≤ s.heap.objs.size := Nat.le_trans I.ok.above (Nat.le_of_lt I.lt)
theorem Inv.nofs (I : Inv X pins σ H s) {a : Addr} (h : s.heap.objs.size ≤ a) : a ∉ X.fs := fun hb => by
  obtain ⟨_, o, ho, _⟩ := I.ok.funs.mem hb
  exact absurd (Nat.lt_of_lt_of_le (Heap.lt_size ho) (Nat.le_trans I.sz h)) (Nat.lt_irrefl _)
theorem Inv.cne (I : Inv X pins σ H s) : ∀ x c, X.env.cells.lookup x = some c → c ≠ X.env.locals := fun x c e z => by
  obtain ⟨v, o, ho, hd⟩ := I.cell x c e
  obtain ⟨m, ⟨o', es, ep, ho', hd', _⟩, _⟩ := I.loc
  rw [z, ho'] at ho; cases ho; rw [hd'] at hd; cases hd
theorem Inv.funs (I : Inv X pins σ H s) : s.heap.FunFrames X.base X.outer := by
  have all : ∀ (l : List Env), (∀ b ∈ frs l, b ∈ X.fs) → X.s₀.heap.FunFrames X.base l → s.heap.FunFrames X.base l := by
    intro l
    induction l with
    | nil => intro _ _; trivial
    | cons env r ih =>
      intro hs hl
      obtain ⟨hk, ⟨L, o, hf, hn, ho, hd⟩, hr⟩ := hl
      have hL : L ∈ X.fs := hs L (by unfold frs; rw [List.filterMap_cons, hf]; exact List.mem_cons_self)
      obtain ⟨sl, e⟩ := I.base.slot L o ho (I.ok.frf L hL) hL fun z => I.ok.exfs L z hL
      exact ⟨hk, ⟨L, _, hf, hn, e, hd⟩, ih (fun b hb => hs b (by unfold frs; rw [List.filterMap_cons, hf]; exact List.mem_cons_of_mem _ hb)) hr⟩
  exact all X.outer (fun _ hb => hb) I.ok.funs

theorem Inv.stack (I : Inv X pins σ H s) : s.heap.FunFrames X.base X.stack := by
  rcases I.ok.stk with e | ⟨e, hf⟩
  · rw [e]; exact I.funs
  · rw [e]
    obtain ⟨m, hn, _⟩ := I.loc
    refine .cons (by rw [I.ok.kind]; decide) hf hn ?_ I.funs
    exact Heap.get?_none_of_le (Nat.le_trans I.ok.bsz I.ok.above)
theorem Inv.stkSub (I : Inv X pins σ H s) : ∀ b ∈ frs X.stack, b ∈ X.env.locals :: X.fs := fun b hb => by
  rcases I.ok.stk with e | ⟨e, hf⟩
  · rw [e] at hb; exact List.mem_cons_of_mem _ hb
  · rw [e] at hb
    unfold frs at hb
    rw [List.filterMap_cons, hf] at hb
    exact hb
theorem Inv.stkFree (I : Inv X pins σ H s) : ∀ b ∈ frs X.stack, H b = none := fun b hb => by
  rcases List.mem_cons.mp (I.stkSub b hb) with e | hb
  · rw [e]; exact I.free
  · obtain ⟨_, o, ho, _⟩ := I.ok.funs.mem hb
    exact I.base.free b o ho (I.ok.frf b hb) fun z => I.ok.exfs b z hb

theorem Inv.step {g' : Array GenState} {t' : Nat} {d' : Drawn} {ch : List Addr} (I : Inv X pins σ H s)
    (hch : ∀ b ∈ ch, (b ∈ X.ex ∨ X.s₀.heap.objs.size ≤ b) ∧ b ≠ X.env.locals ∧ (∀ x c, X.env.cells.lookup x = some c → c ≠ b) ∧ ∀ p ∈ X.pn ++ pins, p.1 ≠ b)
    (keep : ∀ b o, b ≠ X.env.locals → b ∉ X.fs → b ∉ ch → s.heap.get? b = some o → H b = none → h'.get? b = some o)
    (slot : ∀ b o, b ≠ X.env.locals → b ∈ X.fs → b ∉ ch → s.heap.get? b = some o → H b = none → ∃ sl, h'.get? b = some { o with slots := sl }) (free : ∀ b o, b ∉ ch → s.heap.get? b = some o → H b = none → H' b = none)
    (there : ∀ b o, b ∉ ch → s.heap.get? b = some o → ∃ o', h'.get? b = some o')
    (tups : ∀ b xs, H b = some (.tup xs) → H' b = some (.tup xs)) (frzs : ∀ b o u, H b = some (.frz o u) → H' b = some (.frz o u)) (tbls : ∀ b ps, H b = some (.tbl ps) → ∃ more, H' b = some (.tbl (ps ++ more)))
    (ns : ∀ m, s.heap.Ns X.env.locals m → h'.Ns X.env.locals m) (hok : HOk X.prog X.w H' h') (hg : AllBare g') :
    Inv X pins σ H' { s with heap := h', gens := g', drawn := d', toks := t' } := by
  have neL : ∀ b o, X.s₀.heap.get? b = some o → b ≠ X.env.locals := fun b o e => Nat.ne_of_lt (Nat.lt_of_lt_of_le (Heap.lt_size e) I.ok.above)
  have neC : ∀ b o, X.s₀.heap.get? b = some o → b ∉ X.ex → b ∉ ch := fun b o e hx hb => by
    rcases (hch b hb).1 with z | z
    · exact hx z
    · exact absurd (Nat.lt_of_lt_of_le (Heap.lt_size e) z) (Nat.lt_irrefl _)
  have cellK : ∀ x c, X.env.cells.lookup x = some c → ∀ v, s.heap.IsCell c v → h'.IsCell c v := fun x c e v ⟨o, ho, hd⟩ => by
    have nch : c ∉ ch := fun z => (hch c z).2.2.1 x c e rfl
    by_cases hc : c ∈ X.fs
    · obtain ⟨sl, q⟩ := slot c o (I.cne x c e) hc nch ho (I.freeC x c e)
      exact ⟨_, q, hd⟩
    · exact ⟨o, keep c o (I.cne x c e) hc nch ho (I.freeC x c e), hd⟩
  refine ⟨I.ok, I.os, hg, ⟨fun b o e n hb hx => ?_, fun b o e n hb hx => ?_, fun b o e n hx => ?_, fun b o e hx => ?_, fun b xs e => tups b xs (I.base.tups b xs e), fun b o xs e => frzs b o xs (I.base.frzs b o xs e), fun b ps e => ?_⟩, ?_, fun x c e => ?_, ?_, fun x c e => ?_, fun p hp => ?_, hok, I.len⟩
  · exact keep b o (neL b o e) hb (neC b o e hx) (I.base.keep b o e n hb hx) (I.base.free b o e n hx)
  · obtain ⟨sl, e1⟩ := I.base.slot b o e n hb hx
    obtain ⟨sl', e2⟩ := slot b _ (neL b o e) hb (neC b o e hx) e1 (I.base.free b o e n hx)
    exact ⟨sl', e2⟩
  · obtain ⟨o', e1⟩ := I.base.there b o e hx
    exact free b o' (neC b o e hx) e1 (I.base.free b o e n hx)
  · obtain ⟨o', e1⟩ := I.base.there b o e hx
    exact there b o' (neC b o e hx) e1
  · obtain ⟨m1, e1⟩ := I.base.tbls b ps e
    obtain ⟨m2, e2⟩ := tbls b _ e1
    exact ⟨m1 ++ m2, by rw [e2, Array.append_assoc]⟩
  · obtain ⟨m, hn, hl⟩ := I.loc
    refine ⟨m, ns m hn, fun i x v e1 e2 e3 => ?_⟩
    obtain ⟨u, r, l⟩ := hl i x v e1 e2 e3
    refine ⟨u, r, ?_⟩
    rcases l with l | ⟨k, c, e, z⟩
    · exact .inl l
    · exact .inr ⟨k, c, e, cellK x c e _ z⟩
  · obtain ⟨v, z⟩ := I.cell x c e
    exact ⟨v, cellK x c e v z⟩
  · obtain ⟨m, ⟨o, _, _, ho, _⟩, _⟩ := I.loc
    exact free _ o (fun z => (hch _ z).2.1 rfl) ho I.free
  · obtain ⟨v, o, ho, hd⟩ := I.cell x c e
    exact free c o (fun z => (hch c z).2.2.1 x c e rfl) ho (I.freeC x c e)
  · obtain ⟨e, n, ne, nf, d⟩ := I.pin p hp
    have nch : p.1 ∉ ch := fun z => (hch p.1 z).2.2.2 p hp rfl
    exact ⟨keep p.1 p.2 ne nf nch e n, free p.1 p.2 nch e n, ne, nf, d⟩
theorem Inv.un {t' : Nat} (I : Inv X pins σ H s) (u : Un X.fs [] H H' s.heap h') (hok : HOk X.prog X.w H' h') : Inv X pins σ H' { s with heap := h', toks := t' } := by
  obtain ⟨m, ⟨o, es, ep, ho, r⟩, _⟩ := id I.loc
  obtain ⟨sl, hL⟩ := u.any ho I.free (by simp)
  exact I.step (g' := s.gens) (d' := s.drawn) (ch := []) (fun _ z => nomatch z) (fun b o _ hb _ e n => u.keep b o e n hb (by simp)) (fun b o _ hb _ e n => u.slot b o e n hb (by simp)) (fun b o _ e n => u.free b o e n (by simp)) (fun b o _ e => u.there b o e (by simp)) u.tups u.frzs u.tbls (fun m' hm => by
    obtain ⟨o', es', ep', ho', r'⟩ := hm
    rw [ho] at ho'; cases ho'
    exact ⟨_, es', ep', hL, r'⟩) hok I.bare
theorem Inv.call {g' : Array GenState} {t' : Nat} {d' : Drawn} {ch : List Addr} (I : Inv X pins σ H s) (u : Un (frs X.stack) ch H H' s.heap h') (hok : HOk X.prog X.w H' h') (hg : AllBare g')
    (hch : ∀ b ∈ ch, (b ∈ X.ex ∨ X.s₀.heap.objs.size ≤ b) ∧ b ≠ X.env.locals ∧ (∀ x c, X.env.cells.lookup x = some c → c ≠ b) ∧ ∀ p ∈ X.pn ++ pins, p.1 ≠ b) :
    Inv X pins σ H' { s with heap := h', gens := g', drawn := d', toks := t' } := by
  obtain ⟨m, ⟨o, es, ep, ho, r⟩, _⟩ := id I.loc
  obtain ⟨sl, hL⟩ := u.any ho I.free fun z => (hch _ z).2.1 rfl
  exact I.step (ch := ch) hch (fun b o hL hb hc e n => u.keep b o e n (fun z => (List.mem_cons.mp (I.stkSub b z)).elim hL hb) hc) (fun b o _ _ hc e n => u.any e n hc) (fun b o hc e n => u.free b o e n hc) (fun b o hc e => u.there b o e hc) u.tups u.frzs u.tbls (fun m' hm => by
    obtain ⟨o', es', ep', ho', r'⟩ := hm
    rw [ho] at ho'; cases ho'
    exact ⟨_, es', ep', hL, r'⟩) hok hg
theorem Inv.turned {t' : Nat} {it : Addr} (I : Inv X pins σ H s) (k : ∀ b o, b ≠ it → s.heap.get? b = some o → h'.get? b = some o) (hn : H it = none) (hL : it ≠ X.env.locals)
    (h1 : it ∈ X.ex ∨ X.s₀.heap.objs.size ≤ it) (h2 : ∀ x c, X.env.cells.lookup x = some c → c ≠ it) (h3 : ∀ p ∈ X.pn ++ pins, p.1 ≠ it) : Inv X pins σ H { s with heap := h', toks := t' } := by
  have nit : ∀ b u, H b = some u → b ≠ it := fun b u e z => by rw [z, hn] at e; cases e
  refine I.step (g' := s.gens) (d' := s.drawn) (ch := [it]) (fun b hb => ?_) (fun b o _ _ hc e _ => k b o (fun z => hc (by simp [z])) e) (fun b o _ _ hc e _ => ⟨o.slots, k b o (fun z => hc (by simp [z])) e⟩) (fun _ _ _ _ n => n)
    (fun b o hc e => ⟨o, k b o (fun z => hc (by simp [z])) e⟩) (fun _ _ e => e) (fun _ _ _ e => e) (fun b ps e => ⟨#[], by rw [e]; simp⟩) (fun m hm => ?_) (fun b u e => ?_) I.bare
  · have e : b = it := by simpa using hb
    subst e
    exact ⟨h1, hL, h2, h3⟩
  · obtain ⟨o, es, ep, ho, r⟩ := hm
    exact ⟨o, es, ep, k _ o (Ne.symm hL) ho, r⟩
  · refine (I.hok b u e).stay (fun c v hc q => k c v ?_ q) (fun _ q => q) fun _ _ q => q
    rcases hc with z | z
    · rw [z]; exact nit b u e
    · exact nit c _ z
theorem Inv.tok (I : Inv X pins σ H s) (t : Nat) : Inv X pins σ H { s with toks := t } := I.un (h' := s.heap) (t' := t) Un.refl I.hok
theorem Inv.kept {t' : Nat} (I : Inv X pins σ H s) (k : ∀ b u, s.heap.get? b = some u → h'.get? b = some u) : Inv X pins σ H { s with heap := h', toks := t' } := I.un (Un.kept k) (I.hok.kept k)
theorem Inv.laid {a : Addr} {o : HO} {t' : Nat} (I : Inv X pins σ H s) (k : ∀ b u, s.heap.get? b = some u → h'.get? b = some u) (hp : s.heap.objs.size ≤ a) (new : ObjOk X.prog X.w (upd H a o) h' a o) :
    Inv X pins σ (upd H a o) { s with heap := h', toks := t' } := I.un (Un.laid k hp (I.hok.fresh hp)) (I.hok.laid k hp new)
theorem Inv.write {x e : Addr} {o : HO} {t' : Nat} (I : Inv X pins σ H s) (mu : Mut (H x)) (he : e = x ∨ H e = some (.own x)) (k : ∀ b u, b ≠ e → s.heap.get? b = some u → h'.get? b = some u) (heo : ∃ u, h'.get? e = some u)
    (new : ObjOk X.prog X.w (upd H x o) h' x o) : Inv X pins σ (upd H x o) { s with heap := h', toks := t' } := I.un (Un.write mu he k heo) (I.hok.write mu he k heo new)
theorem Inv.weak {σ' : List (Option V)} (I : Inv X pins σ H s) (hl : σ'.length = σ.length) (w : ∀ (i : Nat) v, σ'[i]? = some (some v) → σ[i]? = some (some v)) : Inv X pins σ' H s :=
  ⟨I.ok, I.os, I.bare, I.base, let ⟨m, hn, hl'⟩ := I.loc; ⟨m, hn, fun i x v e1 e2 e3 => hl' i x v e1 (w i v e2) e3⟩, I.cell, I.free, I.freeC, I.pin, I.hok, hl.trans I.len⟩
theorem Inv.pins_of {pins' : List (Addr × Obj)} (I : Inv X pins σ H s) (h : ∀ p ∈ pins', s.heap.get? p.1 = some p.2 ∧ H p.1 = none ∧ p.1 ≠ X.env.locals ∧ p.1 ∉ X.fs ∧ ∀ v, p.2.data ≠ .cell v) : Inv X pins' σ H s :=
  ⟨I.ok, I.os, I.bare, I.base, I.loc, I.cell, I.free, I.freeC, fun p hp => (List.mem_append.mp hp).elim (fun z => I.pin p (List.mem_append_left _ z)) (h p), I.hok, I.len⟩

theorem nodup_ix {N : List Str} (hN : N.Nodup) {i j : Nat} {x : Str} (a : N[i]? = some x) (b : N[j]? = some x) : i = j := by
  obtain ⟨h1, e1⟩ := List.getElem?_eq_some_iff.mp a
  obtain ⟨h2, e2⟩ := List.getElem?_eq_some_iff.mp b
  exact (List.getElem_inj hN).mp (e1.trans e2.symm)

theorem store_ok2 {M : Model} {A : Around} {E : Value → Shared → Prop} {i : Nat} {x : Str} {v : V} {u : Value} {Q : Unit → Shared → Prop} (I : Inv X pins σ H s) (hN : X.N.Nodup) (hi : X.N[i]? = some x) (hx : Loc X.env.scope x) (r : RelV v u)
    (h : ∀ s', Inv X pins (σ.set i (some v)) H s' → (∃ a, Heap.SameBut a s.heap s'.heap ∧ (a = X.env.locals ∨ X.env.cells.lookup x = some a)) → Q () s') (hf : X.fn x = true ∨ X.env.scope.names.lookup x = some .local := by first | exact .inl rfl | exact .inr rfl | assumption) : wpAny M A (storeName X.env x u) Q E s := by
  obtain ⟨m, hn, hl⟩ := id I.loc
  have hcls : (X.env.scope.kind == .class || (X.env.scope.kind == .module && X.env.locals != X.env.globals)) = false := by rw [I.ok.kind]; rfl
  have hiσ : i < σ.length := by rw [I.len]; exact (List.getElem?_eq_some_iff.mp hi).1
  have cne := I.cne
  have tracked : ∀ {a : Addr} {h' : Heap}, (∃ o, s.heap.get? a = some o ∧ H a = none) → Heap.SameBut a s.heap h' → HOk X.prog X.w H h' := fun {a h'} ha hs b ob e => by
    obtain ⟨_, _, hfree⟩ := ha
    refine (I.hok b ob e).stay (fun c w' hc q => (hs.2 c ?_).trans q) (fun _ q => q) fun _ _ q => q
    rintro rfl
    rcases hc with rfl | hc
    · rw [hfree] at e; cases e
    · rw [hfree] at hc; cases hc
  rcases hx with hk | hk
  · refine wpAny_storeName_local hk hn (fun h' hn' hs => ?_) hcls
    obtain ⟨oL, _, _, hoL, _⟩ := id hn
    refine h _ ⟨I.ok, I.os, I.bare, ⟨fun b o e n hb hx => ?_, fun b o e n hb hx => ?_, I.base.free, fun b o e hx => ?_, I.base.tups, I.base.frzs, I.base.tbls⟩, ⟨_, hn', fun j y v' e1 e2 e3 => ?_⟩, fun y c e => ?_, I.free, I.freeC, fun p hp => ?_, tracked ⟨oL, hoL, I.free⟩ hs, by simpa using I.len⟩ ⟨_, hs, .inl rfl⟩
    · exact (hs.2 b (Nat.ne_of_lt (Nat.lt_of_lt_of_le (Heap.lt_size e) I.ok.above))).trans (I.base.keep b o e n hb hx)
    · obtain ⟨sl, e1⟩ := I.base.slot b o e n hb hx
      exact ⟨sl, (hs.2 b (Nat.ne_of_lt (Nat.lt_of_lt_of_le (Heap.lt_size e) I.ok.above))).trans e1⟩
    · obtain ⟨o', e1⟩ := I.base.there b o e hx
      exact ⟨o', (hs.2 b (Nat.ne_of_lt (Nat.lt_of_lt_of_le (Heap.lt_size e) I.ok.above))).trans e1⟩
    · by_cases hj : j = i
      · subst hj
        rw [hi] at e1; cases e1
        rw [List.getElem?_set_self hiσ] at e2
        cases e2
        exact ⟨u, r, .inl ⟨hk, by simp⟩⟩
      · rw [List.getElem?_set_ne (Ne.symm hj)] at e2
        obtain ⟨u', r', q⟩ := hl j y v' e1 e2 e3
        refine ⟨u', r', ?_⟩
        rcases q with ⟨k, e⟩ | ⟨k, c, e, z⟩
        · refine .inl ⟨k, ?_⟩
          have : y ≠ x := fun e => hj (nodup_ix hN e1 (e ▸ hi))
          simp [this, e]
        · exact .inr ⟨k, c, e, z.sameBut hs (cne y c e)⟩
    · obtain ⟨w', z⟩ := I.cell y c e
      exact ⟨w', z.sameBut hs (cne y c e)⟩
    · obtain ⟨e, n, ne, nf, d⟩ := I.pin p hp
      exact ⟨(hs.2 p.1 ne).trans e, n, ne, nf, d⟩
  · have hfn : X.fn x = true := by
      rcases hf with z | z
      · exact z
      · rw [z] at hk; cases hk
    obtain ⟨c, hc⟩ := I.ok.has x (.inl hk)
    obtain ⟨w', z⟩ := I.cell x c hc
    refine wpAny_storeName_cell I.ok.kind hk hc z (fun h' hc' hs => ?_)
    obtain ⟨oc, hoc, hocd⟩ := id z
    refine h { s with heap := h' } ⟨I.ok, I.os, I.bare, ⟨fun b o e n hb hx => ?_, fun b o e n hb hx => ?_, I.base.free, fun b o e hx => ?_, I.base.tups, I.base.frzs, I.base.tbls⟩, ⟨m, hn.sameBut hs (Ne.symm (cne x c hc)), fun j y v' e1 e2 e3 => ?_⟩, fun y c' e => ?_, I.free, I.freeC, fun p hp => ?_, tracked ⟨oc, hoc, I.freeC x c hc⟩ hs, by simpa using I.len⟩ ⟨c, hs, .inr hc⟩
    · exact (hs.2 b (Nat.ne_of_lt (Nat.lt_of_lt_of_le (Heap.lt_size e) (I.ok.cab x c hfn hc)))).trans (I.base.keep b o e n hb hx)
    · obtain ⟨sl, e1⟩ := I.base.slot b o e n hb hx
      exact ⟨sl, (hs.2 b (Nat.ne_of_lt (Nat.lt_of_lt_of_le (Heap.lt_size e) (I.ok.cab x c hfn hc)))).trans e1⟩
    · obtain ⟨o', e1⟩ := I.base.there b o e hx
      exact ⟨o', (hs.2 b (Nat.ne_of_lt (Nat.lt_of_lt_of_le (Heap.lt_size e) (I.ok.cab x c hfn hc)))).trans e1⟩
    · by_cases hj : j = i
      · subst hj
        rw [hi] at e1; cases e1
        rw [List.getElem?_set_self hiσ] at e2
        cases e2
        exact ⟨u, r, .inr ⟨.inl hk, c, hc, hc'⟩⟩
      · rw [List.getElem?_set_ne (Ne.symm hj)] at e2
        obtain ⟨u', r', q⟩ := hl j y v' e1 e2 e3
        refine ⟨u', r', ?_⟩
        rcases q with q | ⟨k, c', e, z'⟩
        · exact .inl q
        · refine .inr ⟨k, c', e, z'.sameBut hs ?_⟩
          rintro rfl
          exact hj (nodup_ix hN e1 (I.ok.inj _ _ _ e hc ▸ hi))
    · by_cases hcc : c' = c
      · subst hcc; exact ⟨_, hc'⟩
      · obtain ⟨w2, z2⟩ := I.cell y c' e
        exact ⟨w2, z2.sameBut hs hcc⟩
    · obtain ⟨e, n, ne, nf, d⟩ := I.pin p hp
      refine ⟨(hs.2 p.1 ?_).trans e, n, ne, nf, d⟩
      intro q
      rw [q, hoc] at e
      have q' : oc = p.2 := Option.some.inj e
      exact d w' (by rw [← q']; exact hocd)
theorem store_ok {M : Model} {A : Around} {E : Value → Shared → Prop} {i : Nat} {x : Str} {v : V} {u : Value} {Q : Unit → Shared → Prop} (I : Inv X pins σ H s) (hN : X.N.Nodup) (hi : X.N[i]? = some x) (hx : Loc X.env.scope x) (r : RelV v u)
    (h : ∀ s', Inv X pins (σ.set i (some v)) H s' → Q () s') (hf : X.fn x = true ∨ X.env.scope.names.lookup x = some .local := by first | exact .inl rfl | exact .inr rfl | assumption) : wpAny M A (storeName X.env x u) Q E s :=
  store_ok2 I hN hi hx r (fun s' I' _ => h s' I') hf
theorem Inv.call' {s' : Shared} {ch : List Addr} (I : Inv X pins σ H s) (ho : s'.os = s.os) (u : Un (frs X.stack) ch H H' s.heap s'.heap) (hok : HOk X.prog X.w H' s'.heap) (hg : AllBare s'.gens)
    (hch : ∀ b ∈ ch, (b ∈ X.ex ∨ X.s₀.heap.objs.size ≤ b) ∧ b ≠ X.env.locals ∧ (∀ x c, X.env.cells.lookup x = some c → c ≠ b) ∧ ∀ p ∈ X.pn ++ pins, p.1 ≠ b) : Inv X pins σ H' s' := by
  obtain ⟨h', g', d', t', o'⟩ := s'
  have e : o' = s.os := ho
  subst e
  exact I.call (g' := g') (t' := t') (d' := d') u hok hg hch
end

abbrev XK := Value → Option Addr → Hp → Prop
abbrev St := List (Option V)
abbrev VK := V → Hp → Prop
abbrev TE := St → Hp → VK → Prop
abbrev TT := St → Hp → (Bool → Hp → Prop) → Prop
abbrev TA := St → Hp → (List V → Hp → Prop) → Prop
structure Ends where
  nx : St → Hp → Prop
  rt : VK
  bk : St → Hp → Prop := fun _ _ => False
  ct : St → Hp → Prop := fun _ _ => False
abbrev TS := Ends → St → Hp → Prop

def EP (X : Cx) (pins : List (Addr × Obj)) (σ : St) (Q : VK) (u : Value) (s' : Shared) : Prop := ∃ v H', Inv X pins σ H' s' ∧ RelV v u ∧ Q v H'
def TP (X : Cx) (pins : List (Addr × Obj)) (σ : St) (Q : Bool → Hp → Prop) (b : Bool) (s' : Shared) : Prop := ∃ H', Inv X pins σ H' s' ∧ Q b H'
def AP (X : Cx) (pins : List (Addr × Obj)) (σ : St) (Q : List V → Hp → Prop) (us : List Value) (s' : Shared) : Prop := ∃ vs H', Inv X pins σ H' s' ∧ Vals vs us ∧ Q vs H'
def SP (X : Cx) (pins : List (Addr × Obj)) (D : Ends) (f : Flow) (s' : Shared) : Prop :=
  match f with
  | .next => ∃ σ' H', Inv X pins σ' H' s' ∧ D.nx σ' H'
  | .brk => ∃ σ' H', Inv X pins σ' H' s' ∧ D.bk σ' H'
  | .cont => ∃ σ' H', Inv X pins σ' H' s' ∧ D.ct σ' H'
  | .ret u => ∃ v σ' H', Inv X pins σ' H' s' ∧ RelV v u ∧ D.rt v H'

def PE (X : Cx) (e : Expr) (t : TE) : Prop :=
  ∀ (pins : List (Addr × Obj)) (s : Shared) (σ : St) (H : Hp) (Q : VK), Inv X pins σ H s → t σ H Q → wpAny (model X.prog X.w) X.A (eval e X.env) (EP X pins σ Q) X.xe s
def PT (X : Cx) (e : Expr) (t : TT) : Prop :=
  ∀ (pins : List (Addr × Obj)) (s : Shared) (σ : St) (H : Hp) (Q : Bool → Hp → Prop), Inv X pins σ H s → t σ H Q → wpAny (model X.prog X.w) X.A (isTrue e X.env (eval e X.env)) (TP X pins σ Q) X.xe s
def PW (X : Cx) (e : Expr) (t : TT) : Prop :=
  ∀ (whole : Sem Value) (pins : List (Addr × Obj)) (s : Shared) (σ : St) (H : Hp) (Q : Bool → Hp → Prop), Inv X pins σ H s → t σ H Q → wpAny (model X.prog X.w) X.A (isTrue e X.env whole) (TP X pins σ Q) X.xe s
theorem PW.pt {X : Cx} {e : Expr} {t : TT} (h : PW X e t) : PT X e t := h _
def PA (X : Cx) (es : List Expr) (t : TA) : Prop :=
  ∀ (pos : Pos) (pins : List (Addr × Obj)) (s : Shared) (σ : St) (H : Hp) (Q : List V → Hp → Prop), Inv X pins σ H s → t σ H Q → wpAny (model X.prog X.w) X.A (spliced (backTo pos (starEach es X.env))) (AP X pins σ Q) X.xe s
def PS (X : Cx) (st : Stmt) (t : TS) : Prop :=
  ∀ (pins : List (Addr × Obj)) (s : Shared) (σ : St) (H : Hp) (D : Ends), Inv X pins σ H s → t D σ H → wpAny (model X.prog X.w) X.A (exec st X.env) (SP X pins D) X.xe s
def PSs (X : Cx) (st : List Stmt) (t : TS) : Prop :=
  ∀ (pins : List (Addr × Obj)) (s : Shared) (σ : St) (H : Hp) (D : Ends), Inv X pins σ H s → t D σ H → wpAny (model X.prog X.w) X.A (execs st X.env) (SP X pins D) X.xe s
theorem thn {α : Type} {t : Sem α} {Q Q' : α → Shared → Prop} {M : Model} {A : Around} {E : Value → Shared → Prop} {s : Shared} (h : wpAny M A t Q E s) (hQ : ∀ a s, Q a s → Q' a s) : wpAny M A t Q' E s := wpAny_mono h hQ fun _ _ x => x
end L2

namespace L2
open PySem PySem.Spec PyProof.Rows
section
variable {X : Cx}

def tVar (i : Nat) : TE := fun σ H Q => ∃ v, σ[i]? = some (some v) ∧ Q v H
def tC (v : V) : TE := fun _ H Q => Q v H
theorem pe_var {i : Nat} {x : Str} {pos : Pos} (hN : X.N[i]? = some x) (hv : Vis X.env.scope x) (hd : (x == ("__debug__" : Str)) = false := by decide) (hcd : (x == ("__classdict__" : Str)) = false := by decide) : PE X (.Name x pos) (tVar i) := by
  intro pins s σ H Q I h
  obtain ⟨v, e, h⟩ := h
  obtain ⟨m, hn, hl⟩ := I.loc
  obtain ⟨u, r, l⟩ := hl i x v hN e hv
  have fin : EP X pins σ Q u s := ⟨v, H, I, r, h⟩
  rcases l with ⟨hk, hm⟩ | ⟨hk, c, hc, hcell⟩
  · exact wpAny_Name (wpAny_loadName_local I.ok.kind hk hn hm fin) hd
  · rcases hk with hk | hk
    · exact wpAny_Name (wpAny_loadName_cell I.ok.kind hk hc hcell fin) hd
    · exact wpAny_Name (wpAny_loadName_free I.ok.kind hk hc hcell fin hcd) hd
theorem pe_int {i j pos} : PE X (.Constant (.int i) j pos) (tC (.int i)) := fun _ _ _ H _ I h => wpAny_Constant_int ⟨.int i, H, I.tok _, ⟨_, rfl⟩, h⟩
theorem pe_bl {b j pos} : PE X (.Constant (.bool b) j pos) (tC (.bl b)) := fun _ _ _ H _ I h => Constant_bool ⟨.bl b, H, I, rfl, h⟩
def Gl (X : Cx) (x : Str) : Prop := X.env.kindOf x = some .globalImplicit
theorem ld_glob {E : Value → Shared → Prop} {pins : List (Addr × Obj)} {s : Shared} {σ : St} {H : Hp} {x : Str} {u : Value} {pos : Pos} {Q : Value → Shared → Prop} (I : Inv X pins σ H s) (hg : Gl X x) (hm : X.mg x = some u) (h : Q u s)
    (hd : (x == ("__debug__" : Str)) = false := by decide) : wpAny (model X.prog X.w) X.A (eval (.Name x pos) X.env) Q E s :=
  Calls.Name_function_global I.ok.kind hg (Calls.loadGlobal_global (by rw [I.ok.glob]; exact I.mod.glob.keeps I.bk) hm h) hd
theorem ld_blt {E : Value → Shared → Prop} {pins : List (Addr × Obj)} {s : Shared} {σ : St} {H : Hp} {x : Str} {u : Value} {pos : Pos} {Q : Value → Shared → Prop} (I : Inv X pins σ H s) (hg : Gl X x) (hm : X.mg x = none) (hv : bootBuiltins x = some u) (h : Q u s)
    (hn : x ≠ "__name__" := by decide) (hd : (x == ("__debug__" : Str)) = false := by decide) : wpAny (model X.prog X.w) X.A (eval (.Name x pos) X.env) Q E s := by
  obtain ⟨mb, h1, h2⟩ := I.mod.blt
  exact Calls.Name_function_global I.ok.kind hg (Calls.loadGlobal_builtin (by rw [I.ok.glob]; exact I.mod.glob.keeps I.bk) hm (by rw [I.ok.blt]; exact h1.keeps I.bk) ((h2 x hn).trans hv) h) hd
theorem pe_glob {x : Str} {v : V} {u : Value} {pos : Pos} (hg : Gl X x) (hm : X.mg x = some u) (r : RelV v u) (hd : (x == ("__debug__" : Str)) = false := by decide) : PE X (.Name x pos) (tC v) :=
  fun _ _ _ H _ I h => ld_glob I hg hm ⟨v, H, I, r, h⟩ hd
theorem pe_bltn {x : Str} {v : V} {u : Value} {pos : Pos} (hg : Gl X x) (hm : X.mg x = none) (hv : bootBuiltins x = some u) (r : RelV v u) (hn : x ≠ "__name__" := by decide) (hd : (x == ("__debug__" : Str)) = false := by decide) : PE X (.Name x pos) (tC v) :=
  fun _ _ _ H _ I h => ld_blt I hg hm hv ⟨v, H, I, r, h⟩ hn hd

variable {a b : Expr} {ta tb : TE} {pos : Pos}
def PC (X : Cx) (op : CmpOp) (a b : Expr) (t : TE) : Prop :=
  ∀ (pins : List (Addr × Obj)) (s : Shared) (σ : St) (H : Hp) (Q : VK), Inv X pins σ H s → t σ H Q →
    wpAny (model X.prog X.w) X.A (eval a X.env) (fun v s₁ => wpAny (model X.prog X.w) X.A (eval b X.env) (fun u s₂ => wpAny (model X.prog X.w) X.A (compareOp op v u) (EP X pins σ Q) X.xe s₂) X.xe s₁) X.xe s
theorem nobehind (b : Expr) {op : CmpOp} (h : op ≠ .In) (h2 : op ≠ .NotIn) : behindInMarks op b = false := by
  have e1 : (op == CmpOp.In) = false := by cases op <;> first | rfl | exact absurd rfl h
  have e2 : (op == CmpOp.NotIn) = false := by cases op <;> first | rfl | exact absurd rfl h2
  cases b <;> simp [behindInMarks, e1, e2]
def tB (t : TE) : TT := fun σ H Q => t σ H fun x H1 => ∃ c, x = .bl c ∧ Q c H1
theorem pe_cmp {op : CmpOp} {t : TE} (h : PC X op a b t) (h1 : behindInMarks op b = false := by first | exact nobehind _ (by decide) (by decide) | rfl) : PE X (.Compare a [op] [b] pos) t := fun pins s σ H Q I hw => wpAny_Compare1 (h pins s σ H Q I hw) h1
theorem pt_cmp {op : CmpOp} {t : TE} (h : PC X op a b t) (h1 : behindInMarks op b = false := by first | exact nobehind _ (by decide) (by decide) | rfl) : PT X (.Compare a [op] [b] pos) (tB t) := by
  intro pins s σ H Q I hw
  refine wpAny_isTrue_Compare1 (thn (h pins s σ H _ I hw) fun v s1 h1 => thn h1 fun u s2 h2 => thn h2 fun c s3 ⟨x, H1, I1, r1, q1⟩ => ?_) h1
  obtain ⟨d, rfl, q⟩ := q1
  cases r1
  exact wpAny_truthy_bool ⟨H1, I1, q⟩
theorem pt_val {e : Expr} {t : TE} (h : PE X e t) (he : ∀ whole, isTrue e X.env whole = (do let v ← whole; standAt e.pos; holding [v] (truthy v)) := by intro _; rfl) : PT X e (tB t) := by
  intro pins s σ H Q I hw
  refine isTrue_plain (thn (h pins s σ H _ I hw) fun v s1 ⟨x, H1, I1, r1, q1⟩ => ?_) (he _)
  obtain ⟨d, rfl, q⟩ := q1
  cases r1
  exact wpAny_truthy_bool ⟨H1, I1, q⟩

variable {tA tB' : TT} {rest : List Expr}
def tAnd (t u : TT) : TT := fun σ H Q => t σ H fun c H1 => if c = true then u σ H1 Q else Q false H1
def tOr (t u : TT) : TT := fun σ H Q => t σ H fun c H1 => if c = true then Q true H1 else u σ H1 Q
def tNot (t : TT) : TT := fun σ H Q => t σ H fun c H1 => Q (!c) H1
theorem pw_and1 (ha : PT X a tA) : PW X (.BoolOp .And [a] pos) tA := by
  intro wh pins s σ H Q I h
  refine isTrue_and (thn (ha pins s σ H Q I h) fun c s1 e => ?_)
  cases c with
  | true => exact isTrue_and_nil e
  | false => exact e
theorem pw_or1 (ha : PT X a tA) : PW X (.BoolOp .Or [a] pos) tA := by
  intro wh pins s σ H Q I h
  refine isTrue_or (thn (ha pins s σ H Q I h) fun c s1 e => ?_)
  cases c with
  | false => exact isTrue_or_nil e
  | true => exact e
theorem pw_and (ha : PT X a tA) (hb : PW X (.BoolOp .And (b :: rest) pos) tB') : PW X (.BoolOp .And (a :: b :: rest) pos) (tAnd tA tB') := by
  intro wh pins s σ H Q I h
  refine isTrue_and (thn (ha pins s σ H _ I h) fun c s1 ⟨H1, I1, q1⟩ => ?_)
  cases c with
  | true => exact hb wh pins s1 σ H1 Q I1 q1
  | false => exact ⟨H1, I1, q1⟩
theorem pw_or (ha : PT X a tA) (hb : PW X (.BoolOp .Or (b :: rest) pos) tB') : PW X (.BoolOp .Or (a :: b :: rest) pos) (tOr tA tB') := by
  intro wh pins s σ H Q I h
  refine isTrue_or (thn (ha pins s σ H _ I h) fun c s1 ⟨H1, I1, q1⟩ => ?_)
  cases c with
  | true => exact ⟨H1, I1, q1⟩
  | false => exact hb wh pins s1 σ H1 Q I1 q1
theorem pt_not (ha : PT X a tA) : PT X (.UnaryOp .Not a pos) (tNot tA) := by
  intro pins s σ H Q I h
  exact isTrue_not (ha pins s σ H (fun c H1 => Q (!c) H1) I h)
def tAndV (ta tb : TE) : TE := fun σ H Q => ta σ H fun x H1 => ∃ c, x = .bl c ∧ if c = true then tb σ H1 Q else Q (.bl false) H1
def tOrV (ta tb : TE) : TE := fun σ H Q => ta σ H fun x H1 => ∃ c, x = .bl c ∧ if c = true then Q (.bl true) H1 else tb σ H1 Q
def tNotV (ta : TE) : TE := fun σ H Q => ta σ H fun x H1 => ∃ c, x = .bl c ∧ Q (.bl (!c)) H1
theorem pe_one {op} {t : TE} (h : PE X a t) : PE X (.BoolOp op [a] pos) t := fun pins s σ H Q I hw => BoolOp_one (h pins s σ H Q I hw)
theorem pe_and (ha : PE X a ta) (hb : PE X (.BoolOp .And (b :: rest) pos) tb) : PE X (.BoolOp .And (a :: b :: rest) pos) (tAndV ta tb) := by
  intro pins s σ H Q I h
  refine BoolOp_and (thn (ha pins s σ H _ I h) fun v s1 ⟨x, H1, I1, r1, q1⟩ => ?_)
  obtain ⟨c, rfl, q1⟩ := q1
  cases r1
  refine wpAny_truthy_bool ?_
  cases c with
  | true => exact hb pins s1 σ H1 Q I1 q1
  | false => exact ⟨.bl false, H1, I1, rfl, q1⟩
theorem pe_not (ha : PE X a ta) : PE X (.UnaryOp .Not a pos) (tNotV ta) := by
  intro pins s σ H Q I h
  refine UnaryOp_ (thn (ha pins s σ H _ I h) fun v s1 ⟨x, H1, I1, r1, q1⟩ => ?_)
  obtain ⟨c, rfl, q1⟩ := q1
  cases r1
  exact not_of (wpAny_truthy_bool ⟨.bl (!c), H1, I1, rfl, q1⟩)
end
end L2

namespace L2
open PySem PySem.Spec PyProof.Rows

def SqL (K : PySem.W.Frag) (H : Hp) (a : Addr) (xs : List V) : Prop :=
  Rd H a (.lst xs) ∨
    ∃ (o : Obj) (its : Array Value) (n : Nat), K.lookup a = some o ∧ o.cls = .type "list" ∧ o.dict = none ∧ o.data = .seq its n ∧ its.size ≤ sizeLine ∧ Vals xs its.toList
def SqT (K : PySem.W.Frag) (H : Hp) (a : Addr) (xs : List V) : Prop :=
  Rd H a (.tup xs) ∨
    ∃ (o : Obj) (its : Array Value) (n : Nat), K.lookup a = some o ∧ o.cls = .type "tuple" ∧ o.data = .seq its n ∧ its.size ≤ sizeLine ∧ Vals xs its.toList
def absV : Value → Option V
  | .none => some .non
  | .bool b => some (.bl b)
  | .int i _ => some (.int i)
  | .str x _ => some (.str x)
  | .bytes b _ => some (.byt b)
  | .float b _ => some (.flt b)
  | .ref a => some (.ref a)
  | .type n => some (.ty n)
  | _ => none
theorem RelV.abs {x : V} {u : Value} (r : RelV x u) : absV u = some x := by
  cases x with
  | non => cases r; rfl
  | bl _ => cases r; rfl
  | int _ => obtain ⟨t, rfl⟩ := r; rfl
  | str _ => obtain ⟨t, rfl⟩ := r; rfl
  | byt _ => obtain ⟨t, rfl⟩ := r; rfl
  | flt _ => obtain ⟨t, rfl⟩ := r; rfl
  | ref _ => cases r; rfl
  | ty _ => cases r; rfl
theorem RelV.inj {x y : V} {u : Value} (r : RelV x u) (q : RelV y u) : x = y := Option.some.inj (r.abs.symm.trans q.abs)
theorem Vals.inj : ∀ {xs ys : List V} {us : List Value}, Vals xs us → Vals ys us → xs = ys
  | _, _, _, .nil, .nil => rfl
  | _, _, _, .cons r t, .cons r' t' => by rw [r.inj r', Vals.inj t t']
section
variable {X : Cx} {pins : List (Addr × Obj)} {σ : St} {H : Hp} {s : Shared} {a : Addr} {xs ys : List V}
theorem SqL.of {K : PySem.W.Frag} (h : H a = some (.lst xs)) : SqL K H a xs := .inl (.inl h)
theorem SqT.of {K : PySem.W.Frag} (h : H a = some (.tup xs)) : SqT K H a xs := .inl (.inl h)
theorem Inv.list (I : Inv X pins σ H s) (h : SqL X.K H a xs) : ∃ its : List Value, Vals xs its ∧ PlainL s.heap a its.toArray ∧ xs.length ≤ sizeLine := by
  rcases h with h | ⟨o, its, n, hk, hc, hd, hs, hz, r⟩
  · obtain ⟨z, its, n, r, e⟩ := h.ok I.hok
    exact ⟨its, r, ⟨_, n, e, rfl, rfl, rfl⟩, z⟩
  · refine ⟨its.toList, r, ⟨o, n, I.kIn a o hk, hc, hd, by simpa using hs⟩, ?_⟩
    have e := r.length
    simp only [Array.length_toList] at e
    omega
theorem Inv.tuple (I : Inv X pins σ H s) (h : SqT X.K H a xs) : ∃ its : List Value, Vals xs its ∧ IsTup s.heap a its.toArray ∧ xs.length ≤ sizeLine := by
  rcases h with h | ⟨o, its, n, hk, hc, hs, hz, r⟩
  · obtain ⟨z, its, r, p⟩ := h.ok I.hok
    exact ⟨its, r, p, z⟩
  · refine ⟨its.toList, r, ⟨o, I.kIn a o hk, hc, n, by simpa using hs⟩, ?_⟩
    have e := r.length
    simp only [Array.length_toList] at e
    omega
theorem Inv.list_inj (I : Inv X pins σ H s) (h : SqL X.K H a xs) (h' : SqL X.K H a ys) : xs = ys := by
  obtain ⟨its, r, ⟨o, n, e, _, _, d⟩, _⟩ := I.list h
  obtain ⟨its', r', ⟨o', n', e', _, _, d'⟩, _⟩ := I.list h'
  rw [e] at e'; cases e'
  rw [d] at d'
  injection d' with d1 _
  have : its = its' := by simpa using congrArg Array.toList d1
  subst this
  exact r.inj r'
end

abbrev Cx.wish (X : Cx) (E : Value → Shared → Prop) : Cx := { X with xe := E }
abbrev Cx.nox (X : Cx) : Cx := X.wish fun _ _ => False
theorem Cx.Ok.wish {X : Cx} (ok : X.Ok) (E : Value → Shared → Prop) : (X.wish E).Ok :=
  ⟨ok.mod, ok.kind, ok.glob, ok.blt, ok.above, ok.inj, ok.has, ok.cab, ok.hd, ok.frames, ok.stk, ok.exf, ok.bs, ok.bsz, ok.noex, ok.exfs, ok.funs, ok.frf⟩
theorem Cx.Ok.unwish {X : Cx} {E : Value → Shared → Prop} (ok : (X.wish E).Ok) : X.Ok :=
  ⟨ok.mod, ok.kind, ok.glob, ok.blt, ok.above, ok.inj, ok.has, ok.cab, ok.hd, ok.frames, ok.stk, ok.exf, ok.bs, ok.bsz, ok.noex, ok.exfs, ok.funs, ok.frf⟩
section
variable {X : Cx} {pins : List (Addr × Obj)} {σ : St} {H : Hp} {s : Shared} {E : Value → Shared → Prop}
theorem Inv.wish (I : Inv X pins σ H s) (E : Value → Shared → Prop) : Inv (X.wish E) pins σ H s := ⟨I.ok.wish E, I.os, I.bare, I.base, I.loc, I.cell, I.free, I.freeC, I.pin, I.hok, I.len⟩
theorem Inv.unwish (I : Inv (X.wish E) pins σ H s) : Inv X pins σ H s := ⟨I.ok.unwish, I.os, I.bare, I.base, I.loc, I.cell, I.free, I.freeC, I.pin, I.hok, I.len⟩
theorem SP.unwish {D : Ends} {f : Flow} {s' : Shared} (h : SP (X.wish E) pins D f s') : SP X pins D f s' := by
  cases f with
  | next => obtain ⟨σ', H', I, q⟩ := h; exact ⟨σ', H', I.unwish, q⟩
  | brk => obtain ⟨σ', H', I, q⟩ := h; exact ⟨σ', H', I.unwish, q⟩
  | cont => obtain ⟨σ', H', I, q⟩ := h; exact ⟨σ', H', I.unwish, q⟩
  | ret u => obtain ⟨v, σ', H', I, r, q⟩ := h; exact ⟨v, σ', H', I.unwish, r, q⟩
theorem PE.nox {e : Expr} {t : TE} (h : PE X.nox e t) : PE X e t := fun pins s σ H Q I hw =>
  wpAny_mono (h pins s σ H Q (I.wish _) hw) (fun _ _ ⟨v, H', I', r, q⟩ => ⟨v, H', I'.unwish, r, q⟩) fun _ _ z => False.elim z
theorem PT.nox {e : Expr} {t : TT} (h : PT X.nox e t) : PT X e t := fun pins s σ H Q I hw =>
  wpAny_mono (h pins s σ H Q (I.wish _) hw) (fun _ _ ⟨H', I', q⟩ => ⟨H', I'.unwish, q⟩) fun _ _ z => False.elim z
theorem PSs.nox {st : List Stmt} {t : TS} (h : PSs X.nox st t) : PSs X st t := fun pins s σ H D I hw =>
  wpAny_mono (h pins s σ H D (I.wish _) hw) (fun _ _ q => q.unwish) fun _ _ z => False.elim z
end

section
variable {X : Cx} {st : Stmt} {rest : List Stmt} {t u : TS} {e : Expr} {te : TE} {pos : Pos}
def tNext : TS := fun D σ H => D.nx σ H
def tSeq (t u : TS) : TS := fun D σ H => t { D with nx := u D } σ H
theorem pss_nil : PSs X [] tNext := fun _ _ σ H _ I h => wpAny_execs_nil ⟨σ, H, I, h⟩
theorem pss_cons (h1 : PS X st t) (h2 : PSs X rest u) : PSs X (st :: rest) (tSeq t u) := by
  intro pins s σ H D I h
  refine wpAny_execs_cons (thn (h1 pins s σ H { D with nx := u D } I h) fun f s1 q => ?_)
  cases f with
  | next =>
    obtain ⟨σ', H', I', q⟩ := q
    exact h2 pins s1 σ' H' D I' q
  | ret v => exact q
  | brk => exact q
  | cont => exact q
theorem pss_one (h1 : PS X st t) : PSs X [st] t := by
  intro pins s σ H D I h
  refine wpAny_execs_cons (thn (h1 pins s σ H D I h) fun f s1 q => ?_)
  cases f with
  | next => exact wpAny_execs_nil q
  | ret v => exact q
  | brk => exact q
  | cont => exact q
def tBreak : TS := fun D σ H => D.bk σ H
def tCont : TS := fun D σ H => D.ct σ H
theorem Inv.quiet {pins : List (Addr × Obj)} {σ : St} {H : Hp} {s : Shared} (I : Inv X pins σ H s) : interactive X.env = false := by simp [interactive, I.ok.kind]
def tDrop (te : TE) : TS := fun D σ H => te σ H fun _ H1 => D.nx σ H1
theorem ps_expr (he : PE X e te) (hs : swapsWith e none pos.line X.env = pure false := by rfl) : PS X (.Expr e pos) (tDrop te) := by
  intro pins s σ H D I h
  exact wpAny_Expr_any (thn (he pins s σ H _ I h) fun v s1 ⟨x, H1, I1, r1, q1⟩ => ⟨σ, H1, I1, q1⟩) I.quiet hs
def tRet (te : TE) : TS := fun D σ H => te σ H D.rt
theorem ps_ret (he : PE X e te) : PS X (.Return (some e) pos) (tRet te) := by
  intro pins s σ H D I h
  exact wpAny_Return_some (thn (he pins s σ H _ I h) fun v s1 ⟨x, H1, I1, r1, q1⟩ => ⟨x, σ, H1, I1, r1, q1⟩)
def tIfS (c : TT) (t u : TS) : TS := fun D σ H => c σ H fun b H1 => if b = true then t D σ H1 else u D σ H1
theorem ps_if {c : Expr} {a b : List Stmt} {tc : TT} (hc : PT X c tc) (ha : PSs X a t) (hb : PSs X b u) : PS X (.If c a b pos) (tIfS tc t u) := by
  intro pins s σ H D I h
  refine wpAny_If (thn (hc pins s σ H _ I h) fun d s1 ⟨H1, I1, q1⟩ => ?_)
  cases d with
  | true => exact ha pins s1 σ H1 D I1 q1
  | false => exact hb pins s1 σ H1 D I1 q1
def tNever : TS := fun _ _ _ => False
theorem ps_never : PS X st tNever := fun _ _ _ _ _ _ h => h.elim
end

abbrev TG := V → St → Hp → (St → Hp → Prop) → Prop
abbrev TGs := List V → St → Hp → (St → Hp → Prop) → Prop
def PG (X : Cx) (target : Expr) (t : TG) : Prop :=
  ∀ (pins : List (Addr × Obj)) (s : Shared) (σ : St) (H : Hp) (v : V) (u : Value) (Q : St → Hp → Prop), Inv X pins σ H s → RelV v u → t v σ H Q →
    wpAny (model X.prog X.w) X.A (assign target X.env u) (fun _ s' => ∃ σ' H', Inv X pins σ' H' s' ∧ Q σ' H') X.xe s
def PGs (X : Cx) (ts : List Expr) (t : TGs) : Prop :=
  ∀ (pins : List (Addr × Obj)) (s : Shared) (σ : St) (H : Hp) (vs : List V) (us : List Value) (Q : St → Hp → Prop), Inv X pins σ H s → Vals vs us → t vs σ H Q →
    wpAny (model X.prog X.w) X.A (assignInOrder ((assignEach ts X.env).map (·.2)) us) (fun _ s' => ∃ σ' H', Inv X pins σ' H' s' ∧ Q σ' H') X.xe s
abbrev TSet := V → V → V → Hp → (Hp → Prop) → Prop
def PSet (X : Cx) (t : TSet) : Prop :=
  ∀ (pins : List (Addr × Obj)) (s : Shared) (σ : St) (H : Hp) (o i v : V) (ov iv u : Value) (Q : Hp → Prop), Inv X pins σ H s → RelV o ov → RelV i iv → RelV v u → t o i v H Q →
    wpAny (model X.prog X.w) X.A (setItem ov iv u) (fun _ s' => ∃ H', Inv X pins σ H' s' ∧ Q H') X.xe s
abbrev TIp := V → V → Hp → VK → Prop
def PIp (X : Cx) (op : Operator) (t : TIp) : Prop :=
  ∀ (pins : List (Addr × Obj)) (s : Shared) (σ : St) (H : Hp) (x y : V) (v u : Value) (Q : VK), Inv X pins σ H s → RelV x v → RelV y u → t x y H Q →
    wpAny (model X.prog X.w) X.A (inplaceOp op v u) (EP X pins σ Q) X.xe s
section
variable {X : Cx} {pos : Pos}
def gName (i : Nat) : TG := fun v σ H Q => Q (σ.set i (some v)) H
theorem pg_name {i : Nat} {x : Str} (hN : X.N.Nodup) (hi : X.N[i]? = some x) (hx : Loc X.env.scope x) (hf : X.fn x = true ∨ X.env.scope.names.lookup x = some .local := by first | exact .inl rfl | exact .inr rfl | assumption) : PG X (.Name x pos) (gName i) := by
  intro pins s σ H v u Q I r h
  exact wpAny_assign_Name (store_ok I hN hi hx r (fun s' I' => ⟨_, H, I', h⟩) hf)
def gNil : TGs := fun vs σ H Q => vs = [] ∧ Q σ H
def gCons (t : TG) (u : TGs) : TGs := fun vs σ H Q => ∃ v r, vs = v :: r ∧ t v σ H fun σ' H' => u r σ' H' Q
theorem pgs_nil : PGs X [] gNil := by
  intro pins s σ H vs us Q I r h
  obtain ⟨e, h⟩ := h
  subst e
  cases r
  exact assignInOrder_nil ⟨σ, H, I, h⟩
theorem pgs_cons {e : Expr} {es : List Expr} {t : TG} {u : TGs} (h1 : PG X e t) (h2 : PGs X es u)
    (hs : (assignEach (e :: es) X.env).map (·.2) = assign e X.env :: (assignEach es X.env).map (·.2) := by rfl) : PGs X (e :: es) (gCons t u) := by
  intro pins s σ H vs us Q I r h
  obtain ⟨v, vr, e1, h⟩ := h
  subst e1
  cases r with
  | cons r rr =>
    rw [hs]
    refine assignInOrder_cons (thn (h1 pins s σ H _ _ _ I r h) fun _ s1 ⟨σ1, H1, I1, q1⟩ => ?_)
    exact h2 pins s1 σ1 H1 _ _ Q I1 rr q1
def gTup (K : PySem.W.Frag) (n : Nat) (t : TGs) : TG := fun v σ H Q => ∃ a xs, v = .ref a ∧ SqT K H a xs ∧ xs.length = n ∧ t xs σ H Q
theorem pg_tup {es : List Expr} {k : Nat} {t : TGs} {n : Nat} (hc : X.calm = true) (h : PGs X es t)
    (hn : (assignEach es X.env).length = n := by rfl) (hst : (assignEach es X.env).findIdx? (·.1) = none := by rfl) : PG X (.Tuple es k pos) (gTup X.K n t) := by
  intro pins s σ H v u Q I r hw
  obtain ⟨a, xs, e1, hq, hl, hw⟩ := hw
  subst e1
  cases r
  obtain ⟨its, rv, ht, hz⟩ := I.tuple hq
  refine assign_Tuple_tuple (I.ok.hd hc) ht (by simp [hn, ← hl, rv.length]) hst fun h' hx => ?_
  have I1 : Inv X pins σ H { s with heap := h' } := I.kept (t' := s.toks) fun b o e => hx b o (Nat.ne_of_lt (Heap.lt_size e)) e
  exact h pins _ σ H xs _ Q I1 (by simpa using rv) hw
def gSub (to ti : TE) (t : TSet) : TG := fun v σ H Q => to σ H fun o H1 => ti σ H1 fun i H2 => t o i v H2 fun H3 => Q σ H3
def tAsg (te : TE) (g : TG) : TS := fun D σ H => te σ H fun x H1 => g x σ H1 D.nx
theorem ps_set {i : Nat} {x : Str} {e : Expr} {te : TE} {pos' : Pos} (hN : X.N.Nodup) (hi : X.N[i]? = some x) (hx : Loc X.env.scope x) (he : PE X e te) (hs : swapsWith e (some (.Name x pos')) pos.line X.env = pure false := by rfl) (hf : X.fn x = true ∨ X.env.scope.names.lookup x = some .local := by first | exact .inl rfl | exact .inr rfl | assumption) :
    PS X (.Assign [.Name x pos'] e pos) (tAsg te (gName i)) := by
  intro pins s σ H D I h
  refine wpAny_Assign_Name (thn (he pins s σ H _ I h) fun v s1 ⟨y, H1, I1, r1, q1⟩ => ?_) hs
  exact store_ok I1 hN hi hx r1 (fun s2 I2 => ⟨_, H1, I2, q1⟩) hf
def tPar (i j : Nat) (ta : TA) : TS := fun D σ H => ta σ H fun vs H1 => ∃ v w, vs = [v, w] ∧ D.nx ((σ.set i (some v)).set j (some w)) H1
theorem ps_par {i j : Nat} {x y : Str} {a b : Expr} {ta : TA} {px py pt : Pos} {kt k2 pt2} (hc : X.calm = true) (hN : X.N.Nodup) (hi : X.N[i]? = some x) (hj : X.N[j]? = some y) (hij : i ≠ j)
    (hx : X.env.scope.names.lookup x = some .local) (hy : X.env.scope.names.lookup y = some .local) (ha : PA X [a, b] ta)
    (hw : swappedStores [.Tuple [.Name x px, .Name y py] kt pt] (.Tuple [a, b] k2 pt2) X.env = pure (some [x, y]))
    (hs : swapsWithSole [.Tuple [.Name x px, .Name y py] kt pt] (.Tuple [a, b] k2 pt2) pos.line X.env = pure false := by rfl) :
    PS X (.Assign [.Tuple [.Name x px, .Name y py] kt pt] (.Tuple [a, b] k2 pt2) pos) (tPar i j ta) := by
  intro pins s σ H D I h
  rw [exec_Assign_arm]
  refine wpAny_bind (wpAny_standAt ?_)
  rw [hs]
  refine wpAny_bind (wpAny_pure ?_)
  rw [if_neg (by decide)]
  refine wpAny_bind (Tuple_ (thn (ha _ pins s σ H _ I h) fun us s1 ⟨vs, H1, I1, r1, q1⟩ => ?_))
  obtain ⟨v, w, e1, q1⟩ := q1
  subst e1
  obtain ⟨u1, u2, rfl, rv, rw'⟩ : ∃ u1 u2, us = [u1, u2] ∧ RelV v u1 ∧ RelV w u2 := by
    cases r1 with
    | cons p q =>
      cases q with
      | cons p' q' =>
        cases q'
        exact ⟨_, _, rfl, p, p'⟩
  refine wpAny_newObj_type ?_ (by show 2 ≤ sizeLine; decide)
  have I2 : Inv X pins σ H1 { s1 with heap := s1.heap.push { cls := .type "tuple", data := .seq [u1, u2].toArray } } := I1.kept (t' := s1.toks) fun b o e => Heap.get?_push_of_some _ e
  rw [hw]
  refine wpAny_bind (wpAny_pure ?_)
  show wpAny (model X.prog X.w) X.A (do rule "assign.swapped-stores"; let items ← unpackItems (.ref s1.heap.objs.size) 2 none; assignInOrder [fun v => bindName X.env y v, fun v => bindName X.env x v] items.reverse; pure Flow.next) _ _ _
  refine wpAny_bind (wpAny_rule (wpAny_bind (unpackItems_tuple (items := #[u1, u2]) (I.ok.hd hc) (IsTup.new s1.heap _) fun h' hx' => ?_)))
  have I3 := I2.kept (h' := h') (t' := s1.toks) fun b o e => hx' b o (Nat.ne_of_lt (Heap.lt_size e)) e
  show wpAny _ _ (assignInOrder [fun v => bindName X.env y v, fun v => bindName X.env x v] [u2, u1] >>= fun _ => pure Flow.next) _ _ _
  refine wpAny_bind (assignInOrder_cons (wpAny_bindName (store_ok I3 hN hj (.inl hy) rw' (fun s2 I4 => ?_) (.inr hy))))
  refine assignInOrder_cons (wpAny_bindName (store_ok I4 hN hi (.inl hx) rv (fun s3 I5 => assignInOrder_nil (wpAny_pure ?_)) (.inr hx)))
  rw [List.set_comm _ _ (Ne.symm hij)] at I5
  exact ⟨_, H1, I5, q1⟩
def tAug (i : Nat) (te : TE) (ti : TIp) : TS := fun D σ H => ∃ x, σ[i]? = some (some x) ∧ te σ H fun y H1 => ti x y H1 fun z H2 => D.nx (σ.set i (some z)) H2
theorem ps_aug {i : Nat} {x : Str} {e : Expr} {te : TE} {op : Operator} {ti : TIp} {pos' : Pos} (hN : X.N.Nodup) (hi : X.N[i]? = some x) (hx : Loc X.env.scope x) (he : PE X e te) (ho : PIp X op ti) (hf : X.fn x = true ∨ X.env.scope.names.lookup x = some .local := by first | exact .inl rfl | exact .inr rfl | assumption) :
    PS X (.AugAssign (.Name x pos') op e pos) (tAug i te ti) := by
  intro pins s σ H D I h
  obtain ⟨v, e1, h⟩ := h
  obtain ⟨m, hn, hl⟩ := I.loc
  have vis : Vis X.env.scope x := by rcases hx with k | k; exact .inl k; exact .inr (.inl k)
  obtain ⟨u, r, l⟩ := hl i x v hi e1 vis
  refine wpAny_AugAssign_Name ?_
  have go : wpAny (model X.prog X.w) X.A (eval e X.env) (fun w s₂ => wpAny (model X.prog X.w) X.A (inplaceOp op u w) (fun r s₃ => wpAny (model X.prog X.w) X.A (storeName X.env x r) (fun _ => SP X pins D .next) X.xe s₃) X.xe s₂) X.xe s := by
    refine thn (he pins s σ H _ I h) fun w s1 ⟨y, H1, I1, r1, q1⟩ => ?_
    refine thn (ho pins s1 σ H1 v y u w _ I1 r r1 q1) fun z s2 ⟨zv, H2, I2, r2, q2⟩ => ?_
    exact store_ok I2 hN hi hx r2 (fun s3 I3 => ⟨_, H2, I3, q2⟩) hf
  rcases l with ⟨hk, hm⟩ | ⟨hk, c, hc, hcell⟩
  · exact wpAny_loadName_local I.ok.kind hk hn hm go
  · rcases hk with hk | hk
    · exact wpAny_loadName_cell I.ok.kind hk hc hcell go
    · rcases hx with k | k
      · have : X.env.scope.names.lookup x = some .free := hk
        rw [k] at this; cases this
      · have : X.env.scope.names.lookup x = some .free := hk
        rw [k] at this; cases this
def tAugS (to ti te : TE) (tget : V → V → Hp → VK → Prop) (tip : TIp) (tset : TSet) : TS := fun D σ H => to σ H fun o H1 => ti σ H1 fun i H2 => tget o i H2 fun x H3 => te σ H3 fun y H4 => tip x y H4 fun z H5 => tset o i z H5 fun H6 => D.nx σ H6
def PGet (X : Cx) (t : V → V → Hp → VK → Prop) : Prop :=
  ∀ (pins : List (Addr × Obj)) (s : Shared) (σ : St) (H : Hp) (o i : V) (ov iv : Value) (Q : VK), Inv X pins σ H s → RelV o ov → RelV i iv → t o i H Q →
    wpAny (model X.prog X.w) X.A (getItem ov iv) (EP X pins σ Q) X.xe s
def ipI (f : Int → Int → Int) : TIp := fun x y H Q => ∃ i j, x = .int i ∧ y = .int j ∧ Q (.int (f i j)) H
theorem ip_add : PIp X .Add (ipI fun i j => i + j) := by
  intro pins s σ H x y v u Q I r1 r2 h
  obtain ⟨i, j, e1, e2, q⟩ := h
  subst e1; subst e2
  obtain ⟨t, rfl⟩ := r1
  obtain ⟨t', rfl⟩ := r2
  exact iadd_int ⟨.int _, H, I.tok _, ⟨_, rfl⟩, q⟩
end

section
variable {X : Cx} {pos : Pos}
def tWhile (c : TT) (tb : TS) : TS := fun D σ H => ∃ W : Nat → St → Hp → Prop, (∃ m, W m σ H) ∧ ∀ m σ H, W m σ H →
  c σ H fun b H1 => if b = true then ∃ N : St → Hp → Prop, (∀ σ' H', N σ' H' → ∃ m', m' < m ∧ W m' σ' H') ∧ tb { D with nx := N, ct := N, bk := D.nx } σ H1 else D.nx σ H1
theorem ps_while {c : Expr} {body : List Stmt} {tc : TT} {tb : TS} (hp : PassesOwn (model X.prog X.w) X.A X.env X.xe) (hc : PT X c tc) (hb : PSs X body tb) : PS X (.While c body [] pos) (tWhile tc tb) := by
  intro pins s σ H D I h
  obtain ⟨W, ⟨m0, w0⟩, turn⟩ := h
  refine wpAny_While (codeAny_whileLoop (fun n s' => ∃ σ' H', Inv X pins σ' H' s' ∧ W n σ' H') ?_ m0 ⟨σ, H, I, w0⟩)
  rintro n s1 ⟨σ1, H1, I1, w1⟩
  refine wpAny_passesOwn hp (thn (hc pins s1 σ1 H1 _ I1 (turn n σ1 H1 w1)) fun b s2 ⟨H2, I2, q2⟩ => ?_)
  cases b with
  | true =>
    obtain ⟨N, hN, q2⟩ := q2
    rw [if_pos rfl]
    refine wpAny_passesOwn hp (thn (hb pins s2 σ1 H2 _ I2 q2) fun f s3 q3 => ?_)
    cases f with
    | next =>
      obtain ⟨σ3, H3, I3, n3⟩ := q3
      obtain ⟨m', hm, w3⟩ := hN σ3 H3 n3
      exact ⟨m', hm, σ3, H3, I3, w3⟩
    | cont =>
      obtain ⟨σ3, H3, I3, n3⟩ := q3
      obtain ⟨m', hm, w3⟩ := hN σ3 H3 n3
      exact ⟨m', hm, σ3, H3, I3, w3⟩
    | brk => exact q3
    | ret v => exact q3
  | false =>
    rw [if_neg Bool.false_ne_true]
    exact wpAny_execs_nil ⟨σ1, H2, I2, q2⟩
end

structure It where
  go : Nat → Hp → Prop
  yld : Nat → Hp → V → Hp → Prop
  stop : Nat → Hp → Prop
def FpOk (X : Cx) (pins : List (Addr × Obj)) (H : Hp) (b : Addr) : Prop :=
  H b = none ∧ b ≠ X.env.locals ∧ b ∉ X.fs ∧ (b ∈ X.ex ∨ X.s₀.heap.objs.size ≤ b) ∧ (∀ x c, X.env.cells.lookup x = some c → c ≠ b) ∧ ∀ p ∈ X.pn ++ pins, p.1 ≠ b
theorem Inv.fpOk {X : Cx} {pins : List (Addr × Obj)} {σ : St} {H H' : Hp} {s : Shared} {b : Addr} (I : Inv X pins σ H s) (hb : s.heap.objs.size ≤ b) (hn : H' b = none) : FpOk X pins H' b := by
  refine ⟨hn, Nat.ne_of_gt (Nat.lt_of_lt_of_le I.lt hb), I.nofs hb, .inr (Nat.le_trans I.sz hb), fun x c e z => ?_, fun p hp z => ?_⟩
  · obtain ⟨v, q⟩ := I.cell x c e
    exact absurd (Nat.lt_of_lt_of_le q.lt (by rw [z]; exact hb)) (Nat.lt_irrefl _)
  · exact absurd (Nat.lt_of_lt_of_le (Heap.lt_size (I.pin p hp).1) (by rw [z]; exact hb)) (Nat.lt_irrefl _)
structure Turn (P : Program) (w : World) (K : PySem.W.Frag) (tg : Expr) (J : It) (fp : List Addr) (it : Addr) (tn : Nat → Heap → Prop) : Prop where
  mem : it ∈ fp
  obj : ∀ i h, tn i h → ∀ b ∈ fp, ∃ o, h.get? b = some o ∧ ∀ v, o.data ≠ .cell v
  keep : ∀ i h h', tn i h → (∀ b ∈ fp, ∀ o, h.get? b = some o → h'.get? b = some o) → tn i h'
  item : ∀ (X : Cx), X.prog = P → X.w = w → X.K = K → X.calm = true → ∀ (i : Nat) (pins : List (Addr × Obj)) (s : Shared) (σ : St) (H : Hp) (E : Value → Shared → Prop), Inv X pins σ H s → (∀ b ∈ fp, FpOk X pins H b) → tn i s.heap → J.go i H →
    wpAny (model P w) X.A (pyNext (.ref it)) (fun r s1 => ∃ u, r = some u ∧
      wpAny (model P w) X.A (letOwnedTupleGo tg (.ref it) u) (fun _ s2 => ∃ x H', Inv X pins σ H' s2 ∧ RelV x u ∧ J.yld i H x H' ∧ tn (i + 1) s2.heap ∧ ∀ b ∈ fp, H' b = none) E s1) E s
  done : ∀ (X : Cx), X.prog = P → X.w = w → X.K = K → X.calm = true → ∀ (i : Nat) (pins : List (Addr × Obj)) (s : Shared) (σ : St) (H : Hp) (E : Value → Shared → Prop), Inv X pins σ H s → (∀ b ∈ fp, FpOk X pins H b) → tn i s.heap → J.stop i H →
    wpAny (model P w) X.A (pyNext (.ref it)) (fun r s1 => r = none ∧ Inv X pins σ H s1) E s
  self : ∀ (A : Around) (i : Nat) (s : Shared) (Q : Value → Shared → Prop) (E : Value → Shared → Prop), tn i s.heap → Q (.ref it) s → wpAny (model P w) A (pyIter (.ref it)) Q E s
abbrev TI := St → Hp → (It → Hp → Prop) → Prop
def PIE (X : Cx) (pins : List (Addr × Obj)) (σ : St) (tg : Expr) (R : It → Hp → Prop) (itv : Value) (s2 : Shared) : Prop :=
  ∃ (it : Addr) (fp : List Addr) (tn : Nat → Heap → Prop) (J : It) (H' : Hp), itv = .ref it ∧ Inv X pins σ H' s2 ∧ Turn X.prog X.w X.K tg J fp it tn ∧ tn 0 s2.heap ∧ (∀ b ∈ fp, FpOk X pins H' b) ∧ R J H'
def PI (X : Cx) (tg iter : Expr) (wi : TI) : Prop :=
  ∀ (pins : List (Addr × Obj)) (s : Shared) (σ : St) (H : Hp) (R : It → Hp → Prop), Inv X pins σ H s → wi σ H R →
    wpAny (model X.prog X.w) X.A (eval iter X.env) (fun v s1 => wpAny (model X.prog X.w) X.A (pyIter v) (PIE X pins σ tg R) X.xe s1) X.xe s

theorem go_of {M : Model} {A : Around} {E : Value → Shared → Prop} {s : Shared} {tg : Expr} {it : Addr} {u : Value} {o : Obj} {n : String} {vs : Array Value} {Q : Unit → Shared → Prop} (ho : s.heap.get? it = some o) (hc : o.cls = .type n) (hd : o.data = .fields vs)
    (hn : ["enumerate", "zip", "dict_itemiterator", "dict_reverseitemiterator", "odict_iterator", "itertools.zip_longest", "itertools.pairwise"].contains n = false) (hQ : Q () s) : wpAny M A (letOwnedTupleGo tg (.ref it) u) Q E s := by
  unfold letOwnedTupleGo
  cases tg <;> first
    | exact wpAny_pure hQ
    | (cases u <;> first
        | exact wpAny_pure hQ
        | (refine wpAny_bind (wpAny_load ho ?_)
           rw [hc, hd]
           show wpAny M A (if (["enumerate", "zip", "dict_itemiterator", "dict_reverseitemiterator", "odict_iterator", "itertools.zip_longest", "itertools.pairwise"].contains n && vs[0]? == some (rawInt _)) = true then _ else _) Q E s
           rw [if_neg (by intro h; rw [hn, Bool.false_and] at h; cases h)]
           exact wpAny_pure hQ))

def Itl (K : PySem.W.Frag) (a : Addr) : It :=
  ⟨fun i H => ∃ xs x, SqL K H a xs ∧ xs[i]? = some x, fun i H x H' => H' = H ∧ ∀ xs, SqL K H a xs → xs[i]? = some x, fun i H => ∃ xs, SqL K H a xs ∧ xs.length ≤ i⟩
def Itr (lo : Int) (n : Nat) : It := ⟨fun i _ => i < n, fun i H x H' => H' = H ∧ x = .int (lo + i), fun i _ => n ≤ i⟩
theorem turn_list {P : Program} {w : World} {K : PySem.W.Frag} {tg : Expr} (a it : Addr) : Turn P w K tg (Itl K a) [it] it (fun i h => h.IsListIter it a i) where
  mem := by simp
  obj := fun i h st b hb => by
    have e : b = it := by simpa using hb
    subst e
    obtain ⟨o, e, c, d⟩ := st
    exact ⟨o, e, fun v z => by rw [d] at z; cases z⟩
  keep := fun i h h' st k => st.at fun o e => k it (by simp) o e
  item := by
    intro X hP hw hK hc i pins s σ H E I hf st hg
    subst hP hw hK
    obtain ⟨xs, x, hq, hx⟩ := hg
    obtain ⟨its, rv, p, hz⟩ := I.list hq
    obtain ⟨u, hu, ru⟩ := rv.get hx
    obtain ⟨f0, f1, f2, f3, f4, f5⟩ := hf it (by simp)
    refine wpAny_pyNext_list_item st p.isList (x := u) (by simpa using hu) fun h' st' sb => ?_
    have I1 : Inv X pins σ H { s with heap := h' } := I.turned (t' := s.toks) (fun b o hb e => (sb.2 b hb).trans e) f0 f1 f3 f4 f5
    obtain ⟨o, e, c, d⟩ := id st'
    exact ⟨u, rfl, go_of (s := { s with heap := h' }) e c d (by decide) ⟨x, H, I1, ru, ⟨rfl, fun ys hy => by rw [I.list_inj hy hq]; exact hx⟩, st', fun b hb => (hf b hb).1⟩⟩
  done := by
    intro X hP hw hK hc i pins s σ H E I hf st hg
    subst hP hw hK
    obtain ⟨xs, hq, hx⟩ := hg
    obtain ⟨its, rv, p, hz⟩ := I.list hq
    obtain ⟨f0, f1, f2, f3, f4, f5⟩ := hf it (by simp)
    have hl := rv.length
    exact wpAny_pyNext_list_end (I.ok.hd hc) st p.isList (by simp; omega) fun h' eb => ⟨rfl, I.turned (t' := s.toks) (fun b o hb e => eb b o hb e) f0 f1 f3 f4 f5⟩
  self := fun _ _ _ _ _ st h => wpAny_pyIter_listiter st h
end L2

namespace L2
open PySem PySem.Spec PyProof.Rows
section
variable {X : Cx} {tg : Expr}
def iList (K : PySem.W.Frag) (tl : TE) : TI := fun σ H R => tl σ H fun x H1 => ∃ a, x = .ref a ∧ (∃ xs, SqL K H1 a xs) ∧ R (Itl K a) H1
theorem pi_list {l : Expr} {tl : TE} (hl : PE X l tl) : PI X tg l (iList X.K tl) := by
  intro pins s σ H R I h
  refine thn (hl pins s σ H _ I h) fun v s1 ⟨x, H1, I1, r1, q1⟩ => ?_
  obtain ⟨a, e, ⟨xs, hq⟩, q⟩ := q1
  subst e
  cases r1
  obtain ⟨its, rv, p, hz⟩ := I1.list hq
  refine wpAny_pyIter_list p.isList ?_
  refine ⟨s1.heap.objs.size, [s1.heap.objs.size], _, _, H1, rfl, I1.kept (t' := s1.toks) fun b o e => Heap.get?_push_of_some _ e, turn_list a _, ⟨_, Heap.get?_push_size _ rfl, rfl, rfl⟩, fun b hb => ?_, q⟩
  have e : b = s1.heap.objs.size := by simpa using hb
  subst e
  exact I1.fpOk (Nat.le_refl _) (I1.hok.fresh (Nat.le_refl _))
def iRng1 (ta : TA) : TI := fun σ H R => ta σ H fun vs H1 => ∃ j : Int, vs = [.int j] ∧ -(2 ^ 62) ≤ j ∧ j < 2 ^ 62 ∧ R (Itr 0 j.toNat) H1
def tFor (wi : TI) (g : TG) (tb : TS) : TS := fun D σ H => wi σ H fun J H1 => ∃ W : Nat → Nat → St → Hp → Prop, (∃ m, W 0 m σ H1) ∧ ∀ i m σ H, W i m σ H →
  (J.stop i H ∧ D.nx σ H) ∨ (J.go i H ∧ ∃ N : St → Hp → Prop, (∀ σ' H', N σ' H' → ∃ m', m' < m ∧ W (i + 1) m' σ' H') ∧ ∀ x H', J.yld i H x H' → g x σ H' fun σ2 H2 => tb { D with nx := N, ct := N, bk := D.nx } σ2 H2)
def pinsAt (fp : List Addr) (h : Heap) : List (Addr × Obj) := fp.filterMap fun b => (h.get? b).map fun o => (b, o)
theorem mem_pinsAt {fp : List Addr} {h : Heap} {b : Addr} {o : Obj} (hb : b ∈ fp) (e : h.get? b = some o) : (b, o) ∈ pinsAt fp h := List.mem_filterMap.mpr ⟨b, hb, by rw [e]; rfl⟩
theorem of_pinsAt {fp : List Addr} {h : Heap} {p : Addr × Obj} (hp : p ∈ pinsAt fp h) : p.1 ∈ fp ∧ h.get? p.1 = some p.2 := by
  obtain ⟨b, hb, e⟩ := List.mem_filterMap.mp hp
  cases q : h.get? b with
  | none => rw [q] at e; cases e
  | some o =>
    rw [q] at e
    have e' : (b, o) = p := Option.some.inj e
    subst e'
    exact ⟨hb, q⟩
theorem Inv.pinned {pins : List (Addr × Obj)} {σ : St} {H : Hp} {s : Shared} {fp : List Addr} (I : Inv X pins σ H s) (hf : ∀ b ∈ fp, FpOk X pins H b) (ho : ∀ b ∈ fp, ∃ o, s.heap.get? b = some o ∧ ∀ v, o.data ≠ .cell v) : Inv X (pins ++ pinsAt fp s.heap) σ H s :=
  I.pins_of fun p hp => (List.mem_append.mp hp).elim (fun z => I.pin p (List.mem_append_right _ z)) fun z => by
    obtain ⟨hb, e⟩ := of_pinsAt z
    obtain ⟨f0, f1, f2, _⟩ := hf p.1 hb
    obtain ⟨o, e', d⟩ := ho p.1 hb
    rw [e] at e'; cases e'
    exact ⟨e, f0, f1, f2, d⟩
theorem Inv.unpinned {pins pl : List (Addr × Obj)} {σ : St} {H : Hp} {s : Shared} (I : Inv X (pins ++ pl) σ H s) : Inv X pins σ H s := I.pins_of fun p hp => I.pin p (List.mem_append_right _ (List.mem_append_left _ hp))
theorem ps_for {iter : Expr} {body : List Stmt} {wi : TI} {g : TG} {tb : TS} {pos : Pos} (hp : PassesOwn (model X.prog X.w) X.A X.env X.xe) (hc : X.calm = true) (hi : PI X tg iter wi) (hg : PG X tg g) (hb : PSs X body tb)
    (hs : ∀ x, foldedSetIterable iter X.env x = pure x := by intro _; rfl) : PS X (.For tg iter body [] pos) (tFor wi g tb) := by
  intro pins s σ H D I h
  refine wpAny_For (thn (hi pins s σ H _ I h) fun v s1 h1 => thn h1 fun itv s2 h2 => ?_) hs
  obtain ⟨it, fp, tn, J, H2, e, I2, T, st2, f2, W, ⟨m0, w0⟩, turn⟩ := h2
  subst e
  -- what stays true of the iterator's objects through the loop
  have stat : ∀ {H' : Hp}, (∀ b ∈ fp, H' b = none) → ∀ b ∈ fp, FpOk X pins H' b := fun hn b hb => ⟨hn b hb, (f2 b hb).2⟩
  refine codeAny_forLoop_any (fun n s' => ∃ i σ' H', Inv X pins σ' H' s' ∧ tn i s'.heap ∧ (∀ b ∈ fp, H' b = none) ∧ W i n σ' H') ?_ m0 ⟨0, σ, H2, I2, st2, fun b hb => (f2 b hb).1, w0⟩
  rintro n s3 ⟨i, σ3, H3, I3, st3, fr3, w3⟩
  rcases turn i n σ3 H3 w3 with ⟨stop, qn⟩ | ⟨go, N, hN, step⟩
  · refine wpAny_passesOwn hp (thn (T.done X rfl rfl rfl hc i pins s3 σ3 H3 X.xe I3 (stat fr3) st3 stop) fun r s4 ⟨hr, I4⟩ => ?_)
    subst hr
    exact wpAny_execs_nil ⟨σ3, H3, I4, qn⟩
  · refine wpAny_passesOwn hp (thn (T.item X rfl rfl rfl hc i pins s3 σ3 H3 X.xe I3 (stat fr3) st3 go) fun r s4 ⟨u, hr, h4⟩ => ?_)
    subst hr
    refine wpAny_passesOwn hp (thn h4 fun _ s5 ⟨x, H5, I5, r5, y5, st5, fr5⟩ => ?_)
    have I5' := I5.pinned (stat fr5) (T.obj _ _ st5)
    refine wpAny_passesOwn hp (thn (hg _ s5 σ3 H5 x u _ I5' r5 (step x H5 y5)) fun _ s6 ⟨σ6, H6, I6, q6⟩ => ?_)
    refine wpAny_passesOwn hp (thn (hb _ s6 σ6 H6 _ I6 q6) fun f s7 q7 => ?_)
    have again : ∀ {σ7 : St} {H7 : Hp}, Inv X (pins ++ pinsAt fp s5.heap) σ7 H7 s7 → N σ7 H7 → ∃ m, m < n ∧ ∃ i σ' H', Inv X pins σ' H' s7 ∧ tn i s7.heap ∧ (∀ b ∈ fp, H' b = none) ∧ W i m σ' H' := fun {σ7 H7} I7 n7 => by
      obtain ⟨m', hm, w7⟩ := hN σ7 H7 n7
      refine ⟨m', hm, i + 1, σ7, H7, I7.unpinned, T.keep _ _ _ st5 fun b hb o e => (I7.pin (b, o) (List.mem_append_right _ (List.mem_append_right _ (mem_pinsAt hb e)))).1, fun b hb => ?_, w7⟩
      obtain ⟨o, e, d⟩ := T.obj _ _ st5 b hb
      exact (I7.pin (b, o) (List.mem_append_right _ (List.mem_append_right _ (mem_pinsAt hb e)))).2.1
    cases f with
    | next => obtain ⟨σ7, H7, I7, n7⟩ := q7; exact again I7 n7
    | cont => obtain ⟨σ7, H7, I7, n7⟩ := q7; exact again I7 n7
    | brk => obtain ⟨σ7, H7, I7, q7⟩ := q7; exact ⟨σ7, H7, I7.unpinned, q7⟩
    | ret v => obtain ⟨x7, σ7, H7, I7, r7, q7⟩ := q7; exact ⟨x7, σ7, H7, I7.unpinned, r7, q7⟩
end

end L2

namespace L2
open PySem PySem.Spec PyProof.Rows

abbrev R2 := V → V → Hp → VK → Prop
def OpR (X : Cx) (f : Value → Value → Sem Value) (r : R2) : Prop :=
  ∀ (pins : List (Addr × Obj)) (s : Shared) (σ : St) (H : Hp) (x y : V) (v u : Value) (Q : VK), Inv X pins σ H s → RelV x v → RelV y u → r x y H Q →
    wpAny (model X.prog X.w) X.A (f v u) (EP X pins σ Q) X.xe s
def UnR (X : Cx) (f : Value → Sem Value) (r : V → Hp → VK → Prop) : Prop :=
  ∀ (pins : List (Addr × Obj)) (s : Shared) (σ : St) (H : Hp) (x : V) (v : Value) (Q : VK), Inv X pins σ H s → RelV x v → r x H Q →
    wpAny (model X.prog X.w) X.A (f v) (EP X pins σ Q) X.xe s
def CallR (X : Cx) (f : Value) (r : List V → Hp → VK → Prop) : Prop :=
  ∀ (pins : List (Addr × Obj)) (s : Shared) (σ : St) (H : Hp) (xs : List V) (us : List Value) (Q : VK), Inv X pins σ H s → Vals xs us → r xs H Q →
    wpAny (model X.prog X.w) X.A (call f us) (EP X pins σ Q) X.xe s
def TruR (X : Cx) (r : V → Hp → (Bool → Hp → Prop) → Prop) : Prop :=
  ∀ (pins : List (Addr × Obj)) (s : Shared) (σ : St) (H : Hp) (x : V) (v : Value) (Q : Bool → Hp → Prop), Inv X pins σ H s → RelV x v → r x H Q →
    wpAny (model X.prog X.w) X.A (truthy v) (TP X pins σ Q) X.xe s

def tOp (r : R2) (ta tb : TE) : TE := fun σ H Q => ta σ H fun x H1 => tb σ H1 fun y H2 => r x y H2 Q
def tUn (r : V → Hp → VK → Prop) (ta : TE) : TE := fun σ H Q => ta σ H fun x H1 => r x H1 Q
def rI (C : Int → Int → Prop) (g : Int → Int → V) : R2 := fun x y H Q => ∃ i j, x = .int i ∧ y = .int j ∧ C i j ∧ Q (g i j) H
def rI0 (g : Int → Int → V) : R2 := fun x y H Q => ∃ i j, x = .int i ∧ y = .int j ∧ Q (g i j) H
def rU (g : Int → V) : V → Hp → VK → Prop := fun x H Q => ∃ i, x = .int i ∧ Q (g i) H

section
variable {X : Cx} {a b c : Expr} {ta tb tc : TE} {pos : Pos}

theorem binT (ha : PE X a ta) (hb : PE X b tb) {pins : List (Addr × Obj)} {s : Shared} {σ : St} {H : Hp} {R : V → V → Hp → Prop} (I : Inv X pins σ H s)
    (h : ta σ H fun x H1 => tb σ H1 fun y H2 => R x y H2) {Q : Value → Shared → Prop} {f : Value → Value → Sem Value}
    (hf : ∀ v u s2 x y H2, Inv X pins σ H2 s2 → RelV x v → RelV y u → R x y H2 → wpAny (model X.prog X.w) X.A (f v u) Q X.xe s2) :
    wpAny (model X.prog X.w) X.A (eval a X.env) (fun v s₁ => wpAny (model X.prog X.w) X.A (eval b X.env) (fun u s₂ => wpAny (model X.prog X.w) X.A (f v u) Q X.xe s₂) X.xe s₁) X.xe s := by
  refine thn (ha pins s σ H _ I h) fun v s1 ⟨x, H1, I1, r1, q1⟩ => ?_
  refine thn (hb pins s1 σ H1 _ I1 q1) fun u s2 ⟨y, H2, I2, r2, q2⟩ => ?_
  exact hf v u s2 x y H2 I2 r1 r2 q2

theorem pe_op {op : Operator} {r : R2} (ho : OpR X (binaryOp op) r) (ha : PE X a ta) (hb : PE X b tb) : PE X (.BinOp a op b pos) (tOp r ta tb) := by
  intro pins s σ H Q I h
  exact wpAny_BinOp (binT ha hb I h fun v u s2 x y H2 I2 rx ry q => ho pins s2 σ H2 x y v u Q I2 rx ry q)
theorem pe_un {op : UnaryOp} {r : V → Hp → VK → Prop} (ho : UnR X (unaryOp op) r) (ha : PE X a ta) : PE X (.UnaryOp op a pos) (tUn r ta) := by
  intro pins s σ H Q I h
  exact UnaryOp_ (thn (ha pins s σ H _ I h) fun v s1 ⟨x, H1, I1, r1, q1⟩ => ho pins s1 σ H1 x v Q I1 r1 q1)
theorem opI {f : Value → Value → Sem Value} {C : Int → Int → Prop} {g : Int → Int → Int}
    (rule : ∀ (i j : Int) (t u : Tok) (s : Shared) (Q : Value → Shared → Prop) (E : Value → Shared → Prop), C i j → Q (.int (g i j) s.toks) { s with toks := s.toks + 1 } → wpAny (model X.prog X.w) X.A (f (.int i t) (.int j u)) Q E s) :
    OpR X f (rI C fun i j => .int (g i j)) := by
  intro pins s σ H x y v u Q I rx ry h
  obtain ⟨i, j, rfl, rfl, hc, q⟩ := h
  obtain ⟨t, rfl⟩ := rx
  obtain ⟨t', rfl⟩ := ry
  exact rule i j t t' s _ _ hc ⟨.int (g i j), H, I.tok _, ⟨_, rfl⟩, q⟩
theorem opI0 {f : Value → Value → Sem Value} {g : Int → Int → Int}
    (rule : ∀ (i j : Int) (t u : Tok) (s : Shared) (Q : Value → Shared → Prop) (E : Value → Shared → Prop), Q (.int (g i j) s.toks) { s with toks := s.toks + 1 } → wpAny (model X.prog X.w) X.A (f (.int i t) (.int j u)) Q E s) :
    OpR X f (rI0 fun i j => .int (g i j)) := by
  intro pins s σ H x y v u Q I rx ry h
  obtain ⟨i, j, rfl, rfl, q⟩ := h
  obtain ⟨t, rfl⟩ := rx
  obtain ⟨t', rfl⟩ := ry
  exact rule i j t t' s _ _ ⟨.int (g i j), H, I.tok _, ⟨_, rfl⟩, q⟩
theorem opB0 {f : Value → Value → Sem Value} {g : Int → Int → Bool}
    (rule : ∀ (i j : Int) (t u : Tok) (s : Shared) (Q : Value → Shared → Prop) (E : Value → Shared → Prop), Q (.bool (g i j)) s → wpAny (model X.prog X.w) X.A (f (.int i t) (.int j u)) Q E s) :
    OpR X f (rI0 fun i j => .bl (g i j)) := by
  intro pins s σ H x y v u Q I rx ry h
  obtain ⟨i, j, rfl, rfl, q⟩ := h
  obtain ⟨t, rfl⟩ := rx
  obtain ⟨t', rfl⟩ := ry
  exact rule i j t t' s _ _ ⟨.bl (g i j), H, I, rfl, q⟩

def CDiv (i j : Int) : Prop := 0 < j ∧ j < 1073741824
def CPow (i j : Int) : Prop := 0 ≤ j ∧ j ≤ 1000000 ∧ i.natAbs < 2 ^ 64
def CMul (i j : Int) : Prop := (-(2 ^ 64) < i ∧ i < 2 ^ 64) ∨ (-(2 ^ 64) < j ∧ j < 2 ^ 64)
theorem CMul.ok {i j : Int} (h : CMul i j) : IntMulOk i j := by
  rcases h with ⟨h1, h2⟩ | ⟨h1, h2⟩
  · exact .of_left (intBits_le_64 h1 h2)
  · exact .of_right (intBits_le_64 h1 h2)
theorem op_add : OpR X (binaryOp .Add) (rI0 fun i j => .int (i + j)) := opI0 fun _ _ _ _ _ _ _ q => add_int q
theorem op_sub : OpR X (binaryOp .Sub) (rI0 fun i j => .int (i - j)) := opI0 fun _ _ _ _ _ _ _ q => sub_int q
theorem op_fdiv : OpR X (binaryOp .FloorDiv) (rI CDiv fun i j => .int (i / j)) := opI fun i j _ _ _ _ _ hc q => by
  have h1 : (0 : Int) < j := hc.1
  have h2 : j < 1073741824 := hc.2
  exact floordiv_int (by omega) (by rw [Int.fdiv_eq_ediv_of_nonneg i (by omega)]; exact q) (.inl (PyProof.noPylong_small (by omega)))
theorem op_mod : OpR X (binaryOp .Mod) (rI (fun _ j => 0 < j) fun i j => .int (i % j)) := opI fun i j _ _ _ _ _ hc q => by
  have h1 : (0 : Int) < j := hc
  exact mod_int' (by omega) (by rw [Int.fmod_eq_emod_of_nonneg i (by omega)]; exact q)
theorem op_pow : OpR X (binaryOp .Pow) (rI CPow fun i j => .int (i ^ j.toNat)) := opI fun _ _ _ _ _ _ _ hc q => pow_int_small hc.1 hc.2.1 hc.2.2 q
theorem unI {f : Value → Sem Value} {g : Int → Int}
    (rule : ∀ (i : Int) (t : Tok) (s : Shared) (Q : Value → Shared → Prop) (E : Value → Shared → Prop), Q (.int (g i) s.toks) { s with toks := s.toks + 1 } → wpAny (model X.prog X.w) X.A (f (.int i t)) Q E s) :
    UnR X f (rU fun i => .int (g i)) := by
  intro pins s σ H x v Q I rx h
  obtain ⟨i, rfl, q⟩ := h
  obtain ⟨t, rfl⟩ := rx
  exact rule i t s _ _ ⟨.int (g i), H, I.tok _, ⟨_, rfl⟩, q⟩
theorem un_neg : UnR X (unaryOp .USub) (rU fun i => .int (-i)) := unI fun _ _ _ _ _ q => neg_int q
end

def scal : V → V → Bool
  | .non, .non => true | .non, .int _ => true | .int _, .non => true | .non, .bl _ => true | .bl _, .non => true | .non, .str _ => true | .str _, .non => true
  | .int _, .int _ => true | .bl _, .bl _ => true | .str _, .str _ => true | .byt _, .byt _ => true
  | .int _, .str _ => true | .str _, .int _ => true | .bl _, .str _ => true | .str _, .bl _ => true
  | _, _ => false
def rEq : R2 := fun x y H Q => scal x y = true ∧ Q (.bl (decide (x = y))) H
def rNe : R2 := fun x y H Q => scal x y = true ∧ Q (.bl (!decide (x = y))) H

theorem dec_int {i j : Int} : decide (V.int i = V.int j) = (i == j) := by
  rw [Bool.eq_iff_iff]
  simp
theorem dec_bl {i j : Bool} : decide (V.bl i = V.bl j) = (i == j) := by
  rw [Bool.eq_iff_iff]
  simp
theorem dec_str {i j : Str} : decide (V.str i = V.str j) = (i == j) := by
  rw [Bool.eq_iff_iff]
  simp
theorem dec_byt {i j : Array UInt8} : decide (V.byt i = V.byt j) = (i.toList == j.toList) := by
  rw [Bool.eq_iff_iff]
  cases i
  cases j
  simp

section
variable {X : Cx} {a b c : Expr} {ta tb tc : TE} {pos : Pos}
theorem fin_bl {pins : List (Addr × Obj)} {σ : St} {H : Hp} {s : Shared} {Q : VK} {k k' : Bool} (I : Inv X pins σ H s) (q : Q (.bl k) H) (e : k = k') : EP X pins σ Q (.bool k') s := by
  subst e
  exact ⟨.bl k, H, I, rfl, q⟩
theorem op_eq : OpR X (compareOp .Eq) rEq := by
  intro pins s σ H x y v u Q I rx ry h
  obtain ⟨hs, q⟩ := h
  cases x with
  | non =>
    cases rx
    cases y with
    | non => cases ry; exact PySem.EqNone.eq_none_none (fin_bl I q (by simp))
    | bl j => cases ry; exact PySem.EqNone.eq_none_bool (fin_bl I q (by simp))
    | int j => obtain ⟨t', rfl⟩ := ry; exact PySem.EqNone.eq_none_int (fin_bl I q (by simp))
    | str j => obtain ⟨t', rfl⟩ := ry; exact PySem.EqNone.eq_none_str (fin_bl I q (by simp))
    | _ => exact absurd (show false = true from hs) Bool.false_ne_true
  | bl i =>
    cases rx
    cases y with
    | non => cases ry; exact PySem.EqNone.eq_bool_none (fin_bl I q (by simp))
    | bl j => cases ry; exact eq_bool (fin_bl I q dec_bl)
    | str j => obtain ⟨t', rfl⟩ := ry; exact PySem.EqMixed.eq_bool_str (fin_bl I q (by simp))
    | _ => exact absurd (show false = true from hs) Bool.false_ne_true
  | int i =>
    obtain ⟨t, rfl⟩ := rx
    cases y with
    | non => cases ry; exact PySem.EqNone.eq_int_none (fin_bl I q (by simp))
    | int j => obtain ⟨t', rfl⟩ := ry; exact eq_int (fin_bl I q dec_int)
    | str j => obtain ⟨t', rfl⟩ := ry; exact PySem.EqMixed.eq_int_str (fin_bl I q (by simp))
    | _ => exact absurd (show false = true from hs) Bool.false_ne_true
  | str i =>
    obtain ⟨t, rfl⟩ := rx
    cases y with
    | non => cases ry; exact PySem.EqNone.eq_str_none (fin_bl I q (by simp))
    | bl j => cases ry; exact PySem.EqMixed.eq_str_bool (fin_bl I q (by simp))
    | int j => obtain ⟨t', rfl⟩ := ry; exact PySem.EqMixed.eq_str_int (fin_bl I q (by simp))
    | str j => obtain ⟨t', rfl⟩ := ry; exact eq_str (fin_bl I q dec_str)
    | _ => exact absurd (show false = true from hs) Bool.false_ne_true
  | byt i =>
    obtain ⟨t, rfl⟩ := rx
    cases y with
    | byt j => obtain ⟨t', rfl⟩ := ry; exact PySem.W.eq_bytes (fin_bl I q dec_byt)
    | _ => exact absurd (show false = true from hs) Bool.false_ne_true
  | _ => cases y <;> exact absurd (show false = true from hs) Bool.false_ne_true
theorem op_ne : OpR X (compareOp .NotEq) rNe := by
  intro pins s σ H x y v u Q I rx ry h
  obtain ⟨hs, q⟩ := h
  cases x with
  | non =>
    cases rx
    cases y with
    | non => cases ry; exact PySem.EqNone.ne_none_none (fin_bl I q (by simp))
    | bl j => cases ry; exact PySem.EqNone.ne_none_bool (fin_bl I q (by simp))
    | int j => obtain ⟨t', rfl⟩ := ry; exact PySem.EqNone.ne_none_int (fin_bl I q (by simp))
    | str j => obtain ⟨t', rfl⟩ := ry; exact PySem.EqNone.ne_none_str (fin_bl I q (by simp))
    | _ => exact absurd (show false = true from hs) Bool.false_ne_true
  | bl i =>
    cases rx
    cases y with
    | non => cases ry; exact PySem.EqNone.ne_bool_none (fin_bl I q (by simp))
    | bl j => cases ry; exact ne_bool (fin_bl I q (congrArg not dec_bl))
    | str j => obtain ⟨t', rfl⟩ := ry; exact PySem.EqMixed.ne_bool_str (fin_bl I q (by simp))
    | _ => exact absurd (show false = true from hs) Bool.false_ne_true
  | int i =>
    obtain ⟨t, rfl⟩ := rx
    cases y with
    | non => cases ry; exact PySem.EqNone.ne_int_none (fin_bl I q (by simp))
    | int j => obtain ⟨t', rfl⟩ := ry; exact ne_int (fin_bl I q (congrArg not dec_int))
    | str j => obtain ⟨t', rfl⟩ := ry; exact PySem.EqMixed.ne_int_str (fin_bl I q (by simp))
    | _ => exact absurd (show false = true from hs) Bool.false_ne_true
  | str i =>
    obtain ⟨t, rfl⟩ := rx
    cases y with
    | non => cases ry; exact PySem.EqNone.ne_str_none (fin_bl I q (by simp))
    | bl j => cases ry; exact PySem.EqMixed.ne_str_bool (fin_bl I q (by simp))
    | int j => obtain ⟨t', rfl⟩ := ry; exact PySem.EqMixed.ne_str_int (fin_bl I q (by simp))
    | str j => obtain ⟨t', rfl⟩ := ry; exact ne_str (fin_bl I q (congrArg not dec_str))
    | _ => exact absurd (show false = true from hs) Bool.false_ne_true
  | byt i =>
    obtain ⟨t, rfl⟩ := rx
    cases y with
    | byt j => obtain ⟨t', rfl⟩ := ry; exact PySem.W.ne_bytes (fin_bl I q (congrArg not dec_byt))
    | _ => exact absurd (show false = true from hs) Bool.false_ne_true
  | _ => cases y <;> exact absurd (show false = true from hs) Bool.false_ne_true

theorem op_lt : OpR X (compareOp .Lt) (rI0 fun i j => .bl (decide (i < j))) := opB0 fun _ _ _ _ _ _ _ q => lt_int q
theorem op_le : OpR X (compareOp .LtE) (rI0 fun i j => .bl (decide (i ≤ j))) := opB0 fun _ _ _ _ _ _ _ q => le_int q
theorem op_ge : OpR X (compareOp .GtE) (rI0 fun i j => .bl (decide (j ≤ i))) := opB0 fun _ _ _ _ _ _ _ q => ge_int q
theorem op_isN : OpR X (compareOp .Is) (fun x y H Q => y = .non ∧ Q (.bl (decide (x = .non))) H) := by
  intro pins s σ H x y v u Q I rx ry h
  obtain ⟨rfl, q⟩ := h
  cases ry
  refine is_none_gen (fin_bl I q ?_)
  cases x <;> first
    | (cases rx; rfl)
    | (obtain ⟨t, rfl⟩ := rx; rfl)
theorem op_notN : OpR X (compareOp .IsNot) (fun x y H Q => y = .non ∧ Q (.bl (!decide (x = .non))) H) := by
  intro pins s σ H x y v u Q I rx ry h
  obtain ⟨rfl, q⟩ := h
  cases ry
  refine isnot_none_gen (fin_bl I q ?_)
  cases x <;> first
    | (cases rx; rfl)
    | (obtain ⟨t, rfl⟩ := rx; rfl)

theorem OpR.or {f : Value → Value → Sem Value} {r r' : R2} (h : OpR X f r) (h' : OpR X f r') : OpR X f (fun x y H Q => r x y H Q ∨ r' x y H Q) := by
  intro pins s σ H x y v u Q I rx ry q
  rcases q with q | q
  · exact h pins s σ H x y v u Q I rx ry q
  · exact h' pins s σ H x y v u Q I rx ry q

theorem nomark (b : Expr) {op : CmpOp} (h : op ≠ .In := by decide) (h2 : op ≠ .NotIn := by decide) : behindInMarks op b = false := by
  have e1 : (op == CmpOp.In) = false := by cases op <;> first | rfl | exact absurd rfl h
  have e2 : (op == CmpOp.NotIn) = false := by cases op <;> first | rfl | exact absurd rfl h2
  cases b <;> simp [behindInMarks, e1, e2]
theorem pe_cmpR {op : CmpOp} {r : R2} (ho : OpR X (compareOp op) r) (ha : PE X a ta) (hb : PE X b tb) (hm : behindInMarks op b = false) : PE X (.Compare a [op] [b] pos) (tOp r ta tb) := by
  intro pins s σ H Q I h
  exact wpAny_Compare1 (binT ha hb I h fun v u s2 x y H2 I2 rx ry q => ho pins s2 σ H2 x y v u Q I2 rx ry q) hm
def tTest (t : TE) : TT := fun σ H Q => t σ H fun x H' => ∃ k, x = .bl k ∧ Q k H'
theorem pt_cmpR {op : CmpOp} {r : R2} (ho : OpR X (compareOp op) r) (ha : PE X a ta) (hb : PE X b tb) (hm : behindInMarks op b = false) : PT X (.Compare a [op] [b] pos) (tTest (tOp r ta tb)) := by
  intro pins s σ H Q I h
  refine wpAny_isTrue_Compare1 (thn (ha pins s σ H _ I h) fun v s1 ⟨x, H1, I1, r1, q1⟩ => thn (hb pins s1 σ H1 _ I1 q1) fun u s2 ⟨y, H2, I2, r2, q2⟩ =>
    thn (ho pins s2 σ H2 x y v u _ I2 r1 r2 q2) fun c s3 ⟨z, H3, I3, r3, k, e, q3⟩ => ?_) hm
  subst e
  cases r3
  exact wpAny_truthy_bool ⟨H3, I3, q3⟩
def tChain (r r' : R2) (ta tb tc : TE) : TE := fun σ H Q => ta σ H fun x H1 => tb σ H1 fun y H2 => r x y H2 fun z H3 => ∃ k, z = .bl k ∧
  (if k = true then tc σ H3 fun w' H4 => r' y w' H4 Q else Q (.bl false) H3)
theorem pe_chain {op op' : CmpOp} {r r' : R2} (ho : OpR X (compareOp op) r) (ho' : OpR X (compareOp op') r') (ha : PE X a ta) (hb : PE X b tb) (hc : PE X c tc)
    (hm : lastMarks [op, op'] [b, c] = false := by with_unfolding_all rfl) : PE X (.Compare a [op, op'] [b, c] pos) (tChain r r' ta tb tc) := by
  intro pins s σ H Q I h
  refine Compare_chain (thn (ha pins s σ H _ I h) fun v s1 ⟨x, H1, I1, r1, q1⟩ => chain_link (thn (hb pins s1 σ H1 _ I1 q1) fun u s2 ⟨y, H2, I2, r2, q2⟩ =>
    thn (ho pins s2 σ H2 x y v u _ I2 r1 r2 q2) fun d s3 ⟨z, H3, I3, r3, k, e, q3⟩ => ?_)) hm
  subst e
  cases r3
  refine wpAny_truthy_bool ?_
  cases k with
  | false => exact ite_ff ⟨.bl false, H3, I3, rfl, q3⟩
  | true => exact ite_tt (chain_last (thn (hc pins s3 σ H3 _ I3 q3) fun w' s4 ⟨z', H4, I4, r4, q4⟩ => ho' pins s4 σ H4 y z' u w' Q I4 r2 r4 q4))
theorem pt_chain {op op' : CmpOp} {r r' : R2} (ho : OpR X (compareOp op) r) (ho' : OpR X (compareOp op') r') (ha : PE X a ta) (hb : PE X b tb) (hc : PE X c tc)
    (hm : lastMarks [op, op'] [b, c] = false := by with_unfolding_all rfl) : PT X (.Compare a [op, op'] [b, c] pos) (tTest (tChain r r' ta tb tc)) := by
  intro pins s σ H Q I h
  refine isTrue_chain (thn (ha pins s σ H _ I h) fun v s1 ⟨x, H1, I1, r1, q1⟩ => test_link (thn (hb pins s1 σ H1 _ I1 q1) fun u s2 ⟨y, H2, I2, r2, q2⟩ =>
    thn (ho pins s2 σ H2 x y v u _ I2 r1 r2 q2) fun d s3 ⟨z, H3, I3, r3, k, e, q3⟩ => ?_)) hm
  subst e
  cases r3
  refine wpAny_truthy_bool ?_
  cases k with
  | false =>
    obtain ⟨k', e', q'⟩ := q3
    cases e'
    exact ite_ff ⟨H3, I3, q'⟩
  | true =>
    refine ite_tt (test_last (thn (hc pins s3 σ H3 _ I3 q3) fun w' s4 ⟨z', H4, I4, r4, q4⟩ => thn (ho' pins s4 σ H4 y z' u w' _ I4 r2 r4 q4) fun d' s5 ⟨z2, H5, I5, r5, k2, e2, q5⟩ => ?_))
    subst e2
    cases r5
    exact wpAny_truthy_bool ⟨H5, I5, q5⟩

theorem line63 : (sizeLine : Nat) < 2 ^ 63 := by rw [sizeLine_eq]; decide
theorem vals1 {x : V} {us : List Value} (r : Vals [x] us) : ∃ u, us = [u] ∧ RelV x u := by
  cases r with
  | cons r1 r2 => cases r2; exact ⟨_, rfl, r1⟩
theorem vals2 {x y : V} {us : List Value} (r : Vals [x, y] us) : ∃ u w', us = [u, w'] ∧ RelV x u ∧ RelV y w' := by
  cases r with
  | cons r1 r2 =>
    cases r2 with
    | cons r3 r4 => cases r4; exact ⟨_, _, rfl, r1, r3⟩
theorem call_max2 (hc : X.calm = true) : CallR X (.builtin "max") (fun xs H Q => ∃ i j, xs = [.int i, .int j] ∧ Q (.int (if j > i then j else i)) H) := by
  intro pins s σ H xs us Q I r h
  obtain ⟨i, j, rfl, q⟩ := h
  obtain ⟨u, w', rfl, ⟨t, rfl⟩, ⟨t', rfl⟩⟩ := vals2 r
  refine max_two_ints (I.ok.hd hc) fun h' tk k => ⟨_, H, I.kept k, ?_, q⟩
  by_cases hj : j > i
  · rw [if_pos hj, if_pos hj]; exact ⟨_, rfl⟩
  · rw [if_neg hj, if_neg hj]; exact ⟨_, rfl⟩
end
end L2

namespace L2
open PySem PySem.Spec PyProof.Rows

structure ObjM (h : Heap) (x dx C : Addr) (mA : Str → Option Value) : Prop where
  obj : h.get? x = some (PySem.W.instObj C dx)
  ns : h.Ns1 dx mA
  ne : dx ≠ x

theorem lookIn_ns {h : Heap} {dx : Addr} {mA : Str → Option Value} (n : h.Ns1 dx mA) : ∃ od, h.get? dx = some od ∧ ∀ name, PySem.W.lookIn name od = some (mA name) := by
  obtain ⟨o, es, ep, ho, hd, hk, _, hm⟩ := n
  refine ⟨o, ho, fun name => ?_⟩
  have e := hm name
  unfold nsFind findBy at e
  rw [← Array.find?_toList] at e
  unfold PySem.W.lookIn
  rw [hd]
  dsimp only
  split
  · rename_i y q
    rw [q] at e
    exact congrArg some e
  · rename_i q
    rw [q] at e
    have a : es.toList.any (·.refKey) = false := by
      rw [List.any_eq_false]
      intro y hy
      obtain ⟨z, t, hkey⟩ := hk y (Array.mem_toList_iff.mp hy)
      simp [DictEntry.refKey, hkey]
    have a' : ¬ es.toList.any (·.refKey) = true := by rw [a]; exact Bool.false_ne_true
    rw [if_neg a']
    exact congrArg some e

theorem ObjM.look {h : Heap} {x dx C : Addr} {mA : Str → Option Value} (I : ObjM h x dx C mA) : ∃ od, PySem.W.InstAt h x (PySem.W.instObj C dx) C (some od) ∧ ∀ name, PySem.W.lookIn name od = some (mA name) :=
  let ⟨od, ho, hl⟩ := lookIn_ns I.ns
  ⟨od, ⟨I.obj, rfl, rfl, ho⟩, hl⟩

section
variable {prog : Program} {w : World} {A : Around} {E : Value → Shared → Prop} {s : Shared} {K : PySem.W.Frag} {x dx C f : Addr} {mA : Str → Option Value} {name : Str} {v : Value}

theorem get_map {expr : Bool} {Q : Value → Shared → Prop} (X : K.In s.heap) (I : ObjM s.heap x dx C mA) (hg : PySem.W.plainGet K C name = true) (hh : PySem.W.hasDictIn K C = true)
    (ha : PySem.W.findIn K (.ref C) name = some none) (hv : mA name = some v) (hv' : PySem.W.handedIn v = true) (h : Q v { s with toks := s.toks + 1 }) :
    wpAny (model prog w) A (getAttr (.ref x) name expr) Q E s := by
  obtain ⟨od, J, hl⟩ := I.look
  exact PySem.W.get_value X J (PySem.W.plainGet_of hg).1 (PySem.W.findObj_own hh ha rfl (by rw [hl, hv])) hv' h

theorem get_meth {pl : Sem Bool} {Q : Value × List Value → Shared → Prop} (X : K.In s.heap) (I : ObjM s.heap x dx C mA) (hg : PySem.W.plainGet K C name = true)
    (hf : PySem.W.findIn K (.ref C) name = some (some (.ref f))) (ht : PySem.W.isFn K (.ref f) = true) (hv : mA name = none) (h : Q (.ref f, [.ref x]) s) :
    wpAny (model prog w) A (getMethod (.ref x) name pl) Q E s := by
  obtain ⟨od, J, hl⟩ := I.look
  exact PySem.W.method_fn X J (PySem.W.plainGet_of hg).1 (PySem.W.plainGet_of hg).2 hf (beq_iff_eq.mp ht) (by show (PySem.W.lookIn name od).map (·.isSome) = some false; rw [hl, hv]; rfl) h

theorem set_map {ns : List Str} {Q : Unit → Shared → Prop} (X : K.In s.heap) (I : ObjM s.heap x dx C mA)
    (hs : PySem.W.findIn K (.ref C) "__setattr__" = some (some (.builtin "object.__setattr__"))) (hp : PySem.W.plainOver K C = true) (ht : PySem.W.takerIn K C name = some none) (hh : PySem.W.hasDictIn K C = true)
    (hw : PySem.Within mA ns) (hsz : ns.length ≤ sizeLine)
    (h : ∀ h', ObjM h' x dx C (fun y => if y = name then some v else mA y) → Heap.SameBut dx s.heap h' → Q () { s with heap := h', toks := s.toks + 2 }) :
    wpAny (model prog w) A (setAttr (.ref x) name v) Q E s := by
  obtain ⟨od, J, hl⟩ := I.look
  refine PySem.W.set_plain X J hs (PySem.W.osa_open (s := { s with toks := s.toks + 1 }) (r := none) X J hp ht fun b => ?_)
  obtain ⟨cd, hc, hd'⟩ := PySem.W.any_some hh
  have hx : s.heap.get? x = some ⟨.ref C, some dx, .plain, #[]⟩ := I.obj
  refine wpAny_bind (wpAny_pure (wpAny_bind (wpAny_bind (wpAny_loadPart hx (wpAny_bind (PySem.W.Looks.here (s := { s with toks := s.toks + 1 }) (PySem.W.looks_clsIn X hc) ?_))))))
  rw [hd']
  refine wpAny_pure (a := some dx) (wpAny_bind (wpAny_pure (wpAny_bind ?_)))
  refine wpAny_nsSet1 (s := { s with toks := s.toks + 1 }) I.ns fun h' hn2 hs2 => ?_
  obtain ⟨oD, esD, epD, hoD, hdD, hcD⟩ := hn2.count (PySem.Within.cons name v hw)
  refine wpAny_bind (wpAny_lookBehind hoD (by rw [hdD]; exact pastItsLine_dict (Nat.le_trans hcD (by rw [List.length_cons]; omega))) ?_)
  exact wpAny_pure (h _ ⟨(hs2.2 _ (Ne.symm I.ne)).trans I.obj, hn2, I.ne⟩ hs2)

theorem make_map {R : Result → Shared → Prop} {vs : List Value} {kw : List (Str × Value)} (X : K.In s.heap) (hm : PySem.W.makesIn K C = true)
    (hi : PySem.W.findIn K (.ref C) "__init__" = some (some (.ref f))) (hf : PySem.W.typeIn K (.ref f) = some (.type "function"))
    (h : codeAny (model prog w) (A.under (.builtin "type.__call__" ⟨.ref C :: vs, kw⟩)) (.call (.ref f) ⟨.ref (s.heap.objs.size + 1) :: vs, kw⟩) (PySem.W.InitBack (s.heap.objs.size + 1) R)
      { s with heap := (s.heap.push PySem.W.emptyDict).push (PySem.W.instObj C s.heap.objs.size) }) :
    codeAny (model prog w) A (.call (.ref C) ⟨vs, kw⟩) R s := by
  obtain ⟨hh, g, d, t, os⟩ := s
  exact PySem.W.make_core (PySem.W.makes_of X hm) (PySem.W.looks_findIn X hi) (fun self => PySem.W.bind_fn X self hf) (.inl rfl) h
end

def putF (f : Str) (v : V) : List (Str × V) → List (Str × V)
  | [] => [(f, v)]
  | (g, x) :: r => if g = f then (g, v) :: r else (g, x) :: putF f v r
theorem lookup_putF (f g : Str) (v : V) : ∀ fs : List (Str × V), (putF f v fs).lookup g = if g = f then some v else fs.lookup g
  | [] => by
    show List.lookup g [(f, v)] = _
    by_cases h : g = f
    · have hb : (g == f) = true := beq_iff_eq.mpr h
      simp only [List.lookup, hb, if_pos h]
    · have hb : (g == f) = false := beq_eq_false_iff_ne.mpr h
      simp only [List.lookup, hb, if_neg h]
  | (k, x) :: r => by
    have ih := lookup_putF f g v r
    rw [show putF f v ((k, x) :: r) = (if k = f then (k, v) :: r else (k, x) :: putF f v r) from rfl]
    by_cases hk : k = f
    · rw [if_pos hk]
      by_cases h : g = k
      · have hb : (g == k) = true := beq_iff_eq.mpr h
        simp only [List.lookup, hb, if_pos (h.trans hk)]
      · have hb : (g == k) = false := beq_eq_false_iff_ne.mpr h
        simp only [List.lookup, hb, if_neg (fun e : g = f => h (e.trans hk.symm))]
    · rw [if_neg hk]
      by_cases h : g = k
      · have hb : (g == k) = true := beq_iff_eq.mpr h
        simp only [List.lookup, hb, if_neg (fun e : g = f => hk (h.symm.trans e))]
      · have hb : (g == k) = false := beq_eq_false_iff_ne.mpr h
        simp only [List.lookup, hb]
        exact ih
theorem keys_putF (f : Str) (v : V) : ∀ fs : List (Str × V), f ∈ (putF f v fs).map (·.1) ∧ ∀ g, g ∈ fs.map (·.1) → g ∈ (putF f v fs).map (·.1)
  | [] => ⟨by simp [putF], fun g h => by simp at h⟩
  | (k, x) :: r => by
    obtain ⟨i1, i2⟩ := keys_putF f v r
    rw [show putF f v ((k, x) :: r) = (if k = f then (k, v) :: r else (k, x) :: putF f v r) from rfl]
    by_cases hk : k = f
    · rw [if_pos hk]
      subst hk
      exact ⟨by simp, fun g h => by simpa using h⟩
    · rw [if_neg hk]
      refine ⟨?_, fun g h => ?_⟩
      · rw [List.map_cons]
        exact List.mem_cons_of_mem _ i1
      · rw [List.map_cons] at h ⊢
        rcases List.mem_cons.mp h with e | e
        · exact List.mem_cons.mpr (.inl e)
        · exact List.mem_cons_of_mem _ (i2 g e)
theorem length_putF (f : Str) (v : V) : ∀ fs : List (Str × V), (putF f v fs).length ≤ fs.length + 1
  | [] => by simp [putF]
  | (k, x) :: r => by
    have ih := length_putF f v r
    rw [show putF f v ((k, x) :: r) = (if k = f then (k, v) :: r else (k, x) :: putF f v r) from rfl]
    by_cases hk : k = f
    · rw [if_pos hk, List.length_cons, List.length_cons]; omega
    · rw [if_neg hk, List.length_cons, List.length_cons]; omega

theorem RelO.some_of {v : V} {o : Option Value} (r : RelO (some v) o) : ∃ u, o = some u ∧ RelV v u := by
  cases o with
  | none => exact (show False from r).elim
  | some u => exact ⟨u, rfl, r⟩
theorem RelO.none_of {o : Option Value} (r : RelO none o) : o = none := by
  cases o with
  | none => rfl
  | some u => exact (show False from r).elim
theorem handed_of {v : V} {u : Value} (r : RelV v u) : PySem.W.handedIn u = true := by
  cases v with
  | non => cases (show u = Value.none from r); rfl
  | bl b => cases (show u = Value.bool b from r); rfl
  | int i => obtain ⟨t, e⟩ := (show ∃ t, u = Value.int i t from r); cases e; rfl
  | str x => obtain ⟨t, e⟩ := (show ∃ t, u = Value.str x t from r); cases e; rfl
  | byt b => obtain ⟨t, e⟩ := (show ∃ t, u = Value.bytes b t from r); cases e; rfl
  | flt b => obtain ⟨t, e⟩ := (show ∃ t, u = Value.float b t from r); cases e; rfl
  | ref a => cases (show u = Value.ref a from r); rfl
  | ty n => cases (show u = Value.type n from r); rfl

section
variable {P : Program} {w : World} {H H' : Hp} {h h' : Heap} {a C dx : Addr} {fs fs' : List (Str × V)}
theorem ins_get (hok : HOk P w H h) (e : H a = some (.ins C dx fs)) : ∃ mA, ObjM h a dx C mA ∧ (∀ f, RelO (fs.lookup f) (mA f)) ∧ PySem.Within mA (fs.map (·.1)) ∧ fs.length ≤ 1000 ∧ H dx = some (.own a) := by
  obtain ⟨d, z, ne, ob, mA, n, r, q⟩ := (show ObjOk P w H h a (.ins C dx fs) from hok a _ e)
  exact ⟨mA, ⟨ob, n, ne⟩, r, q, z, d⟩
end

structure Cls (K : PySem.W.Frag) (C : Addr) : Prop where
  pg : PySem.W.plainGet K C Str.empty = true
  hd : PySem.W.hasDictIn K C = true
  po : PySem.W.plainOver K C = true
  sa : PySem.W.findIn K (.ref C) "__setattr__" = some (some (.builtin "object.__setattr__"))
theorem Cls.get {K : PySem.W.Frag} {C : Addr} (c : Cls K C) (f : Str) : PySem.W.plainGet K C f = true := c.pg
def NoAttr (K : PySem.W.Frag) (C : Addr) (f : Str) : Prop := PySem.W.findIn K (.ref C) f = some none
theorem NoAttr.taker {K : PySem.W.Frag} {C : Addr} {f : Str} (n : NoAttr K C f) : PySem.W.takerIn K C f = some none := by
  unfold PySem.W.takerIn
  rw [show PySem.W.findIn K (.ref C) f = some none from n]
  rfl
structure Con (K : PySem.W.Frag) (C : Addr) (f : Str) (v : V) (u : Value) : Prop where
  at_ : PySem.W.findIn K (.ref C) f = some (some u)
  rel : RelV v u
  get : PySem.W.specialIn K u "__get__" = some none
  cp : PySem.W.copiedNames.contains f = false
structure Meth (K : PySem.W.Frag) (C : Addr) (m : Str) (f : Addr) : Prop where
  at_ : PySem.W.findIn K (.ref C) m = some (some (.ref f))
  fn : PySem.W.isFn K (.ref f) = true
  kp : PySem.W.keepIn K (.ref f) = true

section
variable {X : Cx} {pins : List (Addr × Obj)} {σ : St} {H : Hp} {s : Shared} {a C dx : Addr} {fs : List (Str × V)} {f : Str} {v : V} {A : Around} {E : Value → Shared → Prop}

theorem getattr_ok {b : Bool} {Q : Value → Shared → Prop} (I : Inv X pins σ H s) (e : H a = some (.ins C dx fs)) (c : Cls X.K C) (n : NoAttr X.K C f) (l : fs.lookup f = some v)
    (h : ∀ u s', Inv X pins σ H s' → RelV v u → Q u s') : wpAny (model X.prog X.w) A (getAttr (.ref a) f b) Q E s := by
  obtain ⟨mA, O, r, _, _, _⟩ := ins_get I.hok e
  obtain ⟨u, hu, ru⟩ := RelO.some_of (v := v) (o := mA f) (by rw [← l]; exact r f)
  exact get_map I.kIn O (c.get f) c.hd n hu (handed_of ru) (h u _ (I.tok _) ru)

theorem getmeth_ok {m : Str} {g : Addr} {pl : Sem Bool} {Q : Value × List Value → Shared → Prop} (I : Inv X pins σ H s) (e : H a = some (.ins C dx fs)) (c : Cls X.K C) (k : Meth X.K C m g) (l : fs.lookup m = none)
    (h : Q (.ref g, [.ref a]) s) : wpAny (model X.prog X.w) A (getMethod (.ref a) m pl) Q E s := by
  obtain ⟨mA, O, r, _, _, _⟩ := ins_get I.hok e
  have hn : mA m = none := RelO.none_of (by rw [← l]; exact r m)
  exact get_meth I.kIn O (c.get m) k.at_ k.fn hn h

theorem setattr_ok {y : V} {u : Value} {Q : Unit → Shared → Prop} (I : Inv X pins σ H s) (e : H a = some (.ins C dx fs)) (c : Cls X.K C) (n : NoAttr X.K C f) (hl : fs.length < 1000) (ry : RelV y u)
    (h : ∀ s', Inv X pins σ (upd H a (.ins C dx (putF f y fs))) s' → Q () s') : wpAny (model X.prog X.w) A (setAttr (.ref a) f u) Q E s := by
  obtain ⟨mA, O, r, wi, _, ho⟩ := ins_get I.hok e
  have hz : (fs.map (·.1)).length ≤ sizeLine := by rw [List.length_map, sizeLine_eq]; omega
  refine set_map I.kIn O c.sa c.po n.taker c.hd wi hz fun h' O' sb => h _ ?_
  have hd : ∃ o, h'.get? dx = some o := let ⟨o, _, _, e', _⟩ := O'.ns; ⟨o, e'⟩
  refine I.write (x := a) (e := dx) (by rw [e]; exact True.intro) (.inr ho) (fun b q hb z => (sb.2 b hb).trans z) hd ?_
  refine ⟨by rw [upd_ne O.ne]; exact ho, ?_, O.ne, O'.obj, _, O'.ns, fun g => ?_, fun g hg => ?_⟩
  · have := length_putF f y fs; omega
  · show RelO ((putF f y fs).lookup g) (if g = f then some u else mA g)
    rw [lookup_putF]
    by_cases q : g = f
    · rw [if_pos q, if_pos q]; exact ry
    · rw [if_neg q, if_neg q]; exact r g
  · by_cases q : g = f
    · rw [q]; exact (keys_putF f y fs).1
    · refine (keys_putF f y fs).2 g (wi g fun z => hg ?_)
      show (if g = f then some u else mA g) = none
      rw [if_neg q]; exact z

theorem Inv.made (I : Inv X pins σ H s) : Inv X pins σ (upd (upd H s.heap.objs.size (.own (s.heap.objs.size + 1))) (s.heap.objs.size + 1) (.ins C s.heap.objs.size []))
    { s with heap := (s.heap.push PySem.W.emptyDict).push (PySem.W.instObj C s.heap.objs.size) } := by
  have e1 : (s.heap.push PySem.W.emptyDict).get? s.heap.objs.size = some PySem.W.emptyDict := Heap.get?_push_size s.heap rfl
  have e2 : ((s.heap.push PySem.W.emptyDict).push (PySem.W.instObj C s.heap.objs.size)).get? (s.heap.objs.size + 1) = some (PySem.W.instObj C s.heap.objs.size) := by
    have := Heap.get?_push_size (s.heap.push PySem.W.emptyDict) (o := PySem.W.instObj C s.heap.objs.size) rfl
    rwa [Heap.size_push] at this
  have e3 : (s.heap.push PySem.W.emptyDict).Ns s.heap.objs.size (fun _ => none) := ⟨PySem.W.emptyDict, #[], _, e1, rfl, (fun e he => absurd he (by simp)), fun _ => rfl⟩
  have I1 := I.laid (a := s.heap.objs.size) (o := .own (s.heap.objs.size + 1)) (h' := s.heap.push PySem.W.emptyDict) (t' := s.toks) (fun b u q => Heap.get?_push_of_some _ q) (Nat.le_refl _) ⟨_, e1⟩
  refine I1.laid (a := s.heap.objs.size + 1) (o := .ins C s.heap.objs.size []) (t' := s.toks) (fun b u q => Heap.get?_push_of_some _ q) (Nat.le_of_eq (Heap.size_push _ _)) ?_
  have ne : s.heap.objs.size ≠ s.heap.objs.size + 1 := Nat.ne_of_lt (Nat.lt_succ_self _)
  refine ⟨by rw [upd_ne ne, upd_same], Nat.zero_le _, ne, e2, fun _ => none, (Heap.Ns1.of_empty e3).at fun o q => Heap.get?_push_of_some _ q, fun _ => True.intro, fun y hy => absurd rfl hy⟩

theorem attr_of {prog : Program} {w : World} {env : Env} {e : Expr} {f : Str} {pos : Pos} {s : Shared} {Q : Value → Shared → Prop} (hb : attributeBase e f env (eval e env) = eval e env)
    (h : wpAny (model prog w) A (eval e env) (fun o s₁ => wpAny (model prog w) A (getAttr o f true) Q E s₁) E s) : wpAny (model prog w) A (eval (.Attribute e f pos) env) Q E s :=
  Attribute_any_ h (by rw [arm_eval_Attribute, hb])
end

def tFld (K : PySem.W.Frag) (ta : TE) (f : Str) : TE := fun σ H Q => ta σ H fun x H1 => ∃ a C dx fs v, x = .ref a ∧ H1 a = some (.ins C dx fs) ∧ Cls K C ∧ NoAttr K C f ∧ fs.lookup f = some v ∧ Q v H1
def sFld (K : PySem.W.Frag) (ta tv : TE) (f : Str) : TS := fun D σ H => tv σ H fun y H1 => ta σ H1 fun x H2 => ∃ a C dx fs, x = .ref a ∧ H2 a = some (.ins C dx fs) ∧ Cls K C ∧ NoAttr K C f ∧ fs.length < 1000 ∧
  D.nx σ (upd H2 a (.ins C dx (putF f y fs)))
section
variable {X : Cx} {o e value : Expr} {f : Str} {pos pos' tpos : Pos} {ta tv : TE}
theorem pe_fld (he : PE X e ta) (hb : attributeBase e f X.env (eval e X.env) = eval e X.env) : PE X (.Attribute e f pos) (tFld X.K ta f) := by
  intro pins s σ H Q I h
  refine attr_of hb (thn (he pins s σ H _ I h) fun u s1 ⟨x, H1, I1, rx, a, C, dx, fs, v, ex, ea, c, n, l, q⟩ => ?_)
  subst ex
  obtain rfl : u = Value.ref a := rx
  exact getattr_ok I1 ea c n l fun u' s2 I2 ru => ⟨v, H1, I2, ru, q⟩
theorem ps_fld (ha : PE X o ta) (hv : PE X value tv) (hs : swapsWith value (some (.Attribute o f pos')) pos.line X.env = pure false) : PS X (.Assign [.Attribute o f pos'] value pos) (sFld X.K ta tv f) := by
  intro pins s σ H D I h
  refine plainObj_wpAny_Assign_Attribute (thn (hv pins s σ H _ I h) fun u s1 ⟨y, H1, I1, ry, q⟩ => thn (ha pins s1 σ H1 _ I1 q) fun ov s2 ⟨x, H2, I2, rx, a, C, dx, fs, ex, ea, c, n, l, q2⟩ => ?_) hs
  subst ex
  obtain rfl : ov = Value.ref a := rx
  exact setattr_ok I2 ea c n l ry fun s3 I3 => ⟨σ, _, I3, q2⟩
end

section
variable {X : Cx} {pins : List (Addr × Obj)} {σ : St} {H : Hp} {s : Shared} {A : Around} {E : Value → Shared → Prop} {Q : Value → Shared → Prop} {c : Value} {b : Bool}
inductive TyOf (K : PySem.W.Frag) (H : Hp) : V → Value → Prop where
  | non : TyOf K H .non (.type "NoneType")
  | bl (x : Bool) : TyOf K H (.bl x) (.type "bool")
  | int (i : Int) : TyOf K H (.int i) (.type "int")
  | str (x : Str) : TyOf K H (.str x) (.type "str")
  | flt (x : UInt64) : TyOf K H (.flt x) (.type "float")
  | lst {a : Addr} {xs : List V} (e : H a = some (.lst xs)) : TyOf K H (.ref a) (.type "list")
  | frz {a : Addr} {o : Obj} {xs : List V} (e : H a = some (.frz o (.lst xs))) : TyOf K H (.ref a) (.type "list")
  | tup {a : Addr} {xs : List V} (e : H a = some (.tup xs)) : TyOf K H (.ref a) (.type "tuple")
  | dK {a : Addr} {kvs : List (Key × V)} (e : H a = some (.dK kvs)) : TyOf K H (.ref a) (.type "dict")
  | dT {a : Addr} {kvs : List (List Key × V)} (e : H a = some (.dT kvs)) : TyOf K H (.ref a) (.type "dict")
  | ins {a C dx : Addr} {fs : List (Str × V)} (e : H a = some (.ins C dx fs)) (cl : Cls K C) (ha : PySem.W.findIn K (.ref C) "__class__" = some (some (.builtin "object.__class__")))
      (hn : PySem.W.specialIn K (.builtin "object.__class__") "__get__" = some (some (.builtin "getset_descriptor.__get__"))) (htk : PySem.W.takesIn K (.builtin "object.__class__") = some true)
      (hm : PySem.W.mroIn K C (.type "object") = some true) : TyOf K H (.ref a) (.ref C)
theorem isinst_ok {x : V} {u t : Value} (I : Inv X pins σ H s) (rx : RelV x u) (ty : TyOf X.K H x t) (e : PySem.W.kitOne X.K t c = some b) (h : ∀ tk, Q (.bool b) { s with toks := tk }) :
    wpAny (model X.prog X.w) A (call (.builtin "isinstance") [u, c]) Q E s := by
  cases ty with
  | non => cases (show u = Value.none from rx); exact PySem.W.kia_one PySem.W.kitx_none I.kIn True.intro e (fun z => nomatch z) h
  | bl y => cases (show u = Value.bool y from rx); exact PySem.W.kia_one PySem.W.kitx_bool I.kIn True.intro e (fun z => nomatch z) h
  | int i => obtain ⟨t, q⟩ := (show ∃ t, u = Value.int i t from rx); cases q; exact PySem.W.kia_one PySem.W.kitx_int I.kIn True.intro e (fun z => nomatch z) h
  | str y => obtain ⟨t, q⟩ := (show ∃ t, u = Value.str y t from rx); cases q; exact PySem.W.kia_one PySem.W.kitx_str I.kIn True.intro e (fun z => nomatch z) h
  | flt y => obtain ⟨t, q⟩ := (show ∃ t, u = Value.float y t from rx); cases q; exact PySem.W.kia_one PySem.W.kitx_float I.kIn True.intro e (fun z => nomatch z) h
  | @lst a xs ea =>
    cases (show u = Value.ref a from rx)
    obtain ⟨_, _, n, _, h1⟩ := (show ObjOk X.prog X.w H s.heap a (.lst xs) from I.hok a _ ea)
    exact PySem.W.kia_one PySem.W.kitx_list I.kIn ⟨_, h1, rfl⟩ e (fun z => nomatch z) h
  | @frz a ob xs ea =>
    cases (show u = Value.ref a from rx)
    obtain ⟨_, _, _, n, _, h1⟩ := (show ObjOk X.prog X.w H s.heap a (.frz ob (.lst xs)) from I.hok a _ ea)
    exact PySem.W.kia_one PySem.W.kitx_list I.kIn ⟨_, h1, rfl⟩ e (fun z => nomatch z) h
  | @tup a xs ea =>
    cases (show u = Value.ref a from rx)
    obtain ⟨_, _, _, p⟩ := (show ObjOk X.prog X.w H s.heap a (.tup xs) from I.hok a _ ea)
    obtain ⟨o, h1, h2, _⟩ := p
    exact PySem.W.kia_one PySem.W.kitx_tuple I.kIn ⟨o, h1, h2⟩ e (fun z => nomatch z) h
  | @dK a kvs ea =>
    cases (show u = Value.ref a from rx)
    obtain ⟨_, _, vs, _, p⟩ := (show ObjOk X.prog X.w H s.heap a (.dK kvs) from I.hok a _ ea)
    obtain ⟨o, es, ep, h1, h2, _⟩ := p
    exact PySem.W.kia_one PySem.W.kitx_dict I.kIn ⟨o, h1, h2.1⟩ e (fun z => nomatch z) h
  | @dT a kvs ea =>
    cases (show u = Value.ref a from rx)
    obtain ⟨_, _, xs, _, o, es, ep, h1, h2, _⟩ := (show ObjOk X.prog X.w H s.heap a (.dT kvs) from I.hok a _ ea)
    exact PySem.W.kia_one PySem.W.kitx_dict I.kIn ⟨o, h1, h2.1⟩ e (fun z => nomatch z) h
  | @ins a C dx fs ea cl ha hn htk hm =>
    cases (show u = Value.ref a from rx)
    obtain ⟨mA, O, _⟩ := ins_get I.hok ea
    obtain ⟨od, J, _⟩ := O.look
    exact PySem.W.kia_one (PySem.W.kitx_own (cl.get _) cl.hd ha hn htk hm) I.kIn J e (fun z => nomatch z) h
end
end L2

namespace L2
open PySem PySem.Spec PyProof.Rows

structure Room (k : Nat) (A : Around) : Prop where
  hd : A.handled = none
  dp : A.depth + 3 * k + 5 < recursionLimit
  un : A.units + 16 * k + 200 < cLine
theorem Room.mono {j k : Nat} {A : Around} (r : Room k A) (h : j ≤ k) : Room j A := ⟨r.hd, by have := r.dp; omega, by have := r.un; omega⟩
theorem Room.deeper {k : Nat} {A : Around} (r : Room (k + 1) A) (env : Env) : Room k (A.deeper env) :=
  ⟨r.hd, by have := r.dp; show A.depth + 1 + 3 * k + 5 < _; omega, by have := r.un; show A.units + 3 + 16 * k + 200 < _; omega⟩
theorem Room.in1 {k : Nat} {A : Around} (r : Room (k + 1) A) : Room k A.in1 :=
  ⟨r.hd, by have := r.dp; show A.depth + 3 * k + 5 < _; omega, by have := r.un; show A.units + 1 + 16 * k + 200 < _; omega⟩
theorem make_depth {A : Around} {C : Addr} {us : List Value} {kw : List (Str × Value)} : (A.under (.builtin "type.__call__" ⟨.ref C :: us, kw⟩)).depth = A.depth + 1 := by
  first | rfl | simp [Around.under, Code.weight, Code.isCreation, Code.isGuard, Code.isCaller, Code.frames, Code.isFrame, guardIds]
theorem make_units {A : Around} {C : Addr} {us : List Value} {kw : List (Str × Value)} : (A.under (.builtin "type.__call__" ⟨.ref C :: us, kw⟩)).units = A.units + 1 := by
  first | rfl | simp [Around.under, Code.cUnits, Code.frames, Code.isFrame]
theorem Room.make {k : Nat} {A : Around} (r : Room (k + 1) A) (C : Addr) (us : List Value) (kw : List (Str × Value)) : Room k (A.under (.builtin "type.__call__" ⟨.ref C :: us, kw⟩)) :=
  ⟨r.hd, by have := r.dp; rw [make_depth]; omega, by have := r.un; rw [make_units]; omega⟩
theorem Room.depth {k : Nat} {A : Around} (r : Room k A) : A.depth < recursionLimit := by have := r.dp; omega
theorem Room.units {k : Nat} {A : Around} (r : Room k A) : A.units + 64 < cLine := by have := r.un; omega
def tNil : TA := fun _ H Q => Q [] H
def tCons (ta : TE) (tr : TA) : TA := fun σ H Q => ta σ H fun x H1 => tr σ H1 fun xs H2 => Q (x :: xs) H2
section
variable {X : Cx} {e : Expr} {es : List Expr} {te : TE} {t : TA} {pos : Pos}
theorem pa_nil : PA X [] tNil := fun _ _ _ _ H Q I h => Calls.spliced_nil ⟨[], H, I, .nil, h⟩
theorem pa_cons (ha : PE X e te) (hr : PA X es t) (hs : starEach (e :: es) X.env = (false, eval e X.env) :: starEach es X.env := by rfl) : PA X (e :: es) (tCons te t) := by
  intro pos pins s σ H Q I h
  rw [hs]
  show wpAny _ _ (spliced ((false, eval e X.env) :: backTo pos (starEach es X.env))) _ _ s
  refine Calls.spliced_cons (thn (ha pins s σ H _ I h) fun u s1 ⟨x, H1, I1, r1, q1⟩ => ?_)
  exact thn (hr pos pins s1 σ H1 _ I1 q1) fun us s2 ⟨xs, H2, I2, r2, q2⟩ => ⟨x :: xs, H2, I2, .cons r1 r2, q2⟩

def tTup (t : TA) : TE := fun σ H Q => t σ H fun xs H1 => xs.length ≤ sizeLine ∧ ∀ p, H1 p = none → Q (.ref p) (upd H1 p (.tup xs))
def tLst (t : TA) : TE := fun σ H Q => t σ H fun xs H1 => xs.length ≤ sizeLine ∧ ∀ p, H1 p = none → Q (.ref p) (upd H1 p (.lst xs))
theorem pe_tup {x1} (h : PA X es t) : PE X (.Tuple es x1 pos) (tTup t) := by
  intro pins s σ H Q I hq
  refine wpAny_Tuple_spliced (thn (h pos pins s σ H _ I hq) fun us s1 ⟨xs, H1, I1, r, z, q⟩ => ⟨by rw [← r.length]; exact z, ?_⟩)
  have hf : H1 s1.heap.objs.size = none := I1.hok.fresh (Nat.le_refl _)
  refine ⟨.ref s1.heap.objs.size, upd H1 s1.heap.objs.size (.tup xs), I1.laid (t' := s1.toks) (fun b u e => Heap.get?_push_of_some _ e) (Nat.le_refl _) ?_, rfl, q _ hf⟩
  exact ⟨z, us, r, ⟨_, Heap.get?_push_size _ rfl, rfl, _, rfl⟩⟩
theorem pe_lst (h : PA X es t) : PE X (.List es pos) (tLst t) := by
  intro pins s σ H Q I hq
  refine wpAny_List_spliced (thn (h pos pins s σ H _ I hq) fun us s1 ⟨xs, H1, I1, r, z, q⟩ => ⟨by rw [← r.length]; exact z, ?_⟩)
  have hf : H1 s1.heap.objs.size = none := I1.hok.fresh (Nat.le_refl _)
  refine ⟨.ref s1.heap.objs.size, upd H1 s1.heap.objs.size (.lst xs), I1.laid (t' := s1.toks) (fun b u e => Heap.get?_push_of_some _ e) (Nat.le_refl _) ?_, rfl, q _ hf⟩
  exact ⟨z, us, 0, r, Heap.get?_push_size _ rfl⟩
end

abbrev Sp := List V → Hp → VK → XK → Prop
abbrev CXT := List Env → Hp → Shared → XK → Value → Shared → Prop

structure Env0 (P : Program) (w : World) (K : PySem.W.Frag) (mg : Str → Option Value) (base : Heap) (A : Around) (outer : List Env) (s : Shared) (H : Hp) : Prop where
  frames : A.frames = some outer
  mod : Mod K mg base
  bs : ∀ b o, base.get? b = some o → s.heap.get? b = some o ∧ H b = none
  bsz : base.objs.size ≤ s.heap.objs.size
  funs : s.heap.FunFrames base outer
  frf : ∀ b ∈ frs outer, H b = none
  hok : HOk P w H s.heap
  bare : AllBare s.gens
def CE (outer : List Env) (P : Program) (w : World) (H : Hp) (s : Shared) (Q : VK) (u : Value) (s' : Shared) : Prop :=
  ∃ v H', s'.os = s.os ∧ AllBare s'.gens ∧ Un (frs outer) [] H H' s.heap s'.heap ∧ HOk P w H' s'.heap ∧ RelV v u ∧ Q v H'
def CR (CX : CXT) (outer : List Env) (P : Program) (w : World) (H : Hp) (s : Shared) (Q : VK) (E : XK) (r : Result) (s' : Shared) : Prop :=
  match r with
  | .ok (.ret u) => CE outer P w H s Q u s'
  | .ok _ => False
  | .error e => CX outer H s E e s'
structure FnOk (P : Program) (w : World) (K : PySem.W.Frag) (mg : Str → Option Value) (base : Heap) (CX : CXT) (k : Nat) (f : Addr) (fd : FuncData) (ps : List Str) (sp : Sp) : Prop where
  len : ∀ vs H Q E, sp vs H Q E → vs.length = ps.length
  run : ∀ (A : Around) (outer : List Env) (s : Shared) (H : Hp) (args : Args) (us : List Value) (vs : List V) (Q : VK) (E : XK), Room k A → Env0 P w K mg base A outer s H → BindsTo s fd args (ps.zip us) → Vals vs us → sp vs H Q E →
    codeAny (model P w) A (.call (.ref f) args) (CR CX outer P w H s Q E) s
theorem FnOk.mono {P : Program} {w : World} {K : PySem.W.Frag} {mg : Str → Option Value} {base : Heap} {CX : CXT} {j k : Nat} {f : Addr} {fd : FuncData} {ps : List Str} {sp : Sp} (F : FnOk P w K mg base CX j f fd ps sp) (h : j ≤ k) :
    FnOk P w K mg base CX k f fd ps sp := ⟨F.len, fun A outer s H args us vs Q E hr => F.run A outer s H args us vs Q E (hr.mono h)⟩
theorem Env0.make {P : Program} {w : World} {K : PySem.W.Frag} {mg : Str → Option Value} {base : Heap} {A : Around} {outer : List Env} {s : Shared} {H : Hp} (e : Env0 P w K mg base A outer s H) (C : Addr) (us : List Value) (kw : List (Str × Value)) :
    Env0 P w K mg base (A.under (.builtin "type.__call__" ⟨.ref C :: us, kw⟩)) outer s H := ⟨by first | exact e.frames | (simpa [Around.under, Code.envs, Code.isFrame, pushEnvs] using e.frames), e.mod, e.bs, e.bsz, e.funs, e.frf, e.hok, e.bare⟩
theorem Env0.in1 {P : Program} {w : World} {K : PySem.W.Frag} {mg : Str → Option Value} {base : Heap} {A : Around} {outer : List Env} {s : Shared} {H : Hp} (e : Env0 P w K mg base A outer s H) :
    Env0 P w K mg base A.in1 outer s H := ⟨e.frames, e.mod, e.bs, e.bsz, e.funs, e.frf, e.hok, e.bare⟩

section
variable {X : Cx} {pins : List (Addr × Obj)} {σ : St} {H : Hp} {s s' : Shared}
theorem Inv.env0 (I : Inv X pins σ H s) : Env0 X.prog X.w X.K X.mg X.base X.A X.stack s H :=
  ⟨I.ok.frames, I.ok.mod, I.bs, Nat.le_trans I.ok.bsz I.sz, I.stack, I.stkFree, I.hok, I.bare⟩
theorem Inv.after {Q : VK} {u : Value} (I : Inv X pins σ H s) (h : CE X.stack X.prog X.w H s Q u s') : EP X pins σ Q u s' := by
  obtain ⟨v, H', os, bare, un, hok, r, q⟩ := h
  obtain ⟨hh, g, d, t, os'⟩ := s'
  obtain rfl : os' = s.os := os
  exact ⟨v, H', I.call (h' := hh) (g' := g) (d' := d) (t' := t) (ch := []) un hok bare (fun b z => absurd z (by simp)), r, q⟩
end

def tCall (sp : Sp) (dvs : List V) (E : XK) (t : TA) : TE := fun σ H Q => t σ H fun vs H1 => sp (vs ++ dvs) H1 Q E
def tMeth (C : Addr) (m : Str) (sp : Sp) (dvs : List V) (E : XK) (ta : TE) (t : TA) : TE := fun σ H Q => ta σ H fun x H1 => ∃ a dx fs, x = .ref a ∧ H1 a = some (.ins C dx fs) ∧ fs.lookup m = none ∧
  t σ H1 fun vs H2 => sp (x :: (vs ++ dvs)) H2 Q E
def tMake (C : Addr) (sp : Sp) (dvs : List V) (E : XK) (t : TA) : TE := fun σ H Q => t σ H fun vs H1 => ∀ x dx, H1 x = none → H1 dx = none → dx ≠ x →
  sp (.ref x :: (vs ++ dvs)) (upd (upd H1 dx (.own x)) x (.ins C dx [])) (fun v H2 => v = .non ∧ Q (.ref x) H2) E

def Binds (K : PySem.W.Frag) (fd : FuncData) (ps : List Str) (ds : List Value) : Prop :=
  ∀ (s : Shared) (us : List Value), K.In s.heap → (us ++ ds).length = ps.length → BindsTo s fd ⟨us, []⟩ (ps.zip (us ++ ds))
theorem Binds.all {K : PySem.W.Frag} {fd : FuncData} {ps : List Str} (h : ∀ us : List Value, us.length = ps.length → bindArgs fd ⟨us, []⟩ = pure (ps.zip us)) : Binds K fd ps [] := fun s us _ hl => by
  rw [List.append_nil] at hl ⊢
  exact .of_eq (h us hl)

def Passes (CX : CXT) (X : Cx) (E : XK) : Prop := ∀ (pins : List (Addr × Obj)) (σ : St) (H : Hp) (s : Shared) (e : Value) (s' : Shared), Inv X pins σ H s → CX X.stack H s E e s' → X.xe e s'

section
variable {X : Cx} {CX : CXT} {k : Nat} {f C : Addr} {fd : FuncData} {ps : List Str} {sp : Sp} {dvs : List V} {ds : List Value} {E : XK} {x m : Str} {p pos apos : Pos} {e o : Expr} {es : List Expr} {ta : TE} {t : TA}

theorem run_fn {pins : List (Addr × Obj)} {σ : St} {H : Hp} {s : Shared} {Q : VK} {us : List Value} {vs : List V} (F : FnOk X.prog X.w X.K X.mg X.base CX k f fd ps sp) (hr : Room k X.A) (hb : Binds X.K fd ps ds) (hd : Vals dvs ds) (hx : Passes CX X E)
    (I : Inv X pins σ H s) (r : Vals vs us) (h : sp (vs ++ dvs) H Q E) : wpAny (model X.prog X.w) X.A (call (.ref f) us) (EP X pins σ Q) X.xe s := by
  have r2 : Vals (vs ++ dvs) (us ++ ds) := r.append hd
  have hl : (us ++ ds).length = ps.length := by rw [← r2.length]; exact F.len _ _ _ _ h
  refine wpAny_call (codeAny_mono (F.run X.A X.stack s H ⟨us, []⟩ (us ++ ds) (vs ++ dvs) Q E hr I.env0 (hb s us I.kIn hl) r2 h) fun r s' hq => ?_)
  cases r with
  | error e => exact hx pins σ H s e s' I hq
  | ok fl =>
    cases fl with
    | ret u => exact I.after hq
    | next => exact False.elim hq
    | brk => exact False.elim hq
    | cont => exact False.elim hq

theorem pe_call (F : FnOk X.prog X.w X.K X.mg X.base CX k f fd ps sp) (hr : Room k X.A) (hg : Gl X x) (hm : X.mg x = some (.ref f)) (hk : PySem.W.keepIn X.K (.ref f) = true) (hb : Binds X.K fd ps ds) (hd : Vals dvs ds) (hx : Passes CX X E)
    (ha : PA X (e :: es) t) (hdb : (x == ("__debug__" : Str)) = false := by decide) (he : starEach (e :: es) X.env = (false, eval e X.env) :: starEach es X.env := by rfl) (hpl : (backTo pos (starEach es X.env)).any (·.1) = false := by rfl) :
    PE X (.Call (.Name x p) (e :: es) [] pos) (tCall sp dvs E t) := by
  intro pins s σ H Q I h
  refine wpAny_Call_Name_kw (ld_glob I hg hm ?_ hdb)
  refine PySem.W.callWith_K (h₀ := X.base) I.ok.mod.kin hk (thn (ha pos pins s σ H _ I h) fun us s1 ⟨vs, H1, I1, r, q⟩ => ⟨I1.kIn, ?_⟩) he hpl
  exact run_fn F hr hb hd hx I1 r q
theorem pe_meth {pl : Sem Bool} (he : PE X o ta) (c : Cls X.K C) (hm : Meth X.K C m f) (F : FnOk X.prog X.w X.K X.mg X.base CX k f fd ps sp) (hr : Room k X.A) (hb : Binds X.K fd ps ds) (hd : Vals dvs ds) (hx : Passes CX X E) (ha : PA X (e :: es) t)
    (hst : starEach (e :: es) X.env = (false, eval e X.env) :: starEach es X.env := by rfl) (hpl : (backTo pos (starEach es X.env)).any (·.1) = false := by rfl)
    (ht : eval (.Call (.Attribute o m apos) (e :: es) [] pos) X.env = (do
      let ov ← eval o X.env
      standAt apos.atName
      let (f, first) ← holding [ov] (getMethod ov m pl)
      callWith pos f first (backTo pos (starEach (e :: es) X.env)) (backToKw pos (keywordEach [] X.env))) := by rfl) :
    PE X (.Call (.Attribute o m apos) (e :: es) [] pos) (tMeth C m sp dvs E ta t) := by
  intro pins s σ H Q I h
  refine PySem.W.methodCall_KW (pl := pl) (thn (he pins s σ H _ I h) fun u s1 ⟨x, H1, I1, rx, a, dx, fs, ex, ea, l, q⟩ => ?_) ht
  subst ex
  obtain rfl : u = Value.ref a := rx
  refine getmeth_ok I1 ea c hm l ?_
  refine PySem.W.callWith_K (first := [.ref a]) (h₀ := X.base) I.ok.mod.kin hm.kp (thn (ha pos pins s1 σ H1 _ I1 q) fun us s2 ⟨vs, H2, I2, r, q2⟩ => ⟨I2.kIn, ?_⟩) hst hpl
  exact run_fn (us := .ref a :: us) (vs := .ref a :: vs) F hr hb hd hx I2 (.cons rfl r) q2
structure Mk (K : PySem.W.Frag) (C f : Addr) : Prop where
  makes : PySem.W.makesIn K C = true
  init : PySem.W.findIn K (.ref C) "__init__" = some (some (.ref f))
  fn : PySem.W.isFn K (.ref f) = true
  kp : PySem.W.keepIn K (.ref C) = true

theorem run_make {pins : List (Addr × Obj)} {σ : St} {H : Hp} {s : Shared} {Q : VK} {us : List Value} {vs : List V} (M : Mk X.K C f) (F : FnOk X.prog X.w X.K X.mg X.base CX k f fd ps sp) (hr : Room (k + 1) X.A) (hb : Binds X.K fd ps ds) (hd : Vals dvs ds)
    (hx : Passes CX X E) (I : Inv X pins σ H s) (r : Vals vs us)
    (h : ∀ x dx, H x = none → H dx = none → dx ≠ x → sp (.ref x :: (vs ++ dvs)) (upd (upd H dx (.own x)) x (.ins C dx [])) (fun v H2 => v = .non ∧ Q (.ref x) H2) E) :
    wpAny (model X.prog X.w) X.A (call (.ref C) us) (EP X pins σ Q) X.xe s := by
  have hq := h (s.heap.objs.size + 1) s.heap.objs.size (I.hok.fresh (Nat.le_succ _)) (I.hok.fresh (Nat.le_refl _)) (Nat.ne_of_lt (Nat.lt_succ_self _))
  have I2 := Inv.made (C := C) I
  have r2 : Vals (V.ref (s.heap.objs.size + 1) :: (vs ++ dvs)) (Value.ref (s.heap.objs.size + 1) :: (us ++ ds)) := .cons rfl (r.append hd)
  have hl : (Value.ref (s.heap.objs.size + 1) :: us ++ ds).length = ps.length := by
    have e := r2.length
    rw [F.len _ _ _ _ hq] at e
    exact e.symm
  refine wpAny_call (make_map (f := f) I.kIn M.makes M.init (beq_iff_eq.mp M.fn) (codeAny_mono (F.run _ X.stack _ _ ⟨Value.ref (s.heap.objs.size + 1) :: us, []⟩ (Value.ref (s.heap.objs.size + 1) :: (us ++ ds)) _ _ E (hr.make C us [])
    (I2.env0.make C us []) (hb _ (Value.ref (s.heap.objs.size + 1) :: us) I2.kIn hl) r2 hq) fun r s' hq' => ?_))
  cases r with
  | error e => exact hx pins σ _ _ e s' I2 hq'
  | ok fl =>
    cases fl with
    | ret u =>
      obtain ⟨v, H', I3, rv, ev, q3⟩ := I2.after hq'
      subst ev
      exact ⟨rv, ⟨V.ref (s.heap.objs.size + 1), H', I3, rfl, q3⟩⟩
    | next => exact False.elim hq'
    | brk => exact False.elim hq'
    | cont => exact False.elim hq'
theorem pe_make (M : Mk X.K C f) (F : FnOk X.prog X.w X.K X.mg X.base CX k f fd ps sp) (hr : Room (k + 1) X.A) (hg : Gl X x) (hm : X.mg x = some (.ref C)) (hb : Binds X.K fd ps ds) (hd : Vals dvs ds) (hx : Passes CX X E)
    (ha : PA X (e :: es) t) (hdb : (x == ("__debug__" : Str)) = false := by decide) (he : starEach (e :: es) X.env = (false, eval e X.env) :: starEach es X.env := by rfl) (hpl : (backTo pos (starEach es X.env)).any (·.1) = false := by rfl) :
    PE X (.Call (.Name x p) (e :: es) [] pos) (tMake C sp dvs E t) := by
  intro pins s σ H Q I h
  refine wpAny_Call_Name_kw (ld_glob I hg hm ?_ hdb)
  refine PySem.W.callWith_K (h₀ := X.base) I.ok.mod.kin M.kp (thn (ha pos pins s σ H _ I h) fun us s1 ⟨vs, H1, I1, r, q⟩ => ⟨I1.kIn, ?_⟩) he hpl
  exact run_make M F hr hb hd hx I1 r q
end

def PK (X : Cx) (kws : List Keyword) (t : TA) : Prop :=
  ∀ (pos : Pos) (pins : List (Addr × Obj)) (s : Shared) (σ : St) (H : Hp) (Q : List V → Hp → Prop), Inv X pins σ H s → t σ H Q → wpAny (model X.prog X.w) X.A (evalAll ((backToKw pos (keywordEach kws X.env)).map (·.2))) (AP X pins σ Q) X.xe s
section
variable {X : Cx} {CX : CXT} {k : Nat} {f C : Addr} {fd : FuncData} {ps ks : List Str} {sp : Sp} {E : XK} {x m : Str} {p pos apos kpos : Pos} {e o : Expr} {es : List Expr} {kws : List Keyword} {te ta : TE} {t tk : TA} {nm : Option Str}
structure KBinds (K : PySem.W.Frag) (fd : FuncData) (ps ks : List Str) (g : List Value → List Value → List Value) (gV : List V → List V → List V) : Prop where
  to : ∀ (s : Shared) (us ws : List Value), K.In s.heap → (g us ws).length = ps.length → BindsTo s fd ⟨us, ks.zip ws⟩ (ps.zip (g us ws))
  rel : ∀ {vs : List V} {us : List Value} {zs : List V} {ws : List Value}, Vals vs us → Vals zs ws → Vals (gV vs zs) (g us ws)
variable {g : List Value → List Value → List Value} {gV : List V → List V → List V}
end

structure FnScope (N P : List Str) (sc : Scope) : Prop where
  kind : sc.kind = .function
  co : sc.isCoroutine = false
  gen : sc.isGenerator = false
  nd : N.Nodup
  pre : N.take P.length = P
  par : ∀ x ∈ P, sc.names.lookup x = some .local ∨ sc.names.lookup x = some .cell
  nofree : ∀ y ∈ sc.names, y.2 ≠ .free

theorem bindL_out {kindOf : Str → Option NameKind} {x : Str} : ∀ {binds : List (Str × Value)} {m : Str → Option Value}, (∀ v, (x, v) ∉ binds) → bindL kindOf binds m x = m x
  | [], _, _ => rfl
  | (n, v) :: r, m, h => by
    unfold bindL
    rw [bindL_out fun w hw => h w (List.mem_cons_of_mem _ hw)]
    split
    · have : x ≠ n := by rintro rfl; exact h v List.mem_cons_self
      simp [this]
    · rfl
theorem bindC_out {kindOf : Str → Option NameKind} {x : Str} : ∀ {binds : List (Str × Value)} {m : Str → Option Value}, (∀ v, (x, v) ∉ binds) → bindC kindOf binds m x = m x
  | [], _, _ => rfl
  | (n, v) :: r, m, h => by
    unfold bindC
    rw [bindC_out fun w hw => h w (List.mem_cons_of_mem _ hw)]
    split
    · rfl
    · have : x ≠ n := by rintro rfl; exact h v List.mem_cons_self
      simp [this]
theorem bindL_get {kindOf : Str → Option NameKind} {x : Str} {v : Value} : ∀ {P : List Str} {vs : List Value} {i : Nat} {m : Str → Option Value}, P.Nodup → P[i]? = some x → vs[i]? = some v → kindOf x = some .local →
    bindL kindOf (P.zip vs) m x = some v
  | [], _, _, _, _, h, _, _ => by simp at h
  | _ :: _, [], _, _, _, _, h, _ => by simp at h
  | p :: P, w :: vs, 0, m, nd, h1, h2, hk => by
    simp at h1 h2; subst h1; subst h2
    show bindL kindOf ((p, w) :: P.zip vs) m p = _
    unfold bindL
    rw [bindL_out fun v hv => (List.nodup_cons.mp nd).1 (List.of_mem_zip hv).1, if_pos hk]
    simp
  | p :: P, w :: vs, i + 1, m, nd, h1, h2, hk => by
    show bindL kindOf ((p, w) :: P.zip vs) m x = _
    unfold bindL
    exact bindL_get (i := i) (List.nodup_cons.mp nd).2 (by simpa using h1) (by simpa using h2) hk
theorem bindC_get {kindOf : Str → Option NameKind} {x : Str} {v : Value} : ∀ {P : List Str} {vs : List Value} {i : Nat} {m : Str → Option Value}, P.Nodup → P[i]? = some x → vs[i]? = some v → kindOf x ≠ some .local →
    bindC kindOf (P.zip vs) m x = some v
  | [], _, _, _, _, h, _, _ => by simp at h
  | _ :: _, [], _, _, _, _, h, _ => by simp at h
  | p :: P, w :: vs, 0, m, nd, h1, h2, hk => by
    simp at h1 h2; subst h1; subst h2
    show bindC kindOf ((p, w) :: P.zip vs) m p = _
    unfold bindC
    rw [bindC_out fun v hv => (List.nodup_cons.mp nd).1 (List.of_mem_zip hv).1, if_neg hk]
    simp
  | p :: P, w :: vs, i + 1, m, nd, h1, h2, hk => by
    show bindC kindOf ((p, w) :: P.zip vs) m x = _
    unfold bindC
    exact bindC_get (i := i) (List.nodup_cons.mp nd).2 (by simpa using h1) (by simpa using h2) hk

def start (N : List Str) (vs : List V) : St := vs.map some ++ List.replicate (N.length - vs.length) none

def cxOf (CX : CXT) (P : Program) (w : World) (K : PySem.W.Frag) (mg : Str → Option Value) (base : Heap) (N : List Str) (qual : Str) (scope : Scope) (f : Addr) (cd : Value) (A : Around) (outer : List Env) (s : Shared) (H : Hp) (E : XK) : Cx where
  prog := P
  w := w
  K := K
  mg := mg
  base := base
  A := A.deeper (envOfC qual scope s.heap.objs.size f cd)
  N := N
  s₀ := s
  H₀ := H
  env := envOfC qual scope s.heap.objs.size f cd
  outer := outer
  stack := envOfC qual scope s.heap.objs.size f cd :: outer
  ex := []
  calm := true
  fn := fun _ => true
  pn := []
  xe := fun e s' => wpAny (model P w) (A.deeper (envOfC qual scope s.heap.objs.size f cd)) (leaving (envOfC qual scope s.heap.objs.size f cd) e) (fun _ s'' => CX outer H s E e s'') (fun e' s'' => CX outer H s E e' s'') s'

theorem cell_has {sc : Scope} {n : Nat} {x : Str} (h : sc.names.lookup x = some .cell) : ∃ c, (cellsFrom n sc.names []).lookup x = some c := by
  have q := PySem.W.cellsFrom_some sc.names n [] (.inl h)
  exact Option.isSome_iff_exists.mp q

theorem inv_start {CX : CXT} {P : Program} {w : World} {K : PySem.W.Frag} {mg : Str → Option Value} {base : Heap} {N ps : List Str} {qual : Str} {scope : Scope} {f : Addr} {cd : Value} {A : Around} {outer : List Env} {s s1 : Shared} {H : Hp} {E : XK} {us : List Value} {vs : List V}
    (S : FnScope N ps scope) (hd : A.handled = none) (e0 : Env0 P w K mg base A outer s H) (hl : vs.length = ps.length) (r : Vals vs us)
    (x : InCallC s s.heap.objs.size (bindL (envOfC qual scope s.heap.objs.size f cd).kindOf (ps.zip us) fun _ => none) (cellsFrom (s.heap.objs.size + 1) scope.names []) (bindC (envOfC qual scope s.heap.objs.size f cd).kindOf (ps.zip us) fun _ => none) s1) :
    Inv (cxOf CX P w K mg base N qual scope f cd A outer s H E) [] (start N vs) H s1 := by
  have hpl : ps.length ≤ N.length := by have := congrArg List.length S.pre; rw [List.length_take] at this; omega
  obtain ⟨h1, tk, rfl, hk⟩ := x.done
  have noA : ∀ b : Addr, b ∉ (cxOf CX P w K mg base N qual scope f cd A outer s H E).ex := fun b z => absurd (show b ∈ ([] : List Addr) from z) (by simp)
  refine ⟨⟨e0.mod, S.kind, rfl, rfl, Nat.le_refl _, fun y z c h1 h2 => ?_, fun y hy => ?_, fun y c _ h => ?_, fun _ => hd, Around.frames_deeper e0.frames, .inr ⟨rfl, rfl⟩, fun b z => absurd z (noA b), e0.bs, e0.bsz, fun b _ _ => noA b, fun b z => absurd z (noA b), e0.funs, e0.frf⟩,
    rfl, e0.bare, Un.kept hk, ⟨_, x.toInCall.ns, fun i y v h1 h2 h3 => ?_⟩, fun y c h => ⟨_, x.cell y c h⟩, e0.hok.fresh (Nat.le_refl _), fun y c h => ?_, fun p hp => absurd (show p ∈ ([] : List (Addr × Obj)) from hp) (by simp), e0.hok.kept hk, ?_⟩
  · exact name_of_addr x.apart (PySem.mem_of_lookup h1) (PySem.mem_of_lookup h2)
  · have hy : scope.names.lookup y = some .cell ∨ scope.names.lookup y = some .free := hy
    rcases hy with hy | hy
    · exact cell_has hy
    · exact absurd rfl (S.nofree _ (PySem.mem_of_lookup hy))
  · exact Nat.le_of_lt (x.above y c (PySem.mem_of_lookup h))
  · have hi : i < vs.length := by
      unfold start at h2
      by_cases hi : i < vs.length
      · exact hi
      · rw [List.getElem?_append_right (by simpa using hi)] at h2
        rw [List.getElem?_replicate] at h2
        split at h2 <;> cases h2
    have ha : vs[i]? = some v := by
      unfold start at h2
      rw [List.getElem?_append_left (by simpa using hi), List.getElem?_map] at h2
      cases e : vs[i]? with
      | none => rw [e] at h2; cases h2
      | some a => rw [e] at h2; cases h2; rfl
    obtain ⟨u, hu, rv⟩ := r.get ha
    have hp : ps[i]? = some y := by
      rw [← S.pre, List.getElem?_take_of_lt (by omega)]; exact h1
    have ndP : ps.Nodup := by rw [← S.pre]; exact S.nd.sublist (List.take_sublist _ _)
    refine ⟨u, rv, ?_⟩
    rcases S.par y (List.mem_of_getElem? hp) with k | k
    · exact .inl ⟨k, bindL_get ndP hp hu k⟩
    · obtain ⟨c, e⟩ := cell_has (n := s.heap.objs.size + 1) k
      refine .inr ⟨.inl k, c, e, ?_⟩
      have q := x.cell y c e
      rw [bindC_get ndP hp hu (by show scope.names.lookup y ≠ _; rw [k]; decide)] at q
      exact q
  · exact e0.hok.fresh (Nat.le_of_lt (x.above y c (PySem.mem_of_lookup h)))
  · unfold start
    show _ = N.length
    rw [List.length_append, List.length_map, List.length_replicate]
    omega

theorem fn_of {CX : CXT} {P : Program} {w : World} {K : PySem.W.Frag} {mg : Str → Option Value} {base : Heap} {k : Nat} {f : Addr} {name qual : Str} {params : Arguments} {body : List Stmt} {scope : Scope} {dV kV doc pm cdv ct oc : Value} {an od : Option Addr}
    {osl : Array (Option Value)} {N ps : List Str} {sp : Sp} (lk : K.lookup f = some ⟨oc, od, .func (PySem.W.fnOf name qual params body scope dV kV doc pm an cdv ct), osl⟩) (hcd : PySem.W.codeIn K cdv qual = true) (S : FnScope N ps scope)
    (len : ∀ vs H Q E, sp vs H Q E → vs.length = ps.length)
    (hbody : ∀ (A : Around) (outer : List Env) (s : Shared) (H : Hp) (vs : List V) (Q : VK) (E : XK), Room k (A.deeper (envOfC qual scope s.heap.objs.size f cdv)) → sp vs H Q E →
      ∃ t, PSs (cxOf CX P w K mg base N qual scope f cdv A outer s H E) body t ∧ t { nx := fun _ H' => Q .non H', rt := Q } (start N vs) H) :
    FnOk P w K mg base CX (k + 1) f (PySem.W.fnOf name qual params body scope dV kV doc pm an cdv ct) ps sp := by
  refine ⟨len, fun A outer s H args us vs Q E hr e0 hb r hsp => ?_⟩
  have hl := len _ _ _ _ hsp
  have KX : K.In s.heap := e0.mod.kin.keeps fun b o e => (e0.bs b o e).1
  have lim : s.heap.NoLimit := e0.mod.nolimit.keeps fun b o e => (e0.bs b o e).1
  have hkind : ∀ y ∈ ps.zip us, scope.names.lookup y.1 = some .local ∨ (scope.names.lookup y.1 = some .cell ∧ ((cellsFrom (s.heap.objs.size + 1) scope.names []).lookup y.1).isSome = true) := fun ⟨n, v⟩ hy => by
    rcases S.par n (List.of_mem_zip hy).1 with q | q
    · exact .inl q
    · exact .inr ⟨q, PySem.W.cellsFrom_some _ _ _ (.inl q)⟩
  refine codeAny_call_function hr.depth (KX _ _ lk) rfl S.co S.gen rfl (PySem.W.codeRec_of KX hcd) (hb _ _ _ _ ?_)
  refine wpAny_newFunctionEnv_cells S.kind hkind fun env he s1 x => ?_
  subst he
  refine ⟨lim.keeps x.toInCall.keep, codeAny_func ?_⟩
  obtain ⟨t, ht, hq⟩ := hbody A outer s H vs Q E (hr.deeper _) hsp
  have I : Inv (cxOf CX P w K mg base N qual scope f cdv A outer s H E) [] (start N vs) H s1 := inv_start S hr.hd e0 hl r x
  refine wpAny_mono (ht [] s1 (start N vs) H _ I hq) (fun fl s' hs => ?_) fun e s' hs => hs
  have fin : ∀ {σ' : St} {H' : Hp} {v : V} {u : Value}, Inv (cxOf CX P w K mg base N qual scope f cdv A outer s H E) [] σ' H' s' → RelV v u → Q v H' → CE outer P w H s Q u s' :=
    fun {σ' H' v u} J rv q => ⟨v, H', J.os, J.bare, J.base, J.hok, rv, q⟩
  cases fl with
  | ret u =>
    obtain ⟨v, σ', H', J, rv, q⟩ := hs
    exact fin J rv q
  | next =>
    obtain ⟨σ', H', J, q⟩ := hs
    exact fin (v := V.non) (u := Value.none) J rfl q
  | brk =>
    obtain ⟨_, _, _, q⟩ := hs
    exact False.elim q
  | cont =>
    obtain ⟨_, _, _, q⟩ := hs
    exact False.elim q
end L2

namespace L2
open PySem PySem.Spec PyProof.Rows
section
variable {X : Cx} {x : Str} {p pos : Pos} {e : Expr} {es : List Expr} {t : TA} {id T : String} {r : List V → Hp → VK → Prop}

def tCB (r : List V → Hp → VK → Prop) (t : TA) : TE := fun σ H Q => t σ H fun vs H1 => r vs H1 Q
theorem pe_callB (hc : CallR X (.builtin id) r) (hg : Gl X x) (hm : X.mg x = none) (hv : bootBuiltins x = some (.builtin id)) (ha : PA X (e :: es) t) (hn : x ≠ "__name__" := by decide) (hdb : (x == ("__debug__" : Str)) = false := by decide)
    (he : starEach (e :: es) X.env = (false, eval e X.env) :: starEach es X.env := by rfl) (hpl : (backTo pos (starEach es X.env)).any (·.1) = false := by rfl) : PE X (.Call (.Name x p) (e :: es) [] pos) (tCB r t) := by
  intro pins s σ H Q I h
  refine wpAny_Call_Name_kw (ld_blt I hg hm hv ?_ hn hdb)
  exact PyProof.Rows.callWith_builtin1 (thn (ha pos pins s σ H _ I h) fun us s1 ⟨vs, H1, I1, r1, q1⟩ => hc pins s1 σ H1 vs us Q I1 r1 q1) he hpl
theorem pe_callTy (hc : CallR X (.type T) r) (hg : Gl X x) (hm : X.mg x = none) (hv : bootBuiltins x = some (.type T)) (ha : PA X (e :: es) t) (hn : x ≠ "__name__" := by decide) (hdb : (x == ("__debug__" : Str)) = false := by decide)
    (he : starEach (e :: es) X.env = (false, eval e X.env) :: starEach es X.env := by rfl) (hpl : (backTo pos (starEach es X.env)).any (·.1) = false := by rfl) : PE X (.Call (.Name x p) (e :: es) [] pos) (tCB r t) := by
  intro pins s σ H Q I h
  refine wpAny_Call_Name_kw (ld_blt I hg hm hv ?_ hn hdb)
  exact PyProof.Rows.callWith_type1 (thn (ha pos pins s σ H _ I h) fun us s1 ⟨vs, H1, I1, r1, q1⟩ => hc pins s1 σ H1 vs us Q I1 r1 q1) he hpl
end
end L2

namespace HT
open PySem PyProof.Rows

section
open PySem.SeqAt
open PySem.AutoSeq1 (wpAny_loadPart')
open PySem.MeetsSeq PySem.MeetsSeq2 PySem.MeetsSeq3

end

section
variable {prog : Program} {w : World} {A : Around} {E : Value → Shared → Prop} {s : Shared}

def sIx (n d : Nat) : Option Int → Nat
  | none => d
  | some v => if v < 0 then (v + (n : Int)).toNat else min v.toNat n
theorem sIx_none (n d : Nat) : sIx n d none = d := rfl
theorem sIx_nat (n d k : Nat) : sIx n d (some (k : Int)) = min k n := by
  show (if (k : Int) < 0 then ((k : Int) + (n : Int)).toNat else min (k : Int).toNat n) = min k n
  rw [if_neg (by omega), Int.toNat_natCast]
end
end HT

namespace L2
open PySem PySem.Spec PyProof.Rows

abbrev TO := St → Hp → (Option Int → Hp → Prop) → Prop
def PO (X : Cx) (e : Option Expr) (t : TO) : Prop :=
  ∀ (pins : List (Addr × Obj)) (s : Shared) (σ : St) (H : Hp) (Q : Option Int → Hp → Prop), Inv X pins σ H s → t σ H Q →
    wpAny (model X.prog X.w) X.A (evalPart e X.env) (fun u s' => ∃ o H', Inv X pins σ H' s' ∧ IsPart u o ∧ Q o H') X.xe s
def tNoPart : TO := fun _ H Q => Q none H
def tPart (t : TE) : TO := fun σ H Q => t σ H fun x H1 => ∃ i, x = .int i ∧ Q (some i) H1

section
variable {X : Cx} {e : Expr} {te : TE} {lo hi : Option Expr} {tl th : TO} {pos p2 : Pos}

theorem po_none : PO X none tNoPart := by
  intro pins s σ H Q I h
  rw [evalPart_none]
  exact wpAny_pure ⟨none, H, I, .none, h⟩
theorem po_some (h : PE X e te) : PO X (some e) (tPart te) := by
  intro pins s σ H Q I hw
  rw [evalPart_some]
  refine thn (h pins s σ H _ I hw) fun u s1 ⟨x, H1, I1, r1, q1⟩ => ?_
  obtain ⟨i, rfl, q⟩ := q1
  obtain ⟨t, rfl⟩ := r1
  exact ⟨some i, H1, I1, .int i t, q⟩

def SlR (X : Cx) (r : V → Option Int → Option Int → Hp → VK → Prop) : Prop :=
  ∀ (pins : List (Addr × Obj)) (s : Shared) (σ : St) (H : Hp) (x : V) (v vl vu : Value) (lo hi : Option Int) (sl : Addr) (Q : VK), Inv X pins σ H s → RelV x v → s.heap.IsSliceOf sl vl vu .none → IsPart vl lo → IsPart vu hi → r x lo hi H Q →
    ∃ T id, typeLookup (.type T) "__getitem__" = pure (some (.builtin id)) ∧ s.TypeIs v T ∧ wpAny (model X.prog X.w) X.A (getItem v (.ref sl)) (EP X pins σ Q) X.xe s
theorem SlR.or {r r' : V → Option Int → Option Int → Hp → VK → Prop} (h : SlR X r) (h' : SlR X r') : SlR X (fun x lo hi H Q => r x lo hi H Q ∨ r' x lo hi H Q) := by
  intro pins s σ H x v vl vu lo hi sl Q I rx hs pl pu q
  rcases q with q | q
  · exact h pins s σ H x v vl vu lo hi sl Q I rx hs pl pu q
  · exact h' pins s σ H x v vl vu lo hi sl Q I rx hs pl pu q
def tSl (r : V → Option Int → Option Int → Hp → VK → Prop) (te : TE) (tl th : TO) : TE := fun σ H Q => te σ H fun x H1 => tl σ H1 fun l H2 => th σ H2 fun u H3 => r x l u H3 Q
theorem pe_slice {r : V → Option Int → Option Int → Hp → VK → Prop} (hr : SlR X r) (he : PE X e te) (hl : PO X lo tl) (hu : PO X hi th) : PE X (.Subscript e (.Slice lo hi none p2) pos) (tSl r te tl th) := by
  intro pins s σ H Q I h
  refine Subscript_ (thn (he pins s σ H _ I h) fun v s1 ⟨x, H1, I1, r1, q1⟩ => ?_)
  refine wpAny_Slice (thn (hl pins s1 σ H1 _ I1 q1) fun vl s2 ⟨l, H2, I2, pl, q2⟩ => thn (hu pins s2 σ H2 _ I2 q2) fun vu s3 ⟨u, H3, I3, pu, q3⟩ => ?_)
  rw [evalPart_none]
  refine wpAny_pure ?_
  have I4 : Inv X pins σ H3 { s3 with heap := s3.heap.push { cls := .type "slice", data := .fields #[vl, vu, .none] } } := I3.kept (t' := s3.toks) fun b ob q => Heap.get?_push_of_some _ q
  obtain ⟨T, id, hT, ht, hg⟩ := hr pins { s3 with heap := s3.heap.push { cls := .type "slice", data := .fields #[vl, vu, .none] } } σ H3 x v vl vu l u s3.heap.objs.size Q I4 r1 (Heap.IsSliceOf.new ..) pl pu q3
  show wpAny (model X.prog X.w) X.A (subscriptTail e (.Slice lo hi none p2) v (.ref s3.heap.objs.size)) (EP X pins σ Q) X.xe { s3 with heap := s3.heap.push { cls := .type "slice", data := .fields #[vl, vu, .none] } }
  exact tail_any (ops := [.ref s3.heap.objs.size, v]) ht hT hg (by with_unfolding_all rfl)

def cutV (xs : List V) (lo hi : Option Int) : List V := (xs.drop (HT.sIx xs.length 0 lo)).take (HT.sIx xs.length xs.length hi - HT.sIx xs.length 0 lo)
theorem cutV_length (xs : List V) (lo hi : Option Int) : (cutV xs lo hi).length ≤ xs.length := by
  unfold cutV
  rw [List.length_take, List.length_drop]
  omega
end
end L2

namespace L2
open PySem PySem.Spec PyProof.Rows

def ixN (n : Nat) (i : Int) : Option Nat := if 0 ≤ i then (if i < n then some i.toNat else none) else if -(n : Int) ≤ i then some (i + n).toNat else none
def atI {α : Type} (xs : List α) (i : Int) : Option α := (ixN xs.length i).bind fun j => xs[j]?
theorem ixN_seq {n : Nat} {i : Int} {j : Nat} (h : ixN n i = some j) : seqIndex? i n = some j ∧ j < n ∧ -(n : Int) ≤ i ∧ i < n := by
  unfold ixN at h
  by_cases h0 : 0 ≤ i
  · rw [if_pos h0] at h
    by_cases h1 : i < n
    · rw [if_pos h1] at h
      have e : i.toNat = j := Option.some.inj h
      exact ⟨by rw [seqIndex_of h0 h1, e], by omega, by omega, h1⟩
    · rw [if_neg h1] at h; cases h
  · rw [if_neg h0] at h
    by_cases h1 : -(n : Int) ≤ i
    · rw [if_pos h1] at h
      have e : (i + n).toNat = j := Option.some.inj h
      exact ⟨by rw [seqIndex_neg (by omega) h1, e], by omega, h1, by omega⟩
    · rw [if_neg h1] at h; cases h
theorem atI_get {α : Type} {xs : List α} {i : Int} {v : α} (h : atI xs i = some v) : ∃ j, seqIndex? i xs.length = some j ∧ xs[j]? = some v ∧ j < xs.length ∧ -(xs.length : Int) ≤ i ∧ i < xs.length := by
  unfold atI at h
  cases e : ixN xs.length i with
  | none => rw [e] at h; cases h
  | some j =>
    rw [e] at h
    obtain ⟨h1, h2, h3, h4⟩ := ixN_seq e
    exact ⟨j, h1, h, h2, h3, h4⟩
theorem atI_nat {α : Type} {xs : List α} {j : Nat} {v : α} (h : xs[j]? = some v) : atI xs (j : Int) = some v := by
  have hj : j < xs.length := (List.getElem?_eq_some_iff.mp h).1
  have e : ixN xs.length (j : Int) = some j := by
    unfold ixN
    rw [if_pos (by omega), if_pos (by omega)]; simp
  unfold atI; rw [e]; exact h
def PlainIx (b : Expr) : Prop := ∀ o i, subscripted b false o i = operate [o, i] (getItem o i)
def IxR (X : Cx) (r : R2) : Prop :=
  ∀ (value slice : Expr) (pins : List (Addr × Obj)) (s : Shared) (σ : St) (H : Hp) (x y : V) (v u : Value) (Q : VK), Inv X pins σ H s → RelV x v → RelV y u → r x y H Q →
    subscripted slice false v u = operate [v, u] (getItem v u) → wpAny (model X.prog X.w) X.A (subscriptTail value slice v u) (EP X pins σ Q) X.xe s
def MtR (X : Cx) (id : String) (r : V → List V → Hp → VK → Prop) : Prop :=
  ∀ (pins : List (Addr × Obj)) (s : Shared) (σ : St) (H : Hp) (x : V) (xs : List V) (v : Value) (us : List Value) (Q : VK), Inv X pins σ H s → RelV x v → Vals xs us → r x xs H Q →
    wpAny (model X.prog X.w) X.A (call (.builtin id) (v :: us)) (EP X pins σ Q) X.xe s
section
variable {X : Cx} {a b : Expr} {ta tb : TE} {pos : Pos}
theorem IxR.or {r r' : R2} (h : IxR X r) (h' : IxR X r') : IxR X (fun x y H Q => r x y H Q ∨ r' x y H Q) := by
  intro value slice pins s σ H x y v u Q I rx ry q hs
  rcases q with q | q
  · exact h value slice pins s σ H x y v u Q I rx ry q hs
  · exact h' value slice pins s σ H x y v u Q I rx ry q hs
theorem MtR.or {id : String} {r r' : V → List V → Hp → VK → Prop} (h : MtR X id r) (h' : MtR X id r') : MtR X id (fun x xs H Q => r x xs H Q ∨ r' x xs H Q) := by
  intro pins s σ H x xs v us Q I rx rs q
  rcases q with q | q
  · exact h pins s σ H x xs v us Q I rx rs q
  · exact h' pins s σ H x xs v us Q I rx rs q
theorem pe_ix {r : R2} (hr : IxR X r) (ha : PE X a ta) (hb : PE X b tb) (hs : PlainIx b) : PE X (.Subscript a b pos) (tOp r ta tb) := by
  intro pins s σ H Q I h
  exact Subscript_ (binT ha hb I h fun v u s2 x y H2 I2 rx ry q => hr a b pins s2 σ H2 x y v u Q I2 rx ry q (hs _ _))

def rIxL (K : PySem.W.Frag) : R2 := fun x y H Q => ∃ p xs i v, x = .ref p ∧ y = .int i ∧ SqL K H p xs ∧ atI xs i = some v ∧ Q v H
def rIxT (K : PySem.W.Frag) : R2 := fun x y H Q => ∃ p xs i v, x = .ref p ∧ y = .int i ∧ SqT K H p xs ∧ atI xs i = some v ∧ Q v H
theorem ix_list : IxR X (rIxL X.K) := by
  intro value slice pins s σ H x y v u Q I rx ry h hs
  obtain ⟨p, xs, i, z, rfl, rfl, hq, he, q⟩ := h
  cases rx
  obtain ⟨t, rfl⟩ := ry
  obtain ⟨its, r, pl, hz⟩ := I.list hq
  obtain ⟨j, h1, h2, h3, h4, h5⟩ := atI_get he
  obtain ⟨w, ew, rw'⟩ := r.get h2
  have hl := r.length
  have hn := line63
  have fin : EP X pins σ Q w s := ⟨z, H, I, rw', q⟩
  by_cases h0 : 0 ≤ i
  · have hj : i.toNat = j := by
      rw [seqIndex_of h0 h5] at h1
      exact Option.some.inj h1
    exact item_listR pl.isList h0 (by omega) (by rw [hj]; simpa using ew) fin hs
  · have hj : (i + (its.toArray.size : Int)).toNat = j := by
      rw [seqIndex_neg (by omega) h4] at h1
      rw [List.size_toArray, ← hl]
      exact Option.some.inj h1
    exact subscriptTail_builtinR (x := w) pl.isList.typeIs slot_list_getitem.lookup
      (wpAny_getItem_list_neg (Q := fun r s' => r = w ∧ EP X pins σ Q r s') pl.isList (by omega) (by rw [List.size_toArray] <;> omega) (by omega) (by rw [hj]; simpa using ew) ⟨rfl, fin⟩) hs
theorem ix_tup : IxR X (rIxT X.K) := by
  intro value slice pins s σ H x y v u Q I rx ry h hs
  obtain ⟨p, xs, i, z, rfl, rfl, hq, he, q⟩ := h
  cases rx
  obtain ⟨t, rfl⟩ := ry
  obtain ⟨its, r, pl, hz⟩ := I.tuple hq
  obtain ⟨j, h1, h2, h3, h4, h5⟩ := atI_get he
  obtain ⟨w, ew, rw'⟩ := r.get h2
  have hl := r.length
  have hn := line63
  have fin : EP X pins σ Q w s := ⟨z, H, I, rw', q⟩
  exact subscriptTail_builtinR (x := w) pl.typeIs slot_tuple_getitem.lookup
    (getItem_tuple (j := j) (Q := fun r s' => r = w ∧ EP X pins σ Q r s') pl (by omega) (by omega) (by rw [List.size_toArray, ← hl]; exact h1) (by simpa using ew) ⟨rfl, fin⟩) hs
theorem Inv.lst {pins : List (Addr × Obj)} {σ : St} {H : Hp} {s : Shared} {p : Addr} {xs : List V} (I : Inv X pins σ H s) (h : H p = some (.lst xs)) :
    ∃ (its : List Value) (n : Nat), Vals xs its ∧ s.heap.get? p = some { cls := .type "list", data := .seq its.toArray n } ∧ xs.length ≤ sizeLine := by
  obtain ⟨z, its, n, r, e⟩ := I.hok p _ h
  exact ⟨its, n, r, e, z⟩
theorem slice_bounds (lo hi : Option Int) (n : Nat) : (sliceBounds lo hi none n).1 = ((HT.sIx n 0 lo : Nat) : Int) ∧ (sliceBounds lo hi none n).2.1 = ((HT.sIx n n hi : Nat) : Int) ∧ (sliceBounds lo hi none n).2.2 = 1 := by
  refine ⟨?_, ?_, rfl⟩
  · cases lo with
    | none => simp [sliceBounds, HT.sIx]
    | some i =>
      simp only [sliceBounds, HT.sIx, Option.getD_none, show (1 : Int) > 0 by decide, if_true]
      by_cases h : i < 0
      · simp only [h, if_true] <;> omega
      · simp only [h, if_false] <;> omega
  · cases hi with
    | none => simp [sliceBounds, HT.sIx]
    | some i =>
      simp only [sliceBounds, HT.sIx, Option.getD_none, show (1 : Int) > 0 by decide, if_true]
      by_cases h : i < 0
      · simp only [h, if_true] <;> omega
      · simp only [h, if_false] <;> omega
theorem slicePick_cut (its : List Value) (lo hi : Option Int) : slicePick its.toArray lo hi none = ((its.drop (HT.sIx its.length 0 lo)).take (HT.sIx its.length its.length hi - HT.sIx its.length 0 lo)).toArray := by
  obtain ⟨h1, h2, h3⟩ := slice_bounds lo hi its.toArray.size
  unfold slicePick
  rw [h1, h2, h3]
  simp only [sliceRange_one, pick_run, List.size_toArray] <;> rfl
def rSlL (K : PySem.W.Frag) : V → Option Int → Option Int → Hp → VK → Prop := fun x lo hi H Q => ∃ a xs, x = .ref a ∧ SqL K H a xs ∧ ∀ p, H p = none → Q (.ref p) (upd H p (.lst (cutV xs lo hi)))
theorem sl_list : SlR X (rSlL X.K) := by
  intro pins s σ H x v vl vu lo hi sl Q I rx hs pl pu h
  obtain ⟨a, xs, rfl, hx, q⟩ := h
  cases rx
  obtain ⟨its, r, ht, hz⟩ := I.list hx
  have hlen := r.length
  refine ⟨"list", _, slot_list_getitem.lookup, ht.isList.typeIs, ?_⟩
  refine wpAny_getItem_list_slice ht.isList hs pl pu .none (by simp) ?_ (by rw [List.size_toArray] <;> omega)
  rw [slicePick_cut, ← hlen]
  refine ⟨.ref s.heap.objs.size, _, I.laid (t' := s.toks) (o := .lst (cutV xs lo hi)) (fun b ob q => Heap.get?_push_of_some _ q) (Nat.le_refl _) ?_, rfl, q _ (I.hok.fresh (Nat.le_refl _))⟩
  exact ⟨Nat.le_trans (cutV_length xs lo hi) hz, _, 0, (r.drop (HT.sIx xs.length 0 lo)).take (HT.sIx xs.length xs.length hi - HT.sIx xs.length 0 lo), Heap.get?_push_size _ rfl⟩

def flatV : V → Bool
  | .non => true
  | .bl _ => true
  | .int _ => true
  | .str _ => true
  | _ => false
def eqV : V → V → Bool
  | .non, .non => true
  | .bl a, .bl b => a == b
  | .bl a, .int b => (if a then 1 else 0) == b
  | .int a, .bl b => a == (if b then 1 else 0)
  | .int a, .int b => a == b
  | .str a, .str b => a == b
  | _, _ => false
theorem eqAt_V {A : Around} {s : Shared} {y x : V} {u v : Value} (ry : RelV y u) (rx : RelV x v) (fy : flatV y = true) (fx : flatV x = true) : SeqAt.EqAt A s u v (eqV y x) := by
  cases y with
  | non =>
    cases ry
    cases x with
    | non => cases rx; exact SeqAt.EqAt.same _
    | bl b => cases rx; exact SeqAt.EqAt.none_bool b
    | int b => obtain ⟨t, rfl⟩ := rx; exact SeqAt.EqAt.none_int b t
    | str b => obtain ⟨t, rfl⟩ := rx; exact SeqAt.EqAt.none_str b t
    | _ => exact absurd (show false = true from fx) Bool.false_ne_true
  | bl a =>
    cases ry
    cases x with
    | non => cases rx; exact SeqAt.EqAt.bool_none a
    | bl b => cases rx; exact SeqAt.EqAt.bool_bool a b
    | int b => obtain ⟨t, rfl⟩ := rx; exact SeqAt.EqAt.bool_int a b t
    | str b => obtain ⟨t, rfl⟩ := rx; exact SeqAt.EqAt.bool_str a b t
    | _ => exact absurd (show false = true from fx) Bool.false_ne_true
  | int a =>
    obtain ⟨t', rfl⟩ := ry
    cases x with
    | non => cases rx; exact SeqAt.EqAt.int_none a t'
    | bl b => cases rx; exact SeqAt.EqAt.int_bool a t' b
    | int b => obtain ⟨t, rfl⟩ := rx; exact SeqAt.EqAt.int_int a t' b t
    | str b => obtain ⟨t, rfl⟩ := rx; exact SeqAt.EqAt.int_str a t' b t
    | _ => exact absurd (show false = true from fx) Bool.false_ne_true
  | str a =>
    obtain ⟨t', rfl⟩ := ry
    cases x with
    | non => cases rx; exact SeqAt.EqAt.str_none a t'
    | bl b => cases rx; exact SeqAt.EqAt.str_bool a t' b
    | int b => obtain ⟨t, rfl⟩ := rx; exact SeqAt.EqAt.str_int a t' b t
    | str b => obtain ⟨t, rfl⟩ := rx; exact SeqAt.EqAt.str_str a t' b t
    | _ => exact absurd (show false = true from fx) Bool.false_ne_true
  | _ => exact absurd (show false = true from fy) Bool.false_ne_true
def eqU (x : V) (u : Value) : Bool := match u with
  | .none => eqV .non x
  | .bool b => eqV (.bl b) x
  | .int i _ => eqV (.int i) x
  | .str z _ => eqV (.str z) x
  | _ => false
theorem eqU_of {x y : V} {u : Value} (r : RelV y u) (f : flatV y = true) : eqU x u = eqV y x := by
  cases y with
  | non => cases r; rfl
  | bl b => cases r; rfl
  | int i => obtain ⟨t, rfl⟩ := r; rfl
  | str z => obtain ⟨t, rfl⟩ := r; rfl
  | _ => exact absurd (show false = true from f) Bool.false_ne_true
theorem any_eqU {x : V} : ∀ {xs : List V} {us : List Value}, Vals xs us → xs.all flatV = true → us.any (eqU x) = xs.any fun y => eqV y x
  | _, _, .nil, _ => rfl
  | y :: xs, u :: us, .cons r t, f => by
    rw [List.all_cons, Bool.and_eq_true] at f
    rw [List.any_cons, List.any_cons, eqU_of r f.1, any_eqU t f.2]
theorem mem_eqAt {A : Around} {s : Shared} {x : V} {v : Value} (rx : RelV x v) (fx : flatV x = true) : ∀ {xs : List V} {us : List Value}, Vals xs us → xs.all flatV = true → ∀ u ∈ us, SeqAt.EqAt A s u v (eqU x u)
  | _, _, .nil, _ => fun u hu => by cases hu
  | y :: xs, u :: us, .cons r t, f => fun u' hu => by
    rw [List.all_cons, Bool.and_eq_true] at f
    rcases List.mem_cons.mp hu with rfl | hu
    · rw [eqU_of r f.1]; exact eqAt_V r rx f.1 fx
    · exact mem_eqAt rx fx t f.2 u' hu
def inV (x : V) (xs : List V) : Bool := xs.any fun y => eqV y x
def rIn (K : PySem.W.Frag) (neg : Bool) : R2 := fun x y H Q => ∃ p xs, y = .ref p ∧ (SqL K H p xs ∨ SqT K H p xs) ∧ flatV x = true ∧ xs.all flatV = true ∧ Q (.bl (if neg then !inV x xs else inV x xs)) H
theorem op_notIn_seq : OpR X (compareOp .NotIn) (rIn X.K true) := by
  intro pins s σ H x y v u Q I rx ry h
  obtain ⟨p, xs, rfl, hq, fx, fs, q⟩ := h
  cases ry
  rcases hq with hq | hq
  · obtain ⟨its, r, pl, hz⟩ := I.list hq
    refine SeqAt.notIn_listAt (eqU x) pl.isList (fun w hw => mem_eqAt rx fx r fs w (by simpa using hw)) ⟨.bl _, H, I, rfl, ?_⟩
    rw [show its.toArray.any (eqU x) = its.any (eqU x) by simp, any_eqU r fs]
    exact q
  · obtain ⟨its, r, pl, hz⟩ := I.tuple hq
    refine SeqAt.notIn_tupleAt (eqU x) pl (fun w hw => mem_eqAt rx fx r fs w (by simpa using hw)) ⟨.bl _, H, I, rfl, ?_⟩
    rw [show its.toArray.any (eqU x) = its.any (eqU x) by simp, any_eqU r fs]
    exact q
theorem call_len_seq : CallR X (.builtin "len") (fun xs H Q => ∃ p ys, xs = [.ref p] ∧ (SqL X.K H p ys ∨ SqT X.K H p ys) ∧ Q (.int ys.length) H) := by
  intro pins s σ H xs us Q I r h
  obtain ⟨p, ys, rfl, hq, q⟩ := h
  obtain ⟨u, rfl, rx⟩ := vals1 r
  cases rx
  have hn := line63
  rcases hq with hq | hq
  · obtain ⟨its, r', pl, hz⟩ := I.list hq
    have hlen := r'.length
    exact Calls.call_len_list pl.isList (by simp only [List.size_toArray] <;> omega) ⟨.int ys.length, H, I.tok _, ⟨s.toks + 1, by rw [List.size_toArray, hlen]⟩, q⟩
  · obtain ⟨its, r', pl, hz⟩ := I.tuple hq
    have hlen := r'.length
    exact len_tuple pl (by simp only [List.size_toArray] <;> omega) ⟨.int ys.length, H, I.tok _, ⟨s.toks + 1, by rw [List.size_toArray, hlen]⟩, q⟩
theorem CallR.or {f : Value} {r r' : List V → Hp → VK → Prop} (h : CallR X f r) (h' : CallR X f r') : CallR X f (fun xs H Q => r xs H Q ∨ r' xs H Q) := by
  intro pins s σ H xs us Q I rs q
  rcases q with q | q
  · exact h pins s σ H xs us Q I rs q
  · exact h' pins s σ H xs us Q I rs q
theorem call_list_of : CallR X (.type "list") (fun xs H Q => ∃ p ys, xs = [.ref p] ∧ (SqL X.K H p ys ∨ SqT X.K H p ys) ∧ ∀ l, H l = none → Q (.ref l) (upd H l (.lst ys))) := by
  intro pins s σ H xs us Q I r h
  obtain ⟨p, ys, rfl, hq, q⟩ := h
  obtain ⟨u, rfl, rx⟩ := vals1 r
  cases rx
  have fin : ∀ (its : List Value), Vals ys its → ys.length ≤ sizeLine → ∀ (h' : Heap) (c' : Nat), (∀ b o', s.heap.get? b = some o' → h'.get? b = some o') →
      h'.get? s.heap.objs.size = some { cls := .type "list", dict := none, data := .seq its.toArray c', slots := #[] } → EP X pins σ Q (.ref s.heap.objs.size) { s with heap := h' } := fun its r' hz h' c' kp e =>
    ⟨.ref s.heap.objs.size, _, I.laid (t' := s.toks) kp (Nat.le_refl _) (show ObjOk X.prog X.w _ h' _ (.lst ys) from ⟨hz, its, c', r', e⟩), rfl, q _ (I.hok.fresh (Nat.le_refl _))⟩
  rcases hq with hq | hq
  · obtain ⟨its, r', pl, hz⟩ := I.list hq
    have hlen := r'.length
    obtain ⟨o, ho, hc, n, hd⟩ := pl.isList
    exact call_list_seq p (.inl rfl) ho hc hd (fun h' c' kp e => fin its r' hz h' c' kp e) (by simp only [List.size_toArray] <;> omega)
  · obtain ⟨its, r', pl, hz⟩ := I.tuple hq
    have hlen := r'.length
    obtain ⟨o, ho, hc, n, hd⟩ := pl
    exact call_list_seq p (.inr rfl) ho hc hd (fun h' c' kp e => fin its r' hz h' c' kp e) (by simp only [List.size_toArray] <;> omega)
def tyV (K : PySem.W.Frag) (T : String) (x : V) (H : Hp) : Prop := match x with
  | .str _ => T = "str"
  | .int _ => T = "int"
  | .ref p => (T = "list" ∧ ∃ xs, SqL K H p xs) ∨ (T = "tuple" ∧ ∃ o, K.lookup p = some o ∧ o.cls = .type "tuple" ∧ o.dict = none) ∨
      (T = "dict" ∧ ((∃ kvs, H p = some (.dK kvs)) ∨ ∃ kvs, H p = some (.dT kvs))) ∨ (T = "set" ∧ ∃ S n, H p = some (.set S n))
  | _ => False
theorem tyV_is {pins : List (Addr × Obj)} {σ : St} {H : Hp} {s : Shared} {T : String} {x : V} {v : Value} (I : Inv X pins σ H s) (r : RelV x v) (ty : tyV X.K T x H) :
    s.TypeIs v T ∧ ∀ a, v = .ref a → ∃ ob, s.heap.get? a = some ob ∧ ob.dict = none := by
  cases x with
  | str z =>
    obtain ⟨t, rfl⟩ := r
    cases (show T = "str" from ty)
    exact ⟨typeIs_str s z t, fun _ e => nomatch e⟩
  | int i =>
    obtain ⟨t, rfl⟩ := r
    cases (show T = "int" from ty)
    exact ⟨typeIs_int s i t, fun _ e => nomatch e⟩
  | ref p =>
    cases r
    rcases ty with ⟨rfl, xs, hq⟩ | ⟨rfl, o, hk, hc, hd⟩ | ⟨rfl, hk⟩ | ⟨rfl, S, n, hk⟩
    · obtain ⟨its, _, pl, _⟩ := I.list hq
      refine ⟨pl.isList.typeIs, fun a e => ?_⟩
      cases e
      obtain ⟨o, n, e, c, hd, _⟩ := pl
      exact ⟨o, e, hd⟩
    · refine ⟨⟨o, I.kIn p o hk, hc⟩, fun a e => ?_⟩
      cases e
      exact ⟨o, I.kIn _ o hk, hd⟩
    · have z : ∃ o, s.heap.get? p = some o ∧ o.ExactDict := by
        rcases hk with ⟨kvs, hk⟩ | ⟨kvs, hk⟩
        · obtain ⟨_, _, _, _, o, _, _, e, ex, _⟩ := I.hok p _ hk
          exact ⟨o, e, ex⟩
        · obtain ⟨_, _, _, _, o, _, _, e, ex, _⟩ := I.hok p _ hk
          exact ⟨o, e, ex⟩
      obtain ⟨o, e, ex⟩ := z
      refine ⟨⟨o, e, ex.1⟩, fun a e2 => ?_⟩
      cases e2
      exact ⟨o, e, ex.2.1⟩
    · obtain ⟨o, _, _, _, e, ex, _⟩ := I.hok p _ hk
      refine ⟨⟨o, e, ex.1⟩, fun a e2 => ?_⟩
      cases e2
      exact ⟨o, e, ex.2.1⟩
  | _ => exact False.elim ty
def tBM0 (K : PySem.W.Frag) (T : String) (r : V → List V → Hp → VK → Prop) (to : TE) : TE := fun σ H Q => to σ H fun x H1 => tyV K T x H1 ∧ r x [] H1 Q
def tBM (K : PySem.W.Frag) (T : String) (r : V → List V → Hp → VK → Prop) (to : TE) (t : TA) : TE := fun σ H Q => to σ H fun x H1 => tyV K T x H1 ∧ t σ H1 fun xs H2 => r x xs H2 Q
variable {o e : Expr} {es : List Expr} {to : TE} {t : TA} {name : Str} {apos cpos : Pos} {T id : String} {r : V → List V → Hp → VK → Prop}
theorem pe_bm0 (pa : PlainAttrs T) (slot : Slot T name id) (hty : typeOf (.builtin id) = pure (.type "method_descriptor")) (hm : MtR X id r) (ho : PE X o to)
    (hbase : attributeBase o name X.env (eval o X.env) = eval o X.env := by rfl) (hline : (apos.endLine == cpos.line) = true := by rfl) : PE X (.Call (.Attribute o name apos) [] [] cpos) (tBM0 X.K T r to) := by
  intro pins s σ H Q I h
  refine wpAny_Call_method0_late hbase hline (thn (ho pins s σ H _ I h) fun v s1 ⟨x, H1, I1, r1, ty, q1⟩ => ?_)
  obtain ⟨h1, h2⟩ := tyV_is I1 r1 ty
  exact ⟨T, id, pa, slot, hty, h1, h2, Calls.callWith_builtin rfl (PySem.evalArgs_none (hm pins s1 σ H1 x [] v [] Q I1 r1 .nil q1))⟩
theorem pe_bm (pa : PlainAttrs T) (slot : Slot T name id) (hty : typeOf (.builtin id) = pure (.type "method_descriptor")) (hm : MtR X id r) (ho : PE X o to) (ha : PA X (e :: es) t)
    (hbase : attributeBase o name X.env (eval o X.env) = eval o X.env := by rfl)
    (hfew : ((backTo cpos (starEach (e :: es) X.env)).all (fun x => !x.1) && (backToKw cpos (keywordEach [] X.env)).all (fun x => x.1.isSome)
      && decide ((e :: es).length + ([] : List Keyword).length + (if ([] : List Keyword).isEmpty then 0 else 1) < 30)) = true := by rfl)
    (hline : (apos.endLine == cpos.line) = true := by rfl) (hs : starEach (e :: es) X.env = (false, eval e X.env) :: starEach es X.env := by rfl) (hplain : (backTo cpos (starEach es X.env)).any (·.1) = false := by rfl) :
    PE X (.Call (.Attribute o name apos) (e :: es) [] cpos) (tBM X.K T r to t) := by
  intro pins s σ H Q I h
  refine wpAny_Call_method_late hbase hfew hline rfl (thn (ho pins s σ H _ I h) fun v s1 ⟨x, H1, I1, r1, ty, q1⟩ => ?_)
  obtain ⟨h1, h2⟩ := tyV_is I1 r1 ty
  refine ⟨T, id, pa, slot, hty, h1, h2, ?_⟩
  have hA := ha cpos pins s1 σ H1 _ I1 q1
  rw [hs] at hA ⊢
  refine Calls.callWith_builtin (by show (false || (backTo cpos (starEach es X.env)).any (·.1)) = false; rw [hplain] <;> rfl) (Calls.evalArgs_plain ?_)
  exact thn hA fun us s2 ⟨vs, H2, I2, r2, q2⟩ => hm pins s2 σ H2 x vs v us Q I2 r1 r2 q2
/- xs.append(e), list.index on a module's tuple .. are MtR facts of 06m -/
end
end L2

namespace L2
open PySem PySem.Spec PyProof.Rows

def MtM (X : Cx) (id : String) (r : V → List V → Hp → VK → Prop) : Prop :=
  ∀ (pins : List (Addr × Obj)) (s : Shared) (σ : St) (H : Hp) (x : V) (xs : List V) (v : Value) (us : List Value) (Q : VK), Inv X pins σ H s → RelV x v → Vals xs us → r x xs H Q →
    wpAny (model X.prog X.w) X.A (call (.builtin id) (v :: us)) (EP X pins σ Q) X.xe s

theorem Vals.one : ∀ {x : V} {us : List Value}, Vals [x] us → ∃ u, us = [u] ∧ RelV x u
  | _, _, .cons r .nil => ⟨_, rfl, r⟩
theorem Vals.zero : ∀ {us : List Value}, Vals [] us → us = []
  | _, .nil => rfl
theorem Vals.dropLast {xs : List V} {us : List Value} (h : Vals xs us) : Vals xs.dropLast us.dropLast := by
  induction h with
  | nil => exact .nil
  | cons r t ih =>
    cases t with
    | nil => exact .nil
    | cons q t' => exact .cons r ih
theorem Vals.reverse {xs : List V} {us : List Value} (h : Vals xs us) : Vals xs.reverse us.reverse := by
  induction h with
  | nil => exact .nil
  | cons r t ih => rw [List.reverse_cons, List.reverse_cons]; exact Vals.append ih (.cons r .nil)
theorem Vals.rep {xs : List V} {us : List Value} (h : Vals xs us) : ∀ k : Nat, Vals (List.replicate k xs).flatten (List.replicate k us).flatten
  | 0 => .nil
  | k + 1 => by
    rw [List.replicate_succ, List.replicate_succ, List.flatten_cons, List.flatten_cons]
    exact Vals.append h (Vals.rep h k)
section
variable {X : Cx} {pins : List (Addr × Obj)} {σ : St} {H : Hp} {s : Shared} {l b : Addr} {xs ys zs : List V}

theorem Inv.lset {its its' : List Value} {n : Nat} {f : Array Value → Array Value} {t' : Nat} (I : Inv X pins σ H s) (hH : H l = some (.lst xs))
    (e : s.heap.get? l = some { cls := .type "list", data := .seq its.toArray n }) (hf : f its.toArray = its'.toArray) (hv : Vals ys its') (hz : ys.length ≤ sizeLine) :
    Inv X pins σ (upd H l (.lst ys)) { s with heap := s.heap.update l (Obj.mapSeq f), toks := t' } := by
  have q := PySem.IsL.update e f
  rw [hf] at q
  refine I.write (x := l) (e := l) (by rw [hH]; exact trivial) (.inl rfl) (fun b' u hb hu => (Heap.get?_update_other s.heap (Obj.mapSeq f) (Ne.symm hb)).trans hu) ⟨_, q⟩ ?_
  exact ⟨hz, its', _, hv, q⟩
theorem Inv.lnew {its : List Value} {t' : Nat} (I : Inv X pins σ H s) (hv : Vals ys its) (hz : ys.length ≤ sizeLine) :
    Inv X pins σ (upd H s.heap.objs.size (.lst ys)) { s with heap := s.heap.push { cls := .type "list", data := .seq its.toArray }, toks := t' } :=
  I.laid (fun _ _ q => Heap.get?_push_of_some _ q) (Nat.le_refl _) ⟨hz, its, 0, hv, Heap.get?_push_size _ rfl⟩
theorem Inv.fresh (I : Inv X pins σ H s) : H s.heap.objs.size = none := I.hok.fresh (Nat.le_refl _)
theorem Inv.lstM (I : Inv X pins σ H s) (hH : H l = some (.lst xs)) : xs.length ≤ sizeLine ∧ ∃ (its : List Value) (n : Nat), Vals xs its ∧ xs.length = its.length ∧ s.heap.get? l = some { cls := .type "list", data := .seq its.toArray n } := by
  obtain ⟨z, its, n, r, e⟩ := I.hok l _ hH
  exact ⟨z, its, n, r, r.length, e⟩

end

section
variable {X : Cx}

def rAppend : V → List V → Hp → VK → Prop := fun x vs H Q => ∃ l xs y, x = .ref l ∧ vs = [y] ∧ H l = some (.lst xs) ∧ xs.length < sizeLine ∧ Q .non (upd H l (.lst (xs ++ [y])))
theorem mt_append : MtM X "list.append" rAppend := by
  intro pins s σ H x vs v us Q I rx rv h
  obtain ⟨l, xs, y, rfl, rfl, hH, hz, q⟩ := h
  cases rx
  obtain ⟨u, rfl, ru⟩ := rv.one
  obtain ⟨z, its, n, r, hl, e⟩ := I.lstM hH
  refine call_meets F.slot_list_append ⟨_, e, rfl⟩ F.entry_list_append (F.args_list_append_2 _ _) (PySem.list_append l its.toArray n u (by rw [List.size_toArray]; omega)) ⟨e, ?_⟩
  refine ⟨.non, _, I.lset (its' := its ++ [u]) hH e (by simp) (r.append (.cons ru .nil)) ?_, rfl, q⟩
  rw [List.length_append, List.length_singleton]
  omega

def rReverse : V → List V → Hp → VK → Prop := fun x vs H Q => ∃ l xs, x = .ref l ∧ vs = [] ∧ H l = some (.lst xs) ∧ Q .non (upd H l (.lst xs.reverse))
theorem mt_reverse : MtM X "list.reverse" rReverse := by
  intro pins s σ H x vs v us Q I rx rv h
  obtain ⟨l, xs, rfl, rfl, hH, q⟩ := h
  cases rx
  have hus := rv.zero
  subst hus
  obtain ⟨z, its, n, r, hl, e⟩ := I.lstM hH
  refine call_meets F.slot_list_reverse ⟨_, e, rfl⟩ F.entry_list_reverse (F.args_list_reverse_1 _) (AutoSeq1.list_reverse_list_0 l its.toArray n (by rw [List.size_toArray]; omega)) ⟨e, ?_⟩
  refine ⟨.non, _, I.lset (its' := its.reverse) hH e (by simp) r.reverse ?_, rfl, q⟩
  rw [List.length_reverse]
  omega

def rCat : R2 := fun x y H Q => ∃ l b xs zs, x = .ref l ∧ y = .ref b ∧ H l = some (.lst xs) ∧ H b = some (.lst zs) ∧ xs.length + zs.length ≤ sizeLine ∧ ∀ p, H p = none → Q (.ref p) (upd H p (.lst (xs ++ zs)))
theorem op_cat : OpR X (binaryOp .Add) rCat := by
  intro pins s σ H x y v u Q I rx ry h
  obtain ⟨l, b, xs, zs, rfl, rfl, hH, hB, hz, q⟩ := h
  cases rx
  cases ry
  obtain ⟨z, its, n, r, hl, e⟩ := I.lstM hH
  obtain ⟨z2, its2, n2, r2, hl2, e2⟩ := I.lstM hB
  refine PySem.P.add_list e e2 ?_ (by rw [List.size_toArray, List.size_toArray]; omega)
  have ea : its.toArray ++ its2.toArray = (its ++ its2).toArray := by simp
  rw [ea]
  exact ⟨.ref _, _, I.lnew (t' := s.toks) (r.append r2) (by rw [List.length_append]; omega), rfl, q _ I.fresh⟩
end


end L2

namespace L2
open PySem PySem.Spec PyProof.Rows

section
variable {κ : Type} [DecidableEq κ]
def valV (kvs : List (κ × V)) (k : κ) : Option V := (kvs.find? fun kv => decide (kv.1 = k)).map (·.2)
def putK (kvs : List (κ × V)) (k : κ) (v : V) : List (κ × V) :=
  if (kvs.any fun kv => decide (kv.1 = k)) = true then kvs.map (fun kv => if kv.1 = k then (kv.1, v) else kv) else kvs ++ [(k, v)]
def dropK (kvs : List (κ × V)) (k : κ) : List (κ × V) := kvs.filter fun kv => decide (kv.1 ≠ k)

theorem valV_pos {p : κ × V} {r : List (κ × V)} {k : κ} (e : p.1 = k) : valV (p :: r) k = some p.2 := by simp [valV, List.find?_cons, e]
theorem valV_neg {p : κ × V} {r : List (κ × V)} {k : κ} (e : ¬ p.1 = k) : valV (p :: r) k = valV r k := by simp [valV, List.find?_cons, e]
theorem valV_any (k : κ) : ∀ kvs : List (κ × V), (kvs.any fun kv => decide (kv.1 = k)) = (valV kvs k).isSome
  | [] => rfl
  | p :: r => by
    rw [List.any_cons]
    by_cases e : p.1 = k
    · simp only [valV_pos e, decide_eq_true e, Bool.true_or, Option.isSome_some]
    · rw [valV_neg e, decide_eq_false e, Bool.false_or]; exact valV_any k r
theorem valV_map (k j : κ) (y : V) : ∀ kvs : List (κ × V), valV (kvs.map fun kv => if kv.1 = k then (kv.1, y) else kv) j = (valV kvs j).map fun x => if j = k then y else x
  | [] => rfl
  | p :: r => by
    have ih := valV_map k j y r
    rw [List.map_cons]
    by_cases h : p.1 = k
    · rw [if_pos h]
      by_cases e : p.1 = j
      · rw [valV_pos (p := (p.1, y)) e, valV_pos e, Option.map_some, if_pos (e.symm.trans h)]
      · rw [valV_neg (p := (p.1, y)) e, valV_neg e, ih]
    · rw [if_neg h]
      by_cases e : p.1 = j
      · rw [valV_pos (p := p) e, valV_pos e, Option.map_some, if_neg (fun z => h (e.trans z))]
      · rw [valV_neg (p := p) e, valV_neg e, ih]
theorem valV_snoc (k j : κ) (y : V) : ∀ kvs : List (κ × V), valV kvs k = none → valV (kvs ++ [(k, y)]) j = if j = k then some y else valV kvs j
  | [], _ => by
    by_cases e : k = j
    · rw [if_pos e.symm]; exact valV_pos (p := (k, y)) e
    · rw [if_neg (fun z => e z.symm)]; exact valV_neg (p := (k, y)) e
  | p :: r, hn => by
    rw [List.cons_append]
    have hk : ¬ p.1 = k := fun z => by rw [valV_pos z] at hn; cases hn
    rw [valV_neg hk] at hn
    have ih := valV_snoc k j y r hn
    by_cases e : p.1 = j
    · rw [valV_pos e, valV_pos e, if_neg (fun z => hk (e.trans z))]
    · rw [valV_neg e, valV_neg e, ih]
theorem valV_put (kvs : List (κ × V)) (k j : κ) (y : V) : valV (putK kvs k y) j = if j = k then some y else valV kvs j := by
  unfold putK
  by_cases a : (kvs.any fun kv => decide (kv.1 = k)) = true
  · rw [if_pos a, valV_map]
    rw [valV_any] at a
    by_cases e : j = k
    · obtain ⟨x, hx⟩ := Option.isSome_iff_exists.mp a
      rw [if_pos e, e, hx, Option.map_some, if_pos rfl]
    · rw [if_neg e]
      cases valV kvs j with
      | none => rfl
      | some x => rw [Option.map_some, if_neg e]
  · rw [if_neg a]
    refine valV_snoc k j y kvs ?_
    rw [valV_any] at a
    cases q : valV kvs k with
    | none => rfl
    | some x => rw [q] at a; exact (a rfl).elim
theorem length_putK (kvs : List (κ × V)) (k : κ) (v : V) : (putK kvs k v).length ≤ kvs.length + 1 := by
  unfold putK
  split
  · rw [List.length_map]; omega
  · rw [List.length_append, List.length_cons, List.length_nil]; omega
theorem RelO.isSome_eq {o : Option V} {u : Option Value} (r : RelO o u) : o.isSome = u.isSome := by
  cases o with
  | none => cases u with
    | none => rfl
    | some _ => exact (show False from r).elim
  | some _ => cases u with
    | none => exact (show False from r).elim
    | some _ => rfl
theorem RelO.getD {o : Option V} {u : Option Value} {d : V} {d' : Value} (r : RelO o u) (rd : RelV d d') : RelV (o.getD d) (u.getD d') := by
  cases o with
  | none => cases u with
    | none => exact rd
    | some _ => exact (show False from r).elim
  | some _ => cases u with
    | none => exact (show False from r).elim
    | some _ => exact r

theorem KV.val {kvs : List (κ × V)} {vs : List (κ × Value)} (r : KV kvs vs) (k : κ) : RelO (valV kvs k) (valueAt vs k) := by
  unfold KV at r
  induction r with
  | nil => exact True.intro
  | @cons p q ps qs h t ih =>
    obtain ⟨h1, h2⟩ := h
    by_cases e : p.1 = k
    · have e' : q.1 = k := h1.symm.trans e
      have b : valueAt (q :: qs) k = some q.2 := by simp [valueAt, List.find?_cons, e']
      rw [valV_pos e, b]; exact h2
    · have e' : ¬ q.1 = k := fun z => e (h1.trans z)
      have b : valueAt (q :: qs) k = valueAt qs k := by simp [valueAt, List.find?_cons, e']
      rw [valV_neg e, b]; exact ih
theorem KV.any {kvs : List (κ × V)} {vs : List (κ × Value)} (r : KV kvs vs) (k : κ) : (kvs.any fun kv => decide (kv.1 = k)) = vs.any fun kv => decide (kv.1 = k) := by
  unfold KV at r
  induction r with
  | nil => rfl
  | cons h t ih => rw [List.any_cons, List.any_cons, ih, h.1]
theorem KV.repl {kvs : List (κ × V)} {vs : List (κ × Value)} (r : KV kvs vs) (k : κ) {y : V} {u : Value} (ry : RelV y u) :
    KV (kvs.map fun kv => if kv.1 = k then (kv.1, y) else kv) (vs.map fun kv => if kv.1 = k then (kv.1, u) else kv) := by
  unfold KV at r ⊢
  induction r with
  | nil => exact .nil
  | @cons p q ps qs h t ih =>
    rw [List.map_cons, List.map_cons]
    refine .cons ?_ ih
    obtain ⟨h1, h2⟩ := h
    by_cases e : p.1 = k
    · rw [if_pos e, if_pos (h1.symm.trans e)]; exact ⟨h1, ry⟩
    · rw [if_neg e, if_neg (fun z => e (h1.trans z))]; exact ⟨h1, h2⟩
theorem KV.put {kvs : List (κ × V)} {vs : List (κ × Value)} (r : KV kvs vs) (k : κ) {y : V} {u : Value} (ry : RelV y u) : KV (putK kvs k y) (stored vs k u) := by
  unfold putK stored
  rw [r.any k]
  by_cases e : (vs.any fun kv => decide (kv.1 = k)) = true
  · rw [if_pos e, if_pos e]; exact r.repl k ry
  · rw [if_neg e, if_neg e]; exact Paired.snoc r ⟨rfl, ry⟩
theorem KV.drop {kvs : List (κ × V)} {vs : List (κ × Value)} (r : KV kvs vs) (k : κ) : KV (dropK kvs k) (without vs k) := by
  unfold KV at r ⊢
  unfold dropK without
  induction r with
  | nil => exact .nil
  | @cons p q ps qs h t ih =>
    obtain ⟨h1, h2⟩ := h
    rw [List.filter_cons, List.filter_cons]
    by_cases e : p.1 = k
    · have a : ¬ decide (p.1 ≠ k) = true := by simp [e]
      have b : ¬ decide (q.1 ≠ k) = true := by simp [h1.symm.trans e]
      rw [if_neg a, if_neg b]; exact ih
    · have e' : ¬ q.1 = k := fun z => e (h1.trans z)
      have a : decide (p.1 ≠ k) = true := by simp [e]
      have b : decide (q.1 ≠ k) = true := by simp [e']
      rw [if_pos a, if_pos b]; exact .cons ⟨h1, h2⟩ ih
theorem KV.keys {kvs : List (κ × V)} {vs : List (κ × Value)} (r : KV kvs vs) : kvs.map (·.1) = vs.map (·.1) := by
  unfold KV at r
  induction r with
  | nil => rfl
  | cons h t ih => rw [List.map_cons, List.map_cons, ih, h.1]
theorem KV.length {kvs : List (κ × V)} {vs : List (κ × Value)} (r : KV kvs vs) : kvs.length = vs.length := Paired.length r
end


theorem kV_is {P : Program} {w : World} {k : Key} {u : Value} (r : RelV (kV k) u) : (mixKind P w).is k u = true := by
  cases k with
  | inl i => obtain ⟨t, e⟩ := (show ∃ t, u = Value.int i t from r); subst e; exact mixKind_int P w i t
  | inr x => obtain ⟨t, e⟩ := (show ∃ t, u = Value.str x t from r); subst e; exact mixKind_str P w x t
theorem items_are {P : Program} {w : World} : ∀ {ks : List Key} {us : List Value}, Vals (ks.map kV) us → ItemsAre (mixKind P w) ks us
  | [], _, r => by rw [List.map_nil] at r; cases r; exact .nil
  | k :: ks, _, r => by
    rw [List.map_cons] at r
    cases r with
    | cons h t => exact .cons (kV_is h) (items_are t)

abbrev KT (H : Hp) : List (List Key × V) → List (List Key × Addr × Value) → Prop := Paired fun p q => p.1 = q.1 ∧ H q.2.1 = some (.tup (p.1.map kV)) ∧ RelV p.2 q.2.2
theorem KT.val {H : Hp} {kvs : List (List Key × V)} {xs : List (List Key × Addr × Value)} (r : KT H kvs xs) (k : List Key) : RelO (valV kvs k) ((atKey xs k).map (·.2)) := by
  induction r with
  | nil => exact True.intro
  | @cons p q ps qs h t ih =>
    obtain ⟨h1, _, h2⟩ := h
    by_cases e : p.1 = k
    · have e' : q.1 = k := h1.symm.trans e
      have b : atKey (q :: qs) k = some q.2 := by simp [atKey, List.find?_cons, e']
      rw [valV_pos e, b]; exact h2
    · have e' : ¬ q.1 = k := fun z => e (h1.trans z)
      have b : atKey (q :: qs) k = atKey qs k := by simp [atKey, List.find?_cons, e']
      rw [valV_neg e, b]; exact ih
theorem KT.repl {H : Hp} {kvs : List (List Key × V)} {xs : List (List Key × Addr × Value)} (r : KT H kvs xs) (k : List Key) {y : V} {u : Value} (ry : RelV y u) :
    KT H (kvs.map fun kv => if kv.1 = k then (kv.1, y) else kv) (xs.map (putAt k u)) := by
  induction r with
  | nil => exact .nil
  | @cons p q ps qs h t ih =>
    rw [List.map_cons, List.map_cons]
    refine .cons ?_ ih
    obtain ⟨h1, h2, h3⟩ := h
    unfold putAt
    by_cases e : p.1 = k
    · rw [if_pos e, if_pos (h1.symm.trans e)]; exact ⟨h1, h2, ry⟩
    · rw [if_neg e, if_neg (fun z => e (h1.trans z))]; exact ⟨h1, h2, h3⟩
theorem KT.put {H : Hp} {kvs : List (List Key × V)} {xs : List (List Key × Addr × Value)} (r : KT H kvs xs) (k : List Key) {b : Addr} {y : V} {u : Value} (hb : H b = some (.tup (k.map kV))) (ry : RelV y u) :
    KT H (putK kvs k y) (storedH xs k b u) := by
  have e : (kvs.any fun kv => decide (kv.1 = k)) = (atKey xs k).isSome := by
    rw [valV_any, (r.val k).isSome_eq, Option.isSome_map]
  unfold putK storedH
  rw [e]
  by_cases q : (atKey xs k).isSome = true
  · rw [if_pos q, if_pos q]; exact r.repl k ry
  · rw [if_neg q, if_neg q]; exact Paired.snoc r ⟨rfl, hb, ry⟩
theorem KT.keeps {H H' : Hp} {kvs : List (List Key × V)} {xs : List (List Key × Addr × Value)} (r : KT H kvs xs) (ht : ∀ b ys, H b = some (.tup ys) → H' b = some (.tup ys)) : KT H' kvs xs :=
  Paired.mapP r fun _ _ z => ⟨z.1, ht _ _ z.2.1, z.2.2⟩

section
variable {P : Program} {w : World} {H : Hp} {h : Heap} {a : Addr}
theorem rd_of {u : HO} (ok : HOk P w H h) (e : Rd H a u) : ObjOk P w H h a u := e.ok ok
theorem dk_rd {kvs : List (Key × V)} (ok : HOk P w H h) (e : Rd H a (.dK kvs)) : kvs.length ≤ sizeLine ∧ (a == sysModules) = false ∧ ∃ vs, KV kvs vs ∧ h.DictOf (mixKind P w) a vs :=
  show ObjOk P w H h a (.dK kvs) from rd_of ok e
theorem dk_of {kvs : List (Key × V)} (ok : HOk P w H h) (e : H a = some (.dK kvs)) : kvs.length ≤ sizeLine ∧ (a == sysModules) = false ∧ ∃ vs, KV kvs vs ∧ h.DictOf (mixKind P w) a vs := dk_rd ok (.inl e)
theorem key_of {ks : List Key} (ok : HOk P w H h) (e : H a = some (.tup (ks.map kV))) : (tupleKind (mixKind P w)).is h ks a := by
  obtain ⟨_, its, r, o, h1, h2, n, h3⟩ := (show ObjOk P w H h a (.tup (ks.map kV)) from ok a _ e)
  exact ⟨o, its.toArray, n, h1, h2, h3, by simpa using items_are r⟩
theorem dt_rd {kvs : List (List Key × V)} (ok : HOk P w H h) (e : Rd H a (.dT kvs)) : kvs.length ≤ sizeLine ∧ (a == sysModules) = false ∧
    ∃ xs, KT H kvs xs ∧ h.DictOfH (tupleKind (mixKind P w)) a xs := by
  obtain ⟨z, y, xs, r, o, es, ep, h1, h2, h3, h4, h5⟩ := (show ObjOk P w H h a (.dT kvs) from rd_of ok e)
  refine ⟨z, y, xs, r, o, es, ep, h1, h2, h3, h4, fun x hx => ?_, h5⟩
  have all : ∀ {l : List (List Key × V)} {m : List (List Key × Addr × Value)}, KT H l m → ∀ x ∈ m, (tupleKind (mixKind P w)).is h x.1 x.2.1 := by
    intro l m q
    induction q with
    | nil => intro x hx; exact nomatch hx
    | @cons p q ps qs hq t ih =>
      intro x hx
      rcases List.mem_cons.mp hx with e | hx
      · subst e
        exact key_of ok (by rw [← hq.1]; exact hq.2.1)
      · exact ih x hx
  exact all r x hx
theorem dt_of {kvs : List (List Key × V)} (ok : HOk P w H h) (e : H a = some (.dT kvs)) : kvs.length ≤ sizeLine ∧ (a == sysModules) = false ∧
    ∃ xs, KT H kvs xs ∧ h.DictOfH (tupleKind (mixKind P w)) a xs := dt_rd ok (.inl e)
end

def DGet (H : Hp) (a : Addr) (y : V) (r : Option V) : Prop :=
  (∃ kvs k, Rd H a (.dK kvs) ∧ y = kV k ∧ r = valV kvs k) ∨ ∃ kvs k b, Rd H a (.dT kvs) ∧ y = .ref b ∧ H b = some (.tup (k.map kV)) ∧ r = valV kvs k
def DPut (H : Hp) (a : Addr) (y v : V) (H' : Hp) : Prop :=
  (∃ kvs k, H a = some (.dK kvs) ∧ y = kV k ∧ kvs.length < sizeLine ∧ H' = upd H a (.dK (putK kvs k v))) ∨
  ∃ kvs k b, H a = some (.dT kvs) ∧ y = .ref b ∧ H b = some (.tup (k.map kV)) ∧ kvs.length < sizeLine ∧ H' = upd H a (.dT (putK kvs k v))
theorem DGet.k {H : Hp} {a : Addr} {kvs : List (Key × V)} {k : Key} (e : H a = some (.dK kvs)) : DGet H a (kV k) (valV kvs k) := .inl ⟨kvs, k, .inl e, rfl, rfl⟩
theorem DGet.t {H : Hp} {a b : Addr} {kvs : List (List Key × V)} {k : List Key} (e : H a = some (.dT kvs)) (eb : H b = some (.tup (k.map kV))) : DGet H a (.ref b) (valV kvs k) := .inr ⟨kvs, k, b, .inl e, rfl, eb, rfl⟩
theorem DPut.k {H : Hp} {a : Addr} {kvs : List (Key × V)} {k : Key} {v : V} (e : H a = some (.dK kvs)) (hl : kvs.length < sizeLine) : DPut H a (kV k) v (upd H a (.dK (putK kvs k v))) := .inl ⟨kvs, k, e, rfl, hl, rfl⟩
theorem DPut.t {H : Hp} {a b : Addr} {kvs : List (List Key × V)} {k : List Key} {v : V} (e : H a = some (.dT kvs)) (eb : H b = some (.tup (k.map kV))) (hl : kvs.length < sizeLine) :
    DPut H a (.ref b) v (upd H a (.dT (putK kvs k v))) := .inr ⟨kvs, k, b, e, rfl, eb, hl, rfl⟩


section
variable {X : Cx} {pins : List (Addr × Obj)} {σ : St} {H : Hp} {s : Shared} {a : Addr} {y v : V} {u r : Value} {o : Option V} {A : Around} {E : Value → Shared → Prop}

theorem Inv.big (I : Inv X pins σ H s) : sysModules < s.heap.objs.size := by
  have h : mainGlobals < s.heap.objs.size := (I.mod.glob.keeps I.bk).lt
  exact Nat.lt_trans (by decide) h

theorem d_getItem {Q : Value → Shared → Prop} (hu : A.units + 1 < cLine) (I : Inv X pins σ H s) (g : DGet H a y (some v)) (ry : RelV y u) (h : ∀ w' s', Inv X pins σ H s' → RelV v w' → Q w' s') :
    wpAny (model X.prog X.w) A (getItem (.ref a) u) Q E s := by
  rcases g with ⟨kvs, k, e, ey, l⟩ | ⟨kvs, k, b, e, ey, eb, l⟩
  · subst ey
    obtain ⟨z, hd, vs, rel, dd⟩ := dk_rd I.hok e
    obtain ⟨w', hw, rw'⟩ := RelO.some_of (v := v) (o := valueAt vs k) (by rw [l]; exact rel.val k)
    exact wpAny_getItem_of (kV_is ry) dd.mapOf hw (h w' _ (I.tok _) rw')
  · subst ey
    cases (show u = Value.ref b from ry)
    obtain ⟨z, hd, xs, rel, dd⟩ := dt_rd I.hok e
    obtain ⟨w', hw, rw'⟩ := RelO.some_of (v := v) (o := (atKey xs k).map (·.2)) (by rw [l]; exact rel.val k)
    obtain ⟨p, hp, hp2⟩ := Option.map_eq_some_iff.mp hw
    refine wpAny_getItem_heap (tupleKind_room_in1 hu) (key_of I.hok eb) dd hp ?_
    rw [hp2]
    exact h w' _ (I.tok _) rw'
theorem d_in {Q : Value → Shared → Prop} (hu : A.units + 1 < cLine) (I : Inv X pins σ H s) (g : DGet H a y o) (ry : RelV y u) (h : ∀ s', Inv X pins σ H s' → Q (.bool o.isSome) s') :
    wpAny (model X.prog X.w) A (compareOp .In u (.ref a)) Q E s := by
  rcases g with ⟨kvs, k, e, ey, l⟩ | ⟨kvs, k, b, e, ey, eb, l⟩
  · subst ey
    obtain ⟨z, hd, vs, rel, dd⟩ := dk_rd I.hok e
    refine wpAny_in_of (kV_is ry) hd dd.mapOf ?_
    rw [← (rel.val k).isSome_eq, ← l]
    exact h _ (I.tok _)
  · subst ey
    cases (show u = Value.ref b from ry)
    obtain ⟨z, hd, xs, rel, dd⟩ := dt_rd I.hok e
    refine wpAny_in_heap (tupleKind_room_in1 hu) (key_of I.hok eb) hd dd ?_
    have q := (rel.val k).isSome_eq
    rw [Option.isSome_map] at q
    rw [← q, ← l]
    exact h _ (I.tok _)
theorem d_notIn {Q : Value → Shared → Prop} (hu : A.units + 1 < cLine) (I : Inv X pins σ H s) (g : DGet H a y o) (ry : RelV y u) (h : ∀ s', Inv X pins σ H s' → Q (.bool (!o.isSome)) s') :
    wpAny (model X.prog X.w) A (compareOp .NotIn u (.ref a)) Q E s := by
  rcases g with ⟨kvs, k, e, ey, l⟩ | ⟨kvs, k, b, e, ey, eb, l⟩
  · subst ey
    obtain ⟨z, hd, vs, rel, dd⟩ := dk_rd I.hok e
    refine wpAny_notIn_of (kV_is ry) hd dd.mapOf ?_
    rw [← (rel.val k).isSome_eq, ← l]
    exact h _ (I.tok _)
  · subst ey
    cases (show u = Value.ref b from ry)
    obtain ⟨z, hd, xs, rel, dd⟩ := dt_rd I.hok e
    refine wpAny_notIn_heap (tupleKind_room_in1 hu) (key_of I.hok eb) hd dd ?_
    have q := (rel.val k).isSome_eq
    rw [Option.isSome_map] at q
    rw [← q, ← l]
    exact h _ (I.tok _)
theorem d_write {h' : Heap} {t' : Nat} {ob : HO} (I : Inv X pins σ H s) (mu : Mut (H a)) (hs : Heap.SameBut a s.heap h') (he : ∃ q, h'.get? a = some q) (new : ObjOk X.prog X.w (upd H a ob) h' a ob) :
    Inv X pins σ (upd H a ob) { s with heap := h', toks := t' } :=
  I.write (x := a) (e := a) mu (.inl rfl) (fun b q hb z => (hs.2 b hb).trans z) he new
theorem dk_new {P : Program} {w : World} {H' : Hp} {h' : Heap} {kvs : List (Key × V)} {vs : List (Key × Value)} (z : kvs.length ≤ sizeLine) (hd : (a == sysModules) = false) (rel : KV kvs vs) (dd : h'.DictOf (mixKind P w) a vs) :
    ObjOk P w H' h' a (.dK kvs) := ⟨z, hd, vs, rel, dd⟩
theorem d_setItem {H' : Hp} {Q : Unit → Shared → Prop} (hu : A.units + 1 < cLine) (I : Inv X pins σ H s) (g : DPut H a y v H') (ry : RelV y u) (rv : RelV v r) (h : ∀ s', Inv X pins σ H' s' → Q () s') :
    wpAny (model X.prog X.w) A (setItem (.ref a) u r) Q E s := by
  rcases g with ⟨kvs, k, e, ey, l, eH⟩ | ⟨kvs, k, b, e, ey, eb, l, eH⟩
  · subst ey eH
    obtain ⟨z, hd, vs, rel, dd⟩ := dk_of I.hok e
    have hz : vs.length ≤ sizeLine := by rw [← rel.length]; exact z
    have hl : (putK kvs k v).length ≤ sizeLine := by have := length_putK kvs k v; omega
    refine wpAny_setItem_pairs (hsz := hz) (kV_is ry) dd fun h' dd' hs => h _ ?_
    have he : ∃ q, h'.get? a = some q := let ⟨q, _, _, hq, _⟩ := dd'; ⟨q, hq⟩
    exact d_write I (by rw [e]; exact True.intro) hs he (dk_new hl hd (rel.put k rv) dd')
  · subst ey eH
    cases (show u = Value.ref b from ry)
    obtain ⟨z, hd, xs, rel, dd⟩ := dt_of I.hok e
    have hz : xs.length ≤ sizeLine := by rw [← Paired.length rel]; exact z
    have hl : (putK kvs k v).length ≤ sizeLine := by have := length_putK kvs k v; omega
    refine wpAny_setItem_heap (hsz := hz) (tupleKind_room_in1 hu) (key_of I.hok eb) dd fun h' dd' hs => h _ ?_
    obtain ⟨q, es, ep, hq, h2, h3, h4, _, h5⟩ := dd'
    refine d_write I (by rw [e]; exact True.intro) hs ⟨q, hq⟩ ⟨hl, hd, _, (rel.put k eb rv).keeps fun c ys ec => ?_, q, es, ep, hq, h2, h3, h4, h5⟩
    rw [upd_ne (ne_of ec e (fun z => nomatch z))]
    exact ec
end

section
variable {X : Cx} {pins : List (Addr × Obj)} {σ : St} {H : Hp} {s : Shared} {a : Addr} {kvs : List (Key × V)} {k : Key} {u : Value} {A : Around} {E : Value → Shared → Prop}
theorem d_len {Q : Value → Shared → Prop} (I : Inv X pins σ H s) (e : Rd H a (.dK kvs)) (h : ∀ t s', Inv X pins σ H s' → Q (.int kvs.length t) s') : wpAny (model X.prog X.w) A (call (.builtin "len") [.ref a]) Q E s := by
  obtain ⟨z, hd, vs, rel, dd⟩ := dk_rd I.hok e
  refine call_len_dict hd dd (by rw [← rel.length]; rw [sizeLine_eq] at z; omega) ?_
  rw [← rel.length]
  exact h _ _ (I.tok _)
end


def NoSl (i : Expr) : Prop := ∀ ov iv, subscripted i false ov iv = operate [ov, iv] (getItem ov iv)
theorem subD_of {prog : Program} {w : World} {A : Around} {E : Value → Shared → Prop} {s : Shared} {env : Env} {value slice : Expr} {pos : Pos} {T id : String} {Q : Value → Shared → Prop}
    (hl : typeLookup (.type T) "__getitem__" = pure (some (.builtin id))) (hs : NoSl slice)
    (h : wpAny (model prog w) A (eval value env) (fun o s₁ => wpAny (model prog w) A (eval slice env) (fun i s₂ => s₂.TypeIs o T ∧ wpAny (model prog w) A (getItem o i) Q E s₂) E s₁) E s) :
    wpAny (model prog w) A (eval (.Subscript value slice pos) env) Q E s := by
  refine Subscript_ (wpAny_mono h (fun o s₁ h₁ => wpAny_mono h₁ (fun i s₂ h₂ => ?_) fun _ _ x => x) fun _ _ x => x)
  obtain ⟨hT, h₂⟩ := h₂
  unfold subscriptTail
  refine wpAny_bind ?_
  rw [getitemInPython_of_ne hT.not_modules]
  refine wpAny_bind (wpAny_specialOf hT hl ?_)
  have fin : wpAny (model prog w) A (subscripted slice false o i) (fun r s₃ => wpAny (model prog w) A (letTemporaryGo value o r >>= fun _ => pure r) Q E s₃) E s₂ := by
    rw [hs o i]
    exact wpAny_operating (wpAny_mono h₂ (fun r s₃ h₃ => wpAny_bind (wpAny_letTemporaryGo (wpAny_pure h₃))) fun _ _ x => x)
  first
    | exact wpAny_pure (wpAny_bind fin)
    | exact wpAny_bind (wpAny_pure (wpAny_bind fin))
    | exact wpAny_bind fin

theorem dict_typeIs {X : Cx} {pins : List (Addr × Obj)} {σ : St} {H : Hp} {s : Shared} {a : Addr} {y : V} {o : Option V} (I : Inv X pins σ H s) (g : DGet H a y o) : s.TypeIs (.ref a) "dict" := by
  rcases g with ⟨kvs, k, e, _, _⟩ | ⟨kvs, k, b, e, _, _, _⟩
  · obtain ⟨_, _, vs, _, dd⟩ := dk_rd I.hok e
    exact dd.typeIs
  · obtain ⟨_, _, xs, _, dd⟩ := dt_rd I.hok e
    exact dd.typeIs
def tDGet (td ty : TE) : TE := fun σ H Q => td σ H fun x H1 => ty σ H1 fun y H2 => ∃ a v, x = .ref a ∧ DGet H2 a y (some v) ∧ Q v H2
def tDIn (ty td : TE) : TE := fun σ H Q => ty σ H fun y H1 => td σ H1 fun x H2 => ∃ a o, x = .ref a ∧ DGet H2 a y o ∧ Q (.bl o.isSome) H2
def tDNotIn (ty td : TE) : TE := fun σ H Q => ty σ H fun y H1 => td σ H1 fun x H2 => ∃ a o, x = .ref a ∧ DGet H2 a y o ∧ Q (.bl (!o.isSome)) H2
def sDPut (td ty tv : TE) : TS := fun D σ H => tv σ H fun v H1 => td σ H1 fun x H2 => ty σ H2 fun y H3 => ∃ a H4, x = .ref a ∧ DPut H3 a y v H4 ∧ D.nx σ H4
section
variable {X : Cx} {o i e value : Expr} {pos pos' tpos : Pos} {td ty tv : TE}
theorem pe_dget (hu : X.A.units + 1 < cLine) (ho : PE X o td) (hi : PE X i ty) (hs : NoSl i) : PE X (.Subscript o i pos) (tDGet td ty) := by
  intro pins s σ H Q I h
  refine subD_of PySem.F.slot_dict_getitem.lookup hs (thn (ho pins s σ H _ I h) fun u s1 ⟨x, H1, I1, rx, q1⟩ => thn (hi pins s1 σ H1 _ I1 q1) fun iv s2 ⟨y, H2, I2, ry, a, v, ex, g, q2⟩ => ?_)
  subst ex
  obtain rfl : u = Value.ref a := rx
  exact ⟨dict_typeIs I2 g, d_getItem hu I2 g ry fun w' s3 I3 rw' => ⟨v, H2, I3, rw', q2⟩⟩
theorem pc_din (hu : X.A.units + 1 < cLine) (hi : PE X i ty) (ho : PE X o td) : PC X .In i o (tDIn ty td) := by
  intro pins s σ H Q I h
  refine thn (hi pins s σ H _ I h) fun iv s1 ⟨y, H1, I1, ry, q1⟩ => thn (ho pins s1 σ H1 _ I1 q1) fun u s2 ⟨x, H2, I2, rx, a, ov, ex, g, q2⟩ => ?_
  subst ex
  obtain rfl : u = Value.ref a := rx
  exact d_in hu I2 g ry fun s3 I3 => ⟨.bl ov.isSome, H2, I3, rfl, q2⟩
theorem pc_dnotin (hu : X.A.units + 1 < cLine) (hi : PE X i ty) (ho : PE X o td) : PC X .NotIn i o (tDNotIn ty td) := by
  intro pins s σ H Q I h
  refine thn (hi pins s σ H _ I h) fun iv s1 ⟨y, H1, I1, ry, q1⟩ => thn (ho pins s1 σ H1 _ I1 q1) fun u s2 ⟨x, H2, I2, rx, a, ov, ex, g, q2⟩ => ?_
  subst ex
  obtain rfl : u = Value.ref a := rx
  exact d_notIn hu I2 g ry fun s3 I3 => ⟨.bl (!ov.isSome), H2, I3, rfl, q2⟩
theorem ps_dput (hu : X.A.units + 1 < cLine) (ho : PE X o td) (hi : PE X i ty) (hv : PE X value tv) (hs : swapsWith value (some (.Subscript o i pos')) pos.line X.env = pure false) :
    PS X (.Assign [.Subscript o i pos'] value pos) (sDPut td ty tv) := by
  intro pins s σ H D I h
  refine wpAny_Assign_Subscript (thn (hv pins s σ H _ I h) fun r s1 ⟨v, H1, I1, rv, q1⟩ => thn (ho pins s1 σ H1 _ I1 q1) fun u s2 ⟨x, H2, I2, rx, q2⟩ => thn (hi pins s2 σ H2 _ I2 q2) fun iv s3 ⟨y, H3, I3, ry, a, H4, ex, g, q3⟩ => ?_) hs
  subst ex
  obtain rfl : u = Value.ref a := rx
  exact d_setItem hu I3 g ry rv fun s4 I4 => ⟨σ, H4, I4, q3⟩
end


theorem dt_empty {P : Program} {w : World} {H : Hp} (h : Heap) (hb : sysModules < h.objs.size) : ObjOk P w H (h.push { cls := .type "dict", data := .dict #[] }) h.objs.size (.dT []) :=
  ⟨Nat.zero_le _, beq_eq_false_iff_ne.mpr (Ne.symm (Nat.ne_of_lt hb)), [], .nil, _, #[], 0, Heap.get?_push_size _ rfl, ⟨rfl, rfl, rfl⟩, rfl, rfl, List.nodup_nil⟩
def tDNewK : TE := fun _ H Q => ∀ p, H p = none → Q (.ref p) (upd H p (.dK []))
def tDNewT : TE := fun _ H Q => ∀ p, H p = none → Q (.ref p) (upd H p (.dT []))
section
variable {X : Cx} {pos : Pos}
theorem pe_dnewT : PE X (.Dict [] [] pos) tDNewT := fun pins s σ H Q I h =>
  wpAny_Dict_empty ⟨.ref s.heap.objs.size, _, I.laid (a := s.heap.objs.size) (o := .dT []) (t' := s.toks) (fun _ _ q => Heap.get?_push_of_some _ q) (Nat.le_refl _) (dt_empty s.heap I.big), rfl, h _ (I.hok.fresh (Nat.le_refl _))⟩
end

def tPairs : List (TE × TE) → St → Hp → (List (V × V) → Hp → Prop) → Prop
  | [], _, H, Q => Q [] H
  | (tk, tv) :: r, σ, H, Q => tk σ H fun x H1 => tv σ H1 fun y H2 => tPairs r σ H2 fun ps H3 => Q ((x, y) :: ps) H3
abbrev VV : List (V × V) → List (Value × Value) → Prop := Paired fun p q => RelV p.1 q.1 ∧ RelV p.2 q.2
def PPs (X : Cx) (pos : Pos) (keys : List (Option Expr)) (values : List Expr) (trs : List (TE × TE)) : Prop :=
  ∀ (pins : List (Addr × Obj)) (s : Shared) (σ : St) (H : Hp) (Q : List (V × V) → Hp → Prop), Inv X pins σ H s → tPairs trs σ H Q →
    wpAny (model X.prog X.w) X.A (evalPairs (pairTrees keys values X.env pos)) (fun vs s' => ∃ ps H', Inv X pins σ H' s' ∧ VV ps vs ∧ Q ps H') X.xe s
theorem pps_nil {X : Cx} {pos : Pos} : PPs X pos [] [] [] := fun pins s σ H Q I h => pairTrees_nil_walk ⟨[], H, I, .nil, h⟩
theorem pps_cons {X : Cx} {pos : Pos} {k v : Expr} {ks : List (Option Expr)} {vs : List Expr} {tk tv : TE} {trs : List (TE × TE)} (hk : PE X k tk) (hv : PE X v tv) (hr : PPs X pos ks vs trs) :
    PPs X pos (some k :: ks) (v :: vs) ((tk, tv) :: trs) := fun pins s σ H Q I h =>
  pairTrees_cons_walk (thn (hk pins s σ H _ I h) fun u s1 ⟨x, H1, I1, rx, q1⟩ => thn (hv pins s1 σ H1 _ I1 q1) fun w2 s2 ⟨y, H2, I2, ry, q2⟩ =>
    thn (hr pins s2 σ H2 _ I2 q2) fun ws s3 ⟨ps, H3, I3, rel, q3⟩ => ⟨(x, y) :: ps, H3, I3, .cons ⟨rx, ry⟩ rel, q3⟩)

def mergeK (kvs more : List (Key × V)) : List (Key × V) := more.foldl (fun acc kv => putK acc kv.1 kv.2) kvs
theorem length_mergeK : ∀ (more kvs : List (Key × V)), (mergeK kvs more).length ≤ kvs.length + more.length
  | [], kvs => by show kvs.length ≤ kvs.length + 0; omega
  | p :: r, kvs => by
    have h1 := length_mergeK r (putK kvs p.1 p.2)
    have h2 := length_putK kvs p.1 p.2
    show (mergeK (putK kvs p.1 p.2) r).length ≤ _
    rw [List.length_cons]; omega
structure M1 (X : Cx) (o : Expr) (m : Str) (apos : Pos) (e : Expr) (cpos : Pos) : Prop where
  base : attributeBase o m X.env (eval o X.env) = eval o X.env
  few : ((backTo cpos (starEach [e] X.env)).all (fun x => !x.1) && (backToKw cpos (keywordEach [] X.env)).all (fun x => x.1.isSome)
    && decide (([e] : List Expr).length + ([] : List Keyword).length + (if ([] : List Keyword).isEmpty then 0 else 1) < 30)) = true
  line : (apos.endLine == cpos.line) = true
  trees : backTo cpos (starEach [e] X.env) = [(false, eval e X.env)]
structure M2 (X : Cx) (o : Expr) (m : Str) (apos : Pos) (e f : Expr) (cpos : Pos) : Prop where
  base : attributeBase o m X.env (eval o X.env) = eval o X.env
  few : ((backTo cpos (starEach [e, f] X.env)).all (fun x => !x.1) && (backToKw cpos (keywordEach [] X.env)).all (fun x => x.1.isSome)
    && decide (([e, f] : List Expr).length + ([] : List Keyword).length + (if ([] : List Keyword).isEmpty then 0 else 1) < 30)) = true
  line : (apos.endLine == cpos.line) = true
  trees : backTo cpos (starEach [e, f] X.env) = [(false, eval e X.env), (false, eval f X.env)]

def IsD (H : Hp) (a : Addr) : Prop := (∃ kvs, Rd H a (.dK kvs)) ∨ ∃ kvs, Rd H a (.dT kvs)

def tDGet2 (td ty tx : TE) : TE := fun σ H Q => td σ H fun x H1 => ∃ a, x = .ref a ∧ IsD H1 a ∧ ty σ H1 fun y H2 => tx σ H2 fun z H3 => ∃ o, DGet H3 a y o ∧ Q (o.getD z) H3



end L2

namespace Att
open PySem PySem.W PySem.Calls PyProof.Rows

theorem ints_of_wellAll {P : Params} {h : Heap} : ∀ (ns : List Int) (vs : List Value), WellAll P h vs (ns.map WData.int) → IntsAre vs ns := by
  intro ns
  induction ns with
  | nil =>
    intro vs w
    rw [List.map_nil] at w
    cases w
    exact .nil
  | cons n ns ih =>
    intro vs w
    rw [List.map_cons] at w
    cases w with
    | cons a b =>
      cases a
      exact .cons _ _ (ih _ b)

theorem script_of {l : OpenLaw} {n : Nat} (hn : l.most = some n) {P : Params} {h : Heap} {args : List WData} {vals : List Value}
    (hpre : l.row.toRowW.claim.pre args = true) (hwl : WellAll P h vals args) :
    ∃ a vs ns, vals = [Value.ref a] ∧ args = [WData.list (ns.map WData.int)] ∧ h.get? a = some { cls := .type "list", data := .seq vs.toArray } ∧ IntsAre vs ns ∧ ns.length ≤ n := by
  have hsh : WShape.hasAll [] args [.list .int] = true := (pre_splitW hpre).1
  have hc : l.pre.holds [] { args := args } = true := (pre_splitW hpre).2
  obtain ⟨d, r, rfl, h1, h2⟩ := hasAllW_cons hsh
  obtain rfl := hasAllW_nil h2
  obtain ⟨xs, rfl, h3⟩ := hasW_list h1
  obtain ⟨ns, rfl⟩ := items_int h3
  have hlen : ns.length ≤ n := by
    unfold OpenLaw.pre at hc
    have h4 : (WTm.not (.lt (.lit (.int (n : Int))) (.len (.arg 0)))).holds [] { args := [.list (ns.map .int)] } = true := by
      have h4 := (holds_andW hc).1
      rw [hn] at h4
      exact h4
    have h5 := condW_of h4 (w_not (w_lt w_lit (w_len_list (w_arg rfl))))
    rw [List.length_map] at h5
    refine Nat.le_of_not_lt fun q => ?_
    have q' : (n : Int) < ((ns.length : Nat) : Int) := by omega
    first
      | (rw [decide_eq_true q'] at h5; exact absurd h5 (by decide))
      | (simp at h5; omega)
  cases hwl with
  | cons w1 w2 =>
    cases w2
    cases w1 with
    | list ho hall => exact ⟨_, _, ns, rfl, rfl, ho, ints_of_wellAll ns _ hall, hlen⟩

theorem post_true (l : OpenLaw) (args : List WData) : l.row.toRowW.claim.post args (.bool true) args = true :=
  postW_of (r := l.row.toRowW) (X := (true == true))
    (show WShape.has [] (.bool true) .bool = true by first | rfl | decide | simp [WShape.has, WShape.arms, WShape.armsAll])
    (show (WTm.eq .res (.lit (.bool true))).value [] { args := args, res := some (.bool true), after := args } = some (.bool (true == true)) from w_eq_bool (w_res rfl) w_lit) rfl

theorem attach_call {l : OpenLaw} {n : Nat} {q : Program} {loose : List Str} {XP : (Str → Option Value) → Heap → Prop} {YP : World → Heap → Prop} {d : DefRec}
    (hn : l.most = some n) (hdf : d.params.defaults = [])
    (call : ∀ (w : World) (s₀ s₁ : Shared) (mg mb : Str → Option Value) (fa : Addr) (o : Obj) (pm cd doc : Value) (a : Addr) (vs : List Value) (ns : List Int),
      Ground q loose [] XP w s₀ mg mb s₁.heap → YP w s₁.heap →
      s₁.heap.get? fa = some o → o.data = .func (docDef d.name d.params d.body d.scope pm cd doc) → s₁.heap.CodeRec cd d.name → mg d.name = some (.ref fa) →
      s₁.heap.get? a = some { cls := .type "list", data := .seq vs.toArray } → IntsAre vs ns → ns.length ≤ n → s₁.gens = #[] →
      codeAny (model l.prog w) callerA (.call (.ref fa) ⟨[.ref a], []⟩) (fun r s' => r = .ok (.ret (.bool true)) ∧ OldK s₁.heap s'.heap ∧ s'.os = s₁.os ∧ AllBare s'.gens) s₁) :
    WalkO q loose XP YP l.row.toRowW d [] (fun f vs => PySem.call f vs) := by
  intro w s₀ s₁ mg mb G Y fa o pm cd doc dV kV ho hd hcd hD hmg hg args vals as hpre hlay hrd hwl hlo
  obtain rfl : dV = .none := Dflts.none hD hdf
  obtain rfl : kV = .none := Dflts.noKw hD
  obtain ⟨a, vs, ns, rfl, rfl, hobj, hints, hlen⟩ := script_of hn hpre hwl
  refine enter_call (codeAny_mono (call w s₀ s₁ mg mb fa o pm cd doc a vs ns G Y ho (fd_plain hd) hcd hmg hobj hints hlen hg) fun r s' hq => ?_)
  obtain ⟨rfl, h2, h3, h4⟩ := hq
  exact ⟨.inl ⟨.bool true, .bool true, [], rfl, fun _ => rfl, .bool true, post_true l _, fun _ => ⟨List.Pairwise.nil, fun _ hm => (nomatch hm)⟩⟩, h2, h3, h4⟩

section
variable {prog : Program} {w : World} {A : Around} {E : Value → Shared → Prop} {s : Shared} {K : Frag}

end
end Att

namespace L2
open PySem PySem.Spec PyProof.Rows

theorem vals_ints : ∀ {vs : List Value} {ns : List Int}, IntsAre vs ns → Vals (ns.map V.int) vs
  | _, _, .nil => .nil
  | _, _, .cons n t h => .cons ⟨t, rfl⟩ (vals_ints h)

def Only (H : Hp) : Prop := ∀ b, H b = none ∨ ∃ o xs, H b = some (.frz o (.lst xs))

theorem law_call {P : Program} {w : World} {K : PySem.W.Frag} {mg mb : Str → Option Value} {CX : CXT} {k : Nat} {fa a : Addr} {fd : FuncData} {x : Str} {sp : Sp} {s₁ : Shared} {vs : List Value} {ns : List Int}
    (KX : K.In s₁.heap) (hns : s₁.heap.Ns mainGlobals mg) (hb : s₁.heap.Ns builtinsNs mb) (hbb : ∀ x : Str, x ≠ "__name__" → mb x = bootBuiltins x) (hlim : s₁.heap.NoLimit) (hg : s₁.gens = #[])
    (ha : s₁.heap.get? a = some { cls := .type "list", data := .seq vs.toArray }) (hi : IntsAre vs ns) (hl : ns.length ≤ sizeLine) (hr : Room k callerA)
    (F : ∀ base : Heap, K.In base → base.Ns mainGlobals mg → FnOk P w K mg base CX k fa fd [x] sp) (hbind : ∀ (s : Shared) (u : Value), BindsTo s fd ⟨[u], []⟩ [(x, u)])
    (hsp : ∀ H : Hp, Only H → SqL K H a (ns.map V.int) → sp [.ref a] H (fun v _ => v = .bl true) fun _ _ _ => False)
    (hCX : ∀ H e s', CX [] H s₁ (fun _ _ _ => False) e s' → False) :
    codeAny (model P w) callerA (.call (.ref fa) ⟨[.ref a], []⟩) (fun r s' => r = .ok (.ret (.bool true)) ∧ OldK s₁.heap s'.heap ∧ s'.os = s₁.os ∧ AllBare s'.gens) s₁ := by
  have rv := vals_ints hi
  have lenV := hi.length
  -- from an abstract heap in which nothing but the script may be tracked
  have core : ∀ H : Hp, Only H → SqL K H a (ns.map V.int) → HOk P w H s₁.heap → (∀ b, H b ≠ none → b = a) → (H a ≠ none → K.lookup a = none) →
      codeAny (model P w) callerA (.call (.ref fa) ⟨[.ref a], []⟩) (fun r s' => r = .ok (.ret (.bool true)) ∧ OldK s₁.heap s'.heap ∧ s'.os = s₁.os ∧ AllBare s'.gens) s₁ := by
    intro H hO hS hok hA hK
    have base_of : ∀ {b : Addr} {o : Obj}, s₁.heap.get? b = some o → H b = none → (hidT s₁.heap H).get? b = some o := fun e n => hidT_get e n
    have noA : ∀ {b : Addr} {o : Obj} {es : Array DictEntry} {ep : Nat}, s₁.heap.get? b = some o → o.data = .dict es ep → H b = none := fun {b o es ep} e d => by
      cases q : H b with
      | none => rfl
      | some u =>
        have e' : b = a := hA b (by rw [q]; simp)
        subst e'
        rw [ha] at e; cases e
        have d' : Data.seq vs.toArray _ = Data.dict es ep := d
        cases d'
    have nsK : ∀ {b : Addr} {m : Str → Option Value}, s₁.heap.Ns b m → (hidT s₁.heap H).Ns b m := fun {b m} ⟨o, es, ep, e, d, r⟩ => ⟨o, es, ep, base_of e (noA e d), d, r⟩
    have hKb : K.In (hidT s₁.heap H) := fun b o e => base_of (KX b o e) (by
      cases q : H b with
      | none => rfl
      | some u =>
        have e' : b = a := hA b (by rw [q]; simp)
        subst e'
        rw [hK (by rw [q]; simp)] at e; cases e)
    have hM : Mod K mg (hidT s₁.heap H) := ⟨hKb, nsK hns, ⟨mb, nsK hb, hbb⟩, let ⟨mc, h1, h2⟩ := hlim; ⟨mc, nsK h1, h2⟩⟩
    have e0 : Env0 P w K mg (hidT s₁.heap H) callerA [] s₁ H := ⟨rfl, hM, fun b o e => of_hidT e, Nat.le_of_eq (hidT_size _ _), trivial, fun b hb => absurd (show b ∈ ([] : List Addr) from hb) (by simp), hok, .of_eq hg⟩
    refine codeAny_mono ((F _ hKb (nsK hns)).run callerA [] s₁ H ⟨[.ref a], []⟩ [.ref a] [.ref a] _ _ hr e0 (hbind s₁ (.ref a)) (.cons rfl .nil) (hsp H hO hS)) fun r s' h => ?_
    cases r with
    | error e => exact (hCX H e s' h).elim
    | ok fl =>
      cases fl with
      | next => exact False.elim h
      | brk => exact False.elim h
      | cont => exact False.elim h
      | ret u =>
        obtain ⟨v, H', os, bare, un, hok', r', q⟩ := h
        have q' : v = .bl true := q
        subst q'
        obtain rfl : u = Value.bool true := r'
        refine ⟨rfl, OldK.of_keep fun b o e => ?_, os, bare⟩
        cases q : H b with
        | none => exact un.keep b o e q (by intro z; exact absurd (show b ∈ ([] : List Addr) from z) (by simp)) (by simp)
        | some u =>
          rcases hO b with z | ⟨ob, xs, z⟩
          · rw [q] at z; cases z
          · have z2 := un.frzs b ob _ z
            obtain ⟨e1, _⟩ := hok b _ z
            obtain ⟨e2, _⟩ := hok' b _ z2
            rw [e] at e1; cases e1
            exact e2
  cases hk : K.lookup a with
  | some o =>
    -- the script is one of the module's own objects
    have e := KX a o hk
    rw [ha] at e
    cases e
    refine core (fun _ => none) (fun _ => .inl rfl) (.inr ⟨_, vs.toArray, _, hk, rfl, rfl, rfl, by rw [List.size_toArray, lenV]; exact hl, by simpa using rv⟩) (fun b u z => by have z' : (none : Option HO) = some u := z; cases z') (fun b z => absurd rfl z) fun z => absurd rfl z
  | none =>
    refine core (fun b => if b = a then some (.frz { cls := .type "list", data := .seq vs.toArray } (.lst (ns.map V.int))) else none) (fun b => ?_) (.inl (.inr ⟨{ cls := .type "list", data := .seq vs.toArray }, if_pos rfl⟩)) (fun b u z => ?_) (fun b z => ?_) fun _ => hk
    · by_cases hb : b = a
      · exact .inr ⟨_, _, if_pos hb⟩
      · exact .inl (if_neg hb)
    · by_cases hb : b = a
      · have z' := (if_pos hb).symm.trans z
        cases z'
        subst hb
        exact ⟨ha, by rw [List.length_map]; exact hl, vs, _, rv, ha⟩
      · have z' := (if_neg hb).symm.trans z
        cases z'
    · by_cases hb : b = a
      · exact hb
      · exact absurd (if_neg hb) z
end L2

namespace L2
open PySem PySem.Spec PyProof.Rows

abbrev KOf {K : PySem.W.Frag} {h : Heap} (_ : K.In h) : PySem.W.Frag := K

theorem walk_of {l : PySem.W.OpenLaw} {n k : Nat} {q : Program} {loose : List Str} {XP : (Str → Option Value) → Heap → Prop} {YP : World → Heap → Prop} {d : DefRec} {K : Params → PySem.W.Frag} {CX : World → CXT} {sp : World → Sp} {x : Str}
    (hn : l.most = some n) (hn2 : n ≤ sizeLine) (hdf : d.params.defaults = []) (hr : Room k callerA)
    (hY : ∀ (w : World) (h : Heap), YP w h → (K w.params).In h)
    (F : ∀ (w : World) (mg : Str → Option Value) (fa : Addr) (h : Heap), (K w.params).In h → h.Ns mainGlobals mg → mg d.name = some (.ref fa) →
      ∃ fd : FuncData, (∀ (s : Shared) (u : Value), BindsTo s fd ⟨[u], []⟩ [(x, u)]) ∧
        ∀ base : Heap, (K w.params).In base → base.Ns mainGlobals mg → FnOk l.prog w (K w.params) mg base (CX w) k fa fd [x] (sp w))
    (hsp : ∀ (w : World) (H : Hp) (a : Addr) (ns : List Int), ns.length ≤ n → Only H → SqL (K w.params) H a (ns.map V.int) → sp w [.ref a] H (fun v _ => v = .bl true) fun _ _ _ => False)
    (hCX : ∀ (w : World) (H : Hp) (s : Shared) (e : Value) (s' : Shared), CX w [] H s (fun _ _ _ => False) e s' → False) :
    PySem.W.WalkO q loose XP YP l.row.toRowW d [] (fun f vs => PySem.call f vs) := by
  refine Att.attach_call hn hdf fun w s₀ s₁ mg mb fa o pm cd doc a vs ns G Y ho hd hcd hmg hobj hints hlen hg => ?_
  have KX := hY w _ Y
  obtain ⟨fd, hb, hF⟩ := F w mg fa _ KX G.T.g hmg
  exact law_call KX G.T.g G.T.b G.T.builtins G.T.nolimit hg hobj hints (Nat.le_trans hlen hn2) hr hF hb (fun H hO hS => hsp w H a ns hlen hO hS) fun H e s' => hCX w H s₁ e s'
end L2

/- THE LAST THEOREM (shape; LID, My.* are yours):
   My.Adr: a structure of the addresses that your layer names (classes, functions); My.Txt K t: a structure (Prop) of the equations over K;
   My.txt_mk : {K} {implicit addresses ..} (e1 : nsIn K mainGlobals "law" = some (some (.ref f))) (e2 : K.lookup f = some ⟨oc, od, .func (fnOf "law" "law" params body scope dV kV doc pm an cdv ct), sl⟩) (e3 : codeIn K cdv "law" = true) .. : ∃ t, My.Txt K t

set_option maxRecDepth 100000 in
set_option maxHeartbeats 0 in
theorem PySem.Challenge.cw_LID_holds : PySem.Challenge.rw_LID.Holds := by
  w_on; o_law; k_head; (case hw => w_witness2)
  k_fill
  refine L2.walk_of (l := PySem.Challenge.rw_LID) (n := 63) (k := 40) (x := "script") (CX := fun w => ..) (sp := fun _ => My.sp_law) rfl (by decide) rfl ⟨rfl, by decide, by decide⟩ (fun w h Y => PySem.W.kIn_of Y) ?F ?S ?C
  case F =>
    intro w mg fa h KX G hmg
    have T : ∃ t, My.Txt (L2.KOf KX) t := by
      dsimp only [L2.KOf]                          -- K must stand as «<heap const> w.params» for k_is
      refine' My.txt_mk ?e1 ?e2 ?e3 ..
      (case e1 => PySem.W.k_is)                    -- in the order: a name -> its address -> its object -> its parts
      (case e2 => PySem.W.k_is)
      ..
    obtain ⟨t, T⟩ := T
    have e0 := hmg.symm.trans (PySem.W.mg_of KX G T.law)
    cases e0                                       -- fa is the law's own address
    exact ⟨_, fun s u => .of_eq rfl, fun base kb nb => My.law_fn T kb nb⟩     -- if «.of_eq rfl» comes too early: refine' ⟨_, ?b, fun base kb nb => My.law_fn T kb nb⟩; exact fun s u => .of_eq rfl
  case S => exact fun w H a ns hl hO hS => ..
  case C => exact ..
(the tactic k_is has no namespace: write k_is) -/

namespace L2
open PySem PySem.Spec PyProof.Rows

def inClass (s : Stmt) (j : Nat) : Stmt := match s with
  | .ClassDef _ _ _ body _ _ _ _ _ _ _ => body.getD j (.Pass ⟨0, 0, 0, 0⟩)
  | _ => .Pass ⟨0, 0, 0, 0⟩
def defArgs (s : Stmt) : Arguments := match s with
  | .FunctionDef _ a _ _ _ _ _ _ _ _ => a
  | _ => { posonlyargs := [], args := [], vararg := none, kwonlyargs := [], kw_defaults := [], kwarg := none, defaults := [] }
def defBody (s : Stmt) : List Stmt := match s with
  | .FunctionDef _ _ b _ _ _ _ _ _ _ => b
  | _ => []
def defScope (s : Stmt) : Scope := match s with
  | .FunctionDef _ _ _ _ _ _ sc _ _ _ => sc
  | _ => { kind := .function, names := [], isGenerator := false, isCoroutine := false }

abbrev CX0 : CXT := fun _ _ _ _ _ _ => False
abbrev E0 : XK := fun _ _ _ => False
theorem pass0 {X : Cx} : Passes CX0 X E0 := fun _ _ _ _ _ _ _ h => h.elim

structure Fun (K : PySem.W.Frag) (x qual : Str) (st : Stmt) (f : Addr) (fd : FuncData) : Prop where
  ex : ∃ (oc : Value) (od : Option Addr) (kV doc pm : Value) (an : Option Addr) (cdv ct : Value) (osl : Array (Option Value)),
    fd = PySem.W.fnOf x qual (defArgs st) (defBody st) (defScope st) .none kV doc pm an cdv ct ∧ K.lookup f = some ⟨oc, od, .func fd, osl⟩ ∧ PySem.W.codeIn K cdv qual = true
  kp : PySem.W.keepIn K (.ref f) = true
section
variable {P : Program} {w : World} {K : PySem.W.Frag} {mg : Str → Option Value} {base : Heap}
theorem Fun.ok {x qual : Str} {st : Stmt} {f : Addr} {fd : FuncData} {N ps : List Str} {k : Nat} {sp : Sp} (F : Fun K x qual st f fd) (S : FnScope N ps (defScope st)) (len : ∀ vs H Q E, sp vs H Q E → vs.length = ps.length)
    (hbody : ∀ (cdv : Value) (A : Around) (outer : List Env) (s : Shared) (H : Hp) (vs : List V) (Q : VK) (E : XK), Room k (A.deeper (envOfC qual (defScope st) s.heap.objs.size f cdv)) → sp vs H Q E →
      ∃ t, PSs (cxOf CX0 P w K mg base N qual (defScope st) f cdv A outer s H E).nox (defBody st) t ∧ t { nx := fun _ H' => Q .non H', rt := Q } (start N vs) H) : FnOk P w K mg base CX0 (k + 1) f fd ps sp := by
  obtain ⟨oc, od, kV, doc, pm, an, cdv, ct, osl, rfl, lk, hcd⟩ := F.ex
  refine fn_of lk hcd S len fun A outer s H vs Q E hr hsp => ?_
  obtain ⟨t, h, q⟩ := hbody cdv A outer s H vs Q E hr hsp
  exact ⟨t, h.nox, q⟩
theorem Fun.binds {x qual : Str} {st : Stmt} {f : Addr} {fd : FuncData} {ps : List Str} (F : Fun K x qual st f fd)
    (h : ∀ (kV doc pm : Value) (an : Option Addr) (cdv ct : Value) (us : List Value), us.length = ps.length → bindArgs (PySem.W.fnOf x qual (defArgs st) (defBody st) (defScope st) .none kV doc pm an cdv ct) ⟨us, []⟩ = pure (ps.zip us)) : Binds K fd ps [] := by
  obtain ⟨oc, od, kV, doc, pm, an, cdv, ct, osl, rfl, lk, hcd⟩ := F.ex
  exact .all (h kV doc pm an cdv ct)
theorem fun_mk {x qual : Str} {st : Stmt} {f : Addr} {oc : Value} {od an : Option Addr} {osl : Array (Option Value)} {kV doc pm cdv ct : Value} (l : K.lookup f = some ⟨oc, od, .func (PySem.W.fnOf x qual (defArgs st) (defBody st) (defScope st) .none kV doc pm an cdv ct), osl⟩)
    (c : PySem.W.codeIn K cdv qual = true) (k : PySem.W.keepIn K (.ref f) = true) : Fun K x qual st f (PySem.W.fnOf x qual (defArgs st) (defBody st) (defScope st) .none kV doc pm an cdv ct) := ⟨⟨oc, od, kV, doc, pm, an, cdv, ct, osl, rfl, l, c⟩, k⟩
end
section
variable {X : Cx}
theorem pv (i : Nat) {x : Str} {pos : Pos} (hN : X.N[i]? = some x := by rfl) (hv : Vis X.env.scope x := by first | exact Or.inl rfl | exact Or.inr (Or.inl rfl) | exact Or.inr (Or.inr rfl)) (hd : (x == ("__debug__" : Str)) = false := by decide)
    (hcd : (x == ("__classdict__" : Str)) = false := by decide) : PE X (.Name x pos) (tVar i) := pe_var hN hv hd hcd
end

theorem iteF {A B : Prop} (h : B) : if false = true then A else B := by
  rw [if_neg Bool.false_ne_true]
  exact h
theorem iteT {A B : Prop} (h : A) : if true = true then A else B := by
  rw [if_pos rfl]
  exact h
def Same (H H' : Hp) : Prop := ∀ b o, H b = some o → H' b = some o
theorem Same.refl (H : Hp) : Same H H := fun _ _ h => h
theorem Same.trans {H H1 H2 : Hp} (a : Same H H1) (b : Same H1 H2) : Same H H2 := fun c o h => b c o (a c o h)
theorem Same.free {H H' : Hp} (e : Same H H') {l : Addr} (h : H' l = Option.none) : H l = Option.none := by
  cases q : H l with
  | none => rfl
  | some o =>
    rw [e l o q] at h
    cases h
theorem Same.seq {K : PySem.W.Frag} {H H' : Hp} {a : Addr} {xs : List V} (e : Same H H') (h : SqL K H a xs) : SqL K H' a xs := by
  rcases h with (h | ⟨o, h⟩) | h
  · exact .inl (.inl (e _ _ h))
  · exact .inl (.inr ⟨o, e _ _ h⟩)
  · exact .inr h

section
variable {X : Cx}
theorem call_lenD : CallR X (.builtin "len") (fun xs H Q => ∃ a kvs, xs = [V.ref a] ∧ H a = some (.dK kvs) ∧ Q (.int kvs.length) H) := by
  intro pins s σ H xs us Q I r h
  obtain ⟨a, kvs, rfl, ha, q⟩ := h
  obtain ⟨u, rfl, ru⟩ := vals1 r
  cases ru
  exact d_len I (.inl ha) fun t s' I' => ⟨.int kvs.length, H, I', ⟨t, rfl⟩, q⟩
end
end L2
set_option maxRecDepth 100000
set_option maxHeartbeats 4000000
namespace L2
open PySem PySem.Spec PyProof.Rows

def closL (cells : List (Str × Addr)) : List (Str × NameKind) → List (Str × Addr) → List (Str × Addr)
  | [], acc => acc
  | (n, k) :: r, acc => if k == NameKind.free then (match cells.lookup n with
    | some c => closL cells r ((n, c) :: acc)
    | none => closL cells r acc) else closL cells r acc

theorem closL_sound (cells : List (Str × Addr)) : ∀ (ns : List (Str × NameKind)) (acc : List (Str × Addr)), (∀ x c, acc.lookup x = some c → cells.lookup x = some c) →
    ∀ x c, (closL cells ns acc).lookup x = some c → cells.lookup x = some c
  | [], acc, h, x, c, e => h x c e
  | (n, k) :: r, acc, h, x, c, e => by
    unfold closL at e
    by_cases hk : (k == NameKind.free) = true
    · rw [if_pos hk] at e
      cases hc : cells.lookup n with
      | none =>
        rw [hc] at e
        exact closL_sound cells r acc h x c e
      | some d =>
        rw [hc] at e
        refine closL_sound cells r _ (fun y z q => ?_) x c e
        rw [List.lookup_cons] at q
        by_cases hy : (y == n) = true
        · rw [hy] at q
          have : d = z := Option.some.inj q
          subst this
          rw [eq_of_beq hy]
          exact hc
        · have hy' : (y == n) = false := by simpa using hy
          rw [hy'] at q
          exact h y z q
    · rw [if_neg hk] at e
      exact closL_sound cells r acc h x c e

theorem closL_keep (cells : List (Str × Addr)) : ∀ (ns : List (Str × NameKind)) (acc : List (Str × Addr)) (x : Str), (acc.lookup x).isSome = true → ((closL cells ns acc).lookup x).isSome = true
  | [], _, _, h => h
  | (n, k) :: r, acc, x, h => by
    unfold closL
    by_cases hk : (k == NameKind.free) = true
    · rw [if_pos hk]
      cases hc : cells.lookup n with
      | none => exact closL_keep cells r acc x h
      | some d =>
        refine closL_keep cells r _ x ?_
        rw [List.lookup_cons]
        by_cases hy : (x == n) = true
        · rw [hy]; rfl
        · have hy' : (x == n) = false := by simpa using hy
          rw [hy']; exact h
    · rw [if_neg hk]
      exact closL_keep cells r acc x h

theorem closL_has (cells : List (Str × Addr)) : ∀ (ns : List (Str × NameKind)) (acc : List (Str × Addr)) (x : Str) (c : Addr), (x, NameKind.free) ∈ ns → cells.lookup x = some c → (closL cells ns acc).lookup x ≠ none
  | [], _, _, _, h, _ => absurd h (by simp)
  | (n, k) :: r, acc, x, c, h, hc => by
    rcases List.mem_cons.mp h with e | h
    · have e1 : x = n := congrArg Prod.fst e
      have e2 : NameKind.free = k := congrArg Prod.snd e
      subst e1; subst e2
      unfold closL
      rw [if_pos (by decide), hc]
      have q := closL_keep cells r ((x, c) :: acc) x (by rw [List.lookup_cons]; simp)
      intro z
      rw [z] at q
      cases q
    · unfold closL
      by_cases hk : (k == NameKind.free) = true
      · rw [if_pos hk]
        cases cells.lookup n with
        | none => exact closL_has cells r acc x c h hc
        | some d => exact closL_has cells r _ x c h hc
      · rw [if_neg hk]
        exact closL_has cells r acc x c h hc

theorem closL_fun (env : Env) : ∀ (ns : List (Str × NameKind)) (acc : List (Str × Addr)), (∀ n, (n, NameKind.free) ∈ ns → ∃ c, env.cells.lookup n = some c) →
    (forIn ns acc fun (x : Str × NameKind) (cs : List (Str × Addr)) =>
      (match x with
      | (name, kind) => if (kind == NameKind.free) = true then do let a ← cellOf env name; pure (ForInStep.yield ((name, a) :: cs)) else pure (ForInStep.yield cs) : Sem (ForInStep (List (Str × Addr))))) = pure (closL env.cells ns acc)
  | [], acc, _ => by rw [List.forIn_nil]; rfl
  | (n, k) :: r, acc, h => by
    rw [List.forIn_cons]
    unfold closL
    by_cases hk : (k == NameKind.free) = true
    · obtain ⟨c, hc⟩ := h n (by rw [eq_of_beq hk]; exact List.mem_cons_self)
      have e : cellOf env n = pure c := by unfold cellOf; rw [hc]
      simp only [hk, if_true, hc, e, pure_bind]
      exact closL_fun env r _ fun m hm => h m (List.mem_cons_of_mem _ hm)
    · simp only [hk, if_false, pure_bind]
      exact closL_fun env r _ fun m hm => h m (List.mem_cons_of_mem _ hm)

theorem closureFor_eq {scope : Scope} {env : Env} (h : ∀ n, (n, NameKind.free) ∈ scope.names → ∃ c, env.cells.lookup n = some c) : closureFor scope env = pure (closL env.cells scope.names []) := by
  have e := closL_fun env scope.names [] h
  unfold closureFor
  first
    | (simp only [e, pure_bind]; done)
    | (rw [show (forIn scope.names ([] : List (Str × Addr)) _ : Sem _) = _ from e]; rfl)

theorem relabel_kind (env : Env) : ∀ {names : List (Str × NameKind)} {x : Str} {k : NameKind},
    (names.map fun (n, k) => if (k == NameKind.free && env.scope.kind == .function && env.kindOf n == some .cell) then (n, NameKind.cell) else (n, k)).lookup x = some k →
    ∃ k', names.lookup x = some k' ∧ (k = k' ∨ (k = .cell ∧ k' = .free))
  | [], _, _, h => by simp at h
  | (n, j) :: r, x, k, h => by
    by_cases hc : (j == NameKind.free && env.scope.kind == .function && env.kindOf n == some .cell) = true
    · rw [List.map_cons] at h
      simp only [hc, if_true] at h
      rw [List.lookup_cons] at h ⊢
      by_cases hx : (x == n) = true
      · rw [hx] at h ⊢
        have e1 : k = NameKind.cell := (Option.some.inj h).symm
        have e2 : j = NameKind.free := by
          have := hc
          simp only [Bool.and_eq_true] at this
          exact eq_of_beq this.1.1
        exact ⟨j, rfl, .inr ⟨e1, e2⟩⟩
      · have hx' : (x == n) = false := by simpa using hx
        rw [hx'] at h ⊢
        exact relabel_kind env h
    · rw [List.map_cons] at h
      simp only [hc, Bool.false_eq_true, if_false] at h
      rw [List.lookup_cons] at h ⊢
      by_cases hx : (x == n) = true
      · rw [hx] at h ⊢
        exact ⟨j, rfl, .inl (Option.some.inj h).symm⟩
      · have hx' : (x == n) = false := by simpa using hx
        rw [hx'] at h ⊢
        exact relabel_kind env h

theorem relabel_free (env : Env) : ∀ {names : List (Str × NameKind)} {x : Str}, names.lookup x = some .free →
    (names.map fun (n, k) => if (k == NameKind.free && env.scope.kind == .function && env.kindOf n == some .cell) then (n, NameKind.cell) else (n, k)).lookup x = some .cell ∨
    (names.map fun (n, k) => if (k == NameKind.free && env.scope.kind == .function && env.kindOf n == some .cell) then (n, NameKind.cell) else (n, k)).lookup x = some .free
  | [], _, h => by simp at h
  | (n, j) :: r, x, h => by
    rw [List.lookup_cons] at h
    by_cases hx : (x == n) = true
    · rw [hx] at h
      have e : j = NameKind.free := Option.some.inj h
      subst e
      by_cases hc : (NameKind.free == NameKind.free && env.scope.kind == .function && env.kindOf n == some .cell) = true
      · left
        rw [List.map_cons]
        simp only [hc, if_true]
        rw [List.lookup_cons, hx]
      · right
        rw [List.map_cons]
        simp only [hc, Bool.false_eq_true, if_false]
        rw [List.lookup_cons, hx]
    · have hx' : (x == n) = false := by simpa using hx
      rw [hx'] at h
      rw [List.map_cons]
      by_cases hc : (j == NameKind.free && env.scope.kind == .function && env.kindOf n == some .cell) = true
      · simp only [hc, if_true]
        rw [List.lookup_cons, hx']
        exact relabel_free env h
      · simp only [hc, Bool.false_eq_true, if_false]
        rw [List.lookup_cons, hx']
        exact relabel_free env h

theorem mem_of_look {α : Type} : ∀ {l : List (Str × α)} {x : Str} {k : α}, l.lookup x = some k → (x, k) ∈ l
  | [], _, _, h => by simp at h
  | (n, j) :: r, x, k, h => by
    rw [List.lookup_cons] at h
    by_cases hx : (x == n) = true
    · rw [hx] at h
      have e : j = k := Option.some.inj h
      rw [eq_of_beq hx, e]
      exact List.mem_cons_self
    · have hx' : (x == n) = false := by simpa using hx
      rw [hx'] at h
      exact List.mem_cons_of_mem _ (mem_of_look h)

def inner (k : Nat) (caps : List Nat) (σ : St) : St := List.replicate k none ++ caps.map fun j => (σ[j]?).join

abbrev pushD (s : Shared) : Shared := { s with heap := s.heap.push { cls := .type "list", dict := none, data := .seq ([] : List Value).toArray } }

def cxComp (X : Cx) (N : List Str) (scope : Scope) (pins : List (Addr × Obj)) (fp : List Addr) (s : Shared) (H : Hp) : Cx where
  prog := X.prog
  w := X.w
  K := X.K
  mg := X.mg
  base := X.base
  A := X.A
  N := N
  s₀ := pushD s
  H₀ := upd H s.heap.objs.size (.lst [])
  env := compEnvC scope (closL X.env.cells scope.names []) (s.heap.objs.size + 1) X.env
  outer := X.stack
  stack := X.stack
  ex := fp
  fn := fun _ => false
  calm := X.calm
  pn := X.pn ++ pins
  xe := fun _ _ => False

structure Block (X : Cx) (N : List Str) (scope : Scope) (k : Nat) (caps : List Nat) : Prop where
  kind : scope.kind = .function
  nocell : ∀ y ∈ scope.names, y.2 ≠ .cell
  frees : ∀ y ∈ scope.names, y.2 = .free → X.env.scope.names.lookup y.1 = some .cell ∨ X.env.scope.names.lookup y.1 = some .free
  locals : ∀ y ∈ scope.names, y.2 = .local → scope.names.lookup y.1 = some .local
  len : N.length = k + caps.length
  cap : ∀ i j, caps[i]? = some j → ∃ x, N[k + i]? = some x ∧ X.N[j]? = some x ∧ scope.names.lookup x = some .free

section
variable {X : Cx} {N : List Str} {scope : Scope} {k : Nat} {caps : List Nat} {pins : List (Addr × Obj)} {fp : List Addr} {σ : St} {H : Hp} {s : Shared} {h₁ : Heap} {tk : Nat}

theorem comp_start (B : Block X N scope k caps) (I : Inv X pins σ H s) (hf : ∀ b ∈ fp, FpOk X pins H b) (ho : ∀ b ∈ fp, ∃ o, s.heap.get? b = some o)
    (hn : h₁.Ns (s.heap.objs.size + 1) (fun _ => none)) (hk : ∀ b o, (pushD s).heap.get? b = some o → h₁.get? b = some o) :
    Inv (cxComp X N scope pins fp s H) [] (inner k caps σ) (upd H s.heap.objs.size (.lst [])) { s with heap := h₁, toks := tk } := by
  have szD : (pushD s).heap.objs.size = s.heap.objs.size + 1 := Heap.size_push ..
  have upD : ∀ b o, s.heap.get? b = some o → (pushD s).heap.get? b = some o := fun b o e => Heap.get?_push_of_some _ e
  have up : ∀ b o, s.heap.get? b = some o → h₁.get? b = some o := fun b o e => hk b o (upD b o e)
  have lt : ∀ {b o}, s.heap.get? b = some o → b ≠ s.heap.objs.size := fun e => Nat.ne_of_lt (Heap.lt_size e)
  have ltC : ∀ {b o}, s.heap.get? b = some o → b ≠ s.heap.objs.size + 1 := fun e => Nat.ne_of_lt (Nat.lt_succ_of_lt (Heap.lt_size e))
  have snd : ∀ x c, (closL X.env.cells scope.names []).lookup x = some c → X.env.cells.lookup x = some c := closL_sound _ _ _ fun x c e => by simp at e
  have isfree : ∀ x, (relabel scope X.env).names.lookup x = some .cell ∨ (relabel scope X.env).names.lookup x = some .free → scope.names.lookup x = some .free := fun x h => by
    rcases h with h | h
    · obtain ⟨k', e, z⟩ := relabel_kind X.env h
      rcases z with z | ⟨_, z⟩
      · rw [← z] at e; exact absurd rfl (B.nocell _ (mem_of_look e))
      · rw [z] at e; exact e
    · obtain ⟨k', e, z⟩ := relabel_kind X.env h
      rcases z with z | ⟨z, _⟩
      · rw [← z] at e; exact e
      · cases z
  have hasC : ∀ x, scope.names.lookup x = some .free → ∃ c, X.env.cells.lookup x = some c := fun x h => I.ok.has x (B.frees _ (mem_of_look h) rfl)
  have hasL : ∀ x c, scope.names.lookup x = some .free → X.env.cells.lookup x = some c → (closL X.env.cells scope.names []).lookup x = some c := fun x c h hc => by
    cases e : (closL X.env.cells scope.names []).lookup x with
    | none => exact absurd e (closL_has _ _ _ x c (mem_of_look h) hc)
    | some d => rw [← hc, snd x d e]
  have stk : ∀ b ∈ frs X.stack, H b = none ∧ b ≠ s.heap.objs.size := fun b hb => ⟨I.stkFree b hb, by
    obtain ⟨_, o, e, _⟩ := I.stack.mem hb
    exact lt e⟩
  refine ⟨⟨I.ok.mod, B.kind, I.ok.glob, I.ok.blt, Nat.le_of_eq szD, fun x y c h1 h2 => I.ok.inj x y c (snd x c h1) (snd y c h2), fun x h => ?_, fun x c h => absurd h (by simp [cxComp]), I.ok.hd, I.ok.frames, .inl rfl, fun b hb => ?_, fun b o e => ?_, ?_, fun b o e hb => ?_, fun b hb hs => ?_, ?_, fun b hb => ?_⟩,
    rfl, I.bare, Un.kept hk, ⟨_, hn, fun i x v h1 h2 h3 => ?_⟩, fun x c h => ?_, ?_, fun x c h => ?_, fun p hp => ?_, ?_, ?_⟩
  · -- has
    have hfx := isfree x h
    obtain ⟨c, hc⟩ := hasC x hfx
    exact ⟨c, hasL x c hfx hc⟩
  · -- exf
    obtain ⟨o, e⟩ := ho b hb
    exact ⟨ltC e, fun x c h => (hf b hb).2.2.2.2.1 x c (snd x c h)⟩
  · -- bs
    obtain ⟨e1, e2⟩ := I.bs b o e
    refine ⟨upD b o e1, ?_⟩
    show upd H _ _ b = none
    rw [upd_ne (lt e1)]; exact e2
  · -- bsz
    show X.base.objs.size ≤ (pushD s).heap.objs.size
    have := I.sz
    have := I.ok.bsz
    omega
  · -- noex
    rcases (hf b hb).2.2.2.1 with z | z
    · exact I.ok.noex b o e z
    · exact absurd (Nat.lt_of_lt_of_le (Heap.lt_size e) (Nat.le_trans I.ok.bsz z)) (Nat.lt_irrefl _)
  · -- exfs
    rcases List.mem_cons.mp (I.stkSub b hs) with z | z
    · exact (hf b hb).2.1 z
    · exact (hf b hb).2.2.1 z
  · -- funs
    exact I.stack.of_keeps fun b o e _ => ⟨o, upD b o e, rfl⟩
  · -- frf
    show upd H _ _ b = none
    rw [upd_ne (stk b hb).2]; exact (stk b hb).1
  · -- loc
    have hlt : ¬ i < k := fun hlt => by
      unfold inner at h2
      rw [List.getElem?_append_left (by simpa using hlt), List.getElem?_replicate, if_pos hlt] at h2
      cases h2
    obtain ⟨j, rfl⟩ : ∃ j, i = k + j := ⟨i - k, by omega⟩
    unfold inner at h2
    rw [List.getElem?_append_right (by simp), List.length_replicate, Nat.add_sub_cancel_left, List.getElem?_map] at h2
    cases hj : caps[j]? with
    | none => rw [hj] at h2; cases h2
    | some q =>
      rw [hj] at h2
      obtain ⟨y, hy1, hy2, hy3⟩ := B.cap j q hj
      have exy : y = x := Option.some.inj (hy1.symm.trans h1)
      subst exy
      have hv : σ[q]? = some (some v) := by
        have h2' : (σ[q]?).join = some v := Option.some.inj h2
        cases hq : σ[q]? with
        | none => rw [hq] at h2'; cases h2'
        | some w' => rw [hq] at h2'; rw [show w' = some v from h2']
      obtain ⟨m, hnm, hl⟩ := I.loc
      have fr := B.frees _ (mem_of_look hy3) rfl
      obtain ⟨u, ru, lk⟩ := hl q y v hy2 hv (.inr fr)
      refine ⟨u, ru, .inr ⟨relabel_free X.env hy3, ?_⟩⟩
      rcases lk with ⟨z, _⟩ | ⟨_, c, hc, ic⟩
      · exfalso
        have z' : X.env.scope.names.lookup y = some .local := z
        rcases fr with fr | fr
        · rw [z'] at fr; cases fr
        · rw [z'] at fr; cases fr
      · exact ⟨c, hasL y c hy3 hc, ic.keeps up⟩
  · -- cell
    obtain ⟨v, ic⟩ := I.cell x c (snd x c h)
    exact ⟨v, ic.keeps up⟩
  · -- free
    show upd H _ _ (s.heap.objs.size + 1) = none
    rw [upd_ne (Nat.succ_ne_self _)]
    exact I.hok.fresh (Nat.le_succ _)
  · -- freeC
    obtain ⟨v, o, e, _⟩ := I.cell x c (snd x c h)
    show upd H _ _ c = none
    rw [upd_ne (lt e)]
    exact I.freeC x c (snd x c h)
  · -- pin
    have hp' : p ∈ X.pn ++ pins := by
      have hp2 : p ∈ (X.pn ++ pins) ++ [] := hp
      rw [List.append_nil] at hp2
      exact hp2
    obtain ⟨e, n, ne, nf, d⟩ := I.pin p hp'
    refine ⟨up _ _ e, ?_, ltC e, fun z => ?_, d⟩
    · show upd H _ _ p.1 = none
      rw [upd_ne (lt e)]; exact n
    · rcases List.mem_cons.mp (I.stkSub p.1 z) with z | z
      · exact ne z
      · exact nf z
  · -- hok
    refine I.hok.laid up (Nat.le_refl _) ?_
    exact ⟨Nat.zero_le _, [], 0, .nil, hk _ _ (Heap.get?_push_size _ rfl)⟩
  · -- len
    unfold inner
    rw [List.length_append, List.length_replicate, List.length_map]
    exact B.len.symm

theorem comp_end {σ' : St} {H' : Hp} {s' : Shared} {h' : Heap} {pins' : List (Addr × Obj)} (I : Inv X pins σ H s) (hf : ∀ b ∈ fp, FpOk X pins H b) (J : Inv (cxComp X N scope pins fp s H) pins' σ' H' s')
    (hs : Heap.SameBut (s.heap.objs.size + 1) s'.heap h') : Inv X pins σ H' { s' with heap := h' } := by
  have freeD : H s.heap.objs.size = none := I.hok.fresh (Nat.le_refl _)
  have lt : ∀ {b o}, s.heap.get? b = some o → b ≠ s.heap.objs.size := fun e => Nat.ne_of_lt (Heap.lt_size e)
  have ltC : ∀ {b o}, s.heap.get? b = some o → b ≠ s.heap.objs.size + 1 := fun e => Nat.ne_of_lt (Nat.lt_succ_of_lt (Heap.lt_size e))
  have upD : ∀ b o, s.heap.get? b = some o → (pushD s).heap.get? b = some o := fun b o e => Heap.get?_push_of_some _ e
  have U : Un (frs X.stack) fp (upd H s.heap.objs.size (.lst [])) H' (pushD s).heap s'.heap := J.base
  have freeC : H' (s.heap.objs.size + 1) = none := J.free
  refine I.call' (s' := { s' with heap := h' }) (ch := fp) J.os ⟨fun b o e n hb hx => ?_, fun b o e n hb hx => ?_, fun b o e n hx => ?_, fun b o e hx => ?_, fun b xs e => ?_, fun b o u e => ?_, fun b ps e => ?_⟩ (fun b o e => ?_) J.bare fun b hb => ?_
  · show h'.get? b = some o
    rw [hs.2 b (ltC e)]
    exact U.keep b o (upD b o e) (by rw [upd_ne (lt e)]; exact n) hb hx
  · obtain ⟨sl, q⟩ := U.slot b o (upD b o e) (by rw [upd_ne (lt e)]; exact n) hb hx
    exact ⟨sl, by show h'.get? b = _; rw [hs.2 b (ltC e)]; exact q⟩
  · exact U.free b o (upD b o e) (by rw [upd_ne (lt e)]; exact n) hx
  · obtain ⟨o', q⟩ := U.there b o (upD b o e) hx
    exact ⟨o', by show h'.get? b = _; rw [hs.2 b (ltC e)]; exact q⟩
  · exact U.tups b xs (by rw [upd_ne (ne_of_none e freeD)]; exact e)
  · exact U.frzs b o u (by rw [upd_ne (ne_of_none e freeD)]; exact e)
  · exact U.tbls b ps (by rw [upd_ne (ne_of_none e freeD)]; exact e)
  · refine (J.hok b o e).stay (fun c v hc q => ?_) (fun _ q => q) fun _ _ q => q
    have hne : c ≠ s.heap.objs.size + 1 := by
      rcases hc with z | z
      · rw [z]; intro w'; rw [w', freeC] at e; cases e
      · intro w'; rw [w', freeC] at z; cases z
    show h'.get? c = some v
    rw [hs.2 c hne]; exact q
  · obtain ⟨f0, f1, f2, f3, f4, f5⟩ := hf b hb
    exact ⟨f3, f1, f4, f5⟩
end

section
variable {prog : Program} {w : World} {A : Around} {R : Result → Shared → Prop} {s : Shared}
theorem comp_turns {elt target iter : Expr} {ifs : List Expr} {scope : Scope} {pos : Pos} {it acc : Value} {env : Env} (J : Nat → Shared → Prop) (n : Nat) (h0 : J n s)
    (turn : ∀ n s, J n s → wpAny (model prog w) A (pyNext it) (fun r s1 => match r with
      | none => R (.ok .next) s1
      | some v => wpAny (model prog w) A (letOwnedTupleGo target it v) (fun _ s2 => wpAny (model prog w) A (assign target env v) (fun _ s3 =>
          wpAny (model prog w) A (forIn ifs true fun c r => if r = true then do let ok ← isTrue c env (eval c env); pure (ForInStep.yield ok) else pure (ForInStep.yield r)) (fun ok s4 =>
            if ok = true then wpAny (model prog w) A (eval elt env) (fun x s5 =>
              wpAny (model prog w) A (call (.builtin "list.append") [acc, x]) (fun _ s6 => ∃ m, m < n ∧ J m s6) (fun _ _ => False) s5) (fun _ _ => False) s4
            else ∃ m, m < n ∧ J m s4) (fun _ _ => False) s3) (fun _ _ => False) s2) (fun _ _ => False) s1) (fun _ _ => False) s) :
    codeAny (model prog w) A (.compLoop (.ListComp elt [⟨target, iter, ifs, 0⟩] scope pos) 0 it acc env) R s := by
  have no : ∀ {e : Value} {s' : Shared}, False → notedBy (model prog w) A env (fun e s' => R (.error e) s') e s' := fun h => False.elim h
  refine codeAny_loop rfl J (fun n s hJ => ?_) n h0
  show wpAny (model prog w) A ((compTurn (.ListComp elt [⟨target, iter, ifs, 0⟩] scope pos) 0 it acc env).onRaise (fun x => do noteFrame x env; theTreesLotGoes x)) _ _ s
  refine wpAny_noted ?_
  rw [compTurn_list]
  refine wpAny_bind (wpAny_standAt (wpAny_bind (wpAny_mono (turn n s hJ) (fun r s1 h1 => ?_) fun _ _ h' => no h')))
  cases r with
  | none => exact wpAny_pure h1
  | some v =>
    refine wpAny_bind (wpAny_mono h1 (fun _ s2 h2 => ?_) fun _ _ h' => no h')
    refine wpAny_bind (wpAny_mono h2 (fun _ s3 h3 => wpAny_bind (wpAny_mono h3 (fun ok s4 h4 => ?_) fun _ _ h' => no h')) fun _ _ h' => no h')
    cases ok with
    | false => exact wpAny_pure ⟨rfl, h4⟩
    | true =>
      have h4' := h4
      rw [if_pos rfl] at h4'
      exact wpAny_bind (wpAny_bind (wpAny_mono h4' (fun x s5 h5 => wpAny_bind (wpAny_mono h5 (fun _ s6 h6 => wpAny_pure (wpAny_pure ⟨rfl, h6⟩)) fun _ _ h' => no h')) fun _ _ h' => no h'))
end

inductive PIfs (X : Cx) : List Expr → TT → Prop
  | none : PIfs X [] (fun _ H Q => Q true H)
  | one {c : Expr} {t : TT} : PT X c t → PIfs X [c] t

def CompAt (D : Addr) (J : It) (g : TG) (ti : TT) (te : TE) (k : Nat) (caps : List Nat) (σ : St) (Q : VK) (H1 : Hp) : Prop :=
  ∃ W : Nat → Nat → List V → Hp → Prop, (∃ m, W 0 m [] (upd H1 D (.lst []))) ∧
    ∀ i m ys H2, W i m ys H2 → H2 D = some (.lst ys) ∧ ((J.stop i H2 ∧ Q (.ref D) H2) ∨ (J.go i H2 ∧ ys.length < sizeLine ∧ ∀ x H3, J.yld i H2 x H3 →
      g x (inner k caps σ) H3 fun σ4 H4 => (σ4.length = (inner k caps σ).length ∧ σ4.drop k = (inner k caps σ).drop k) ∧
        ti σ4 H4 fun b H5 => if b = true then te σ4 H5 fun y H6 => H6 D = some (.lst ys) ∧ ∃ m', m' < m ∧ W (i + 1) m' (ys ++ [y]) (upd H6 D (.lst (ys ++ [y]))) else ∃ m', m' < m ∧ W (i + 1) m' ys H5))
def CompBody (J : It) (g : TG) (ti : TT) (te : TE) (k : Nat) (caps : List Nat) (σ : St) (Q : VK) (H1 : Hp) : Prop := ∀ D, H1 D = none → CompAt D J g ti te k caps σ Q H1
def tComp (wi : TI) (g : TG) (ti : TT) (te : TE) (k : Nat) (caps : List Nat) : TE := fun σ H Q => wi σ H fun J H1 => CompBody J g ti te k caps σ Q H1

section
variable {X : Cx} {N : List Str} {scope : Scope} {k : Nat} {caps : List Nat} {tg elt iter : Expr} {ifs : List Expr} {wi : TI} {g : TG} {ti : TT} {te : TE} {pos : Pos}

theorem inner_weak {σ σ4 : St} (h1 : σ4.length = (inner k caps σ).length) (h2 : σ4.drop k = (inner k caps σ).drop k) (i : Nat) (v : V) (h : (inner k caps σ)[i]? = some (some v)) : σ4[i]? = some (some v) := by
  have hlt : ¬ i < k := fun hlt => by
    unfold inner at h
    rw [List.getElem?_append_left (by simpa using hlt), List.getElem?_replicate, if_pos hlt] at h
    cases h
  obtain ⟨j, rfl⟩ : ∃ j, i = k + j := ⟨i - k, by omega⟩
  have e1 : (σ4.drop k)[j]? = σ4[k + j]? := List.getElem?_drop
  have e2 : ((inner k caps σ).drop k)[j]? = (inner k caps σ)[k + j]? := List.getElem?_drop
  rw [← e1, h2, e2, h]

theorem comp_block {E : Value → Shared → Prop} {pins : List (Addr × Obj)} {σ : St} {H : Hp} {s : Shared} {it : Addr} {fp : List Addr} {tn : Nat → Heap → Prop} {J : It} {RR : Value → Addr → Result → Shared → Prop} (B : Block X N scope k caps) (hcalm : X.calm = true)
    (hg : ∀ pins fp s H, ∃ t, PG (cxComp X N scope pins fp s H) tg t ∧ t = g) (hi : ∀ pins fp s H, ∃ t, PIfs (cxComp X N scope pins fp s H) ifs t ∧ t = ti) (he : ∀ pins fp s H, ∃ t, PE (cxComp X N scope pins fp s H) elt t ∧ t = te)
    (I : Inv X pins σ H s) (T : Turn X.prog X.w X.K tg J fp it tn) (st : tn 0 s.heap) (hf : ∀ b ∈ fp, FpOk X pins H b) (Q : VK)
    (hw : CompAt s.heap.objs.size J g ti te k caps σ Q H)
    (hRR : ∀ s' H', (∃ m, s'.heap.Ns (s.heap.objs.size + 1) m) → H' (s.heap.objs.size + 1) = none → (∀ h', Heap.SameBut (s.heap.objs.size + 1) s'.heap h' → Inv X pins σ H' { s' with heap := h' }) → Q (.ref s.heap.objs.size) H' → RR (.ref s.heap.objs.size) (s.heap.objs.size + 1) (.ok .next) s') :
    wpAny (model X.prog X.w) X.A (newList []) (fun acc s3 => wpAny (model X.prog X.w) X.A (newFunctionEnv scope X.env.globals (closL X.env.cells scope.names []) [] X.env.qual none .none (some X.env)) (fun cenv s4 =>
      codeAny (model X.prog X.w) X.A (.compStart (.ListComp elt [⟨tg, iter, ifs, 0⟩] scope pos) 0 (.ref it) acc { cenv with scope := relabel scope X.env }) (RR acc cenv.locals) s4) E s3) E s := by
  obtain ⟨W, ⟨m0, w0⟩, turn⟩ := hw
  obtain ⟨tg', hg1, eg⟩ := hg pins fp s H
  clear hg
  subst eg
  obtain ⟨ti', hi1, ei⟩ := hi pins fp s H
  clear hi
  subst ei
  obtain ⟨te', he1, ee⟩ := he pins fp s H
  clear he
  subst ee
  refine wpAny_newObj_type (wpAny_newFunctionEnv B.nocell (by intro y hy; simp at hy) (fun h₁ hns₁ hsb₁ => ?_) B.kind)
  dsimp only at hns₁ hsb₁ ⊢
  have szD : (pushD s).heap.objs.size = s.heap.objs.size + 1 := Heap.size_push ..
  have eC : (s.heap.push { cls := .type "list", dict := none, data := .seq ([] : List Value).toArray }).objs.size = s.heap.objs.size + 1 := szD
  rw [eC] at hns₁ hsb₁ ⊢
  have hk₁ : ∀ b o, (pushD s).heap.get? b = some o → h₁.get? b = some o := fun b o e => by
    have l : b ≠ s.heap.objs.size + 1 := by
      have l1 := Heap.lt_size e
      rw [szD] at l1
      exact Nat.ne_of_lt l1
    exact hsb₁.extBut b o l (Heap.get?_push_of_some _ e)
  have st₁ : tn 0 h₁ := T.keep 0 s.heap h₁ st fun b _ o e => hk₁ b o (Heap.get?_push_of_some _ e)
  have ho : ∀ b ∈ fp, ∃ o, s.heap.get? b = some o := fun b hb => let ⟨o, e, _⟩ := T.obj 0 _ st b hb; ⟨o, e⟩
  have loop : ∀ s1 : Shared, s1 = { s with heap := h₁, toks := s.toks + ([] : List (Str × Value)).length } →
      codeAny (model X.prog X.w) X.A (.compLoop (.ListComp elt [⟨tg, iter, ifs, 0⟩] scope pos) 0 (.ref it) (.ref s.heap.objs.size) (cxComp X N scope pins fp s H).env) (RR (.ref s.heap.objs.size) (s.heap.objs.size + 1)) s1 := by
    rintro s1 rfl
    have I₁ := comp_start (N := N) (tk := s.toks + ([] : List (Str × Value)).length) B I hf ho hns₁ hk₁
    have stat : ∀ {H' : Hp}, (∀ b ∈ fp, H' b = none) → ∀ b ∈ fp, FpOk (cxComp X N scope pins fp s H) [] H' b := fun hn b hb => by
      obtain ⟨_, z⟩ := I₁.ok.exf b hb
      refine ⟨hn b hb, (I₁.ok.exf b hb).1, I₁.ok.exfs b hb, .inl hb, fun x c e => (I₁.ok.exf b hb).2 x c e, fun p hp => ?_⟩
      have hp2 : p ∈ (X.pn ++ pins) ++ [] := hp
      rw [List.append_nil] at hp2
      exact (hf b hb).2.2.2.2.2 p hp2
    refine comp_turns (fun n s' => ∃ i ys H', Inv (cxComp X N scope pins fp s H) [] (inner k caps σ) H' s' ∧ tn i s'.heap ∧ (∀ b ∈ fp, H' b = none) ∧ W i n ys H') m0 ⟨0, [], _, I₁, st₁, fun b hb => ?_, w0⟩ ?_
    · obtain ⟨o, e⟩ := ho b hb
      rw [upd_ne (Nat.ne_of_lt (Heap.lt_size e))]
      exact (hf b hb).1
    · rintro n s2 ⟨i, ys, H2, I2, st2, fr2, w2⟩
      obtain ⟨hD, alt⟩ := turn i n ys H2 w2
      rcases alt with ⟨stop, q⟩ | ⟨go, hz, step⟩
      · refine thn (T.done (cxComp X N scope pins fp s H) rfl rfl rfl hcalm i [] s2 _ H2 _ I2 (stat fr2) st2 stop) fun r s3 ⟨hr, I3⟩ => ?_
        subst hr
        obtain ⟨m, hnm, _⟩ := id I3.loc
        exact hRR s3 H2 ⟨m, hnm⟩ I3.free (fun h' hs => comp_end I hf I3 hs) q
      · refine thn (T.item (cxComp X N scope pins fp s H) rfl rfl rfl hcalm i [] s2 _ H2 _ I2 (stat fr2) st2 go) fun r s3 ⟨u, hr, h3⟩ => ?_
        subst hr
        refine thn h3 fun _ s4 ⟨x, H4, I4, r4, y4, st4, fr4⟩ => ?_
        have I4' := I4.pinned (stat fr4) (T.obj _ _ st4)
        refine thn (hg1 _ s4 _ H4 x u _ I4' r4 (step x H4 y4)) fun _ s5 ⟨σ5, H5, I5, ⟨k1, k2⟩, q5⟩ => ?_
        have back : ∀ {H7 : Hp} {s7 : Shared}, Inv (cxComp X N scope pins fp s H) ([] ++ pinsAt fp s4.heap) σ5 H7 s7 → Inv (cxComp X N scope pins fp s H) [] (inner k caps σ) H7 s7 ∧ tn (i + 1) s7.heap ∧ (∀ b ∈ fp, H7 b = none) := fun {H7 s7} I7 => by
          refine ⟨I7.unpinned.weak k1.symm (inner_weak k1 k2), T.keep _ _ _ st4 fun b hb o e => (I7.pin (b, o) (List.mem_append_right _ (List.mem_append_right _ (mem_pinsAt hb e)))).1, fun b hb => ?_⟩
          obtain ⟨o, e, d⟩ := T.obj _ _ st4 b hb
          exact (I7.pin (b, o) (List.mem_append_right _ (List.mem_append_right _ (mem_pinsAt hb e)))).2.1
        have body : ∀ (ok : Bool) (s6 : Shared) (H6 : Hp), Inv (cxComp X N scope pins fp s H) ([] ++ pinsAt fp s4.heap) σ5 H6 s6 →
            (if ok = true then te' σ5 H6 fun y H6 => H6 s.heap.objs.size = some (.lst ys) ∧ ∃ m', m' < n ∧ W (i + 1) m' (ys ++ [y]) (upd H6 s.heap.objs.size (.lst (ys ++ [y]))) else ∃ m', m' < n ∧ W (i + 1) m' ys H6) →
            (if ok = true then wpAny (model X.prog X.w) X.A (eval elt (cxComp X N scope pins fp s H).env) (fun x s5 =>
              wpAny (model X.prog X.w) X.A (call (.builtin "list.append") [.ref s.heap.objs.size, x]) (fun _ s6 => ∃ m, m < n ∧ ∃ i ys H', Inv (cxComp X N scope pins fp s H) [] (inner k caps σ) H' s6 ∧ tn i s6.heap ∧ (∀ b ∈ fp, H' b = none) ∧ W i m ys H') (fun _ _ => False) s5) (fun _ _ => False) s6
            else ∃ m, m < n ∧ ∃ i ys H', Inv (cxComp X N scope pins fp s H) [] (inner k caps σ) H' s6 ∧ tn i s6.heap ∧ (∀ b ∈ fp, H' b = none) ∧ W i m ys H') := fun ok s6 H6 I6 q6 => by
          cases ok with
          | false =>
            rw [if_neg Bool.false_ne_true] at q6 ⊢
            obtain ⟨m', hm, w6⟩ := q6
            obtain ⟨b1, b2, b3⟩ := back I6
            exact ⟨m', hm, i + 1, ys, H6, b1, b2, b3, w6⟩
          | true =>
            rw [if_pos rfl] at q6 ⊢
            refine thn (he1 _ s6 σ5 H6 _ I6 q6) fun y s7 ⟨yv, H7, I7, r7, hD7, m', hm, w7⟩ => ?_
            refine thn (mt_append (X := cxComp X N scope pins fp s H) _ s7 σ5 H7 (.ref s.heap.objs.size) [yv] (.ref s.heap.objs.size) [y] (fun v H8 => v = .non ∧ H8 = upd H7 s.heap.objs.size (.lst (ys ++ [yv]))) I7 rfl (.cons r7 .nil) ⟨_, ys, yv, rfl, rfl, hD7, hz, rfl, rfl⟩) fun _ s8 ⟨_, H8, I8, _, _, e8⟩ => ?_
            subst e8
            obtain ⟨b1, b2, b3⟩ := back I8
            exact ⟨m', hm, i + 1, _, _, b1, b2, b3, w7⟩
        cases hi1 with
        | none => exact wpAny_tests_nil (body true s5 H5 I5 q5)
        | one hc => exact wpAny_tests_one (thn (hc _ s5 σ5 H5 _ I5 q5) fun ok s6 ⟨H6, I6, q6⟩ => body ok s6 H6 I6 q6)
  exact codeAny_compStart_list (loop _ rfl) (T.self X.A 0 _ _ _ st₁ (loop _ rfl))

theorem pe_comp (B : Block X N scope k caps) (hcalm : X.calm = true) (hwi : PI X tg iter wi)
    (hg : ∀ pins fp s H, ∃ t, PG (cxComp X N scope pins fp s H) tg t ∧ t = g) (hi : ∀ pins fp s H, ∃ t, PIfs (cxComp X N scope pins fp s H) ifs t ∧ t = ti) (he : ∀ pins fp s H, ∃ t, PE (cxComp X N scope pins fp s H) elt t ∧ t = te)
    (hs : ∀ x, foldedSetIterable iter X.env x = pure x := by intro _; rfl) : PE X (.ListComp elt [⟨tg, iter, ifs, 0⟩] scope pos) (tComp wi g ti te k caps) := by
  intro pins s σ H Q I h
  rw [eval_ListComp]
  have hcl : closureFor scope X.env = pure (closL X.env.cells scope.names []) := closureFor_eq fun n hn => I.ok.has n (B.frees _ hn rfl)
  refine wpAny_comprehension_free (use := none) rfl hs hcl B.kind B.locals (thn (hwi pins s σ H _ I h) fun xv s1 h1 => thn h1 fun itv s2 h2 => ?_)
  obtain ⟨it, fp, tn, J, H2, e, I2, T, st2, f2, hw⟩ := h2
  subst e
  refine comp_block (RR := fun acc C => compPost (model X.prog X.w) X.A X.xe none (EP X pins σ Q) acc C) B hcalm hg hi he I2 T st2 f2 Q (hw _ (I2.hok.fresh (Nat.le_refl _))) fun s' H' hm _ hI q => ?_
  obtain ⟨m, hnm⟩ := hm
  exact ⟨m, hnm, fun h' hs' => ⟨.ref _, H', hI h' hs', rfl, q⟩⟩

end
end L2
set_option maxRecDepth 100000
set_option maxHeartbeats 4000000
namespace L2
open PySem PySem.Spec PyProof.Rows

section
variable {X : Cx} {pins : List (Addr × Obj)} {σ : St} {H : Hp} {s : Shared} {h' : Heap}
theorem Inv.turnedL {ch : List Addr} {T : Addr} {o : HO} {t' : Nat} (I : Inv X pins σ H s) (hch : ∀ b ∈ ch, FpOk X pins H b)
    (kp : ∀ b u, b ∉ ch → s.heap.get? b = some u → h'.get? b = some u) (hT : s.heap.objs.size ≤ T) (new : ObjOk X.prog X.w (upd H T o) h' T o) : Inv X pins σ (upd H T o) { s with heap := h', toks := t' } := by
  have fT : H T = none := I.hok.fresh hT
  have ltT : ∀ {b u}, s.heap.get? b = some u → b ≠ T := fun e => Nat.ne_of_lt (Nat.lt_of_lt_of_le (Heap.lt_size e) hT)
  have noch : ∀ b u, H b = some u → b ∉ ch := fun b u e z => by rw [(hch b z).1] at e; cases e
  refine I.step (g' := s.gens) (d' := s.drawn) (ch := ch) (fun b hb => ?_) (fun b u _ _ hc e _ => kp b u hc e) (fun b u _ _ hc e _ => ⟨u.slots, kp b u hc e⟩) (fun b u _ e n => by rw [upd_ne (ltT e)]; exact n)
    (fun b u hc e => ⟨u, kp b u hc e⟩) (fun b xs e => by rw [upd_ne (ne_of_none e fT)]; exact e) (fun b u v e => by rw [upd_ne (ne_of_none e fT)]; exact e) (fun b ps e => ⟨#[], by rw [upd_ne (ne_of_none e fT), e]; simp⟩) (fun m hm => ?_) (fun b u e => ?_) I.bare
  · obtain ⟨_, f1, _, f3, f4, f5⟩ := hch b hb
    exact ⟨f3, f1, f4, f5⟩
  · obtain ⟨u, es, ep, e, r⟩ := hm
    exact ⟨u, es, ep, kp _ u (fun z => (hch _ z).2.1 rfl) e, r⟩
  · by_cases hb : b = T
    · subst hb
      rw [upd_same] at e
      cases e
      exact new
    · rw [upd_ne hb] at e
      refine (I.hok b u e).stay (fun c v hc q => kp c v ?_ q) (fun c q => by rw [upd_ne (ne_of_none q fT)]; exact q) fun c xs q => by rw [upd_ne (ne_of_none q fT)]; exact q
      rcases hc with z | z
      · rw [z]; exact noch b u e
      · exact noch c _ z
theorem Inv.turnedN {ch : List Addr} {t' : Nat} (I : Inv X pins σ H s) (hch : ∀ b ∈ ch, FpOk X pins H b)
    (kp : ∀ b u, b ∉ ch → s.heap.get? b = some u → h'.get? b = some u) : Inv X pins σ H { s with heap := h', toks := t' } := by
  have noch : ∀ b u, H b = some u → b ∉ ch := fun b u e z => by rw [(hch b z).1] at e; cases e
  refine I.step (g' := s.gens) (d' := s.drawn) (ch := ch) (fun b hb => ?_) (fun b u _ _ hc e _ => kp b u hc e) (fun b u _ _ hc e _ => ⟨u.slots, kp b u hc e⟩) (fun _ _ _ _ n => n)
    (fun b u hc e => ⟨u, kp b u hc e⟩) (fun _ _ e => e) (fun _ _ _ e => e) (fun b ps e => ⟨#[], by rw [e]; simp⟩) (fun m hm => ?_) (fun b u e => ?_) I.bare
  · obtain ⟨_, f1, _, f3, f4, f5⟩ := hch b hb
    exact ⟨f3, f1, f4, f5⟩
  · obtain ⟨u, es, ep, e, r⟩ := hm
    exact ⟨u, es, ep, kp _ u (fun z => (hch _ z).2.1 rfl) e, r⟩
  · refine (I.hok b u e).stay (fun c v hc q => kp c v ?_ q) (fun _ q => q) fun _ _ q => q
    rcases hc with z | z
    · rw [z]; exact noch b u e
    · exact noch c _ z
end

def Itz (K : PySem.W.Frag) (a b : Addr) : It :=
  ⟨fun i H => ∃ xs ys x y, SqL K H a xs ∧ SqL K H b ys ∧ xs[i]? = some x ∧ ys[i]? = some y,
   fun i H v H' => ∃ T x y, H T = none ∧ v = .ref T ∧ H' = upd H T (.tup [x, y]) ∧ (∀ xs, SqL K H a xs → xs[i]? = some x) ∧ ∀ ys, SqL K H b ys → ys[i]? = some y,
   fun i H => ∃ xs ys, SqL K H a xs ∧ SqL K H b ys ∧ (xs.length ≤ i ∨ ys.length ≤ i)⟩

theorem tup_new {P : Program} {w : World} {H : Hp} {h : Heap} {T : Addr} {xs : List V} {us : List Value} (hz : xs.length ≤ sizeLine) (r : Vals xs us) (e : h.get? T = some { cls := .type "tuple", data := .seq us.toArray }) : ObjOk P w H h T (.tup xs) :=
  ⟨hz, us, r, ⟨_, e, rfl, _, rfl⟩⟩

theorem turn_zip {P : Program} {w : World} {K : PySem.W.Frag} {es : List Expr} {kk : Nat} {tp : Pos} {a b z TI TO i1 i2 : Addr} (D : ZipApart z TI TO i1 i2 a b) :
    Turn P w K (.Tuple es kk tp) (Itz K a b) [z, TI, TO, i1, i2] z (fun i h => IsZip h z TI TO .none ∧ IsPair h TI (.ref i1) (.ref i2) ∧ (∃ u v, IsPair h TO u v) ∧ h.IsListIter i1 a i ∧ h.IsListIter i2 b i) where
  mem := by simp
  obj := fun i h st c hc => by
    obtain ⟨h1, h2, ⟨u, v, h3⟩, ⟨o4, e4, c4, d4⟩, ⟨o5, e5, c5, d5⟩⟩ := st
    simp only [List.mem_cons, List.not_mem_nil, or_false] at hc
    rcases hc with rfl | rfl | rfl | rfl | rfl
    · exact ⟨_, h1, fun v z => by cases z⟩
    · exact ⟨_, h2, fun v z => by cases z⟩
    · exact ⟨_, h3, fun v z => by cases z⟩
    · exact ⟨o4, e4, fun v z => by rw [d4] at z; cases z⟩
    · exact ⟨o5, e5, fun v z => by rw [d5] at z; cases z⟩
  keep := fun i h h' st kp => by
    obtain ⟨h1, h2, ⟨u, v, h3⟩, h4, h5⟩ := st
    exact ⟨kp z (by simp) _ h1, kp TI (by simp) _ h2, ⟨u, v, kp TO (by simp) _ h3⟩, h4.at fun o e => kp i1 (by simp) o e, h5.at fun o e => kp i2 (by simp) o e⟩
  item := by
    intro X hP hw hK hc i pins s σ H E I hf st hg
    subst hP hw hK
    obtain ⟨h1, h2, ⟨u, v, h3⟩, h4, h5⟩ := st
    obtain ⟨xs, ys, x, y, q1, q2, ex, ey⟩ := hg
    obtain ⟨its, rv, p, hz⟩ := I.list q1
    obtain ⟨jts, rw', p', hz'⟩ := I.list q2
    obtain ⟨ux, eu, ru⟩ := rv.get ex
    obtain ⟨uy, ev, rv'⟩ := rw'.get ey
    refine wpAny_pyNext_zip_item D h1 h2 h3 h4 h5 p.isList p'.isList (x := ux) (y := uy) (by simpa using eu) (by simpa using ev) fun g a1 a2 a3 a4 a5 a6 kp => ?_
    refine ⟨_, rfl, wpAny_letOwnedTupleGo_zip a1 fun g' b1 b2 => ?_⟩
    have up : ∀ c o, c ∉ [z, TO, i1, i2] → s.heap.get? c = some o → g'.get? c = some o := fun c o hcn e => by
      simp only [List.mem_cons, List.not_mem_nil, or_false, not_or] at hcn
      exact (b2.2 c hcn.1).trans (kp c o hcn.1 hcn.2.1 hcn.2.2.1 hcn.2.2.2 e)
    have ltz : z < s.heap.objs.size := Heap.lt_size h1
    have fT : H s.heap.objs.size = none := I.hok.fresh (Nat.le_refl _)
    have newT : g'.get? s.heap.objs.size = some { cls := .type "tuple", data := .seq #[ux, uy] } := (b2.2 _ (Nat.ne_of_gt ltz)).trans a5
    have sub : ∀ c ∈ [z, TO, i1, i2], c ∈ [z, TI, TO, i1, i2] := fun c hc => by
      simp only [List.mem_cons, List.not_mem_nil, or_false] at hc ⊢
      rcases hc with rfl | rfl | rfl | rfl <;> simp
    refine ⟨.ref s.heap.objs.size, upd H s.heap.objs.size (.tup [x, y]), I.turnedL (t' := s.toks) (ch := [z, TO, i1, i2]) (fun c hc => hf c (sub c hc)) up (Nat.le_refl _) (tup_new (us := [ux, uy]) (by simp [sizeLine_eq]) (.cons ru (.cons rv' .nil)) newT), rfl, ?_, ?_, fun c hc => ?_⟩
    · exact ⟨_, x, y, fT, rfl, rfl, fun zs hq => by rw [I.list_inj hq q1]; exact ex, fun zs hq => by rw [I.list_inj hq q2]; exact ey⟩
    · exact ⟨b1, (b2.2 _ D.TIz).trans (kp _ _ D.TIz D.TITO D.TIi1 D.TIi2 h2), ⟨_, _, (b2.2 _ D.TOz).trans a2⟩, a3.at fun o e => (b2.2 _ D.i1z).trans e, a4.at fun o e => (b2.2 _ D.i2z).trans e⟩
    · obtain ⟨f0, _⟩ := hf c hc
      obtain ⟨o, e, _⟩ := (show ∃ o, s.heap.get? c = some o ∧ True from by
        simp only [List.mem_cons, List.not_mem_nil, or_false] at hc
        obtain ⟨o4, e4, _⟩ := h4
        obtain ⟨o5, e5, _⟩ := h5
        rcases hc with rfl | rfl | rfl | rfl | rfl
        · exact ⟨_, h1, trivial⟩
        · exact ⟨_, h2, trivial⟩
        · exact ⟨_, h3, trivial⟩
        · exact ⟨_, e4, trivial⟩
        · exact ⟨_, e5, trivial⟩)
      rw [upd_ne (Nat.ne_of_lt (Heap.lt_size e))]
      exact f0
  done := by
    intro X hP hw hK hc i pins s σ H E I hf st hg
    subst hP hw hK
    obtain ⟨h1, h2, ⟨u, v, h3⟩, h4, h5⟩ := st
    obtain ⟨xs, ys, q1, q2, hend⟩ := hg
    obtain ⟨its, rv, p, hz⟩ := I.list q1
    obtain ⟨jts, rw', p', hz'⟩ := I.list q2
    have l1 := rv.length
    have l2 := rw'.length
    refine wpAny_pyNext_zip_end (I.ok.hd hc) D h1 h2 h3 h4 h5 p.isList p'.isList ?_ fun g kp => ⟨rfl, ?_⟩
    · rcases hend with z | z
      · left; simp; omega
      · right; simp; omega
    · refine I.turnedN (t' := s.toks) (ch := [z, TO, i1, i2]) (fun c hc => hf c ?_) fun c o hcn e => ?_
      · simp only [List.mem_cons, List.not_mem_nil, or_false] at hc ⊢
        rcases hc with rfl | rfl | rfl | rfl <;> simp
      · simp only [List.mem_cons, List.not_mem_nil, or_false, not_or] at hcn
        exact kp c o hcn.1 hcn.2.1 hcn.2.2.1 hcn.2.2.2 e
  self := fun _ _ _ _ _ st h => wpAny_pyIter_zip st.1 h

def iZip (K : PySem.W.Frag) (ta : TA) : TI := fun σ H R => ta σ H fun vs H1 => ∃ a b, vs = [.ref a, .ref b] ∧ (∃ xs, SqL K H1 a xs) ∧ (∃ ys, SqL K H1 b ys) ∧ R (Itz K a b) H1
theorem pi_zip {X : Cx} {es : List Expr} {kk : Nat} {tp : Pos} {e f : Expr} {ta : TA} {p pos : Pos} (hg : Gl X "zip") (hm : X.mg "zip" = none) (hv : bootBuiltins "zip" = some (.type "zip")) (ha : PA X [e, f] ta)
    (hs : starEach [e, f] X.env = [(false, eval e X.env), (false, eval f X.env)] := by rfl) (hs2 : starEach [f] X.env = [(false, eval f X.env)] := by rfl) :
    PI X (.Tuple es kk tp) (.Call (.Name "zip" p) [e, f] [] pos) (iZip X.K ta) := by
  intro pins s σ H R I h
  refine Call_ (ld_blt I hg hm hv (PyProof.Rows.callWith_type1 (thn (ha pos pins s σ H _ I h) fun us s1 ⟨vs, H1, I1, r1, q1⟩ => ?_) (by rw [hs, hs2]) (by rw [hs2]; rfl)))
  obtain ⟨a, b, e1, ⟨xs, hq⟩, ⟨ys, hq'⟩, q⟩ := q1
  subst e1
  cases r1 with
  | cons r rr =>
    cases rr with
    | cons r' rr =>
      cases rr
      cases r
      cases r'
      obtain ⟨its, rv, pl, hz⟩ := I1.list hq
      obtain ⟨jts, rw', pl', hz'⟩ := I1.list hq'
      obtain ⟨oa, ea, _⟩ := pl.isList
      obtain ⟨ob, eb, _⟩ := pl'.isList
      have la : @LT.lt Nat _ a s1.heap.objs.size := Heap.lt_size ea
      have lb : @LT.lt Nat _ b s1.heap.objs.size := Heap.lt_size eb
      refine call_zip_2 pl.isList pl'.isList fun g a1 a2 a3 a4 a5 a6 kp => ?_
      have D : ZipApart (s1.heap.objs.size + 4) (s1.heap.objs.size + 2) (s1.heap.objs.size + 3) s1.heap.objs.size (s1.heap.objs.size + 1) a b := by
        constructor <;> (apply show ∀ {x y : Nat}, x ≠ y → x ≠ y from fun h => h) <;> omega
      refine wpAny_pyIter_zip a1 ?_
      have I2 : Inv X pins σ H1 { s1 with heap := g } := I1.kept (t' := s1.toks) kp
      refine ⟨_, _, _, _, H1, rfl, I2, turn_zip D, ⟨a1, a2, ⟨_, _, a3⟩, a4, a5⟩, fun c hc => ?_, q⟩
      have lc : s1.heap.objs.size ≤ c := by
        simp only [List.mem_cons, List.not_mem_nil, or_false] at hc
        rcases hc with rfl | rfl | rfl | rfl | rfl <;> omega
      exact I1.fpOk lc (I1.hok.fresh lc)

def Ite (K : PySem.W.Frag) (a : Addr) : It :=
  ⟨fun i H => ∃ xs x, SqL K H a xs ∧ xs[i]? = some x,
   fun i H v H' => ∃ T x, H T = none ∧ v = .ref T ∧ H' = upd H T (.tup [.int i, x]) ∧ ∀ xs, SqL K H a xs → xs[i]? = some x,
   fun i H => ∃ xs, SqL K H a xs ∧ xs.length ≤ i⟩

theorem turn_enum {P : Program} {w : World} {K : PySem.W.Frag} {es : List Expr} {kk : Nat} {tp : Pos} {a e it : Addr} (hei : e ≠ it) (hae : a ≠ e) (hai : a ≠ it) :
    Turn P w K (.Tuple es kk tp) (Ite K a) [e, it] e (fun i h => (∃ old, IsEnum h e it i old) ∧ h.IsListIter it a i) where
  mem := by simp
  obj := fun i h st c hc => by
    obtain ⟨⟨old, h1⟩, ⟨o4, e4, c4, d4⟩⟩ := st
    simp only [List.mem_cons, List.not_mem_nil, or_false] at hc
    rcases hc with rfl | rfl
    · exact ⟨_, h1, fun v z => by cases z⟩
    · exact ⟨o4, e4, fun v z => by rw [d4] at z; cases z⟩
  keep := fun i h h' st kp => by
    obtain ⟨⟨old, h1⟩, h4⟩ := st
    exact ⟨⟨old, kp e (by simp) _ h1⟩, h4.at fun o q => kp it (by simp) o q⟩
  item := by
    intro X hP hw hK hc i pins s σ H E I hf st hg
    subst hP hw hK
    obtain ⟨⟨old, h1⟩, h4⟩ := st
    obtain ⟨xs, x, q1, ex⟩ := hg
    obtain ⟨its, rv, p, hz⟩ := I.list q1
    obtain ⟨ux, eu, ru⟩ := rv.get ex
    refine wpAny_pyNext_enum_item h1 h4 p.isList (x := ux) (by simpa using eu) hei fun g a1 a3 a5 a6 kp => ?_
    refine ⟨_, rfl, wpAny_letOwnedTupleGo_enum a1 fun g' b1 b2 => ?_⟩
    have up : ∀ c o, c ∉ [e, it] → s.heap.get? c = some o → g'.get? c = some o := fun c o hcn q => by
      simp only [List.mem_cons, List.not_mem_nil, or_false, not_or] at hcn
      exact (b2.2 c hcn.1).trans (kp c o hcn.1 hcn.2 q)
    have lte : e < s.heap.objs.size := Heap.lt_size h1
    have fT : H s.heap.objs.size = none := I.hok.fresh (Nat.le_refl _)
    have newT : g'.get? s.heap.objs.size = some { cls := .type "tuple", data := .seq #[.int i s.toks, ux] } := (b2.2 _ (Nat.ne_of_gt lte)).trans a5
    refine ⟨.ref s.heap.objs.size, upd H s.heap.objs.size (.tup [.int i, x]), I.turnedL (t' := s.toks + 1) (ch := [e, it]) hf up (Nat.le_refl _) (tup_new (us := [.int i s.toks, ux]) (by simp [sizeLine_eq]) (.cons ⟨_, rfl⟩ (.cons ru .nil)) newT), rfl, ?_, ?_, fun c hc => ?_⟩
    · exact ⟨_, x, fT, rfl, rfl, fun zs hq => by rw [I.list_inj hq q1]; exact ex⟩
    · exact ⟨⟨_, by simpa using b1⟩, a3.at fun o q => (b2.2 _ (Ne.symm hei)).trans q⟩
    · obtain ⟨f0, _⟩ := hf c hc
      have lc : c < s.heap.objs.size := by
        simp only [List.mem_cons, List.not_mem_nil, or_false] at hc
        obtain ⟨o4, e4, _⟩ := h4
        rcases hc with rfl | rfl
        · exact lte
        · exact Heap.lt_size e4
      rw [upd_ne (Nat.ne_of_lt lc)]
      exact f0
  done := by
    intro X hP hw hK hc i pins s σ H E I hf st hg
    subst hP hw hK
    obtain ⟨⟨old, h1⟩, h4⟩ := st
    obtain ⟨xs, q1, hend⟩ := hg
    obtain ⟨its, rv, p, hz⟩ := I.list q1
    have l1 := rv.length
    refine wpAny_pyNext_enum_end (I.ok.hd hc) h1 h4 p.isList (by simp; omega) fun g kp => ⟨rfl, ?_⟩
    refine I.turnedN (t' := s.toks) (ch := [e, it]) hf fun c o hcn q => ?_
    simp only [List.mem_cons, List.not_mem_nil, or_false, not_or] at hcn
    exact kp c o hcn.2 q
  self := fun _ _ _ _ _ st h => let ⟨⟨_, e1⟩, _⟩ := st; wpAny_pyIter_enum e1 h

def iEnum (K : PySem.W.Frag) (ta : TA) : TI := fun σ H R => ta σ H fun vs H1 => ∃ a, vs = [.ref a] ∧ (∃ xs, SqL K H1 a xs) ∧ R (Ite K a) H1
theorem pi_enum {X : Cx} {es : List Expr} {kk : Nat} {tp : Pos} {e : Expr} {ta : TA} {p pos : Pos} (hg : Gl X "enumerate") (hm : X.mg "enumerate" = none) (hv : bootBuiltins "enumerate" = some (.type "enumerate")) (ha : PA X [e] ta)
    (hs : starEach [e] X.env = [(false, eval e X.env)] := by rfl) : PI X (.Tuple es kk tp) (.Call (.Name "enumerate" p) [e] [] pos) (iEnum X.K ta) := by
  intro pins s σ H R I h
  refine Call_ (ld_blt I hg hm hv (PyProof.Rows.callWith_type1 (thn (ha pos pins s σ H _ I h) fun us s1 ⟨vs, H1, I1, r1, q1⟩ => ?_) hs rfl))
  obtain ⟨a, e1, ⟨xs, hq⟩, q⟩ := q1
  subst e1
  cases r1 with
  | cons r rr =>
    cases rr
    cases r
    obtain ⟨its, rv, pl, hz⟩ := I1.list hq
    obtain ⟨oa, ea, _⟩ := pl.isList
    have la : @LT.lt Nat _ a s1.heap.objs.size := Heap.lt_size ea
    refine call_enumerate_list pl.isList fun g a1 a4 a6 kp => ?_
    refine wpAny_pyIter_enum a1 ?_
    have I2 : Inv X pins σ H1 { s1 with heap := g } := I1.kept (t' := s1.toks) kp
    refine ⟨_, _, _, _, H1, rfl, I2, turn_enum (a := a) (show @Ne Nat _ _ by omega) (show @Ne Nat _ _ by omega) (show @Ne Nat _ _ by omega), ⟨⟨_, a1⟩, a4⟩, fun c hc => ?_, q⟩
    have lc : s1.heap.objs.size ≤ c := by
      simp only [List.mem_cons, List.not_mem_nil, or_false] at hc
      rcases hc with rfl | rfl <;> omega
    exact I1.fpOk lc (I1.hok.fresh lc)

structure Ov {α : Type} (J : It) (l : List α) (kp : Hp → Prop) (rep : α → V → Hp → Hp → Prop) : Prop where
  go : ∀ (i : Nat) H, kp H → i < l.length → J.go i H
  stop : ∀ (i : Nat) H, kp H → l.length ≤ i → J.stop i H
  yld : ∀ (i : Nat) H x H' y, kp H → l[i]? = some y → J.yld i H x H' → rep y x H H'

theorem ov_list {K : PySem.W.Frag} {a : Addr} {xs : List V} : Ov (Itl K a) xs (fun H => SqL K H a xs) (fun y x H H' => x = y ∧ H' = H) where
  go := fun i H h hi => ⟨xs, xs[i], h, by simp [hi]⟩
  stop := fun i H h hi => ⟨xs, h, hi⟩
  yld := fun i H x H' y h hy ⟨e, q⟩ => ⟨Option.some.inj ((q xs h).symm.trans hy), e⟩
theorem ov_zip {K : PySem.W.Frag} {a b : Addr} {xs ys : List V} : Ov (Itz K a b) (xs.zip ys) (fun H => SqL K H a xs ∧ SqL K H b ys) (fun y x H H' => ∃ T, H T = none ∧ x = .ref T ∧ H' = upd H T (.tup [y.1, y.2])) where
  go := fun i H h hi => by
    rw [List.length_zip] at hi
    exact ⟨xs, ys, xs[i]'(by omega), ys[i]'(by omega), h.1, h.2, by simp, by simp⟩
  stop := fun i H h hi => by
    rw [List.length_zip] at hi
    exact ⟨xs, ys, h.1, h.2, by omega⟩
  yld := fun i H x H' y h hy ⟨T, u, v, f, e1, e2, q1, q2⟩ => by
    have w1 := q1 xs h.1
    have w2 := q2 ys h.2
    rw [List.getElem?_zip_eq_some] at hy
    rw [hy.1] at w1
    rw [hy.2] at w2
    refine ⟨T, f, e1, ?_⟩
    rw [e2, ← Option.some.inj w1, ← Option.some.inj w2]
theorem ov_enum {K : PySem.W.Frag} {a : Addr} {xs : List V} : Ov (Ite K a) xs.zipIdx (fun H => SqL K H a xs) (fun y x H H' => ∃ T, H T = none ∧ x = .ref T ∧ H' = upd H T (.tup [.int (y.2 : Nat), y.1])) where
  go := fun i H h hi => by
    rw [List.length_zipIdx] at hi
    exact ⟨xs, xs[i]'hi, h, by simp⟩
  stop := fun i H h hi => by
    rw [List.length_zipIdx] at hi
    exact ⟨xs, h, hi⟩
  yld := fun i H x H' y h hy ⟨T, u, f, e1, e2, q1⟩ => by
    have w1 := q1 xs h
    rw [List.getElem?_zipIdx, w1] at hy
    have e : (u, 0 + i) = y := Option.some.inj hy
    subst e
    refine ⟨T, f, e1, ?_⟩
    rw [e2]
    simp

theorem for_ov {α : Type} {J : It} {l : List α} {kp : Hp → Prop} {rep : α → V → Hp → Hp → Prop} (O : Ov J l kp rep) {g : TG} {tb : TS} {D : Ends} {σ : St} {H : Hp} (Pv : Nat → St → Hp → Prop) (h0 : Pv 0 σ H) (hk : ∀ i σ H, i ≤ l.length → Pv i σ H → kp H)
    (hs : ∀ i y x σ H H', l[i]? = some y → Pv i σ H → rep y x H H' → g x σ H' fun σ2 H2 => tb { D with nx := Pv (i + 1), ct := Pv (i + 1), bk := D.nx } σ2 H2) (hd : ∀ σ H, Pv l.length σ H → D.nx σ H) :
    ∃ W : Nat → Nat → St → Hp → Prop, (∃ m, W 0 m σ H) ∧ ∀ i m σ H, W i m σ H →
      (J.stop i H ∧ D.nx σ H) ∨ (J.go i H ∧ ∃ N : St → Hp → Prop, (∀ σ' H', N σ' H' → ∃ m', m' < m ∧ W (i + 1) m' σ' H') ∧ ∀ x H', J.yld i H x H' → g x σ H' fun σ2 H2 => tb { D with nx := N, ct := N, bk := D.nx } σ2 H2) := by
  refine ⟨fun i m σ H => m = l.length - i ∧ i ≤ l.length ∧ Pv i σ H, ⟨l.length, by simp, Nat.zero_le _, h0⟩, ?_⟩
  rintro i m σ H ⟨rfl, hi, p⟩
  by_cases hlt : i < l.length
  · refine .inr ⟨O.go i H (hk i σ H hi p) hlt, Pv (i + 1), fun σ' H' p' => ⟨l.length - (i + 1), by omega, rfl, hlt, p'⟩, fun x H' y => ?_⟩
    have e : l[i]? = some l[i] := by simp [hlt]
    exact hs i _ x σ H H' e p (O.yld i H x H' _ (hk i σ H hi p) e y)
  · have e : i = l.length := by omega
    subst e
    exact .inl ⟨O.stop _ H (hk _ σ H hi p) (Nat.le_refl _), hd σ H p⟩

theorem Same.upd_new {H : Hp} {a : Addr} {o : HO} (h : H a = none) : Same H (upd H a o) := fun b u e => by rw [upd_ne (ne_of_none e h)]; exact e
theorem take_snoc {α : Type} {l : List α} {i : Nat} {y : α} (h : l[i]? = some y) : l.take (i + 1) = l.take i ++ [y] := by
  rw [List.take_add_one, h]; rfl
theorem Paired.snoc {α β : Type} {F : α → β → Prop} : ∀ {l₁ : List α} {l₂ : List β} {a : α} {b : β}, Paired F l₁ l₂ → F a b → Paired F (l₁ ++ [a]) (l₂ ++ [b])
  | _, _, _, _, .nil, h => .cons h .nil
  | _, _, _, _, .cons r t, h => .cons r (Paired.snoc t h)

theorem comp_rel {α : Type} {J : It} {l : List α} {kp : Hp → Prop} {rep : α → V → Hp → Hp → Prop} (O : Ov J l kp rep) {g : TG} {ti : TT} {te : TE} {k : Nat} {caps : List Nat} {σ : St} {H1 : Hp} {Q : VK}
    (p : α → Bool) (Rv : Addr → α → V → Hp → Prop) (mono : ∀ D y v H H', (∀ b o, b ≠ D → H b = some o → H' b = some o) → Rv D y v H → Rv D y v H') (hk : ∀ H, Same H1 H → kp H) (hl : l.length ≤ sizeLine)
    (turn : ∀ D (i : Nat) y x H3 H4 (R : V → Hp → Prop) (R' : Hp → Prop), l[i]? = some y → Same H1 H3 → (∃ ys, H3 D = some (.lst ys)) → rep y x H3 H4 → (p y = true → ∀ v H7, Same H3 H7 → Rv D y v H7 → R v H7) → (p y = false → ∀ H7, Same H3 H7 → R' H7) →
      g x (inner k caps σ) H4 fun σ4 H5 => (σ4.length = (inner k caps σ).length ∧ σ4.drop k = (inner k caps σ).drop k) ∧ ti σ4 H5 fun b H6 => if b = true then te σ4 H6 R else R' H6)
    (fin : ∀ D H' ys, H1 D = none → Same H1 H' → H' D = some (.lst ys) → Paired (fun y v => Rv D y v H') (l.filter p) ys → Q (.ref D) H') :
    CompBody J g ti te k caps σ Q H1 := by
  intro D hD
  refine ⟨fun i m ys H => m = l.length - i ∧ i ≤ l.length ∧ Same H1 H ∧ H D = some (.lst ys) ∧ Paired (fun y v => Rv D y v H) ((l.take i).filter p) ys ∧ ys.length ≤ i, ⟨l.length, by simp, Nat.zero_le _, Same.upd_new hD, upd_same, .nil, Nat.le_refl _⟩, ?_⟩
  rintro i m ys H2 ⟨rfl, hi, s2, d2, pr, hy⟩
  refine ⟨d2, ?_⟩
  by_cases hlt : i < l.length
  · refine .inr ⟨O.go i H2 (hk _ s2) hlt, by omega, fun x H3 y3 => ?_⟩
    have e : l[i]? = some l[i] := by simp [hlt]
    have tk := take_snoc e
    refine turn D i _ x H2 H3 _ _ e s2 ⟨ys, d2⟩ (O.yld i H2 x H3 _ (hk _ s2) e y3) (fun hp v H7 s7 rv => ?_) fun hp H7 s7 => ?_
    · refine ⟨s7 _ _ d2, l.length - (i + 1), by omega, rfl, hlt, ?_, upd_same, ?_, ?_⟩
      · intro b u eb
        rw [upd_ne (ne_of_none eb hD)]
        exact s7 _ _ (s2 _ _ eb)
      · rw [tk, List.filter_append]
        have ef : List.filter p [l[i]] = [l[i]] := by simp [hp]
        rw [ef]
        have up : ∀ b o, b ≠ D → H7 b = some o → upd H7 D (.lst (ys ++ [v])) b = some o := fun b o hb q => by rw [upd_ne hb]; exact q
        exact Paired.snoc (Paired.mapP pr fun y u r => mono D y u _ _ (fun b o hb q => up b o hb (s7 b o q)) r) (mono D _ _ _ _ up rv)
      · rw [List.length_append, List.length_singleton]; omega
    · refine ⟨l.length - (i + 1), by omega, rfl, hlt, s2.trans s7, s7 _ _ d2, ?_, by omega⟩
      rw [tk, List.filter_append]
      have ef : List.filter p [l[i]] = [] := by simp [hp]
      rw [ef, List.append_nil]
      exact Paired.mapP pr fun y v r => mono D y v _ _ (fun b o _ q => s7 b o q) r
  · have e : i = l.length := by omega
    subst e
    refine .inl ⟨O.stop _ H2 (hk _ s2) (Nat.le_refl _), fin D H2 ys hD s2 d2 ?_⟩
    rw [List.take_length] at pr
    exact pr

theorem paired_map {α β : Type} {f : α → β} : ∀ {l : List α} {ys : List β}, Paired (fun y v => v = f y) l ys → ys = l.map f
  | _, _, .nil => rfl
  | _, _, .cons r t => by rw [List.map_cons, r, paired_map t]

theorem comp_pure {α : Type} {J : It} {l : List α} {kp : Hp → Prop} {rep : α → V → Hp → Hp → Prop} (O : Ov J l kp rep) {g : TG} {ti : TT} {te : TE} {k : Nat} {caps : List Nat} {σ : St} {H1 : Hp} {Q : VK}
    (p : α → Bool) (f : α → V) (hk : ∀ H, Same H1 H → kp H) (hl : l.length ≤ sizeLine)
    (turn : ∀ (i : Nat) y x H3 H4 (R : V → Hp → Prop) (R' : Hp → Prop), l[i]? = some y → Same H1 H3 → rep y x H3 H4 → (p y = true → ∀ H7, Same H3 H7 → R (f y) H7) → (p y = false → ∀ H7, Same H3 H7 → R' H7) →
      g x (inner k caps σ) H4 fun σ4 H5 => (σ4.length = (inner k caps σ).length ∧ σ4.drop k = (inner k caps σ).drop k) ∧ ti σ4 H5 fun b H6 => if b = true then te σ4 H6 R else R' H6)
    (fin : ∀ D H', H1 D = none → Same H1 H' → H' D = some (.lst ((l.filter p).map f)) → Q (.ref D) H') :
    CompBody J g ti te k caps σ Q H1 :=
  comp_rel O p (fun _ y v _ => v = f y) (fun _ _ _ _ _ _ r => r) hk hl (fun _ i y x H3 H4 R R' e s _ r h1 h2 => turn i y x H3 H4 R R' e s r (fun hp H7 s7 => h1 hp _ H7 s7 rfl) h2)
    fun D H' ys hD s d pr => fin D H' hD s (by rw [d, paired_map pr])
end L2
set_option maxRecDepth 100000
set_option maxHeartbeats 4000000
namespace L2
open PySem PySem.Spec PyProof.Rows

section
variable {X : Cx}
theorem bl_at {bs : List Bool} {its : List Value} (r : Vals (bs.map V.bl) its) {i : Nat} {v : Value} (h : its.toArray[i]? = some v) : v = .bool (bs.getD i true) := by
  have h' : its[i]? = some v := by simpa using h
  have hl := r.length
  rw [List.length_map] at hl
  have hi : i < its.length := (List.getElem?_eq_some_iff.mp h').1
  have hb : (bs.map V.bl)[i]? = some (.bl (bs.getD i true)) := by
    rw [List.getElem?_map, List.getD_eq_getElem?_getD]
    have : i < bs.length := by omega
    simp [this]
  obtain ⟨u, e, ru⟩ := r.get hb
  rw [h'] at e
  cases e
  exact ru
theorem all_range (bs : List Bool) : ∀ n, n = bs.length → (List.range n).all (fun i => bs.getD i true) = bs.all id := by
  intro n hn
  subst hn
  rw [Bool.eq_iff_iff, List.all_eq_true, List.all_eq_true]
  constructor
  · intro h x hx
    obtain ⟨i, hi, rfl⟩ := List.mem_iff_getElem.mp hx
    have := h i (List.mem_range.mpr hi)
    rw [List.getD_eq_getElem?_getD] at this
    simpa [hi] using this
  · intro h i hi
    have hi' := List.mem_range.mp hi
    rw [List.getD_eq_getElem?_getD]
    have := h bs[i] (List.getElem_mem hi')
    simpa [hi'] using this
theorem any_range (bs : List Bool) : ∀ n, n = bs.length → (List.range n).any (fun i => bs.getD i true) = bs.any id := by
  intro n hn
  subst hn
  rw [Bool.eq_iff_iff, List.any_eq_true, List.any_eq_true]
  constructor
  · rintro ⟨i, hi, h⟩
    have hi' := List.mem_range.mp hi
    rw [List.getD_eq_getElem?_getD] at h
    exact ⟨bs[i], List.getElem_mem hi', by simpa [hi'] using h⟩
  · rintro ⟨x, hx, h⟩
    obtain ⟨i, hi, rfl⟩ := List.mem_iff_getElem.mp hx
    refine ⟨i, List.mem_range.mpr hi, ?_⟩
    rw [List.getD_eq_getElem?_getD]
    simpa [hi] using h

theorem call_all (hc : X.calm = true) : CallR X (.builtin "all") (fun xs H Q => ∃ (p : Addr) (bs : List Bool), xs = [.ref p] ∧ SqL X.K H p (bs.map V.bl) ∧ Q (.bl (bs.all id)) H) := by
  intro pins s σ H xs us Q I r h
  obtain ⟨p, bs, rfl, hq, q⟩ := h
  obtain ⟨u, rfl, ru⟩ := vals1 r
  cases ru
  obtain ⟨its, rv, pl, hz⟩ := I.list hq
  obtain ⟨o, e, _⟩ := pl.isList
  have hl := rv.length
  rw [List.length_map] at hl
  refine call_all_walk (wpAny_pyIter_list pl.isList ?_)
  refine ⟨s.heap.objs.size, _, _, _, _, _, fun i => bs.getD i true, rfl, Walks.list (A := X.A.in1) (I.ok.hd hc) s.heap.objs.size p (Nat.ne_of_lt (Heap.lt_size e)) its.toArray, ⟨⟨_, Heap.get?_push_size _ rfl, rfl, rfl⟩, pl.isList.push _⟩, fun i v s' Q' E' hP hQ => ?_, fun h' tk kp => ?_⟩
  · rw [bl_at rv hP]
    exact wpAny_truthy_bool hQ
  · have e1 : (List.range its.toArray.size).all (fun i => bs.getD i true) = bs.all id := all_range bs _ (by rw [List.size_toArray]; omega)
    rw [e1]
    exact ⟨.bl _, H, I.kept (t' := tk) fun b ob q => kp b ob (fun z => absurd (List.mem_singleton.mp z) (Nat.ne_of_lt (Heap.lt_size q))) (Heap.get?_push_of_some _ q), rfl, q⟩
theorem call_any (hc : X.calm = true) : CallR X (.builtin "any") (fun xs H Q => ∃ (p : Addr) (bs : List Bool), xs = [.ref p] ∧ SqL X.K H p (bs.map V.bl) ∧ Q (.bl (bs.any id)) H) := by
  intro pins s σ H xs us Q I r h
  obtain ⟨p, bs, rfl, hq, q⟩ := h
  obtain ⟨u, rfl, ru⟩ := vals1 r
  cases ru
  obtain ⟨its, rv, pl, hz⟩ := I.list hq
  obtain ⟨o, e, _⟩ := pl.isList
  have hl := rv.length
  rw [List.length_map] at hl
  refine call_any_walk (wpAny_pyIter_list pl.isList ?_)
  refine ⟨s.heap.objs.size, _, _, _, _, _, fun i => bs.getD i true, rfl, Walks.list (A := X.A.in1) (I.ok.hd hc) s.heap.objs.size p (Nat.ne_of_lt (Heap.lt_size e)) its.toArray, ⟨⟨_, Heap.get?_push_size _ rfl, rfl, rfl⟩, pl.isList.push _⟩, fun i v s' Q' E' hP hQ => ?_, fun h' tk kp => ?_⟩
  · rw [bl_at rv hP]
    exact wpAny_truthy_bool hQ
  · have e1 : (List.range its.toArray.size).any (fun i => bs.getD i true) = bs.any id := any_range bs _ (by rw [List.size_toArray]; omega)
    rw [e1]
    exact ⟨.bl _, H, I.kept (t' := tk) fun b ob q => kp b ob (fun z => absurd (List.mem_singleton.mp z) (Nat.ne_of_lt (Heap.lt_size q))) (Heap.get?_push_of_some _ q), rfl, q⟩

theorem call_sumI (hc : X.calm = true) : CallR X (.builtin "sum") (fun xs H Q => ∃ (p : Addr) (ns : List Int), xs = [.ref p] ∧ SqL X.K H p (ns.map V.int) ∧ Q (.int ns.sum) H) := by
  intro pins s σ H xs us Q I r h
  obtain ⟨p, ns, rfl, hq, q⟩ := h
  obtain ⟨u, rfl, ru⟩ := vals1 r
  cases ru
  obtain ⟨its, rv, pl, hz⟩ := I.list hq
  obtain ⟨o, e, _⟩ := pl.isList
  have hl := rv.length
  rw [List.length_map] at hl
  refine call_sum_walkG (wpAny_pyIter_list pl.isList ?_)
  refine ⟨s.heap.objs.size, _, _, _, _, _, fun i => ns.getD i 0, rfl, Walks.list (A := X.A.in1) (I.ok.hd hc) s.heap.objs.size p (Nat.ne_of_lt (Heap.lt_size e)) its.toArray, ⟨⟨_, Heap.get?_push_size _ rfl, rfl, rfl⟩, pl.isList.push _⟩, fun b hb => ?_, fun i v hP => ?_, fun h' tk t' kp => ?_⟩
  · rw [Heap.size_push]
    simp only [List.mem_cons, List.not_mem_nil, or_false] at hb
    rcases hb with rfl | rfl
    · exact Nat.lt_succ_self _
    · exact Nat.lt_succ_of_lt (Heap.lt_size e)
  · have hP' : its[i]? = some v := by simpa using hP
    have hi : i < its.length := (List.getElem?_eq_some_iff.mp hP').1
    have hb : (ns.map V.int)[i]? = some (.int (ns.getD i 0)) := by
      rw [List.getElem?_map, List.getD_eq_getElem?_getD]
      have : i < ns.length := by omega
      simp [this]
    obtain ⟨u, e, ru⟩ := rv.get hb
    rw [hP'] at e
    cases e
    exact ru
  · have e1 : preSum (fun i => ns.getD i 0) its.toArray.size = ns.sum := by
      rw [preSum_getD, List.size_toArray, ← hl, List.take_length]
    rw [e1]
    exact ⟨.int _, H, I.kept (t' := tk) fun b ob q => kp b ob (fun z => absurd (List.mem_singleton.mp z) (Nat.ne_of_lt (Heap.lt_size q))) (Heap.get?_push_of_some _ q), ⟨_, rfl⟩, q⟩

def clsOf : V → Option Value
  | .ty n => some (.type n)
  | .ref a => some (.ref a)
  | _ => none
def rIsi (K : PySem.W.Frag) (xs : List V) (H : Hp) (Q : VK) : Prop := ∃ x c cv t b, xs = [x, c] ∧ clsOf c = some cv ∧ TyOf K H x t ∧ PySem.W.kitOne K t cv = some b ∧ Q (.bl b) H
theorem call_isinst : CallR X (.builtin "isinstance") (rIsi X.K) := by
  intro pins s σ H xs us Q I r h
  obtain ⟨x, c, cv, t, b, rfl, hcv, ty, e, q⟩ := h
  obtain ⟨u, w', rfl, ru, rw'⟩ := vals2 r
  have ec : w' = cv := by
    cases c with
    | ty n => cases hcv; exact rw'
    | ref a => cases hcv; exact rw'
    | _ => cases hcv
  subst ec
  exact isinst_ok I ru ty e fun tk => ⟨.bl b, H, I.tok tk, rfl, q⟩

theorem op_isB : OpR X (compareOp .Is) (fun x y H Q => ∃ a b, x = .bl a ∧ y = .bl b ∧ Q (.bl (a == b)) H) := by
  intro pins s σ H x y v u Q I rx ry h
  obtain ⟨a, b, rfl, rfl, q⟩ := h
  cases rx
  cases ry
  exact is_bool ⟨.bl _, H, I, rfl, q⟩
theorem op_isnotB : OpR X (compareOp .IsNot) (fun x y H Q => ∃ a b, x = .bl a ∧ y = .bl b ∧ Q (.bl (a != b)) H) := by
  intro pins s σ H x y v u Q I rx ry h
  obtain ⟨a, b, rfl, rfl, q⟩ := h
  cases rx
  cases ry
  exact isnot_bool ⟨.bl _, H, I, rfl, q⟩
end

mutual
inductive RdV (K : PySem.W.Frag) (H : Hp) : V → PyData → Prop
  | non : RdV K H .non .none
  | bl (b : Bool) : RdV K H (.bl b) (.bool b)
  | int (i : Int) : RdV K H (.int i) (.int i)
  | str (x : Str) : RdV K H (.str x) (.str x)
  | lst {a : Addr} {xs : List V} {ds : List PyData} : SqL K H a xs → RdVs K H xs ds → RdV K H (.ref a) (.list ds)
  | tup {a : Addr} {xs : List V} {ds : List PyData} : SqT K H a xs → RdVs K H xs ds → RdV K H (.ref a) (.tuple ds)
inductive RdVs (K : PySem.W.Frag) (H : Hp) : List V → List PyData → Prop
  | nil : RdVs K H [] []
  | cons {x : V} {d : PyData} {xs : List V} {ds : List PyData} : RdV K H x d → RdVs K H xs ds → RdVs K H (x :: xs) (d :: ds)
end
section
variable {X : Cx} {pins : List (Addr × Obj)} {σ : St} {H : Hp} {s : Shared}
mutual
theorem RdV.reads (I : Inv X pins σ H s) : ∀ {v : V} {d : PyData} {u : Value}, RdV X.K H v d → RelV v u → ∃ as, Reads s.heap u d as
  | _, _, u, .non, r => by cases (show u = Value.none from r); exact ⟨_, .none⟩
  | _, _, u, .bl b, r => by cases (show u = Value.bool b from r); exact ⟨_, .bool b⟩
  | _, _, u, .int i, r => by obtain ⟨t, rfl⟩ := (show ∃ t, u = Value.int i t from r); exact ⟨_, .int i t⟩
  | _, _, u, .str x, r => by obtain ⟨t, rfl⟩ := (show ∃ t, u = Value.str x t from r); exact ⟨_, .str x t⟩
  | _, _, u, .lst (a := a) q rs, r => by
    cases (show u = Value.ref a from r)
    obtain ⟨its, rv, pl, _⟩ := I.list q
    obtain ⟨as, ra⟩ := RdVs.reads I rs rv
    obtain ⟨o, e, c, n, d⟩ := pl.isList
    exact ⟨_, .list e c d (by simpa using ra)⟩
  | _, _, u, .tup (a := a) q rs, r => by
    cases (show u = Value.ref a from r)
    obtain ⟨its, rv, pl, _⟩ := I.tuple q
    obtain ⟨as, ra⟩ := RdVs.reads I rs rv
    obtain ⟨o, e, c, n, d⟩ := pl
    exact ⟨_, .tuple e c d (by simpa using ra)⟩
theorem RdVs.reads (I : Inv X pins σ H s) : ∀ {vs : List V} {ds : List PyData} {us : List Value}, RdVs X.K H vs ds → Vals vs us → ∃ as, ReadsAll s.heap us ds as
  | _, _, _, .nil, r => by cases r; exact ⟨_, .nil⟩
  | _, _, _, .cons h t, r => by
    cases r with
    | cons r1 r2 =>
      obtain ⟨as, h1⟩ := RdV.reads I h r1
      obtain ⟨bs, h2⟩ := RdVs.reads I t r2
      exact ⟨_, .cons h1 h2⟩
end
end
mutual
theorem RdV.same {K : PySem.W.Frag} {H H' : Hp} (e : Same H H') : ∀ {v : V} {d : PyData}, RdV K H v d → RdV K H' v d
  | _, _, .non => .non
  | _, _, .bl b => .bl b
  | _, _, .int i => .int i
  | _, _, .str x => .str x
  | _, _, .lst q rs => .lst (e.seq q) (RdVs.same e rs)
  | _, _, .tup q rs => .tup (by
      rcases q with (h | ⟨o, h⟩) | h
      · exact .inl (.inl (e _ _ h))
      · exact .inl (.inr ⟨o, e _ _ h⟩)
      · exact .inr h) (RdVs.same e rs)
theorem RdVs.same {K : PySem.W.Frag} {H H' : Hp} (e : Same H H') : ∀ {vs : List V} {ds : List PyData}, RdVs K H vs ds → RdVs K H' vs ds
  | _, _, .nil => .nil
  | _, _, .cons h t => .cons (RdV.same e h) (RdVs.same e t)
end
theorem RdVs.ints {K : PySem.W.Frag} {H : Hp} : ∀ ns : List Int, RdVs K H (ns.map V.int) (ns.map PyData.int)
  | [] => .nil
  | n :: r => .cons (.int n) (RdVs.ints r)
abbrev dI (ns : List Int) : PyData := .list (ns.map PyData.int)
theorem RdV.ints {K : PySem.W.Frag} {H : Hp} {a : Addr} {ns : List Int} (h : SqL K H a (ns.map V.int)) : RdV K H (.ref a) (dI ns) := .lst h (RdVs.ints ns)

def rEqD (K : PySem.W.Frag) (neg : Bool) : R2 := fun x y H Q => ∃ d e, RdV K H x d ∧ RdV K H y e ∧ SeqAt.shaped d = true ∧ SeqAt.shaped e = true ∧ Q (.bl (if neg then !PyData.eqv d e else PyData.eqv d e)) H
section
variable {X : Cx}
theorem op_eqD (hu : X.A.units + 64 < cLine) : OpR X (compareOp .Eq) (rEqD X.K false) := by
  intro pins s σ H x y v u Q I rx ry h
  obtain ⟨d, e, h1, h2, h3, h4, q⟩ := h
  obtain ⟨as, r1⟩ := h1.reads I rx
  obtain ⟨bs, r2⟩ := h2.reads I ry
  exact eq_dataH r1 r2 h3 h4 hu ⟨.bl _, H, I, rfl, q⟩
theorem op_neD (hu : X.A.units + 64 < cLine) : OpR X (compareOp .NotEq) (rEqD X.K true) := by
  intro pins s σ H x y v u Q I rx ry h
  obtain ⟨d, e, h1, h2, h3, h4, q⟩ := h
  obtain ⟨as, r1⟩ := h1.reads I rx
  obtain ⟨bs, r2⟩ := h2.reads I ry
  exact ne_dataH r1 r2 h3 h4 hu ⟨.bl _, H, I, rfl, q⟩
theorem op_eqG (hu : X.A.units + 64 < cLine) : OpR X (compareOp .Eq) (fun x y H Q => rEq x y H Q ∨ rEqD X.K false x y H Q) := op_eq.or (op_eqD hu)
theorem op_neG (hu : X.A.units + 64 < cLine) : OpR X (compareOp .NotEq) (fun x y H Q => rNe x y H Q ∨ rEqD X.K true x y H Q) := op_ne.or (op_neD hu)

end

def pickV (xs : List V) (lo hi st : Option Int) : List V := (sliceRange (sliceBounds lo hi st xs.length).1 (sliceBounds lo hi st xs.length).2.1 (sliceBounds lo hi st xs.length).2.2).filterMap fun i => xs[i]?
theorem Vals.pick {xs : List V} {us : List Value} (r : Vals xs us) : ∀ l : List Nat, Vals (l.filterMap fun i => xs[i]?) (l.filterMap fun i => us[i]?)
  | [] => .nil
  | i :: t => by
    rw [List.filterMap_cons, List.filterMap_cons]
    cases hx : xs[i]? with
    | none =>
      rw [r.none_of hx]
      exact Vals.pick r t
    | some x =>
      obtain ⟨u, hu, ru⟩ := r.get hx
      rw [hu]
      exact .cons ru (Vals.pick r t)
theorem pickV_eq {xs : List V} {its : List Value} (r : Vals xs its) (lo hi st : Option Int) : Vals (pickV xs lo hi st) (slicePick its.toArray lo hi st).toList := by
  unfold pickV slicePick
  rw [List.size_toArray, r.length]
  simp only [List.getElem?_toArray]
  exact r.pick _
section
variable {X : Cx} {e : Expr} {te : TE} {lo hi : Option Expr} {st : Expr} {tl th : TO} {ts : TE} {pos p2 : Pos}
def Sl3K (K : PySem.W.Frag) (x : V) (l u : Option Int) (z : V) (H4 : Hp) (Q : VK) : Prop := ∃ k a xs, z = .int k ∧ k ≠ 0 ∧ x = .ref a ∧ SqL K H4 a xs ∧ ∀ p, H4 p = none → Q (.ref p) (upd H4 p (.lst (pickV xs l u (some k))))
def tSl3 (K : PySem.W.Frag) (te : TE) (tl th : TO) (ts : TE) : TE := fun σ H Q => te σ H fun x H1 => tl σ H1 fun l H2 => th σ H2 fun u H3 => ts σ H3 fun z H4 => Sl3K K x l u z H4 Q
theorem pe_slice3 (he : PE X e te) (hl : PO X lo tl) (hu : PO X hi th) (hst : PE X st ts) : PE X (.Subscript e (.Slice lo hi (some st) p2) pos) (tSl3 X.K te tl th ts) := by
  intro pins s σ H Q I h
  refine Subscript_ (thn (he pins s σ H _ I h) fun v s1 ⟨x, H1, I1, r1, q1⟩ => ?_)
  refine wpAny_Slice (thn (hl pins s1 σ H1 _ I1 q1) fun vl s2 ⟨l, H2, I2, pl, q2⟩ => thn (hu pins s2 σ H2 _ I2 q2) fun vu s3 ⟨u, H3, I3, pu, q3⟩ => ?_)
  rw [evalPart_some]
  refine thn (hst pins s3 σ H3 _ I3 q3) fun vk s4 ⟨z, H4, I4, r4, q4⟩ => ?_
  obtain ⟨k, a, xs, rfl, hk, rfl, hq, q⟩ := q4
  obtain ⟨tk, rfl⟩ := r4
  cases r1
  have I5 : Inv X pins σ H4 { s4 with heap := s4.heap.push { cls := .type "slice", data := .fields #[vl, vu, .int k tk] } } := I4.kept (t' := s4.toks) fun b ob w' => Heap.get?_push_of_some _ w'
  obtain ⟨its, rv, pt, hz⟩ := I5.list hq
  have hlen := rv.length
  show wpAny (model X.prog X.w) X.A (subscriptTail e (.Slice lo hi (some st) p2) (.ref a) (.ref s4.heap.objs.size)) (EP X pins σ Q) X.xe _
  refine tail_any (ops := [.ref a, .ref s4.heap.objs.size]) pt.isList.typeIs slot_list_getitem.lookup ?_ (by with_unfolding_all rfl)
  refine wpAny_getItem_list_slice pt.isList (Heap.IsSliceOf.new ..) pl pu (.int k tk) (by simpa using hk) ?_ (by rw [List.size_toArray] <;> omega)
  refine ⟨.ref _, _, I5.laid (t' := s4.toks) (o := .lst (pickV xs l u (some k))) (fun b ob w' => Heap.get?_push_of_some _ w') (Nat.le_refl _) ?_, rfl, q _ (I5.hok.fresh (Nat.le_refl _))⟩
  have pv := pickV_eq rv l u (some k)
  have e2 : (slicePick its.toArray l u (some k)).toList.toArray = slicePick its.toArray l u (some k) := by simp
  refine ⟨?_, _, 0, pv, by rw [e2]; exact Heap.get?_push_size _ rfl⟩
  have sz := slicePick_size_le its.toArray l u (some k)
  have e1 := pv.length
  have e3 : (slicePick its.toArray l u (some k)).toList.length = (slicePick its.toArray l u (some k)).size := by simp
  have e4 : its.toArray.size = its.length := by simp
  rw [e3] at e1
  rw [e4] at sz
  rw [e1]
  exact Nat.le_trans sz (by rw [← hlen]; exact hz)
end
end L2
set_option maxRecDepth 100000
set_option maxHeartbeats 4000000
namespace L2
open PySem PySem.Spec PyProof.Rows
section
variable {X : Cx} {a b e : Expr} {ta tb te : TE} {pos : Pos}

theorem pe_bty {x : Str} {n : String} {pos : Pos} (hg : Gl X x) (hm : X.mg x = none) (hv : bootBuiltins x = some (.type n)) (hn : x ≠ "__name__" := by decide) (hd : (x == ("__debug__" : Str)) = false := by decide) : PE X (.Name x pos) (tC (.ty n)) := pe_bltn hg hm hv rfl hn hd
theorem pe_gref {x : Str} {c : Addr} {pos : Pos} (hg : Gl X x) (hm : X.mg x = some (.ref c)) (hd : (x == ("__debug__" : Str)) = false := by decide) : PE X (.Name x pos) (tC (.ref c)) := pe_glob hg hm rfl hd
theorem pe_or2 {t u : TE} (h : PE X e t) (h' : PE X e u) : PE X e (fun σ H Q => t σ H Q ∨ u σ H Q) := by
  intro pins s σ H Q I q
  rcases q with q | q
  · exact h pins s σ H Q I q
  · exact h' pins s σ H Q I q
def rAddG : R2 := fun x y H Q => rI0 (fun i j => .int (i + j)) x y H Q ∨ rCat x y H Q
theorem op_addG : OpR X (binaryOp .Add) rAddG := op_add.or op_cat
theorem op_mulG : OpR X (binaryOp .Mult) (rI IntMulOk fun i j => .int (i * j)) := opI fun _ _ _ _ _ _ _ hc q => mul_int q hc
def rIxG (K : PySem.W.Frag) : R2 := fun x y H Q => rIxL K x y H Q ∨ rIxT K x y H Q
theorem ix_G : IxR X (rIxG X.K) := ix_list.or ix_tup
def rLenG (K : PySem.W.Frag) : List V → Hp → VK → Prop := fun xs H Q => (∃ p ys, xs = [.ref p] ∧ (SqL K H p ys ∨ SqT K H p ys) ∧ Q (.int ys.length) H) ∨ (∃ a kvs, xs = [V.ref a] ∧ H a = some (.dK kvs) ∧ Q (.int kvs.length) H)
theorem len_G : CallR X (.builtin "len") (rLenG X.K) := call_len_seq.or call_lenD
def rIsG : R2 := fun x y H Q => (∃ a b, x = .bl a ∧ y = .bl b ∧ Q (.bl (a == b)) H) ∨ (y = .non ∧ Q (.bl (decide (x = .non))) H)
theorem op_isG : OpR X (compareOp .Is) rIsG := op_isB.or op_isN
def rIsnotG : R2 := fun x y H Q => (∃ a b, x = .bl a ∧ y = .bl b ∧ Q (.bl (a != b)) H) ∨ (y = .non ∧ Q (.bl (!decide (x = .non))) H)
theorem op_isnotG : OpR X (compareOp .IsNot) rIsnotG := op_isnotB.or op_notN
end

def blockOk (env : List (Str × NameKind)) (XN N : List Str) (scope : Scope) (k : Nat) (caps : List Nat) : Bool :=
  (match scope.kind with | .function => true | _ => false) &&
  scope.names.all (fun y => (match y.2 with
    | .cell => false
    | .free => (match env.lookup y.1 with | some .cell => true | some .free => true | _ => false)
    | .local => (match scope.names.lookup y.1 with | some .local => true | _ => false)
    | _ => true)) &&
  Nat.beq N.length (k + caps.length) &&
  (List.range caps.length).all fun i => match caps[i]? with
    | some j => (match N[k + i]?, XN[j]? with
      | some x, some y => decide (x = y) && (match scope.names.lookup x with | some .free => true | _ => false)
      | _, _ => false)
    | none => false
theorem Block.of {X : Cx} {N : List Str} {scope : Scope} {k : Nat} {caps : List Nat} (h : blockOk X.env.scope.names X.N N scope k caps = true) : Block X N scope k caps := by
  unfold blockOk at h
  simp only [Bool.and_eq_true] at h
  obtain ⟨⟨⟨h1, h2⟩, h3⟩, h4⟩ := h
  have h2 := List.all_eq_true.mp h2
  have h4 := List.all_eq_true.mp h4
  refine ⟨?_, fun y hy => ?_, fun y hy e => ?_, fun y hy e => ?_, Nat.eq_of_beq_eq_true h3, fun i j hj => ?_⟩
  · revert h1
    cases scope.kind <;> intro h1 <;> first | rfl | cases h1
  · have := h2 y hy
    intro e
    rw [e] at this
    cases this
  · have := h2 y hy
    rw [e] at this
    simp only at this
    revert this
    cases X.env.scope.names.lookup y.1 with
    | none => intro z; cases z
    | some q => cases q <;> intro z <;> first | exact .inl rfl | exact .inr rfl | cases z
  · have := h2 y hy
    rw [e] at this
    simp only at this
    revert this
    cases scope.names.lookup y.1 with
    | none => intro z; cases z
    | some q => cases q <;> intro z <;> first | rfl | cases z
  · have hi : i < caps.length := (List.getElem?_eq_some_iff.mp hj).1
    have := h4 i (List.mem_range.mpr hi)
    rw [hj] at this
    simp only at this
    revert this
    cases hN : N[k + i]? with
    | none => intro z; cases z
    | some x =>
      cases hX : X.N[j]? with
      | none => intro z; cases z
      | some y =>
        intro z
        simp only [Bool.and_eq_true, decide_eq_true_eq] at z
        obtain ⟨z1, z2⟩ := z
        refine ⟨x, rfl, by rw [z1], ?_⟩
        revert z2
        cases scope.names.lookup x with
        | none => intro z; cases z
        | some q => cases q <;> intro z <;> first | rfl | cases z

section
variable {X : Cx} {pos : Pos}
def tPar3 (i j k : Nat) (ta : TA) : TS := fun D σ H => ta σ H fun vs H1 => ∃ u v w, vs = [u, v, w] ∧ D.nx (((σ.set i (some u)).set j (some v)).set k (some w)) H1
theorem ps_par3 {i j k : Nat} {x y z : Str} {a b c : Expr} {ta : TA} {px py pz pt : Pos} {kt k2 pt2} (hc : X.calm = true) (hN : X.N.Nodup) (hi : X.N[i]? = some x) (hj : X.N[j]? = some y) (hk : X.N[k]? = some z) (hij : i ≠ j) (hik : i ≠ k) (hjk : j ≠ k)
    (hx : X.env.scope.names.lookup x = some .local) (hy : X.env.scope.names.lookup y = some .local) (hz : X.env.scope.names.lookup z = some .local) (ha : PA X [a, b, c] ta)
    (hw : swappedStores [.Tuple [.Name x px, .Name y py, .Name z pz] kt pt] (.Tuple [a, b, c] k2 pt2) X.env = pure (some [x, y, z]))
    (hs : swapsWithSole [.Tuple [.Name x px, .Name y py, .Name z pz] kt pt] (.Tuple [a, b, c] k2 pt2) pos.line X.env = pure false := by rfl) :
    PS X (.Assign [.Tuple [.Name x px, .Name y py, .Name z pz] kt pt] (.Tuple [a, b, c] k2 pt2) pos) (tPar3 i j k ta) := by
  intro pins s σ H D I h
  rw [exec_Assign_arm]
  refine wpAny_bind (wpAny_standAt ?_)
  rw [hs]
  refine wpAny_bind (wpAny_pure ?_)
  rw [if_neg (by decide)]
  refine wpAny_bind (Tuple_ (thn (ha _ pins s σ H _ I h) fun us s1 ⟨vs, H1, I1, r1, q1⟩ => ?_))
  obtain ⟨v1, v2, v3, e1, q1⟩ := q1
  subst e1
  obtain ⟨u1, u2, u3, rfl, r1, r2, r3⟩ : ∃ u1 u2 u3, us = [u1, u2, u3] ∧ RelV v1 u1 ∧ RelV v2 u2 ∧ RelV v3 u3 := by
    cases r1 with
    | cons p q =>
      cases q with
      | cons p' q' =>
        cases q' with
        | cons p'' q'' =>
          cases q''
          exact ⟨_, _, _, rfl, p, p', p''⟩
  refine wpAny_newObj_type ?_ (by show 3 ≤ sizeLine; decide)
  have I2 : Inv X pins σ H1 { s1 with heap := s1.heap.push { cls := .type "tuple", data := .seq [u1, u2, u3].toArray } } := I1.kept (t' := s1.toks) fun b o e => Heap.get?_push_of_some _ e
  rw [hw]
  refine wpAny_bind (wpAny_pure ?_)
  show wpAny (model X.prog X.w) X.A (do rule "assign.swapped-stores"; let items ← unpackItems (.ref s1.heap.objs.size) 3 none; assignInOrder [fun v => bindName X.env z v, fun v => bindName X.env y v, fun v => bindName X.env x v] items.reverse; pure Flow.next) _ _ _
  refine wpAny_bind (wpAny_rule (wpAny_bind (unpackItems_tuple (items := #[u1, u2, u3]) (I.ok.hd hc) (IsTup.new s1.heap _) fun h' hx' => ?_)))
  have I3 := I2.kept (h' := h') (t' := s1.toks) fun b o e => hx' b o (Nat.ne_of_lt (Heap.lt_size e)) e
  show wpAny _ _ (assignInOrder [fun v => bindName X.env z v, fun v => bindName X.env y v, fun v => bindName X.env x v] [u3, u2, u1] >>= fun _ => pure Flow.next) _ _ _
  refine wpAny_bind (assignInOrder_cons (wpAny_bindName (store_ok I3 hN hk (.inl hz) r3 (fun s2 I4 => ?_) (.inr hz))))
  refine assignInOrder_cons (wpAny_bindName (store_ok I4 hN hj (.inl hy) r2 (fun s3 I5 => ?_) (.inr hy)))
  refine assignInOrder_cons (wpAny_bindName (store_ok I5 hN hi (.inl hx) r1 (fun s4 I6 => assignInOrder_nil (wpAny_pure ?_)) (.inr hx)))
  have e : ((σ.set k (some v3)).set j (some v2)).set i (some v1) = ((σ.set i (some v1)).set j (some v2)).set k (some v3) := by
    rw [List.set_comm _ _ (Ne.symm hjk), List.set_comm _ _ (Ne.symm hik), List.set_comm _ _ (Ne.symm hij)]
  rw [e] at I6
  exact ⟨_, H1, I6, q1⟩
end
end L2
set_option maxRecDepth 100000
set_option maxHeartbeats 4000000
namespace L2
open PySem PySem.Spec PyProof.Rows
section
variable {σ : St} {H H' : Hp} {Q : VK} {D : Ends} {K : PySem.W.Frag}

theorem upd_keep {q p : Addr} {u o : HO} (h : H q = some u) (hp : H p = none) : upd H p o q = some u := by rw [upd_ne (ne_of_none h hp)]; exact h
theorem upd_keepNe {q p : Addr} {u o : HO} (h : H q = some u) (hne : q ≠ p) : upd H p o q = some u := by rw [upd_ne hne]; exact h
theorem Same.at {q : Addr} {u : HO} (s : Same H H') (h : H q = some u) : H' q = some u := s q u h
theorem sq_keep {q p : Addr} {xs : List V} {o : HO} (h : SqL K H q xs) (hp : H p = none) : SqL K (upd H p o) q xs := (Same.upd_new hp).seq h
theorem sq_keepNe {q p : Addr} {xs : List V} {o : HO} (h : SqL K H q xs) (hne : q ≠ p) : SqL K (upd H p o) q xs := by
  rcases h with (h | ⟨u, h⟩) | h
  · exact .inl (.inl (upd_keepNe h hne))
  · exact .inl (.inr ⟨u, upd_keepNe h hne⟩)
  · exact .inr h
def SameBut (ls : List Addr) (H H' : Hp) : Prop := ∀ b o, H b = some o → b ∉ ls → H' b = some o
theorem Same.but {ls : List Addr} (s : Same H H') : SameBut ls H H' := fun b o h _ => s b o h
theorem SameBut.at {ls : List Addr} {q : Addr} {u : HO} (s : SameBut ls H H') (h : H q = some u) (hn : q ∉ ls) : H' q = some u := s q u h hn
theorem SameBut.seq {ls : List Addr} {q : Addr} {xs : List V} (s : SameBut ls H H') (h : SqL K H q xs) (hn : q ∉ ls) : SqL K H' q xs := by
  rcases h with (h | ⟨u, h⟩) | h
  · exact .inl (.inl (s _ _ h hn))
  · exact .inl (.inr ⟨u, s _ _ h hn⟩)
  · exact .inr h
theorem SameBut.upd {ls : List Addr} {p : Addr} {o : HO} (s : SameBut ls H H') (hp : p ∈ ls) : SameBut ls H (upd H' p o) := fun b u h hn => by
  rw [upd_ne (fun e => by subst e; exact hn hp)]; exact s b u h hn
theorem SameBut.new {ls : List Addr} {p : Addr} {o : HO} (s : SameBut ls H H') (hp : H' p = none) : SameBut ls H (L2.upd H' p o) := fun b u h hn => upd_keep (s b u h hn) hp
theorem SameBut.trans {ls : List Addr} {H1 H2 : Hp} (a : SameBut ls H H1) (b : SameBut ls H1 H2) : SameBut ls H H2 := fun c o h hn => b c o (a c o h hn) hn
theorem r_seq {t u : TS} (h : t { D with nx := u D } σ H) : tSeq t u D σ H := h
theorem r_asg {te : TE} {g : TG} (h : te σ H fun x H1 => g x σ H1 D.nx) : tAsg te g D σ H := h
theorem r_name {i : Nat} {v : V} {R : St → Hp → Prop} (h : R (σ.set i (some v)) H) : gName i v σ H R := h
theorem r_ifs {c : TT} {t u : TS} (h : c σ H fun b H1 => if b = true then t D σ H1 else u D σ H1) : tIfS c t u D σ H := h
theorem r_ret {te : TE} (h : te σ H D.rt) : tRet te D σ H := h
theorem r_next (h : D.nx σ H) : tNext D σ H := h
theorem r_drop {te : TE} (h : te σ H fun _ H1 => D.nx σ H1) : tDrop te D σ H := h
theorem r_break (h : D.bk σ H) : tBreak D σ H := h
theorem r_cont (h : D.ct σ H) : tCont D σ H := h
theorem r_var {i : Nat} {v : V} (e : σ[i]? = some (some v)) (h : Q v H) : tVar i σ H Q := ⟨v, e, h⟩
theorem r_c {v : V} (h : Q v H) : tC v σ H Q := h
theorem r_op {r : R2} {ta tb : TE} (h : ta σ H fun x H1 => tb σ H1 fun y H2 => r x y H2 Q) : tOp r ta tb σ H Q := h
theorem r_un {r : V → Hp → VK → Prop} {ta : TE} (h : ta σ H fun x H1 => r x H1 Q) : tUn r ta σ H Q := h
theorem r_cb {r : List V → Hp → VK → Prop} {t : TA} (h : t σ H fun vs H1 => r vs H1 Q) : tCB r t σ H Q := h
theorem r_cons {ta : TE} {tr : TA} {R : List V → Hp → Prop} (h : ta σ H fun x H1 => tr σ H1 fun xs H2 => R (x :: xs) H2) : tCons ta tr σ H R := h
theorem r_nil {R : List V → Hp → Prop} (h : R [] H) : tNil σ H R := h
theorem r_test {t : TE} {R : Bool → Hp → Prop} (h : t σ H fun x H1 => ∃ k, x = .bl k ∧ R k H1) : tTest t σ H R := h
theorem r_tB {t : TE} {R : Bool → Hp → Prop} (h : t σ H fun x H1 => ∃ k, x = .bl k ∧ R k H1) : tB t σ H R := h
theorem r_bl {b : Bool} {R : Bool → Prop} (h : R b) : ∃ k, V.bl b = .bl k ∧ R k := ⟨b, rfl, h⟩
theorem r_not {t : TT} {R : Bool → Hp → Prop} (h : t σ H fun c H1 => R (!c) H1) : tNot t σ H R := h
theorem r_and {t u : TT} {R : Bool → Hp → Prop} (h : t σ H fun c H1 => if c = true then u σ H1 R else R false H1) : tAnd t u σ H R := h
theorem r_or {t u : TT} {R : Bool → Hp → Prop} (h : t σ H fun c H1 => if c = true then R true H1 else u σ H1 R) : tOr t u σ H R := h
theorem r_andV {ta tb : TE} (h : ta σ H fun x H1 => ∃ c, x = .bl c ∧ if c = true then tb σ H1 Q else Q (.bl false) H1) : tAndV ta tb σ H Q := h
theorem r_orV {ta tb : TE} (h : ta σ H fun x H1 => ∃ c, x = .bl c ∧ if c = true then Q (.bl true) H1 else tb σ H1 Q) : tOrV ta tb σ H Q := h
theorem r_notV {ta : TE} (h : ta σ H fun x H1 => ∃ c, x = .bl c ∧ Q (.bl (!c)) H1) : tNotV ta σ H Q := h
theorem r_call {sp : Sp} {dvs : List V} {E : XK} {t : TA} (h : t σ H fun vs H1 => sp (vs ++ dvs) H1 Q E) : tCall sp dvs E t σ H Q := h
theorem r_chain {r r' : R2} {ta tb tc : TE} (h : ta σ H fun x H1 => tb σ H1 fun y H2 => r x y H2 fun z H3 => ∃ k, z = .bl k ∧ (if k = true then tc σ H3 fun w' H4 => r' y w' H4 Q else Q (.bl false) H3)) : tChain r r' ta tb tc σ H Q := h
def NewL (Q : VK) (xs : List V) (H1 : Hp) : Prop := xs.length ≤ sizeLine ∧ ∀ p, H1 p = none → Q (.ref p) (upd H1 p (.lst xs))
def NewT (Q : VK) (xs : List V) (H1 : Hp) : Prop := xs.length ≤ sizeLine ∧ ∀ p, H1 p = none → Q (.ref p) (upd H1 p (.tup xs))
theorem r_lst {t : TA} (h : t σ H fun xs H1 => NewL Q xs H1) : tLst t σ H Q := h
theorem r_tup {t : TA} (h : t σ H fun xs H1 => NewT Q xs H1) : tTup t σ H Q := h
theorem r_newL {xs : List V} (hn : xs.length ≤ 1000) (h : ∀ p, H p = none → Q (.ref p) (upd H p (.lst xs))) : NewL Q xs H := ⟨Nat.le_trans hn (by decide), h⟩
theorem r_newT {xs : List V} (hn : xs.length ≤ 1000) (h : ∀ p, H p = none → Q (.ref p) (upd H p (.tup xs))) : NewT Q xs H := ⟨Nat.le_trans hn (by decide), h⟩
theorem r_sl {r : V → Option Int → Option Int → Hp → VK → Prop} {te : TE} {tl th : TO} (h : te σ H fun x H1 => tl σ H1 fun l H2 => th σ H2 fun u H3 => r x l u H3 Q) : tSl r te tl th σ H Q := h
theorem r_part {t : TE} {R : Option Int → Hp → Prop} (h : t σ H fun x H1 => ∃ i, x = .int i ∧ R (some i) H1) : tPart t σ H R := h
theorem r_noPart {R : Option Int → Hp → Prop} (h : R none H) : tNoPart σ H R := h
theorem r_int {i : Int} {R : Int → Prop} (h : R i) : ∃ k, V.int i = .int k ∧ R k := ⟨i, rfl, h⟩
theorem r_comp {wi : TI} {g : TG} {ti : TT} {te : TE} {k : Nat} {caps : List Nat} (h : wi σ H fun J H1 => CompBody J g ti te k caps σ Q H1) : tComp wi g ti te k caps σ H Q := h
def ForBody (J : It) (g : TG) (tb : TS) (D : Ends) (σ : St) (H1 : Hp) : Prop := ∃ W : Nat → Nat → St → Hp → Prop, (∃ m, W 0 m σ H1) ∧ ∀ i m σ H, W i m σ H →
  (J.stop i H ∧ D.nx σ H) ∨ (J.go i H ∧ ∃ N : St → Hp → Prop, (∀ σ' H', N σ' H' → ∃ m', m' < m ∧ W (i + 1) m' σ' H') ∧ ∀ x H', J.yld i H x H' → g x σ H' fun σ2 H2 => tb { D with nx := N, ct := N, bk := D.nx } σ2 H2)
theorem r_for {wi : TI} {g : TG} {tb : TS} (h : wi σ H fun J H1 => ForBody J g tb D σ H1) : tFor wi g tb D σ H := h
def AtL (K : PySem.W.Frag) (R : It → Hp → Prop) (x : V) (H1 : Hp) : Prop := ∃ a, x = .ref a ∧ (∃ xs, SqL K H1 a xs) ∧ R (Itl K a) H1
theorem r_iList {tl : TE} {R : It → Hp → Prop} (h : tl σ H fun x H1 => AtL K R x H1) : iList K tl σ H R := h
theorem r_AtL {a : Addr} {xs : List V} {R : It → Hp → Prop} (hs : SqL K H a xs) (h : R (Itl K a) H) : AtL K R (.ref a) H := ⟨a, rfl, ⟨xs, hs⟩, h⟩
def AtZ (K : PySem.W.Frag) (R : It → Hp → Prop) (vs : List V) (H1 : Hp) : Prop := ∃ a b, vs = [.ref a, .ref b] ∧ (∃ xs, SqL K H1 a xs) ∧ (∃ ys, SqL K H1 b ys) ∧ R (Itz K a b) H1
theorem r_iZip {ta : TA} {R : It → Hp → Prop} (h : ta σ H fun vs H1 => AtZ K R vs H1) : iZip K ta σ H R := h
theorem r_AtZ {a b : Addr} {xs ys : List V} {R : It → Hp → Prop} (hs : SqL K H a xs) (ht : SqL K H b ys) (h : R (Itz K a b) H) : AtZ K R [.ref a, .ref b] H := ⟨a, b, rfl, ⟨xs, hs⟩, ⟨ys, ht⟩, h⟩
def AtE (K : PySem.W.Frag) (R : It → Hp → Prop) (vs : List V) (H1 : Hp) : Prop := ∃ a, vs = [.ref a] ∧ (∃ xs, SqL K H1 a xs) ∧ R (Ite K a) H1
theorem r_iEnum {ta : TA} {R : It → Hp → Prop} (h : ta σ H fun vs H1 => AtE K R vs H1) : iEnum K ta σ H R := h
theorem r_AtE {a : Addr} {xs : List V} {R : It → Hp → Prop} (hs : SqL K H a xs) (h : R (Ite K a) H) : AtE K R [.ref a] H := ⟨a, rfl, ⟨xs, hs⟩, h⟩
def AtR1 (R : It → Hp → Prop) (vs : List V) (H1 : Hp) : Prop := ∃ j : Int, vs = [.int j] ∧ -(2 ^ 62) ≤ j ∧ j < 2 ^ 62 ∧ R (Itr 0 j.toNat) H1
theorem r_iRng1 {ta : TA} {R : It → Hp → Prop} (h : ta σ H fun vs H1 => AtR1 R vs H1) : iRng1 ta σ H R := h
theorem r_gTup {n : Nat} {t : TGs} {T : Addr} {xs : List V} {R : St → Hp → Prop} (ht : H T = some (.tup xs)) (hn : xs.length = n) (h : t xs σ H R) : gTup K n t (.ref T) σ H R := ⟨T, xs, rfl, SqT.of ht, hn, h⟩
theorem r_gCons {t : TG} {u : TGs} {v : V} {r : List V} {R : St → Hp → Prop} (h : t v σ H fun σ' H' => u r σ' H' R) : gCons t u (v :: r) σ H R := ⟨v, r, rfl, h⟩
theorem r_gNil {R : St → Hp → Prop} (h : R σ H) : gNil [] σ H R := ⟨rfl, h⟩

theorem r_rI0 {g : Int → Int → V} {i j : Int} (h : Q (g i j) H) : rI0 g (.int i) (.int j) H Q := ⟨i, j, rfl, rfl, h⟩
theorem r_rI {C : Int → Int → Prop} {g : Int → Int → V} {i j : Int} (hc : C i j) (h : Q (g i j) H) : rI C g (.int i) (.int j) H Q := ⟨i, j, rfl, rfl, hc, h⟩
theorem r_rU {g : Int → V} {i : Int} (h : Q (g i) H) : rU g (.int i) H Q := ⟨i, rfl, h⟩
theorem r_addI {i j : Int} (h : Q (.int (i + j)) H) : rAddG (.int i) (.int j) H Q := .inl ⟨i, j, rfl, rfl, h⟩
theorem r_eqI {i j : Int} (h : Q (.bl (decide (i = j))) H) : rEq (.int i) (.int j) H Q ∨ rEqD K false (.int i) (.int j) H Q := .inl ⟨rfl, by
  have e : decide (V.int i = V.int j) = decide (i = j) := by rw [dec_int]; by_cases z : i = j <;> simp [z]
  rw [e]; exact h⟩
theorem r_neI {i j : Int} (h : Q (.bl (!decide (i = j))) H) : rNe (.int i) (.int j) H Q ∨ rEqD K true (.int i) (.int j) H Q := .inl ⟨rfl, by
  have e : decide (V.int i = V.int j) = decide (i = j) := by rw [dec_int]; by_cases z : i = j <;> simp [z]
  rw [e]; exact h⟩
theorem r_eqB {i j : Bool} (h : Q (.bl (i == j)) H) : rEq (.bl i) (.bl j) H Q ∨ rEqD K false (.bl i) (.bl j) H Q := .inl ⟨rfl, by rw [dec_bl]; exact h⟩
theorem r_neB {i j : Bool} (h : Q (.bl (!(i == j))) H) : rNe (.bl i) (.bl j) H Q ∨ rEqD K true (.bl i) (.bl j) H Q := .inl ⟨rfl, by rw [dec_bl]; exact h⟩
theorem r_isB {a b : Bool} (h : Q (.bl (a == b)) H) : rIsG (.bl a) (.bl b) H Q := .inl ⟨a, b, rfl, rfl, h⟩
theorem r_isnotB {a b : Bool} (h : Q (.bl (a != b)) H) : rIsnotG (.bl a) (.bl b) H Q := .inl ⟨a, b, rfl, rfl, h⟩

theorem r_lenL {p : Addr} {ys : List V} (hs : SqL K H p ys) (h : Q (.int ys.length) H) : rLenG K [.ref p] H Q := .inl ⟨p, ys, rfl, .inl hs, h⟩
theorem r_lenI {p : Addr} {ns : List Int} (hs : SqL K H p (ns.map V.int)) (h : Q (.int ns.length) H) : rLenG K [.ref p] H Q := r_lenL hs (by rw [List.length_map]; exact h)
theorem r_lenD {p : Addr} {kvs : List (Key × V)} (hs : H p = some (.dK kvs)) (h : Q (.int kvs.length) H) : rLenG K [.ref p] H Q := .inr ⟨p, kvs, rfl, hs, h⟩
theorem r_catI {l b : Addr} {xs zs : List Int} (h1 : H l = some (.lst (xs.map V.int))) (h2 : H b = some (.lst (zs.map V.int))) (hz : xs.length + zs.length ≤ 1000000) (h : ∀ p, H p = none → Q (.ref p) (upd H p (.lst ((xs ++ zs).map V.int)))) : rAddG (.ref l) (.ref b) H Q := by
  refine .inr ⟨l, b, _, _, rfl, rfl, h1, h2, ?_, fun p hp => ?_⟩
  · rw [List.length_map, List.length_map]; exact Nat.le_trans hz (by decide)
  · rw [← List.map_append]; exact h p hp
theorem atI_int {ns : List Int} {i : Int} (h0 : 0 ≤ i) (h1 : i < ns.length) : atI (ns.map V.int) i = some (.int (ns.getD i.toNat 0)) := by
  obtain ⟨j, rfl⟩ : ∃ j : Nat, i = j := ⟨i.toNat, by omega⟩
  have hj : j < ns.length := by omega
  refine atI_nat ?_
  rw [List.getElem?_map, Int.toNat_natCast, List.getD_eq_getElem?_getD]
  simp [hj]
theorem r_ixI {p : Addr} {ns : List Int} {i : Int} (hs : SqL K H p (ns.map V.int)) (h0 : 0 ≤ i) (h1 : i < ns.length) (h : Q (.int (ns.getD i.toNat 0)) H) : rIxG K (.ref p) (.int i) H Q := .inl ⟨p, _, i, _, rfl, rfl, hs, atI_int h0 h1, h⟩
theorem r_ixL {p : Addr} {xs : List V} {i : Int} {v : V} (hs : SqL K H p xs) (e : atI xs i = some v) (h : Q v H) : rIxG K (.ref p) (.int i) H Q := .inl ⟨p, _, i, _, rfl, rfl, hs, e, h⟩
theorem r_ixT {p : Addr} {xs : List V} {i : Int} {v : V} (hs : H p = some (.tup xs)) (e : atI xs i = some v) (h : Q v H) : rIxG K (.ref p) (.int i) H Q := .inr ⟨p, _, i, _, rfl, rfl, SqT.of hs, e, h⟩
theorem shaped_dI (ns : List Int) : SeqAt.shaped (dI ns) = true := PySem.W.ke_shaped_ints ns
theorem eqv_dI (xs ys : List Int) : PyData.eqv (dI xs) (dI ys) = decide (xs = ys) := by rw [PyData.eqv]; exact PySem.W.ked_eqvAll xs ys
theorem r_eqL {a b : Addr} {xs ys : List Int} (h1 : SqL K H a (xs.map V.int)) (h2 : SqL K H b (ys.map V.int)) (h : Q (.bl (decide (xs = ys))) H) : rEq (.ref a) (.ref b) H Q ∨ rEqD K false (.ref a) (.ref b) H Q :=
  .inr ⟨dI xs, dI ys, RdV.ints h1, RdV.ints h2, shaped_dI _, shaped_dI _, by rw [if_neg (by decide), eqv_dI]; exact h⟩
theorem r_neL {a b : Addr} {xs ys : List Int} (h1 : SqL K H a (xs.map V.int)) (h2 : SqL K H b (ys.map V.int)) (h : Q (.bl (!decide (xs = ys))) H) : rNe (.ref a) (.ref b) H Q ∨ rEqD K true (.ref a) (.ref b) H Q :=
  .inr ⟨dI xs, dI ys, RdV.ints h1, RdV.ints h2, shaped_dI _, shaped_dI _, by rw [if_pos rfl, eqv_dI]; exact h⟩
theorem inV_ints (x : Int) : ∀ ns : List Int, inV (.int x) (ns.map V.int) = decide (x ∈ ns)
  | [] => by simp [inV]
  | n :: r => by
    have ih := inV_ints x r
    unfold inV at ih ⊢
    rw [List.map_cons, List.any_cons, ih]
    show ((n == x) || _) = _
    by_cases e : n = x
    · subst e; simp
    · have e' : ¬ x = n := fun z => e z.symm
      simp [e, e']
theorem flat_ints : ∀ ns : List Int, (ns.map V.int).all flatV = true
  | [] => rfl
  | n :: r => by rw [List.map_cons, List.all_cons, flat_ints r]; rfl
theorem r_inI {p : Addr} {x : Int} {ns : List Int} (hs : SqL K H p (ns.map V.int)) (h : Q (.bl (decide (x ∈ ns))) H) : rIn K false (.int x) (.ref p) H Q := ⟨p, _, rfl, .inl hs, rfl, flat_ints ns, by rw [if_neg (by decide), inV_ints]; exact h⟩
theorem r_notInI {p : Addr} {x : Int} {ns : List Int} (hs : SqL K H p (ns.map V.int)) (h : Q (.bl (!decide (x ∈ ns))) H) : rIn K true (.int x) (.ref p) H Q := ⟨p, _, rfl, .inl hs, rfl, flat_ints ns, by rw [if_pos rfl, inV_ints]; exact h⟩
def cutI (xs : List Int) (lo hi : Option Int) : List Int := (xs.drop (HT.sIx xs.length 0 lo)).take (HT.sIx xs.length xs.length hi - HT.sIx xs.length 0 lo)
theorem cutV_ints (ns : List Int) (lo hi : Option Int) : cutV (ns.map V.int) lo hi = (cutI ns lo hi).map V.int := by
  unfold cutV cutI
  rw [List.length_map, List.map_take, List.map_drop]
theorem r_slI {a : Addr} {ns : List Int} {lo hi : Option Int} (hs : SqL K H a (ns.map V.int)) (h : ∀ p, H p = none → Q (.ref p) (upd H p (.lst ((cutI ns lo hi).map V.int)))) : rSlL K (.ref a) lo hi H Q := ⟨a, _, rfl, hs, fun p hp => by rw [cutV_ints]; exact h p hp⟩
theorem filt_range {α : Type} (ys : List α) : ∀ n, n ≤ ys.length → ((List.range n).filterMap fun k => ys[k]?) = ys.take n
  | 0, _ => by simp
  | n + 1, h => by
    rw [List.range_succ, List.filterMap_append, filt_range ys n (by omega), List.take_add_one]
    have hn : n < ys.length := by omega
    simp [hn]
theorem sr_rev (n : Nat) : sliceRange ((n : Int) - 1) (-1) (-1) = (List.range n).map fun k => n - 1 - k := by
  unfold sliceRange
  have e : (if ((-1 : Int) > 0) then (if ((n : Int) - 1 < -1) then ((-1) - ((n : Int) - 1) + (-1) - 1) / (-1) else 0) else (if ((n : Int) - 1 > -1) then ((n : Int) - 1 - (-1) - (-1) - 1) / (-(-1)) else 0)).toNat = n := by
    rw [if_neg (by decide)]
    have e1 : (-(-1) : Int) = 1 := by decide
    rw [e1, Int.ediv_one]
    split <;> omega
  simp only [e]
  refine List.map_congr_left fun k hk => ?_
  have := List.mem_range.mp hk
  omega
theorem filt_congr {α β : Type} {f g : α → Option β} : ∀ {l : List α}, (∀ x ∈ l, f x = g x) → l.filterMap f = l.filterMap g
  | [], _ => rfl
  | x :: r, h => by
    rw [List.filterMap_cons, List.filterMap_cons, h x List.mem_cons_self, filt_congr fun y hy => h y (List.mem_cons_of_mem _ hy)]
theorem pickV_rev (xs : List V) : pickV xs none none (some (-1)) = xs.reverse := by
  unfold pickV
  have eb : sliceBounds none none (some (-1)) xs.length = ((xs.length : Int) - 1, -1, -1) := PySem.W.krv_bounds _
  rw [eb]
  simp only
  rw [sr_rev, List.filterMap_map]
  have e : ((List.range xs.length).filterMap ((fun i => xs[i]?) ∘ fun k => xs.length - 1 - k)) = (List.range xs.length).filterMap fun k => xs.reverse[k]? := by
    refine filt_congr fun k hk => ?_
    have := List.mem_range.mp hk
    show xs[xs.length - 1 - k]? = _
    rw [List.getElem?_reverse (by omega)]
  rw [e, filt_range _ _ (by rw [List.length_reverse]; omega), ← List.length_reverse (as := xs), List.take_length]
def evens {α : Type} : List α → List α
  | [] => []
  | [x] => [x]
  | x :: _ :: r => x :: evens r
theorem evens_map {α β : Type} (f : α → β) : ∀ l : List α, evens (l.map f) = (evens l).map f
  | [] => rfl
  | [x] => rfl
  | x :: y :: r => by
    show f x :: evens (r.map f) = f x :: (evens r).map f
    rw [evens_map f r]
theorem filt_evens {α : Type} : ∀ (xs : List α), ((List.range ((xs.length + 1) / 2)).filterMap fun k => xs[2 * k]?) = evens xs
  | [] => by simp [evens]
  | [x] => by simp [evens, List.range_succ]
  | x :: y :: r => by
    have ih := filt_evens r
    have e : ((x :: y :: r).length + 1) / 2 = (r.length + 1) / 2 + 1 := by simp only [List.length_cons]; omega
    rw [e, List.range_succ_eq_map, List.filterMap_cons]
    show x :: _ = x :: evens r
    rw [← ih, List.filterMap_map]
    congr 1
theorem sr_two (a n : Nat) (h : a ≤ n) : sliceRange (a : Int) (n : Int) 2 = (List.range ((n - a + 1) / 2)).map fun k => a + 2 * k := by
  unfold sliceRange
  have e : (if ((2 : Int) > 0) then (if ((a : Int) < n) then ((n : Int) - a + 2 - 1) / 2 else 0) else (if ((a : Int) > n) then ((a : Int) - n - 2 - 1) / (-2) else 0)).toNat = (n - a + 1) / 2 := by
    rw [if_pos (by decide)]
    split <;> omega
  simp only [e]
  refine List.map_congr_left fun k hk => ?_
  omega
theorem pickV_two (xs : List V) : pickV xs none none (some 2) = evens xs := by
  unfold pickV
  have eb : sliceBounds none none (some 2) xs.length = (((0 : Nat) : Int), (xs.length : Int), 2) := rfl
  rw [eb]
  simp only
  rw [sr_two 0 xs.length (Nat.zero_le _), List.filterMap_map, ← filt_evens xs, Nat.sub_zero]
  refine filt_congr fun k _ => ?_
  show xs[0 + 2 * k]? = _
  rw [Nat.zero_add]
theorem pickV_two1 (xs : List V) : pickV xs (some 1) none (some 2) = evens xs.tail := by
  unfold pickV
  cases xs with
  | nil => rfl
  | cons x r =>
    have eb : sliceBounds (some 1) none (some 2) (x :: r).length = (((1 : Nat) : Int), ((r.length + 1 : Nat) : Int), 2) := by
      unfold sliceBounds
      simp only [Option.getD_some, List.length_cons]
      have z1 : ¬ ((1 : Int) < 0) := by decide
      have z2 : ((2 : Int) > 0) := by decide
      simp only [z1, z2, if_true, if_false]
      have : max 0 (min (1 : Int) ((r.length + 1 : Nat) : Int)) = ((1 : Nat) : Int) := by omega
      rw [this]
    rw [eb]
    simp only
    rw [sr_two 1 (r.length + 1) (by omega), List.filterMap_map]
    show _ = evens r
    rw [← filt_evens r, Nat.add_sub_cancel]
    refine filt_congr fun k _ => ?_
    show (x :: r)[1 + 2 * k]? = _
    rw [Nat.add_comm 1, List.getElem?_cons_succ]
theorem r_sl3 {te : TE} {tl th : TO} {ts : TE} (h : te σ H fun x H1 => tl σ H1 fun l H2 => th σ H2 fun u H3 => ts σ H3 fun z H4 => Sl3K K x l u z H4 Q) : tSl3 K te tl th ts σ H Q := h
theorem r_rev {a : Addr} {ns : List Int} (hs : SqL K H a (ns.map V.int)) (h : ∀ p, H p = none → Q (.ref p) (upd H p (.lst (ns.reverse.map V.int)))) : Sl3K K (.ref a) none none (.int (-1)) H Q :=
  ⟨-1, a, _, rfl, by decide, rfl, hs, fun p hp => by rw [pickV_rev, ← List.map_reverse]; exact h p hp⟩
theorem r_ev {a : Addr} {ns : List Int} (hs : SqL K H a (ns.map V.int)) (h : ∀ p, H p = none → Q (.ref p) (upd H p (.lst ((evens ns).map V.int)))) : Sl3K K (.ref a) none none (.int 2) H Q :=
  ⟨2, a, _, rfl, by decide, rfl, hs, fun p hp => by rw [pickV_two, evens_map]; exact h p hp⟩
theorem r_od {a : Addr} {ns : List Int} (hs : SqL K H a (ns.map V.int)) (h : ∀ p, H p = none → Q (.ref p) (upd H p (.lst ((evens ns.tail).map V.int)))) : Sl3K K (.ref a) (some 1) none (.int 2) H Q :=
  ⟨2, a, _, rfl, by decide, rfl, hs, fun p hp => by
    have e : evens (ns.map V.int).tail = (evens ns.tail).map V.int := by rw [← List.map_tail, evens_map]
    rw [pickV_two1, e]; exact h p hp⟩
theorem r_append {l : Addr} {xs : List V} {y : V} (hl : H l = some (.lst xs)) (hz : xs.length < 1000000) (h : Q .non (upd H l (.lst (xs ++ [y])))) : rAppend (.ref l) [y] H Q := ⟨l, xs, y, rfl, rfl, hl, Nat.lt_of_lt_of_le hz (by decide), h⟩
def AtM (K : PySem.W.Frag) (x : V) (H1 : Hp) (R : Prop) : Prop := tyV K "list" x H1 ∧ R
theorem r_tBM {r : V → List V → Hp → VK → Prop} {to : TE} {t : TA} (h : to σ H fun x H1 => AtM K x H1 (t σ H1 fun xs H2 => r x xs H2 Q)) : tBM K "list" r to t σ H Q := h
theorem r_tBM0 {r : V → List V → Hp → VK → Prop} {to : TE} (h : to σ H fun x H1 => AtM K x H1 (r x [] H1 Q)) : tBM0 K "list" r to σ H Q := h
theorem r_AtM {p : Addr} {xs : List V} {R : Prop} (hs : SqL K H p xs) (h : R) : AtM K (.ref p) H R := ⟨.inl ⟨rfl, xs, hs⟩, h⟩
end
end L2
namespace L2
open PySem PySem.Spec PyProof.Rows
theorem ov_ints {K : PySem.W.Frag} {a : Addr} {ns : List Int} : Ov (Itl K a) ns (fun H => SqL K H a (ns.map V.int)) (fun z x H H' => x = .int z ∧ H' = H) where
  go := fun i H h hi => (ov_list (K := K) (a := a) (xs := ns.map V.int)).go i H h (by rw [List.length_map]; exact hi)
  stop := fun i H h hi => (ov_list (K := K) (a := a) (xs := ns.map V.int)).stop i H h (by rw [List.length_map]; exact hi)
  yld := fun i H x H' y h hy q => (ov_list (K := K) (a := a) (xs := ns.map V.int)).yld i H x H' (.int y) h (by rw [List.getElem?_map, hy]; rfl) q
theorem ov_zipI {K : PySem.W.Frag} {a b : Addr} {xs ys : List Int} : Ov (Itz K a b) (xs.zip ys) (fun H => SqL K H a (xs.map V.int) ∧ SqL K H b (ys.map V.int)) (fun y x H H' => ∃ T, H T = none ∧ x = .ref T ∧ H' = upd H T (.tup [.int y.1, .int y.2])) where
  go := fun i H h hi => (ov_zip (K := K) (a := a) (b := b) (xs := xs.map V.int) (ys := ys.map V.int)).go i H h (by rw [List.length_zip] at hi ⊢; rw [List.length_map, List.length_map]; exact hi)
  stop := fun i H h hi => (ov_zip (K := K) (a := a) (b := b) (xs := xs.map V.int) (ys := ys.map V.int)).stop i H h (by rw [List.length_zip] at hi ⊢; rw [List.length_map, List.length_map]; exact hi)
  yld := fun i H x H' y h hy q => by
    obtain ⟨u, v⟩ := y
    exact (ov_zip (K := K) (a := a) (b := b) (xs := xs.map V.int) (ys := ys.map V.int)).yld i H x H' (.int u, .int v) h (by
      rw [List.getElem?_zip_eq_some] at hy ⊢
      rw [List.getElem?_map, List.getElem?_map, hy.1, hy.2]; exact ⟨rfl, rfl⟩) q
theorem ov_enumI {K : PySem.W.Frag} {a : Addr} {xs : List Int} : Ov (Ite K a) xs.zipIdx (fun H => SqL K H a (xs.map V.int)) (fun y x H H' => ∃ T, H T = none ∧ x = .ref T ∧ H' = upd H T (.tup [.int (y.2 : Nat), .int y.1])) where
  go := fun i H h hi => (ov_enum (K := K) (a := a) (xs := xs.map V.int)).go i H h (by rw [List.length_zipIdx] at hi ⊢; rw [List.length_map]; exact hi)
  stop := fun i H h hi => (ov_enum (K := K) (a := a) (xs := xs.map V.int)).stop i H h (by rw [List.length_zipIdx] at hi ⊢; rw [List.length_map]; exact hi)
  yld := fun i H x H' y h hy q => by
    obtain ⟨u, v⟩ := y
    refine (ov_enum (K := K) (a := a) (xs := xs.map V.int)).yld i H x H' (.int u, v) h ?_ q
    rw [List.getElem?_zipIdx] at hy ⊢
    rw [List.getElem?_map]
    cases e : xs[i]? with
    | none => rw [e] at hy; cases hy
    | some z =>
      rw [e] at hy
      have e2 : (z, 0 + i) = (u, v) := Option.some.inj hy
      have e3 : z = u := congrArg Prod.fst e2
      have e4 : 0 + i = v := congrArg Prod.snd e2
      rw [e3, e4]; rfl
theorem for_by {α : Type} {J : It} {l : List α} {kp : Hp → Prop} {rep : α → V → Hp → Hp → Prop} (O : Ov J l kp rep) {g : TG} {tb : TS} {D : Ends} {σ : St} {H : Hp} (Pv : Nat → St → Hp → Prop) (h0 : Pv 0 σ H) (hk : ∀ i σ H, i ≤ l.length → Pv i σ H → kp H)
    (hs : ∀ i y x σ H H', l[i]? = some y → Pv i σ H → rep y x H H' → g x σ H' fun σ2 H2 => tb { D with nx := Pv (i + 1), ct := Pv (i + 1), bk := D.nx } σ2 H2) (hd : ∀ σ H, Pv l.length σ H → D.nx σ H) : ForBody J g tb D σ H := for_ov O Pv h0 hk hs hd
end L2
namespace L2
theorem iteNT {A B : Prop} (h : B) : if (!true) = true then A else B := by rw [if_neg (by decide)]; exact h
theorem iteNF {A B : Prop} (h : A) : if (!false) = true then A else B := iteT h
theorem iteD {P A B : Prop} [Decidable P] (h1 : P → A) (h2 : ¬ P → B) : if decide P = true then A else B := by
  by_cases h : P
  · rw [if_pos (decide_eq_true h)]; exact h1 h
  · rw [if_neg (by simp [h])]; exact h2 h
theorem iteND {P A B : Prop} [Decidable P] (h1 : ¬ P → A) (h2 : P → B) : if (!decide P) = true then A else B := by
  by_cases h : P
  · rw [if_neg (by simp [h])]; exact h2 h
  · rw [if_pos (by simp [h])]; exact h1 h
theorem iteB {b : Bool} {A B : Prop} (h1 : b = true → A) (h2 : b = false → B) : if b = true then A else B := by
  cases b
  · exact iteF (h2 rfl)
  · exact iteT (h1 rfl)
theorem iteNB {b : Bool} {A B : Prop} (h1 : b = false → A) (h2 : b = true → B) : if (!b) = true then A else B := by
  cases b
  · exact iteT (h1 rfl)
  · exact iteF (h2 rfl)
end L2
namespace L2
open PySem PySem.Spec PyProof.Rows
structure Blt (mg : Str → Option Value) : Prop where
  no_len : mg "len" = none
  no_zip : mg "zip" = none
  no_enumerate : mg "enumerate" = none
  no_range : mg "range" = none
  no_list : mg "list" = none
  no_int : mg "int" = none
  no_bool : mg "bool" = none
  no_tuple : mg "tuple" = none
  no_set : mg "set" = none
  no_all : mg "all" = none
  no_any : mg "any" = none
  no_sum : mg "sum" = none
  no_min : mg "min" = none
  no_max : mg "max" = none
  no_sorted : mg "sorted" = none
  no_isinstance : mg "isinstance" = none
  no_dict : mg "dict" = none
structure Cal (K : PySem.W.Frag) (mg : Str → Option Value) (x : Str) (f : Addr) (fd : FuncData) (ps : List Str) : Prop where
  mg : mg x = some (.ref f)
  kp : PySem.W.keepIn K (.ref f) = true
  b : Binds K fd ps []
structure Mak (K : PySem.W.Frag) (mg : Str → Option Value) (x : Str) (C f : Addr) (fd : FuncData) (ps : List Str) : Prop where
  mg : mg x = some (.ref C)
  mkk : Mk K C f
  cl : Cls K C
  b : Binds K fd ps []
structure Met (K : PySem.W.Frag) (C : Addr) (m : Str) (f : Addr) (fd : FuncData) (ps : List Str) : Prop where
  m : Meth K C m f
  b : Binds K fd ps []
end L2
namespace L2
open PySem PySem.Spec PyProof.Rows
theorem kit_ii {K : PySem.W.Frag} : PySem.W.kitOne K (.type "int") (.type "int") = some true := rfl
theorem kit_ib {K : PySem.W.Frag} : PySem.W.kitOne K (.type "int") (.type "bool") = some false := rfl
theorem kit_ll {K : PySem.W.Frag} : PySem.W.kitOne K (.type "list") (.type "list") = some true := rfl
theorem r_isi {K : PySem.W.Frag} {H : Hp} {Q : VK} {x c : V} {cv t : Value} {b : Bool} (hc : clsOf c = some cv) (ty : TyOf K H x t) (e : PySem.W.kitOne K t cv = some b) (h : Q (.bl b) H) :
    rIsi K [x, c] H Q := ⟨x, c, cv, t, b, rfl, hc, ty, e, h⟩
theorem r_isi_ii {K : PySem.W.Frag} {H : Hp} {Q : VK} {z : Int} (h : Q (.bl true) H) : rIsi K [.int z, .ty "int"] H Q := r_isi rfl (.int z) kit_ii h
theorem r_isi_ib {K : PySem.W.Frag} {H : Hp} {Q : VK} {z : Int} (h : Q (.bl false) H) : rIsi K [.int z, .ty "bool"] H Q := r_isi rfl (.int z) kit_ib h
theorem r_isi_ll {K : PySem.W.Frag} {H : Hp} {Q : VK} {a : Addr} {vs : List V} (ha : H a = some (.lst vs)) (h : Q (.bl true) H) : rIsi K [.ref a, .ty "list"] H Q := r_isi rfl (.lst ha) kit_ll h
end L2
namespace L2
open PySem PySem.Spec PyProof.Rows
theorem comp_map {α : Type} {J : It} {l : List α} {kp : Hp → Prop} {rep : α → V → Hp → Hp → Prop} (O : Ov J l kp rep) {g : TG} {ti : TT} {te : TE} {k : Nat} {caps : List Nat} {σ : St} {H1 : Hp} {Q : VK}
    (f : α → V) (hk : ∀ H, Same H1 H → kp H) (hl : l.length ≤ 1000000)
    (turn : ∀ (i : Nat) y x H3 H4 (R : V → Hp → Prop) (R' : Hp → Prop), l[i]? = some y → Same H1 H3 → rep y x H3 H4 → (∀ H7, Same H3 H7 → R (f y) H7) →
      g x (inner k caps σ) H4 fun σ4 H5 => (σ4.length = (inner k caps σ).length ∧ σ4.drop k = (inner k caps σ).drop k) ∧ ti σ4 H5 fun b H6 => if b = true then te σ4 H6 R else R' H6)
    (fin : ∀ D H', H1 D = none → Same H1 H' → H' D = some (.lst (l.map f)) → Q (.ref D) H') : CompBody J g ti te k caps σ Q H1 :=
  comp_pure O (fun _ => true) f hk (Nat.le_trans hl (by decide)) (fun i y x H3 H4 R R' e s r h1 _ => turn i y x H3 H4 R R' e s r (h1 rfl))
    fun D H' hD s d => fin D H' hD s (by rw [d, List.filter_eq_self.mpr (fun _ _ => rfl)])
theorem mulOk200 {a b : Int} (ha : a.natAbs < 2 ^ 200) (hb : b.natAbs < 2 ^ 200) : IntMulOk a b := IntMulOk.of_bits (Nat.le_trans (intBits_le ha) (by decide)) (Nat.le_trans (intBits_le hb) (by decide))
theorem all_true {α : Type} (l : List α) : (l.map fun _ => true).all id = true := by simp
end L2
set_option maxHeartbeats 4000000
namespace Lf

def standsFrom (row : List Int) : Int → List Int → List Int → Bool
  | last, p :: ps, x :: xs => decide (last < p) && decide (p < (row.length : Int)) && decide (row.getD p.toNat 0 = x) && standsFrom row p ps xs
  | _, _, _ => true
def stands (row places other : List Int) : Bool := decide (places.length = other.length) && standsFrom row (-1) places other

def strike : List Int → List Int → List Int
  | [], rest => rest
  | y :: ys, rest => strike ys (match rest with | [] => [] | x :: r => if x = y then r else x :: r)
def isLeft (row other : List Int) : Bool := (strike row.reverse other.reverse).isEmpty

theorem strike_nil : ∀ ys : List Int, strike ys [] = []
  | [] => rfl
  | _ :: ys => by rw [strike]; exact strike_nil ys
theorem strike_sub : ∀ (ys rest : List Int), strike ys rest = [] ↔ rest.Sublist ys
  | [], rest => by
    rw [strike]
    constructor
    · intro h; rw [h]; exact List.nil_sublist _
    · intro h; exact List.sublist_nil.mp h
  | y :: ys, [] => by
    rw [strike]
    simp [strike_nil]
  | y :: ys, x :: r => by
    rw [strike]
    by_cases h : x = y
    · subst h
      simp only [if_true]
      rw [strike_sub ys r]
      exact List.cons_sublist_cons.symm
    · simp only [h, if_false]
      rw [strike_sub ys (x :: r)]
      constructor
      · intro q; exact q.cons y
      · intro q
        cases q with
        | cons _ q => exact q
        | cons_cons _ q => exact absurd rfl h
theorem isLeft_iff (row other : List Int) : isLeft row other = true ↔ other.Sublist row := by
  unfold isLeft
  rw [List.isEmpty_iff, strike_sub, List.reverse_sublist]

def cut (row : List Int) (b e : Int) : List Int := (row.drop b.toNat).take (e.toNat - b.toNat)
end Lf
namespace Lf
def most (code : Int) : Int := if code % 4 = 0 then 2 else if code % 4 = 1 then 3 else if code % 4 = 2 then 5 else 10 ^ 30
def lrow (cells : List Int) (code : Int) : List Int := if code / 4 % 3 = 2 then cells.map fun c => (c % most code - 1) * 10 ^ 30 else cells.map fun c => c % most code
theorem most_pos (code : Int) : 0 < most code := by unfold most; split <;> (try split) <;> (try split) <;> decide
theorem most_le (code : Int) : most code ≤ 10 ^ 30 := by unfold most; split <;> (try split) <;> (try split) <;> decide
theorem lrow_len (cells : List Int) (code : Int) : (lrow cells code).length = cells.length := by unfold lrow; split <;> simp
end Lf
namespace Lf
def rising : Int → Int → List Int → Bool
  | _, _, [] => true
  | ahead, count, p :: ps => decide (ahead < p) && decide (p < count) && rising p count ps
def fits (row : List Int) (ps xs : List Int) : Bool := (ps.zip xs).all fun y => decide (row.getD y.1.toNat 0 = y.2)
theorem standsFrom_eq (row : List Int) : ∀ (ps xs : List Int) (last : Int), ps.length = xs.length → standsFrom row last ps xs = (rising last row.length ps && fits row ps xs)
  | [], [], _, _ => rfl
  | [], _ :: _, _, h => by simp at h
  | _ :: _, [], _, h => by simp at h
  | p :: ps, x :: xs, last, h => by
    rw [standsFrom, rising, standsFrom_eq row ps xs p (by simpa using h)]
    unfold fits
    rw [List.zip_cons_cons, List.all_cons]
    cases decide (last < p) <;> cases decide (p < (row.length : Int)) <;> cases rising p row.length ps <;> simp
theorem stands_eq (row ps xs : List Int) (h : ps.length = xs.length) : stands row ps xs = (rising (-1) row.length ps && fits row ps xs) := by
  unfold stands
  rw [standsFrom_eq row ps xs _ h]
  simp [h]
theorem rising_in : ∀ (ps : List Int) (ahead count : Int), rising ahead count ps = true → ∀ p ∈ ps, ahead < p ∧ p < count
  | [], _, _, _ => fun p hp => by simp at hp
  | q :: ps, ahead, count, h => fun p hp => by
    rw [rising] at h
    simp only [Bool.and_eq_true, decide_eq_true_eq] at h
    rcases List.mem_cons.mp hp with e | hp
    · subst e; exact ⟨h.1.1, h.1.2⟩
    · have := rising_in ps q count h.2 p hp
      omega
end Lf
namespace Lf
theorem stands_more {row ps other : List Int} (z : Int) (h : stands row ps other = true) : stands row (ps ++ [z]) other = false := by
  unfold stands at h ⊢
  simp only [Bool.and_eq_true, decide_eq_true_eq] at h
  have : ¬ (ps ++ [z]).length = other.length := by simp; omega
  simp [this]
  intro e
  omega
theorem stands_len {row ps other : List Int} (h : stands row ps other = true) : ps.length = other.length := by
  unfold stands at h
  simp only [Bool.and_eq_true, decide_eq_true_eq] at h
  exact h.1
end Lf
namespace Lf
theorem cut_none {row : List Int} {b e : Int} (h : e ≤ b) : cut row b e = [] := by
  unfold cut
  have : e.toNat - b.toNat = 0 := by omega
  rw [this]; rfl
end Lf
set_option maxRecDepth 100000
set_option maxHeartbeats 4000000
namespace L2
open PySem PySem.Spec PyProof.Rows
section
variable {σ : St} {H H' : Hp} {Q : VK} {D : Ends} {K : PySem.W.Frag} {X : Cx}
theorem same_upd {H2 : Hp} {r : Addr} {o : HO} (s : Same H H2) (hr : H r = none) : Same H (upd H2 r o) := fun b u h => upd_keepNe (s b u h) (ne_of_none h hr)
theorem free_upd {r q : Addr} {o : HO} (h : upd H r o q = none) : H q = none := by
  by_cases e : q = r
  · subst e; rw [upd_same] at h; cases h
  · rw [upd_ne e] at h; exact h
theorem ne_upd {r q : Addr} {o : HO} (h : upd H r o q = none) : q ≠ r := fun e => by subst e; rw [upd_same] at h; cases h
theorem same_trans {H1 H2 : Hp} (b : Same H1 H2) (a : Same H H1) : Same H H2 := a.trans b
theorem r_cutT {t : TT} {R : Bool → Hp → Prop} (v : Bool) (H' : Hp) (h : ∀ Q' : Bool → Hp → Prop, Q' v H' → t σ H Q') (k : R v H') : t σ H R := h R k
def rLOf (K : PySem.W.Frag) (xs : List V) (H : Hp) (Q : VK) : Prop := ∃ p ys, xs = [.ref p] ∧ (SqL K H p ys ∨ SqT K H p ys) ∧ ∀ l, H l = none → Q (.ref l) (upd H l (.lst ys))
theorem call_listOf : CallR X (.type "list") (rLOf X.K) := call_list_of
theorem r_lofI {p : Addr} {ns : List Int} (hs : SqL K H p (ns.map V.int)) (h : ∀ l, H l = none → Q (.ref l) (upd H l (.lst (ns.map V.int)))) : rLOf K [.ref p] H Q := ⟨p, _, rfl, .inl hs, h⟩
theorem r_new0 (h : ∀ p, H p = none → Q (.ref p) (upd H p (.lst (([] : List Int).map V.int)))) : NewL Q [] H := r_newL (by decide) h
theorem r_new1 {a : Int} (h : ∀ p, H p = none → Q (.ref p) (upd H p (.lst (([a] : List Int).map V.int)))) : NewL Q [.int a] H := r_newL (by simp) h
theorem r_new2 {a b : Int} (h : ∀ p, H p = none → Q (.ref p) (upd H p (.lst (([a, b] : List Int).map V.int)))) : NewL Q [.int a, .int b] H := r_newL (by simp) h
theorem r_appI {l : Addr} {ns : List Int} {y : Int} (hl : H l = some (.lst (ns.map V.int))) (hz : ns.length < 1000000) (h : Q .non (upd H l (.lst ((ns ++ [y]).map V.int)))) : rAppend (.ref l) [.int y] H Q :=
  r_append hl (by rw [List.length_map]; exact hz) (by rw [List.map_append] at h; exact h)
theorem mr_append : MtR X "list.append" rAppend := mt_append
theorem mr_reverse : MtR X "list.reverse" rReverse := mt_reverse
theorem sIx_pos (n d : Nat) {k : Int} (h : 0 ≤ k) : HT.sIx n d (some k) = min k.toNat n := by
  obtain ⟨j, rfl⟩ : ∃ j : Nat, k = j := ⟨k.toNat, by omega⟩
  rw [HT.sIx_nat, Int.toNat_natCast]
theorem cutI_to (xs : List Int) {k : Int} (h : 0 ≤ k) : cutI xs none (some k) = xs.take k.toNat := by
  unfold cutI
  rw [sIx_pos _ _ h, HT.sIx_none, List.drop_zero, Nat.sub_zero, List.take_eq_take_iff]
  omega
theorem cutI_from (xs : List Int) {k : Int} (h : 0 ≤ k) : cutI xs (some k) none = xs.drop k.toNat := by
  unfold cutI
  rw [sIx_pos _ _ h, HT.sIx_none]
  rw [List.take_of_length_le (by rw [List.length_drop]; omega)]
  by_cases hk : k.toNat ≤ xs.length
  · rw [Nat.min_eq_left hk]
  · rw [Nat.min_eq_right (by omega), List.drop_of_length_le (Nat.le_refl _), List.drop_of_length_le (by omega)]
theorem cutI_mid (xs : List Int) {b e : Int} (hb : 0 ≤ b) (he : 0 ≤ e) : cutI xs (some b) (some e) = Lf.cut xs b e := by
  unfold cutI Lf.cut
  rw [sIx_pos _ _ hb, sIx_pos _ _ he]
  by_cases hk : b.toNat ≤ xs.length
  · rw [Nat.min_eq_left hk, List.take_eq_take_iff, List.length_drop]
    omega
  · rw [List.drop_of_length_le (by omega), List.drop_of_length_le (by omega), List.take_nil, List.take_nil]
theorem r_slTo {a : Addr} {ns : List Int} {k : Int} (hs : SqL K H a (ns.map V.int)) (hk : 0 ≤ k) (h : ∀ p, H p = none → Q (.ref p) (upd H p (.lst ((ns.take k.toNat).map V.int)))) : rSlL K (.ref a) none (some k) H Q := r_slI hs (by rw [cutI_to _ hk]; exact h)
theorem r_slFrom {a : Addr} {ns : List Int} {k : Int} (hs : SqL K H a (ns.map V.int)) (hk : 0 ≤ k) (h : ∀ p, H p = none → Q (.ref p) (upd H p (.lst ((ns.drop k.toNat).map V.int)))) : rSlL K (.ref a) (some k) none H Q := r_slI hs (by rw [cutI_from _ hk]; exact h)
theorem r_slMid {a : Addr} {ns : List Int} {b e : Int} (hs : SqL K H a (ns.map V.int)) (hb : 0 ≤ b) (he : 0 ≤ e) (h : ∀ p, H p = none → Q (.ref p) (upd H p (.lst ((Lf.cut ns b e).map V.int)))) : rSlL K (.ref a) (some b) (some e) H Q := r_slI hs (by rw [cutI_mid _ hb he]; exact h)
end
end L2
namespace L2
open PySem PySem.Spec PyProof.Rows
theorem comp_mapI {α : Type} {J : It} {l : List α} {kp : Hp → Prop} {rep : α → V → Hp → Hp → Prop} (O : Ov J l kp rep) {g : TG} {ti : TT} {te : TE} {k : Nat} {caps : List Nat} {σ : St} {H1 : Hp} {Q : VK}
    (f : α → Int) (hk : ∀ H, Same H1 H → kp H) (hl : l.length ≤ 1000000)
    (turn : ∀ (i : Nat) y x H3 H4 (R : V → Hp → Prop) (R' : Hp → Prop), l[i]? = some y → Same H1 H3 → rep y x H3 H4 → (∀ H7, Same H3 H7 → R (.int (f y)) H7) →
      g x (inner k caps σ) H4 fun σ4 H5 => (σ4.length = (inner k caps σ).length ∧ σ4.drop k = (inner k caps σ).drop k) ∧ ti σ4 H5 fun b H6 => if b = true then te σ4 H6 R else R' H6)
    (fin : ∀ D H', H1 D = none → Same H1 H' → H' D = some (.lst ((l.map f).map V.int)) → Q (.ref D) H') : CompBody J g ti te k caps σ Q H1 :=
  comp_map O (fun y => .int (f y)) hk hl turn fun D H' hD s d => fin D H' hD s (by rw [d, List.map_map]; rfl)
theorem comp_filtI {α : Type} {J : It} {l : List α} {kp : Hp → Prop} {rep : α → V → Hp → Hp → Prop} (O : Ov J l kp rep) {g : TG} {ti : TT} {te : TE} {k : Nat} {caps : List Nat} {σ : St} {H1 : Hp} {Q : VK}
    (c : α → Bool) (f : α → Int) (hk : ∀ H, Same H1 H → kp H) (hl : l.length ≤ 1000000)
    (turn : ∀ (i : Nat) y x H3 H4 (R : V → Hp → Prop) (R' : Hp → Prop), l[i]? = some y → Same H1 H3 → rep y x H3 H4 → (c y = true → ∀ H7, Same H3 H7 → R (.int (f y)) H7) → (c y = false → ∀ H7, Same H3 H7 → R' H7) →
      g x (inner k caps σ) H4 fun σ4 H5 => (σ4.length = (inner k caps σ).length ∧ σ4.drop k = (inner k caps σ).drop k) ∧ ti σ4 H5 fun b H6 => if b = true then te σ4 H6 R else R' H6)
    (fin : ∀ D H', H1 D = none → Same H1 H' → H' D = some (.lst (((l.filter c).map f).map V.int)) → Q (.ref D) H') : CompBody J g ti te k caps σ Q H1 :=
  comp_pure O c (fun y => .int (f y)) hk (Nat.le_trans hl (by decide)) turn fun D H' hD s d => fin D H' hD s (by rw [d, List.map_map]; rfl)
theorem mul2Ok {x : Int} : IntMulOk 2 x := IntMulOk.of_left (by decide)
end L2
namespace L2
open PySem PySem.Spec PyProof.Rows
section
variable {σ : St} {H H' : Hp} {Q : VK} {D : Ends} {K : PySem.W.Frag} {X : Cx}
def AtD2 (ty tx : TE) (σ : St) (Q : VK) (x : V) (H1 : Hp) : Prop := ∃ a, x = .ref a ∧ IsD H1 a ∧ ty σ H1 fun y H2 => tx σ H2 fun z H3 => ∃ o, DGet H3 a y o ∧ Q (o.getD z) H3
theorem r_dget2 {td ty tx : TE} (h : td σ H fun x H1 => AtD2 ty tx σ Q x H1) : tDGet2 td ty tx σ H Q := h
def DG2 (a : Addr) (Q : VK) (y z : V) (H3 : Hp) : Prop := ∃ o, DGet H3 a y o ∧ Q (o.getD z) H3
theorem r_AtD2 {ty tx : TE} {a : Addr} {kvs : List (Key × V)} (ha : H a = some (.dK kvs)) (h : ty σ H fun y H2 => tx σ H2 fun z H3 => DG2 a Q y z H3) : AtD2 ty tx σ Q (.ref a) H := ⟨a, rfl, .inl ⟨kvs, .inl ha⟩, h⟩
theorem r_DG2 {a : Addr} {i : Int} {z : V} {kvs : List (Key × V)} (ha : H a = some (.dK kvs)) (h : Q ((valV kvs (.inl i)).getD z) H) : DG2 a Q (.int i) z H := ⟨_, DGet.k (k := .inl i) ha, h⟩
def DP (R : Hp → Prop) (x y v : V) (H3 : Hp) : Prop := ∃ a H4, x = .ref a ∧ DPut H3 a y v H4 ∧ R H4
theorem r_dput {td ty tv : TE} (h : tv σ H fun v H1 => td σ H1 fun x H2 => ty σ H2 fun y H3 => DP (fun H4 => D.nx σ H4) x y v H3) : sDPut td ty tv D σ H := h
theorem r_dnewK (h : ∀ p, H p = none → Q (.ref p) (upd H p (.dK []))) : tDNewK σ H Q := h
def Par2 (i j : Nat) (σ : St) (D : Ends) (vs : List V) (H1 : Hp) : Prop := ∃ v w, vs = [v, w] ∧ D.nx ((σ.set i (some v)).set j (some w)) H1
theorem r_par {i j : Nat} {ta : TA} (h : ta σ H fun vs H1 => Par2 i j σ D vs H1) : tPar i j ta D σ H := h
theorem r_Par2 {i j : Nat} {x y : V} (h : D.nx ((σ.set i (some x)).set j (some y)) H) : Par2 i j σ D [x, y] H := ⟨x, y, rfl, h⟩
end
end L2
set_option maxHeartbeats 4000000
namespace Lf

def after (x : Int) : List Int → Option (List Int)
  | [] => none
  | y :: ys => if y = x then some ys else after x ys
theorem after_len (x : Int) : ∀ (s t : List Int), after x s = some t → t.length < s.length
  | [], _, h => by cases h
  | y :: ys, t, h => by
    unfold after at h
    split at h
    · cases h; simp
    · have := after_len x ys t h
      simp; omega
def kin : List Int → Int
  | [] => 1
  | x :: s => 2 * kin s - (match h : after x s with | some t => kin t | none => 0)
termination_by s => s.length
decreasing_by
  · simp
  · have := after_len x s t h
    simp; omega
theorem len_le_of_sub {α : Type} [DecidableEq α] : ∀ (l m : List α), l.Nodup → (∀ a ∈ l, a ∈ m) → l.length ≤ m.length
  | [], m, _, _ => by simp
  | a :: l, m, hn, hs => by
    have hn' := List.nodup_cons.mp hn
    have ham := hs a List.mem_cons_self
    have := len_le_of_sub l (m.erase a) hn'.2 fun b hb => by
      have hne : b ≠ a := fun e => hn'.1 (e ▸ hb)
      exact (List.mem_erase_of_ne hne).mpr (hs b (List.mem_cons_of_mem _ hb))
    rw [List.length_erase_of_mem ham] at this
    have : 0 < m.length := List.length_pos_of_mem ham
    simp; omega
end Lf
namespace Lf
def lmin : List Int → Int
  | [] => 0
  | [x] => x
  | x :: y :: r => if x ≤ lmin (y :: r) then x else lmin (y :: r)
theorem lmin_le : ∀ (l : List Int), ∀ a ∈ l, lmin l ≤ a
  | [], a, h => by simp at h
  | [x], a, h => by simp at h; subst h; exact Int.le_refl _
  | x :: y :: r, a, h => by
    have ih := lmin_le (y :: r)
    rw [lmin]
    rcases List.mem_cons.mp h with e | h
    · subst e; split <;> omega
    · have := ih a h
      split <;> omega
theorem lmin_mem : ∀ (l : List Int), l ≠ [] → lmin l ∈ l
  | [], h => absurd rfl h
  | [x], _ => by simp [lmin]
  | x :: y :: r, _ => by
    have ih := lmin_mem (y :: r) (by simp)
    rw [lmin]
    split
    · simp
    · exact List.mem_cons_of_mem _ ih
theorem lmin_eq {l : List Int} {M : Int} (h1 : M ∈ l) (h2 : ∀ a ∈ l, M ≤ a) : M = lmin l := by
  have a := lmin_le l M h1
  have b := h2 _ (lmin_mem l (List.ne_nil_of_mem h1))
  omega
def least : Nat → List Int → List Int
  | 0, _ => []
  | m + 1, row => lmin (row.take (row.length - m)) :: least m (row.drop ((row.take (row.length - m)).idxOf (lmin (row.take (row.length - m))) + 1))
theorem least_all : ∀ (row : List Int), least row.length row = row
  | [] => rfl
  | x :: r => by
    have e : (x :: r).length - r.length = 1 := by simp
    rw [List.length_cons, least, e]
    have t : (x :: r).take 1 = [x] := rfl
    rw [t]
    have : lmin [x] = x := rfl
    rw [this]
    simp [least_all r]
end Lf
set_option maxRecDepth 100000
set_option maxHeartbeats 4000000
namespace L2
open PySem PySem.Spec PyProof.Rows
section
variable {σ : St} {H H' : Hp} {Q : VK} {D : Ends} {K : PySem.W.Frag} {X : Cx}
theorem upd_keepA {q p : Addr} {u o : HO} (hp : H p = none) (h : H q = some u) : upd H p o q = some u := upd_keep h hp
theorem upd_keepNeA {q p : Addr} {u o : HO} (hne : q ≠ p) (h : H q = some u) : upd H p o q = some u := upd_keepNe h hne
theorem sq_keepA {q p : Addr} {xs : List V} {o : HO} (hp : H p = none) (h : SqL K H q xs) : SqL K (upd H p o) q xs := sq_keep h hp
theorem sq_keepNeA {q p : Addr} {xs : List V} {o : HO} (hne : q ≠ p) (h : SqL K H q xs) : SqL K (upd H p o) q xs := sq_keepNe h hne
theorem mk_keep {x dx q : Addr} {o o' u : HO} (hx : H x = none) (hdx : H dx = none) (h : H q = some u) : upd (upd H dx o') x o q = some u := upd_keepNe (upd_keep h hdx) (ne_of_none h hx)
theorem mk_sq {x dx q : Addr} {o o' : HO} {xs : List V} (hx : H x = none) (hdx : H dx = none) (h : SqL K H q xs) : SqL K (upd (upd H dx o') x o) q xs := by
  rcases h with (h | ⟨u, h⟩) | h
  · exact .inl (.inl (mk_keep hx hdx h))
  · exact .inl (.inr ⟨u, mk_keep hx hdx h⟩)
  · exact .inr h
theorem free_of {l : Addr} (h : H' l = none) (e : Same H H') : H l = none := e.free h
abbrev dL (xss : List (List Int)) : PyData := .list (xss.map dI)
theorem eqvAll_dI : ∀ xss yss : List (List Int), PyData.eqvAll (xss.map dI) (yss.map dI) = decide (xss = yss)
  | [], [] => by simp [PyData.eqvAll]
  | [], _ :: _ => by simp [PyData.eqvAll]
  | _ :: _, [] => by simp [PyData.eqvAll]
  | a :: r, b :: t => by
    rw [List.map_cons, List.map_cons, PyData.eqvAll, eqvAll_dI r t, eqv_dI]
    by_cases h : a = b <;> by_cases h' : r = t <;> simp [h, h']
theorem eqv_dL (xss yss : List (List Int)) : PyData.eqv (dL xss) (dL yss) = decide (xss = yss) := by rw [PyData.eqv]; exact eqvAll_dI xss yss
theorem shapes_dI : ∀ xss : List (List Int), PyData.canLayAll0 (xss.map dI) = true ∧ PyData.depthAll (xss.map dI) ≤ 8
  | [] => by simp [PyData.canLayAll0, PyData.depthAll]
  | a :: r => by
    obtain ⟨h1, h2⟩ := shapes_dI r
    have h3 := shaped_dI a
    have h4 : PyData.depth (dI a) ≤ 8 := by simp [PyData.depth, PySem.W.ke_depthAll]
    have h5 := SeqAt.canLay_of_shaped h3
    rw [List.map_cons]
    refine ⟨?_, ?_⟩
    · rw [PyData.canLayAll0, h5, h1]; rfl
    · rw [PyData.depthAll]
      omega
theorem shaped_dL (xss : List (List Int)) : SeqAt.shaped (dL xss) = true := by
  obtain ⟨h1, h2⟩ := shapes_dI xss
  unfold SeqAt.shaped
  rw [PyData.canLay0, h1, PyData.depth]
  simp
  omega
theorem r_new3 {a b c : Int} (h : ∀ p, H p = none → Q (.ref p) (upd H p (.lst (([a, b, c] : List Int).map V.int)))) : NewL Q [.int a, .int b, .int c] H := r_newL (by simp) h
theorem r_new4 {a b c d : Int} (h : ∀ p, H p = none → Q (.ref p) (upd H p (.lst (([a, b, c, d] : List Int).map V.int)))) : NewL Q [.int a, .int b, .int c, .int d] H := r_newL (by simp) h
theorem r_new5 {a b c d e : Int} (h : ∀ p, H p = none → Q (.ref p) (upd H p (.lst (([a, b, c, d, e] : List Int).map V.int)))) : NewL Q [.int a, .int b, .int c, .int d, .int e] H := r_newL (by simp) h
def rSum (K : PySem.W.Frag) (xs : List V) (H : Hp) (Q : VK) : Prop := ∃ (p : Addr) (ns : List Int), xs = [.ref p] ∧ SqL K H p (ns.map V.int) ∧ Q (.int ns.sum) H
theorem call_sum (hc : X.calm = true) : CallR X (.builtin "sum") (rSum X.K) := call_sumI hc
theorem r_ixLit {p : Addr} {xs : List V} {i : Int} {v : V} (hs : SqL K H p xs) (e : atI xs i = some v) (h : Q v H) : rIxG K (.ref p) (.int i) H Q := r_ixL hs e h
theorem r_sum {p : Addr} {ns : List Int} (hs : SqL K H p (ns.map V.int)) (h : Q (.int ns.sum) H) : rSum K [.ref p] H Q := ⟨p, ns, rfl, hs, h⟩
structure Ins (K : PySem.W.Frag) (C : Addr) : Prop where
  cl : Cls K C
  ha : PySem.W.findIn K (.ref C) "__class__" = some (some (.builtin "object.__class__"))
  hn : PySem.W.specialIn K (.builtin "object.__class__") "__get__" = some (some (.builtin "getset_descriptor.__get__"))
  htk : PySem.W.takesIn K (.builtin "object.__class__") = some true
  hm : PySem.W.mroIn K C (.type "object") = some true
theorem r_isi_cls {x C D' dx : Addr} {fs : List (Str × V)} {b : Bool} (ha : H x = some (.ins C dx fs)) (i : Ins K C) (hk : PySem.W.kitOne K (.ref C) (.ref D') = some b) (h : Q (.bl b) H) : rIsi K [.ref x, .ref D'] H Q := r_isi rfl (.ins ha i.cl i.ha i.hn i.htk i.hm) hk h
def AtF (K : PySem.W.Frag) (f : Str) (Q : VK) (x : V) (H1 : Hp) : Prop := ∃ a C dx fs v, x = .ref a ∧ H1 a = some (.ins C dx fs) ∧ Cls K C ∧ NoAttr K C f ∧ fs.lookup f = some v ∧ Q v H1
theorem r_fld {ta : TE} {f : Str} (h : ta σ H fun x H1 => AtF K f Q x H1) : tFld K ta f σ H Q := h
theorem r_AtF {a C dx : Addr} {fs : List (Str × V)} {f : Str} {v : V} (ha : H a = some (.ins C dx fs)) (i : Ins K C) (n : NoAttr K C f) (l : fs.lookup f = some v) (h : Q v H) : AtF K f Q (.ref a) H := ⟨a, C, dx, fs, v, rfl, ha, i.cl, n, l, h⟩
def SetF (K : PySem.W.Frag) (f : Str) (R : Hp → Prop) (y x : V) (H2 : Hp) : Prop := ∃ a C dx fs, x = .ref a ∧ H2 a = some (.ins C dx fs) ∧ Cls K C ∧ NoAttr K C f ∧ fs.length < 1000 ∧ R (upd H2 a (.ins C dx (putF f y fs)))
theorem r_sfld {ta tv : TE} {f : Str} (h : tv σ H fun y H1 => ta σ H1 fun x H2 => SetF K f (fun H3 => D.nx σ H3) y x H2) : sFld K ta tv f D σ H := h
theorem r_SetF {a C dx : Addr} {fs : List (Str × V)} {f : Str} {y : V} {R : Hp → Prop} (ha : H a = some (.ins C dx fs)) (i : Ins K C) (n : NoAttr K C f) (l : fs.length < 1000) (h : R (upd H a (.ins C dx (putF f y fs)))) : SetF K f R y (.ref a) H := ⟨a, C, dx, fs, rfl, ha, i.cl, n, l, h⟩
def AtMe (C : Addr) (m : Str) (x : V) (H1 : Hp) (R : Prop) : Prop := ∃ a dx fs, x = .ref a ∧ H1 a = some (.ins C dx fs) ∧ fs.lookup m = none ∧ R
theorem r_meth {C : Addr} {m : Str} {sp : Sp} {dvs : List V} {E : XK} {ta : TE} {t : TA} (h : ta σ H fun x H1 => AtMe C m x H1 (t σ H1 fun vs H2 => sp (x :: (vs ++ dvs)) H2 Q E)) : tMeth C m sp dvs E ta t σ H Q := h
theorem r_AtMe {C a dx : Addr} {m : Str} {fs : List (Str × V)} {R : Prop} (ha : H a = some (.ins C dx fs)) (l : fs.lookup m = none) (h : R) : AtMe C m (.ref a) H R := ⟨a, dx, fs, rfl, ha, l, h⟩
theorem r_make {C : Addr} {sp : Sp} {dvs : List V} {E : XK} {t : TA} (h : t σ H fun vs H1 => ∀ x dx, H1 x = none → H1 dx = none → dx ≠ x →
    sp (.ref x :: (vs ++ dvs)) (upd (upd H1 dx (.own x)) x (.ins C dx [])) (fun v H2 => v = .non ∧ Q (.ref x) H2) E) : tMake C sp dvs E t σ H Q := h
def tEi (t u : TE) : TE := fun σ H Q => t σ H Q ∨ u σ H Q
theorem pe_ei {e : Expr} {t u : TE} (h : PE X e t) (h' : PE X e u) : PE X e (tEi t u) := pe_or2 h h'
theorem r_eiL {t u : TE} (h : t σ H Q) : tEi t u σ H Q := .inl h
theorem r_eiR {t u : TE} (h : u σ H Q) : tEi t u σ H Q := .inr h
def rAny (K : PySem.W.Frag) (xs : List V) (H : Hp) (Q : VK) : Prop := ∃ (p : Addr) (bs : List Bool), xs = [.ref p] ∧ SqL K H p (bs.map V.bl) ∧ Q (.bl (bs.any id)) H
def rAll (K : PySem.W.Frag) (xs : List V) (H : Hp) (Q : VK) : Prop := ∃ (p : Addr) (bs : List Bool), xs = [.ref p] ∧ SqL K H p (bs.map V.bl) ∧ Q (.bl (bs.all id)) H
theorem call_anyB (hc : X.calm = true) : CallR X (.builtin "any") (rAny X.K) := call_any hc
theorem call_allB (hc : X.calm = true) : CallR X (.builtin "all") (rAll X.K) := call_all hc
theorem r_any3F {p : Addr} (hs : SqL K H p [.bl false, .bl false, .bl false]) (h : Q (.bl false) H) : rAny K [.ref p] H Q := ⟨p, [false, false, false], rfl, hs, h⟩
theorem r_any2F {p : Addr} (hs : SqL K H p [.bl false, .bl false]) (h : Q (.bl false) H) : rAny K [.ref p] H Q := ⟨p, [false, false], rfl, hs, h⟩
theorem r_allT {α : Type} {p : Addr} {l : List α} {g : α → V} (hs : SqL K H p (l.map g)) (hg : ∀ x ∈ l, g x = .bl true) (h : Q (.bl true) H) : rAll K [.ref p] H Q := by
  refine ⟨p, l.map (fun _ => true), rfl, ?_, ?_⟩
  · have e : l.map g = (l.map (fun _ => true)).map V.bl := by
      rw [List.map_map]
      exact List.map_congr_left hg
    rw [← e]; exact hs
  · rw [all_true]; exact h
theorem iteTeF {A B : Prop} (h : B) : if (true == false) = true then A else B := h
theorem iteFeT {A B : Prop} (h : B) : if (false == true) = true then A else B := h
theorem iteTeT {A B : Prop} (h : A) : if (true == true) = true then A else B := h
theorem iteFeF {A B : Prop} (h : A) : if (false == false) = true then A else B := h
theorem iteTnT {A B : Prop} (h : B) : if (true != true) = true then A else B := h
theorem iteFnF {A B : Prop} (h : B) : if (false != false) = true then A else B := h
theorem iteTnF {A B : Prop} (h : A) : if (true != false) = true then A else B := h
theorem iteFnT {A B : Prop} (h : A) : if (false != true) = true then A else B := h
theorem iteNBB {b : Bool} {A B : Prop} (h : B) : if (!(b == b)) = true then A else B := by cases b <;> exact h
theorem iteNDD {α : Type} [DecidableEq α] {x : α} {A B : Prop} (h : B) : if (!decide (x = x)) = true then A else B := by rw [decide_eq_true rfl]; exact h
theorem iteDD {α : Type} [DecidableEq α] {x : α} {A B : Prop} (h : A) : if decide (x = x) = true then A else B := by rw [decide_eq_true rfl, if_pos rfl]; exact h
end
end L2
set_option maxHeartbeats 4000000
namespace Lf
def tg (tb : List (List Int)) (i j : Nat) : Int := (tb.getD i []).getD j 0
structure TabAt (one other : List Int) (tb : List (List Int)) (i j : Nat) : Prop where
  up : 0 < i → tg tb (i - 1) j ≤ tg tb i j
  lf : 0 < j → tg tb i (j - 1) ≤ tg tb i j
  dg : 0 < i → 0 < j → one.getD (i - 1) 0 = other.getD (j - 1) 0 → tg tb (i - 1) (j - 1) < tg tb i j
structure TabOk (one other : List Int) (tb : List (List Int)) : Prop where
  len : tb.length = one.length + 1
  first : 0 ≤ tg tb 0 0
  lens : ∀ i, i ≤ one.length → (tb.getD i []).length = other.length + 1
  all : ∀ i j, i ≤ one.length → j ≤ other.length → TabAt one other tb i j
end Lf
namespace Lf
def picks (row ps : List Int) : List Int := ps.map fun p => row.getD p.toNat 0
end Lf
set_option maxHeartbeats 4000000
namespace Lf
theorem take_snoc {l : List Int} {i : Nat} (h0 : 0 < i) (h : i ≤ l.length) : l.take i = l.take (i - 1) ++ [l.getD (i - 1) 0] := by
  have e : i = (i - 1) + 1 := by omega
  conv => lhs; rw [e]
  rw [List.take_add_one]
  congr 1
  rw [List.getD_eq_getElem?_getD]
  have : i - 1 < l.length := by omega
  simp [this]
theorem tab_nonneg {one other : List Int} {tb : List (List Int)} (T : TabOk one other tb) : ∀ (n i j : Nat), i + j = n → i ≤ one.length → j ≤ other.length → 0 ≤ tg tb i j
  | 0, i, j, h, _, _ => by
    have : i = 0 := by omega
    have : j = 0 := by omega
    subst_vars
    exact T.first
  | n + 1, i, j, h, hi, hj => by
    by_cases h0 : 0 < i
    · have := (T.all i j hi hj).up h0
      have := tab_nonneg T n (i - 1) j (by omega) (by omega) hj
      omega
    · have := (T.all i j hi hj).lf (by omega)
      have := tab_nonneg T n i (j - 1) (by omega) hi (by omega)
      omega
theorem set_getD {α : Type} {l : List α} {i : Nat} {x d : α} (h : i < l.length) : (l.set i x).getD i d = x := by
  rw [List.getD_eq_getElem?_getD]
  simp [h]
end Lf
set_option maxRecDepth 100000
set_option maxHeartbeats 4000000
namespace L2
open PySem PySem.Spec PyProof.Rows
structure Tab (H : Hp) (t : Addr) (ls : List Addr) (tb : List (List Int)) : Prop where
  at_ : H t = some (.lst (ls.map V.ref))
  len : ls.length = tb.length
  row : ∀ (i : Nat) (l : Addr), ls[i]? = some l → H l = some (.lst ((tb.getD i []).map V.int))
section
variable {σ : St} {H H' : Hp} {Q : VK} {D : Ends} {K : PySem.W.Frag} {X : Cx}
theorem Tab.same {t : Addr} {ls : List Addr} {tb : List (List Int)} (T : Tab H t ls tb) (s : Same H H') : Tab H' t ls tb := ⟨s.at T.at_, T.len, fun i l h => s.at (T.row i l h)⟩
theorem r_allM {α : Type} {p : Addr} {l : List α} {g : α → Bool} (hs : SqL K H p (l.map fun x => V.bl (g x))) (h : Q (.bl (l.all g)) H) : rAll K [.ref p] H Q := by
  refine ⟨p, l.map g, rfl, ?_, ?_⟩
  · rw [List.map_map]; exact hs
  · rw [List.all_map]; exact h
theorem getD_set_eq {α : Type} {l : List α} {i : Nat} {x d : α} (h : i < l.length) : (l.set i x).getD i d = x := by
  rw [List.getD_eq_getElem?_getD]
  simp [h]
theorem getD_set_ne {α : Type} {l : List α} {i k : Nat} {x d : α} (h : i ≠ k) : (l.set i x).getD k d = l.getD k d := by
  rw [List.getD_eq_getElem?_getD, List.getD_eq_getElem?_getD]
  simp [h]
theorem nodup_at {ls : List Addr} (nd : ls.Nodup) {i k : Nat} {l l' : Addr} (hi : ls[i]? = some l) (hk : ls[k]? = some l') (h : k ≠ i) : l' ≠ l := by
  intro e
  subst e
  exact h ((List.getElem?_inj (List.getElem?_eq_some_iff.mp hk).1 nd).mp (hk.trans hi.symm))
theorem Tab.set {t l : Addr} {ls : List Addr} {tb : List (List Int)} {i : Nat} {line : List Int} (T : Tab H t ls tb) (nd : ls.Nodup) (hl : ls[i]? = some l) (tl : t ≠ l) : Tab (upd H l (.lst (line.map V.int))) t ls (tb.set i line) := by
  have hi : i < tb.length := by rw [← T.len]; exact (List.getElem?_eq_some_iff.mp hl).1
  refine ⟨upd_keepNe T.at_ tl, by rw [List.length_set]; exact T.len, fun k l' hk => ?_⟩
  by_cases e : k = i
  · subst e
    rw [hl] at hk
    cases hk
    rw [upd_same, getD_set_eq hi]
  · rw [upd_ne (nodup_at nd hl hk e), getD_set_ne (fun z => e z.symm)]
    exact T.row k l' hk
theorem r_gsub {to ti : TE} {t : TSet} {v : V} {R : St → Hp → Prop} (h : to σ H fun o H1 => ti σ H1 fun i H2 => t o i v H2 fun H3 => R σ H3) : gSub to ti t v σ H R := h
theorem cutI_neg1 (xs : List Int) : cutI xs none (some (-1)) = xs.dropLast := by
  unfold cutI
  rw [HT.sIx_none, List.drop_zero, Nat.sub_zero]
  have : HT.sIx xs.length xs.length (some (-1)) = xs.length - 1 := by
    show (if (-1 : Int) < 0 then ((-1 : Int) + (xs.length : Int)).toNat else min (-1 : Int).toNat xs.length) = _
    rw [if_pos (by decide)]
    omega
  rw [this, List.dropLast_eq_take]
theorem r_slNeg1 {a : Addr} {ns : List Int} (hs : SqL K H a (ns.map V.int)) (h : ∀ p, H p = none → Q (.ref p) (upd H p (.lst (ns.dropLast.map V.int)))) : rSlL K (.ref a) none (some (-1)) H Q := r_slI hs (by rw [cutI_neg1]; exact h)
end
end L2
namespace L2
open PySem PySem.Spec PyProof.Rows
section
variable {X : Cx} {σ : St} {H : Hp} {Q : VK}
def LR (Q : VK) (i n : Int) (H1 : Hp) : Prop := i ≤ 2 ^ 20 ∧ n ≤ 2 ^ 20 ∧ -(2 ^ 20) ≤ n ∧ -(2 ^ 20) ≤ i ∧ ∀ l, H1 l = none → Q (.ref l) (upd H1 l (.lst (((List.range (n - i).toNat).map fun k : Nat => i + (k : Int)).map V.int)))
def tLR1 (ta : TA) : TE := fun σ H Q => ta σ H fun vs H1 => ∃ j : Int, vs = [.int j] ∧ LR Q 0 j H1
def tLR2 (ta : TA) : TE := fun σ H Q => ta σ H fun vs H1 => ∃ i j : Int, vs = [.int i, .int j] ∧ LR Q i j H1
def LR1 (Q : VK) (vs : List V) (H1 : Hp) : Prop := ∃ j : Int, vs = [.int j] ∧ LR Q 0 j H1
def LR2 (Q : VK) (vs : List V) (H1 : Hp) : Prop := ∃ i j : Int, vs = [.int i, .int j] ∧ LR Q i j H1
theorem r_lr1 {ta : TA} (h : ta σ H fun vs H1 => LR1 Q vs H1) : tLR1 ta σ H Q := h
theorem r_lr2 {ta : TA} (h : ta σ H fun vs H1 => LR2 Q vs H1) : tLR2 ta σ H Q := h
end
end L2
set_option maxHeartbeats 4000000
namespace Lf
def others (row ps : List Int) : List Int := (row.zipIdx.filter fun y => !decide ((y.2 : Int) ∈ ps)).map fun y => y.1
def mixed (row one other ps : List Int) : Bool := stands row ps one && decide (others row ps = other)
structure UnAt (row one other : List Int) (ps : List (Int × Int)) (i j : Int) : Prop where
  i0 : 0 ≤ i
  i1 : i ≤ (one.length : Int)
  j0 : 0 ≤ j
  j1 : j ≤ (other.length : Int)
  nx : i < (one.length : Int) → one.getD i.toNat 0 = row.getD (i + j).toNat 0 → (i + 1, j) ∈ ps
  ny : j < (other.length : Int) → other.getD j.toNat 0 = row.getD (i + j).toNat 0 → (i, j + 1) ∈ ps
structure UnOk (row one other : List Int) (ps : List (Int × Int)) : Prop where
  len : row.length = one.length + other.length
  first : ((0, 0) : Int × Int) ∈ ps
  last : ((one.length : Int), (other.length : Int)) ∉ ps
  all : ∀ p ∈ ps, UnAt row one other ps p.1 p.2
noncomputable def unmixed (row one other : List Int) (ps : List (Int × Int)) : Bool := @decide (UnOk row one other ps) (Classical.propDecidable _)
theorem unmixed_true {row one other : List Int} {ps : List (Int × Int)} (h : UnOk row one other ps) : unmixed row one other ps = true := by
  unfold unmixed
  exact @decide_eq_true _ (Classical.propDecidable _) h
theorem unmixed_false {row one other : List Int} {ps : List (Int × Int)} (h : ¬ UnOk row one other ps) : unmixed row one other ps = false := by
  unfold unmixed
  exact @decide_eq_false _ (Classical.propDecidable _) h
theorem unmixed_iff {row one other : List Int} {ps : List (Int × Int)} : unmixed row one other ps = true ↔ UnOk row one other ps := by
  refine ⟨fun h => ?_, unmixed_true⟩
  rcases Classical.em (UnOk row one other ps) with q | q
  · exact q
  · rw [unmixed_false q] at h
    cases h
inductive Mix : List Int → List Int → List Int → Prop
  | nil : Mix [] [] []
  | left {x : Int} {r o t : List Int} : Mix r o t → Mix (x :: r) (x :: o) t
  | right {x : Int} {r o t : List Int} : Mix r o t → Mix (x :: r) o (x :: t)
theorem Mix.len {r o t : List Int} (h : Mix r o t) : r.length = o.length + t.length := by
  induction h with
  | nil => rfl
  | left _ ih => rw [List.length_cons, List.length_cons, ih]; omega
  | right _ ih => rw [List.length_cons, List.length_cons, ih]; omega
theorem Mix.swap {r o t : List Int} (h : Mix r o t) : Mix r t o := by
  induction h with
  | nil => exact .nil
  | left _ ih => exact .right ih
  | right _ ih => exact .left ih
theorem Mix.ones : ∀ o : List Int, Mix o o []
  | [] => .nil
  | x :: o => .left (Mix.ones o)
theorem Mix.others : ∀ t : List Int, Mix t [] t
  | [] => .nil
  | x :: t => .right (Mix.others t)
theorem Mix.append {r o t r' o' t' : List Int} (h : Mix r o t) (h' : Mix r' o' t') : Mix (r ++ r') (o ++ o') (t ++ t') := by
  induction h with
  | nil => exact h'
  | left _ ih => exact .left ih
  | right _ ih => exact .right ih
theorem Mix.snocL {r o t : List Int} {x : Int} (h : Mix r o t) : Mix (r ++ [x]) (o ++ [x]) t := by
  have := h.append (Mix.left (x := x) .nil)
  simpa using this
theorem Mix.snocR {r o t : List Int} {x : Int} (h : Mix r o t) : Mix (r ++ [x]) o (t ++ [x]) := by
  have := h.append (Mix.right (x := x) .nil)
  simpa using this
theorem Mix.behind (o t : List Int) : Mix (o ++ t) o t := by
  have := (Mix.ones o).append (Mix.others t)
  simpa using this
theorem Mix.ahead (o t : List Int) : Mix (t ++ o) o t := by
  have := (Mix.others t).append (Mix.ones o)
  simpa using this
theorem drop_head {l : List Int} {x : Int} {r : List Int} {i : Nat} (h : x :: r = l.drop i) : i < l.length ∧ l.getD i 0 = x ∧ r = l.drop (i + 1) := by
  have hi : i < l.length := by
    rcases Nat.lt_or_ge i l.length with q | q
    · exact q
    · rw [List.drop_of_length_le q] at h; cases h
  rw [List.drop_eq_getElem_cons hi] at h
  obtain ⟨a, b⟩ := List.cons.inj h
  refine ⟨hi, ?_, b⟩
  rw [List.getD_eq_getElem?_getD]
  simp [hi, a]
theorem un_not_mix {row one other : List Int} {ps : List (Int × Int)} (U : UnOk row one other ps) : ¬ Mix row one other := by
  have key : ∀ (r o t : List Int), Mix r o t → ∀ i j : Nat, r = row.drop (i + j) → o = one.drop i → t = other.drop j → i ≤ one.length → j ≤ other.length → ((i : Int), (j : Int)) ∈ ps → False := by
    intro r o t h
    induction h with
    | nil =>
      intro i j h1 h2 h3 hi hj hm
      have e1 : i = one.length := by
        rcases Nat.lt_or_ge i one.length with q | q
        · rw [List.drop_eq_getElem_cons q] at h2; cases h2
        · omega
      have e2 : j = other.length := by
        rcases Nat.lt_or_ge j other.length with q | q
        · rw [List.drop_eq_getElem_cons q] at h3; cases h3
        · omega
      rw [e1, e2] at hm
      exact U.last hm
    | @left x r o t _ ih =>
      intro i j h1 h2 h3 hi hj hm
      obtain ⟨a1, a2, a3⟩ := drop_head h1
      obtain ⟨b1, b2, b3⟩ := drop_head h2
      have ua := U.all _ hm
      have := ua.nx (by show (i : Int) < _; omega) (by
        show one.getD (i : Int).toNat 0 = row.getD ((i : Int) + (j : Int)).toNat 0
        have e : ((i : Int) + (j : Int)).toNat = i + j := by omega
        rw [e, Int.toNat_natCast, a2, b2])
      refine ih (i + 1) j (by rw [a3]; congr 1; omega) b3 h3 (by omega) hj ?_
      have e : ((i + 1 : Nat) : Int) = (i : Int) + 1 := by omega
      rw [e]
      exact this
    | @right x r o t _ ih =>
      intro i j h1 h2 h3 hi hj hm
      obtain ⟨a1, a2, a3⟩ := drop_head h1
      obtain ⟨b1, b2, b3⟩ := drop_head h3
      have ua := U.all _ hm
      have := ua.ny (by show (j : Int) < _; omega) (by
        show other.getD (j : Int).toNat 0 = row.getD ((i : Int) + (j : Int)).toNat 0
        have e : ((i : Int) + (j : Int)).toNat = i + j := by omega
        rw [e, Int.toNat_natCast, a2, b2])
      refine ih i (j + 1) (by rw [a3]; congr 1) h2 b3 hi (by omega) ?_
      have e : ((j + 1 : Nat) : Int) = (j : Int) + 1 := by omega
      rw [e]
      exact this
  intro h
  exact key row one other h 0 0 (by simp) (by simp) (by simp) (Nat.zero_le _) (Nat.zero_le _) U.first
theorem mixed_parts {row one other ps : List Int} (h : mixed row one other ps = true) : stands row ps one = true ∧ others row ps = other := by
  unfold mixed at h
  simpa using h
theorem mixed_more {row one other ps : List Int} (z : Int) (h : mixed row one other ps = true) : mixed row one other (ps ++ [z]) = false := by
  unfold mixed
  rw [stands_more z (mixed_parts h).1]; rfl
theorem unmixed_more {row one other : List Int} {ps : List (Int × Int)} : unmixed row one other (ps ++ [((one.length : Int), (other.length : Int))]) = false :=
  unmixed_false fun z => z.last (by simp)
end Lf
set_option maxRecDepth 100000
set_option maxHeartbeats 4000000
namespace L2
open PySem PySem.Spec PyProof.Rows
abbrev dP (p : Int × Int) : PyData := .tuple [.int p.1, .int p.2]
theorem eqv_dP (p q : Int × Int) : PyData.eqv (dP p) (dP q) = decide (p = q) := by
  obtain ⟨a, b⟩ := p
  obtain ⟨c, d⟩ := q
  rw [PyData.eqv]
  simp only [PyData.eqvAll, PyData.eqv]
  by_cases h1 : a = c <;> by_cases h2 : b = d <;> simp [h1, h2]
theorem any_dP (p : Int × Int) : ∀ ps : List (Int × Int), ((ps.map dP).any fun e => PyData.eqv e (dP p)) = decide (p ∈ ps)
  | [] => by simp
  | q :: r => by
    rw [List.map_cons, List.any_cons, any_dP p r, eqv_dP]
    by_cases h1 : q = p
    · subst h1; simp
    · have h2 : ¬ p = q := fun z => h1 z.symm
      simp [h1, h2]
theorem lay_dP : ∀ ps : List (Int × Int), PyData.canLayAll0 (ps.map dP) = true
  | [] => rfl
  | q :: r => by
    rw [List.map_cons, PyData.canLayAll0, lay_dP r]
    simp [PyData.canLay0, PyData.canLayAll0]
structure Prs (H : Hp) (p : Addr) (ts : List Addr) (ps : List (Int × Int)) : Prop where
  at_ : H p = some (.lst (ts.map V.ref))
  len : ts.length = ps.length
  row : ∀ (i : Nat) (t : Addr), ts[i]? = some t → H t = some (.tup [.int (ps.getD i (0, 0)).1, .int (ps.getD i (0, 0)).2])
section
variable {σ : St} {H H' : Hp} {Q : VK} {D : Ends} {K : PySem.W.Frag} {X : Cx}
theorem Prs.same {p : Addr} {ts : List Addr} {ps : List (Int × Int)} (T : Prs H p ts ps) (s : Same H H') : Prs H' p ts ps := ⟨s.at T.at_, T.len, fun i l h => s.at (T.row i l h)⟩
theorem rdvs_pairs : ∀ (ts : List Addr) (ps : List (Int × Int)), ts.length = ps.length → (∀ (i : Nat) (t : Addr), ts[i]? = some t → H t = some (.tup [.int (ps.getD i (0, 0)).1, .int (ps.getD i (0, 0)).2])) → RdVs K H (ts.map V.ref) (ps.map dP)
  | [], [], _, _ => .nil
  | [], _ :: _, h, _ => by simp at h
  | _ :: _, [], h, _ => by simp at h
  | t :: ts, p :: ps, h, f => .cons (.tup (SqT.of (f 0 t rfl)) (.cons (.int _) (.cons (.int _) .nil))) (rdvs_pairs ts ps (by simpa using h) fun i u e => f (i + 1) u e)
theorem Prs.rd {p : Addr} {ts : List Addr} {ps : List (Int × Int)} (T : Prs H p ts ps) : RdV K H (.ref p) (.list (ps.map dP)) := .lst (SqL.of T.at_) (rdvs_pairs ts ps T.len T.row)
def rInP (K : PySem.W.Frag) (neg : Bool) : R2 := fun x y H Q => ∃ ds d, RdV K H y (.list ds) ∧ RdV K H x d ∧ PyData.canLayAll0 ds = true ∧ PyData.canLay0 d = true ∧ PyData.depth d ≤ 8 ∧ Q (.bl (if neg = true then !(ds.any fun e => PyData.eqv e d) else ds.any fun e => PyData.eqv e d)) H
theorem op_inD (hu : X.A.units + 64 < cLine) : OpR X (compareOp .In) (rInP X.K false) := by
  intro pins s σ H x y v u Q I rx ry h
  obtain ⟨ds, d, h1, h2, h3, h4, h5, q⟩ := h
  obtain ⟨as, r1⟩ := h1.reads I ry
  obtain ⟨bs, r2⟩ := h2.reads I rx
  refine SeqAt.in_list_reads r1 r2 h3 h4 ?_ ⟨.bl _, H, I, rfl, q⟩
  have : min (PyData.depthAll ds) d.depth ≤ d.depth := Nat.min_le_right _ _
  omega
theorem op_notInD (hu : X.A.units + 64 < cLine) : OpR X (compareOp .NotIn) (rInP X.K true) := by
  intro pins s σ H x y v u Q I rx ry h
  obtain ⟨ds, d, h1, h2, h3, h4, h5, q⟩ := h
  obtain ⟨as, r1⟩ := h1.reads I ry
  obtain ⟨bs, r2⟩ := h2.reads I rx
  refine SeqAt.notIn_list_reads r1 r2 h3 h4 ?_ ⟨.bl _, H, I, rfl, q⟩
  have : min (PyData.depthAll ds) d.depth ≤ d.depth := Nat.min_le_right _ _
  omega
theorem r_inP {p t : Addr} {ts : List Addr} {ps : List (Int × Int)} {i j : Int} (ht : H t = some (.tup [.int i, .int j])) (T : Prs H p ts ps) (h : Q (.bl (decide ((i, j) ∈ ps))) H) : rInP K false (.ref t) (.ref p) H Q :=
  ⟨_, dP (i, j), T.rd, .tup (SqT.of ht) (.cons (.int _) (.cons (.int _) .nil)), lay_dP ps, by simp [PyData.canLay0, PyData.canLayAll0], by simp [PyData.depth, PyData.depthAll], by rw [if_neg (by decide), any_dP]; exact h⟩
theorem r_notInP {p t : Addr} {ts : List Addr} {ps : List (Int × Int)} {i j : Int} (ht : H t = some (.tup [.int i, .int j])) (T : Prs H p ts ps) (h : Q (.bl (!decide ((i, j) ∈ ps))) H) : rInP K true (.ref t) (.ref p) H Q :=
  ⟨_, dP (i, j), T.rd, .tup (SqT.of ht) (.cons (.int _) (.cons (.int _) .nil)), lay_dP ps, by simp [PyData.canLay0, PyData.canLayAll0], by simp [PyData.depth, PyData.depthAll], by rw [if_pos rfl, any_dP]; exact h⟩
abbrev kP (i j : Int) : List Key := [.inl i, .inl j]
theorem r_dnewT (h : ∀ p, H p = none → Q (.ref p) (upd H p (.dT []))) : tDNewT σ H Q := h
theorem r_DPt {R : Hp → Prop} {a t : Addr} {i j : Int} {v : V} {kvs : List (List Key × V)} (ha : H a = some (.dT kvs)) (ht : H t = some (.tup [.int i, .int j])) (hl : kvs.length < 1000000) (h : R (upd H a (.dT (putK kvs (kP i j) v)))) : DP R (.ref a) (.ref t) v H :=
  ⟨a, _, rfl, DPut.t (k := kP i j) ha ht (Nat.lt_of_lt_of_le hl (by decide)), h⟩
def DIn (neg : Bool) (Q : VK) (y x : V) (H2 : Hp) : Prop := ∃ a o, x = .ref a ∧ DGet H2 a y o ∧ Q (.bl (if neg = true then !o.isSome else o.isSome)) H2
theorem r_din {ty td : TE} (h : ty σ H fun y H1 => td σ H1 fun x H2 => DIn false Q y x H2) : tDIn ty td σ H Q := h
theorem r_dnotin {ty td : TE} (h : ty σ H fun y H1 => td σ H1 fun x H2 => DIn true Q y x H2) : tDNotIn ty td σ H Q := h
theorem r_DInT {neg : Bool} {a t : Addr} {i j : Int} {kvs : List (List Key × V)} (ha : H a = some (.dT kvs)) (ht : H t = some (.tup [.int i, .int j])) (h : Q (.bl (if neg = true then !(valV kvs (kP i j)).isSome else (valV kvs (kP i j)).isSome)) H) : DIn neg Q (.ref t) (.ref a) H :=
  ⟨a, _, rfl, DGet.t (k := kP i j) ha ht, h⟩
theorem r_DInK {neg : Bool} {a : Addr} {i : Int} {kvs : List (Key × V)} (ha : H a = some (.dK kvs)) (h : Q (.bl (if neg = true then !(valV kvs (.inl i)).isSome else (valV kvs (.inl i)).isSome)) H) : DIn neg Q (.int i) (.ref a) H :=
  ⟨a, _, rfl, DGet.k (k := .inl i) ha, h⟩
theorem putT_len (kvs : List (List Key × V)) (k : List Key) (v : V) : (putK kvs k v).length ≤ kvs.length + 1 := by
  unfold putK
  split
  · rw [List.length_map]; omega
  · simp
theorem kP_inj {i j i' j' : Int} : kP i j = kP i' j' ↔ (i, j) = (i', j') := by
  unfold kP
  constructor
  · intro h
    injection h with h1 h2
    injection h2 with h3 _
    rw [Sum.inl.inj h1, Sum.inl.inj h3]
  · intro h
    injection h with h1 h2
    rw [h1, h2]
theorem r_seqC {t u : TS} (R : Hp → Prop) (h : ∀ N' : St → Hp → Prop, (∀ H', R H' → N' σ H') → t { D with nx := N' } σ H) (k : ∀ H', R H' → u D σ H') : tSeq t u D σ H := h (u D) k
theorem RdV.three {a p q r : Addr} {xs ys zs : List Int} (h : SqL K H a [.ref p, .ref q, .ref r]) (h1 : SqL K H p (xs.map V.int)) (h2 : SqL K H q (ys.map V.int)) (h3 : SqL K H r (zs.map V.int)) : RdV K H (.ref a) (dL [xs, ys, zs]) := .lst h (.cons (RdV.ints h1) (.cons (RdV.ints h2) (.cons (RdV.ints h3) .nil)))
theorem r_neL3 {a b p q r p' q' r' : Addr} {xs ys zs xs' ys' zs' : List Int} (h : SqL K H a [.ref p, .ref q, .ref r]) (h1 : SqL K H p (xs.map V.int)) (h2 : SqL K H q (ys.map V.int)) (h3 : SqL K H r (zs.map V.int)) (h' : SqL K H b [.ref p', .ref q', .ref r']) (h1' : SqL K H p' (xs'.map V.int)) (h2' : SqL K H q' (ys'.map V.int)) (h3' : SqL K H r' (zs'.map V.int))
    (hq : Q (.bl (!decide ([xs, ys, zs] = [xs', ys', zs']))) H) : rNe (.ref a) (.ref b) H Q ∨ rEqD K true (.ref a) (.ref b) H Q :=
  .inr ⟨_, _, RdV.three h h1 h2 h3, RdV.three h' h1' h2' h3', shaped_dL _, shaped_dL _, by rw [if_pos rfl, eqv_dL]; exact hq⟩
theorem kit_tt {K : PySem.W.Frag} : PySem.W.kitOne K (.type "tuple") (.type "tuple") = some true := rfl
theorem r_isi_tt {a : Addr} {vs : List V} (ha : H a = some (.tup vs)) (h : Q (.bl true) H) : rIsi K [.ref a, .ty "tuple"] H Q := r_isi rfl (.tup ha) kit_tt h
theorem r_lenT {p : Addr} {ys : List V} (hs : H p = some (.tup ys)) (h : Q (.int ys.length) H) : rLenG K [.ref p] H Q := .inl ⟨p, ys, rfl, .inr (SqT.of hs), h⟩
theorem Prs.ne {p : Addr} {ts : List Addr} {ps : List (Int × Int)} (T : Prs H p ts ps) {i : Nat} {t : Addr} (h : ts[i]? = some t) : t ≠ p := fun e => by
  have := T.row i t h
  rw [e, T.at_] at this
  cases this
theorem Prs.snoc {p t : Addr} {ts : List Addr} {ps : List (Int × Int)} {i j : Int} (T : Prs H p ts ps) (ht : H t = some (.tup [.int i, .int j])) : Prs (upd H p (.lst (ts.map V.ref ++ [.ref t]))) p (ts ++ [t]) (ps ++ [(i, j)]) := by
  have tp : t ≠ p := fun e => by rw [e, T.at_] at ht; cases ht
  refine ⟨by rw [upd_same, List.map_append]; rfl, by simp [T.len], fun k u hk => ?_⟩
  have hlen := T.len
  by_cases hkl : k < ts.length
  · rw [List.getElem?_append_left hkl] at hk
    rw [upd_ne (T.ne hk)]
    have e : (ps ++ [(i, j)]).getD k (0, 0) = ps.getD k (0, 0) := by
      rw [List.getD_eq_getElem?_getD, List.getElem?_append_left (by omega), ← List.getD_eq_getElem?_getD]
    rw [e]
    exact T.row k u hk
  · have hk2 := (List.getElem?_eq_some_iff.mp hk).1
    rw [List.length_append, List.length_singleton] at hk2
    have ek : k = ts.length := by omega
    subst ek
    rw [List.getElem?_append_right (Nat.le_refl _)] at hk
    simp at hk
    subst hk
    rw [upd_ne tp]
    have e : (ps ++ [(i, j)]).getD ts.length (0, 0) = (i, j) := by
      rw [List.getD_eq_getElem?_getD, hlen, List.getElem?_append_right (Nat.le_refl _)]
      simp
    rw [e]
    exact ht
def rMax2 (xs : List V) (H : Hp) (Q : VK) : Prop := ∃ i j, xs = [.int i, .int j] ∧ Q (.int (if j > i then j else i)) H
theorem call_max2N (hc : X.calm = true) : CallR X (.builtin "max") rMax2 := call_max2 hc
theorem r_max2 {i j : Int} (h : Q (.int (max i j)) H) : rMax2 [.int i, .int j] H Q := by
  refine ⟨i, j, rfl, ?_⟩
  have e : (if j > i then j else i) = max i j := by split <;> omega
  rw [e]; exact h
theorem evens_both {α : Type} : ∀ l : List α, (evens l).length + (evens l.tail).length = l.length
  | [] => rfl
  | [x] => rfl
  | x :: y :: r => by
    have ih := evens_both r
    have e1 : evens (x :: y :: r) = x :: evens r := rfl
    have e2 : (x :: y :: r).tail = y :: r := rfl
    rw [e1, e2]
    cases r with
    | nil => rfl
    | cons z t =>
      have e3 : evens (y :: z :: t) = y :: evens t := rfl
      rw [e3]
      simp only [List.tail_cons] at ih
      simp only [List.length_cons] at ih ⊢
      omega
def Par3 (i j k : Nat) (σ : St) (D : Ends) (vs : List V) (H1 : Hp) : Prop := ∃ u v w, vs = [u, v, w] ∧ D.nx (((σ.set i (some u)).set j (some v)).set k (some w)) H1
theorem r_par3 {i j k : Nat} {ta : TA} (h : ta σ H fun vs H1 => Par3 i j k σ D vs H1) : tPar3 i j k ta D σ H := h
theorem r_Par3 {i j k : Nat} {x y z : V} (h : D.nx (((σ.set i (some x)).set j (some y)).set k (some z)) H) : Par3 i j k σ D [x, y, z] H := ⟨x, y, z, rfl, h⟩
end
end L2
set_option maxHeartbeats 4000000
namespace Lf
theorem fits_picks (row : List Int) : ∀ ps xs : List Int, ps.length = xs.length → fits row ps xs = decide (picks row ps = xs)
  | [], [], _ => rfl
  | [], _ :: _, h => by simp at h
  | _ :: _, [], h => by simp at h
  | p :: ps, x :: xs, h => by
    have ih := fits_picks row ps xs (by simpa using h)
    unfold fits at ih ⊢
    unfold picks at ih ⊢
    rw [List.zip_cons_cons, List.all_cons, ih, List.map_cons]
    by_cases e : row.getD p.toNat 0 = x
    · subst e; simp
    · simp only [decide_eq_false e, Bool.false_and, List.cons.injEq, e, false_and, decide_false]
theorem stands_picks (row ps xs : List Int) : stands row ps xs = (rising (-1) row.length ps && decide (picks row ps = xs)) := by
  by_cases h : ps.length = xs.length
  · rw [stands_eq _ _ _ h, fits_picks _ _ _ h]
  · have e : ¬ picks row ps = xs := fun z => h (by rw [← z]; unfold picks; simp)
    unfold stands
    rw [decide_eq_false h, decide_eq_false e, Bool.and_false, Bool.false_and]
end Lf
namespace Lf
theorem least_cons (m : Nat) (a : Int) (r : List Int) (hm : m ≤ r.length) : least (m + 1) (a :: r) = if ∀ y ∈ r.take (r.length - m), a ≤ y then a :: least m r else least (m + 1) r := by
  have ew : (a :: r).take ((a :: r).length - m) = a :: r.take (r.length - m) := by
    rw [List.length_cons, Nat.succ_sub hm, List.take_succ_cons]
  rw [least, ew]
  by_cases h : ∀ y ∈ r.take (r.length - m), a ≤ y
  · rw [if_pos h]
    have e : lmin (a :: r.take (r.length - m)) = a := (lmin_eq List.mem_cons_self (fun y hy => by
      rcases List.mem_cons.mp hy with q | q
      · omega
      · exact h y q)).symm
    rw [e]
    simp
  · rw [if_neg h]
    have hne : r.take (r.length - m) ≠ [] := fun e => h (by rw [e]; simp)
    have hm2 : m + 1 ≤ r.length := by
      rcases Nat.lt_or_ge m r.length with q | q
      · omega
      · exact absurd (by rw [show r.length - m = 0 by omega, List.take_zero]) hne
    have hlt : lmin (r.take (r.length - m)) < a := by
      refine Int.not_le.mp fun q => h fun y hy => ?_
      have := lmin_le _ y hy
      omega
    have e : lmin (a :: r.take (r.length - m)) = lmin (r.take (r.length - m)) := (lmin_eq (List.mem_cons_of_mem _ (lmin_mem _ hne)) (fun y hy => by
      rcases List.mem_cons.mp hy with q | q
      · omega
      · exact lmin_le _ y q)).symm
    rw [e, least]
    congr 1
    have ei : (a :: r.take (r.length - m)).idxOf (lmin (r.take (r.length - m))) = (r.take (r.length - m)).idxOf (lmin (r.take (r.length - m))) + 1 := by
      rw [List.idxOf_cons]
      have : (a == lmin (r.take (r.length - m))) = false := by
        rw [beq_eq_false_iff_ne]; omega
      rw [this]; rfl
    rw [ei, List.drop_succ_cons]
theorem least_sorted : ∀ (t : List Int) (m : Nat), t.Pairwise (· ≤ ·) → m ≤ t.length → least m t = t.take m
  | _, 0, _, _ => by simp [least]
  | [], m + 1, _, hm => by simp at hm
  | a :: t, m + 1, hs, hm => by
    obtain ⟨ha, hs⟩ := List.pairwise_cons.mp hs
    rw [least_cons _ _ _ (by simpa using hm), if_pos (fun y hy => ha y (List.mem_of_mem_take hy)), List.take_succ_cons, least_sorted t m hs (by simpa using hm)]
end Lf
namespace Lf
structure Stk (row told rest : List Int) (many spare : Nat) : Prop where
  up : spare = 0 ∨ told.Pairwise (· ≤ ·)
  len : told.length + rest.length = many + spare
  same : least many (told ++ rest) = least many row
theorem Stk.push {row told rest : List Int} {x : Int} {many spare : Nat} (S : Stk row told (x :: rest) many spare) (h : spare = 0 ∨ ∀ b, told.getLast? = some b → b ≤ x) : Stk row (told ++ [x]) rest many spare := by
  obtain ⟨h1, h2, h3⟩ := S
  refine ⟨?_, by simp at h2 ⊢; omega, by rw [List.append_assoc]; exact h3⟩
  rcases h1 with h1 | h1
  · exact .inl h1
  rcases h with h | h
  · exact .inl h
  refine .inr (List.pairwise_append.mpr ⟨h1, by simp, fun a ha y hy => ?_⟩)
  have e : y = x := by simpa using hy
  subst e
  have hne : told ≠ [] := List.ne_nil_of_mem ha
  have hb := h _ (List.getLast?_eq_some_getLast hne)
  rw [← List.dropLast_concat_getLast hne] at ha h1
  rcases List.mem_append.mp ha with q | q
  · have := (List.pairwise_append.mp h1).2.2 a q (told.getLast hne) (by simp)
    omega
  · have : a = told.getLast hne := by simpa using q
    omega
theorem Stk.done {row told : List Int} {many spare : Nat} (S : Stk row told [] many spare) : told.take many = least many row := by
  obtain ⟨h1, h2, h3⟩ := S
  rw [List.append_nil] at h3
  rw [List.length_nil] at h2
  rw [← h3]
  rcases h1 with h1 | h1
  · have e : told.length = many := by omega
    subst e
    rw [least_all, List.take_length]
  · exact (least_sorted told many h1 (by omega)).symm
end Lf
set_option maxRecDepth 100000
set_option maxHeartbeats 4000000
namespace L2
open PySem PySem.Spec PyProof.Rows
section
variable {σ : St} {H H' : Hp} {Q : VK} {D : Ends} {K : PySem.W.Frag} {X : Cx} {tg : Expr}
def Itd (hi : Int) (n : Nat) : It := ⟨fun i _ => i < n, fun i H x H' => H' = H ∧ x = .int (hi - i), fun i _ => n ≤ i⟩
def AtR3 (R : It → Hp → Prop) (vs : List V) (H1 : Hp) : Prop := ∃ i j : Int, vs = [.int i, .int j, .int (-1)] ∧ (-(2 ^ 60) ≤ i ∧ i < 2 ^ 60 ∧ -(2 ^ 60) ≤ j ∧ j < 2 ^ 60) ∧ R (Itd i (i - j).toNat) H1
def iRng3 (ta : TA) : TI := fun σ H R => ta σ H fun vs H1 => AtR3 R vs H1
theorem r_iRng3 {ta : TA} {R : It → Hp → Prop} (h : ta σ H fun vs H1 => AtR3 R vs H1) : iRng3 ta σ H R := h
theorem r_aug {i : Nat} {te : TE} {ti : TIp} {v : V} (e : σ[i]? = some (some v)) (h : te σ H fun y H1 => ti v y H1 fun z H2 => D.nx (σ.set i (some z)) H2) : tAug i te ti D σ H := ⟨v, e, h⟩
theorem r_ipI {f : Int → Int → Int} {i j : Int} (h : Q (.int (f i j)) H) : ipI f (.int i) (.int j) H Q := ⟨i, j, rfl, rfl, h⟩
theorem r_augS {to ti te : TE} {tget : V → V → Hp → VK → Prop} {tip : TIp} {tset : TSet} (h : to σ H fun o H1 => ti σ H1 fun i H2 => tget o i H2 fun x H3 => te σ H3 fun y H4 => tip x y H4 fun z H5 => tset o i z H5 fun H6 => D.nx σ H6) : tAugS to ti te tget tip tset D σ H := h
theorem r_while {c : TT} {tb : TS} (W : Nat → St → Hp → Prop) (m : Nat) (h0 : W m σ H) (hs : ∀ m σ H, W m σ H → c σ H fun b H1 => if b = true then ∃ N : St → Hp → Prop, (∀ σ' H', N σ' H' → ∃ m', m' < m ∧ W m' σ' H') ∧ tb { D with nx := N, ct := N, bk := D.nx } σ H1 else D.nx σ H1) : tWhile c tb D σ H := ⟨W, ⟨m, h0⟩, hs⟩
theorem r_turn {W : Nat → St → Hp → Prop} {m : Nat} {tb : TS} (h : tb { D with nx := fun σ' H' => ∃ m', m' < m ∧ W m' σ' H', ct := fun σ' H' => ∃ m', m' < m ∧ W m' σ' H', bk := D.nx } σ H) : ∃ N : St → Hp → Prop, (∀ σ' H', N σ' H' → ∃ m', m' < m ∧ W m' σ' H') ∧ tb { D with nx := N, ct := N, bk := D.nx } σ H := ⟨_, fun _ _ z => z, h⟩
end
end L2
set_option maxHeartbeats 4000000
namespace Lf
def bnds (one other : List Int) (tb : List (List Int)) (i j : Nat) : List Int :=
  [0] ++ (if 0 < i then [tg tb (i - 1) j] else []) ++ (if 0 < j then [tg tb i (j - 1)] else []) ++ (if 0 < i ∧ 0 < j ∧ one.getD (i - 1) 0 = other.getD (j - 1) 0 then [tg tb (i - 1) (j - 1) + 1] else [])
def lmax : List Int → Int
  | [] => 0
  | [x] => x
  | x :: y :: r => if lmax (y :: r) ≤ x then x else lmax (y :: r)
theorem lmax_le : ∀ (l : List Int), ∀ a ∈ l, a ≤ lmax l
  | [], a, h => by simp at h
  | [x], a, h => by simp at h; subst h; exact Int.le_refl _
  | x :: y :: r, a, h => by
    have ih := lmax_le (y :: r)
    rw [lmax]
    rcases List.mem_cons.mp h with e | h
    · subst e; split <;> omega
    · have := ih a h
      split <;> omega
theorem lmax_mem : ∀ (l : List Int), l ≠ [] → lmax l ∈ l
  | [], h => absurd rfl h
  | [x], _ => by simp [lmax]
  | x :: y :: r, _ => by
    have ih := lmax_mem (y :: r) (by simp)
    rw [lmax]
    split
    · simp
    · exact List.mem_cons_of_mem _ ih
def bnd (one other : List Int) (tb : List (List Int)) (i j : Nat) : Int := lmax (bnds one other tb i j)
theorem bnds_mem {one other : List Int} {tb : List (List Int)} {i j : Nat} {a : Int} : a ∈ bnds one other tb i j ↔ a = 0 ∨ (0 < i ∧ a = tg tb (i - 1) j) ∨ (0 < j ∧ a = tg tb i (j - 1)) ∨ (0 < i ∧ 0 < j ∧ one.getD (i - 1) 0 = other.getD (j - 1) 0 ∧ a = tg tb (i - 1) (j - 1) + 1) := by
  unfold bnds
  by_cases h1 : 0 < i <;> by_cases h2 : 0 < j <;> by_cases h3 : one.getD (i - 1) 0 = other.getD (j - 1) 0 <;> simp [h1, h2, h3, or_assoc]
theorem bnds_ne {one other : List Int} {tb : List (List Int)} {i j : Nat} : bnds one other tb i j ≠ [] := fun e => by
  have : (0 : Int) ∈ bnds one other tb i j := bnds_mem.mpr (.inl rfl)
  rw [e] at this
  simp at this
theorem bnd_mem {one other : List Int} {tb : List (List Int)} {i j : Nat} : bnd one other tb i j ∈ bnds one other tb i j := lmax_mem _ bnds_ne
theorem bnd_le {one other : List Int} {tb : List (List Int)} {i j : Nat} {a : Int} (h : a ∈ bnds one other tb i j) : a ≤ bnd one other tb i j := lmax_le _ a h
theorem bnd_same {one other : List Int} {tb tb' : List (List Int)} {i j : Nat} (h1 : 0 < i → tg tb (i - 1) j = tg tb' (i - 1) j) (h2 : 0 < j → tg tb i (j - 1) = tg tb' i (j - 1)) (h3 : 0 < i → 0 < j → tg tb (i - 1) (j - 1) = tg tb' (i - 1) (j - 1)) : bnd one other tb i j = bnd one other tb' i j := by
  unfold bnd
  congr 1
  unfold bnds
  by_cases q1 : 0 < i <;> by_cases q2 : 0 < j <;> simp [q1, q2]
  · simp [h1 q1, h2 q2, h3 q1 q2]
  · exact h1 q1
  · exact h2 q2
theorem tab_bnd {one other : List Int} {tb : List (List Int)} (h1 : tb.length = one.length + 1) (h2 : ∀ i, i ≤ one.length → (tb.getD i []).length = other.length + 1) :
    TabOk one other tb ↔ ∀ i j, i ≤ one.length → j ≤ other.length → bnd one other tb i j ≤ tg tb i j := by
  constructor
  · intro T i j hi hj
    rcases bnds_mem.mp (bnd_mem (one := one) (other := other) (tb := tb) (i := i) (j := j)) with q | ⟨q, e⟩ | ⟨q, e⟩ | ⟨q1, q2, q3, e⟩
    · rw [q]; exact tab_nonneg T _ i j rfl hi hj
    · rw [e]; exact (T.all i j hi hj).up q
    · rw [e]; exact (T.all i j hi hj).lf q
    · rw [e]; have := (T.all i j hi hj).dg q1 q2 q3; omega
  · intro h
    refine ⟨h1, ?_, h2, fun i j hi hj => ⟨fun q => ?_, fun q => ?_, fun q1 q2 q3 => ?_⟩⟩
    · exact Int.le_trans (bnd_le (bnds_mem.mpr (.inl rfl))) (h 0 0 (Nat.zero_le _) (Nat.zero_le _))
    · exact Int.le_trans (bnd_le (bnds_mem.mpr (.inr (.inl ⟨q, rfl⟩)))) (h i j hi hj)
    · exact Int.le_trans (bnd_le (bnds_mem.mpr (.inr (.inr (.inl ⟨q, rfl⟩))))) (h i j hi hj)
    · have := Int.le_trans (bnd_le (bnds_mem.mpr (.inr (.inr (.inr ⟨q1, q2, q3, rfl⟩))))) (h i j hi hj)
      omega
structure LT (one other : List Int) (tb : List (List Int)) : Prop where
  len : tb.length = one.length + 1
  lens : ∀ i, i ≤ one.length → (tb.getD i []).length = other.length + 1
  eq : ∀ i j, i ≤ one.length → j ≤ other.length → tg tb i j = bnd one other tb i j
theorem LT.ok {one other : List Int} {tb : List (List Int)} (L : LT one other tb) : TabOk one other tb := (tab_bnd L.len L.lens).mpr fun i j hi hj => Int.le_of_eq (L.eq i j hi hj).symm
theorem LT.zero {one other : List Int} {tb : List (List Int)} (L : LT one other tb) : ∀ (n i j : Nat), i + j = n → i ≤ one.length → j ≤ other.length → (i = 0 ∨ j = 0) → tg tb i j = 0
  | 0, i, j, hn, hi, hj, h => by
    have e1 : i = 0 := by omega
    have e2 : j = 0 := by omega
    subst e1; subst e2
    rw [L.eq 0 0 hi hj]
    rcases bnds_mem.mp (bnd_mem (one := one) (other := other) (tb := tb) (i := 0) (j := 0)) with q | ⟨q, e⟩ | ⟨q, e⟩ | ⟨q1, q2, q3, e⟩ <;> omega
  | n + 1, i, j, hn, hi, hj, h => by
    rw [L.eq i j hi hj]
    rcases bnds_mem.mp (bnd_mem (one := one) (other := other) (tb := tb) (i := i) (j := j)) with q | ⟨q, e⟩ | ⟨q, e⟩ | ⟨q1, q2, q3, e⟩
    · exact q
    · rw [e]; exact L.zero n (i - 1) j (by omega) (by omega) hj (by omega)
    · rw [e]; exact L.zero n i (j - 1) (by omega) hi (by omega) (by omega)
    · omega
theorem LT.pos {one other : List Int} {tb : List (List Int)} (L : LT one other tb) {i j : Nat} (hi : i ≤ one.length) (hj : j ≤ other.length) (h : 0 < tg tb i j) : 0 < i ∧ 0 < j := by
  constructor
  · rcases Nat.eq_zero_or_pos i with q | q
    · have := L.zero _ i j rfl hi hj (.inl q); omega
    · exact q
  · rcases Nat.eq_zero_or_pos j with q | q
    · have := L.zero _ i j rfl hi hj (.inr q); omega
    · exact q
structure AP (one other : List Int) (a b : Int) (ps : List (Int × Int)) : Prop where
  mine : rising a one.length (ps.map (·.1)) = true
  theirs : rising b other.length (ps.map (·.2)) = true
  alike : ∀ p ∈ ps, one.getD p.1.toNat 0 = other.getD p.2.toNat 0
theorem rising_low : ∀ (ps : List Int) (a a' c : Int), a' ≤ a → rising a c ps = true → rising a' c ps = true
  | [], _, _, _, _, _ => rfl
  | p :: ps, a, a', c, h, e => by
    rw [rising] at e ⊢
    simp only [Bool.and_eq_true, decide_eq_true_eq] at e ⊢
    exact ⟨⟨by omega, e.1.2⟩, e.2⟩
theorem AP.cons {one other : List Int} {ps : List (Int × Int)} {x y a b : Int} (A : AP one other x y ps) (h1 : a < x) (h2 : b < y) (h3 : x < one.length) (h4 : y < other.length) (h : one.getD x.toNat 0 = other.getD y.toNat 0) : AP one other a b ((x, y) :: ps) := by
  refine ⟨?_, ?_, fun p hp => ?_⟩
  · rw [List.map_cons, rising, decide_eq_true h1, decide_eq_true h3]
    exact A.mine
  · rw [List.map_cons, rising, decide_eq_true h2, decide_eq_true h4]
    exact A.theirs
  · rcases List.mem_cons.mp hp with e | e
    · subst e; exact h
    · exact A.alike p e
structure LTp (one other : List Int) (tb : List (List Int)) (i j : Nat) : Prop where
  len : tb.length = i + 1
  lens : ∀ k, k < i → (tb.getD k []).length = other.length + 1
  last : (tb.getD i []).length = j
  eq : ∀ k l, k ≤ i → (k < i → l ≤ other.length) → (k = i → l < j) → tg tb k l = bnd one other tb k l
theorem tg_set {tb : List (List Int)} {i k l : Nat} {line : List Int} (hi : i < tb.length) : tg (tb.set i line) k l = if k = i then line.getD l 0 else tg tb k l := by
  unfold tg
  by_cases h : k = i
  · subst h
    rw [if_pos rfl, set_getD hi]
  · rw [if_neg h]
    congr 1
    rw [List.getD_eq_getElem?_getD, List.getElem?_set_ne (fun z => h z.symm), ← List.getD_eq_getElem?_getD]
theorem getD_app {l : List Int} {v : Int} {k : Nat} : (l ++ [v]).getD k 0 = if k = l.length then v else l.getD k 0 := by
  by_cases h : k = l.length
  · subst h; rw [if_pos rfl]; simp
  · rw [if_neg h]
    rcases Nat.lt_or_ge k l.length with q | q
    · rw [List.getD_eq_getElem?_getD, List.getElem?_append_left q, ← List.getD_eq_getElem?_getD]
    · rw [List.getD_eq_getElem?_getD, List.getD_eq_getElem?_getD, List.getElem?_eq_none (by simp; omega), List.getElem?_eq_none q]
theorem LTp.step {one other : List Int} {tb : List (List Int)} {i j : Nat} (L : LTp one other tb i j) (hj : j ≤ other.length) : LTp one other (tb.set i (tb.getD i [] ++ [bnd one other tb i j])) i (j + 1) := by
  have hi : i < tb.length := by have := L.len; omega
  have e : ∀ k l, (k = i → l < j) → tg (tb.set i (tb.getD i [] ++ [bnd one other tb i j])) k l = tg tb k l := fun k l h => by
    rw [tg_set hi]
    by_cases q : k = i
    · rw [if_pos q, getD_app, if_neg (by have := h q; have := L.last; omega)]
      subst q; rfl
    · rw [if_neg q]
  refine ⟨by rw [List.length_set]; exact L.len, fun k hk => ?_, ?_, fun k l hk h1 h2 => ?_⟩
  · rw [List.getD_eq_getElem?_getD, List.getElem?_set_ne (by omega), ← List.getD_eq_getElem?_getD]
    exact L.lens k hk
  · rw [set_getD hi, List.length_append, L.last]; rfl
  · have eb : bnd one other (tb.set i (tb.getD i [] ++ [bnd one other tb i j])) k l = bnd one other tb k l := bnd_same (fun q => e _ _ (by omega)) (fun q => e _ _ (by omega)) (fun q q' => e _ _ (by omega))
    rw [eb]
    by_cases q : k = i ∧ l = j
    · obtain ⟨rfl, rfl⟩ := q
      rw [tg_set hi, if_pos rfl, getD_app, if_pos L.last.symm]
    · have h3 : k = i → l < j := fun z => by have := h2 z; omega
      rw [e k l h3]
      exact L.eq k l hk h1 h3
theorem LTp.line {one other : List Int} {tb : List (List Int)} {i : Nat} (L : LTp one other tb i (other.length + 1)) : LTp one other (tb ++ [[]]) (i + 1) 0 := by
  have g : ∀ k, k < tb.length → (tb ++ [[]]).getD k [] = tb.getD k [] := fun k hk => by
    rw [List.getD_eq_getElem?_getD, List.getElem?_append_left hk, ← List.getD_eq_getElem?_getD]
  have e : ∀ k l, k ≤ i → tg (tb ++ [[]]) k l = tg tb k l := fun k l hk => by
    unfold tg
    rw [g k (by have := L.len; omega)]
  refine ⟨by rw [List.length_append, L.len]; rfl, fun k hk => ?_, ?_, fun k l hk h1 h2 => ?_⟩
  · rw [g k (by have := L.len; omega)]
    rcases Nat.lt_or_ge k i with q | q
    · exact L.lens k q
    · have : k = i := by omega
      subst this
      exact L.last
  · rw [List.getD_eq_getElem?_getD, List.getElem?_append_right (by have := L.len; omega), L.len]
    simp
  · have hk' : k ≤ i := by
      rcases Nat.lt_or_ge k (i + 1) with q | q
      · omega
      · have := h2 (by omega); omega
    have eb : bnd one other (tb ++ [[]]) k l = bnd one other tb k l := bnd_same (fun q => e _ _ (by omega)) (fun q => e _ _ (by omega)) (fun q q' => e _ _ (by omega))
    rw [eb, e k l hk']
    exact L.eq k l hk' (fun q => h1 (by omega)) fun q => by have := h1 (by omega); omega
theorem LTp.start (one other : List Int) : LTp one other [[]] 0 0 := ⟨rfl, fun k hk => by omega, rfl, fun k l hk h1 h2 => by have := h2 (by omega); omega⟩
theorem LTp.done {one other : List Int} {tb : List (List Int)} (L : LTp one other tb one.length (other.length + 1)) : LT one other tb := by
  refine ⟨L.len, fun i hi => ?_, fun i j hi hj => L.eq i j hi (fun _ => hj) fun _ => by omega⟩
  rcases Nat.lt_or_ge i one.length with q | q
  · exact L.lens i q
  · have : i = one.length := by omega
    subst this
    exact L.last
end Lf
set_option maxHeartbeats 4000000
namespace Lf
theorem rising_more : ∀ (ps : List Int) (a c c' : Int), c ≤ c' → rising a c ps = true → rising a c' ps = true
  | [], _, _, _, _, _ => rfl
  | p :: ps, a, c, c', h, e => by
    rw [rising] at e ⊢
    simp only [Bool.and_eq_true, decide_eq_true_eq] at e ⊢
    exact ⟨⟨e.1.1, by omega⟩, rising_more ps p c c' h e.2⟩
theorem rising_snoc : ∀ (ps : List Int) (a c x : Int), rising a c ps = true → a < x → (∀ p ∈ ps, p < x) → x < c → rising a c (ps ++ [x]) = true
  | [], a, c, x, _, h1, _, h2 => by
    rw [List.nil_append, rising, decide_eq_true h1, decide_eq_true h2]; rfl
  | p :: ps, a, c, x, e, h1, h3, h2 => by
    rw [List.cons_append, rising] at *
    simp only [Bool.and_eq_true, decide_eq_true_eq] at e ⊢
    exact ⟨e.1, rising_snoc ps p c x e.2 (h3 p List.mem_cons_self) (fun q hq => h3 q (List.mem_cons_of_mem _ hq)) h2⟩
def upTo (r k : Nat) : List Int := (List.range k).map fun i : Nat => (r : Int) + i
theorem upTo_len (r k : Nat) : (upTo r k).length = k := by unfold upTo; simp
theorem upTo_succ (r k : Nat) : upTo r (k + 1) = upTo r k ++ [(r : Int) + k] := by
  unfold upTo; rw [List.range_succ, List.map_append]; rfl
theorem upTo_mem {r k : Nat} {p : Int} (h : p ∈ upTo r k) : (r : Int) ≤ p ∧ p < (r : Int) + k := by
  unfold upTo at h
  obtain ⟨i, hi, rfl⟩ := List.mem_map.mp h
  have := List.mem_range.mp hi
  omega
theorem rising_upTo (ps : List Int) (r : Nat) (h : rising (-1) r ps = true) : ∀ k : Nat, rising (-1) ((r : Int) + k) (ps ++ upTo r k) = true
  | 0 => by
    have : upTo r 0 = [] := rfl
    rw [this, List.append_nil]
    exact rising_more _ _ _ _ (by omega) h
  | k + 1 => by
    rw [upTo_succ, ← List.append_assoc]
    refine rising_snoc _ _ _ _ (rising_more _ _ _ _ (by omega) (rising_upTo ps r h k)) (by omega) (fun p hp => ?_) (by omega)
    rcases List.mem_append.mp hp with q | q
    · have := rising_in _ _ _ h p q; omega
    · have := upTo_mem q; omega
theorem picks_app {row seg ps : List Int} (h : ∀ p ∈ ps, 0 ≤ p ∧ p < (row.length : Int)) : picks (row ++ seg) ps = picks row ps := by
  unfold picks
  refine List.map_congr_left fun p hp => ?_
  have := h p hp
  rw [List.getD_eq_getElem?_getD, List.getElem?_append_left (by omega), ← List.getD_eq_getElem?_getD]
theorem picks_upTo (row seg : List Int) : picks (row ++ seg) (upTo row.length seg.length) = seg := by
  unfold picks upTo
  rw [List.map_map]
  refine List.ext_getElem (by simp) fun i h1 h2 => ?_
  rw [List.getElem_map, List.getElem_range]
  show (row ++ seg).getD ((row.length : Int) + (i : Int)).toNat 0 = seg[i]
  rw [show ((row.length : Int) + (i : Int)).toNat = row.length + i by omega, List.getD_eq_getElem?_getD, List.getElem?_append_right (by omega), Nat.add_sub_cancel_left, List.getElem?_eq_getElem h2]
  rfl
theorem picks_append (row ps qs : List Int) : picks row (ps ++ qs) = picks row ps ++ picks row qs := by unfold picks; rw [List.map_append]
structure Sh (one other row mine theirs : List Int) (m n c : Nat) : Prop where
  lm : mine.length = m
  ln : theirs.length = n
  rm : rising (-1) row.length mine = true
  rn : rising (-1) row.length theirs = true
  pm : picks row mine = one.take m
  pn : picks row theirs = other.take n
  len : row.length + c = m + n
theorem seg_len {l : List Int} {m m' : Nat} (h1 : m ≤ m') (h2 : m' ≤ l.length) : ((l.drop m).take (m' - m)).length = m' - m := by
  rw [List.length_take, List.length_drop]; omega
theorem take_seg {l : List Int} {m m' : Nat} (h1 : m ≤ m') : l.take m ++ (l.drop m).take (m' - m) = l.take m' := by
  have := List.take_add (l := l) (i := m) (j := m' - m)
  rw [show m + (m' - m) = m' by omega] at this
  exact this.symm
theorem Sh.mine {one other row mine theirs : List Int} {m n c m' : Nat} (S : Sh one other row mine theirs m n c) (h1 : m ≤ m') (h2 : m' ≤ one.length) : Sh one other (row ++ (one.drop m).take (m' - m)) (mine ++ upTo row.length (m' - m)) theirs m' n c := by
  have sl := seg_len h1 h2
  have inm : ∀ p ∈ mine, 0 ≤ p ∧ p < (row.length : Int) := fun p hp => by have := rising_in _ _ _ S.rm p hp; omega
  have inn : ∀ p ∈ theirs, 0 ≤ p ∧ p < (row.length : Int) := fun p hp => by have := rising_in _ _ _ S.rn p hp; omega
  have rl : (((row ++ (one.drop m).take (m' - m)).length : Nat) : Int) = (row.length : Int) + ((m' - m : Nat) : Int) := by rw [List.length_append, sl]; omega
  refine ⟨by rw [List.length_append, S.lm, upTo_len]; omega, S.ln, ?_, ?_, ?_, ?_, ?_⟩
  · rw [rl]; exact rising_upTo _ _ S.rm _
  · rw [rl]; exact rising_more _ _ _ _ (by omega) S.rn
  · rw [picks_append, picks_app inm, S.pm]
    conv => lhs; rw [← sl]
    rw [sl]
    have := picks_upTo row ((one.drop m).take (m' - m))
    rw [sl] at this
    rw [this, take_seg h1]
  · rw [picks_app inn, S.pn]
  · rw [List.length_append, sl]; have := S.len; omega
theorem Sh.theirs {one other row mine theirs : List Int} {m n c n' : Nat} (S : Sh one other row mine theirs m n c) (h1 : n ≤ n') (h2 : n' ≤ other.length) : Sh one other (row ++ (other.drop n).take (n' - n)) mine (theirs ++ upTo row.length (n' - n)) m n' c := by
  have S' : Sh other one row theirs mine n m c := ⟨S.ln, S.lm, S.rn, S.rm, S.pn, S.pm, by have := S.len; omega⟩
  have T := S'.mine h1 h2
  exact ⟨T.ln, T.lm, T.rn, T.rm, T.pn, T.pm, by have := T.len; omega⟩
theorem Sh.pair {one other row mine theirs : List Int} {i j c : Nat} {m : Nat} (S : Sh one other row mine theirs m j c) (h1 : m ≤ i) (h2 : i < one.length) (h3 : j < other.length) (h : one.getD i 0 = other.getD j 0) :
    Sh one other (row ++ (one.drop m).take (i + 1 - m)) (mine ++ upTo row.length (i + 1 - m)) (theirs ++ [((row.length + (i - m) : Nat) : Int)]) (i + 1) (j + 1) (c + 1) := by
  have T := S.mine (m' := i + 1) (by omega) (by omega)
  have sl := seg_len (l := one) (m := m) (m' := i + 1) (by omega) (by omega)
  have inn : ∀ p ∈ theirs, 0 ≤ p ∧ p < (row.length : Int) := fun p hp => by have := rising_in _ _ _ S.rn p hp; omega
  refine ⟨T.lm, by rw [List.length_append, T.ln]; rfl, T.rm, ?_, T.pm, ?_, by have := T.len; omega⟩
  · refine rising_snoc _ _ _ _ T.rn (by omega) (fun p hp => ?_) ?_
    · have := inn p hp; omega
    · rw [List.length_append, sl]; omega
  · rw [picks_append, T.pn]
    have : picks (row ++ (one.drop m).take (i + 1 - m)) [((row.length + (i - m) : Nat) : Int)] = [other.getD j 0] := by
      unfold picks
      rw [List.map_singleton, Int.toNat_natCast, List.getD_eq_getElem?_getD, List.getElem?_append_right (by omega), Nat.add_sub_cancel_left, List.getElem?_take_of_lt (by omega), List.getElem?_drop, show m + (i - m) = i by omega, ← List.getD_eq_getElem?_getD, h]
    rw [this]
    have := List.take_succ_eq_append_getElem h3
    rw [this, List.getD_eq_getElem?_getD, List.getElem?_eq_getElem h3]
    rfl
theorem Sh.start (one other : List Int) : Sh one other [] [] [] 0 0 0 := ⟨rfl, rfl, rfl, rfl, by simp [picks], by simp [picks], rfl⟩
end Lf
set_option maxRecDepth 100000
set_option maxHeartbeats 4000000
namespace L2
open PySem PySem.Spec PyProof.Rows
theorem comp_new {α : Type} {J : It} {l : List α} {kp : Hp → Prop} {rep : α → V → Hp → Hp → Prop} (O : Ov J l kp rep) {g : TG} {ti : TT} {te : TE} {k : Nat} {caps : List Nat} {σ : St} {H1 : Hp} {Q : VK}
    (o : α → HO) (hk : ∀ H, Same H1 H → kp H) (hl : l.length ≤ 1000000)
    (turn : ∀ (i : Nat) y x H3 H4 (R : V → Hp → Prop) (R' : Hp → Prop), l[i]? = some y → Same H1 H3 → rep y x H3 H4 → (∀ a H7, Same H3 H7 → H3 a = none → H7 a = some (o y) → R (.ref a) H7) →
      g x (inner k caps σ) H4 fun σ4 H5 => (σ4.length = (inner k caps σ).length ∧ σ4.drop k = (inner k caps σ).drop k) ∧ ti σ4 H5 fun b H6 => if b = true then te σ4 H6 R else R' H6)
    (fin : ∀ (D : Addr) (H' : Hp) (ls : List Addr), H1 D = none → Same H1 H' → H' D = some (.lst (ls.map V.ref)) → ls.length = l.length → ls.Nodup → D ∉ ls → (∀ a ∈ ls, H1 a = none) → (∀ (i : Nat) a, ls[i]? = some a → ∃ y, l[i]? = some y ∧ H' a = some (o y)) → Q (.ref D) H') :
    CompBody J g ti te k caps σ Q H1 := by
  intro D hD
  refine ⟨fun i m ys H => m = l.length - i ∧ i ≤ l.length ∧ Same H1 H ∧ H D = some (.lst ys) ∧ ∃ ls : List Addr, ys = ls.map V.ref ∧ ls.length = i ∧ ls.Nodup ∧ D ∉ ls ∧ (∀ a ∈ ls, H1 a = none) ∧ (∀ (i : Nat) a, ls[i]? = some a → ∃ y, l[i]? = some y ∧ H a = some (o y)), ⟨l.length, by simp, Nat.zero_le _, Same.upd_new hD, upd_same, [], rfl, rfl, .nil, by simp, by simp, by simp⟩, ?_⟩
  rintro i m ys H2 ⟨rfl, hi, s2, d2, ls, rfl, ll, nd, nD, fr, at'⟩
  refine ⟨d2, ?_⟩
  by_cases hlt : i < l.length
  · refine .inr ⟨O.go i H2 (hk _ s2) hlt, by rw [List.length_map, ll]; exact Nat.lt_of_lt_of_le (Nat.lt_of_lt_of_le hlt hl) (by decide), fun x H3 y3 => ?_⟩
    have e : l[i]? = some l[i] := by simp [hlt]
    refine turn i _ x H2 H3 _ _ e s2 (O.yld i H2 x H3 _ (hk _ s2) e y3) (fun a H7 s7 ha2 ha7 => ?_)
    have aD : a ≠ D := fun z => by rw [z, d2] at ha2; cases ha2
    have als : a ∉ ls := fun z => by
      obtain ⟨n, hn⟩ := List.getElem?_of_mem z
      obtain ⟨y, _, q⟩ := at' n a hn
      rw [ha2] at q; cases q
    refine ⟨s7 _ _ d2, l.length - (i + 1), by omega, rfl, hlt, ?_, upd_same, ls ++ [a], by rw [List.map_append]; rfl, by rw [List.length_append, ll]; rfl, ?_, ?_, ?_, ?_⟩
    · intro b u eb
      rw [upd_ne (ne_of_none eb hD)]
      exact s7 _ _ (s2 _ _ eb)
    · rw [List.nodup_append]
      refine ⟨nd, by simp, fun x hx y hy => ?_⟩
      have : y = a := by simpa using hy
      subst this
      exact fun z => als (z ▸ hx)
    · intro z
      rcases List.mem_append.mp z with q | q
      · exact nD q
      · have e : D = a := by simpa using q
        exact aD e.symm
    · intro b hb
      rcases List.mem_append.mp hb with q | q
      · exact fr b q
      · have : b = a := by simpa using q
        subst this
        exact s2.free ha2
    · intro n b hb
      rcases Nat.lt_or_ge n ls.length with q | q
      · rw [List.getElem?_append_left q] at hb
        obtain ⟨y, h1, h2⟩ := at' n b hb
        refine ⟨y, h1, ?_⟩
        rw [upd_ne (fun z : b = D => nD (by rw [← z]; exact List.mem_of_getElem? hb))]
        exact s7 _ _ h2
      · have hn : n = ls.length := by
          have := (List.getElem?_eq_some_iff.mp hb).1
          rw [List.length_append, List.length_singleton] at this
          omega
        subst hn
        rw [List.getElem?_append_right (Nat.le_refl _), Nat.sub_self] at hb
        have : b = a := by simpa using hb.symm
        subst this
        refine ⟨l[i], by rw [ll]; exact e, ?_⟩
        rw [upd_ne aD]
        exact ha7
  · have e : i = l.length := by omega
    subst e
    exact .inl ⟨O.stop _ H2 (hk _ s2) (Nat.le_refl _), fin D H2 ls hD s2 d2 ll nd nD fr at'⟩
section
variable {σ : St} {H H' : Hp} {Q : VK} {D : Ends} {K : PySem.W.Frag} {X : Cx}
theorem r_cutR {t : TE} (R : V → Hp → Prop) (h : ∀ Q' : VK, (∀ v H', R v H' → Q' v H') → t σ H Q') (k : ∀ v H', R v H' → Q v H') : t σ H Q := h Q k
theorem Tab.snoc {t l : Addr} {ls : List Addr} {tb : List (List Int)} {line : List Int} (T : Tab H t ls tb) (hl : H l = some (.lst (line.map V.int))) (tl : t ≠ l) (tls : t ∉ ls) : Tab (upd H t (.lst (ls.map V.ref ++ [.ref l]))) t (ls ++ [l]) (tb ++ [line]) := by
  refine ⟨by rw [upd_same, List.map_append]; rfl, by rw [List.length_append, List.length_append, T.len]; rfl, fun i a ha => ?_⟩
  rcases Nat.lt_or_ge i ls.length with q | q
  · rw [List.getElem?_append_left q] at ha
    have at' : a ≠ t := fun z => tls (z ▸ List.mem_of_getElem? ha)
    have i2 : i < tb.length := by rw [← T.len]; exact q
    rw [upd_ne at', List.getD_eq_getElem?_getD, List.getElem?_append_left i2, ← List.getD_eq_getElem?_getD]
    exact T.row i a ha
  · have hn : i = ls.length := by
      have := (List.getElem?_eq_some_iff.mp ha).1
      rw [List.length_append, List.length_singleton] at this
      omega
    subst hn
    rw [List.getElem?_append_right (Nat.le_refl _), Nat.sub_self] at ha
    have : a = l := by simpa using ha.symm
    subst this
    rw [upd_ne (Ne.symm tl), List.getD_eq_getElem?_getD, T.len, List.getElem?_append_right (Nat.le_refl _), Nat.sub_self]
    exact hl
theorem r_appV {l : Addr} {xs : List V} {v : V} (hl : H l = some (.lst xs)) (hz : xs.length < 1000000) (h : Q .non (upd H l (.lst (xs ++ [v])))) : rAppend (.ref l) [v] H Q := ⟨l, xs, v, rfl, rfl, hl, Nat.lt_of_lt_of_le hz (by decide), h⟩
end
end L2
namespace L2
open PySem PySem.Spec PyProof.Rows
section
variable {σ : St} {H H' : Hp} {Q : VK} {D : Ends} {K : PySem.W.Frag} {X : Cx}
theorem r_revV {l : Addr} {xs : List V} (hl : H l = some (.lst xs)) (h : Q .non (upd H l (.lst xs.reverse))) : rReverse (.ref l) [] H Q := ⟨l, xs, rfl, rfl, hl, h⟩
end
end L2
namespace L2
open PySem PySem.Spec PyProof.Rows
section
variable {σ : St} {H H' : Hp} {Q : VK} {D : Ends} {K : PySem.W.Frag} {X : Cx}
theorem ov_prs {p : Addr} {ts : List Addr} {ps : List (Int × Int)} (hl : ts.length = ps.length) : Ov (Itl K p) (ts.zip ps) (fun H => Prs H p ts ps) (fun y x H H' => x = .ref y.1 ∧ H' = H ∧ H y.1 = some (.tup [.int y.2.1, .int y.2.2])) where
  go := fun i H h hi => by
    rw [List.length_zip] at hi
    have : i < ts.length := by omega
    exact ⟨_, .ref ts[i], SqL.of h.at_, by rw [List.getElem?_map]; simp [this]⟩
  stop := fun i H h hi => by
    rw [List.length_zip, ← hl, Nat.min_self] at hi
    exact ⟨_, SqL.of h.at_, by rw [List.length_map]; exact hi⟩
  yld := fun i H x H' y h hy ⟨e, q⟩ => by
    have q := q _ (SqL.of h.at_)
    obtain ⟨h1, h2⟩ := List.getElem?_eq_some_iff.mp hy
    rw [List.length_zip] at h1
    have i1 : i < ts.length := by omega
    have i2 : i < ps.length := by omega
    rw [List.getElem_zip] at h2
    subst h2
    rw [List.getElem?_map, List.getElem?_eq_getElem i1] at q
    refine ⟨(Option.some.inj q).symm, e, ?_⟩
    have r := h.row i ts[i] (by simp [i1])
    rw [List.getD_eq_getElem?_getD, List.getElem?_eq_getElem i2] at r
    exact r
end
end L2
set_option maxRecDepth 100000
set_option maxHeartbeats 4000000
namespace PySem
open Sem (wp)
section
variable {prog : Program} {w : World} {A : Around} {E : Value → Shared → Prop} {s : Shared}
theorem dl_keys_miss : typeLookup (.type "list") "keys" = pure none := am_miss_of_fast (by decide +kernel)
theorem dl_noKeys {a : Addr} {o : Obj} {xs : Array Value} {k : Nat} {Q : Option Value → Shared → Prop} (hx : s.heap.get? a = some o) (hc : o.cls = .type "list") (hdat : o.data = .seq xs k) (hd : o.dict = none) (hA : A.handled = none)
    (h : ∀ h' tk, (∀ b ob, s.heap.get? b = some ob → h'.get? b = some ob) → Q none { s with heap := h', toks := tk }) : wpAny (model prog w) A (getAttr? (.ref a) "keys") Q E s := by
  obtain ⟨c, dct, dat, sl⟩ := o
  simp only at hc hdat hd
  subst hc hdat hd
  obtain ⟨hp, g, d, tk, os⟩ := s
  have hT : ∀ tk', (⟨hp, g, d, tk', os⟩ : Shared).TypeIs (.ref a) "list" := fun _ => ⟨_, hx, rfl⟩
  have f1 := sub_AttributeError
  have f3 := F.slot_list_getattribute.lookup
  have f4 := F.slot_list_getattribute.bind (.ref a)
  have f5 := am_list_getattr_none
  unfold getAttr? getAttrBy? getAttrBy
  repeat (any_goals (first | assumption | exact hT _ | ((with_reducible show wpAny _ _ (call (Value.builtin "list.__getattribute__") _ _) _ _ _); refine call_meets F.slot_list_getattribute (hT _) am_entry_list_getattribute (F.args_list_getattribute_2 _ _) (meets_getattribute_miss_list a xs k sl "keys" _ dl_keys_miss (by decide +kernel) (by decide +kernel)) ⟨hx, hA, fun h' tk' e hx' => ?_⟩) | wp_step))
  obtain ⟨t', u', he⟩ := hx'.there
  show wpAny _ _ (getattributeRaised _ _ _ _ _ _ _) _ _ _
  unfold getattributeRaised
  repeat (any_goals (first | assumption | wp_step))
  exact h _ _ hx'.keeps
theorem dl_entry_loop : entryFor table "dict.update.loop" = some Builtin.«dict.update.loop» := entryFor_of_tree (by kernel_rfl)
theorem dl_plain_loop : plainId "dict.update.loop" = true := by decide +kernel
theorem dl_loop {R : Result → Shared → Prop} {I : Addr} {fp wr : List Addr} {G : Array GenState → Array GenState → Prop} {n : Nat} {It : Nat → Value → Prop} {St : Nat → Shared → Prop}
    (W : WalksS prog w A.in1 I fp wr G n It St) (d : Addr) (hd : d ∉ fp) (J : Nat → Heap → Prop) (keep : ∀ i h h', J i h → (∀ b o, b ∉ wr → h.get? b = some o → h'.get? b = some o) → J i h')
    (pair : ∀ i v (s : Shared), i < n → It i v → J i s.heap → ∃ k x : Value, (∀ (Q' : List Value → Shared → Prop) (E' : Value → Shared → Prop), Q' [k, x] s → wpAny (model prog w) A.in1 (Builtin.Dict.pairItems v) Q' E' s) ∧
      ∀ (Q' : Unit → Shared → Prop) (E' : Value → Shared → Prop), (∀ h' tk, J (i + 1) h' → (∀ b o, b ≠ d → s.heap.get? b = some o → h'.get? b = some o) → s.toks ≤ tk → Q' () { s with heap := h', toks := tk }) → wpAny (model prog w) A.in1 (dictSet d k x) Q' E' s) :
    ∀ (m i : Nat) (s : Shared), n - i = m → i ≤ n → St i s → J i s.heap →
      (∀ s', Moved (d :: wr) G s s' → J n s'.heap → R (.ok (.ret .none)) s') →
      codeAny (model prog w) A (.builtin "dict.update.loop" ⟨[.ref d, .ref I, rawInt i, .none], []⟩) R s := by
  have dw : d ∉ wr := fun z => hd (W.sub _ z)
  have sb : ∀ b ∈ wr, b ∈ d :: wr := fun b z => List.mem_cons_of_mem _ z
  intro m
  induction m with
  | zero =>
    intro i s hm hi st k fin
    obtain rfl : i = n := by omega
    refine codeAny_builtin dl_entry_loop ?_
    rw [Around.under_plainId dl_plain_loop _]
    show wpAny _ A.in1 (pyNext (.ref I) >>= _) _ _ s
    refine wpAny_bind (W.done s _ _ st fun s' mv => ?_)
    show wpAny _ A.in1 (Builtin.Dict.addKeywords d [] >>= _) _ _ s'
    refine wpAny_bind ?_
    refine wpAny_pure ?_
    exact wpAny_pure (fin s' (mv.mono sb) (keep _ _ _ k fun b o hb e => mv.heap b o hb e))
  | succ m ih =>
    intro i s hm hi st k fin
    have hlt : i < n := by omega
    refine codeAny_builtin dl_entry_loop ?_
    rw [Around.under_plainId dl_plain_loop _]
    show wpAny _ A.in1 (pyNext (.ref I) >>= _) _ _ s
    refine wpAny_bind (W.item i s _ _ hlt st fun v s' hP st' mv => ?_)
    have k' : J i s'.heap := keep _ _ _ k fun b o hb e => mv.heap b o hb e
    obtain ⟨kk, x, hpi, hset⟩ := pair i v s' hlt hP k'
    show wpAny _ A.in1 (holding [v] _ >>= _) _ _ s'
    refine wpAny_bind (wpAny_holding ?_)
    refine wpAny_bind ?_
    refine wpAny_tryCatch (hpi _ _ ?_)
    show wpAny _ A.in1 (holding [kk, x] (dictSet d kk x)) _ _ s'
    refine wpAny_holding (hset _ _ fun h' tk k2 kp le => ?_)
    refine wpAny_pure ⟨plainId_quiet dl_plain_loop _, ?_⟩
    have er : rawInt ((i : Int) + 1) = rawInt ((i + 1 : Nat) : Int) := rfl
    show codeAny _ _ (.builtin "dict.update.loop" ⟨[.ref d, .ref I, rawInt ((i : Int) + 1), .none], []⟩) _ _
    rw [er]
    refine ih (i + 1) { s' with heap := h', toks := tk } (by omega) hlt (W.frame _ s' _ _ st' le fun b hb o e => kp b o (fun z => hd (by rw [← z]; exact hb)) e) k2 fun s'' mv2 k4 => ?_
    refine fin s'' (Moved.trans W.gtrans ((mv.mono sb).then_heap le fun b o hb e => ?_) mv2) k4
    exact kp b o (fun z => hb (by rw [z]; exact List.mem_cons_self)) e
end
end PySem
set_option maxRecDepth 100000
set_option maxHeartbeats 4000000
namespace PySem
open Sem (wp)
section
variable {prog : Program} {w : World} {A : Around} {E : Value → Shared → Prop} {s : Shared}
theorem dl_call {l : Addr} {its : Array Value} {k : Nat} {sl : Array (Option Value)} {Q : Value → Shared → Prop} (hh : A.handled = none) (hl : s.heap.get? l = some { cls := .type "list", dict := none, data := .seq its k, slots := sl }) (J : Nat → Heap → Prop)
    (start : ∀ h' : Heap, (∀ b o, s.heap.get? b = some o → h'.get? b = some o) → h'.get? s.heap.objs.size = some { cls := .type "dict", data := .dict #[] } → J 0 h')
    (keep : ∀ i (h h' : Heap) (I : Addr), s.heap.objs.size < I → J i h → (∀ b o, b ≠ I → h.get? b = some o → h'.get? b = some o) → J i h')
    (pair : ∀ i v (s' : Shared), i < its.size → its[i]? = some v → J i s'.heap → ∃ k x : Value, (∀ (Q' : List Value → Shared → Prop) (E' : Value → Shared → Prop), Q' [k, x] s' → wpAny (model prog w) A.in1.in1 (Builtin.Dict.pairItems v) Q' E' s') ∧
      ∀ (Q' : Unit → Shared → Prop) (E' : Value → Shared → Prop), (∀ h' tk, J (i + 1) h' → (∀ b o, b ≠ s.heap.objs.size → s'.heap.get? b = some o → h'.get? b = some o) → s'.toks ≤ tk → Q' () { s' with heap := h', toks := tk }) → wpAny (model prog w) A.in1.in1 (dictSet s.heap.objs.size k x) Q' E' s')
    (fin : ∀ h' tk, J its.size h' → (∀ b o, s.heap.get? b = some o → h'.get? b = some o) → Q (.ref s.heap.objs.size) { s with heap := h', toks := tk }) :
    wpAny (model prog w) A (call (.type "dict") [.ref l]) Q E s := by
  refine callType_codes (Q₁ := fun obj s₁ => obj = .ref s.heap.objs.size ∧ s₁ = { s with heap := s.heap.push { cls := .type "dict", data := .dict #[] } }) F.kt_called_dict (F.kt_typeCall_dict_1 _) F.entry_dict_init (kt_code_dict_new _ ⟨rfl, rfl⟩) ?_
  rintro obj s₁ ⟨rfl, rfl⟩
  have hnew : (s.heap.push { cls := .type "dict", data := .dict #[] }).get? s.heap.objs.size = some { cls := .type "dict", data := .dict #[] } := Heap.get?_push_size _ rfl
  have hT : ({ s with heap := s.heap.push { cls := .type "dict", data := .dict #[] } } : Shared).TypeIs (.ref s.heap.objs.size) "dict" := ⟨_, hnew, rfl⟩
  have hl1 : (s.heap.push { cls := .type "dict", data := .dict #[] }).get? l = some { cls := .type "list", dict := none, data := .seq its k, slots := sl } := Heap.get?_push_of_some _ hl
  have ls : l < s.heap.objs.size := Heap.lt_size hl
  refine ⟨hT, F.args_dict_init_2 _ _, ?_⟩
  unfold Builtin.«dict.__init__»
  refine wpAny_bind ?_
  unfold Builtin.Dict.selfAndRest
  refine wpAny_bind (wpAny_notOrdered_dict hT ?_)
  show wpAny _ _ (pure (s.heap.objs.size, [Value.ref l])) _ _ _
  refine wpAny_pure ?_
  show wpAny _ _ (Builtin.Dict.updateFrom "dict.__init__" s.heap.objs.size (.ref l) [] .none) _ _ _
  unfold Builtin.Dict.updateFrom
  refine wpAny_bind (wpAny_typeOf (⟨_, hl1, rfl⟩ : ({ s with heap := s.heap.push { cls := .type "dict", data := .dict #[] } } : Shared).TypeIs (.ref l) "list") ?_)
  rw [if_pos (by decide)]
  refine wpAny_bind (dl_noKeys hl1 rfl rfl rfl (by simp [hh]) fun h2 tk2 kp2 => ?_)
  rw [if_pos (show (none : Option Value).isNone = true from rfl)]
  refine wpAny_bind (wpAny_rule ?_)
  have hl2 := kp2 _ _ hl1
  refine wpAny_bind (wpAny_pyIter_list (⟨_, hl2, rfl, k, rfl⟩ : h2.IsList l its) ?_)
  refine wpAny_pure ⟨plainId_quiet dl_plain_loop _, ?_⟩
  have sz2 : s.heap.objs.size < h2.objs.size := Heap.lt_size (kp2 _ _ hnew)
  have ne1 : l ≠ h2.objs.size := Nat.ne_of_lt (Nat.lt_trans ls sz2)
  have hd2 : (h2.push { cls := .type "list_iterator", data := .fields #[.ref l, .int 0 0] }).get? s.heap.objs.size = some { cls := .type "dict", data := .dict #[] } := Heap.get?_push_of_some _ (kp2 _ _ hnew)
  have kp3 : ∀ b o, s.heap.get? b = some o → (h2.push { cls := .type "list_iterator", data := .fields #[.ref l, .int 0 0] }).get? b = some o := fun b o e => Heap.get?_push_of_some _ (kp2 _ _ (Heap.get?_push_of_some _ e))
  refine dl_loop ((Walks.list (A := A.in1.in1) (by simp [hh]) h2.objs.size l ne1 its).toS) s.heap.objs.size (by simp; exact ⟨Nat.ne_of_lt sz2, Nat.ne_of_gt ls⟩) J (fun i h h' j e => keep i h h' h2.objs.size sz2 j fun b o hb => e b o (by simpa using hb)) (fun i v s' hi hv j => pair i v s' hi hv j) its.size 0 _ (by omega) (Nat.zero_le _) ⟨⟨_, Heap.get?_push_size _ rfl, rfl, rfl⟩, ⟨_, Heap.get?_push_of_some _ hl2, rfl, k, rfl⟩⟩ (start _ kp3 hd2) fun s' mv j => ?_
  obtain ⟨hp', g', d', tk', os'⟩ := s'
  obtain rfl : g' = s.gens := mv.gens
  obtain rfl : d' = s.drawn := mv.drawn
  obtain rfl : os' = s.os := mv.os
  refine ⟨rfl, fin _ _ j fun b o e => mv.heap b o ?_ (kp3 b o e)⟩
  have := Heap.lt_size e
  simp only [List.mem_cons, List.not_mem_nil, or_false, not_or]
  exact ⟨Nat.ne_of_lt this, Nat.ne_of_lt (Nat.lt_trans this sz2)⟩
end
end PySem
set_option maxRecDepth 100000
set_option maxHeartbeats 4000000
namespace L2
open PySem PySem.Spec PyProof.Rows
section
variable {P : Program} {w : World} {A : Around} {E : Value → Shared → Prop} {s : Shared}
theorem pair_items {t : Addr} {its : List Value} {Q : List Value → Shared → Prop} (ht : IsTup s.heap t its.toArray) (h : Q its s) : wpAny (model P w) A (Builtin.Dict.pairItems (.ref t)) Q E s := by
  obtain ⟨o, ho, hc, n, hd⟩ := ht
  unfold Builtin.Dict.pairItems
  refine wpAny_bind (wpAny_typeOf (⟨o, ho, hc⟩ : s.TypeIs (.ref t) "tuple") ?_)
  rw [if_pos (by decide)]
  refine wpAny_bind (wpAny_seqItems ho hd ?_)
  refine wpAny_pure ?_
  simpa using h
end
section
variable {X : Cx} {σ : St} {H H' : Hp} {Q : VK} {D : Ends} {K : PySem.W.Frag}
theorem mergeK_snoc (kvs : List (Key × V)) (kv : Key × V) (l : List (Key × V)) : mergeK l (kvs ++ [kv]) = putK (mergeK l kvs) kv.1 kv.2 := by
  unfold mergeK
  rw [List.foldl_append]; rfl
def mergeT (kvs more : List (List Key × V)) : List (List Key × V) := more.foldl (fun acc kv => putK acc kv.1 kv.2) kvs
theorem mergeT_snoc (kvs : List (List Key × V)) (kv : List Key × V) (l : List (List Key × V)) : mergeT l (kvs ++ [kv]) = putK (mergeT l kvs) kv.1 kv.2 := by
  unfold mergeT
  rw [List.foldl_append]; rfl
theorem mergeT_len : ∀ (more kvs : List (List Key × V)), (mergeT kvs more).length ≤ kvs.length + more.length
  | [], kvs => Nat.le_refl _
  | p :: r, kvs => by
    have h1 := mergeT_len r (putK kvs p.1 p.2)
    have h2 := putT_len kvs p.1 p.2
    rw [List.length_cons]
    show (mergeT (putK kvs p.1 p.2) r).length ≤ _
    omega
def rDictK (xs : List V) (H : Hp) (Q : VK) : Prop := ∃ (p : Addr) (ts : List Addr) (kvs : List (Key × V)), xs = [.ref p] ∧ H p = some (.lst (ts.map V.ref)) ∧ ts.length = kvs.length ∧ kvs.length ≤ 1000000 ∧ (∀ (i : Nat) t, ts[i]? = some t → ∃ kv, kvs[i]? = some kv ∧ H t = some (.tup [kV kv.1, kv.2])) ∧ ∀ d, H d = none → Q (.ref d) (upd H d (.dK (mergeK [] kvs)))
theorem vals_refs : ∀ (ts : List Addr) (us : List Value), Vals (ts.map V.ref) us → us = ts.map Value.ref
  | [], us, r => by cases r; rfl
  | t :: ts, us, r => by
    cases r with
    | cons a b =>
      cases a
      rw [vals_refs ts _ b]; rfl
theorem take_snoc' {α : Type} {l : List α} {i : Nat} {y : α} (h : l[i]? = some y) : l.take (i + 1) = l.take i ++ [y] := take_snoc h
theorem call_dictK (hc : X.calm = true) : CallR X (.type "dict") rDictK := by
  intro pins s σ H xs us Q I r h
  obtain ⟨p, ts, kvs, rfl, hp, hlen, hbig, hts, q⟩ := h
  obtain ⟨u, rfl, ru⟩ := vals1 r
  cases ru
  obtain ⟨z, its, n, rv, hl, e⟩ := I.lstM hp
  have ei := vals_refs ts its rv
  have hsys : (s.heap.objs.size == sysModules) = false := by
    have := I.big
    simp; exact Nat.ne_of_gt this
  have hsl : (1000000 : Nat) ≤ sizeLine := by decide
  have hl2 : its.length = kvs.length := by rw [ei, List.length_map]; exact hlen
  refine dl_call (I.ok.hd hc) e (fun i h => ∃ vs, KV (mergeK [] (kvs.take i)) vs ∧ h.DictOf (mixKind X.prog X.w) s.heap.objs.size vs ∧ ∀ b o, s.heap.get? b = some o → h.get? b = some o) ?_ ?_ ?_ ?_
  · intro h' kp hd
    exact ⟨[], .nil, ⟨_, #[], 0, hd, ⟨rfl, rfl, rfl⟩, rfl, by intro e he; simp at he, .nil, by simp⟩, kp⟩
  · rintro i h h' J0 hJ ⟨vs, kv, ⟨o, es, ep, ho, rest⟩, kp⟩ k2
    exact ⟨vs, kv, ⟨o, es, ep, k2 _ _ (Nat.ne_of_lt hJ) ho, rest⟩, fun b o e => k2 b o (Nat.ne_of_lt (Nat.lt_trans (Heap.lt_size e) hJ)) (kp b o e)⟩
  · rintro i v s' hi hv ⟨vs, kv, dd, kp⟩
    have hi' : i < ts.length := by rw [List.size_toArray, hl2] at hi; omega
    have ev : v = .ref ts[i] := by
      have : its[i]? = some v := by simpa using hv
      rw [ei, List.getElem?_map, List.getElem?_eq_getElem hi'] at this
      exact (Option.some.inj this).symm
    subst ev
    obtain ⟨kv0, hkv, ht⟩ := hts i ts[i] (by simp [hi'])
    obtain ⟨_, its2, r2, tp⟩ := (show ObjOk X.prog X.w H s.heap ts[i] (.tup [kV kv0.1, kv0.2]) from I.hok _ _ ht)
    obtain ⟨o2, g2, rest2⟩ := tp
    cases r2 with
    | cons ra rb =>
      cases rb with
      | cons rb rc =>
        cases rc
        refine ⟨_, _, fun Q' E' hQ => pair_items ⟨o2, kp _ _ g2, rest2⟩ hQ, fun Q' E' hQ => ?_⟩
        have hle : vs.length ≤ sizeLine := by
          have h1 := length_mergeK (kvs.take i) []
          have h2 := kv.length
          rw [List.length_take, List.length_nil] at h1
          omega
        refine wpAny_dictSet_pairs (hsz := hle) (kV_is ra) dd fun h' dd' sm => hQ h' _ ⟨_, ?_, dd', ?_⟩ ?_ (Nat.le_succ _)
        · rw [take_snoc' hkv, mergeK_snoc]
          exact kv.put _ rb
        · intro b o e
          rw [sm.2 b (Nat.ne_of_lt (Heap.lt_size e))]
          exact kp b o e
        · intro b o hb e
          rw [sm.2 b hb]; exact e
  · rintro h' tk ⟨vs, kv, dd, kp⟩ _
    rw [List.size_toArray, hl2, List.take_length] at kv
    have hz : (mergeK [] kvs).length ≤ sizeLine := by
      have h1 := length_mergeK kvs []
      rw [List.length_nil] at h1
      omega
    exact ⟨.ref s.heap.objs.size, _, I.laid (o := .dK (mergeK [] kvs)) (h' := h') (t' := tk) kp (Nat.le_refl _) (show ObjOk X.prog X.w _ h' _ (.dK (mergeK [] kvs)) from ⟨hz, hsys, vs, kv, dd⟩), rfl, q _ (I.hok.fresh (Nat.le_refl _))⟩
theorem key_there {h h' : Heap} {P : Program} {w : World} {ks : List Key} {a : Addr} (ok : HOk P w H h) (e : H a = some (.tup (ks.map kV))) (kp : ∀ b o, h.get? b = some o → h'.get? b = some o) : (tupleKind (mixKind P w)).is h' ks a := by
  obtain ⟨_, its, r, o, h1, h2, n, h3⟩ := (show ObjOk P w H h a (.tup (ks.map kV)) from ok a _ e)
  exact ⟨o, its.toArray, n, kp _ _ h1, h2, h3, by simpa using items_are r⟩
theorem key_kept {h h' : Heap} {P : Program} {w : World} (ok : HOk P w H h) (kp : ∀ b o, h.get? b = some o → h'.get? b = some o) : ∀ {kvs : List (List Key × V)} {ys : List (List Key × Addr × Value)}, KT H kvs ys → ∀ x ∈ ys, (tupleKind (mixKind P w)).is h' x.1 x.2.1 := by
  intro kvs ys r
  induction r with
  | nil => intro x hx; exact nomatch hx
  | @cons p q ps qs hq t ih =>
    intro x hx
    rcases List.mem_cons.mp hx with e | hx
    · subst e
      exact key_there ok (by rw [← hq.1]; exact hq.2.1) kp
    · exact ih x hx
def rDictT (xs : List V) (H : Hp) (Q : VK) : Prop := ∃ (p : Addr) (ts : List Addr) (kvs : List (List Key × V)), xs = [.ref p] ∧ H p = some (.lst (ts.map V.ref)) ∧ ts.length = kvs.length ∧ kvs.length ≤ 1000000 ∧ (∀ (i : Nat) t, ts[i]? = some t → ∃ kv u, kvs[i]? = some kv ∧ H t = some (.tup [.ref u, kv.2]) ∧ H u = some (.tup (kv.1.map kV))) ∧ ∀ d, H d = none → Q (.ref d) (upd H d (.dT (mergeT [] kvs)))
theorem call_dictT (hc : X.calm = true) (hu : X.A.units + 64 < cLine) : CallR X (.type "dict") rDictT := by
  intro pins s σ H xs us Q I r h
  obtain ⟨p, ts, kvs, rfl, hp, hlen, hbig, hts, q⟩ := h
  obtain ⟨u, rfl, ru⟩ := vals1 r
  cases ru
  obtain ⟨z, its, n, rv, hl, e⟩ := I.lstM hp
  have ei := vals_refs ts its rv
  have hsys : (s.heap.objs.size == sysModules) = false := by
    have := I.big
    simp; exact Nat.ne_of_gt this
  have hsl : (1000000 : Nat) ≤ sizeLine := by decide
  have hl2 : its.length = kvs.length := by rw [ei, List.length_map]; exact hlen
  refine dl_call (I.ok.hd hc) e (fun i h => ∃ ys, KT H (mergeT [] (kvs.take i)) ys ∧ h.DictOfH (tupleKind (mixKind X.prog X.w)) s.heap.objs.size ys ∧ ∀ b o, s.heap.get? b = some o → h.get? b = some o) ?_ ?_ ?_ ?_
  · intro h' kp hd
    exact ⟨[], .nil, ⟨_, #[], 0, hd, ⟨rfl, rfl, rfl⟩, rfl, rfl, by simp, by simp⟩, kp⟩
  · rintro i h h' J0 hJ ⟨ys, kt, ⟨o, es, ep, ho, c1, c2, c3, c4, c5⟩, kp⟩ k2
    have kp' : ∀ b o, s.heap.get? b = some o → h'.get? b = some o := fun b o e => k2 b o (Nat.ne_of_lt (Nat.lt_trans (Heap.lt_size e) hJ)) (kp b o e)
    refine ⟨ys, kt, ⟨o, es, ep, k2 _ _ (Nat.ne_of_lt hJ) ho, c1, c2, c3, fun x hx => ?_, c5⟩, kp'⟩
    exact key_kept I.hok kp' kt x hx
  · rintro i v s' hi hv ⟨ys, kt, dd, kp⟩
    have hi' : i < ts.length := by rw [List.size_toArray, hl2] at hi; omega
    have ev : v = .ref ts[i] := by
      have : its[i]? = some v := by simpa using hv
      rw [ei, List.getElem?_map, List.getElem?_eq_getElem hi'] at this
      exact (Option.some.inj this).symm
    subst ev
    obtain ⟨kv0, u, hkv, ht, hu0⟩ := hts i ts[i] (by simp [hi'])
    obtain ⟨_, its2, r2, tp⟩ := (show ObjOk X.prog X.w H s.heap ts[i] (.tup [.ref u, kv0.2]) from I.hok _ _ ht)
    obtain ⟨o2, g2, rest2⟩ := tp
    cases r2 with
    | cons ra rb =>
      cases rb with
      | cons rb rc =>
        cases rc
        cases ra
        refine ⟨_, _, fun Q' E' hQ => pair_items ⟨o2, kp _ _ g2, rest2⟩ hQ, fun Q' E' hQ => ?_⟩
        have hle : ys.length ≤ sizeLine := by
          have h1 := mergeT_len (kvs.take i) []
          have h2 := kt.length
          rw [List.length_take, List.length_nil] at h1
          omega
        have hroom : (tupleKind (mixKind X.prog X.w)).room X.A.in1.in1 := by
          show X.A.in1.units + 1 < cLine
          have : X.A.in1.units = X.A.units + 1 := rfl
          omega
        have hkey : (tupleKind (mixKind X.prog X.w)).is s'.heap kv0.1 u := key_there I.hok hu0 kp
        refine wpAny_dictSet_heap (hsz := hle) hroom hkey dd fun h' dd' sm => hQ h' _ ⟨_, ?_, dd', ?_⟩ ?_ (Nat.le_add_right _ _)
        · rw [take_snoc' hkv, mergeT_snoc]
          exact kt.put _ hu0 rb
        · intro b o e
          rw [sm.2 b (Nat.ne_of_lt (Heap.lt_size e))]
          exact kp b o e
        · intro b o hb e
          rw [sm.2 b hb]; exact e
  · rintro h' tk ⟨ys, kt, ⟨o, es, ep, ho, c1, c2, c3, c4, c5⟩, kp⟩ _
    rw [List.size_toArray, hl2, List.take_length] at kt
    have hz : (mergeT [] kvs).length ≤ sizeLine := by
      have h1 := mergeT_len kvs []
      rw [List.length_nil] at h1
      omega
    have fr := I.hok.fresh (Nat.le_refl s.heap.objs.size)
    have kt' : KT (upd H s.heap.objs.size (.dT (mergeT [] kvs))) (mergeT [] kvs) ys := kt.keeps fun b xs e => upd_keep e fr
    exact ⟨.ref s.heap.objs.size, _, I.laid (o := .dT (mergeT [] kvs)) (h' := h') (t' := tk) kp (Nat.le_refl _) (show ObjOk X.prog X.w _ h' _ (.dT (mergeT [] kvs)) from ⟨hz, hsys, ys, kt', o, es, ep, ho, c1, c2, c3, c5⟩), rfl, q _ fr⟩
end
end L2
set_option maxRecDepth 100000
set_option maxHeartbeats 4000000
namespace PySem
open Sem (wp)
section
variable {prog : Program} {w : World} {A : Around} {E : Value → Shared → Prop} {s : Shared}
def Heap.DictRaw (h : Heap) (d : Addr) (es : Array DictEntry) (ep : Nat) : Prop := ∃ o, h.get? d = some o ∧ o.ExactDict ∧ o.data = .dict es ep
theorem Heap.DictRaw.ty {d : Addr} {es : Array DictEntry} {ep : Nat} (x : s.heap.DictRaw d es ep) : s.TypeIs (.ref d) "dict" := let ⟨o, ho, hc, _⟩ := x; ⟨o, ho, hc.1⟩
theorem Heap.DictRaw.to {h h' : Heap} {d : Addr} {es : Array DictEntry} {ep : Nat} (x : h.DictRaw d es ep) (e : ∀ o, h.get? d = some o → h'.get? d = some o) : h'.DictRaw d es ep := let ⟨o, ho, r⟩ := x; ⟨o, e o ho, r⟩
theorem dr_iter {d : Addr} {es : Array DictEntry} {ep : Nat} {Q : Value → Shared → Prop} (hd : (d == sysModules) = false) (hm : s.heap.DictRaw d es ep)
    (hQ : Q (.ref s.heap.objs.size) { s with heap := s.heap.push { cls := .type "dict_keyiterator", data := .fields #[.ref d, .int 0 0, .int es.size 0, .int ep 0] } }) : wpAny (model prog w) A (pyIter (.ref d)) Q E s := by
  have hT := hm.ty
  obtain ⟨o, ho, hc, hdat⟩ := id hm
  refine wpAny_pyIter_slot hT F.slot_dict_iter (wpAny_call_entry F.slot_dict_iter hT F.entry_dict_iter ?_ (F.args_dict_iter_1 _))
  unfold Builtin.«dict.__iter__» Builtin.Dict.dictSlotNone
  refine wpAny_bind (wpAny_bind (wpAny_notOrdered_dict hT ?_))
  show wpAny _ _ (pure (Value.ref d)) _ _ s
  refine wpAny_pure ?_; show wpAny _ _ (Builtin.Dict.showsAll d >>= _) _ _ s
  unfold Builtin.Dict.showsAll; rw [if_neg (by rw [hd]; exact Bool.false_ne_true)]
  refine wpAny_bind (wpAny_pure (wpAny_bind (wpAny_dictEntries ho hdat (wpAny_bind (wpAny_dictEpoch ho hdat ?_)))))
  refine wpAny_bind (wpAny_newObj_type (wpAny_pure ⟨_, rfl, "dict_keyiterator", _, ⟨_, Heap.get?_push_size _ rfl, rfl⟩, F.slot_dict_keyiterator_next.lookup, by simpa [rawInt] using hQ⟩))
theorem dr_item {it d : Addr} {i ep : Nat} {es : Array DictEntry} {Q : Option Value → Shared → Prop} (hit : s.heap.IsKeyIter it d i es.size ep) (hm : s.heap.DictRaw d es ep) (hlt : i < es.size)
    (hQ : ∀ h', h'.IsKeyIter it d (i + 1) es.size ep → Heap.SameBut it s.heap h' → Q (some es[i].key) { s with heap := h' }) : wpAny (model prog w) A (pyNext (.ref it)) Q E s := by
  obtain ⟨o, ho, hc, hd⟩ := id hit; obtain ⟨od, hod, hcd, hdd⟩ := id hm
  unfold pyNext
  refine wpAny_bind (wpAny_attempt (wpAny_callSpecial?_slot (name := Str.ofString "__next__") hit.typeIs F.slot_dict_keyiterator_next (wpAny_call_entry F.slot_dict_keyiterator_next hit.typeIs F.entry_dict_keyiterator_next ?_ (F.args_dict_keyiterator_next_1 _))))
  refine wpAny_bind (wpAny_pure (wpAny_bind (wpAny_bind ?_)))
  first | refine wpAny_bind (wpAny_typeNameOfWhole_keyiter hit.typeIs (wpAny_pure (wpAny_bind (wpAny_fieldsOf ho hd ?_)))) | refine wpAny_bind (wpAny_typeNameOf_keyiter hit.typeIs (wpAny_pure (wpAny_bind (wpAny_fieldsOf ho hd ?_))))
  have own : Builtin.Dict_items.ownsTuple "dict_keyiterator" = false := by decide
  simp only [own, Bool.false_eq_true, if_false]
  show wpAny _ _ (if (Value.ref d == Value.none) = true then _ else _) _ _ s; rw [if_neg (show ¬ ((Value.ref d == Value.none) = true) from Bool.false_ne_true)]; refine wpAny_bind (wpAny_pure ?_)
  refine wpAny_bind (wpAny_dictEntries hod hdd ?_); rw [if_neg (by simp)]
  refine wpAny_bind (wpAny_pure (wpAny_bind (wpAny_dictEpoch hod hdd ?_))); rw [if_neg (by simp)]
  refine wpAny_pure ?_; simp only [show ¬ ((i : Int) < 0) by omega, if_false, Int.toNat_natCast, Array.getElem?_eq_getElem hlt]
  refine wpAny_bind ?_
  first | refine wpAny_bind (wpAny_typeNameOfWhole_keyiter hit.typeIs (wpAny_pure (wpAny_bind (wpAny_isOneOf_keyiter hit.typeIs ?_)))) | refine wpAny_bind (wpAny_typeNameOf_keyiter hit.typeIs (wpAny_pure (wpAny_bind (wpAny_isOneOf_keyiter hit.typeIs ?_))))
  show wpAny _ _ (setField (.ref it) 1 (rawInt ((i : Int) + 1)) >>= _) _ _ s; refine wpAny_bind (wpAny_setField ho hd (by simp) ?_)
  have on : (s.heap.update it (Obj.mapFields (·.setIfInBounds 1 (rawInt ((i : Int) + 1))))).IsKeyIter it d (i + 1) es.size ep := ⟨_, Heap.get?_update_self _ ho (Obj.isFreed_of_fields (Obj.data_mapFields hd _)), (Obj.cls_mapFields ..).trans hc, by rw [Obj.data_mapFields hd]; simp [rawInt]⟩
  refine wpAny_bind (wpAny_holding (wpAny_bind (wpAny_isOneOf_keyiter (s := { s with heap := s.heap.update it (Obj.mapFields (·.setIfInBounds 1 (rawInt ((i : Int) + 1)))) }) on.typeIs ?_)))
  show wpAny _ _ (pure es[i].key) _ _ _; exact wpAny_pure (wpAny_pure ⟨_, rfl, wpAny_pure (hQ _ on (Heap.SameBut.update ..))⟩)
theorem dr_end {it d : Addr} {i ep : Nat} {es : Array DictEntry} {Q : Option Value → Shared → Prop} (hh : A.handled = none) (hit : s.heap.IsKeyIter it d i es.size ep) (hm : s.heap.DictRaw d es ep) (hge : es.size ≤ i)
    (hQ : ∀ h', Heap.ExtBut it s.heap h' → Q none { s with heap := h' }) : wpAny (model prog w) A (pyNext (.ref it)) Q E s := by
  obtain ⟨o, ho, hc, hd⟩ := id hit; obtain ⟨od, hod, hcd, hdd⟩ := id hm
  unfold pyNext
  refine wpAny_bind (wpAny_attempt (wpAny_callSpecial?_slot (name := Str.ofString "__next__") hit.typeIs F.slot_dict_keyiterator_next (wpAny_call_entry F.slot_dict_keyiterator_next hit.typeIs F.entry_dict_keyiterator_next ?_ (F.args_dict_keyiterator_next_1 _))))
  refine wpAny_bind (wpAny_pure (wpAny_bind (wpAny_bind ?_)))
  first | refine wpAny_bind (wpAny_typeNameOfWhole_keyiter hit.typeIs (wpAny_pure (wpAny_bind (wpAny_fieldsOf ho hd ?_)))) | refine wpAny_bind (wpAny_typeNameOf_keyiter hit.typeIs (wpAny_pure (wpAny_bind (wpAny_fieldsOf ho hd ?_))))
  have own : Builtin.Dict_items.ownsTuple "dict_keyiterator" = false := by decide
  simp only [own, Bool.false_eq_true, if_false]
  show wpAny _ _ (if (Value.ref d == Value.none) = true then _ else _) _ _ s; rw [if_neg (show ¬ ((Value.ref d == Value.none) = true) from Bool.false_ne_true)]; refine wpAny_bind (wpAny_pure ?_)
  refine wpAny_bind (wpAny_dictEntries hod hdd ?_); rw [if_neg (by simp)]
  refine wpAny_bind (wpAny_pure (wpAny_bind (wpAny_dictEpoch hod hdd ?_))); rw [if_neg (by simp)]
  refine wpAny_pure ?_; simp only [show ¬ ((i : Int) < 0) by omega, if_false, Int.toNat_natCast, Array.getElem?_eq_none hge]
  refine wpAny_bind ?_
  (first | refine wpAny_bind (wpAny_typeNameOfWhole_keyiter hit.typeIs (wpAny_pure ?_)) | refine wpAny_bind (wpAny_typeNameOf_keyiter hit.typeIs (wpAny_pure ?_))); show wpAny _ _ (setField (.ref it) 0 .none >>= _) _ _ s; refine wpAny_bind (wpAny_setField ho hd (by simp) ?_); show wpAny _ _ (newExc (.type "StopIteration") [] >>= _) _ _ _
  refine wpAny_bind ?_; simp only [newExc, newTuple]
  refine wpAny_bind (wpAny_newObj_type (wpAny_bind (m := firstArgMember _ _) (wpAny_of_eq (a := Value.none) (by first | rfl | (simp only [firstArgMember]; rfl)) ?_)) (by size_fits))
  refine wpAny_newObj_type ?_ (by size_fits); simp only [raiseNew]
  refine wpAny_bind (wpAny_handled ?_); rw [show A.in1.handled = none from hh]
  refine wpAny_bind (wpAny_pure (wpAny_throw ?_)); refine wpAny_bind (wpAny_isInstance (T := "StopIteration") (b := true) ⟨_, Heap.get?_push_size _ rfl, rfl⟩ isSubtype_stop ?_)
  exact wpAny_pure (hQ _ (((Heap.SameBut.update ..).extBut.push _).push _))
theorem dr_walks (hh : A.handled = none) (I d : Addr) (hne : d ≠ I) (es : Array DictEntry) (ep : Nat) : Walks prog w A I [I, d] [I] es.size (fun i v => ∃ e, es[i]? = some e ∧ v = e.key) (fun i h => h.IsKeyIter I d i es.size ep ∧ h.DictRaw d es ep) where
  sub := fun b hb => by have : b = I := by simpa using hb
                        simp [this]
  frame := fun _ _ _ st hk => ⟨st.1.at fun o e => hk I (by simp) o e, st.2.to fun o e => hk d (by simp) o e⟩
  item := fun i s Q E hi st hQ => dr_item st.1 st.2 hi fun h' on sm => hQ _ h' s.toks ⟨es[i], by simp [hi], rfl⟩ ⟨on, st.2.to fun o e => sm.extBut d o hne e⟩ fun b o hb e => sm.extBut b o (fun h => hb (by simp [h])) e
  done := fun s Q E st hQ => dr_end hh st.1 st.2 (Nat.le_refl _) fun h' he => hQ h' s.toks fun b o hb e => he b o (fun h => hb (by simp [h])) e
  self := fun _ _ _ _ st hQ => wpAny_pyIter_keyiter st.1 hQ
end
end PySem
set_option maxRecDepth 100000
set_option maxHeartbeats 4000000
namespace L2
open PySem PySem.Spec PyProof.Rows
section
variable {X : Cx} {σ : St} {H H' : Hp} {Q : VK} {D : Ends} {K : PySem.W.Frag} {tg : Expr} {pos : Pos}
theorem KT.get {kvs : List (List Key × V)} {ys : List (List Key × Addr × Value)} (r : KT H kvs ys) : ∀ {i : Nat} {kv : List Key × V}, kvs[i]? = some kv → ∃ y, ys[i]? = some y ∧ kv.1 = y.1 ∧ H y.2.1 = some (.tup (kv.1.map kV)) := by
  induction r with
  | nil => intro i kv h; simp at h
  | @cons p q ps qs hq t ih =>
    intro i kv h
    cases i with
    | zero => exact ⟨q, rfl, by simp at h; subst h; exact ⟨hq.1, hq.2.1⟩⟩
    | succ i => simpa using ih (i := i) (kv := kv) (by simpa using h)
def Itk (d : Addr) (o : Obj) (kvs : List (List Key × V)) : It :=
  ⟨fun i H => H d = some (.frz o (.dT kvs)) ∧ i < kvs.length, fun i H x H' => H' = H ∧ ∃ t kv, x = .ref t ∧ kvs[i]? = some kv ∧ H t = some (.tup (kv.1.map kV)), fun i H => H d = some (.frz o (.dT kvs)) ∧ kvs.length ≤ i⟩
theorem frz_raw {pins : List (Addr × Obj)} {s : Shared} {d : Addr} {o : Obj} {kvs : List (List Key × V)} {es : Array DictEntry} {ep : Nat} (I : Inv X pins σ H s) (h : H d = some (.frz o (.dT kvs))) (he : o.data = .dict es ep) :
    s.heap.DictRaw d es ep ∧ es.size = kvs.length ∧ (d == sysModules) = false ∧ ∀ (i : Nat) kv, kvs[i]? = some kv → ∃ t e, es[i]? = some e ∧ e.key = .ref t ∧ H t = some (.tup (kv.1.map kV)) := by
  obtain ⟨g, z, y, xs, r, o', es', ep', h1, h2, h3, h4, h5⟩ := (show ObjOk X.prog X.w H s.heap d (.frz o (.dT kvs)) from I.hok d _ h)
  rw [g] at h1
  cases h1
  rw [he] at h3
  cases h3
  have hl : es.size = xs.length := size_of_entries h4
  refine ⟨⟨o, g, h2, he⟩, by rw [hl, ← r.length], y, fun i kv hkv => ?_⟩
  obtain ⟨q, hq, e1, e2⟩ := KT.get r hkv
  exact ⟨q.2.1, _, by rw [entry_at h4, hq]; rfl, rfl, e2⟩
theorem turn_keys {P : Program} {w : World} {K : PySem.W.Frag} {tg : Expr} (d it : Addr) (o : Obj) (kvs : List (List Key × V)) (es : Array DictEntry) (ep : Nat) (he : o.data = .dict es ep) (hne : d ≠ it) : Turn P w K tg (Itk d o kvs) [it] it (fun i h => h.IsKeyIter it d i es.size ep) where
  mem := by simp
  obj := fun i h st b hb => by
    have e : b = it := by simpa using hb
    subst e
    obtain ⟨o, e, c, dd⟩ := st
    exact ⟨o, e, fun v z => by rw [dd] at z; cases z⟩
  keep := fun i h h' st k => st.at fun o e => k it (by simp) o e
  item := by
    intro X hP hw hK hc i pins s σ H E I hf st hg
    subst hP hw hK
    obtain ⟨hq, hi⟩ := hg
    obtain ⟨raw, hs, _, at'⟩ := frz_raw I hq he
    obtain ⟨t, e, h1, h2, h3⟩ := at' i kvs[i] (by simp [hi])
    obtain ⟨f0, f1, f2, f3, f4, f5⟩ := hf it (by simp)
    have hlt : i < es.size := by omega
    refine dr_item st raw hlt fun h' st' sb => ?_
    have I1 : Inv X pins σ H { s with heap := h' } := I.turned (t' := s.toks) (fun b o hb e => (sb.2 b hb).trans e) f0 f1 f3 f4 f5
    have ek : es[i].key = .ref t := by
      rw [Array.getElem?_eq_getElem hlt] at h1
      cases h1; exact h2
    rw [ek]
    obtain ⟨oi, e', c, dd⟩ := id st'
    exact ⟨.ref t, rfl, go_of (s := { s with heap := h' }) e' c dd (by decide) ⟨.ref t, H, I1, rfl, ⟨rfl, t, kvs[i], rfl, by simp [hi], h3⟩, st', fun b hb => (hf b hb).1⟩⟩
  done := by
    intro X hP hw hK hc i pins s σ H E I hf st hg
    subst hP hw hK
    obtain ⟨hq, hi⟩ := hg
    obtain ⟨raw, hs, _, _⟩ := frz_raw I hq he
    obtain ⟨f0, f1, f2, f3, f4, f5⟩ := hf it (by simp)
    exact dr_end (I.ok.hd hc) st raw (by omega) fun h' eb => ⟨rfl, I.turned (t' := s.toks) (fun b o hb e => eb b o hb e) f0 f1 f3 f4 f5⟩
  self := fun _ _ _ _ _ st h => wpAny_pyIter_keyiter st h
def AtK (R : It → Hp → Prop) (x : V) (H1 : Hp) : Prop := ∃ d kvs, x = .ref d ∧ H1 d = some (.dT kvs) ∧ ∀ o, R (Itk d o kvs) (upd H1 d (.frz o (.dT kvs)))
def iKeys (tl : TE) : TI := fun σ H R => tl σ H fun x H1 => AtK R x H1
theorem Inv.freeze {pins : List (Addr × Obj)} {s : Shared} {d : Addr} {o : Obj} {kvs : List (List Key × V)} (I : Inv X pins σ H s) (h : H d = some (.dT kvs)) (g : s.heap.get? d = some o) : Inv X pins σ (upd H d (.frz o (.dT kvs))) s := by
  have hd := I.hok d _ h
  have new : ObjOk X.prog X.w (upd H d (.frz o (.dT kvs))) s.heap d (.frz o (.dT kvs)) := by
    refine ⟨g, ?_⟩
    obtain ⟨z, y, xs, r, rest⟩ := (show ObjOk X.prog X.w H s.heap d (.dT kvs) from hd)
    exact ⟨z, y, xs, KT.keeps r fun b ys e => upd_keepNe e (ne_of e h (by intro z; cases z)), rest⟩
  exact I.write (t' := s.toks) (h' := s.heap) (by rw [h]; exact True.intro) (.inl rfl) (fun _ _ _ e => e) ⟨o, g⟩ new
theorem pi_keys {l : Expr} {tl : TE} (hl : PE X l tl) : PI X tg l (iKeys tl) := by
  intro pins s σ H R I h
  refine thn (hl pins s σ H _ I h) fun v s1 ⟨x, H1, I1, r1, q1⟩ => ?_
  obtain ⟨d, kvs, e, hd, q⟩ := q1
  subst e
  cases r1
  obtain ⟨z, y, xs, r, o, es, ep, h1, h2, h3, h4, h5⟩ := (show ObjOk X.prog X.w H1 s1.heap d (.dT kvs) from I1.hok d _ hd)
  have I2 := I1.freeze hd h1
  have lt := Heap.lt_size h1
  refine dr_iter y ⟨o, h1, h2, h3⟩ ?_
  refine ⟨s1.heap.objs.size, [s1.heap.objs.size], _, _, _, rfl, I2.kept (t' := s1.toks) fun b o e => Heap.get?_push_of_some _ e, turn_keys d _ o kvs es ep h3 (Nat.ne_of_lt lt), ⟨_, Heap.get?_push_size _ rfl, rfl, rfl⟩, fun b hb => ?_, q o⟩
  have e : b = s1.heap.objs.size := by simpa using hb
  subst e
  exact I2.fpOk (Nat.le_refl _) (I2.hok.fresh (Nat.le_refl _))
theorem r_iKeys {tl : TE} {R : It → Hp → Prop} (h : tl σ H fun x H1 => AtK R x H1) : iKeys tl σ H R := h
theorem r_AtK {d : Addr} {kvs : List (List Key × V)} {R : It → Hp → Prop} (hd : H d = some (.dT kvs)) (h : ∀ o, R (Itk d o kvs) (upd H d (.frz o (.dT kvs)))) : AtK R (.ref d) H := ⟨d, kvs, rfl, hd, h⟩
theorem ov_keys {d : Addr} {o : Obj} {kvs : List (List Key × V)} : Ov (Itk d o kvs) kvs (fun H => H d = some (.frz o (.dT kvs))) (fun y x H H' => ∃ t, x = .ref t ∧ H' = H ∧ H t = some (.tup (y.1.map kV))) where
  go := fun i H h hi => ⟨h, hi⟩
  stop := fun i H h hi => ⟨h, hi⟩
  yld := fun i H x H' y h hy ⟨e, t, kv, e1, e2, e3⟩ => by
    rw [hy] at e2
    cases e2
    exact ⟨t, e1, e, e3⟩
theorem r_DInTf {neg : Bool} {a t : Addr} {i j : Int} {o : Obj} {kvs : List (List Key × V)} (ha : H a = some (.frz o (.dT kvs))) (ht : H t = some (.tup [.int i, .int j])) (h : Q (.bl (if neg = true then !(valV kvs (kP i j)).isSome else (valV kvs (kP i j)).isSome)) H) : DIn neg Q (.ref t) (.ref a) H :=
  ⟨a, valV kvs (kP i j), rfl, .inr ⟨kvs, kP i j, t, .inr ⟨o, ha⟩, rfl, ht, rfl⟩, h⟩
def rLKeys (xs : List V) (H : Hp) (Q : VK) : Prop := ∃ d kvs, xs = [.ref d] ∧ H d = some (.dT kvs) ∧ ∀ l (ts : List Addr), H l = none → ts.length = kvs.length → (∀ (i : Nat) t, ts[i]? = some t → ∃ kv, kvs[i]? = some kv ∧ H t = some (.tup (kv.1.map kV))) → Q (.ref l) (upd H l (.lst (ts.map V.ref)))
theorem dr_src {P : Program} {w : World} {d : Addr} {es : Array DictEntry} {ep : Nat} (lo : (d == sysModules) = false) : PySem.W.KdlSrc P w "dict" d d es.size (fun i v => ∃ e, es[i]? = some e ∧ v = e.key) (fun h => h.DictRaw d es ep) where
  type := fun _ hm => hm.ty
  there := fun _ hm => by obtain ⟨o, ho, _⟩ := hm; exact ⟨Heap.lt_size ho, Heap.lt_size ho⟩
  keep := fun _ _ hm hk => hm.to fun o e => hk d (.inl rfl) o e
  notList := by decide
  notTuple := by decide
  hint := fun _ _ _ _ hm hq => PySem.W.kdl_hint_dict hm.ty hq
  iter := fun _ s hh hm => by
    obtain ⟨o, ho, r⟩ := id hm
    exact ⟨_, _, (fun _ _ hq => dr_iter lo hm hq), dr_walks hh _ d (Nat.ne_of_lt (Heap.lt_size ho)) es ep, ⟨⟨_, Heap.get?_push_size _ rfl, rfl, rfl⟩, hm.to fun o e => Heap.get?_push_of_some _ e⟩⟩
theorem vals_of_refs : ∀ (ts : List Addr), Vals (ts.map V.ref) (ts.map Value.ref)
  | [] => .nil
  | t :: ts => .cons rfl (vals_of_refs ts)
theorem call_listKeys (hc : X.calm = true) : CallR X (.type "list") rLKeys := by
  intro pins s σ H xs us Q I r h
  obtain ⟨d, kvs, rfl, hd, q⟩ := h
  obtain ⟨u, rfl, ru⟩ := vals1 r
  cases ru
  obtain ⟨z, y, ys, kt, o, es, ep, h1, h2, h3, h4, h5⟩ := (show ObjOk X.prog X.w H s.heap d (.dT kvs) from I.hok d _ hd)
  have hl : es.size = ys.length := size_of_entries h4
  have hlk := kt.length
  refine PySem.W.kdl_call (dr_src (es := es) (ep := ep) y) (I.ok.hd hc) ⟨o, h1, h2, h3⟩ (by omega) fun h' tk acc c kp hD hacc => ?_
  have ea : acc.toList = (ys.map fun q => q.2.1).map Value.ref := by
    refine List.ext_getElem? fun i => ?_
    rcases Nat.lt_or_ge i ys.length with hi | hi
    · have hi2 : i < acc.size := by rw [hacc.1, hl]; exact hi
      have e1 : acc.toList[i]? = some acc[i] := by simp [hi2]
      obtain ⟨e, he, hv⟩ := hacc.2 i acc[i] (by simp [hi2])
      rw [entry_at h4, List.getElem?_eq_getElem hi] at he
      have he : entryOfKey (tupleKind (mixKind X.prog X.w)) ys[i] = e := Option.some.inj he
      rw [e1, hv, ← he]
      simp [hi, entryOfKey]
    · rw [List.getElem?_eq_none (by rw [Array.length_toList, hacc.1, hl]; exact hi), List.getElem?_eq_none (by simp; exact hi)]
  have fr := I.hok.fresh (Nat.le_refl s.heap.objs.size)
  refine ⟨.ref s.heap.objs.size, _, I.laid (o := .lst ((ys.map fun q => q.2.1).map V.ref)) (h' := h') (t' := tk) kp (Nat.le_refl _) (show ObjOk X.prog X.w _ h' _ (.lst _) from ⟨?_, acc.toList, c, ?_, ?_⟩), rfl, q _ _ fr ?_ ?_⟩
  · rw [List.length_map, List.length_map]; omega
  · rw [ea]; exact vals_of_refs _
  · rw [hD]
  · rw [List.length_map]; omega
  · intro i t ht
    rw [List.getElem?_map] at ht
    obtain ⟨q', hq, e⟩ := Option.map_eq_some_iff.mp ht
    have hi : i < kvs.length := by have := (List.getElem?_eq_some_iff.mp hq).1; omega
    obtain ⟨y2, hy2, e1, e2⟩ := KT.get kt (i := i) (kv := kvs[i]) (by simp [hi])
    rw [hq] at hy2
    cases hy2
    exact ⟨kvs[i], by simp [hi], by rw [← e]; exact e2⟩
def tDispT (tk tv : TE) : TE := fun σ H Q => ∀ p, H p = none → tk σ (upd H p (.dT [])) fun x H1 => tv σ H1 fun y H2 => ∃ b k, x = .ref b ∧ H2 p = some (.dT []) ∧ H2 b = some (.tup (k.map kV)) ∧ Q (.ref p) (upd H2 p (.dT [(k, y)]))
theorem pe_dispT {k v : Expr} {tk tv : TE} (hu : X.A.units + 64 < cLine) (hk : PE X k tk) (hv : PE X v tv) : PE X (.Dict [some k] [v] pos) (tDispT tk tv) := by
  intro pins s σ H Q I q
  have hn := I.hok.fresh (Nat.le_refl s.heap.objs.size)
  have I1 := I.laid (a := s.heap.objs.size) (o := .dT []) (h' := s.heap.push { cls := .type "dict", data := .dict #[] }) (t' := s.toks) (fun _ _ q => Heap.get?_push_of_some _ q) (Nat.le_refl _) (dt_empty s.heap I.big)
  refine wpAny_Dict_any (by rfl) rfl (by simp) (show 1 ≤ 15 by decide) ?_
  have qq : tPairs [(tk, tv)] σ (upd H s.heap.objs.size (.dT [])) (fun ps H2 => match ps with | [(x, y)] => ∃ b k, x = .ref b ∧ H2 s.heap.objs.size = some (.dT []) ∧ H2 b = some (.tup (k.map kV)) ∧ Q (.ref s.heap.objs.size) (upd H2 s.heap.objs.size (.dT [(k, y)])) | _ => False) := q _ hn
  refine thn ((pps_cons hk hv pps_nil : PPs X pos [some k] [v] [(tk, tv)]) pins _ σ _ _ I1 qq) fun vs s2 ⟨ps, H2, I2, rel, q2⟩ => ?_
  match ps, vs, rel, q2 with
  | [], _, _, q2 => exact q2.elim
  | _ :: _ :: _, _, _, q2 => exact q2.elim
  | [(x, y)], _, .cons (b := (u, u')) ⟨ra, rb⟩ .nil, ⟨b, kk, e2, hp, hb, q2⟩ =>
    subst e2
    cases ra
    obtain ⟨z, hsys, ys, kt, o, es, ep, h1, h2, h3, h4, h5⟩ := (show ObjOk X.prog X.w H2 s2.heap s.heap.objs.size (.dT []) from I2.hok _ _ hp)
    cases kt
    have hkey : (tupleKind (mixKind X.prog X.w)).is s2.heap kk b := key_there I2.hok hb fun _ _ e => e
    have dd : s2.heap.DictOfH (tupleKind (mixKind X.prog X.w)) s.heap.objs.size [] := ⟨o, es, ep, h1, h2, h3, h4, by simp, h5⟩
    unfold storeAll
    rw [List.forIn_cons]
    refine wpAny_bind (wpAny_bind (wpAny_dictSet_heap (hsz := by simp) (show X.A.units < cLine by omega) hkey dd fun h' dd' sm => wpAny_pure ?_))
    dsimp only; rw [List.forIn_nil]
    refine wpAny_pure ⟨.ref s.heap.objs.size, _, ?_, rfl, q2⟩
    obtain ⟨o', es', ep', g1, g2, g3, g4, g5, g6⟩ := dd'
    have kt' : KT (upd H2 s.heap.objs.size (.dT [(kk, y)])) [(kk, y)] (storedH [] kk b u') := (KT.put (H := H2) (kvs := []) (xs := []) .nil kk hb rb).keeps fun c xs e => upd_keepNe e (ne_of e hp (by intro z; cases z))
    exact I2.write (by rw [hp]; exact True.intro) (.inl rfl) (fun c u hc e => by rw [sm.2 c hc]; exact e) ⟨o', g1⟩ (show ObjOk X.prog X.w _ h' _ (.dT [(kk, y)]) from ⟨by show 1 ≤ sizeLine; decide, hsys, _, kt', o', es', ep', g1, g2, g3, g4, g6⟩)
end
end L2
set_option maxHeartbeats 4000000
namespace Lf
def nexts (row one other : List Int) (p : Int × Int) : List (Int × Int) :=
  (if p.1 < (one.length : Int) ∧ one.getD p.1.toNat 0 = row.getD (p.1 + p.2).toNat 0 then [(p.1 + 1, p.2)] else []) ++
  (if p.2 < (other.length : Int) ∧ other.getD p.2.toNat 0 = row.getD (p.1 + p.2).toNat 0 then [(p.1, p.2 + 1)] else [])
structure Box (one other : List Int) (p : Int × Int) : Prop where
  i0 : 0 ≤ p.1
  i1 : p.1 ≤ (one.length : Int)
  j0 : 0 ≤ p.2
  j1 : p.2 ≤ (other.length : Int)
theorem nexts_mem {row one other : List Int} {p q : Int × Int} : q ∈ nexts row one other p ↔ (p.1 < (one.length : Int) ∧ one.getD p.1.toNat 0 = row.getD (p.1 + p.2).toNat 0 ∧ q = (p.1 + 1, p.2)) ∨ (p.2 < (other.length : Int) ∧ other.getD p.2.toNat 0 = row.getD (p.1 + p.2).toNat 0 ∧ q = (p.1, p.2 + 1)) := by
  unfold nexts
  rw [List.mem_append]
  refine or_congr ?_ ?_
  · split
    · next h => simp only [List.mem_singleton]; exact ⟨fun e => ⟨h.1, h.2, e⟩, fun e => e.2.2⟩
    · next h => simp only [List.not_mem_nil, false_iff]; exact fun e => h ⟨e.1, e.2.1⟩
  · split
    · next h => simp only [List.mem_singleton]; exact ⟨fun e => ⟨h.1, h.2, e⟩, fun e => e.2.2⟩
    · next h => simp only [List.not_mem_nil, false_iff]; exact fun e => h ⟨e.1, e.2.1⟩
theorem nexts_box {row one other : List Int} {p q : Int × Int} (B : Box one other p) (h : q ∈ nexts row one other p) : Box one other q := by
  obtain ⟨b1, b2, b3, b4⟩ := B
  rcases nexts_mem.mp h with ⟨h1, _, rfl⟩ | ⟨h1, _, rfl⟩
  · exact ⟨by show 0 ≤ p.1 + 1; omega, by show p.1 + 1 ≤ _; omega, b3, b4⟩
  · exact ⟨b1, b2, by show 0 ≤ p.2 + 1; omega, by show p.2 + 1 ≤ _; omega⟩
theorem nexts_len {row one other : List Int} {p : Int × Int} : (nexts row one other p).length ≤ 2 := by
  unfold nexts
  split <;> split <;> simp
structure Bfs (row one other : List Int) (ps : List (Int × Int)) (par : Int × Int → Option (Int × Int)) (gone : Nat) : Prop where
  nodup : ps.Nodup
  box : ∀ p ∈ ps, Box one other p
  zero : ((0, 0) : Int × Int) ∈ ps
  keys : ∀ p, (par p).isSome = true ↔ p ∈ ps
  step : ∀ p q, par p = some q → p ≠ (0, 0) → q ∈ ps ∧ p ∈ nexts row one other q
  done : ∀ k, k < gone → ∀ q ∈ nexts row one other (ps.getD k (0, 0)), q ∈ ps
def boxes (a b : Nat) : List (Int × Int) := ((List.range a).map fun i : Nat => (List.range b).map fun j : Nat => ((i : Int), (j : Int))).flatten
theorem boxes_len (b : Nat) : ∀ a, (boxes a b).length = a * b
  | 0 => by simp [boxes]
  | a + 1 => by
    have ih := boxes_len b a
    unfold boxes at ih ⊢
    rw [List.range_succ, List.map_append, List.flatten_append, List.length_append, ih, Nat.succ_mul]
    simp
theorem Bfs.len {row one other : List Int} {ps : List (Int × Int)} {par : Int × Int → Option (Int × Int)} {gone : Nat} (B : Bfs row one other ps par gone) : ps.length ≤ (one.length + 1) * (other.length + 1) := by
  rw [← boxes_len]
  refine len_le_of_sub _ _ B.nodup fun p hp => ?_
  obtain ⟨b1, b2, b3, b4⟩ := B.box p hp
  unfold boxes
  rw [List.mem_flatten]
  refine ⟨_, List.mem_map.mpr ⟨p.1.toNat, List.mem_range.mpr (by omega), rfl⟩, List.mem_map.mpr ⟨p.2.toNat, List.mem_range.mpr (by omega), ?_⟩⟩
  rw [Int.toNat_of_nonneg b1, Int.toNat_of_nonneg b3]
theorem Bfs.un {row one other : List Int} {ps : List (Int × Int)} {par : Int × Int → Option (Int × Int)} (B : Bfs row one other ps par ps.length) (hl : row.length = one.length + other.length) (hn : ((one.length : Int), (other.length : Int)) ∉ ps) : UnOk row one other ps := by
  refine ⟨hl, B.zero, hn, fun p hp => ?_⟩
  obtain ⟨b1, b2, b3, b4⟩ := B.box p hp
  obtain ⟨k, hk, e⟩ := List.mem_iff_getElem.mp hp
  have d := B.done k hk
  rw [List.getD_eq_getElem?_getD, List.getElem?_eq_getElem hk] at d
  have d : ∀ q ∈ nexts row one other p, q ∈ ps := by rw [← e]; exact d
  exact ⟨b1, b2, b3, b4, fun h1 h2 => d _ (nexts_mem.mpr (.inl ⟨h1, h2, rfl⟩)), fun h1 h2 => d _ (nexts_mem.mpr (.inr ⟨h1, h2, rfl⟩))⟩
theorem Bfs.start (row one other : List Int) : Bfs row one other [(0, 0)] (fun p => if p = (0, 0) then some (0, 0) else none) 0 := by
  refine ⟨by simp, fun p hp => ?_, by simp, fun p => ?_, fun p q h hn => ?_, fun k hk => by omega⟩
  · have : p = (0, 0) := by simpa using hp
    subst this
    exact ⟨by show (0 : Int) ≤ 0; omega, by show (0 : Int) ≤ _; omega, by show (0 : Int) ≤ 0; omega, by show (0 : Int) ≤ _; omega⟩
  · by_cases h : p = (0, 0) <;> simp [h]
  · rw [if_neg hn] at h; cases h
structure BfsIn (row one other : List Int) (ps : List (Int × Int)) (par : Int × Int → Option (Int × Int)) (gone : Nat) (pair : Int × Int) (k : Nat) : Prop where
  b : Bfs row one other ps par gone
  here : ps.getD gone (0, 0) = pair
  lt : gone < ps.length
  fst : ∀ q ∈ (nexts row one other pair).take k, q ∈ ps
theorem BfsIn.skip {row one other : List Int} {ps : List (Int × Int)} {par : Int × Int → Option (Int × Int)} {gone k : Nat} {pair q : Int × Int} (B : BfsIn row one other ps par gone pair k) (hq : (nexts row one other pair)[k]? = some q) (h : q ∈ ps) : BfsIn row one other ps par gone pair (k + 1) := by
  obtain ⟨hk, e⟩ := List.getElem?_eq_some_iff.mp hq
  refine ⟨B.b, B.here, B.lt, fun p hp => ?_⟩
  rw [List.take_succ_eq_append_getElem hk, e] at hp
  rcases List.mem_append.mp hp with z | z
  · exact B.fst p z
  · have : p = q := by simpa using z
    rw [this]; exact h
theorem BfsIn.add {row one other : List Int} {ps : List (Int × Int)} {par par' : Int × Int → Option (Int × Int)} {gone k : Nat} {pair q : Int × Int} (B : BfsIn row one other ps par gone pair k) (hq : (nexts row one other pair)[k]? = some q) (h : q ∉ ps) (hp : ∀ p, par' p = if p = q then some pair else par p) : BfsIn row one other (ps ++ [q]) par' gone pair (k + 1) := by
  obtain ⟨hk, e⟩ := List.getElem?_eq_some_iff.mp hq
  have hin : pair ∈ ps := by
    rw [← B.here, List.getD_eq_getElem?_getD, List.getElem?_eq_getElem B.lt]
    exact List.getElem_mem _
  have hqn : q ∈ nexts row one other pair := by rw [← e]; exact List.getElem_mem _
  have g : ∀ i, i < ps.length → (ps ++ [q]).getD i (0, 0) = ps.getD i (0, 0) := fun i hi => by
    rw [List.getD_eq_getElem?_getD, List.getElem?_append_left hi, ← List.getD_eq_getElem?_getD]
  refine ⟨⟨?_, fun p hp' => ?_, List.mem_append_left _ B.b.zero, fun p => ?_, fun p p' h1 h2 => ?_, fun i hi p hp' => ?_⟩, ?_, ?_, fun p hp' => ?_⟩
  · rw [List.nodup_append]
    refine ⟨B.b.nodup, by simp, fun x hx y hy => ?_⟩
    have : y = q := by simpa using hy
    rw [this]
    exact fun z => h (z ▸ hx)
  · rcases List.mem_append.mp hp' with z | z
    · exact B.b.box p z
    · have : p = q := by simpa using z
      rw [this]; exact nexts_box (B.b.box _ hin) hqn
  · rw [hp p, List.mem_append]
    by_cases z : p = q
    · rw [if_pos z]; simp [z]
    · rw [if_neg z, B.b.keys p]; simp [z]
  · rw [hp p] at h1
    by_cases z : p = q
    · rw [if_pos z] at h1
      cases h1
      exact ⟨List.mem_append_left _ hin, z ▸ hqn⟩
    · rw [if_neg z] at h1
      have := B.b.step p p' h1 h2
      exact ⟨List.mem_append_left _ this.1, this.2⟩
  · rw [g i (Nat.lt_trans hi B.lt)] at hp'
    exact List.mem_append_left _ (B.b.done i hi p hp')
  · rw [g _ B.lt]; exact B.here
  · rw [List.length_append]; have := B.lt; omega
  · rw [List.take_succ_eq_append_getElem hk, e] at hp'
    rcases List.mem_append.mp hp' with z | z
    · exact List.mem_append_left _ (B.fst p z)
    · exact List.mem_append_right _ z
theorem BfsIn.turn {row one other : List Int} {ps : List (Int × Int)} {par : Int × Int → Option (Int × Int)} {gone k : Nat} {pair : Int × Int} (B : BfsIn row one other ps par gone pair k) (hk : (nexts row one other pair).length ≤ k) : Bfs row one other ps par (gone + 1) := by
  refine ⟨B.b.nodup, B.b.box, B.b.zero, B.b.keys, B.b.step, fun i hi q hq => ?_⟩
  rcases Nat.lt_or_ge i gone with z | z
  · exact B.b.done i z q hq
  · have : i = gone := by omega
    subst this
    rw [B.here] at hq
    refine B.fst q ?_
    rw [List.take_of_length_le hk]
    exact hq
structure Wy (row one other : List Int) (i j : Nat) (P : List Int) : Prop where
  up : rising ((i : Int) + j - 1) row.length P = true
  at_ : picks row P = one.drop i
  oth : ((row.zipIdx.drop (i + j)).filter fun y => !decide ((y.2 : Int) ∈ P)).map (fun y => y.1) = other.drop j
theorem zip_drop {row : List Int} {k : Nat} (h : k < row.length) : row.zipIdx.drop k = (row.getD k 0, k) :: row.zipIdx.drop (k + 1) := by
  rw [List.drop_eq_getElem_cons (by rw [List.length_zipIdx]; exact h), List.getElem_zipIdx, List.getD_eq_getElem?_getD, List.getElem?_eq_getElem h]
  simp
theorem zip_ge {row : List Int} {k : Nat} {y : Int × Nat} (h : y ∈ row.zipIdx.drop k) : k ≤ y.2 := by
  obtain ⟨n, hn, e⟩ := List.mem_iff_getElem.mp h
  rw [List.getElem_drop, List.getElem_zipIdx] at e
  rw [← e]
  show k ≤ 0 + (k + n)
  omega
theorem Wy.start {row one other : List Int} (hl : row.length = one.length + other.length) : Wy row one other one.length other.length [] := by
  refine ⟨rfl, by simp [picks], ?_⟩
  rw [List.drop_of_length_le (by rw [List.length_zipIdx]; omega)]
  simp
theorem getD_drop {l : List Int} {i : Nat} (h : i < l.length) : l.drop i = l.getD i 0 :: l.drop (i + 1) := by
  rw [List.drop_eq_getElem_cons h, List.getD_eq_getElem?_getD, List.getElem?_eq_getElem h]; rfl
theorem Wy.left {row one other P : List Int} {i j : Nat} (W : Wy row one other (i + 1) j P) (hi : i < one.length) (hr : i + j < row.length) (h : one.getD i 0 = row.getD (i + j) 0) : Wy row one other i j (((i + j : Nat) : Int) :: P) := by
  obtain ⟨w1, w2, w3⟩ := W
  refine ⟨?_, ?_, ?_⟩
  · rw [rising, decide_eq_true (by omega), decide_eq_true (by omega)]
    have : ((i + 1 : Nat) : Int) + (j : Int) - 1 = ((i + j : Nat) : Int) := by omega
    rw [this] at w1
    exact w1
  · unfold picks at w2 ⊢
    rw [List.map_cons, w2, Int.toNat_natCast, getD_drop hi, h]
  · rw [zip_drop hr, List.filter_cons]
    have e : (!decide ((((row.getD (i + j) 0, i + j) : Int × Nat).2 : Int) ∈ ((i + j : Nat) : Int) :: P)) = false := by
      simp
    rw [e, if_neg (by decide), ← w3, show i + 1 + j = i + j + 1 by omega]
    congr 1
    refine List.filter_congr fun y hy => ?_
    have := zip_ge hy
    have ne : ¬ (y.2 : Int) = ((i + j : Nat) : Int) := by omega
    simp only [List.mem_cons, ne, false_or]
theorem Wy.right {row one other P : List Int} {i j : Nat} (W : Wy row one other i (j + 1) P) (hj : j < other.length) (hr : i + j < row.length) (h : other.getD j 0 = row.getD (i + j) 0) : Wy row one other i j P := by
  obtain ⟨w1, w2, w3⟩ := W
  refine ⟨rising_low _ _ _ _ (by omega) w1, w2, ?_⟩
  rw [zip_drop hr, List.filter_cons]
  have e : (!decide ((((row.getD (i + j) 0, i + j) : Int × Nat).2 : Int) ∈ P)) = true := by
    rw [Bool.not_eq_true', decide_eq_false_iff_not]
    intro m
    have := rising_in P _ _ w1 _ m
    simp at this
    omega
  rw [e, if_pos rfl, List.map_cons, show i + j + 1 = i + (j + 1) by omega, w3, getD_drop hj, h]
theorem Wy.mixed {row one other P : List Int} (W : Wy row one other 0 0 P) : Lf.mixed row one other P = true := by
  obtain ⟨w1, w2, w3⟩ := W
  unfold Lf.mixed others
  rw [stands_picks]
  have e1 : rising (-1) row.length P = true := w1
  rw [e1, w2, List.drop_zero, decide_eq_true rfl]
  rw [List.drop_zero, List.drop_zero] at w3
  rw [decide_eq_true w3]
  rfl
end Lf
set_option maxHeartbeats 4000000
namespace Lf
def dd : List Int → List Int
  | [] => []
  | x :: r => x :: (dd r).filter fun y => decide (y ≠ x)
def isKind (kinds x : Int) : Bool := decide (0 ≤ x ∧ x < kinds)
def kindsIn (kinds : Int) (l : List Int) : Nat := (dd (l.filter (isKind kinds))).length
def CutsOk (row : List Int) (kinds : Int) : Int → List Int → Prop
  | _, [] => True
  | b, e :: r => b < e ∧ e ≤ (row.length : Int) ∧ (kindsIn kinds (cut row b e) : Int) = kinds ∧ CutsOk row kinds e r
structure MiOk (row : List Int) (kinds : Int) (cuts word : List Int) : Prop where
  len : word.length = cuts.length + 1
  kin : ∀ s ∈ word, 0 ≤ s ∧ s < kinds
  gone : isLeft row word = false
  cuts : CutsOk row kinds 0 cuts
structure Mi (row : List Int) (kinds : Int) (cuts word : List Int) (b i : Nat) (seen : List Int) : Prop where
  few : (seen.length : Int) < kinds
  small : cuts.length ≤ i
  le : b ≤ i
  li : i ≤ row.length
  len : word.length = cuts.length
  last : (b : Int) = (if h : cuts = [] then 0 else cuts.getLast h)
  kin : ∀ s ∈ word, 0 ≤ s ∧ s < kinds
  nodup : seen.Nodup
  skip : ∀ L : List Int, (word ++ L).Sublist row → L.Sublist (row.drop b)
  cok : CutsOk row kinds 0 cuts
  sn : ∀ a, a ∈ seen ↔ a ∈ cut row b i ∧ isKind kinds a = true
theorem cut_snoc {row : List Int} {b i : Nat} (h : b ≤ i) (hi : i < row.length) : cut row b ((i : Int) + 1) = cut row b i ++ [row.getD i 0] := by
  unfold cut
  rw [Int.toNat_natCast, Int.toNat_natCast, show ((i : Int) + 1).toNat - b = (i - b) + 1 by omega, List.take_succ_eq_append_getElem (by rw [List.length_drop]; omega), List.getElem_drop, List.getD_eq_getElem?_getD, List.getElem?_eq_getElem hi]
  congr 2
  have : b + (i - b) = i := by omega
  simp [this]
theorem cut_all {row : List Int} {b : Nat} : cut row b row.length = row.drop b := by
  unfold cut
  rw [Int.toNat_natCast, Int.toNat_natCast, List.take_of_length_le (by rw [List.length_drop]; exact Nat.le_refl _)]
theorem Mi.start {row : List Int} {kinds : Int} (hk : 1 ≤ kinds) : Mi row kinds [] [] 0 0 [] := by
  refine ⟨by simp; omega, Nat.le_refl _, Nat.le_refl _, Nat.zero_le _, rfl, rfl, by simp, by simp, fun L h => by simpa using h, trivial, fun a => ?_⟩
  have : cut row ((0 : Nat) : Int) ((0 : Nat) : Int) = [] := cut_none (Int.le_refl _)
  rw [this]; simp
theorem Mi.more {row : List Int} {kinds : Int} {cuts word : List Int} {b i : Nat} {seen seen' : List Int} (M : Mi row kinds cuts word b i seen) (hi : i < row.length) (h : isKind kinds (row.getD i 0) = true) (hs : row.getD i 0 ∉ seen) (e : seen' = seen ++ [row.getD i 0]) (hf : (seen'.length : Int) < kinds) : Mi row kinds cuts word b (i + 1) seen' := by
  subst e
  refine ⟨hf, by have := M.small; omega, by have := M.le; omega, hi, M.len, M.last, M.kin, ?_, M.skip, M.cok, fun a => ?_⟩
  · rw [List.nodup_append]
    refine ⟨M.nodup, by simp, fun x hx y hy => ?_⟩
    have : y = row.getD i 0 := by simpa using hy
    rw [this]
    exact fun z => hs (z ▸ hx)
  · rw [show ((i + 1 : Nat) : Int) = (i : Int) + 1 by omega, cut_snoc M.le hi, List.mem_append, List.mem_append, M.sn a, List.mem_singleton]
    constructor
    · rintro (h1 | h1)
      · exact ⟨.inl h1.1, h1.2⟩
      · exact ⟨.inr h1, by rw [h1]; exact h⟩
    · rintro ⟨h1 | h1, h2⟩
      · exact .inl ⟨h1, h2⟩
      · exact .inr h1
theorem Mi.done {row : List Int} {kinds : Int} {cuts word : List Int} {b : Nat} {seen : List Int} {u : Int} (M : Mi row kinds cuts word b row.length seen) (h1 : 0 ≤ u) (h2 : u < kinds) (hu : u ∉ seen) : MiOk row kinds cuts (word ++ [u]) := by
  refine ⟨by rw [List.length_append, M.len]; rfl, fun s hs => ?_, ?_, M.cok⟩
  · rcases List.mem_append.mp hs with q | q
    · exact M.kin s q
    · have : s = u := by simpa using q
      rw [this]; exact ⟨h1, h2⟩
  · rw [Bool.eq_false_iff]
    intro z
    have := M.skip [u] ((isLeft_iff _ _).mp z)
    have m := List.singleton_sublist.mp this
    refine hu ((M.sn u).mpr ⟨?_, decide_eq_true ⟨h1, h2⟩⟩)
    rw [cut_all]; exact m
end Lf
set_option maxRecDepth 100000
set_option maxHeartbeats 4000000
namespace L2
open PySem PySem.Spec PyProof.Rows
section
variable {σ : St} {H H' : Hp} {Q : VK} {D : Ends} {K : PySem.W.Frag} {X : Cx}
theorem shaped_dP (p : Int × Int) : SeqAt.shaped (dP p) = true := by
  obtain ⟨a, b⟩ := p
  rfl
theorem RdV.pair {t : Addr} {i j : Int} (ht : H t = some (.tup [.int i, .int j])) : RdV K H (.ref t) (dP (i, j)) := .tup (SqT.of ht) (.cons (.int i) (.cons (.int j) .nil))
theorem r_neP {s t : Addr} {i j k l : Int} (h1 : H s = some (.tup [.int i, .int j])) (h2 : H t = some (.tup [.int k, .int l])) (h : Q (.bl (!decide ((i, j) = (k, l)))) H) : rNe (.ref s) (.ref t) H Q ∨ rEqD K true (.ref s) (.ref t) H Q :=
  .inr ⟨_, _, RdV.pair h1, RdV.pair h2, shaped_dP _, shaped_dP _, by rw [if_pos rfl, eqv_dP]; exact h⟩
def GD (Q : VK) (x y : V) (H2 : Hp) : Prop := ∃ a v, x = .ref a ∧ DGet H2 a y (some v) ∧ Q v H2
theorem r_dget {td ty : TE} (h : td σ H fun x H1 => ty σ H1 fun y H2 => GD Q x y H2) : tDGet td ty σ H Q := h
theorem r_GDT {a t : Addr} {i j : Int} {v : V} {kvs : List (List Key × V)} (ha : H a = some (.dT kvs)) (ht : H t = some (.tup [.int i, .int j])) (e : valV kvs (kP i j) = some v) (h : Q v H) : GD Q (.ref a) (.ref t) H :=
  ⟨a, v, rfl, by rw [← e]; exact DGet.t (k := kP i j) ha ht, h⟩
theorem r_lofV {l : Addr} {xs : List V} (hs : H l = some (.lst xs)) (h : ∀ p, H p = none → Q (.ref p) (upd H p (.lst xs))) : rLOf K [.ref l] H Q := ⟨l, xs, rfl, .inl (SqL.of hs), h⟩
theorem r_dictK {p : Addr} {ts : List Addr} {kvs : List (Key × V)} (hp : H p = some (.lst (ts.map V.ref))) (hl : ts.length = kvs.length) (hz : kvs.length ≤ 1000000) (ht : ∀ (i : Nat) t, ts[i]? = some t → ∃ kv, kvs[i]? = some kv ∧ H t = some (.tup [kV kv.1, kv.2]))
    (h : ∀ d, H d = none → Q (.ref d) (upd H d (.dK (mergeK [] kvs)))) : rDictK [.ref p] H Q := ⟨p, ts, kvs, rfl, hp, hl, hz, ht, h⟩
theorem r_dictT {p : Addr} {ts : List Addr} {kvs : List (List Key × V)} (hp : H p = some (.lst (ts.map V.ref))) (hl : ts.length = kvs.length) (hz : kvs.length ≤ 1000000) (ht : ∀ (i : Nat) t, ts[i]? = some t → ∃ kv u, kvs[i]? = some kv ∧ H t = some (.tup [.ref u, kv.2]) ∧ H u = some (.tup (kv.1.map kV)))
    (h : ∀ d, H d = none → Q (.ref d) (upd H d (.dT (mergeT [] kvs)))) : rDictT [.ref p] H Q := ⟨p, ts, kvs, rfl, hp, hl, hz, ht, h⟩
theorem valV_mergeK : ∀ (more kvs : List (Key × V)) (k : Key), (valV (mergeK kvs more) k).isSome = true ↔ (valV kvs k).isSome = true ∨ k ∈ more.map Prod.fst
  | [], kvs, k => by simp [mergeK]
  | p :: r, kvs, k => by
    have ih := valV_mergeK r (putK kvs p.1 p.2) k
    show (valV (mergeK (putK kvs p.1 p.2) r) k).isSome = true ↔ _
    rw [ih, valV_put, List.map_cons, List.mem_cons]
    by_cases e : k = p.1
    · rw [if_pos e]; simp [e]
    · rw [if_neg e]; simp [e]
theorem valV_mergeT : ∀ (more kvs : List (List Key × V)) (k : List Key), (valV (mergeT kvs more) k).isSome = true ↔ (valV kvs k).isSome = true ∨ k ∈ more.map Prod.fst
  | [], kvs, k => by simp [mergeT]
  | p :: r, kvs, k => by
    have ih := valV_mergeT r (putK kvs p.1 p.2) k
    show (valV (mergeT (putK kvs p.1 p.2) r) k).isSome = true ↔ _
    rw [ih, valV_put, List.map_cons, List.mem_cons]
    by_cases e : k = p.1
    · rw [if_pos e]; simp [e]
    · rw [if_neg e]; simp [e]
theorem putT_keys {kvs : List (List Key × V)} {k q : List Key} {v : V} (h : k ∈ (putK kvs q v).map Prod.fst) : k ∈ kvs.map Prod.fst ∨ k = q := by
  unfold putK at h
  split at h
  · refine .inl ?_
    rw [List.map_map] at h
    have e : ((kvs.map (Prod.fst ∘ fun kv => if kv.1 = q then (kv.1, v) else kv))) = kvs.map Prod.fst := List.map_congr_left fun x _ => by
      show (if x.1 = q then (x.1, v) else x).1 = x.1
      split <;> rfl
    rw [e] at h
    exact h
  · rw [List.map_append] at h
    rcases List.mem_append.mp h with z | z
    · exact .inl z
    · exact .inr (by simpa using z)
theorem mergeT_keys : ∀ (more kvs : List (List Key × V)) (k : List Key), k ∈ (mergeT kvs more).map Prod.fst → k ∈ kvs.map Prod.fst ∨ k ∈ more.map Prod.fst
  | [], kvs, k, h => .inl h
  | p :: r, kvs, k, h => by
    rcases mergeT_keys r (putK kvs p.1 p.2) k h with q | q
    · rcases putT_keys q with z | z
      · exact .inl z
      · exact .inr (by rw [z]; simp)
    · exact .inr (List.mem_cons_of_mem _ q)
end
end L2
namespace L2
open PySem PySem.Spec PyProof.Rows
abbrev kPp (q : Int × Int) : List Key := kP q.1 q.2
structure ParOk (H : Hp) (kvs : List (List Key × V)) (par : Int × Int → Option (Int × Int)) : Prop where
  no : ∀ p, par p = none → valV kvs (kPp p) = none
  yes : ∀ p q, par p = some q → ∃ t, valV kvs (kPp p) = some (.ref t) ∧ H t = some (.tup [.int q.1, .int q.2])
section
variable {H H' : Hp}
theorem ParOk.same {kvs : List (List Key × V)} {par : Int × Int → Option (Int × Int)} (A : ParOk H kvs par) (h : ∀ t xs, H t = some (.tup xs) → H' t = some (.tup xs)) : ParOk H' kvs par :=
  ⟨A.no, fun p q e => let ⟨t, h1, h2⟩ := A.yes p q e; ⟨t, h1, h _ _ h2⟩⟩
theorem ParOk.some_iff {kvs : List (List Key × V)} {par : Int × Int → Option (Int × Int)} (A : ParOk H kvs par) (p : Int × Int) : (valV kvs (kPp p)).isSome = (par p).isSome := by
  cases e : par p with
  | none => rw [A.no p e]; rfl
  | some q =>
    obtain ⟨t, h1, _⟩ := A.yes p q e
    rw [h1]; rfl
theorem kPp_inj {p q : Int × Int} : kPp p = kPp q ↔ p = q := kP_inj
theorem ParOk.put {kvs : List (List Key × V)} {par : Int × Int → Option (Int × Int)} (A : ParOk H kvs par) {q pair : Int × Int} {t : Addr} (ht : H t = some (.tup [.int pair.1, .int pair.2])) : ParOk H (putK kvs (kPp q) (.ref t)) (fun p => if p = q then some pair else par p) := by
  refine ⟨fun p e => ?_, fun p r e => ?_⟩
  · rw [valV_put]
    by_cases z : p = q
    · rw [if_pos z] at e; cases e
    · rw [if_neg z] at e
      rw [if_neg fun c => z (kPp_inj.mp c)]
      exact A.no p e
  · rw [valV_put]
    by_cases z : p = q
    · rw [if_pos z] at e
      cases e
      exact ⟨t, by rw [if_pos (by rw [z])], ht⟩
    · rw [if_neg z] at e
      rw [if_neg fun c => z (kPp_inj.mp c)]
      exact A.yes p r e
theorem put_new {kvs : List (List Key × V)} {k : List Key} {v : V} (h : (valV kvs k).isSome = false) : putK kvs k v = kvs ++ [(k, v)] := by
  unfold putK
  rw [valV_any, h, if_neg (by decide)]
theorem Prs.off {p d : Addr} {ts : List Addr} {ps : List (Int × Int)} {o : HO} (T : Prs H p ts ps) (h1 : p ≠ d) (h2 : ∀ t ∈ ts, t ≠ d) : Prs (upd H d o) p ts ps :=
  ⟨upd_keepNe T.at_ h1, T.len, fun i t ht => upd_keepNe (T.row i t ht) (h2 t (List.mem_of_getElem? ht))⟩
theorem Prs.but {ls : List Addr} {p : Addr} {ts : List Addr} {ps : List (Int × Int)} (T : Prs H p ts ps) (s : SameBut ls H H') (h1 : p ∉ ls) (h2 : ∀ t ∈ ts, t ∉ ls) : Prs H' p ts ps :=
  ⟨s.at T.at_ h1, T.len, fun i t ht => s.at (T.row i t ht) (h2 t (List.mem_of_getElem? ht))⟩
theorem Prs.mem {p : Addr} {ts : List Addr} {ps : List (Int × Int)} (T : Prs H p ts ps) {t : Addr} (h : t ∈ ts) : ∃ i j, H t = some (.tup [.int i, .int j]) := by
  obtain ⟨n, hn⟩ := List.getElem?_of_mem h
  exact ⟨_, _, T.row n t hn⟩
end
end L2
namespace L2
open PySem PySem.Spec PyProof.Rows
theorem valV_mem {kvs : List (List Key × V)} {k : List Key} (h : (valV kvs k).isSome = true) : ∃ kv ∈ kvs, kv.1 = k := by
  unfold valV at h
  rw [Option.isSome_map, List.find?_isSome] at h
  obtain ⟨kv, h1, h2⟩ := h
  exact ⟨kv, h1, of_decide_eq_true h2⟩
end L2
set_option maxRecDepth 100000
set_option maxHeartbeats 4000000
namespace My
open PySem PySem.Spec PyProof.Rows L2
abbrev body := PySem.Challenge.pw_leftin_k05_whole_mixed.main.body
seal PE PT PW PA PS PSs PC PG PGs PSet PIp PGet PI OpR UnR CallR TruR PK PO SlR IxR MtR PPs
local macro_rules | `(tactic| walk_at "nn") => `(tactic| omega)
local macro_rules | `(tactic| walk_at "sm") => `(tactic| first | with_reducible exact Same.refl _ | with_reducible assumption | ((with_reducible refine same_upd ?_ ?_); walk_at "sm"; walk_at "fr") | ((with_reducible apply same_trans); (focus with_reducible assumption); walk_at "sm"))
local macro_rules | `(tactic| walk_at "ce") => `(tactic| first | rfl | (dsimp only [cxComp]; done) | (dsimp only [cxComp]; rfl))
local macro_rules | `(tactic| walk_at "ci") => `(tactic| first | (show (0 : Int) < _; omega) | exact ⟨by omega, by omega⟩ | exact mul2Ok | exact ⟨by decide, by decide, by decide⟩)
local macro_rules | `(tactic| walk_at "fr1") => `(tactic| first | with_reducible assumption | ((with_reducible apply free_upd); first | with_reducible assumption | ((with_reducible apply free_upd); first | with_reducible assumption | ((with_reducible apply free_upd); first | with_reducible assumption | ((with_reducible apply free_upd); first | with_reducible assumption | ((with_reducible apply free_upd); first | with_reducible assumption | ((with_reducible apply free_upd); first | with_reducible assumption | ((with_reducible apply free_upd); first | with_reducible assumption | ((with_reducible apply free_upd); first | with_reducible assumption | ((with_reducible apply free_upd); first | with_reducible assumption | ((with_reducible apply free_upd); first | with_reducible assumption | ((with_reducible apply free_upd); first | with_reducible assumption | ((with_reducible apply free_upd); first | with_reducible assumption | ((with_reducible apply free_upd); with_reducible assumption))))))))))))))
local macro_rules | `(tactic| walk_at "fr") => `(tactic| first | walk_at "fr1" | ((with_reducible apply free_of); (focus with_reducible assumption); walk_at "sm") | ((with_reducible apply Same.free); (focus with_reducible assumption); walk_at "fr1"))
local macro_rules | `(tactic| walk_at "ft") => `(tactic| first
  | with_reducible assumption
  | with_reducible exact upd_same
  | ((with_reducible apply SqL.of); first | with_reducible assumption | with_reducible exact upd_same)
  | ((with_reducible apply mk_keep); (focus with_reducible assumption); (focus with_reducible assumption); walk_at "ft")
  | ((with_reducible apply mk_sq); (focus with_reducible assumption); (focus with_reducible assumption); walk_at "ft")
  | ((with_reducible apply upd_keepA); (focus with_reducible assumption); walk_at "ft")
  | ((with_reducible apply sq_keepA); (focus with_reducible assumption); walk_at "ft")
  | ((with_reducible apply Same.at); (focus with_reducible assumption); walk_at "ft")
  | ((with_reducible apply Same.seq); (focus with_reducible assumption); walk_at "ft")
  | ((with_reducible apply upd_keepNeA); (focus walk_at "ne"); walk_at "ft")
  | ((with_reducible apply sq_keepNeA); (focus walk_at "ne"); walk_at "ft")
  | assumption
  | exact upd_same)
local macro_rules | `(tactic| walk_at "ne") => `(tactic| first | with_reducible assumption | ((with_reducible apply Ne.symm); with_reducible assumption) | ((with_reducible apply ne_upd); with_reducible assumption) | ((with_reducible apply Ne.symm); (with_reducible apply ne_upd); with_reducible assumption) | ((with_reducible apply ne_of_none); rotate_left; (focus walk_at "fr"); walk_at "ft") | ((with_reducible apply Ne.symm); (with_reducible apply ne_of_none); rotate_left; (focus walk_at "fr"); walk_at "ft"))
local macro_rules | `(tactic| walk_at "rd1") => `(tactic| first
  | with_reducible refine iteTeF ?_ | with_reducible refine iteFeT ?_ | with_reducible refine iteTeT ?_ | with_reducible refine iteFeF ?_ | with_reducible refine iteTnT ?_ | with_reducible refine iteFnF ?_ | with_reducible refine iteTnF ?_ | with_reducible refine iteFnT ?_ | with_reducible refine iteNBB ?_ | with_reducible refine iteNDD ?_ | with_reducible refine iteDD ?_
  | with_reducible refine iteT ?_ | with_reducible refine iteF ?_ | with_reducible refine iteNT ?_ | with_reducible refine iteNF ?_
  | with_reducible refine r_seq ?_ | with_reducible refine r_asg ?_ | ((with_reducible refine r_name ?_); first | (dsimp only [inner]; dsimp only [List.replicate, List.map, List.cons_append, List.nil_append, List.getElem?_cons_zero, List.getElem?_cons_succ, Option.join_some, List.set]) | dsimp only [List.set] | skip) | with_reducible refine r_ifs ?_ | with_reducible refine r_ret ?_ | with_reducible refine r_next ?_ | with_reducible refine r_drop ?_
  | with_reducible refine r_break ?_ | with_reducible refine r_cont ?_ | ((with_reducible show tVar _ _ _ _); refine r_var rfl ?_) | with_reducible refine r_c ?_ | with_reducible refine r_op ?_ | with_reducible refine r_un ?_ | with_reducible refine r_cb ?_
  | with_reducible refine r_cons ?_ | with_reducible refine r_nil ?_ | with_reducible refine r_test ?_ | with_reducible refine r_tB ?_ | with_reducible refine r_bl ?_ | with_reducible refine r_not ?_ | with_reducible refine r_and ?_ | with_reducible refine r_or ?_
  | with_reducible refine r_andV ?_ | with_reducible refine r_orV ?_ | with_reducible refine r_notV ?_ | with_reducible refine r_call ?_ | with_reducible refine r_chain ?_ | with_reducible refine r_lst ?_ | with_reducible refine r_tup ?_
  | with_reducible refine r_sl ?_ | with_reducible refine r_sl3 ?_ | with_reducible refine r_part ?_ | with_reducible refine r_noPart ?_ | with_reducible refine r_int ?_ | with_reducible refine r_comp ?_ | with_reducible refine r_for ?_ | with_reducible refine r_iList ?_
  | with_reducible refine r_iZip ?_ | with_reducible refine r_iEnum ?_ | with_reducible refine r_iRng1 ?_ | with_reducible refine r_tBM ?_ | with_reducible refine r_tBM0 ?_ | with_reducible refine r_new0 ?_ | with_reducible refine r_new1 ?_ | with_reducible refine r_new2 ?_ | with_reducible refine r_new3 ?_ | with_reducible refine r_new4 ?_ | with_reducible refine r_new5 ?_ | ((with_reducible refine r_newL ?_ ?_); (· first | decide | (simp; done) | (simp; omega))) | ((with_reducible refine r_newT ?_ ?_); (· first | decide | (simp; done) | (simp; omega)))
  | ((with_reducible apply r_AtL); walk_at "ft") | ((with_reducible apply r_AtZ); walk_at "ft"; walk_at "ft") | ((with_reducible apply r_AtE); walk_at "ft")
  | ((with_reducible refine r_rI ?_ ?_); (· walk_at "ci")) | with_reducible refine r_rI0 ?_ | with_reducible refine r_rU ?_ | with_reducible refine r_addI ?_ | with_reducible refine r_eqI ?_ | with_reducible refine r_neI ?_ | with_reducible refine r_eqB ?_ | with_reducible refine r_neB ?_ | with_reducible refine r_isB ?_ | with_reducible refine r_isnotB ?_
  | ((with_reducible apply r_lenI); walk_at "ft") | ((with_reducible apply r_lenD); walk_at "ft")
  | ((with_reducible apply r_eqL); walk_at "ft"; walk_at "ft") | ((with_reducible apply r_neL); walk_at "ft"; walk_at "ft")
  | ((with_reducible apply r_inI); walk_at "ft") | ((with_reducible apply r_notInI); walk_at "ft")
  | ((with_reducible apply r_slNeg1); walk_at "ft") | ((with_reducible apply r_slTo); walk_at "ft"; (focus walk_at "nn")) | ((with_reducible apply r_slFrom); walk_at "ft"; (focus walk_at "nn")) | ((with_reducible apply r_slMid); walk_at "ft"; (focus walk_at "nn"); (focus walk_at "nn"))
  | ((with_reducible apply r_lofI); walk_at "ft") | with_reducible refine r_new0 ?_ | with_reducible refine r_new1 ?_ | with_reducible refine r_new2 ?_ | with_reducible refine r_new3 ?_ | with_reducible refine r_new4 ?_ | with_reducible refine r_new5 ?_
  | ((with_reducible apply r_rev); walk_at "ft") | ((with_reducible apply r_ev); walk_at "ft") | ((with_reducible apply r_od); walk_at "ft")
  | ((with_reducible apply r_AtM); walk_at "ft")
  | with_reducible refine r_dget2 ?_ | ((with_reducible apply r_AtD2); walk_at "ft") | ((with_reducible apply r_DG2); walk_at "ft") | with_reducible refine r_dput ?_ | with_reducible refine r_dnewK ?_ | with_reducible refine r_par ?_ | ((with_reducible refine r_Par2 ?_); dsimp only [List.set])
  | ((with_reducible apply r_isi_tt); (focus walk_at "ft"))
  | with_reducible refine r_isi_ii ?_ | with_reducible refine r_isi_ib ?_ | ((with_reducible apply r_isi_ll); walk_at "ft")
  | ((with_reducible apply r_sum); walk_at "ft") | ((with_reducible apply r_ixLit); (focus walk_at "ft"); (focus rfl))
  | ((with_reducible refine r_eiL ?_); (with_reducible refine r_meth ?_); ((with_reducible show tVar _ _ _ _); refine r_var rfl ?_); ((with_reducible apply r_AtMe); (focus walk_at "ft"); (focus first | with_reducible assumption | rfl))) | with_reducible refine r_eiR ?_
  | ((with_reducible apply r_any3F); (focus walk_at "ft")) | ((with_reducible apply r_any2F); (focus walk_at "ft"))
  | with_reducible refine r_max2 ?_ | with_reducible refine r_par3 ?_ | ((with_reducible refine r_Par3 ?_); dsimp only [List.set])
  | with_reducible refine r_din ?_ | with_reducible refine r_dnotin ?_ | with_reducible refine r_dnewT ?_
  | with_reducible refine r_gsub ?_ | with_reducible refine r_lr1 ?_ | with_reducible refine r_lr2 ?_
  | with_reducible refine r_fld ?_ | ((with_reducible apply r_AtF); (focus walk_at "ft"); (focus assumption); (focus assumption); (focus first | with_reducible assumption | rfl)) | with_reducible refine r_sfld ?_ | ((with_reducible apply r_SetF); (focus walk_at "ft"); (focus assumption); (focus assumption); (focus first | (show _ < 1000; decide) | exact (show 1 < 1000 by decide) | exact (show 2 < 1000 by decide) | exact (show 3 < 1000 by decide)))
  | with_reducible refine r_meth ?_ | ((with_reducible apply r_AtMe); (focus walk_at "ft"); (focus first | with_reducible assumption | rfl)) | with_reducible refine r_make ?_ | ((with_reducible apply r_isi_cls); (focus walk_at "ft"); (focus assumption); (focus assumption))
  | with_reducible refine r_iRng3 ?_ | ((with_reducible show tAug _ _ _ _ _ _); refine r_aug rfl ?_; dsimp only [List.set]) | with_reducible refine r_ipI ?_ | with_reducible refine r_augS ?_
  | with_reducible refine r_iKeys ?_ | with_reducible refine r_dget ?_
  | with_reducible refine r_gCons ?_ | with_reducible refine r_gNil ?_ | ((with_reducible apply r_gTup); walk_at "ft"; rfl))
local macro_rules | `(tactic| walk_at "rd") => `(tactic| repeat walk_at "rd1")

abbrev s_is_whole : Stmt := body.getD 5 (.Pass ⟨0, 0, 0, 0⟩)
abbrev N_is_whole : List Str := ["value"]
abbrev P_is_whole : List Str := ["value"]
theorem sc_is_whole : FnScope N_is_whole P_is_whole (defScope s_is_whole) := ⟨rfl, rfl, rfl, by decide, rfl, by decide, by decide⟩
section
variable {P : Program} {w : World} {K : PySem.W.Frag} {mg : Str → Option Value} {base : Heap} {f : Addr} {fd : FuncData}
def sp_is_whole : Sp := fun vs H Q _ => ∃ z : Int, vs = [.int z] ∧ Q (.bl true) H
theorem ok_is_whole (F : Fun K "is_whole" "is_whole" s_is_whole f fd) (T : Blt mg) : FnOk P w K mg base CX0 1 f fd P_is_whole sp_is_whole := by
  refine F.ok sc_is_whole (fun vs H Q E h => ?_) (fun cdv A outer s H vs Q E hr h => ?_)
  · obtain ⟨_, rfl, _⟩ := h
    rfl
  · obtain ⟨z, rfl, k⟩ := h
    have nd := sc_is_whole.nd
    have hu := hr.units
    refine ⟨_, (pss_one (ps_ret (pe_and (pe_callB call_isinst rfl T.no_isinstance boot_isinstance (pa_cons (pv 0) (pa_cons (pe_bty rfl T.no_int boot_int) pa_nil))) (pe_one (pe_not (pe_callB call_isinst rfl T.no_isinstance boot_isinstance (pa_cons (pv 0) (pa_cons (pe_bty rfl T.no_bool boot_bool) pa_nil)))))))), ?_⟩
    try simp only [show (cxOf CX0 P w K mg base N_is_whole "is_whole" (defScope s_is_whole) f cdv A outer s H E).nox.K = K from rfl, show (cxOf CX0 P w K mg base N_is_whole "is_whole" (defScope s_is_whole) f cdv A outer s H E).K = K from rfl]
    rw [show L2.start N_is_whole [V.int z] = [some (V.int z)] from rfl]
    walk_at "rd"
    exact k
end

abbrev s_is_count : Stmt := body.getD 6 (.Pass ⟨0, 0, 0, 0⟩)
abbrev N_is_count : List Str := ["value", "most"]
abbrev P_is_count : List Str := ["value", "most"]
theorem sc_is_count : FnScope N_is_count P_is_count (defScope s_is_count) := ⟨rfl, rfl, rfl, by decide, rfl, by decide, by decide⟩
section
variable {P : Program} {w : World} {K : PySem.W.Frag} {mg : Str → Option Value} {base : Heap} {f f2 : Addr} {fd fd2 : FuncData}
def sp_is_count : Sp := fun vs H Q _ => ∃ z m : Int, vs = [.int z, .int m] ∧ Q (.bl (decide (0 ≤ z ∧ z ≤ m))) H
theorem ok_is_count (F : Fun K "is_count" "is_count" s_is_count f fd) (T : Blt mg) (C_is_whole : Cal K mg "is_whole" f2 fd2 P_is_whole) (G_is_whole : FnOk P w K mg base CX0 1 f2 fd2 P_is_whole sp_is_whole) : FnOk P w K mg base CX0 2 f fd P_is_count sp_is_count := by
  refine F.ok sc_is_count (fun vs H Q E h => ?_) (fun cdv A outer s H vs Q E hr h => ?_)
  · obtain ⟨_, _, rfl, _⟩ := h
    rfl
  · obtain ⟨z, m, rfl, k⟩ := h
    have nd := sc_is_count.nd
    have hu := hr.units
    refine ⟨_, (pss_one (ps_ret (pe_and (pe_call G_is_whole (hr.mono (by decide)) rfl C_is_whole.mg C_is_whole.kp C_is_whole.b .nil pass0 (pa_cons (pv 0) pa_nil)) (pe_one (pe_chain op_le op_le pe_int (pv 0) (pv 1)))))), ?_⟩
    try simp only [show (cxOf CX0 P w K mg base N_is_count "is_count" (defScope s_is_count) f cdv A outer s H E).nox.K = K from rfl, show (cxOf CX0 P w K mg base N_is_count "is_count" (defScope s_is_count) f cdv A outer s H E).K = K from rfl]
    rw [show L2.start N_is_count [V.int z, V.int m] = [some (V.int z), some (V.int m)] from rfl]
    walk_at "rd"
    refine ⟨z, rfl, ?_⟩
    walk_at "rd"
    refine iteD (fun h1 => ?_) (fun h1 => ?_)
    · walk_at "rd"
      have e : decide (0 ≤ z ∧ z ≤ m) = decide (z ≤ m) := by
        by_cases h2 : z ≤ m
        · rw [decide_eq_true h2, decide_eq_true ⟨h1, h2⟩]
        · rw [decide_eq_false h2, decide_eq_false fun q => h2 q.2]
      rw [e] at k
      exact k
    · walk_at "rd"
      rw [decide_eq_false fun q => h1 q.1] at k
      exact k
end

abbrev s_is_row : Stmt := body.getD 7 (.Pass ⟨0, 0, 0, 0⟩)
abbrev N_is_row : List Str := ["value"]
abbrev P_is_row : List Str := ["value"]
theorem sc_is_row : FnScope N_is_row P_is_row (defScope s_is_row) := ⟨rfl, rfl, rfl, by decide, rfl, by decide, by decide⟩
section
variable {P : Program} {w : World} {K : PySem.W.Frag} {mg : Str → Option Value} {base : Heap} {f f2 : Addr} {fd fd2 : FuncData}
def sp_is_row : Sp := fun vs H Q _ => ∃ (a : Addr) (ns : List Int), vs = [.ref a] ∧ H a = some (.lst (ns.map V.int)) ∧ ns.length ≤ 1000000 ∧ ∀ H', Same H H' → Q (.bl true) H'
theorem ok_is_row (F : Fun K "is_row" "is_row" s_is_row f fd) (T : Blt mg) (C_is_whole : Cal K mg "is_whole" f2 fd2 P_is_whole) (G_is_whole : FnOk P w K mg base CX0 1 f2 fd2 P_is_whole sp_is_whole) : FnOk P w K mg base CX0 2 f fd P_is_row sp_is_row := by
  refine F.ok sc_is_row (fun vs H Q E h => ?_) (fun cdv A outer s H vs Q E hr h => ?_)
  · obtain ⟨_, _, rfl, _⟩ := h
    rfl
  · obtain ⟨a, ns, rfl, ha, hn, k⟩ := h
    have nd := sc_is_row.nd
    have hu := hr.units
    refine ⟨_, (pss_one (ps_ret (pe_and (pe_callB call_isinst rfl T.no_isinstance boot_isinstance (pa_cons (pv 0) (pa_cons (pe_bty rfl T.no_list boot_list) pa_nil))) (pe_one (pe_callB (call_allB rfl) rfl T.no_all boot_all (pa_cons (pe_comp (N := ["sign"]) (k := 1) (caps := []) (Block.of (by kernel_rfl)) rfl (pi_list (pv 0)) (fun _ _ _ _ => ⟨_, (pg_name (i := 0) (by show List.Nodup (["sign"] : List Str); decide) rfl (by first | exact Or.inl rfl | exact Or.inr rfl)), by walk_at "ce"⟩) (fun _ _ _ _ => ⟨_, PIfs.none, by walk_at "ce"⟩) (fun _ _ _ _ => ⟨_, (pe_call G_is_whole (hr.mono (by decide)) rfl C_is_whole.mg C_is_whole.kp C_is_whole.b .nil pass0 (pa_cons (pv 0) pa_nil)), by walk_at "ce"⟩)) pa_nil)))))), ?_⟩
    try simp only [show (cxOf CX0 P w K mg base N_is_row "is_row" (defScope s_is_row) f cdv A outer s H E).nox.K = K from rfl, show (cxOf CX0 P w K mg base N_is_row "is_row" (defScope s_is_row) f cdv A outer s H E).K = K from rfl]
    rw [show L2.start N_is_row [V.ref a] = [some (V.ref a)] from rfl]
    walk_at "rd"
    refine comp_map (ov_ints (ns := ns)) (fun _ => .bl true) (fun H' s' => s'.seq (SqL.of ha)) hn ?_ ?_
    · rintro i z x H3 H4 R R' hi s3 ⟨rfl, rfl⟩ h1
      walk_at "rd"
      refine ⟨⟨rfl, rfl⟩, ?_⟩
      walk_at "rd"
      exact ⟨z, rfl, h1 _ (Same.refl _)⟩
    · intro D H' hD s' hd
      walk_at "rd"
      refine ⟨D, ns.map (fun _ => true), rfl, SqL.of ?_, ?_⟩
      · rw [hd]
        rw [List.map_map]; rfl
      · rw [all_true]
        exact k _ s'
end

abbrev s_checked_row : Stmt := body.getD 8 (.Pass ⟨0, 0, 0, 0⟩)
abbrev N_checked_row : List Str := ["value"]
abbrev P_checked_row : List Str := ["value"]
theorem sc_checked_row : FnScope N_checked_row P_checked_row (defScope s_checked_row) := ⟨rfl, rfl, rfl, by decide, rfl, by decide, by decide⟩
section
variable {P : Program} {w : World} {K : PySem.W.Frag} {mg : Str → Option Value} {base : Heap} {f f2 : Addr} {fd fd2 : FuncData}
def sp_checked_row : Sp := fun vs H Q _ => ∃ (a : Addr) (ns : List Int), vs = [.ref a] ∧ H a = some (.lst (ns.map V.int)) ∧ ns.length ≤ 1000000 ∧ ∀ p H', H p = none → Same H H' → H' p = some (.lst (ns.map V.int)) → Q (.ref p) H'
theorem ok_checked_row (F : Fun K "checked_row" "checked_row" s_checked_row f fd) (T : Blt mg) (C_is_row : Cal K mg "is_row" f2 fd2 P_is_row) (G_is_row : FnOk P w K mg base CX0 2 f2 fd2 P_is_row sp_is_row) : FnOk P w K mg base CX0 3 f fd P_checked_row sp_checked_row := by
  refine F.ok sc_checked_row (fun vs H Q E h => ?_) (fun cdv A outer s H vs Q E hr h => ?_)
  · obtain ⟨_, _, rfl, _⟩ := h
    rfl
  · obtain ⟨a, ns, rfl, ha, hn, k⟩ := h
    have nd := sc_checked_row.nd
    have hu := hr.units
    refine ⟨_, (pss_cons (ps_if (pt_not (pt_val (pe_call G_is_row (hr.mono (by decide)) rfl C_is_row.mg C_is_row.kp C_is_row.b .nil pass0 (pa_cons (pv 0) pa_nil)))) (pss_one ps_never) pss_nil)
     (pss_one (ps_ret (pe_callTy call_listOf rfl T.no_list boot_list (pa_cons (pv 0) pa_nil))))), ?_⟩
    try simp only [show (cxOf CX0 P w K mg base N_checked_row "checked_row" (defScope s_checked_row) f cdv A outer s H E).nox.K = K from rfl, show (cxOf CX0 P w K mg base N_checked_row "checked_row" (defScope s_checked_row) f cdv A outer s H E).K = K from rfl]
    rw [show L2.start N_checked_row [V.ref a] = [some (V.ref a)] from rfl]
    walk_at "rd"
    refine ⟨a, ns, rfl, ha, hn, fun H1 s1 => ?_⟩
    walk_at "rd"
    intro p hp
    walk_at "rd"
    exact k p _ (by walk_at "fr") (by walk_at "sm") (by walk_at "ft")
end

abbrev s_are_places : Stmt := body.getD 9 (.Pass ⟨0, 0, 0, 0⟩)
abbrev N_are_places : List Str := ["places", "count", "ahead", "place"]
abbrev P_are_places : List Str := ["places", "count"]
theorem sc_are_places : FnScope N_are_places P_are_places (defScope s_are_places) := ⟨rfl, rfl, rfl, by decide, rfl, by decide, by decide⟩
section
variable {P : Program} {w : World} {K : PySem.W.Frag} {mg : Str → Option Value} {base : Heap} {f f2 : Addr} {fd fd2 : FuncData}
def sp_are_places : Sp := fun vs H Q _ => ∃ (a : Addr) (ns : List Int) (count : Int), vs = [.ref a, .int count] ∧ H a = some (.lst (ns.map V.int)) ∧ ns.length ≤ 1000000 ∧ ∀ H', Same H H' → Q (.bl (Lf.rising (-1) count ns)) H'
theorem ok_are_places (F : Fun K "are_places" "are_places" s_are_places f fd) (T : Blt mg) (C_is_row : Cal K mg "is_row" f2 fd2 P_is_row) (G_is_row : FnOk P w K mg base CX0 2 f2 fd2 P_is_row sp_is_row) : FnOk P w K mg base CX0 3 f fd P_are_places sp_are_places := by
  refine F.ok sc_are_places (fun vs H Q E h => ?_) (fun cdv A outer s H vs Q E hr h => ?_)
  · obtain ⟨_, _, _, rfl, _⟩ := h
    rfl
  · obtain ⟨a, ns, count, rfl, ha, hn, k⟩ := h
    have nd := sc_are_places.nd
    have hu := hr.units
    refine ⟨_, (pss_cons (ps_if (pt_not (pt_val (pe_call G_is_row (hr.mono (by decide)) rfl C_is_row.mg C_is_row.kp C_is_row.b .nil pass0 (pa_cons (pv 0) pa_nil)))) (pss_one (ps_ret pe_bl)) pss_nil)
     (pss_cons (ps_set (i := 2) nd rfl (by first | exact Or.inl rfl | exact Or.inr rfl) (pe_un un_neg pe_int))
     (pss_cons (ps_for PassesOwn.never rfl (pi_list (pv 0)) (pg_name (i := 3) nd rfl (by first | exact Or.inl rfl | exact Or.inr rfl)) (pss_cons (ps_if (PW.pt (pw_or (pt_cmpR op_le (pv 3) (pv 2) (nomark _)) (pw_or1 (pt_cmpR op_ge (pv 3) (pv 1) (nomark _))))) (pss_one (ps_ret pe_bl)) pss_nil)
     (pss_one (ps_set (i := 2) nd rfl (by first | exact Or.inl rfl | exact Or.inr rfl) (pv 3)))))
     (pss_one (ps_ret pe_bl))))), ?_⟩
    try simp only [show (cxOf CX0 P w K mg base N_are_places "are_places" (defScope s_are_places) f cdv A outer s H E).nox.K = K from rfl, show (cxOf CX0 P w K mg base N_are_places "are_places" (defScope s_are_places) f cdv A outer s H E).K = K from rfl]
    rw [show L2.start N_are_places [V.ref a, V.int count] = [some (V.ref a), some (V.int count), none, none] from rfl]
    walk_at "rd"
    refine ⟨a, ns, rfl, ha, hn, fun H1 s1 => ?_⟩
    walk_at "rd"
    refine for_by (ov_ints (ns := ns)) (fun i σ H2 => ∃ (ahead : Int) (v3 : Option V), σ = [some (V.ref a), some (V.int count), some (V.int ahead), v3] ∧ Same H H2 ∧ Lf.rising (-1) count ns = Lf.rising ahead count (ns.drop i)) ?_ ?_ ?_ ?_
    · exact ⟨-1, _, rfl, s1, rfl⟩
    · rintro i σ H2 _ ⟨_, _, _, s2, _⟩
      exact SqL.of (s2.at ha)
    · rintro i z x σ H2 H3 hy ⟨ahead, v3, rfl, s2, inv⟩ ⟨rfl, rfl⟩
      have step : Lf.rising ahead count (ns.drop i) = (decide (ahead < z) && decide (z < count) && Lf.rising z count (ns.drop (i + 1))) := by
        obtain ⟨l1, e1⟩ := List.getElem?_eq_some_iff.mp hy
        rw [List.drop_eq_getElem_cons l1, e1]; rfl
      walk_at "rd"
      refine iteD (fun h1 => ?_) (fun h1 => ?_)
      · walk_at "rd"
        have e : Lf.rising (-1) count ns = false := by rw [inv, step, decide_eq_false (by omega)]; rfl
        rw [← e]
        exact k _ s2
      · walk_at "rd"
        refine iteD (fun h2 => ?_) (fun h2 => ?_)
        · walk_at "rd"
          have e : Lf.rising (-1) count ns = false := by rw [inv, step, decide_eq_false (p := z < count) (by omega), Bool.and_false]; rfl
          rw [← e]
          exact k _ s2
        · walk_at "rd"
          refine ⟨z, _, rfl, s2, ?_⟩
          rw [inv, step, decide_eq_true (p := ahead < z) (by omega), decide_eq_true (p := z < count) (by omega)]
          rfl
    · rintro σ H2 ⟨ahead, v3, rfl, s2, inv⟩
      walk_at "rd"
      have e : Lf.rising (-1) count ns = true := by rw [inv, List.drop_length]; rfl
      rw [← e]
      exact k _ s2
end

abbrev s_signs_at : Stmt := body.getD 10 (.Pass ⟨0, 0, 0, 0⟩)
abbrev N_signs_at : List Str := ["row", "places"]
abbrev P_signs_at : List Str := ["row", "places"]
theorem sc_signs_at : FnScope N_signs_at P_signs_at (defScope s_signs_at) := ⟨rfl, rfl, rfl, by decide, rfl, by decide, by decide⟩
section
variable {P : Program} {w : World} {K : PySem.W.Frag} {mg : Str → Option Value} {base : Heap} {f : Addr} {fd : FuncData}
def sp_signs_at (K : PySem.W.Frag) : Sp := fun vs H Q _ => ∃ (a c : Addr) (row ps : List Int), vs = [.ref a, .ref c] ∧ SqL K H a (row.map V.int) ∧ SqL K H c (ps.map V.int) ∧ (∀ p ∈ ps, 0 ≤ p ∧ p < (row.length : Int)) ∧ ps.length ≤ 1000000 ∧ ∀ p H', H p = none → Same H H' → H' p = some (.lst ((Lf.picks row ps).map V.int)) → Q (.ref p) H'
theorem ok_signs_at (F : Fun K "signs_at" "signs_at" s_signs_at f fd) (T : Blt mg) : FnOk P w K mg base CX0 1 f fd P_signs_at (sp_signs_at K) := by
  refine F.ok sc_signs_at (fun vs H Q E h => ?_) (fun cdv A outer s H vs Q E hr h => ?_)
  · obtain ⟨_, _, _, _, rfl, _⟩ := h
    rfl
  · obtain ⟨a, c, row, ps, rfl, ha, hc, hin, hn, k⟩ := h
    have nd := sc_signs_at.nd
    have hu := hr.units
    refine ⟨_, (pss_one (ps_ret (pe_comp (N := ["place", "row"]) (k := 1) (caps := [0]) (Block.of (by kernel_rfl)) rfl (pi_list (pv 1)) (fun _ _ _ _ => ⟨_, (pg_name (i := 0) (by show List.Nodup (["place", "row"] : List Str); decide) rfl (by first | exact Or.inl rfl | exact Or.inr rfl)), by walk_at "ce"⟩) (fun _ _ _ _ => ⟨_, PIfs.none, by walk_at "ce"⟩) (fun _ _ _ _ => ⟨_, (pe_ix ix_G (pv 1) (pv 0) (fun _ _ => rfl)), by walk_at "ce"⟩)))), ?_⟩
    try simp only [show (cxOf CX0 P w K mg base N_signs_at "signs_at" (defScope s_signs_at) f cdv A outer s H E).nox.K = K from rfl, show (cxOf CX0 P w K mg base N_signs_at "signs_at" (defScope s_signs_at) f cdv A outer s H E).K = K from rfl]
    rw [show L2.start N_signs_at [V.ref a, V.ref c] = [some (V.ref a), some (V.ref c)] from rfl]
    walk_at "rd"
    refine comp_mapI (ov_ints (ns := ps)) (fun p => row.getD p.toNat 0) (fun H' s' => s'.seq hc) hn ?_ ?_
    · rintro i z x H3 H4 R R' hi s3 ⟨rfl, rfl⟩ h1
      obtain ⟨b1, b2⟩ := hin z (List.mem_of_getElem? hi)
      walk_at "rd"
      refine ⟨⟨rfl, rfl⟩, ?_⟩
      walk_at "rd"
      refine r_ixI (by walk_at "ft") b1 b2 ?_
      exact h1 _ (Same.refl _)
    · intro D H' hD s' hd
      walk_at "rd"
      exact k D H' hD s' hd
end

abbrev s_stands_at : Stmt := body.getD 11 (.Pass ⟨0, 0, 0, 0⟩)
abbrev N_stands_at : List Str := ["row", "other", "places"]
abbrev P_stands_at : List Str := ["row", "other", "places"]
theorem sc_stands_at : FnScope N_stands_at P_stands_at (defScope s_stands_at) := ⟨rfl, rfl, rfl, by decide, rfl, by decide, by decide⟩
section
variable {P : Program} {w : World} {K : PySem.W.Frag} {mg : Str → Option Value} {base : Heap} {f f2 f3 : Addr} {fd fd2 fd3 : FuncData}
def sp_stands_at (K : PySem.W.Frag) : Sp := fun vs H Q _ => ∃ (a b c : Addr) (row other ps : List Int), vs = [.ref a, .ref b, .ref c] ∧ SqL K H a (row.map V.int) ∧ SqL K H b (other.map V.int) ∧ H c = some (.lst (ps.map V.int)) ∧ ps.length ≤ 1000000 ∧ ∀ H', Same H H' → Q (.bl (Lf.stands row ps other)) H'
theorem ok_stands_at (F : Fun K "stands_at" "stands_at" s_stands_at f fd) (T : Blt mg) (C_are_places : Cal K mg "are_places" f2 fd2 P_are_places) (G_are_places : FnOk P w K mg base CX0 3 f2 fd2 P_are_places sp_are_places)
    (C_signs_at : Cal K mg "signs_at" f3 fd3 P_signs_at) (G_signs_at : FnOk P w K mg base CX0 3 f3 fd3 P_signs_at (sp_signs_at K)) : FnOk P w K mg base CX0 4 f fd P_stands_at (sp_stands_at K) := by
  refine F.ok sc_stands_at (fun vs H Q E h => ?_) (fun cdv A outer s H vs Q E hr h => ?_)
  · obtain ⟨_, _, _, _, _, _, rfl, _⟩ := h
    rfl
  · obtain ⟨a, b, c, row, other, ps, rfl, ha, hb, hc, hn, k⟩ := h
    have nd := sc_stands_at.nd
    have hu := hr.units
    refine ⟨_, (pss_one (ps_ret (pe_and (pe_call G_are_places (hr.mono (by decide)) rfl C_are_places.mg C_are_places.kp C_are_places.b .nil pass0 (pa_cons (pv 2) (pa_cons (pe_callB len_G rfl T.no_len boot_len (pa_cons (pv 0) pa_nil)) pa_nil))) (pe_one (pe_cmpR (op_eqG hu) (pe_call G_signs_at (hr.mono (by decide)) rfl C_signs_at.mg C_signs_at.kp C_signs_at.b .nil pass0 (pa_cons (pv 0) (pa_cons (pv 2) pa_nil))) (pv 1) (nomark _)))))), ?_⟩
    try simp only [show (cxOf CX0 P w K mg base N_stands_at "stands_at" (defScope s_stands_at) f cdv A outer s H E).nox.K = K from rfl, show (cxOf CX0 P w K mg base N_stands_at "stands_at" (defScope s_stands_at) f cdv A outer s H E).K = K from rfl]
    rw [show L2.start N_stands_at [V.ref a, V.ref b, V.ref c] = [some (V.ref a), some (V.ref b), some (V.ref c)] from rfl]
    walk_at "rd"
    refine ⟨c, ps, row.length, rfl, hc, hn, fun H1 s1 => ?_⟩
    rw [Lf.stands_picks] at k
    walk_at "rd"
    refine iteB (fun h1 => ?_) (fun h1 => ?_)
    · walk_at "rd"
      refine ⟨a, c, row, ps, rfl, s1.seq ha, SqL.of (s1.at hc), fun p hp => ?_, hn, fun d H2 hd s2 h2 => ?_⟩
      · have := Lf.rising_in ps _ _ h1 p hp
        omega
      have hb2 : SqL K H2 b (other.map V.int) := (s1.trans s2).seq hb
      walk_at "rd"
      rw [h1, Bool.true_and] at k
      exact k _ (s1.trans s2)
    · walk_at "rd"
      rw [h1, Bool.false_and] at k
      exact k _ s1
end

abbrev s_are_counts : Stmt := body.getD 15 (.Pass ⟨0, 0, 0, 0⟩)
abbrev N_are_counts : List Str := ["pair", "one", "other"]
abbrev P_are_counts : List Str := ["pair", "one", "other"]
theorem sc_are_counts : FnScope N_are_counts P_are_counts (defScope s_are_counts) := ⟨rfl, rfl, rfl, by decide, rfl, by decide, by decide⟩
abbrev s_pairs_after : Stmt := body.getD 16 (.Pass ⟨0, 0, 0, 0⟩)
abbrev N_pairs_after : List Str := ["pair", "row", "one", "other", "mine", "theirs", "after"]
abbrev P_pairs_after : List Str := ["pair", "row", "one", "other"]
theorem sc_pairs_after : FnScope N_pairs_after P_pairs_after (defScope s_pairs_after) := ⟨rfl, rfl, rfl, by decide, rfl, by decide, by decide⟩
abbrev s_is_followed : Stmt := body.getD 17 (.Pass ⟨0, 0, 0, 0⟩)
abbrev N_is_followed : List Str := ["pair", "known", "row", "one", "other"]
abbrev P_is_followed : List Str := ["pair", "known", "row", "one", "other"]
theorem sc_is_followed : FnScope N_is_followed P_is_followed (defScope s_is_followed) := ⟨rfl, rfl, rfl, by decide, rfl, by decide, by decide⟩
section
variable {P : Program} {w : World} {K : PySem.W.Frag} {mg : Str → Option Value} {base : Heap} {f f1 f2 : Addr} {fd fd1 fd2 : FuncData}
def sp_are_counts : Sp := fun vs H Q _ => ∃ (t a b : Addr) (i j : Int) (one other : List Int), vs = [.ref t, .ref a, .ref b] ∧ H t = some (.tup [.int i, .int j]) ∧ H a = some (.lst (one.map V.int)) ∧ H b = some (.lst (other.map V.int)) ∧ Q (.bl (decide ((0 ≤ i ∧ i ≤ (one.length : Int)) ∧ 0 ≤ j ∧ j ≤ (other.length : Int)))) H
theorem ok_are_counts (F : Fun K "are_counts" "are_counts" s_are_counts f fd) (T : Blt mg) (C_is_count : Cal K mg "is_count" f1 fd1 P_is_count) (G_is_count : FnOk P w K mg base CX0 2 f1 fd1 P_is_count sp_is_count) : FnOk P w K mg base CX0 3 f fd P_are_counts sp_are_counts := by
  refine F.ok sc_are_counts (fun vs H Q E h => ?_) (fun cdv A outer s H vs Q E hr h => ?_)
  · obtain ⟨_, _, _, _, _, _, _, rfl, _⟩ := h
    rfl
  · obtain ⟨t, a, b, i, j, one, other, rfl, ht, ha, hb, k⟩ := h
    have nd := sc_are_counts.nd
    have hu := hr.units
    refine ⟨_, (pss_cons (ps_if (PW.pt (pw_or (pt_not (pt_val (pe_callB call_isinst rfl T.no_isinstance boot_isinstance (pa_cons (pv 0) (pa_cons (pe_bty rfl T.no_tuple boot_tuple) pa_nil))))) (pw_or1 (pt_cmpR (op_neG hu) (pe_callB len_G rfl T.no_len boot_len (pa_cons (pv 0) pa_nil)) pe_int (nomark _))))) (pss_one (ps_ret pe_bl)) pss_nil)
     (pss_one (ps_ret (pe_and (pe_call G_is_count (hr.mono (by decide)) rfl C_is_count.mg C_is_count.kp C_is_count.b .nil pass0 (pa_cons (pe_ix ix_G (pv 0) pe_int (fun _ _ => rfl)) (pa_cons (pe_callB len_G rfl T.no_len boot_len (pa_cons (pv 1) pa_nil)) pa_nil))) (pe_one (pe_call G_is_count (hr.mono (by decide)) rfl C_is_count.mg C_is_count.kp C_is_count.b .nil pass0 (pa_cons (pe_ix ix_G (pv 0) pe_int (fun _ _ => rfl)) (pa_cons (pe_callB len_G rfl T.no_len boot_len (pa_cons (pv 2) pa_nil)) pa_nil)))))))), ?_⟩
    try simp only [show (cxOf CX0 P w K mg base N_are_counts "are_counts" (defScope s_are_counts) f cdv A outer s H E).nox.K = K from rfl, show (cxOf CX0 P w K mg base N_are_counts "are_counts" (defScope s_are_counts) f cdv A outer s H E).K = K from rfl]
    rw [show L2.start N_are_counts [V.ref t, V.ref a, V.ref b] = [some (V.ref t), some (V.ref a), some (V.ref b)] from rfl]
    walk_at "rd"
    refine r_lenT ht ?_
    have e2 : (([V.int i, V.int j] : List V).length : Int) = 2 := rfl
    rw [e2]
    walk_at "rd"
    refine r_ixT ht rfl ?_
    walk_at "rd"
    refine ⟨i, one.length, rfl, ?_⟩
    walk_at "rd"
    refine iteD (fun h1 => ?_) (fun h1 => ?_)
    · walk_at "rd"
      refine r_ixT ht rfl ?_
      walk_at "rd"
      refine ⟨j, other.length, rfl, ?_⟩
      have e : decide ((0 ≤ i ∧ i ≤ (one.length : Int)) ∧ 0 ≤ j ∧ j ≤ (other.length : Int)) = decide (0 ≤ j ∧ j ≤ (other.length : Int)) := by
        by_cases h2 : 0 ≤ j ∧ j ≤ (other.length : Int)
        · rw [decide_eq_true h2, decide_eq_true ⟨h1, h2⟩]
        · rw [decide_eq_false h2, decide_eq_false fun q => h2 q.2]
      rw [e] at k
      exact k
    · walk_at "rd"
      rw [decide_eq_false fun q => h1 q.1] at k
      exact k
def sp_pairs_after : Sp := fun vs H Q _ => ∃ (t a b c : Addr) (i j : Int) (row one other : List Int), vs = [.ref t, .ref a, .ref b, .ref c] ∧ H t = some (.tup [.int i, .int j]) ∧ H a = some (.lst (row.map V.int)) ∧ H b = some (.lst (one.map V.int)) ∧ H c = some (.lst (other.map V.int)) ∧ Lf.Box one other (i, j) ∧ row.length = one.length + other.length ∧
  ∀ (p : Addr) (ts : List Addr) H', H p = none → Same H H' → Prs H' p ts (Lf.nexts row one other (i, j)) → Q (.ref p) H'
theorem ok_pairs_after (F : Fun K "pairs_after" "pairs_after" s_pairs_after f fd) (T : Blt mg) : FnOk P w K mg base CX0 1 f fd P_pairs_after sp_pairs_after := by
  refine F.ok sc_pairs_after (fun vs H Q E h => ?_) (fun cdv A outer s H vs Q E hr h => ?_)
  · obtain ⟨_, _, _, _, _, _, _, _, _, rfl, _⟩ := h
    rfl
  · obtain ⟨t, a, b, c, i, j, row, one, other, rfl, ht, ha, hb, hc, B, hl, k⟩ := h
    obtain ⟨b1, b2, b3, b4⟩ := B
    simp only at b1 b2 b3 b4
    have nd := sc_pairs_after.nd
    have hu := hr.units
    refine ⟨_, (pss_cons (ps_set (i := 4) nd rfl (by first | exact Or.inl rfl | exact Or.inr rfl) (pe_ix ix_G (pv 0) pe_int (fun _ _ => rfl)))
     (pss_cons (ps_set (i := 5) nd rfl (by first | exact Or.inl rfl | exact Or.inr rfl) (pe_ix ix_G (pv 0) pe_int (fun _ _ => rfl)))
     (pss_cons (ps_set (i := 6) nd rfl (by first | exact Or.inl rfl | exact Or.inr rfl) (pe_lst pa_nil))
     (pss_cons (ps_if (PW.pt (pw_and (pt_cmpR op_lt (pv 4) (pe_callB len_G rfl T.no_len boot_len (pa_cons (pv 2) pa_nil)) (nomark _)) (pw_and1 (pt_cmpR (op_eqG hu) (pe_ix ix_G (pv 2) (pv 4) (fun _ _ => rfl)) (pe_ix ix_G (pv 1) (pe_op op_addG (pv 4) (pv 5)) (fun _ _ => rfl)) (nomark _))))) (pss_one (ps_expr (pe_bm PySem.F.plainAttrs_list PySem.F.slot_list_append PySem.F.type_list_append mr_append (pv 6) (pa_cons (pe_tup (pa_cons (pe_op op_addG (pv 4) pe_int) (pa_cons (pv 5) pa_nil))) pa_nil)))) pss_nil)
     (pss_cons (ps_if (PW.pt (pw_and (pt_cmpR op_lt (pv 5) (pe_callB len_G rfl T.no_len boot_len (pa_cons (pv 3) pa_nil)) (nomark _)) (pw_and1 (pt_cmpR (op_eqG hu) (pe_ix ix_G (pv 3) (pv 5) (fun _ _ => rfl)) (pe_ix ix_G (pv 1) (pe_op op_addG (pv 4) (pv 5)) (fun _ _ => rfl)) (nomark _))))) (pss_one (ps_expr (pe_bm PySem.F.plainAttrs_list PySem.F.slot_list_append PySem.F.type_list_append mr_append (pv 6) (pa_cons (pe_tup (pa_cons (pv 4) (pa_cons (pe_op op_addG (pv 5) pe_int) pa_nil))) pa_nil)))) pss_nil)
     (pss_one (ps_ret (pv 6)))))))), ?_⟩
    try simp only [show (cxOf CX0 P w K mg base N_pairs_after "pairs_after" (defScope s_pairs_after) f cdv A outer s H E).nox.K = K from rfl, show (cxOf CX0 P w K mg base N_pairs_after "pairs_after" (defScope s_pairs_after) f cdv A outer s H E).K = K from rfl]
    rw [show L2.start N_pairs_after [V.ref t, V.ref a, V.ref b, V.ref c] = [some (V.ref t), some (V.ref a), some (V.ref b), some (V.ref c), none, none, none] from rfl]
    walk_at "rd"
    refine r_ixT ht rfl ?_
    walk_at "rd"
    refine r_ixT ht rfl ?_
    walk_at "rd"
    intro p hp
    have s0 : Same H (upd H p (.lst [])) := Same.upd_new hp
    have p0 : Prs (upd H p (.lst [])) p [] [] := ⟨upd_same, rfl, fun i t h => by simp at h⟩
    simp only [List.map_nil]
    generalize upd H p (.lst []) = H0 at s0 p0 ⊢
    walk_at "rd1"
    refine r_seqC (fun H' => Same H H' ∧ ∃ ts, Prs H' p ts (if i < (one.length : Int) ∧ one.getD i.toNat 0 = row.getD (i + j).toNat 0 then [(i + 1, j)] else [])) (fun N hN => ?_) ?_
    · have hb0 := s0.at hb
      have ha0 := s0.at ha
      have pa := p0.at_
      walk_at "rd"
      refine iteD (fun h1 => ?_) (fun h1 => ?_)
      · walk_at "rd"
        refine r_ixI (SqL.of hb0) b1 h1 ?_
        walk_at "rd"
        refine r_ixI (SqL.of ha0) (by omega) (by omega) ?_
        walk_at "rd"
        refine iteD (fun h2 => ?_) (fun h2 => ?_)
        · walk_at "rd"
          intro u hu'
          walk_at "rd"
          refine r_appV (upd_keep p0.at_ hu') (by simp) ?_
          walk_at "rd"
          refine hN _ ⟨same_upd (s0.trans (Same.upd_new hu')) hp, [u], ?_⟩
          rw [if_pos ⟨h1, h2⟩]
          exact (p0.same (Same.upd_new hu')).snoc upd_same
        · walk_at "rd"
          refine hN _ ⟨s0, [], ?_⟩
          rw [if_neg fun z => h2 z.2]
          exact p0
      · walk_at "rd"
        refine hN _ ⟨s0, [], ?_⟩
        rw [if_neg fun z => h1 z.1]
        exact p0
    clear s0 p0 H0
    rintro H1 ⟨s1, ts1, p1⟩
    refine r_seqC (fun H' => Same H H' ∧ ∃ ts, Prs H' p ts (Lf.nexts row one other (i, j))) (fun N hN => ?_) ?_
    · have hc1 := s1.at hc
      have ha1 := s1.at ha
      have pa := p1.at_
      have l1 := p1.len
      have l2 : (if i < (one.length : Int) ∧ one.getD i.toNat 0 = row.getD (i + j).toNat 0 then [(i + 1, j)] else []).length ≤ 1 := by split <;> simp
      have no : ¬ (j < (other.length : Int) ∧ other.getD j.toNat 0 = row.getD (i + j).toNat 0) → Same H H1 ∧ ∃ ts, Prs H1 p ts (Lf.nexts row one other (i, j)) := fun z => by
        refine ⟨s1, ts1, ?_⟩
        unfold Lf.nexts
        simp only
        rw [if_neg z, List.append_nil]
        exact p1
      walk_at "rd"
      refine iteD (fun h1 => ?_) (fun h1 => ?_)
      · walk_at "rd"
        refine r_ixI (SqL.of hc1) b3 h1 ?_
        walk_at "rd"
        refine r_ixI (SqL.of ha1) (by omega) (by omega) ?_
        walk_at "rd"
        refine iteD (fun h2 => ?_) (fun h2 => ?_)
        · walk_at "rd"
          intro u hu'
          walk_at "rd"
          refine r_appV (upd_keep p1.at_ hu') (by rw [List.length_map]; omega) ?_
          walk_at "rd"
          refine hN _ ⟨same_upd (s1.trans (Same.upd_new hu')) hp, ts1 ++ [u], ?_⟩
          unfold Lf.nexts
          simp only
          rw [if_pos (⟨h1, h2⟩ : j < (other.length : Int) ∧ other.getD j.toNat 0 = row.getD (i + j).toNat 0)]
          exact (p1.same (Same.upd_new hu')).snoc upd_same
        · walk_at "rd"
          exact hN _ (no fun z => h2 z.2)
      · walk_at "rd"
        exact hN _ (no fun z => h1 z.1)
    rintro H2 ⟨s2, ts2, p2⟩
    walk_at "rd"
    exact k p ts2 H2 hp s2 p2
def sp_is_followed : Sp := fun vs H Q _ => ∃ (t d a b c : Addr) (o : Obj) (kvs : List (List Key × V)) (i j : Int) (row one other : List Int), vs = [.ref t, .ref d, .ref a, .ref b, .ref c] ∧ H t = some (.tup [.int i, .int j]) ∧ H d = some (.frz o (.dT kvs)) ∧ H a = some (.lst (row.map V.int)) ∧ H b = some (.lst (one.map V.int)) ∧ H c = some (.lst (other.map V.int)) ∧ Lf.Box one other (i, j) ∧ row.length = one.length + other.length ∧
  ∀ H', Same H H' → Q (.bl ((Lf.nexts row one other (i, j)).all fun q => (valV kvs (kP q.1 q.2)).isSome)) H'
theorem ok_is_followed (F : Fun K "is_followed" "is_followed" s_is_followed f fd) (T : Blt mg) (C_pairs_after : Cal K mg "pairs_after" f1 fd1 P_pairs_after) (G_pairs_after : FnOk P w K mg base CX0 1 f1 fd1 P_pairs_after sp_pairs_after) : FnOk P w K mg base CX0 2 f fd P_is_followed sp_is_followed := by
  refine F.ok sc_is_followed (fun vs H Q E h => ?_) (fun cdv A outer s H vs Q E hr h => ?_)
  · obtain ⟨_, _, _, _, _, _, _, _, _, _, _, _, rfl, _⟩ := h
    rfl
  · obtain ⟨t, d, a, b, c, o, kvs, i, j, row, one, other, rfl, ht, hd, ha, hb, hc, B, hl, k⟩ := h
    have nd := sc_is_followed.nd
    have hu := hr.units
    have hu1 : (A.deeper (envOfC "is_followed" (defScope s_is_followed) s.heap.objs.size f cdv)).units + 1 < cLine := by omega
    refine ⟨_, (pss_one (ps_ret (pe_callB (call_allB rfl) rfl T.no_all boot_all (pa_cons (pe_comp (N := ["after", "known"]) (k := 1) (caps := [1]) (Block.of (by kernel_rfl)) rfl (pi_list (pe_call G_pairs_after (hr.mono (by decide)) rfl C_pairs_after.mg C_pairs_after.kp C_pairs_after.b .nil pass0 (pa_cons (pv 0) (pa_cons (pv 2) (pa_cons (pv 3) (pa_cons (pv 4) pa_nil)))))) (fun _ _ _ _ => ⟨_, (pg_name (i := 0) (by show List.Nodup (["after", "known"] : List Str); decide) rfl (by first | exact Or.inl rfl | exact Or.inr rfl)), by walk_at "ce"⟩) (fun _ _ _ _ => ⟨_, PIfs.none, by walk_at "ce"⟩) (fun _ _ _ _ => ⟨_, (pe_cmp (pc_din hu1 (pv 0) (pv 1)) (by with_unfolding_all rfl)), by walk_at "ce"⟩)) pa_nil)))), ?_⟩
    try simp only [show (cxOf CX0 P w K mg base N_is_followed "is_followed" (defScope s_is_followed) f cdv A outer s H E).nox.K = K from rfl, show (cxOf CX0 P w K mg base N_is_followed "is_followed" (defScope s_is_followed) f cdv A outer s H E).K = K from rfl]
    rw [show L2.start N_is_followed [V.ref t, V.ref d, V.ref a, V.ref b, V.ref c] = [some (V.ref t), some (V.ref d), some (V.ref a), some (V.ref b), some (V.ref c)] from rfl]
    walk_at "rd"
    refine ⟨t, a, b, c, i, j, row, one, other, rfl, ht, ha, hb, hc, B, hl, fun p ts H1 hp s1 P1 => ?_⟩
    have pa := P1.at_
    have nl := Lf.nexts_len (row := row) (one := one) (other := other) (p := (i, j))
    have hd1 := s1.at hd
    walk_at "rd"
    refine comp_map (ov_prs P1.len) (fun y => .bl ((valV kvs (kP y.2.1 y.2.2)).isSome)) (fun H' s' => P1.same s') (by rw [List.length_zip]; omega) ?_ ?_
    · rintro n ⟨u, v⟩ x' H5 H6 R R' hi s5 ⟨rfl, rfl, hu'⟩ h5
      have hd5 := s5.at hd1
      walk_at "rd"
      refine ⟨⟨rfl, rfl⟩, ?_⟩
      walk_at "rd"
      refine r_DInTf hd5 hu' ?_
      exact h5 _ (Same.refl _)
    · intro D H' hD s' hd'
      walk_at "rd"
      refine r_allM (l := ts.zip (Lf.nexts row one other (i, j))) (g := fun y => (valV kvs (kP y.2.1 y.2.2)).isSome) (SqL.of hd') ?_
      have e : (ts.zip (Lf.nexts row one other (i, j))).all (fun y => (valV kvs (kP y.2.1 y.2.2)).isSome) = (Lf.nexts row one other (i, j)).all fun q => (valV kvs (kP q.1 q.2)).isSome := by
        have : Lf.nexts row one other (i, j) = (ts.zip (Lf.nexts row one other (i, j))).map (·.2) := by rw [List.map_snd_zip (by rw [P1.len]; exact Nat.le_refl _)]
        conv => rhs; rw [this]
        rw [List.all_map]; rfl
      rw [e]
      exact k _ (s1.trans s')
end

abbrev s_pairs_reached : Stmt := body.getD 18 (.Pass ⟨0, 0, 0, 0⟩)
abbrev N_pairs_reached : List Str := ["row", "one", "other", "ahead", "pairs", "gone", "pair", "after"]
abbrev P_pairs_reached : List Str := ["row", "one", "other"]
theorem sc_pairs_reached : FnScope N_pairs_reached P_pairs_reached (defScope s_pairs_reached) := ⟨rfl, rfl, rfl, by decide, rfl, by decide, by decide⟩
abbrev s_places_on_way : Stmt := body.getD 19 (.Pass ⟨0, 0, 0, 0⟩)
abbrev N_places_on_way : List Str := ["ahead", "pair", "places", "here", "before"]
abbrev P_places_on_way : List Str := ["ahead", "pair"]
theorem sc_places_on_way : FnScope N_places_on_way P_places_on_way (defScope s_places_on_way) := ⟨rfl, rfl, rfl, by decide, rfl, by decide, by decide⟩
section
variable {P : Program} {w : World} {K : PySem.W.Frag} {mg : Str → Option Value} {base : Heap} {f f1 f2 : Addr} {fd fd1 fd2 : FuncData}
def sp_pairs_reached : Sp := fun vs H Q _ => ∃ (a b c : Addr) (row one other : List Int), vs = [.ref a, .ref b, .ref c] ∧ H a = some (.lst (row.map V.int)) ∧ H b = some (.lst (one.map V.int)) ∧ H c = some (.lst (other.map V.int)) ∧ row.length = one.length + other.length ∧ one.length ≤ 100 ∧ other.length ≤ 100 ∧
  ∀ (d : Addr) (kvs : List (List Key × V)) (ps : List (Int × Int)) (par : Int × Int → Option (Int × Int)) H', H d = none → Same H H' → H' d = some (.dT kvs) → kvs.map Prod.fst = ps.map kPp → ParOk H' kvs par → Lf.Bfs row one other ps par ps.length → Q (.ref d) H'
theorem ok_pairs_reached (F : Fun K "pairs_reached" "pairs_reached" s_pairs_reached f fd) (T : Blt mg) (C_pairs_after : Cal K mg "pairs_after" f1 fd1 P_pairs_after) (G_pairs_after : FnOk P w K mg base CX0 1 f1 fd1 P_pairs_after sp_pairs_after) : FnOk P w K mg base CX0 2 f fd P_pairs_reached sp_pairs_reached := by
  refine F.ok sc_pairs_reached (fun vs H Q E h => ?_) (fun cdv A outer s H vs Q E hr h => ?_)
  · obtain ⟨_, _, _, _, _, _, rfl, _⟩ := h
    rfl
  · obtain ⟨a, b, c, row, one, other, rfl, ha, hb, hc, hl, l1, l2, k⟩ := h
    have nd := sc_pairs_reached.nd
    have hu := hr.units
    have hu1 : (A.deeper (envOfC "pairs_reached" (defScope s_pairs_reached) s.heap.objs.size f cdv)).units + 1 < cLine := by omega
    have big : (one.length + 1) * (other.length + 1) ≤ 101 * 101 := Nat.mul_le_mul (by omega) (by omega)
    refine ⟨_, (pss_cons (ps_set (i := 3) nd rfl (by first | exact Or.inl rfl | exact Or.inr rfl) (pe_dispT hu (pe_tup (pa_cons pe_int (pa_cons pe_int pa_nil))) (pe_tup (pa_cons pe_int (pa_cons pe_int pa_nil)))))
     (pss_cons (ps_set (i := 4) nd rfl (by first | exact Or.inl rfl | exact Or.inr rfl) (pe_lst (pa_cons (pe_tup (pa_cons pe_int (pa_cons pe_int pa_nil))) pa_nil)))
     (pss_cons (ps_set (i := 5) nd rfl (by first | exact Or.inl rfl | exact Or.inr rfl) pe_int)
     (pss_cons (ps_while PassesOwn.never (pt_cmpR op_lt (pv 5) (pe_callB len_G rfl T.no_len boot_len (pa_cons (pv 4) pa_nil)) (nomark _)) (pss_cons (ps_set (i := 6) nd rfl (by first | exact Or.inl rfl | exact Or.inr rfl) (pe_ix ix_G (pv 4) (pv 5) (fun _ _ => rfl)))
     (pss_cons (ps_for PassesOwn.never rfl (pi_list (pe_call G_pairs_after (hr.mono (by decide)) rfl C_pairs_after.mg C_pairs_after.kp C_pairs_after.b .nil pass0 (pa_cons (pv 6) (pa_cons (pv 0) (pa_cons (pv 1) (pa_cons (pv 2) pa_nil)))))) (pg_name (i := 7) nd rfl (by first | exact Or.inl rfl | exact Or.inr rfl)) (pss_one (ps_if (pt_cmp (pc_dnotin hu1 (pv 7) (pv 3)) (by with_unfolding_all rfl)) (pss_cons (ps_dput hu1 (pv 3) (pv 7) (pv 6) rfl)
     (pss_one (ps_expr (pe_bm PySem.F.plainAttrs_list PySem.F.slot_list_append PySem.F.type_list_append mr_append (pv 4) (pa_cons (pv 7) pa_nil))))) pss_nil)))
     (pss_one (ps_aug (i := 5) nd rfl (by first | exact Or.inl rfl | exact Or.inr rfl) pe_int ip_add)))))
     (pss_one (ps_ret (pv 3))))))), ?_⟩
    try simp only [show (cxOf CX0 P w K mg base N_pairs_reached "pairs_reached" (defScope s_pairs_reached) f cdv A outer s H E).nox.K = K from rfl, show (cxOf CX0 P w K mg base N_pairs_reached "pairs_reached" (defScope s_pairs_reached) f cdv A outer s H E).K = K from rfl]
    rw [show L2.start N_pairs_reached [V.ref a, V.ref b, V.ref c] = [some (V.ref a), some (V.ref b), some (V.ref c), none, none, none, none, none] from rfl]
    iterate 2 walk_at "rd1"
    refine r_cutR (fun v H' => ∃ d kvs par, v = .ref d ∧ H d = none ∧ Same H H' ∧ H' d = some (.dT kvs) ∧ kvs.map Prod.fst = [((0, 0) : Int × Int)].map kPp ∧ ParOk H' kvs par ∧ Lf.Bfs row one other [(0, 0)] par 0) (fun Q' k' => ?_) ?_
    · intro d hd
      walk_at "rd"
      intro t1 ht1
      walk_at "rd"
      intro t2 ht2
      have dt1 : d ≠ t1 := ne_of_none upd_same ht1
      have dt2 : d ≠ t2 := ne_of_none (upd_keep upd_same ht1) ht2
      have h1 : H t1 = none := free_upd ht1
      have h2 : H t2 = none := free_upd (free_upd ht2)
      refine ⟨t1, kP 0 0, rfl, upd_keep (upd_keep upd_same ht1) ht2, upd_keep upd_same ht2, ?_⟩
      refine k' _ _ ⟨d, [(kP 0 0, .ref t2)], fun p => if p = (0, 0) then some (0, 0) else none, rfl, hd, ?_, upd_same, rfl, ?_, Lf.Bfs.start row one other⟩
      · exact same_upd (((Same.upd_new hd).trans (Same.upd_new ht1)).trans (Same.upd_new ht2)) hd
      · refine ⟨fun p e => ?_, fun p q e => ?_⟩
        · by_cases z : p = (0, 0)
          · rw [if_pos z] at e; cases e
          · rw [valV_neg (fun c => z ((kPp_inj (p := (0, 0)) (q := p)).mp c).symm)]; rfl
        · by_cases z : p = (0, 0)
          · rw [if_pos z] at e
            cases e
            subst z
            exact ⟨t2, valV_pos rfl, upd_keepNe upd_same (Ne.symm dt2)⟩
          · rw [if_neg z] at e; cases e
    rintro _ H1 ⟨d, kvs, par, rfl, d0, s1, hd1, ek, A1, B1⟩
    walk_at "rd"
    intro t0 ht0
    walk_at "rd"
    intro p hp
    have t0p : t0 ≠ p := ne_of_none upd_same hp
    have dt0 : d ≠ t0 := ne_of_none hd1 ht0
    have dp : d ≠ p := ne_of_none (upd_keep hd1 ht0) hp
    have s2 : Same H (upd (upd H1 t0 (.tup [.int 0, .int 0])) p (.lst [.ref t0])) := s1.trans ((Same.upd_new ht0).trans (Same.upd_new hp))
    have hd2 : (upd (upd H1 t0 (.tup [.int 0, .int 0])) p (.lst [.ref t0])) d = some (.dT kvs) := upd_keep (upd_keep hd1 ht0) hp
    have P2 : Prs (upd (upd H1 t0 (.tup [.int 0, .int 0])) p (.lst [.ref t0])) p [t0] [(0, 0)] := ⟨upd_same, rfl, fun i t h => by
      cases i with
      | zero =>
        have : t0 = t := by simpa using h
        subst this
        exact upd_keepNe upd_same t0p
      | succ i => simp at h⟩
    have A2 : ParOk (upd (upd H1 t0 (.tup [.int 0, .int 0])) p (.lst [.ref t0])) kvs par := A1.same fun t xs e => upd_keep (upd_keep e ht0) hp
    have p0 : H p = none := s1.free (free_upd hp)
    generalize (upd (upd H1 t0 (.tup [.int 0, .int 0])) p (.lst [.ref t0])) = H2 at s2 hd2 P2 A2 ⊢
    clear s1 hd1 A1 ht0 hp
    walk_at "rd"
    refine r_while (fun m σ H3 => ∃ (gone : Nat) (ts : List Addr) (ps : List (Int × Int)) (kvs : List (List Key × V)) (par : Int × Int → Option (Int × Int)) (v6 v7 : Option V), σ = [some (.ref a), some (.ref b), some (.ref c), some (.ref d), some (.ref p), some (.int gone), v6, v7] ∧ Same H H3 ∧ Prs H3 p ts ps ∧ H3 d = some (.dT kvs) ∧ kvs.map Prod.fst = ps.map kPp ∧ ParOk H3 kvs par ∧ Lf.Bfs row one other ps par gone ∧ gone ≤ ps.length ∧ m = (one.length + 1) * (other.length + 1) - gone) _ ⟨0, [t0], [(0, 0)], kvs, par, none, none, rfl, s2, P2, hd2, ek, A2, B1, Nat.zero_le _, rfl⟩ ?_
    clear s2 hd2 P2 A2 B1 ek kvs par t0p dt0 H2
    rintro m σ H3 ⟨gone, ts, ps, kvs, par, v6, v7, rfl, s3, P3, hd3, ek, A3, B3, hg, rfl⟩
    have pa := P3.at_
    have lp := P3.len
    have bl := B3.len
    walk_at "rd"
    refine r_lenL (SqL.of pa) ?_
    rw [List.length_map, lp]
    walk_at "rd"
    refine iteD (fun h1 => ?_) (fun h1 => ?_)
    rotate_left
    · walk_at "rd"
      have : gone = ps.length := by omega
      subst this
      exact k d kvs ps par H3 d0 s3 hd3 ek A3 B3
    have hlt : gone < ps.length := by omega
    have hin : ps.getD gone (0, 0) ∈ ps := by
      rw [List.getD_eq_getElem?_getD, List.getElem?_eq_getElem hlt]; exact List.getElem_mem _
    obtain ⟨tg, htg⟩ : ∃ t, ts[gone]? = some t := ⟨ts[gone]'(by omega), by simp [lp, hlt]⟩
    have tup := P3.row gone tg htg
    generalize hpair : ps.getD gone (0, 0) = pair at tup hin
    obtain ⟨i, j⟩ := pair
    simp only at tup
    refine r_turn ?_
    walk_at "rd"
    refine r_ixL (SqL.of pa) (v := .ref tg) (atI_nat (by rw [List.getElem?_map, htg]; rfl)) ?_
    walk_at "rd"
    refine ⟨tg, a, b, c, i, j, row, one, other, rfl, tup, s3.at ha, s3.at hb, s3.at hc, B3.box _ hin, hl, fun q ts2 H4 hq s4 P4 => ?_⟩
    have qa := P4.at_
    have s04 := s3.trans s4
    have P34 := P3.same s4
    have hd4 := s4.at hd3
    have A4 := A3.same fun t xs e => s4.at e
    have tup4 := s4.at tup
    have qd : q ≠ d := Ne.symm (ne_of_none hd3 hq)
    have qp : q ≠ p := Ne.symm (ne_of_none P3.at_ hq)
    have off2 : ∀ t ∈ ts2, t ≠ d ∧ t ≠ p := fun t ht => by
      obtain ⟨x, y, e⟩ := P4.mem ht
      exact ⟨fun z => (by rw [z, hd4] at e; cases e), fun z => (by rw [z, P34.at_] at e; cases e)⟩
    have offg : tg ≠ d ∧ tg ≠ p := ⟨fun z => (by rw [z, hd4] at tup4; cases tup4), fun z => (by rw [z, P34.at_] at tup4; cases tup4)⟩
    walk_at "rd"
    refine for_by (ov_prs P4.len) (fun n σ H5 => ∃ (ts : List Addr) (ps : List (Int × Int)) (kvs : List (List Key × V)) (par : Int × Int → Option (Int × Int)) (v7 : Option V), σ = [some (.ref a), some (.ref b), some (.ref c), some (.ref d), some (.ref p), some (.int gone), some (.ref tg), v7] ∧ Same H H5 ∧ SameBut [d, p] H4 H5 ∧ Prs H5 p ts ps ∧ H5 d = some (.dT kvs) ∧ kvs.map Prod.fst = ps.map kPp ∧ ParOk H5 kvs par ∧ Lf.BfsIn row one other ps par gone (i, j) n) ?_ ?_ ?_ ?_
    · exact ⟨ts, ps, kvs, par, _, rfl, s04, fun _ _ h _ => h, P34, hd4, ek, A4, ⟨B3, hpair, hlt, by simp⟩⟩
    · rintro n σ H5 _ ⟨_, _, _, _, _, _, _, s5, _⟩
      exact P4.but s5 (by simpa using ⟨qd, qp⟩) fun t ht => by simpa using off2 t ht
    · clear ek A3 A4 B3 bl hd3 hd4 P3 P34 hpair hlt hin htg lp pa hg s3 s4 s04 h1 tup
      rintro n ⟨u, v1, v2⟩ x' σ H5 H6 hy ⟨ts', ps', kvs', par', v7', rfl, s05, s5, P5, hd5, ek5, A5, B5⟩ ⟨rfl, rfl, hu'⟩
      have hnx : (Lf.nexts row one other (i, j))[n]? = some (v1, v2) := by
        obtain ⟨z1, z2⟩ := List.getElem?_eq_some_iff.mp hy
        rw [List.length_zip] at z1
        rw [List.getElem_zip] at z2
        have i2 : n < (Lf.nexts row one other (i, j)).length := by omega
        rw [List.getElem?_eq_getElem i2]
        exact congrArg some (congrArg Prod.snd z2)
      simp only at hu'
      have bl5 := B5.b.len
      have lp5 := P5.len
      have tup5 := s5.at tup4 (by simpa using offg)
      walk_at "rd"
      refine r_DInT hd5 hu' ?_
      have eiff := A5.some_iff (v1, v2)
      have ekeys := B5.b.keys (v1, v2)
      walk_at "rd"
      rw [if_pos rfl]
      refine iteNB (fun h2 => ?_) (fun h2 => ?_)
      · rw [eiff] at h2
        have hno : (v1, v2) ∉ ps' := fun z => by rw [ekeys.mpr z] at h2; cases h2
        have lk : kvs'.length = ps'.length := by have := congrArg List.length ek5; simpa using this
        walk_at "rd"
        refine r_DPt hd5 hu' (by omega) ?_
        have en := put_new (kvs := kvs') (k := kP v1 v2) (v := .ref tg) (by rw [← h2]; exact eiff)
        have off5 : ∀ t ∈ ts', t ≠ d ∧ t ≠ p := fun t ht => by
          obtain ⟨x, y, e⟩ := P5.mem ht
          exact ⟨fun z => (by rw [z, hd5] at e; cases e), fun z => (by rw [z, P5.at_] at e; cases e)⟩
        have P6 := P5.off (o := .dT (putK kvs' (kP v1 v2) (.ref tg))) (Ne.symm dp) fun t ht => (off5 t ht).1
        have pa6 := P6.at_
        have ud : u ≠ d := fun z => by rw [z, hd5] at hu'; cases hu'
        have up : u ≠ p := fun z => by rw [z, P5.at_] at hu'; cases hu'
        have hu6 : (upd H6 d (.dT (putK kvs' (kP v1 v2) (.ref tg)))) u = some (.tup [.int v1, .int v2]) := upd_keepNe hu' ud
        walk_at "rd"
        refine r_appV pa6 (by rw [List.length_map]; omega) ?_
        walk_at "rd"
        refine ⟨ts' ++ [u], ps' ++ [(v1, v2)], _, _, _, rfl, same_upd (same_upd s05 d0) p0, (s5.upd (by simp)).upd (by simp), P6.snoc hu6, upd_keepNe upd_same dp, ?_, ?_, B5.add hnx hno fun _ => rfl⟩
        · rw [en, List.map_append, List.map_append, ek5]; rfl
        · refine (A5.put (q := (v1, v2)) (pair := (i, j)) (t := tg) tup5).same fun t xs e => ?_
          exact upd_keepNe (upd_keepNe e (fun z => by rw [z, hd5] at e; cases e)) (fun z => by rw [z, P5.at_] at e; cases e)
      · rw [eiff] at h2
        walk_at "rd"
        exact ⟨ts', ps', kvs', par', _, rfl, s05, s5, P5, hd5, ek5, A5, B5.skip hnx (ekeys.mp h2)⟩
    · clear ek A3 A4 bl hd3 hd4 P3 P34 pa
      rintro σ H5 ⟨ts', ps', kvs', par', v7', rfl, s05, s5, P5, hd5, ek5, A5, B5⟩
      rw [List.length_zip, P4.len, Nat.min_self] at B5
      have bl5 := B5.b.len
      have lt5 := B5.lt
      walk_at "rd"
      have e1 : ((gone : Int) + 1) = ((gone + 1 : Nat) : Int) := by omega
      rw [e1]
      exact ⟨_, by omega, gone + 1, ts', ps', kvs', par', _, _, rfl, s05, P5, hd5, ek5, A5, B5.turn (Nat.le_refl _), by omega, rfl⟩
def sp_places_on_way (K : PySem.W.Frag) : Sp := fun vs H Q _ => ∃ (d t : Addr) (kvs : List (List Key × V)) (ps : List (Int × Int)) (par : Int × Int → Option (Int × Int)) (g : Nat) (row one other : List Int), vs = [.ref d, .ref t] ∧ H d = some (.dT kvs) ∧ H t = some (.tup [.int (one.length : Nat), .int (other.length : Nat)]) ∧ ParOk H kvs par ∧ Lf.Bfs row one other ps par g ∧ ((one.length : Int), (other.length : Int)) ∈ ps ∧ row.length = one.length + other.length ∧ row.length ≤ 1000 ∧
  ∀ (l : Addr) (pl : List Int) H', H l = none → Same H H' → H' l = some (.lst (pl.map V.int)) → Lf.mixed row one other pl = true → Q (.ref l) H'
theorem ok_places_on_way (F : Fun K "places_on_way" "places_on_way" s_places_on_way f fd) (T : Blt mg) : FnOk P w K mg base CX0 1 f fd P_places_on_way (sp_places_on_way K) := by
  refine F.ok sc_places_on_way (fun vs H Q E h => ?_) (fun cdv A outer s H vs Q E hr h => ?_)
  · obtain ⟨_, _, _, _, _, _, _, _, _, rfl, _⟩ := h
    rfl
  · obtain ⟨d, t, kvs, ps, par, g, row, one, other, rfl, hd, ht, Ap, B, hin, hl, l1, k⟩ := h
    have nd := sc_places_on_way.nd
    have hu := hr.units
    have hu1 : (A.deeper (envOfC "places_on_way" (defScope s_places_on_way) s.heap.objs.size f cdv)).units + 1 < cLine := by omega
    refine ⟨_, (pss_cons (ps_set (i := 2) nd rfl (by first | exact Or.inl rfl | exact Or.inr rfl) (pe_lst pa_nil))
     (pss_cons (ps_set (i := 3) nd rfl (by first | exact Or.inl rfl | exact Or.inr rfl) (pv 1))
     (pss_cons (ps_while PassesOwn.never (pt_cmpR (op_neG hu) (pv 3) (pe_tup (pa_cons pe_int (pa_cons pe_int pa_nil))) (nomark _)) (pss_cons (ps_set (i := 4) nd rfl (by first | exact Or.inl rfl | exact Or.inr rfl) (pe_dget hu1 (pv 0) (pv 3) (fun _ _ => rfl)))
     (pss_cons (ps_if (pt_cmpR op_lt (pe_ix ix_G (pv 4) pe_int (fun _ _ => rfl)) (pe_ix ix_G (pv 3) pe_int (fun _ _ => rfl)) (nomark _)) (pss_one (ps_expr (pe_bm PySem.F.plainAttrs_list PySem.F.slot_list_append PySem.F.type_list_append mr_append (pv 2) (pa_cons (pe_op op_addG (pe_ix ix_G (pv 4) pe_int (fun _ _ => rfl)) (pe_ix ix_G (pv 4) pe_int (fun _ _ => rfl))) pa_nil)))) pss_nil)
     (pss_one (ps_set (i := 3) nd rfl (by first | exact Or.inl rfl | exact Or.inr rfl) (pv 4))))))
     (pss_cons (ps_expr (pe_bm0 PySem.F.plainAttrs_list PySem.F.slot_list_reverse PySem.F.type_list_reverse mr_reverse (pv 2)))
     (pss_one (ps_ret (pv 2))))))), ?_⟩
    try simp only [show (cxOf CX0 P w K mg base N_places_on_way "places_on_way" (defScope s_places_on_way) f cdv A outer s H E).nox.K = K from rfl, show (cxOf CX0 P w K mg base N_places_on_way "places_on_way" (defScope s_places_on_way) f cdv A outer s H E).K = K from rfl]
    rw [show L2.start N_places_on_way [V.ref d, V.ref t] = [some (V.ref d), some (V.ref t), none, none, none] from rfl]
    walk_at "rd"
    intro l hl0
    simp only [List.map_nil]
    have s0 : Same H (upd H l (.lst [])) := Same.upd_new hl0
    have q0 : (upd H l (.lst [])) l = some (.lst (([] : List Int).map V.int)) := upd_same
    generalize upd H l (.lst []) = H0 at s0 q0 ⊢
    walk_at "rd"
    refine r_while (fun m σ H2 => ∃ (i j : Nat) (th : Addr) (acc : List Int) (v4 : Option V), σ = [some (.ref d), some (.ref t), some (.ref l), some (.ref th), v4] ∧ Same H H2 ∧ H2 th = some (.tup [.int i, .int j]) ∧ H2 l = some (.lst (acc.map V.int)) ∧ ((i : Int), (j : Int)) ∈ ps ∧ Lf.Wy row one other i j acc.reverse ∧ acc.length + i + j ≤ row.length ∧ m = i + j) (one.length + other.length) ?_ ?_
    · exact ⟨one.length, other.length, t, [], none, rfl, s0, s0.at ht, q0, hin, Lf.Wy.start hl, by simp; omega, rfl⟩
    rintro m σ H2 ⟨i, j, th, acc, v4, rfl, s2, hth, hla, hij, W, hlen, rfl⟩
    walk_at "rd"
    intro z hz
    refine r_neP (upd_keep hth hz) upd_same ?_
    have s3 : Same H (upd H2 z (.tup [.int 0, .int 0])) := s2.trans (Same.upd_new hz)
    have hth3 : (upd H2 z (.tup [.int 0, .int 0])) th = some (.tup [.int i, .int j]) := upd_keep hth hz
    have hla3 : (upd H2 z (.tup [.int 0, .int 0])) l = some (.lst (acc.map V.int)) := upd_keep hla hz
    generalize upd H2 z (.tup [.int 0, .int 0]) = H3 at s3 hth3 hla3 ⊢
    clear s2 hth hla hz
    walk_at "rd"
    refine iteND (fun h1 => ?_) (fun h1 => ?_)
    · obtain ⟨q, hq⟩ : ∃ q, par ((i : Int), (j : Int)) = some q := by
        have := (B.keys _).mpr hij
        exact Option.isSome_iff_exists.mp this
      obtain ⟨hqs, hqn⟩ := B.step _ _ hq h1
      obtain ⟨tq, hv, htq⟩ := Ap.yes _ _ hq
      obtain ⟨b1, b2, b3, b4⟩ := B.box q hqs
      obtain ⟨q1, q2⟩ := q
      simp only at b1 b2 b3 b4 htq
      obtain ⟨qi, rfl⟩ : ∃ n : Nat, q1 = n := ⟨q1.toNat, by omega⟩
      obtain ⟨qj, rfl⟩ : ∃ n : Nat, q2 = n := ⟨q2.toNat, by omega⟩
      have htq3 := s3.at htq
      have ltq : l ≠ tq := fun e => by rw [e, htq] at hl0; cases hl0
      refine r_turn ?_
      walk_at "rd"
      refine r_GDT (s3.at hd) hth3 hv ?_
      walk_at "rd"
      refine r_ixT htq3 rfl ?_
      walk_at "rd"
      refine r_ixT hth3 rfl ?_
      walk_at "rd"
      rcases Lf.nexts_mem.mp hqn with ⟨c1, c2, c3⟩ | ⟨c1, c2, c3⟩
      · simp only [Prod.mk.injEq] at c3
        simp only at c1 c2
        have ei : i = qi + 1 := by omega
        have ej : j = qj := by omega
        subst ei ej
        refine iteD (fun h2 => ?_) (fun h2 => absurd (by omega) h2)
        walk_at "rd"
        refine r_ixT htq3 rfl ?_
        walk_at "rd"
        refine r_ixT htq3 rfl ?_
        walk_at "rd"
        refine r_appI hla3 (by omega) ?_
        walk_at "rd"
        refine ⟨qi + j, by omega, qi, j, tq, acc ++ [(qi : Int) + (j : Int)], _, rfl, by walk_at "sm", upd_keepNe htq3 (Ne.symm ltq), upd_same, hqs, ?_, by rw [List.length_append, List.length_singleton]; omega, rfl⟩
        rw [List.reverse_append]
        have e3 : (qi : Int) + (j : Int) = ((qi + j : Nat) : Int) := by omega
        rw [e3]
        exact W.left (by omega) (by omega) (by rw [Int.toNat_natCast, e3, Int.toNat_natCast] at c2; exact c2)
      · simp only [Prod.mk.injEq] at c3
        simp only at c1 c2
        have ei : i = qi := by omega
        have ej : j = qj + 1 := by omega
        subst ei ej
        refine iteD (fun h2 => absurd h2 (by omega)) (fun h2 => ?_)
        walk_at "rd"
        refine ⟨i + qj, by omega, i, qj, tq, acc, _, rfl, s3, htq3, hla3, hqs, ?_, by omega, rfl⟩
        have e3 : (i : Int) + (qj : Int) = ((i + qj : Nat) : Int) := by omega
        exact W.right (by omega) (by omega) (by rw [Int.toNat_natCast, e3, Int.toNat_natCast] at c2; exact c2)
    · have e : ((i : Int), (j : Int)) = (0, 0) := h1
      simp only [Prod.mk.injEq] at e
      have ei : i = 0 := by omega
      have ej : j = 0 := by omega
      subst ei ej
      walk_at "rd"
      refine r_revV hla3 ?_
      walk_at "rd"
      exact k l acc.reverse _ hl0 (by walk_at "sm") (by rw [List.map_reverse]; exact upd_same) W.mixed
end

structure MixAt (C : Addr) (H : Hp) (x dx : Addr) (fs : List (Str × V)) (pl : Addr) (ps : List Int) : Prop where
  ob : H x = some (.ins C dx fs)
  fp : fs.lookup ("places" : Str) = some (.ref pl)
  fn : fs.lookup ("shows" : Str) = none
  hp : H pl = some (.lst (ps.map V.int))
structure UnmAt (C : Addr) (H : Hp) (x dx : Addr) (fs : List (Str × V)) (p : Addr) (ts : List Addr) (ps : List (Int × Int)) : Prop where
  ob : H x = some (.ins C dx fs)
  fp : fs.lookup ("pairs" : Str) = some (.ref p)
  fn : fs.lookup ("shows" : Str) = none
  pr : Prs H p ts ps
theorem MixAt.same {C : Addr} {H H' : Hp} {x dx : Addr} {fs : List (Str × V)} {pl : Addr} {ps : List Int} (L : MixAt C H x dx fs pl ps) (s : Same H H') : MixAt C H' x dx fs pl ps := ⟨s.at L.ob, L.fp, L.fn, s.at L.hp⟩
theorem UnmAt.same {C : Addr} {H H' : Hp} {x dx : Addr} {fs : List (Str × V)} {p : Addr} {ts : List Addr} {ps : List (Int × Int)} (L : UnmAt C H x dx fs p ts ps) (s : Same H H') : UnmAt C H' x dx fs p ts ps := ⟨s.at L.ob, L.fp, L.fn, L.pr.same s⟩
def sp_Mixed_shows (C : Addr) : Sp := fun vs H Q _ => ∃ (x dx : Addr) (fs : List (Str × V)) (pl : Addr) (ps : List Int) (a b c : Addr) (row one other : List Int), vs = [.ref x, .ref a, .ref b, .ref c] ∧ MixAt C H x dx fs pl ps ∧ H a = some (.lst (row.map V.int)) ∧ H b = some (.lst (one.map V.int)) ∧ H c = some (.lst (other.map V.int)) ∧ ps.length ≤ 1000 ∧ row.length ≤ 1000 ∧ one.length ≤ 1000 ∧ other.length ≤ 1000 ∧ ∀ H', Same H H' → Q (.bl (Lf.mixed row one other ps)) H'
def sp_Unmixed_shows (C : Addr) : Sp := fun vs H Q _ => ∃ (x dx : Addr) (fs : List (Str × V)) (p : Addr) (ts : List Addr) (ps : List (Int × Int)) (a b c : Addr) (row one other : List Int), vs = [.ref x, .ref a, .ref b, .ref c] ∧ UnmAt C H x dx fs p ts ps ∧ H a = some (.lst (row.map V.int)) ∧ H b = some (.lst (one.map V.int)) ∧ H c = some (.lst (other.map V.int)) ∧ ps.length ≤ 100000 ∧ row.length ≤ 1000 ∧ one.length ≤ 1000 ∧ other.length ≤ 1000 ∧ ∀ H', Same H H' → Q (.bl (Lf.unmixed row one other ps)) H'
def sp_mixed (kM kU : Addr) : Sp := fun vs H Q _ => ∃ (a b c : Addr) (row one other : List Int), vs = [.ref a, .ref b, .ref c] ∧ H a = some (.lst (row.map V.int)) ∧ H b = some (.lst (one.map V.int)) ∧ H c = some (.lst (other.map V.int)) ∧ row.length ≤ 200 ∧ one.length ≤ 100 ∧ other.length ≤ 100 ∧ row.length = one.length + other.length ∧
  (∀ (x dx : Addr) (fs : List (Str × V)) (pl : Addr) (ps : List Int) H', H x = none → H pl = none → Same H H' → MixAt kM H' x dx fs pl ps → Lf.mixed row one other ps = true → Q (.ref x) H') ∧
  (∀ (x dx : Addr) (fs : List (Str × V)) (p : Addr) (ts : List Addr) (ps : List (Int × Int)) H', H x = none → H p = none → Same H H' → UnmAt kU H' x dx fs p ts ps → ps.length ≤ 90000 → Lf.unmixed row one other ps = true → Q (.ref x) H')

abbrev s_Mixed___init__ : Stmt := (inClass (body.getD 33 (.Pass ⟨0, 0, 0, 0⟩)) 0)
abbrev N_Mixed___init__ : List Str := ["self", "places"]
abbrev P_Mixed___init__ : List Str := ["self", "places"]
theorem sc_Mixed___init__ : FnScope N_Mixed___init__ P_Mixed___init__ (defScope s_Mixed___init__) := ⟨rfl, rfl, rfl, by decide, rfl, by decide, by decide⟩
abbrev s_Unmixed___init__ : Stmt := (inClass (body.getD 34 (.Pass ⟨0, 0, 0, 0⟩)) 0)
abbrev N_Unmixed___init__ : List Str := ["self", "pairs"]
abbrev P_Unmixed___init__ : List Str := ["self", "pairs"]
theorem sc_Unmixed___init__ : FnScope N_Unmixed___init__ P_Unmixed___init__ (defScope s_Unmixed___init__) := ⟨rfl, rfl, rfl, by decide, rfl, by decide, by decide⟩
abbrev s_Mixed_shows : Stmt := (inClass (body.getD 33 (.Pass ⟨0, 0, 0, 0⟩)) 1)
abbrev N_Mixed_shows : List Str := ["self", "row", "one", "other", "taken"]
abbrev P_Mixed_shows : List Str := ["self", "row", "one", "other"]
theorem sc_Mixed_shows : FnScope N_Mixed_shows P_Mixed_shows (defScope s_Mixed_shows) := ⟨rfl, rfl, rfl, by decide, rfl, by decide, by decide⟩
abbrev s_Unmixed_shows : Stmt := (inClass (body.getD 34 (.Pass ⟨0, 0, 0, 0⟩)) 1)
abbrev N_Unmixed_shows : List Str := ["self", "row", "one", "other", "known"]
abbrev P_Unmixed_shows : List Str := ["self", "row", "one", "other"]
theorem sc_Unmixed_shows : FnScope N_Unmixed_shows P_Unmixed_shows (defScope s_Unmixed_shows) := ⟨rfl, rfl, rfl, by decide, rfl, by decide, by decide⟩
abbrev s_mixed : Stmt := body.getD 36 (.Pass ⟨0, 0, 0, 0⟩)
abbrev N_mixed : List Str := ["row", "one", "other", "signs", "first", "second", "ahead", "pair"]
abbrev P_mixed : List Str := ["row", "one", "other"]
theorem sc_mixed : FnScope N_mixed P_mixed (defScope s_mixed) := ⟨rfl, rfl, rfl, by decide, rfl, by decide, by decide⟩
section
variable {P : Program} {w : World} {K : PySem.W.Frag} {mg : Str → Option Value} {base : Heap} {f f1 f2 f3 f4 f5 k_Mixed k_Unmixed : Addr} {fd fd1 fd2 fd3 fd4 fd5 : FuncData}
def sp_initM (C : Addr) : Sp := fun vs H Q _ => ∃ (x dx a : Addr) (ps : List Int), vs = [.ref x, .ref a] ∧ H x = some (.ins C dx []) ∧ H a = some (.lst (ps.map V.int)) ∧ ∀ (fs : List (Str × V)) pl H', H pl = none → SameBut [x] H H' → MixAt C H' x dx fs pl ps → Q .non H'
theorem ok_Mixed___init__ (F : Fun K "__init__" "Mixed.__init__" s_Mixed___init__ f fd) (T : Blt mg) (I_Mixed : Ins K k_Mixed) (n_Mixed_places : NoAttr K k_Mixed "places") : FnOk P w K mg base CX0 1 f fd P_Mixed___init__ (sp_initM k_Mixed) := by
  refine F.ok sc_Mixed___init__ (fun vs H Q E h => ?_) (fun cdv A outer s H vs Q E hr h => ?_)
  · obtain ⟨_, _, _, _, rfl, _⟩ := h
    rfl
  · obtain ⟨x, dx, a, ps, rfl, hx, ha, k⟩ := h
    have nd := sc_Mixed___init__.nd
    have hu := hr.units
    refine ⟨_, (pss_one (ps_fld (pv 0) (pe_callTy call_listOf rfl T.no_list boot_list (pa_cons (pv 1) pa_nil)) rfl)), ?_⟩
    try simp only [show (cxOf CX0 P w K mg base N_Mixed___init__ "Mixed.__init__" (defScope s_Mixed___init__) f cdv A outer s H E).nox.K = K from rfl, show (cxOf CX0 P w K mg base N_Mixed___init__ "Mixed.__init__" (defScope s_Mixed___init__) f cdv A outer s H E).K = K from rfl]
    rw [show L2.start N_Mixed___init__ [V.ref x, V.ref a] = [some (V.ref x), some (V.ref a)] from rfl]
    walk_at "rd"
    intro pl hpl
    walk_at "rd"
    have xpl : pl ≠ x := Ne.symm (ne_of_none hx hpl)
    exact k _ pl _ hpl ((Same.upd_new hpl).but.upd (by simp)) ⟨upd_same, by simp only [lookup_putF]; rfl, by simp only [lookup_putF]; rfl, upd_keepNe upd_same xpl⟩
def sp_initU (C : Addr) : Sp := fun vs H Q _ => ∃ (x dx a : Addr) (ts : List Addr) (ps : List (Int × Int)), vs = [.ref x, .ref a] ∧ H x = some (.ins C dx []) ∧ Prs H a ts ps ∧ ∀ (fs : List (Str × V)) p H', H p = none → SameBut [x] H H' → UnmAt C H' x dx fs p ts ps → Q .non H'
theorem ok_Unmixed___init__ (F : Fun K "__init__" "Unmixed.__init__" s_Unmixed___init__ f fd) (T : Blt mg) (I_Unmixed : Ins K k_Unmixed) (n_Unmixed_pairs : NoAttr K k_Unmixed "pairs") : FnOk P w K mg base CX0 1 f fd P_Unmixed___init__ (sp_initU k_Unmixed) := by
  refine F.ok sc_Unmixed___init__ (fun vs H Q E h => ?_) (fun cdv A outer s H vs Q E hr h => ?_)
  · obtain ⟨_, _, _, _, _, rfl, _⟩ := h
    rfl
  · obtain ⟨x, dx, a, ts, ps, rfl, hx, ha, k⟩ := h
    have nd := sc_Unmixed___init__.nd
    have hu := hr.units
    have tx : ∀ t ∈ ts, t ≠ x := fun t ht e => by
      obtain ⟨i, j, z⟩ := ha.mem ht
      rw [e, hx] at z; cases z
    refine ⟨_, (pss_one (ps_fld (pv 0) (pe_callTy call_listOf rfl T.no_list boot_list (pa_cons (pv 1) pa_nil)) rfl)), ?_⟩
    try simp only [show (cxOf CX0 P w K mg base N_Unmixed___init__ "Unmixed.__init__" (defScope s_Unmixed___init__) f cdv A outer s H E).nox.K = K from rfl, show (cxOf CX0 P w K mg base N_Unmixed___init__ "Unmixed.__init__" (defScope s_Unmixed___init__) f cdv A outer s H E).K = K from rfl]
    rw [show L2.start N_Unmixed___init__ [V.ref x, V.ref a] = [some (V.ref x), some (V.ref a)] from rfl]
    walk_at "rd"
    refine r_lofV ha.at_ ?_
    intro p hp
    walk_at "rd"
    have xp : p ≠ x := Ne.symm (ne_of_none hx hp)
    refine k _ p _ hp ((Same.upd_new hp).but.upd (by simp)) ⟨upd_same, by simp only [lookup_putF]; rfl, by simp only [lookup_putF]; rfl, ⟨upd_keepNe upd_same xp, ha.len, fun i t ht => upd_keepNe (upd_keep (ha.row i t ht) hp) (tx t (List.mem_of_getElem? ht))⟩⟩
theorem ok_Mixed_shows (F : Fun K "shows" "Mixed.shows" s_Mixed_shows f fd) (T : Blt mg) (I_Mixed : Ins K k_Mixed) (n_Mixed_places : NoAttr K k_Mixed "places")
    (C_stands_at : Cal K mg "stands_at" f1 fd1 P_stands_at) (G_stands_at : FnOk P w K mg base CX0 4 f1 fd1 P_stands_at (sp_stands_at K)) : FnOk P w K mg base CX0 5 f fd P_Mixed_shows (sp_Mixed_shows k_Mixed) := by
  refine F.ok sc_Mixed_shows (fun vs H Q E h => ?_) (fun cdv A outer s H vs Q E hr h => ?_)
  · obtain ⟨_, _, _, _, _, _, _, _, _, _, _, rfl, _⟩ := h
    rfl
  · obtain ⟨x, dx, fs, pl, ps, a, b, c, row, one, other, rfl, M, ha, hb, hc, n1, n2, n3, n4, k⟩ := h
    obtain ⟨ob, fp, fn, hp⟩ := id M
    have nd := sc_Mixed_shows.nd
    have hu := hr.units
    have hu1 : (A.deeper (envOfC "Mixed.shows" (defScope s_Mixed_shows) s.heap.objs.size f cdv)).units + 1 < cLine := by omega
    unfold Lf.mixed at k
    refine ⟨_, (pss_cons (ps_if (pt_not (pt_val (pe_call G_stands_at (hr.mono (by decide)) rfl C_stands_at.mg C_stands_at.kp C_stands_at.b .nil pass0 (pa_cons (pv 1) (pa_cons (pv 2) (pa_cons (pe_fld (pv 0) rfl) pa_nil)))))) (pss_one (ps_ret pe_bl)) pss_nil)
     (pss_cons (ps_set (i := 4) nd rfl (by first | exact Or.inl rfl | exact Or.inr rfl) (pe_callTy (call_dictK rfl) rfl T.no_dict boot_dict (pa_cons (pe_comp (N := ["place"]) (k := 1) (caps := []) (Block.of (by kernel_rfl)) rfl (pi_list (pe_fld (pv 0) rfl)) (fun _ _ _ _ => ⟨_, (pg_name (i := 0) (by show List.Nodup (["place"] : List Str); decide) rfl (by first | exact Or.inl rfl | exact Or.inr rfl)), by walk_at "ce"⟩) (fun _ _ _ _ => ⟨_, PIfs.none, by walk_at "ce"⟩) (fun _ _ _ _ => ⟨_, (pe_tup (pa_cons (pv 0) (pa_cons pe_bl pa_nil))), by walk_at "ce"⟩)) pa_nil)))
     (pss_one (ps_ret (pe_cmpR (op_eqG hu) (pe_comp (N := ["place", "sign", "taken"]) (k := 2) (caps := [4]) (Block.of (by kernel_rfl)) rfl (pi_enum rfl T.no_enumerate boot_enumerate (pa_cons (pv 1) pa_nil)) (fun _ _ _ _ => ⟨_, (pg_tup (n := 2) rfl (pgs_cons (pg_name (i := 0) (by show List.Nodup (["place", "sign", "taken"] : List Str); decide) rfl (by first | exact Or.inl rfl | exact Or.inr rfl)) (pgs_cons (pg_name (i := 1) (by show List.Nodup (["place", "sign", "taken"] : List Str); decide) rfl (by first | exact Or.inl rfl | exact Or.inr rfl)) pgs_nil))), by walk_at "ce"⟩) (fun _ _ _ _ => ⟨_, (PIfs.one (pt_cmp (pc_dnotin hu1 (pv 0) (pv 2)) (by with_unfolding_all rfl))), by walk_at "ce"⟩) (fun _ _ _ _ => ⟨_, (pv 1), by walk_at "ce"⟩)) (pv 3) (nomark _)))))), ?_⟩
    try simp only [show (cxOf CX0 P w K mg base N_Mixed_shows "Mixed.shows" (defScope s_Mixed_shows) f cdv A outer s H E).nox.K = K from rfl, show (cxOf CX0 P w K mg base N_Mixed_shows "Mixed.shows" (defScope s_Mixed_shows) f cdv A outer s H E).K = K from rfl]
    rw [show L2.start N_Mixed_shows [V.ref x, V.ref a, V.ref b, V.ref c] = [some (V.ref x), some (V.ref a), some (V.ref b), some (V.ref c), none] from rfl]
    walk_at "rd"
    refine ⟨a, b, pl, row, one, ps, rfl, SqL.of ha, SqL.of hb, hp, by omega, fun H1 s1 => ?_⟩
    have ob1 := s1.at ob
    have hp1 := s1.at hp
    walk_at "rd"
    refine iteNB (fun h1 => ?_) (fun h1 => ?_)
    · walk_at "rd"
      rw [h1, Bool.false_and] at k
      exact k _ s1
    rw [h1, Bool.true_and] at k
    walk_at "rd"
    refine comp_new (ov_ints (ns := ps)) (fun y => .tup [.int y, .bl true]) (fun H' s' => SqL.of (s'.at hp1)) (by omega) ?_ ?_
    · rintro i z x' H4 H5 R R' hi s4 ⟨rfl, rfl⟩ h4
      walk_at "rd"
      refine ⟨⟨rfl, rfl⟩, ?_⟩
      walk_at "rd"
      intro p hp'
      exact h4 p _ (Same.upd_new hp') hp' upd_same
    intro D H2 ls hD s2 hd ll _ _ _ at'
    walk_at "rd"
    refine r_dictK (kvs := ps.map fun y => ((.inl y : Key), V.bl true)) hd (by rw [ll, List.length_map]) (by rw [List.length_map]; omega) (fun i t ht => ?_) ?_
    · obtain ⟨y, hy, q⟩ := at' i t ht
      exact ⟨(.inl y, .bl true), by rw [List.getElem?_map, hy]; rfl, q⟩
    intro d hd0
    have s3 : Same H (upd H2 d (.dK (mergeK [] (ps.map fun y => ((.inl y : Key), V.bl true))))) := (s1.trans s2).trans (Same.upd_new hd0)
    have hd3 : (upd H2 d (.dK (mergeK [] (ps.map fun y => ((.inl y : Key), V.bl true))))) d = some (.dK (mergeK [] (ps.map fun y => ((.inl y : Key), V.bl true)))) := upd_same
    generalize (upd H2 d (.dK (mergeK [] (ps.map fun y => ((.inl y : Key), V.bl true))))) = H3 at s3 hd3 ⊢
    have ha3 := s3.at ha
    have hc3 := s3.at hc
    clear s1 s2 ob1 hp1 hd at'
    walk_at "rd"
    refine comp_filtI (ov_enumI (xs := row)) (fun y => !decide ((y.2 : Int) ∈ ps)) (fun y => y.1) (fun H' s' => SqL.of (s'.at ha3)) (by rw [List.length_zipIdx]; omega) ?_ ?_
    · rintro i ⟨z, j⟩ x' H4 H5 R R' hi s4 ⟨T', hT, rfl, rfl⟩ h3 h4
      have hd4 := upd_keep (o := .tup [.int (j : Nat), .int z]) (s4.at hd3) hT
      have ht4 : (upd H4 T' (.tup [.int (j : Nat), .int z])) T' = some (.tup [.int (j : Nat), .int z]) := upd_same
      have s45 : Same H4 (upd H4 T' (.tup [.int (j : Nat), .int z])) := Same.upd_new hT
      simp only at hd4 ht4 s45 ⊢
      generalize upd H4 T' (.tup [.int (j : Nat), .int z]) = H6 at hd4 ht4 s45 ⊢
      walk_at "rd"
      refine ⟨⟨rfl, rfl⟩, ?_⟩
      walk_at "rd"
      refine r_DInK hd4 ?_
      rw [if_pos rfl]
      have e : (valV (mergeK [] (ps.map fun y => ((.inl y : Key), V.bl true))) (.inl (j : Int))).isSome = decide ((j : Int) ∈ ps) := by
        by_cases q : (j : Int) ∈ ps
        · rw [decide_eq_true q]
          refine (valV_mergeK _ _ _).mpr (.inr ?_)
          rw [List.map_map]
          exact List.mem_map.mpr ⟨_, q, rfl⟩
        · rw [decide_eq_false q, Bool.eq_false_iff]
          intro z'
          rcases (valV_mergeK _ _ _).mp z' with u | u
          · cases u
          · rw [List.map_map] at u
            obtain ⟨y, hy, e⟩ := List.mem_map.mp u
            exact q (by have e' : y = (j : Int) := Sum.inl.inj e; rw [← e']; exact hy)
      walk_at "rd"
      rw [e]
      refine iteNB (fun h5 => ?_) (fun h5 => ?_)
      · walk_at "rd"
        exact h3 (by rw [h5]; rfl) _ s45
      · exact h4 (by rw [h5]; rfl) _ s45
    intro D2 H5 hD2 s5 hd5
    have hc5 := s5.at hc3
    walk_at "rd"
    exact k _ (s3.trans s5)
theorem ok_Unmixed_shows (F : Fun K "shows" "Unmixed.shows" s_Unmixed_shows f fd) (T : Blt mg) (I_Unmixed : Ins K k_Unmixed) (n_Unmixed_pairs : NoAttr K k_Unmixed "pairs")
    (C_are_counts : Cal K mg "are_counts" f1 fd1 P_are_counts) (G_are_counts : FnOk P w K mg base CX0 4 f1 fd1 P_are_counts sp_are_counts)
    (C_is_followed : Cal K mg "is_followed" f2 fd2 P_is_followed) (G_is_followed : FnOk P w K mg base CX0 4 f2 fd2 P_is_followed sp_is_followed) : FnOk P w K mg base CX0 5 f fd P_Unmixed_shows (sp_Unmixed_shows k_Unmixed) := by
  refine F.ok sc_Unmixed_shows (fun vs H Q E h => ?_) (fun cdv A outer s H vs Q E hr h => ?_)
  · obtain ⟨_, _, _, _, _, _, _, _, _, _, _, _, rfl, _⟩ := h
    rfl
  · obtain ⟨x, dx, fs, p, ts, ps, a, b, c, row, one, other, rfl, M, ha, hb, hc, n1, n2, n3, n4, k⟩ := h
    obtain ⟨ob, fp, fn, hP⟩ := id M
    have nd := sc_Unmixed_shows.nd
    have hu := hr.units
    have hu1 : (A.deeper (envOfC "Unmixed.shows" (defScope s_Unmixed_shows) s.heap.objs.size f cdv)).units + 1 < cLine := by omega
    have no : ¬ Lf.UnOk row one other ps → ∀ H', Same H H' → Q (.bl false) H' := fun h H' s' => by
      have := k H' s'
      rw [Lf.unmixed_false h] at this
      exact this
    have lp := hP.len
    have pa := hP.at_
    refine ⟨_, (pss_cons (ps_if (PW.pt (pw_or (pt_cmpR (op_neG hu) (pe_callB len_G rfl T.no_len boot_len (pa_cons (pv 1) pa_nil)) (pe_op op_addG (pe_callB len_G rfl T.no_len boot_len (pa_cons (pv 2) pa_nil)) (pe_callB len_G rfl T.no_len boot_len (pa_cons (pv 3) pa_nil))) (nomark _)) (pw_or1 (pt_not (pt_val (pe_callB (call_allB rfl) rfl T.no_all boot_all (pa_cons (pe_comp (N := ["pair", "one", "other"]) (k := 1) (caps := [2, 3]) (Block.of (by kernel_rfl)) rfl (pi_list (pe_fld (pv 0) rfl)) (fun _ _ _ _ => ⟨_, (pg_name (i := 0) (by show List.Nodup (["pair", "one", "other"] : List Str); decide) rfl (by first | exact Or.inl rfl | exact Or.inr rfl)), by walk_at "ce"⟩) (fun _ _ _ _ => ⟨_, PIfs.none, by walk_at "ce"⟩) (fun _ _ _ _ => ⟨_, (pe_call G_are_counts (hr.mono (by decide)) rfl C_are_counts.mg C_are_counts.kp C_are_counts.b .nil pass0 (pa_cons (pv 0) (pa_cons (pv 1) (pa_cons (pv 2) pa_nil)))), by walk_at "ce"⟩)) pa_nil))))))) (pss_one (ps_ret pe_bl)) pss_nil)
     (pss_cons (ps_set (i := 4) nd rfl (by first | exact Or.inl rfl | exact Or.inr rfl) (pe_callTy (call_dictT rfl hu) rfl T.no_dict boot_dict (pa_cons (pe_comp (N := ["pair"]) (k := 1) (caps := []) (Block.of (by kernel_rfl)) rfl (pi_list (pe_fld (pv 0) rfl)) (fun _ _ _ _ => ⟨_, (pg_name (i := 0) (by show List.Nodup (["pair"] : List Str); decide) rfl (by first | exact Or.inl rfl | exact Or.inr rfl)), by walk_at "ce"⟩) (fun _ _ _ _ => ⟨_, PIfs.none, by walk_at "ce"⟩) (fun _ _ _ _ => ⟨_, (pe_tup (pa_cons (pv 0) (pa_cons pe_bl pa_nil))), by walk_at "ce"⟩)) pa_nil)))
     (pss_cons (ps_if (PW.pt (pw_or (pt_cmp (pc_dnotin hu1 (pe_tup (pa_cons pe_int (pa_cons pe_int pa_nil))) (pv 4)) (by with_unfolding_all rfl)) (pw_or1 (pt_cmp (pc_din hu1 (pe_tup (pa_cons (pe_callB len_G rfl T.no_len boot_len (pa_cons (pv 2) pa_nil)) (pa_cons (pe_callB len_G rfl T.no_len boot_len (pa_cons (pv 3) pa_nil)) pa_nil))) (pv 4)) (by with_unfolding_all rfl))))) (pss_one (ps_ret pe_bl)) pss_nil)
     (pss_one (ps_ret (pe_callB (call_allB rfl) rfl T.no_all boot_all (pa_cons (pe_comp (N := ["pair", "known", "row", "one", "other"]) (k := 1) (caps := [4, 1, 2, 3]) (Block.of (by kernel_rfl)) rfl (pi_keys (pv 4)) (fun _ _ _ _ => ⟨_, (pg_name (i := 0) (by show List.Nodup (["pair", "known", "row", "one", "other"] : List Str); decide) rfl (by first | exact Or.inl rfl | exact Or.inr rfl)), by walk_at "ce"⟩) (fun _ _ _ _ => ⟨_, PIfs.none, by walk_at "ce"⟩) (fun _ _ _ _ => ⟨_, (pe_call G_is_followed (hr.mono (by decide)) rfl C_is_followed.mg C_is_followed.kp C_is_followed.b .nil pass0 (pa_cons (pv 0) (pa_cons (pv 1) (pa_cons (pv 2) (pa_cons (pv 3) (pa_cons (pv 4) pa_nil)))))), by walk_at "ce"⟩)) pa_nil))))))), ?_⟩
    try simp only [show (cxOf CX0 P w K mg base N_Unmixed_shows "Unmixed.shows" (defScope s_Unmixed_shows) f cdv A outer s H E).nox.K = K from rfl, show (cxOf CX0 P w K mg base N_Unmixed_shows "Unmixed.shows" (defScope s_Unmixed_shows) f cdv A outer s H E).K = K from rfl]
    rw [show L2.start N_Unmixed_shows [V.ref x, V.ref a, V.ref b, V.ref c] = [some (V.ref x), some (V.ref a), some (V.ref b), some (V.ref c), none] from rfl]
    walk_at "rd"
    refine iteND (fun h1 => ?_) (fun h1 => ?_)
    · walk_at "rd"
      exact no (fun z => h1 (by have := z.len; omega)) _ (Same.refl _)
    have hlen : row.length = one.length + other.length := by omega
    walk_at "rd"
    refine comp_map (ov_prs hP.len) (fun y => .bl (decide ((0 ≤ y.2.1 ∧ y.2.1 ≤ (one.length : Int)) ∧ 0 ≤ y.2.2 ∧ y.2.2 ≤ (other.length : Int)))) (fun H' s' => hP.same s') (by rw [List.length_zip]; omega) ?_ ?_
    · rintro n ⟨u, v⟩ x' H5 H6 R R' hi s5 ⟨rfl, rfl, hu'⟩ h5
      walk_at "rd"
      refine ⟨⟨rfl, rfl⟩, ?_⟩
      walk_at "rd"
      exact ⟨u, b, c, v.1, v.2, one, other, rfl, hu', s5.at hb, s5.at hc, h5 _ (Same.refl _)⟩
    intro D H1 hD s1 hd
    walk_at "rd"
    refine r_allM (l := ts.zip ps) (g := fun y => decide ((0 ≤ y.2.1 ∧ y.2.1 ≤ (one.length : Int)) ∧ 0 ≤ y.2.2 ∧ y.2.2 ≤ (other.length : Int))) (SqL.of hd) ?_
    have ez : ps = (ts.zip ps).map (·.2) := by rw [List.map_snd_zip (by rw [lp]; exact Nat.le_refl _)]
    have e1 : (ts.zip ps).all (fun y => decide ((0 ≤ y.2.1 ∧ y.2.1 ≤ (one.length : Int)) ∧ 0 ≤ y.2.2 ∧ y.2.2 ≤ (other.length : Int))) = ps.all fun q => decide ((0 ≤ q.1 ∧ q.1 ≤ (one.length : Int)) ∧ 0 ≤ q.2 ∧ q.2 ≤ (other.length : Int)) := by
      conv => rhs; rw [ez]
      rw [List.all_map]; rfl
    rw [e1]
    have ob1 := s1.at ob
    have P1 := hP.same s1
    have pa1 := P1.at_
    walk_at "rd"
    refine iteNB (fun h2 => ?_) (fun h2 => ?_)
    · walk_at "rd"
      refine no (fun z => ?_) _ s1
      rw [Bool.eq_false_iff] at h2
      refine h2 (List.all_eq_true.mpr fun q hq => decide_eq_true ?_)
      have := z.all q hq
      exact ⟨⟨this.i0, this.i1⟩, this.j0, this.j1⟩
    have hbox : ∀ q ∈ ps, Lf.Box one other q := fun q hq => by
      obtain ⟨⟨z1, z2⟩, z3, z4⟩ := of_decide_eq_true (List.all_eq_true.mp h2 q hq)
      exact ⟨z1, z2, z3, z4⟩
    walk_at "rd"
    refine comp_new (ov_prs P1.len) (fun y => .tup [.ref y.1, .bl true]) (fun H' s' => P1.same s') (by rw [List.length_zip]; omega) ?_ ?_
    · rintro i ⟨u, v⟩ x' H4 H5 R R' hi s4 ⟨rfl, rfl, hu'⟩ h4
      walk_at "rd"
      refine ⟨⟨rfl, rfl⟩, ?_⟩
      walk_at "rd"
      intro q hq
      exact h4 q _ (Same.upd_new hq) hq upd_same
    intro D2 H2 ls hD2 s2 hd2 ll _ _ _ at'
    walk_at "rd"
    refine r_dictT (kvs := ps.map fun q => (kPp q, V.bl true)) hd2 (by rw [ll, List.length_zip, lp, Nat.min_self, List.length_map]) (by rw [List.length_map]; omega) (fun i t ht => ?_) ?_
    · obtain ⟨y, hy, q⟩ := at' i t ht
      obtain ⟨z1, z2⟩ := List.getElem?_eq_some_iff.mp hy
      rw [List.length_zip] at z1
      have i1 : i < ts.length := by omega
      have i2 : i < ps.length := by omega
      rw [List.getElem_zip] at z2
      subst z2
      refine ⟨(kPp ps[i], .bl true), ts[i], by rw [List.getElem?_map, List.getElem?_eq_getElem i2]; rfl, q, ?_⟩
      have := (P1.same s2).row i ts[i] (by simp [i1])
      rw [List.getD_eq_getElem?_getD, List.getElem?_eq_getElem i2] at this
      exact this
    intro d hd0
    have s3 : Same H (upd H2 d (.dT (mergeT [] (ps.map fun q => (kPp q, V.bl true))))) := (s1.trans s2).trans (Same.upd_new hd0)
    have hd3 : (upd H2 d (.dT (mergeT [] (ps.map fun q => (kPp q, V.bl true))))) d = some (.dT (mergeT [] (ps.map fun q => (kPp q, V.bl true)))) := upd_same
    have d00 : H d = none := (s1.trans s2).free hd0
    generalize (upd H2 d (.dT (mergeT [] (ps.map fun q => (kPp q, V.bl true))))) = H3 at s3 hd3 ⊢
    have val : ∀ q : Int × Int, (valV (mergeT [] (ps.map fun q => (kPp q, V.bl true))) (kPp q)).isSome = decide (q ∈ ps) := fun q => by
      by_cases z : q ∈ ps
      · rw [decide_eq_true z]
        refine (valV_mergeT _ _ _).mpr (.inr ?_)
        rw [List.map_map]
        exact List.mem_map.mpr ⟨q, z, rfl⟩
      · rw [decide_eq_false z, Bool.eq_false_iff]
        intro z'
        rcases (valV_mergeT _ _ _).mp z' with u | u
        · cases u
        · rw [List.map_map] at u
          obtain ⟨y, hy, e⟩ := List.mem_map.mp u
          have e' : y = q := kPp_inj.mp e
          exact z (e' ▸ hy)
    have keys : ∀ kv ∈ mergeT [] (ps.map fun q => (kPp q, V.bl true)), ∃ q ∈ ps, kv.1 = kPp q := fun kv hkv => by
      rcases mergeT_keys _ _ kv.1 (List.mem_map.mpr ⟨kv, hkv, rfl⟩) with u | u
      · simp at u
      · rw [List.map_map] at u
        obtain ⟨y, hy, e⟩ := List.mem_map.mp u
        exact ⟨y, hy, e.symm⟩
    have mlen : (mergeT [] (ps.map fun q => (kPp q, V.bl true))).length ≤ 100000 := by
      have := mergeT_len (ps.map fun q => (kPp q, V.bl true)) []
      rw [List.length_map, List.length_nil] at this
      omega
    generalize mergeT [] (ps.map fun q => (kPp q, V.bl true)) = kvs at hd3 val keys mlen ⊢
    clear s1 s2 ob1 P1 pa1 hd2 at' hd
    have hb3 := s3.at hb
    have hc3 := s3.at hc
    walk_at "rd"
    intro z0 hz0
    walk_at "rd"
    refine r_DInT (upd_keep hd3 hz0) upd_same ?_
    walk_at "rd"
    rw [if_pos rfl, val (0, 0)]
    refine iteND (fun h3 => ?_) (fun h3 => ?_)
    · walk_at "rd"
      exact no (fun z => h3 z.first) _ (s3.trans (Same.upd_new hz0))
    walk_at "rd"
    have s4 : Same H (upd H3 z0 (.tup [.int 0, .int 0])) := s3.trans (Same.upd_new hz0)
    have hd4 : (upd H3 z0 (.tup [.int 0, .int 0])) d = some (.dT kvs) := upd_keep hd3 hz0
    generalize upd H3 z0 (.tup [.int 0, .int 0]) = H4 at s4 hd4 ⊢
    clear s3 hd3 hb3 hc3 hz0
    have hb4 := s4.at hb
    have hc4 := s4.at hc
    walk_at "rd"
    intro z1 hz1
    walk_at "rd"
    refine r_DInT (upd_keep hd4 hz1) upd_same ?_
    rw [if_neg Bool.false_ne_true, val ((one.length : Int), (other.length : Int))]
    walk_at "rd"
    refine iteD (fun h5 => ?_) (fun h5 => ?_)
    · walk_at "rd"
      exact no (fun z => z.last h5) _ (s4.trans (Same.upd_new hz1))
    have s5 : Same H (upd H4 z1 (.tup [.int (one.length : Nat), .int (other.length : Nat)])) := s4.trans (Same.upd_new hz1)
    have hd5 : (upd H4 z1 (.tup [.int (one.length : Nat), .int (other.length : Nat)])) d = some (.dT kvs) := upd_keep hd4 hz1
    generalize upd H4 z1 (.tup [.int (one.length : Nat), .int (other.length : Nat)]) = H5 at s5 hd5 ⊢
    clear s4 hd4 hb4 hc4 hz1
    walk_at "rd"
    refine r_AtK hd5 fun o => ?_
    have s6 : Same H (upd H5 d (.frz o (.dT kvs))) := same_upd s5 d00
    have hd6 : (upd H5 d (.frz o (.dT kvs))) d = some (.frz o (.dT kvs)) := upd_same
    generalize upd H5 d (.frz o (.dT kvs)) = H6 at s6 hd6 ⊢
    clear s5 hd5
    refine comp_map ov_keys (fun kv => .bl (match kv.1 with | [.inl i, .inl j] => (Lf.nexts row one other (i, j)).all fun q => decide (q ∈ ps) | _ => true)) (fun H' s' => s'.at hd6) (by omega) ?_ ?_
    · rintro n kv x' H7 H8 R R' hi s7 ⟨t, rfl, rfl, ht⟩ h7
      obtain ⟨⟨i, j⟩, hq, ekv⟩ := keys kv (List.mem_of_getElem? hi)
      rw [ekv] at ht h7
      have ht' : H8 t = some (.tup [.int i, .int j]) := ht
      have s67 := s6.trans s7
      walk_at "rd"
      refine ⟨⟨rfl, rfl⟩, ?_⟩
      walk_at "rd"
      refine ⟨t, d, a, b, c, o, kvs, i, j, row, one, other, rfl, ht', s7.at hd6, s67.at ha, s67.at hb, s67.at hc, hbox _ hq, hlen, fun H9 s9 => ?_⟩
      have e : ((Lf.nexts row one other (i, j)).all fun q => (valV kvs (kP q.1 q.2)).isSome) = (Lf.nexts row one other (i, j)).all fun q => decide (q ∈ ps) := by
        congr 1
        funext q
        exact val q
      rw [e]
      exact h7 _ s9
    intro D3 H7 hD3 s7 hd7
    walk_at "rd"
    refine r_allM (l := kvs) (g := fun kv => (match kv.1 with | [.inl i, .inl j] => (Lf.nexts row one other (i, j)).all fun q => decide (q ∈ ps) | _ => true)) (SqL.of hd7) ?_
    have e : (kvs.all fun kv => (match kv.1 with | [.inl i, .inl j] => (Lf.nexts row one other (i, j)).all fun q => decide (q ∈ ps) | _ => true)) = Lf.unmixed row one other ps := by
      by_cases U : Lf.UnOk row one other ps
      · rw [Lf.unmixed_true U, List.all_eq_true]
        intro kv hkv
        obtain ⟨⟨i, j⟩, hq, ekv⟩ := keys kv hkv
        rw [ekv]
        show ((Lf.nexts row one other (i, j)).all fun q => decide (q ∈ ps)) = true
        rw [List.all_eq_true]
        intro q hq'
        have u := U.all _ hq
        refine decide_eq_true ?_
        rcases Lf.nexts_mem.mp hq' with ⟨c1, c2, rfl⟩ | ⟨c1, c2, rfl⟩
        · exact u.nx c1 c2
        · exact u.ny c1 c2
      · rw [Lf.unmixed_false U, Bool.eq_false_iff]
        intro z
        rw [List.all_eq_true] at z
        refine U ⟨hlen, h3, h5, fun q hq => ?_⟩
        obtain ⟨i, j⟩ := q
        have hs : (valV kvs (kPp (i, j))).isSome = true := by rw [val]; exact decide_eq_true hq
        obtain ⟨kv, hkv, ekv⟩ := valV_mem hs
        have zz := z kv hkv
        rw [ekv] at zz
        have zz : ((Lf.nexts row one other (i, j)).all fun q => decide (q ∈ ps)) = true := zz
        rw [List.all_eq_true] at zz
        obtain ⟨b1, b2, b3, b4⟩ := hbox _ hq
        exact ⟨b1, b2, b3, b4, fun c1 c2 => of_decide_eq_true (zz _ (Lf.nexts_mem.mpr (.inl ⟨c1, c2, rfl⟩))), fun c1 c2 => of_decide_eq_true (zz _ (Lf.nexts_mem.mpr (.inr ⟨c1, c2, rfl⟩)))⟩
    rw [e]
    exact k _ (s6.trans s7)
theorem ok_mixed (F : Fun K "mixed" "mixed" s_mixed f fd) (T : Blt mg)
    (C_checked_row : Cal K mg "checked_row" f1 fd1 P_checked_row) (G_checked_row : FnOk P w K mg base CX0 3 f1 fd1 P_checked_row sp_checked_row)
    (C_pairs_reached : Cal K mg "pairs_reached" f2 fd2 P_pairs_reached) (G_pairs_reached : FnOk P w K mg base CX0 3 f2 fd2 P_pairs_reached sp_pairs_reached)
    (C_places_on_way : Cal K mg "places_on_way" f3 fd3 P_places_on_way) (G_places_on_way : FnOk P w K mg base CX0 3 f3 fd3 P_places_on_way (sp_places_on_way K))
    (M_Mixed : Mak K mg "Mixed" k_Mixed f4 fd4 P_Mixed___init__) (G_Mixed___init__ : FnOk P w K mg base CX0 1 f4 fd4 P_Mixed___init__ (sp_initM k_Mixed))
    (M_Unmixed : Mak K mg "Unmixed" k_Unmixed f5 fd5 P_Unmixed___init__) (G_Unmixed___init__ : FnOk P w K mg base CX0 1 f5 fd5 P_Unmixed___init__ (sp_initU k_Unmixed))
    : FnOk P w K mg base CX0 4 f fd P_mixed (sp_mixed k_Mixed k_Unmixed) := by
  refine F.ok sc_mixed (fun vs H Q E h => ?_) (fun cdv A outer s H vs Q E hr h => ?_)
  · obtain ⟨_, _, _, _, _, _, rfl, _⟩ := h
    rfl
  · obtain ⟨a, b, c, row, one, other, rfl, ha, hb, hc, l1, l2, l3, hl, k1, k2⟩ := h
    have nd := sc_mixed.nd
    have hu := hr.units
    have hu1 : (A.deeper (envOfC "mixed" (defScope s_mixed) s.heap.objs.size f cdv)).units + 1 < cLine := by omega
    refine ⟨_, (pss_cons (ps_set (i := 3) nd rfl (by first | exact Or.inl rfl | exact Or.inr rfl) (pe_call G_checked_row (hr.mono (by decide)) rfl C_checked_row.mg C_checked_row.kp C_checked_row.b .nil pass0 (pa_cons (pv 0) pa_nil)))
     (pss_cons (ps_set (i := 4) nd rfl (by first | exact Or.inl rfl | exact Or.inr rfl) (pe_call G_checked_row (hr.mono (by decide)) rfl C_checked_row.mg C_checked_row.kp C_checked_row.b .nil pass0 (pa_cons (pv 1) pa_nil)))
     (pss_cons (ps_set (i := 5) nd rfl (by first | exact Or.inl rfl | exact Or.inr rfl) (pe_call G_checked_row (hr.mono (by decide)) rfl C_checked_row.mg C_checked_row.kp C_checked_row.b .nil pass0 (pa_cons (pv 2) pa_nil)))
     (pss_cons (ps_if (pt_cmpR (op_neG hu) (pe_callB len_G rfl T.no_len boot_len (pa_cons (pv 3) pa_nil)) (pe_op op_addG (pe_callB len_G rfl T.no_len boot_len (pa_cons (pv 4) pa_nil)) (pe_callB len_G rfl T.no_len boot_len (pa_cons (pv 5) pa_nil))) (nomark _)) (pss_one ps_never) pss_nil)
     (pss_cons (ps_set (i := 6) nd rfl (by first | exact Or.inl rfl | exact Or.inr rfl) (pe_call G_pairs_reached (hr.mono (by decide)) rfl C_pairs_reached.mg C_pairs_reached.kp C_pairs_reached.b .nil pass0 (pa_cons (pv 3) (pa_cons (pv 4) (pa_cons (pv 5) pa_nil)))))
     (pss_cons (ps_set (i := 7) nd rfl (by first | exact Or.inl rfl | exact Or.inr rfl) (pe_tup (pa_cons (pe_callB len_G rfl T.no_len boot_len (pa_cons (pv 4) pa_nil)) (pa_cons (pe_callB len_G rfl T.no_len boot_len (pa_cons (pv 5) pa_nil)) pa_nil))))
     (pss_cons (ps_if (pt_cmp (pc_din hu1 (pv 7) (pv 6)) (by with_unfolding_all rfl)) (pss_one (ps_ret (pe_make M_Mixed.mkk G_Mixed___init__ (hr.mono (by decide)) rfl M_Mixed.mg M_Mixed.b .nil pass0 (pa_cons (pe_call G_places_on_way (hr.mono (by decide)) rfl C_places_on_way.mg C_places_on_way.kp C_places_on_way.b .nil pass0 (pa_cons (pv 6) (pa_cons (pv 7) pa_nil))) pa_nil)))) pss_nil)
     (pss_one (ps_ret (pe_make M_Unmixed.mkk G_Unmixed___init__ (hr.mono (by decide)) rfl M_Unmixed.mg M_Unmixed.b .nil pass0 (pa_cons (pe_callTy (call_listKeys rfl) rfl T.no_list boot_list (pa_cons (pv 6) pa_nil)) pa_nil))))))))))), ?_⟩
    try simp only [show (cxOf CX0 P w K mg base N_mixed "mixed" (defScope s_mixed) f cdv A outer s H E).nox.K = K from rfl, show (cxOf CX0 P w K mg base N_mixed "mixed" (defScope s_mixed) f cdv A outer s H E).K = K from rfl]
    rw [show L2.start N_mixed [V.ref a, V.ref b, V.ref c] = [some (V.ref a), some (V.ref b), some (V.ref c), none, none, none, none, none] from rfl]
    walk_at "rd"
    refine ⟨a, row, rfl, ha, by omega, fun a2 H1 ha2 s1 h1 => ?_⟩
    walk_at "rd"
    refine ⟨b, one, rfl, s1.at hb, by omega, fun b2 H2 hb2 s2 h2 => ?_⟩
    walk_at "rd"
    refine ⟨c, other, rfl, s2.at (s1.at hc), by omega, fun c2 H3 hc2 s3 h3 => ?_⟩
    have s03 : Same H H3 := (s1.trans s2).trans s3
    have a3 := s3.at (s2.at h1)
    have b3 := s3.at h2
    clear s1 s2 s3 h1 h2 ha2 hb2 hc2
    walk_at "rd"
    refine iteND (fun h5 => absurd (by omega) h5) (fun h5 => ?_)
    walk_at "rd"
    refine ⟨a2, b2, c2, row, one, other, rfl, a3, b3, h3, hl, l2, l3, fun d kvs ps par H4 hd s4 hd4 ek A4 B4 => ?_⟩
    have s04 := s03.trans s4
    have b4 := s4.at b3
    have c4 := s4.at h3
    clear s03 s4 a3 b3 h3
    walk_at "rd"
    intro t ht
    have s5 : Same H (upd H4 t (.tup [.int (one.length : Nat), .int (other.length : Nat)])) := s04.trans (Same.upd_new ht)
    have hd5 : (upd H4 t (.tup [.int (one.length : Nat), .int (other.length : Nat)])) d = some (.dT kvs) := upd_keep hd4 ht
    have ht5 : (upd H4 t (.tup [.int (one.length : Nat), .int (other.length : Nat)])) t = some (.tup [.int (one.length : Nat), .int (other.length : Nat)]) := upd_same
    have A5 : ParOk (upd H4 t (.tup [.int (one.length : Nat), .int (other.length : Nat)])) kvs par := A4.same fun u xs e => upd_keep e ht
    generalize upd H4 t (.tup [.int (one.length : Nat), .int (other.length : Nat)]) = H5 at s5 hd5 ht5 A5 ⊢
    clear s04 hd4 A4 ht b4 c4
    walk_at "rd"
    refine r_DInT hd5 ht5 ?_
    rw [if_neg Bool.false_ne_true, show (valV kvs (kP (one.length : Int) (other.length : Int))).isSome = (par ((one.length : Int), (other.length : Int))).isSome from A5.some_iff ((one.length : Int), (other.length : Int))]
    walk_at "rd"
    refine iteB (fun h6 => ?_) (fun h6 => ?_)
    · have hin := (B4.keys _).mp h6
      walk_at "rd"
      refine ⟨d, t, kvs, ps, par, _, row, one, other, rfl, hd5, ht5, A5, B4, hin, hl, by omega, fun l pl H6 hl6 s6 h7 hM => ?_⟩
      walk_at "rd"
      intro x dx hx hdx xdx
      have s06 := s5.trans s6
      have hD6 : ∀ {z o}, H6 z = some o → (upd (upd H6 dx (.own x)) x (.ins k_Mixed dx [])) z = some o := fun {z o} hz => upd_keepNe (upd_keep hz hdx) (ne_of_none hz hx)
      refine ⟨x, dx, l, pl, rfl, upd_same, hD6 h7, fun fs pl' H7 hp' s7 MA => ⟨rfl, ?_⟩⟩
      refine k1 x dx fs pl' pl H7 (s06.free hx) (s06.free (free_upd (free_upd hp'))) ?_ MA hM
      intro z o hz
      exact s7 z o (hD6 (s06 _ _ hz)) (by simpa using ne_of_none hz (s06.free hx))
    · have hnin : ((one.length : Int), (other.length : Int)) ∉ ps := fun z => by rw [(B4.keys _).mpr z] at h6; cases h6
      have hlk : kvs.length = ps.length := by have := congrArg List.length ek; simpa using this
      have bl := B4.len
      have big : (one.length + 1) * (other.length + 1) ≤ 101 * 101 := Nat.mul_le_mul (by omega) (by omega)
      walk_at "rd"
      refine ⟨d, kvs, rfl, hd5, fun l ts hl5 hts hat => ?_⟩
      have P6 : Prs (upd H5 l (.lst (ts.map V.ref))) l ts ps := by
        refine ⟨upd_same, by omega, fun i u hu' => ?_⟩
        obtain ⟨kv, h1, h2⟩ := hat i u hu'
        have i2 : i < ps.length := by have := (List.getElem?_eq_some_iff.mp hu').1; omega
        have e := congrArg (fun z : List (List Key) => z[i]?) ek
        simp only [List.getElem?_map, h1, List.getElem?_eq_getElem i2, Option.map_some] at e
        have e : kv.1 = kPp ps[i] := Option.some.inj e
        rw [e] at h2
        rw [List.getD_eq_getElem?_getD, List.getElem?_eq_getElem i2]
        exact upd_keep h2 hl5
      have s6 : Same H (upd H5 l (.lst (ts.map V.ref))) := s5.trans (Same.upd_new hl5)
      generalize upd H5 l (.lst (ts.map V.ref)) = H6 at P6 s6 ⊢
      walk_at "rd"
      intro x dx hx hdx xdx
      have hD6 : ∀ {z o}, H6 z = some o → (upd (upd H6 dx (.own x)) x (.ins k_Unmixed dx [])) z = some o := fun {z o} hz => upd_keepNe (upd_keep hz hdx) (ne_of_none hz hx)
      refine ⟨x, dx, l, ts, ps, rfl, upd_same, ⟨hD6 P6.at_, P6.len, fun i u hu' => hD6 (P6.row i u hu')⟩, fun fs p' H7 hp' s7 UA => ⟨rfl, ?_⟩⟩
      refine k2 x dx fs p' ts ps H7 (s6.free hx) (s6.free (free_upd (free_upd hp'))) ?_ UA (by omega) (Lf.unmixed_true (B4.un hl hnin))
      intro z o hz
      exact s7 z o (hD6 (s6 _ _ hz)) (by simpa using ne_of_none hz (s6.free hx))
end

abbrev s__law_row : Stmt := body.getD 38 (.Pass ⟨0, 0, 0, 0⟩)
abbrev N__law_row : List Str := ["_law_cells", "_law_code", "_law_most"]
abbrev P__law_row : List Str := ["_law_cells", "_law_code"]
theorem sc__law_row : FnScope N__law_row P__law_row (defScope s__law_row) := ⟨rfl, rfl, rfl, by decide, rfl, by decide, by decide⟩
section
variable {P : Program} {w : World} {K : PySem.W.Frag} {mg : Str → Option Value} {base : Heap} {f : Addr} {fd : FuncData}
def sp__law_row (K : PySem.W.Frag) : Sp := fun vs H Q _ => ∃ (a : Addr) (cells : List Int) (code : Int), vs = [.ref a, .int code] ∧ SqL K H a (cells.map V.int) ∧ cells.length ≤ 1000000 ∧ ∀ p H', H p = none → Same H H' → H' p = some (.lst ((Lf.lrow cells code).map V.int)) → Q (.ref p) H'
theorem most_at (code : Int) : atI [V.int 2, V.int 3, V.int 5, V.int (10 ^ (30 : Int).toNat)] (code % 4) = some (V.int (Lf.most code)) := by
  have h : code % 4 = 0 ∨ code % 4 = 1 ∨ code % 4 = 2 ∨ code % 4 = 3 := by omega
  unfold Lf.most
  rcases h with h | h | h | h <;> rw [h] <;> rfl
theorem ok__law_row (F : Fun K "_law_row" "_law_row" s__law_row f fd) (T : Blt mg) : FnOk P w K mg base CX0 1 f fd P__law_row (sp__law_row K) := by
  refine F.ok sc__law_row (fun vs H Q E h => ?_) (fun cdv A outer s H vs Q E hr h => ?_)
  · obtain ⟨_, _, _, rfl, _⟩ := h
    rfl
  · obtain ⟨a, cells, code, rfl, ha, hn, k⟩ := h
    have nd := sc__law_row.nd
    have hu := hr.units
    refine ⟨_, (pss_cons (ps_set (i := 2) nd rfl (by first | exact Or.inl rfl | exact Or.inr rfl) (pe_ix ix_G (pe_tup (pa_cons pe_int (pa_cons pe_int (pa_cons pe_int (pa_cons (pe_op op_pow pe_int pe_int) pa_nil))))) (pe_op op_mod (pv 1) pe_int) (fun _ _ => rfl)))
     (pss_cons (ps_if (pt_cmpR (op_eqG hu) (pe_op op_mod (pe_op op_fdiv (pv 1) pe_int) pe_int) pe_int (nomark _)) (pss_one (ps_ret (pe_comp (N := ["_law_cell", "_law_most"]) (k := 1) (caps := [2]) (Block.of (by kernel_rfl)) rfl (pi_list (pv 0)) (fun _ _ _ _ => ⟨_, (pg_name (i := 0) (by show List.Nodup (["_law_cell", "_law_most"] : List Str); decide) rfl (by first | exact Or.inl rfl | exact Or.inr rfl)), by walk_at "ce"⟩) (fun _ _ _ _ => ⟨_, PIfs.none, by walk_at "ce"⟩) (fun _ _ _ _ => ⟨_, (pe_op op_mulG (pe_op op_sub (pe_op op_mod (pv 0) (pv 1)) pe_int) (pe_op op_pow pe_int pe_int)), by walk_at "ce"⟩)))) pss_nil)
     (pss_one (ps_ret (pe_comp (N := ["_law_cell", "_law_most"]) (k := 1) (caps := [2]) (Block.of (by kernel_rfl)) rfl (pi_list (pv 0)) (fun _ _ _ _ => ⟨_, (pg_name (i := 0) (by show List.Nodup (["_law_cell", "_law_most"] : List Str); decide) rfl (by first | exact Or.inl rfl | exact Or.inr rfl)), by walk_at "ce"⟩) (fun _ _ _ _ => ⟨_, PIfs.none, by walk_at "ce"⟩) (fun _ _ _ _ => ⟨_, (pe_op op_mod (pv 0) (pv 1)), by walk_at "ce"⟩)))))), ?_⟩
    try simp only [show (cxOf CX0 P w K mg base N__law_row "_law_row" (defScope s__law_row) f cdv A outer s H E).nox.K = K from rfl, show (cxOf CX0 P w K mg base N__law_row "_law_row" (defScope s__law_row) f cdv A outer s H E).K = K from rfl]
    rw [show L2.start N__law_row [V.ref a, V.int code] = [some (V.ref a), some (V.int code), none] from rfl]
    walk_at "rd"
    intro p hp
    walk_at "rd"
    refine r_ixT (by walk_at "ft") (most_at code) ?_
    have s1 : Same H (upd H p (.tup [V.int 2, V.int 3, V.int 5, V.int (10 ^ (30 : Int).toNat)])) := Same.upd_new hp
    have mp := Lf.most_pos code
    have ml := Lf.most_le code
    walk_at "rd"
    refine iteD (fun h => ?_) (fun h => ?_)
    · walk_at "rd"
      refine comp_map (ov_ints (ns := cells)) (fun c => .int ((c % Lf.most code - 1) * 10 ^ 30)) (fun H' s' => (s1.trans s').seq ha) hn ?_ ?_
      · rintro i z x H3 H4 R R' hi s3 ⟨rfl, rfl⟩ h1
        walk_at "rd"
        refine ⟨⟨rfl, rfl⟩, ?_⟩
        walk_at "rd"
        refine r_rI (mulOk200 ?_ ?_) ?_
        · have a1 := Int.emod_nonneg z (Int.ne_of_gt mp)
          have a2 := Int.emod_lt_of_pos z mp
          have a4 : (10 : Int) ^ 30 < (2 ^ 200 : Nat) := by decide
          omega
        · decide
        · walk_at "rd"
          exact h1 _ (Same.refl _)
      · intro D H' hD s' hd
        walk_at "rd"
        refine k D H' ((s1).free hD) (s1.trans s') ?_
        rw [hd]
        unfold Lf.lrow
        rw [if_pos h]
        rw [List.map_map]; rfl
    · walk_at "rd"
      refine comp_map (ov_ints (ns := cells)) (fun c => .int (c % Lf.most code)) (fun H' s' => (s1.trans s').seq ha) hn ?_ ?_
      · rintro i z x H3 H4 R R' hi s3 ⟨rfl, rfl⟩ h1
        walk_at "rd"
        refine ⟨⟨rfl, rfl⟩, ?_⟩
        walk_at "rd"
        exact h1 _ (Same.refl _)
      · intro D H' hD s' hd
        walk_at "rd"
        refine k D H' ((s1).free hD) (s1.trans s') ?_
        rw [hd]
        unfold Lf.lrow
        rw [if_neg h]
        rw [List.map_map]; rfl
end

abbrev s__law_numbers : Stmt := body.getD 39 (.Pass ⟨0, 0, 0, 0⟩)
abbrev N__law_numbers : List Str := ["_law_found"]
abbrev P__law_numbers : List Str := ["_law_found"]
theorem sc__law_numbers : FnScope N__law_numbers P__law_numbers (defScope s__law_numbers) := ⟨rfl, rfl, rfl, by decide, rfl, by decide, by decide⟩
section
variable {P : Program} {w : World} {K : PySem.W.Frag} {mg : Str → Option Value} {base : Heap} {f : Addr} {fd : FuncData}
def sp__law_numbers (K : PySem.W.Frag) : Sp := fun vs H Q _ => ∃ (a : Addr) (ns : List Int), vs = [.ref a] ∧ H a = some (.lst (ns.map V.int)) ∧ ns.length ≤ 1000000 ∧ ∀ H', Same H H' → Q (.bl true) H'
theorem ok__law_numbers (F : Fun K "_law_numbers" "_law_numbers" s__law_numbers f fd) (T : Blt mg) : FnOk P w K mg base CX0 1 f fd P__law_numbers (sp__law_numbers K) := by
  refine F.ok sc__law_numbers (fun vs H Q E h => ?_) (fun cdv A outer s H vs Q E hr h => ?_)
  · obtain ⟨_, _, rfl, _⟩ := h
    rfl
  · obtain ⟨a, ns, rfl, ha, hn, k⟩ := h
    have nd := sc__law_numbers.nd
    have hu := hr.units
    refine ⟨_, (pss_cons (ps_if (pt_not (pt_val (pe_callB call_isinst rfl T.no_isinstance boot_isinstance (pa_cons (pv 0) (pa_cons (pe_bty rfl T.no_list boot_list) pa_nil))))) (pss_one (ps_ret pe_bl)) pss_nil)
     (pss_one (ps_ret (pe_callB (call_allB rfl) rfl T.no_all boot_all (pa_cons (pe_comp (N := ["_law_one"]) (k := 1) (caps := []) (Block.of (by kernel_rfl)) rfl (pi_list (pv 0)) (fun _ _ _ _ => ⟨_, (pg_name (i := 0) (by show List.Nodup (["_law_one"] : List Str); decide) rfl (by first | exact Or.inl rfl | exact Or.inr rfl)), by walk_at "ce"⟩) (fun _ _ _ _ => ⟨_, PIfs.none, by walk_at "ce"⟩) (fun _ _ _ _ => ⟨_, (pe_and (pe_callB call_isinst rfl T.no_isinstance boot_isinstance (pa_cons (pv 0) (pa_cons (pe_bty rfl T.no_int boot_int) pa_nil))) (pe_one (pe_not (pe_callB call_isinst rfl T.no_isinstance boot_isinstance (pa_cons (pv 0) (pa_cons (pe_bty rfl T.no_bool boot_bool) pa_nil)))))), by walk_at "ce"⟩)) pa_nil))))), ?_⟩
    try simp only [show (cxOf CX0 P w K mg base N__law_numbers "_law_numbers" (defScope s__law_numbers) f cdv A outer s H E).nox.K = K from rfl, show (cxOf CX0 P w K mg base N__law_numbers "_law_numbers" (defScope s__law_numbers) f cdv A outer s H E).K = K from rfl]
    rw [show L2.start N__law_numbers [V.ref a] = [some (V.ref a)] from rfl]
    walk_at "rd"
    refine comp_map (ov_ints (ns := ns)) (fun _ => .bl true) (fun H' s' => s'.seq (SqL.of ha)) hn ?_ ?_
    · rintro i z x H3 H4 R R' hi s3 ⟨rfl, rfl⟩ h1
      walk_at "rd"
      refine ⟨⟨rfl, rfl⟩, ?_⟩
      walk_at "rd"
      exact h1 _ (Same.refl _)
    · intro D H' hD s' hd
      walk_at "rd"
      refine ⟨D, ns.map (fun _ => true), rfl, SqL.of ?_, ?_⟩
      · rw [hd]
        rw [List.map_map]; rfl
      · rw [all_true]
        exact k _ s'
end

abbrev s__law_stands : Stmt := body.getD 40 (.Pass ⟨0, 0, 0, 0⟩)
abbrev N__law_stands : List Str := ["_law_row_here", "_law_places", "_law_other", "_law_last", "_law_place", "_law_sign"]
abbrev P__law_stands : List Str := ["_law_row_here", "_law_places", "_law_other"]
theorem sc__law_stands : FnScope N__law_stands P__law_stands (defScope s__law_stands) := ⟨rfl, rfl, rfl, by decide, rfl, by decide, by decide⟩
section
variable {P : Program} {w : World} {K : PySem.W.Frag} {mg : Str → Option Value} {base : Heap} {f : Addr} {fd : FuncData}
def sp__law_stands (K : PySem.W.Frag) : Sp := fun vs H Q _ => ∃ (a b c : Addr) (row ps other : List Int), vs = [.ref a, .ref b, .ref c] ∧ SqL K H a (row.map V.int) ∧ SqL K H b (ps.map V.int) ∧ SqL K H c (other.map V.int) ∧ ∀ H', Same H H' → Q (.bl (Lf.stands row ps other)) H'
theorem ok__law_stands (F : Fun K "_law_stands" "_law_stands" s__law_stands f fd) (T : Blt mg) : FnOk P w K mg base CX0 1 f fd P__law_stands (sp__law_stands K) := by
  refine F.ok sc__law_stands (fun vs H Q E h => ?_) (fun cdv A outer s H vs Q E hr h => ?_)
  · obtain ⟨_, _, _, _, _, _, rfl, _⟩ := h
    rfl
  · obtain ⟨a, b, c, row, ps, other, rfl, ha, hb, hc, k⟩ := h
    have nd := sc__law_stands.nd
    have hu := hr.units
    refine ⟨_, (pss_cons (ps_if (pt_cmpR (op_neG hu) (pe_callB len_G rfl T.no_len boot_len (pa_cons (pv 1) pa_nil)) (pe_callB len_G rfl T.no_len boot_len (pa_cons (pv 2) pa_nil)) (nomark _)) (pss_one (ps_ret pe_bl)) pss_nil)
     (pss_cons (ps_set (i := 3) nd rfl (by first | exact Or.inl rfl | exact Or.inr rfl) (pe_un un_neg pe_int))
     (pss_cons (ps_for PassesOwn.never rfl (pi_zip rfl T.no_zip boot_zip (pa_cons (pv 1) (pa_cons (pv 2) pa_nil))) (pg_tup (n := 2) rfl (pgs_cons (pg_name (i := 4) nd rfl (by first | exact Or.inl rfl | exact Or.inr rfl)) (pgs_cons (pg_name (i := 5) nd rfl (by first | exact Or.inl rfl | exact Or.inr rfl)) pgs_nil))) (pss_cons (ps_if (PW.pt (pw_or (pt_not (pt_chain op_lt op_lt (pv 3) (pv 4) (pe_callB len_G rfl T.no_len boot_len (pa_cons (pv 0) pa_nil)))) (pw_or1 (pt_cmpR (op_neG hu) (pe_ix ix_G (pv 0) (pv 4) (fun _ _ => rfl)) (pv 5) (nomark _))))) (pss_one (ps_ret pe_bl)) pss_nil)
     (pss_one (ps_set (i := 3) nd rfl (by first | exact Or.inl rfl | exact Or.inr rfl) (pv 4)))))
     (pss_one (ps_ret pe_bl))))), ?_⟩
    try simp only [show (cxOf CX0 P w K mg base N__law_stands "_law_stands" (defScope s__law_stands) f cdv A outer s H E).nox.K = K from rfl, show (cxOf CX0 P w K mg base N__law_stands "_law_stands" (defScope s__law_stands) f cdv A outer s H E).K = K from rfl]
    rw [show L2.start N__law_stands [V.ref a, V.ref b, V.ref c] = [some (V.ref a), some (V.ref b), some (V.ref c), none, none, none] from rfl]
    walk_at "rd"
    refine iteND (fun h => ?_) (fun h => ?_)
    · walk_at "rd"
      have e : Lf.stands row ps other = false := by
        unfold Lf.stands
        have : ¬ ps.length = other.length := by omega
        simp [this]
      rw [← e]
      exact k _ (Same.refl _)
    · have hl : ps.length = other.length := by omega
      walk_at "rd"
      refine for_by (ov_zipI (xs := ps) (ys := other)) (fun i σ H2 => ∃ (last : Int) (v4 v5 : Option V), σ = [some (.ref a), some (.ref b), some (.ref c), some (.int last), v4, v5] ∧ Same H H2 ∧ -1 ≤ last ∧ Lf.standsFrom row (-1) ps other = Lf.standsFrom row last (ps.drop i) (other.drop i)) ?_ ?_ ?_ ?_
      · exact ⟨-1, none, none, rfl, Same.refl _, by omega, rfl⟩
      · rintro i σ H2 _ ⟨_, _, _, _, s2, _⟩
        exact ⟨s2.seq hb, s2.seq hc⟩
      · rintro i ⟨p, x⟩ xv σ H2 H3 hy ⟨last, v4, v5, rfl, s2, hl1, inv⟩ ⟨T', hT, rfl, rfl⟩
        obtain ⟨e1, e2⟩ := List.getElem?_zip_eq_some.mp hy
        have step : Lf.standsFrom row last (ps.drop i) (other.drop i) = (decide (last < p) && decide (p < (row.length : Int)) && decide (row.getD p.toNat 0 = x) && Lf.standsFrom row p (ps.drop (i + 1)) (other.drop (i + 1))) := by
          obtain ⟨l1, e1⟩ := List.getElem?_eq_some_iff.mp e1
          obtain ⟨l2, e2⟩ := List.getElem?_eq_some_iff.mp e2
          rw [List.drop_eq_getElem_cons l1, List.drop_eq_getElem_cons l2, e1, e2]
          rfl
        have st : Lf.stands row ps other = Lf.standsFrom row last (ps.drop i) (other.drop i) := by
          unfold Lf.stands
          rw [inv]
          simp [hl]
        have bad : (decide (last < p) && decide (p < (row.length : Int)) && decide (row.getD p.toNat 0 = x)) = false → ∀ H', Same H H' → Q (.bl false) H' := fun e H' s' => by
          have := k H' s'
          rw [st, step, e, Bool.false_and] at this
          exact this
        have s3 : Same H (upd H2 T' (.tup [V.int p, V.int x])) := s2.trans (Same.upd_new hT)
        walk_at "rd"
        refine iteD (fun h1 => ?_) (fun h1 => ?_)
        · walk_at "rd"
          refine iteND (fun h2 => ?_) (fun h2 => ?_)
          · walk_at "rd"
            exact bad (by rw [decide_eq_false h2, Bool.and_false, Bool.false_and]) _ s3
          · walk_at "rd"
            refine r_ixI (by walk_at "ft") (by omega) (by omega) ?_
            walk_at "rd"
            refine iteND (fun h3 => ?_) (fun h3 => ?_)
            · walk_at "rd"
              exact bad (by rw [decide_eq_false h3, Bool.and_false]) _ s3
            · walk_at "rd"
              refine ⟨p, _, _, rfl, s3, by omega, ?_⟩
              rw [inv, step, decide_eq_true h1, decide_eq_true h2, decide_eq_true h3]
              simp only [Bool.true_and]
        · walk_at "rd"
          exact bad (by rw [decide_eq_false h1, Bool.false_and, Bool.false_and]) _ s3
      · rintro σ H2 ⟨last, v4, v5, rfl, s2, hl1, inv⟩
        walk_at "rd"
        have e : Lf.stands row ps other = true := by
          unfold Lf.stands
          rw [inv, List.length_zip, hl]
          simp [Lf.standsFrom, ← hl]
        rw [← e]
        exact k _ s2
end

abbrev s__law_is_mixed : Stmt := body.getD 41 (.Pass ⟨0, 0, 0, 0⟩)
abbrev N__law_is_mixed : List Str := ["_law_row_here", "_law_one", "_law_other", "_law_places"]
abbrev P__law_is_mixed : List Str := ["_law_row_here", "_law_one", "_law_other", "_law_places"]
theorem sc__law_is_mixed : FnScope N__law_is_mixed P__law_is_mixed (defScope s__law_is_mixed) := ⟨rfl, rfl, rfl, by decide, rfl, by decide, by decide⟩
section
variable {P : Program} {w : World} {K : PySem.W.Frag} {mg : Str → Option Value} {base : Heap} {f f1 : Addr} {fd fd1 : FuncData}
def sp__law_is_mixed : Sp := fun vs H Q _ => ∃ (a b c p : Addr) (row one other ps : List Int), vs = [.ref a, .ref b, .ref c, .ref p] ∧ H a = some (.lst (row.map V.int)) ∧ H b = some (.lst (one.map V.int)) ∧ H c = some (.lst (other.map V.int)) ∧ H p = some (.lst (ps.map V.int)) ∧ row.length ≤ 1000 ∧ ∀ H', Same H H' → Q (.bl (Lf.mixed row one other ps)) H'
theorem ok__law_is_mixed (F : Fun K "_law_is_mixed" "_law_is_mixed" s__law_is_mixed f fd) (T : Blt mg)
    (C__law_stands : Cal K mg "_law_stands" f1 fd1 P__law_stands) (G__law_stands : FnOk P w K mg base CX0 1 f1 fd1 P__law_stands (sp__law_stands K)) : FnOk P w K mg base CX0 2 f fd P__law_is_mixed sp__law_is_mixed := by
  refine F.ok sc__law_is_mixed (fun vs H Q E h => ?_) (fun cdv A outer s H vs Q E hr h => ?_)
  · obtain ⟨_, _, _, _, _, _, _, _, rfl, _⟩ := h
    rfl
  · obtain ⟨a, b, c, p, row, one, other, ps, rfl, ha, hb, hc, hp, hn, k⟩ := h
    have nd := sc__law_is_mixed.nd
    have hu := hr.units
    refine ⟨_, (pss_cons (ps_if (pt_not (pt_val (pe_call G__law_stands (hr.mono (by decide)) rfl C__law_stands.mg C__law_stands.kp C__law_stands.b .nil pass0 (pa_cons (pv 0) (pa_cons (pv 3) (pa_cons (pv 1) pa_nil)))))) (pss_one (ps_ret pe_bl)) pss_nil)
     (pss_one (ps_ret (pe_cmpR (op_eqG hu) (pe_comp (N := ["_law_place", "_law_sign", "_law_places"]) (k := 2) (caps := [3]) (Block.of (by kernel_rfl)) rfl (pi_enum rfl T.no_enumerate boot_enumerate (pa_cons (pv 0) pa_nil)) (fun _ _ _ _ => ⟨_, (pg_tup (n := 2) rfl (pgs_cons (pg_name (i := 0) (by show List.Nodup (["_law_place", "_law_sign", "_law_places"] : List Str); decide) rfl (by first | exact Or.inl rfl | exact Or.inr rfl)) (pgs_cons (pg_name (i := 1) (by show List.Nodup (["_law_place", "_law_sign", "_law_places"] : List Str); decide) rfl (by first | exact Or.inl rfl | exact Or.inr rfl)) pgs_nil))), by walk_at "ce"⟩) (fun _ _ _ _ => ⟨_, (PIfs.one (pt_cmpR op_notIn_seq (pv 0) (pv 2) (by with_unfolding_all rfl))), by walk_at "ce"⟩) (fun _ _ _ _ => ⟨_, (pv 1), by walk_at "ce"⟩)) (pv 2) (nomark _))))), ?_⟩
    try simp only [show (cxOf CX0 P w K mg base N__law_is_mixed "_law_is_mixed" (defScope s__law_is_mixed) f cdv A outer s H E).nox.K = K from rfl, show (cxOf CX0 P w K mg base N__law_is_mixed "_law_is_mixed" (defScope s__law_is_mixed) f cdv A outer s H E).K = K from rfl]
    rw [show L2.start N__law_is_mixed [V.ref a, V.ref b, V.ref c, V.ref p] = [some (V.ref a), some (V.ref b), some (V.ref c), some (V.ref p)] from rfl]
    walk_at "rd"
    refine ⟨a, p, b, row, ps, one, rfl, SqL.of ha, SqL.of hp, SqL.of hb, fun H1 s1 => ?_⟩
    walk_at "rd"
    refine iteNB (fun h1 => ?_) (fun h1 => ?_)
    · walk_at "rd"
      have e : Lf.mixed row one other ps = false := by unfold Lf.mixed; rw [h1]; rfl
      rw [← e]
      exact k _ s1
    have ha1 := s1.at ha
    have hp1 := s1.at hp
    have hc1 := s1.at hc
    walk_at "rd"
    refine comp_filtI (ov_enumI (xs := row)) (fun y => !decide ((y.2 : Int) ∈ ps)) (fun y => y.1) (fun H' s' => SqL.of (s'.at ha1)) (by rw [List.length_zipIdx]; omega) ?_ ?_
    · rintro i ⟨z, j⟩ x H3 H4 R R' hi s3 ⟨T', hT, rfl, rfl⟩ h3 h4
      have hp3 := s3.at hp1
      walk_at "rd"
      refine ⟨⟨rfl, rfl⟩, ?_⟩
      walk_at "rd"
      refine iteND (fun h5 => ?_) (fun h5 => ?_)
      · walk_at "rd"
        exact h3 (by simp [h5]) _ (by walk_at "sm")
      · exact h4 (by simp [h5]) _ (by walk_at "sm")
    intro D H2 hD s2 hd
    walk_at "rd"
    have e : Lf.mixed row one other ps = decide (Lf.others row ps = other) := by unfold Lf.mixed; rw [h1]; rfl
    have := k _ (s1.trans s2)
    rw [e] at this
    exact this
end

abbrev s__law_unmixed : Stmt := body.getD 42 (.Pass ⟨0, 0, 0, 0⟩)
abbrev N__law_unmixed : List Str := ["_law_row_here", "_law_one", "_law_other", "_law_pairs", "_law_whole", "_law_held", "_law_pair", "_law_i", "_law_j"]
abbrev P__law_unmixed : List Str := ["_law_row_here", "_law_one", "_law_other", "_law_pairs"]
theorem sc__law_unmixed : FnScope N__law_unmixed P__law_unmixed (defScope s__law_unmixed) := ⟨rfl, rfl, rfl, by decide, rfl, by decide, by decide⟩
section
variable {P : Program} {w : World} {K : PySem.W.Frag} {mg : Str → Option Value} {base : Heap} {f : Addr} {fd : FuncData}
def sp__law_unmixed : Sp := fun vs H Q _ => ∃ (a b c p : Addr) (ts : List Addr) (row one other : List Int) (ps : List (Int × Int)), vs = [.ref a, .ref b, .ref c, .ref p] ∧ H a = some (.lst (row.map V.int)) ∧ H b = some (.lst (one.map V.int)) ∧ H c = some (.lst (other.map V.int)) ∧ Prs H p ts ps ∧ ps.length ≤ 100000 ∧ ∀ H', Same H H' → Q (.bl (Lf.unmixed row one other ps)) H'
theorem ok__law_unmixed (F : Fun K "_law_unmixed" "_law_unmixed" s__law_unmixed f fd) (T : Blt mg) : FnOk P w K mg base CX0 1 f fd P__law_unmixed sp__law_unmixed := by
  refine F.ok sc__law_unmixed (fun vs H Q E h => ?_) (fun cdv A outer s H vs Q E hr h => ?_)
  · obtain ⟨_, _, _, _, _, _, _, _, _, rfl, _⟩ := h
    rfl
  · obtain ⟨a, b, c, p, ts, row, one, other, ps, rfl, ha, hb, hc, hP, hn, k⟩ := h
    have nd := sc__law_unmixed.nd
    have hu := hr.units
    have hu1 : (A.deeper (envOfC "_law_unmixed" (defScope s__law_unmixed) s.heap.objs.size f cdv)).units + 1 < cLine := by omega
    have no : ¬ Lf.UnOk row one other ps → ∀ H', Same H H' → Q (.bl false) H' := fun h H' s' => by
      have := k H' s'
      rw [Lf.unmixed_false h] at this
      exact this
    refine ⟨_, (pss_cons (ps_set (i := 4) nd rfl (by first | exact Or.inl rfl | exact Or.inr rfl) (pe_tup (pa_cons (pe_callB len_G rfl T.no_len boot_len (pa_cons (pv 1) pa_nil)) (pa_cons (pe_callB len_G rfl T.no_len boot_len (pa_cons (pv 2) pa_nil)) pa_nil))))
     (pss_cons (ps_if (PW.pt (pw_or (pt_cmpR (op_neG hu) (pe_callB len_G rfl T.no_len boot_len (pa_cons (pv 0) pa_nil)) (pe_op op_addG (pe_callB len_G rfl T.no_len boot_len (pa_cons (pv 1) pa_nil)) (pe_callB len_G rfl T.no_len boot_len (pa_cons (pv 2) pa_nil))) (nomark _)) (pw_or (pt_cmpR (op_notInD hu) (pe_tup (pa_cons pe_int (pa_cons pe_int pa_nil))) (pv 3) (by with_unfolding_all rfl)) (pw_or1 (pt_cmpR (op_inD hu) (pv 4) (pv 3) (by with_unfolding_all rfl)))))) (pss_one (ps_ret pe_bl)) pss_nil)
     (pss_cons (ps_set (i := 5) nd rfl (by first | exact Or.inl rfl | exact Or.inr rfl) pe_dnewT)
     (pss_cons (ps_for PassesOwn.never rfl (pi_list (pv 3)) (pg_name (i := 6) nd rfl (by first | exact Or.inl rfl | exact Or.inr rfl)) (pss_one (ps_dput hu1 (pv 5) (pv 6) pe_bl rfl)))
     (pss_cons (ps_for PassesOwn.never rfl (pi_list (pv 3)) (pg_tup (n := 2) rfl (pgs_cons (pg_name (i := 7) nd rfl (by first | exact Or.inl rfl | exact Or.inr rfl)) (pgs_cons (pg_name (i := 8) nd rfl (by first | exact Or.inl rfl | exact Or.inr rfl)) pgs_nil))) (pss_cons (ps_if (PW.pt (pw_or (pt_not (pt_chain op_le op_le pe_int (pv 7) (pe_callB len_G rfl T.no_len boot_len (pa_cons (pv 1) pa_nil)))) (pw_or1 (pt_not (pt_chain op_le op_le pe_int (pv 8) (pe_callB len_G rfl T.no_len boot_len (pa_cons (pv 2) pa_nil))))))) (pss_one (ps_ret pe_bl)) pss_nil)
     (pss_cons (ps_if (PW.pt (pw_and (pt_cmpR op_lt (pv 7) (pe_callB len_G rfl T.no_len boot_len (pa_cons (pv 1) pa_nil)) (nomark _)) (pw_and (pt_cmpR (op_eqG hu) (pe_ix ix_G (pv 1) (pv 7) (fun _ _ => rfl)) (pe_ix ix_G (pv 0) (pe_op op_addG (pv 7) (pv 8)) (fun _ _ => rfl)) (nomark _)) (pw_and1 (pt_cmp (pc_dnotin hu1 (pe_tup (pa_cons (pe_op op_addG (pv 7) pe_int) (pa_cons (pv 8) pa_nil))) (pv 5)) (by with_unfolding_all rfl)))))) (pss_one (ps_ret pe_bl)) pss_nil)
     (pss_one (ps_if (PW.pt (pw_and (pt_cmpR op_lt (pv 8) (pe_callB len_G rfl T.no_len boot_len (pa_cons (pv 2) pa_nil)) (nomark _)) (pw_and (pt_cmpR (op_eqG hu) (pe_ix ix_G (pv 2) (pv 8) (fun _ _ => rfl)) (pe_ix ix_G (pv 0) (pe_op op_addG (pv 7) (pv 8)) (fun _ _ => rfl)) (nomark _)) (pw_and1 (pt_cmp (pc_dnotin hu1 (pe_tup (pa_cons (pv 7) (pa_cons (pe_op op_addG (pv 8) pe_int) pa_nil))) (pv 5)) (by with_unfolding_all rfl)))))) (pss_one (ps_ret pe_bl)) pss_nil)))))
     (pss_one (ps_ret pe_bl))))))), ?_⟩
    try simp only [show (cxOf CX0 P w K mg base N__law_unmixed "_law_unmixed" (defScope s__law_unmixed) f cdv A outer s H E).nox.K = K from rfl, show (cxOf CX0 P w K mg base N__law_unmixed "_law_unmixed" (defScope s__law_unmixed) f cdv A outer s H E).K = K from rfl]
    rw [show L2.start N__law_unmixed [V.ref a, V.ref b, V.ref c, V.ref p] = [some (V.ref a), some (V.ref b), some (V.ref c), some (V.ref p), none, none, none, none, none] from rfl]
    walk_at "rd"
    intro wh hwh
    walk_at "rd"
    refine iteND (fun h1 => ?_) (fun h1 => ?_)
    · walk_at "rd"
      exact no (fun z => h1 (by have := z.len; omega)) _ (by walk_at "sm")
    walk_at "rd"
    intro z0 hz0
    walk_at "rd"
    refine r_notInP (by walk_at "ft") (hP.same (by walk_at "sm")) ?_
    walk_at "rd"
    refine iteND (fun h2 => ?_) (fun h2 => ?_)
    · walk_at "rd"
      exact no (fun z => h2 z.first) _ (by walk_at "sm")
    walk_at "rd"
    refine r_inP (i := one.length) (j := other.length) (by walk_at "ft") (hP.same (by walk_at "sm")) ?_
    walk_at "rd"
    refine iteD (fun h3 => ?_) (fun h3 => ?_)
    · walk_at "rd"
      exact no (fun z => z.last h3) _ (by walk_at "sm")
    walk_at "rd"
    intro d hd
    walk_at "rd"
    refine r_AtL (xs := ts.map V.ref) (SqL.of ((hP.same (by walk_at "sm")).at_)) ?_
    generalize hH1 : upd _ d (.dT []) = H1
    have s1 : Same H H1 := by rw [← hH1]; walk_at "sm"
    have hd1 : H1 d = some (.dT []) := by rw [← hH1]; walk_at "ft"
    have hd0 : H d = none := by walk_at "fr"
    clear hH1 hwh hz0 hd
    have hP1 := hP.same s1
    refine for_by (ov_list (xs := ts.map V.ref)) (fun n σ H2 => ∃ (kvs : List (List Key × V)) (v6 : Option V), σ = [some (V.ref a), some (V.ref b), some (V.ref c), some (V.ref p), some (V.ref wh), some (V.ref d), v6, none, none] ∧ Same H H2 ∧ H2 d = some (.dT kvs) ∧ kvs.length ≤ n ∧ ∀ i j : Int, ((valV kvs (kP i j)).isSome = true ↔ (i, j) ∈ ps.take n)) ?_ ?_ ?_ ?_
    · exact ⟨[], _, rfl, s1, hd1, Nat.le_refl _, fun i j => by simp [valV]⟩
    · rintro n σ H2 _ ⟨_, _, _, s2, _⟩
      exact SqL.of (s2.at hP.at_)
    · rintro n v x σ H2 H2' hy ⟨kvs, v6, rfl, s2, hd2, hl2, hv⟩ ⟨rfl, rfl⟩
      rw [List.getElem?_map] at hy
      obtain ⟨t, ht, rfl⟩ := Option.map_eq_some_iff.mp hy
      have htp := s2.at (hP.row n t ht)
      have hnl : n < ps.length := by rw [← hP.len]; exact (List.getElem?_eq_some_iff.mp ht).1
      walk_at "rd"
      refine r_DPt (i := (ps.getD n (0, 0)).1) (j := (ps.getD n (0, 0)).2) (by walk_at "ft") (by walk_at "ft") (by omega) ?_
      refine ⟨_, _, rfl, same_upd s2 hd0, upd_same, ?_, fun i j => ?_⟩
      · have := putT_len kvs (kP (ps.getD n (0, 0)).1 (ps.getD n (0, 0)).2) (V.bl true)
        omega
      · rw [valV_put]
        have et : ps.take (n + 1) = ps.take n ++ [ps.getD n (0, 0)] := by
          rw [List.take_add_one, List.getD_eq_getElem?_getD]
          simp [hnl]
        rw [et, List.mem_append, List.mem_singleton, ← hv i j]
        by_cases e : kP i j = kP (ps.getD n (0, 0)).1 (ps.getD n (0, 0)).2
        · rw [if_pos e]
          have := kP_inj.mp e
          simp [this]
        · rw [if_neg e]
          have : ¬ (i, j) = ps.getD n (0, 0) := fun q => e (kP_inj.mpr q)
          exact ⟨fun h => .inl h, fun h => h.elim id fun q => absurd q this⟩
    rintro σ H2 ⟨kvs, v6, rfl, s2, hd2, hl2, hv⟩
    have hv : ∀ i j : Int, ((valV kvs (kP i j)).isSome = true ↔ (i, j) ∈ ps) := fun i j => by
      have := hv i j
      rw [List.length_map, hP.len, List.take_length] at this
      exact this
    have hin : ∀ i j : Int, (valV kvs (kP i j)).isSome = decide ((i, j) ∈ ps) := fun i j => by
      by_cases q : (i, j) ∈ ps
      · rw [decide_eq_true q]; exact (hv i j).mpr q
      · rw [decide_eq_false q]; exact Bool.eq_false_iff.mpr fun z => q ((hv i j).mp z)
    have ha2 := s2.at ha
    have hb2 := s2.at hb
    have hc2 := s2.at hc
    have hP2 := hP.same s2
    walk_at "rd"
    refine r_AtL (xs := ts.map V.ref) (SqL.of hP2.at_) ?_
    have hlen : row.length = one.length + other.length := by omega
    refine for_by (ov_list (xs := ts.map V.ref)) (fun n σ H3 => ∃ (v7 v8 : Option V), σ = [some (V.ref a), some (V.ref b), some (V.ref c), some (V.ref p), some (V.ref wh), some (V.ref d), v6, v7, v8] ∧ Same H2 H3 ∧ ∀ q ∈ ps.take n, Lf.UnAt row one other ps q.1 q.2) ?_ ?_ ?_ ?_
    · exact ⟨_, _, rfl, Same.refl _, fun q hq => by simp at hq⟩
    · rintro n σ H3 _ ⟨_, _, _, s3, _⟩
      exact SqL.of (s3.at hP2.at_)
    · rintro n v x σ H3 H3' hy ⟨v7, v8, rfl, s3, inv⟩ ⟨rfl, rfl⟩
      rw [List.getElem?_map] at hy
      obtain ⟨t, ht, rfl⟩ := Option.map_eq_some_iff.mp hy
      have htp := s3.at (hP2.row n t ht)
      have hnl : n < ps.length := by rw [← hP.len]; exact (List.getElem?_eq_some_iff.mp ht).1
      have et : ps.take (n + 1) = ps.take n ++ [ps.getD n (0, 0)] := by
        rw [List.take_add_one, List.getD_eq_getElem?_getD]
        simp [hnl]
      have hmem : ps.getD n (0, 0) ∈ ps := by
        rw [List.getD_eq_getElem?_getD]
        simp [hnl]
      generalize ps.getD n (0, 0) = q at htp et hmem
      obtain ⟨i, j⟩ := q
      have ha3 := s3.at ha2
      have hb3 := s3.at hb2
      have hc3 := s3.at hc2
      have hd3 := s3.at hd2
      have s03 := s2.trans s3
      have bad : ¬ Lf.UnAt row one other ps i j → ∀ H', Same H H' → Q (.bl false) H' := fun h => no fun z => h (z.all _ hmem)
      have good : Lf.UnAt row one other ps i j → ∀ q ∈ ps.take (n + 1), Lf.UnAt row one other ps q.1 q.2 := by
        intro h q hq
        rw [et, List.mem_append, List.mem_singleton] at hq
        rcases hq with hq | rfl
        · exact inv q hq
        · exact h
      iterate 8 walk_at "rd1"
      refine r_cutT (!(decide (0 ≤ i ∧ i ≤ (one.length : Int) ∧ 0 ≤ j ∧ j ≤ (other.length : Int)))) H3' (fun Q' k' => ?_) ?_
      · walk_at "rd"
        refine iteD (fun q1 => ?_) (fun q1 => ?_)
        rotate_left
        · walk_at "rd"
          rw [decide_eq_false (fun z => q1 z.1)] at k'
          exact k'
        walk_at "rd"
        refine iteND (fun q2 => ?_) (fun q2 => ?_)
        · rw [decide_eq_false (fun z => q2 z.2.1)] at k'
          exact k'
        walk_at "rd"
        refine iteD (fun q3 => ?_) (fun q3 => ?_)
        rotate_left
        · walk_at "rd"
          rw [decide_eq_false (fun z => q3 z.2.2.1)] at k'
          exact k'
        walk_at "rd"
        by_cases q4 : j ≤ (other.length : Int)
        · rw [decide_eq_true ⟨q1, q2, q3, q4⟩] at k'
          rw [decide_eq_true q4]
          exact k'
        · rw [decide_eq_false (fun z => q4 z.2.2.2)] at k'
          rw [decide_eq_false q4]
          exact k'
      refine iteND (fun q => ?_) (fun q => ?_)
      · walk_at "rd"
        exact bad (fun z => q ⟨z.i0, z.i1, z.j0, z.j1⟩) _ s03
      obtain ⟨q1, q2, q3, q4⟩ := q
      walk_at "rd1"
      dsimp only
      refine r_seqC (R := fun H' => Same H3' H' ∧ (i < (one.length : Int) → one.getD i.toNat 0 = row.getD (i + j).toNat 0 → (i + 1, j) ∈ ps)) (fun N' k' => ?_) (fun H4 ⟨s4, nx⟩ => ?_)
      · walk_at "rd"
        refine iteD (fun w1 => ?_) (fun w1 => ?_)
        rotate_left
        · walk_at "rd"
          exact k' _ ⟨Same.refl _, fun z => absurd z w1⟩
        walk_at "rd"
        refine r_ixI (by walk_at "ft") q1 (by omega) ?_
        walk_at "rd"
        refine r_ixI (by walk_at "ft") (by omega) (by omega) ?_
        walk_at "rd"
        refine iteD (fun w2 => ?_) (fun w2 => ?_)
        rotate_left
        · walk_at "rd"
          exact k' _ ⟨Same.refl _, fun _ z => absurd z w2⟩
        walk_at "rd"
        intro u hu0
        walk_at "rd"
        have du : d ≠ u := ne_of_none hd3 hu0
        refine r_DInT (kvs := kvs) (i := i + 1) (j := j) (by walk_at "ft") (by walk_at "ft") ?_
        rw [hin, if_pos rfl]
        walk_at "rd"
        refine iteND (fun w3 => ?_) (fun w3 => ?_)
        · walk_at "rd"
          exact bad (fun z => w3 (z.nx w1 w2)) _ (by walk_at "sm")
        · walk_at "rd"
          exact k' _ ⟨by walk_at "sm", fun _ _ => w3⟩
      have ha4 := s4.at ha3
      have hb4 := s4.at hb3
      have hc4 := s4.at hc3
      have hd4 := s4.at hd3
      have s04 := s03.trans s4
      have s24 := s3.trans s4
      clear s3 s03 s4
      walk_at "rd"
      refine iteD (fun w1 => ?_) (fun w1 => ?_)
      rotate_left
      · walk_at "rd"
        exact ⟨_, _, rfl, s24, good ⟨q1, q2, q3, q4, nx, fun z => absurd z w1⟩⟩
      walk_at "rd"
      refine r_ixI (by walk_at "ft") q3 (by omega) ?_
      walk_at "rd"
      refine r_ixI (by walk_at "ft") (by omega) (by omega) ?_
      walk_at "rd"
      refine iteD (fun w2 => ?_) (fun w2 => ?_)
      rotate_left
      · walk_at "rd"
        exact ⟨_, _, rfl, s24, good ⟨q1, q2, q3, q4, nx, fun _ z => absurd z w2⟩⟩
      walk_at "rd"
      intro u hu0
      walk_at "rd"
      have du : d ≠ u := ne_of_none hd4 hu0
      refine r_DInT (kvs := kvs) (i := i) (j := j + 1) (by walk_at "ft") (by walk_at "ft") ?_
      rw [hin, if_pos rfl]
      walk_at "rd"
      refine iteND (fun w3 => ?_) (fun w3 => ?_)
      · walk_at "rd"
        exact bad (fun z => w3 (z.ny w1 w2)) _ (by walk_at "sm")
      · walk_at "rd"
        exact ⟨_, _, rfl, by walk_at "sm", good ⟨q1, q2, q3, q4, nx, fun _ _ => w3⟩⟩
    · rintro σ H3 ⟨v7, v8, rfl, s3, inv⟩
      rw [List.length_map, hP.len, List.take_length] at inv
      walk_at "rd"
      have e : Lf.unmixed row one other ps = true := Lf.unmixed_true ⟨hlen, h2, h3, inv⟩
      rw [← e]
      exact k _ (s2.trans s3)
end

abbrev s__law_due : Stmt := body.getD 43 (.Pass ⟨0, 0, 0, 0⟩)
abbrev N__law_due : List Str := ["_law_row_here", "_law_one", "_law_other", "_law_found"]
abbrev P__law_due : List Str := ["_law_row_here", "_law_one", "_law_other", "_law_found"]
theorem sc__law_due : FnScope N__law_due P__law_due (defScope s__law_due) := ⟨rfl, rfl, rfl, by decide, rfl, by decide, by decide⟩
section
variable {P : Program} {w : World} {K : PySem.W.Frag} {mg : Str → Option Value} {base : Heap} {f f1 f2 k_Mixed k_Unmixed : Addr} {fd fd1 fd2 : FuncData}
def sp__law_due (kM kU : Addr) : Sp := fun vs H Q _ => ∃ (a b c x : Addr) (row one other : List Int), vs = [.ref a, .ref b, .ref c, .ref x] ∧ H a = some (.lst (row.map V.int)) ∧ H b = some (.lst (one.map V.int)) ∧ H c = some (.lst (other.map V.int)) ∧ row.length ≤ 1000 ∧
  ((∃ (dx : Addr) (fs : List (Str × V)) (pl : Addr) (ps : List Int), MixAt kM H x dx fs pl ps ∧ ∀ H', Same H H' → Q (.bl (Lf.mixed row one other ps)) H') ∨
   (∃ (dx : Addr) (fs : List (Str × V)) (p : Addr) (ts : List Addr) (ps : List (Int × Int)), UnmAt kU H x dx fs p ts ps ∧ ps.length ≤ 100000 ∧ ∀ H', Same H H' → Q (.bl (Lf.unmixed row one other ps)) H'))
theorem ok__law_due (F : Fun K "_law_due" "_law_due" s__law_due f fd) (T : Blt mg)
    (C__law_is_mixed : Cal K mg "_law_is_mixed" f1 fd1 P__law_is_mixed) (G__law_is_mixed : FnOk P w K mg base CX0 2 f1 fd1 P__law_is_mixed sp__law_is_mixed)
    (C__law_unmixed : Cal K mg "_law_unmixed" f2 fd2 P__law_unmixed) (G__law_unmixed : FnOk P w K mg base CX0 1 f2 fd2 P__law_unmixed sp__law_unmixed)
    (g_Mixed : mg "Mixed" = some (.ref k_Mixed))
    (I_Mixed : Ins K k_Mixed) (I_Unmixed : Ins K k_Unmixed) (n_Mixed_places : NoAttr K k_Mixed "places") (n_Unmixed_pairs : NoAttr K k_Unmixed "pairs")
    (i_Mixed_Mixed : PySem.W.kitOne K (.ref k_Mixed) (.ref k_Mixed) = some true)
    (i_Unmixed_Mixed : PySem.W.kitOne K (.ref k_Unmixed) (.ref k_Mixed) = some false)
    : FnOk P w K mg base CX0 3 f fd P__law_due (sp__law_due k_Mixed k_Unmixed) := by
  refine F.ok sc__law_due (fun vs H Q E h => ?_) (fun cdv A outer s H vs Q E hr h => ?_)
  · obtain ⟨_, _, _, _, _, _, _, rfl, _⟩ := h
    rfl
  · obtain ⟨a, b, c, x, row, one, other, rfl, ha, hb, hc, hn, k⟩ := h
    have nd := sc__law_due.nd
    have hu := hr.units
    refine ⟨_, (pss_cons (ps_if (pt_val (pe_callB call_isinst rfl T.no_isinstance boot_isinstance (pa_cons (pv 3) (pa_cons (pe_gref rfl g_Mixed) pa_nil)))) (pss_one (ps_ret (pe_call G__law_is_mixed (hr.mono (by decide)) rfl C__law_is_mixed.mg C__law_is_mixed.kp C__law_is_mixed.b .nil pass0 (pa_cons (pv 0) (pa_cons (pv 1) (pa_cons (pv 2) (pa_cons (pe_fld (pv 3) rfl) pa_nil))))))) pss_nil)
     (pss_one (ps_ret (pe_call G__law_unmixed (hr.mono (by decide)) rfl C__law_unmixed.mg C__law_unmixed.kp C__law_unmixed.b .nil pass0 (pa_cons (pv 0) (pa_cons (pv 1) (pa_cons (pv 2) (pa_cons (pe_fld (pv 3) rfl) pa_nil)))))))), ?_⟩
    try simp only [show (cxOf CX0 P w K mg base N__law_due "_law_due" (defScope s__law_due) f cdv A outer s H E).nox.K = K from rfl, show (cxOf CX0 P w K mg base N__law_due "_law_due" (defScope s__law_due) f cdv A outer s H E).K = K from rfl]
    rw [show L2.start N__law_due [V.ref a, V.ref b, V.ref c, V.ref x] = [some (V.ref a), some (V.ref b), some (V.ref c), some (V.ref x)] from rfl]
    rcases k with ⟨dx, fs, pl, ps, L, k⟩ | ⟨dx, fs, p, ts, ps, L, hl, k⟩
    · obtain ⟨hx, fp, fn, hp⟩ := id L
      walk_at "rd"
      exact ⟨a, b, c, pl, row, one, other, ps, rfl, ha, hb, hc, hp, hn, k⟩
    · obtain ⟨hx, fp, fn, hp⟩ := id L
      walk_at "rd"
      exact ⟨a, b, c, p, ts, row, one, other, ps, rfl, ha, hb, hc, hp, hl, k⟩
end

abbrev s__law_right : Stmt := body.getD 44 (.Pass ⟨0, 0, 0, 0⟩)
abbrev N__law_right : List Str := ["_law_row_here", "_law_one", "_law_other", "_law_beside", "_law_handed", "_law_found"]
abbrev P__law_right : List Str := ["_law_row_here", "_law_one", "_law_other", "_law_beside"]
theorem sc__law_right : FnScope N__law_right P__law_right (defScope s__law_right) := ⟨rfl, rfl, rfl, by decide, rfl, by decide, by decide⟩
section
variable {P : Program} {w : World} {K : PySem.W.Frag} {mg : Str → Option Value} {base : Heap} {f f1 f2 f3 f4 f5 k_Answer k_Left k_Short k_Both k_Longest k_Missing k_Mixed k_Unmixed : Addr} {fd fd1 fd2 fd3 fd4 fd5 : FuncData}
def sp__law_right : Sp := fun vs H Q _ => ∃ (a b c e : Addr) (row one other beside : List Int), vs = [.ref a, .ref b, .ref c, .ref e] ∧ H a = some (.lst (row.map V.int)) ∧ H b = some (.lst (one.map V.int)) ∧ H c = some (.lst (other.map V.int)) ∧ H e = some (.lst (beside.map V.int)) ∧ row.length ≤ 200 ∧ one.length ≤ 100 ∧ other.length ≤ 100 ∧ beside.length ≤ 200 ∧ row.length = one.length + other.length ∧ ∀ H', Same H H' → Q (.bl true) H'
theorem ok__law_right (F : Fun K "_law_right" "_law_right" s__law_right f fd) (T : Blt mg)
    (C_mixed : Cal K mg "mixed" f1 fd1 P_mixed) (G_mixed : FnOk P w K mg base CX0 8 f1 fd1 P_mixed (sp_mixed k_Mixed k_Unmixed))
    (C__law_numbers : Cal K mg "_law_numbers" f2 fd2 P__law_numbers) (G__law_numbers : FnOk P w K mg base CX0 1 f2 fd2 P__law_numbers (sp__law_numbers K))
    (C__law_due : Cal K mg "_law_due" f3 fd3 P__law_due) (G__law_due : FnOk P w K mg base CX0 3 f3 fd3 P__law_due (sp__law_due k_Mixed k_Unmixed))
    (D_Mixed_shows : Met K k_Mixed "shows" f4 fd4 P_Mixed_shows) (G_Mixed_shows : FnOk P w K mg base CX0 8 f4 fd4 P_Mixed_shows (sp_Mixed_shows k_Mixed))
    (D_Unmixed_shows : Met K k_Unmixed "shows" f5 fd5 P_Unmixed_shows) (G_Unmixed_shows : FnOk P w K mg base CX0 8 f5 fd5 P_Unmixed_shows (sp_Unmixed_shows k_Unmixed))
    (g_Answer : mg "Answer" = some (.ref k_Answer))
    (g_Left : mg "Left" = some (.ref k_Left))
    (g_Short : mg "Short" = some (.ref k_Short))
    (g_Both : mg "Both" = some (.ref k_Both))
    (g_Longest : mg "Longest" = some (.ref k_Longest))
    (g_Missing : mg "Missing" = some (.ref k_Missing))
    (g_Mixed : mg "Mixed" = some (.ref k_Mixed))
    (g_Unmixed : mg "Unmixed" = some (.ref k_Unmixed))
    (I_Mixed : Ins K k_Mixed) (I_Unmixed : Ins K k_Unmixed) (n_Mixed_places : NoAttr K k_Mixed "places") (n_Unmixed_pairs : NoAttr K k_Unmixed "pairs")
    (i_Mixed_Answer : PySem.W.kitOne K (.ref k_Mixed) (.ref k_Answer) = some true)
    (i_Mixed_Left : PySem.W.kitOne K (.ref k_Mixed) (.ref k_Left) = some false)
    (i_Mixed_Short : PySem.W.kitOne K (.ref k_Mixed) (.ref k_Short) = some false)
    (i_Mixed_Both : PySem.W.kitOne K (.ref k_Mixed) (.ref k_Both) = some false)
    (i_Mixed_Longest : PySem.W.kitOne K (.ref k_Mixed) (.ref k_Longest) = some false)
    (i_Mixed_Missing : PySem.W.kitOne K (.ref k_Mixed) (.ref k_Missing) = some false)
    (i_Mixed_Mixed : PySem.W.kitOne K (.ref k_Mixed) (.ref k_Mixed) = some true)
    (i_Mixed_Unmixed : PySem.W.kitOne K (.ref k_Mixed) (.ref k_Unmixed) = some false)
    (i_Unmixed_Answer : PySem.W.kitOne K (.ref k_Unmixed) (.ref k_Answer) = some true)
    (i_Unmixed_Left : PySem.W.kitOne K (.ref k_Unmixed) (.ref k_Left) = some false)
    (i_Unmixed_Short : PySem.W.kitOne K (.ref k_Unmixed) (.ref k_Short) = some false)
    (i_Unmixed_Both : PySem.W.kitOne K (.ref k_Unmixed) (.ref k_Both) = some false)
    (i_Unmixed_Longest : PySem.W.kitOne K (.ref k_Unmixed) (.ref k_Longest) = some false)
    (i_Unmixed_Missing : PySem.W.kitOne K (.ref k_Unmixed) (.ref k_Missing) = some false)
    (i_Unmixed_Mixed : PySem.W.kitOne K (.ref k_Unmixed) (.ref k_Mixed) = some false)
    (i_Unmixed_Unmixed : PySem.W.kitOne K (.ref k_Unmixed) (.ref k_Unmixed) = some true)
    : FnOk P w K mg base CX0 9 f fd P__law_right sp__law_right := by
  refine F.ok sc__law_right (fun vs H Q E h => ?_) (fun cdv A outer s H vs Q E hr h => ?_)
  · obtain ⟨_, _, _, _, _, _, _, _, rfl, _⟩ := h
    rfl
  · obtain ⟨a, b, c, e, row, one, other, beside, rfl, ha, hb, hc, he, l1, l2, l3, l4, hrl, k⟩ := h
    have nd := sc__law_right.nd
    have hu := hr.units
    refine ⟨_, (pss_cons (ps_set (i := 4) nd rfl (by first | exact Or.inl rfl | exact Or.inr rfl) (pe_lst (pa_cons (pe_callTy call_listOf rfl T.no_list boot_list (pa_cons (pv 0) pa_nil)) (pa_cons (pe_callTy call_listOf rfl T.no_list boot_list (pa_cons (pv 1) pa_nil)) (pa_cons (pe_callTy call_listOf rfl T.no_list boot_list (pa_cons (pv 2) pa_nil)) pa_nil)))))
     (pss_cons (ps_set (i := 5) nd rfl (by first | exact Or.inl rfl | exact Or.inr rfl) (pe_call G_mixed (hr.mono (by decide)) rfl C_mixed.mg C_mixed.kp C_mixed.b .nil pass0 (pa_cons (pe_ix ix_G (pv 4) pe_int (fun _ _ => rfl)) (pa_cons (pe_ix ix_G (pv 4) pe_int (fun _ _ => rfl)) (pa_cons (pe_ix ix_G (pv 4) pe_int (fun _ _ => rfl)) pa_nil)))))
     (pss_cons (ps_if (PW.pt (pw_or (pt_not (pt_val (pe_callB call_isinst rfl T.no_isinstance boot_isinstance (pa_cons (pv 5) (pa_cons (pe_gref rfl g_Answer) pa_nil))))) (pw_or1 (pt_cmpR (op_eqG hu) (pe_callB call_isinst rfl T.no_isinstance boot_isinstance (pa_cons (pv 5) (pa_cons (pe_gref rfl g_Mixed) pa_nil))) (pe_callB call_isinst rfl T.no_isinstance boot_isinstance (pa_cons (pv 5) (pa_cons (pe_gref rfl g_Unmixed) pa_nil))) (nomark _))))) (pss_one (ps_ret pe_bl)) pss_nil)
     (pss_cons (ps_if (pt_val (pe_callB (call_anyB rfl) rfl T.no_any boot_any (pa_cons (pe_lst (pa_cons (pe_callB call_isinst rfl T.no_isinstance boot_isinstance (pa_cons (pv 5) (pa_cons (pe_gref rfl g_Both) pa_nil))) (pa_cons (pe_callB call_isinst rfl T.no_isinstance boot_isinstance (pa_cons (pv 5) (pa_cons (pe_gref rfl g_Left) pa_nil))) (pa_cons (pe_callB call_isinst rfl T.no_isinstance boot_isinstance (pa_cons (pv 5) (pa_cons (pe_gref rfl g_Longest) pa_nil))) pa_nil)))) pa_nil))) (pss_one (ps_ret pe_bl)) pss_nil)
     (pss_cons (ps_if (pt_val (pe_callB (call_anyB rfl) rfl T.no_any boot_any (pa_cons (pe_lst (pa_cons (pe_callB call_isinst rfl T.no_isinstance boot_isinstance (pa_cons (pv 5) (pa_cons (pe_gref rfl g_Missing) pa_nil))) (pa_cons (pe_callB call_isinst rfl T.no_isinstance boot_isinstance (pa_cons (pv 5) (pa_cons (pe_gref rfl g_Short) pa_nil))) pa_nil))) pa_nil))) (pss_one (ps_ret pe_bl)) pss_nil)
     (pss_cons (ps_if (PW.pt (pw_or (pt_cmpR (op_neG hu) (pv 4) (pe_lst (pa_cons (pv 0) (pa_cons (pv 1) (pa_cons (pv 2) pa_nil)))) (nomark _)) (pw_or1 (PW.pt (pw_and (pt_not (pt_val (pe_callB call_isinst rfl T.no_isinstance boot_isinstance (pa_cons (pv 5) (pa_cons (pe_gref rfl g_Mixed) pa_nil))))) (pw_and1 (pt_not (pt_val (pe_callB call_isinst rfl T.no_isinstance boot_isinstance (pa_cons (pe_fld (pv 5) rfl) (pa_cons (pe_bty rfl T.no_list boot_list) pa_nil))))))))))) (pss_one (ps_ret pe_bl)) pss_nil)
     (pss_cons (ps_if (PW.pt (pw_and (pt_val (pe_callB call_isinst rfl T.no_isinstance boot_isinstance (pa_cons (pv 5) (pa_cons (pe_gref rfl g_Mixed) pa_nil)))) (pw_and1 (pt_not (pt_val (pe_call G__law_numbers (hr.mono (by decide)) rfl C__law_numbers.mg C__law_numbers.kp C__law_numbers.b .nil pass0 (pa_cons (pe_fld (pv 5) rfl) pa_nil))))))) (pss_one (ps_ret pe_bl)) pss_nil)
     (pss_cons (ps_if (PW.pt (pw_and (pt_val (pe_callB call_isinst rfl T.no_isinstance boot_isinstance (pa_cons (pv 5) (pa_cons (pe_gref rfl g_Unmixed) pa_nil)))) (pw_and1 (pt_not (pt_val (pe_callB (call_allB rfl) rfl T.no_all boot_all (pa_cons (pe_comp (N := ["_law_pair"]) (k := 1) (caps := []) (Block.of (by kernel_rfl)) rfl (pi_list (pe_fld (pv 5) rfl)) (fun _ _ _ _ => ⟨_, (pg_name (i := 0) (by show List.Nodup (["_law_pair"] : List Str); decide) rfl (by first | exact Or.inl rfl | exact Or.inr rfl)), by walk_at "ce"⟩) (fun _ _ _ _ => ⟨_, PIfs.none, by walk_at "ce"⟩) (fun _ _ _ _ => ⟨_, (pe_and (pe_callB call_isinst rfl T.no_isinstance boot_isinstance (pa_cons (pv 0) (pa_cons (pe_bty rfl T.no_tuple boot_tuple) pa_nil))) (pe_one (pe_cmpR (op_eqG hu) (pe_callB len_G rfl T.no_len boot_len (pa_cons (pv 0) pa_nil)) pe_int (nomark _)))), by walk_at "ce"⟩)) pa_nil))))))) (pss_one (ps_ret pe_bl)) pss_nil)
     (pss_cons (ps_if (PW.pt (pw_or (pt_not (pt_val (pe_call G__law_due (hr.mono (by decide)) rfl C__law_due.mg C__law_due.kp C__law_due.b .nil pass0 (pa_cons (pv 0) (pa_cons (pv 1) (pa_cons (pv 2) (pa_cons (pv 5) pa_nil))))))) (pw_or1 (pt_cmpR op_isnotG (pe_ei (pe_meth (pv 5) I_Mixed.cl D_Mixed_shows.m G_Mixed_shows (hr.mono (by decide)) D_Mixed_shows.b .nil pass0 (pa_cons (pv 0) (pa_cons (pv 1) (pa_cons (pv 2) pa_nil)))) (pe_meth (pv 5) I_Unmixed.cl D_Unmixed_shows.m G_Unmixed_shows (hr.mono (by decide)) D_Unmixed_shows.b .nil pass0 (pa_cons (pv 0) (pa_cons (pv 1) (pa_cons (pv 2) pa_nil))))) pe_bl (nomark _))))) (pss_one (ps_ret pe_bl)) pss_nil)
     (pss_cons (ps_if (pt_cmpR (op_neG hu) (pe_ei (pe_meth (pv 5) I_Mixed.cl D_Mixed_shows.m G_Mixed_shows (hr.mono (by decide)) D_Mixed_shows.b .nil pass0 (pa_cons (pv 0) (pa_cons (pv 2) (pa_cons (pv 1) pa_nil)))) (pe_meth (pv 5) I_Unmixed.cl D_Unmixed_shows.m G_Unmixed_shows (hr.mono (by decide)) D_Unmixed_shows.b .nil pass0 (pa_cons (pv 0) (pa_cons (pv 2) (pa_cons (pv 1) pa_nil))))) (pe_call G__law_due (hr.mono (by decide)) rfl C__law_due.mg C__law_due.kp C__law_due.b .nil pass0 (pa_cons (pv 0) (pa_cons (pv 2) (pa_cons (pv 1) (pa_cons (pv 5) pa_nil))))) (nomark _)) (pss_one (ps_ret pe_bl)) pss_nil)
     (pss_cons (ps_if (pt_cmpR (op_neG hu) (pe_ei (pe_meth (pv 5) I_Mixed.cl D_Mixed_shows.m G_Mixed_shows (hr.mono (by decide)) D_Mixed_shows.b .nil pass0 (pa_cons (pv 3) (pa_cons (pv 1) (pa_cons (pv 2) pa_nil)))) (pe_meth (pv 5) I_Unmixed.cl D_Unmixed_shows.m G_Unmixed_shows (hr.mono (by decide)) D_Unmixed_shows.b .nil pass0 (pa_cons (pv 3) (pa_cons (pv 1) (pa_cons (pv 2) pa_nil))))) (pe_call G__law_due (hr.mono (by decide)) rfl C__law_due.mg C__law_due.kp C__law_due.b .nil pass0 (pa_cons (pv 3) (pa_cons (pv 1) (pa_cons (pv 2) (pa_cons (pv 5) pa_nil))))) (nomark _)) (pss_one (ps_ret pe_bl)) pss_nil)
     (pss_cons (ps_if (pt_val (pe_callB call_isinst rfl T.no_isinstance boot_isinstance (pa_cons (pv 5) (pa_cons (pe_gref rfl g_Mixed) pa_nil)))) (pss_one (ps_expr (pe_bm PySem.F.plainAttrs_list PySem.F.slot_list_append PySem.F.type_list_append mr_append (pe_fld (pv 5) rfl) (pa_cons (pe_callB len_G rfl T.no_len boot_len (pa_cons (pv 0) pa_nil)) pa_nil)))) (pss_one (ps_expr (pe_bm PySem.F.plainAttrs_list PySem.F.slot_list_append PySem.F.type_list_append mr_append (pe_fld (pv 5) rfl) (pa_cons (pe_tup (pa_cons (pe_callB len_G rfl T.no_len boot_len (pa_cons (pv 1) pa_nil)) (pa_cons (pe_callB len_G rfl T.no_len boot_len (pa_cons (pv 2) pa_nil)) pa_nil))) pa_nil)))))
     (pss_one (ps_ret (pe_cmpR op_isG (pe_ei (pe_meth (pv 5) I_Mixed.cl D_Mixed_shows.m G_Mixed_shows (hr.mono (by decide)) D_Mixed_shows.b .nil pass0 (pa_cons (pv 0) (pa_cons (pv 1) (pa_cons (pv 2) pa_nil)))) (pe_meth (pv 5) I_Unmixed.cl D_Unmixed_shows.m G_Unmixed_shows (hr.mono (by decide)) D_Unmixed_shows.b .nil pass0 (pa_cons (pv 0) (pa_cons (pv 1) (pa_cons (pv 2) pa_nil))))) pe_bl (nomark _)))))))))))))))), ?_⟩
    try simp only [show (cxOf CX0 P w K mg base N__law_right "_law_right" (defScope s__law_right) f cdv A outer s H E).nox.K = K from rfl, show (cxOf CX0 P w K mg base N__law_right "_law_right" (defScope s__law_right) f cdv A outer s H E).K = K from rfl]
    rw [show L2.start N__law_right [V.ref a, V.ref b, V.ref c, V.ref e] = [some (V.ref a), some (V.ref b), some (V.ref c), some (V.ref e), none, none] from rfl]
    walk_at "rd"
    intro p hp
    walk_at "rd"
    intro q hq
    walk_at "rd"
    intro r hr0
    walk_at "rd"
    intro g hg
    walk_at "rd"
    refine ⟨p, q, r, row, one, other, rfl, by walk_at "ft", by walk_at "ft", by walk_at "ft", by omega, by omega, by omega, hrl, fun x dx fs pl ps H1 fx fpl s1 L hL => ?_, fun x dx fs pp ts ps H1 fx fpp s1 L lps hL => ?_⟩
    · have fx0 : H x = none := by walk_at "fr"
      have fpl0 : H pl = none := by walk_at "fr"
      have hg1 : H1 g = some (.lst [.ref p, .ref q, .ref r]) := by walk_at "ft"
      have hp1 : H1 p = some (.lst (row.map V.int)) := by walk_at "ft"
      have hq1 : H1 q = some (.lst (one.map V.int)) := by walk_at "ft"
      have hr1 : H1 r = some (.lst (other.map V.int)) := by walk_at "ft"
      have s1' : Same H H1 := by walk_at "sm"
      clear s1 hp hq hr0 hg fx fpl
      have ha1 := s1'.at ha
      have hb1 := s1'.at hb
      have hc1 := s1'.at hc
      have he1 := s1'.at he
      obtain ⟨hx, fp, fn, hpl⟩ := id L
      have zl := Lf.stands_len (Lf.mixed_parts hL).1
      walk_at "rd"
      intro n1 hn1
      walk_at "rd"
      intro n2 hn2
      walk_at "rd"
      intro n3 hn3
      refine r_neL3 (xs := row) (ys := one) (zs := other) (xs' := row) (ys' := one) (zs' := other) (by walk_at "ft") (by walk_at "ft") (by walk_at "ft") (by walk_at "ft") (by walk_at "ft") (by walk_at "ft") (by walk_at "ft") (by walk_at "ft") ?_
      walk_at "rd"
      refine ⟨pl, ps, rfl, by walk_at "ft", by omega, fun H2 s2 => ?_⟩
      have s12 : Same H1 H2 := by walk_at "sm"
      clear s2 hn1 hn2 hn3
      walk_at "rd"
      refine ⟨a, b, c, x, row, one, other, rfl, by walk_at "ft", by walk_at "ft", by walk_at "ft", by omega, .inl ⟨dx, fs, pl, ps, L.same s12, fun H3 s3 => ?_⟩⟩
      rw [hL]
      have s13 := s12.trans s3
      clear s12 s3
      walk_at "rd"
      refine ⟨x, dx, fs, pl, ps, a, b, c, row, one, other, rfl, L.same s13, by walk_at "ft", by walk_at "ft", by walk_at "ft", by omega, by omega, by omega, by omega, fun H4 s4 => ?_⟩
      rw [hL]
      have s14 := s13.trans s4
      clear s13 s4
      walk_at "rd"
      refine ⟨x, dx, fs, pl, ps, a, c, b, row, other, one, rfl, L.same s14, by walk_at "ft", by walk_at "ft", by walk_at "ft", by omega, by omega, by omega, by omega, fun H5 s5 => ?_⟩
      have s15 := s14.trans s5
      clear s14 s5
      walk_at "rd"
      refine ⟨a, c, b, x, row, other, one, rfl, by walk_at "ft", by walk_at "ft", by walk_at "ft", by omega, .inl ⟨dx, fs, pl, ps, L.same s15, fun H6 s6 => ?_⟩⟩
      have s16 := s15.trans s6
      clear s15 s6
      walk_at "rd"
      refine ⟨x, dx, fs, pl, ps, e, b, c, beside, one, other, rfl, L.same s16, by walk_at "ft", by walk_at "ft", by walk_at "ft", by omega, by omega, by omega, by omega, fun H7 s7 => ?_⟩
      have s17 := s16.trans s7
      clear s16 s7
      walk_at "rd"
      refine ⟨e, b, c, x, beside, one, other, rfl, by walk_at "ft", by walk_at "ft", by walk_at "ft", by omega, .inl ⟨dx, fs, pl, ps, L.same s17, fun H8 s8 => ?_⟩⟩
      have s18 := s17.trans s8
      clear s17 s8
      have L8 := L.same s18
      have hpl8 := L8.hp
      have hx8 := L8.ob
      have s08 := s1'.trans s18
      walk_at "rd"
      have apl : a ≠ pl := ne_of_none ha fpl0
      have bpl : b ≠ pl := ne_of_none hb fpl0
      have cpl : c ≠ pl := ne_of_none hc fpl0
      have xpl : x ≠ pl := fun z => by rw [z, hpl8] at hx8; cases hx8
      refine r_appI hpl8 (by omega) ?_
      have L9 : MixAt k_Mixed (upd H8 pl (.lst ((ps ++ [(row.length : Int)]).map V.int))) x dx fs pl (ps ++ [(row.length : Int)]) := ⟨upd_keepNe hx8 xpl, fp, fn, upd_same⟩
      have s09 : Same H (upd H8 pl (.lst ((ps ++ [(row.length : Int)]).map V.int))) := same_upd s08 fpl0
      have hx9 := L9.ob
      walk_at "rd"
      refine ⟨x, dx, fs, pl, _, a, b, c, row, one, other, rfl, L9, s09.at ha, s09.at hb, s09.at hc, by simp; omega, by omega, by omega, by omega, fun H10 s10 => ?_⟩
      rw [Lf.mixed_more _ hL]
      walk_at "rd"
      exact k _ (s09.trans s10)
    · have fx0 : H x = none := by walk_at "fr"
      have fpp0 : H pp = none := by walk_at "fr"
      have hg1 : H1 g = some (.lst [.ref p, .ref q, .ref r]) := by walk_at "ft"
      have hp1 : H1 p = some (.lst (row.map V.int)) := by walk_at "ft"
      have hq1 : H1 q = some (.lst (one.map V.int)) := by walk_at "ft"
      have hr1 : H1 r = some (.lst (other.map V.int)) := by walk_at "ft"
      have s1' : Same H H1 := by walk_at "sm"
      clear s1 hp hq hr0 hg fx fpp
      have ha1 := s1'.at ha
      have hb1 := s1'.at hb
      have hc1 := s1'.at hc
      have he1 := s1'.at he
      obtain ⟨hx, fp, fn, hP⟩ := id L
      have hpa := hP.at_
      walk_at "rd"
      intro n1 hn1
      walk_at "rd"
      intro n2 hn2
      walk_at "rd"
      intro n3 hn3
      refine r_neL3 (xs := row) (ys := one) (zs := other) (xs' := row) (ys' := one) (zs' := other) (by walk_at "ft") (by walk_at "ft") (by walk_at "ft") (by walk_at "ft") (by walk_at "ft") (by walk_at "ft") (by walk_at "ft") (by walk_at "ft") ?_
      walk_at "rd"
      generalize hH2 : upd (upd (upd H1 n1 _) n2 _) n3 _ = H2
      have s12 : Same H1 H2 := by rw [← hH2]; walk_at "sm"
      clear hH2 hn1 hn2 hn3
      have hpa2 := s12.at hpa
      refine comp_map (ov_list (xs := ts.map V.ref)) (fun _ => .bl true) (fun H' s' => SqL.of (s'.at hpa2)) (by rw [List.length_map, hP.len]; omega) ?_ ?_
      · rintro i v y H4 H5 R R' hi s4 ⟨rfl, rfl⟩ h3
        rw [List.getElem?_map] at hi
        obtain ⟨t, ht, rfl⟩ := Option.map_eq_some_iff.mp hi
        have hti := s4.at (s12.at (hP.row i t ht))
        walk_at "rd"
        refine ⟨⟨rfl, rfl⟩, ?_⟩
        walk_at "rd"
        refine r_lenT hti ?_
        walk_at "rd"
        exact h3 _ (Same.refl _)
      intro D2 H3 hD2 s3 hd2
      walk_at "rd"
      refine r_allT (SqL.of hd2) (fun _ _ => rfl) ?_
      have s13 := s12.trans s3
      clear s12 s3 hd2 hpa2
      walk_at "rd"
      refine ⟨a, b, c, x, row, one, other, rfl, by walk_at "ft", by walk_at "ft", by walk_at "ft", by omega, .inr ⟨dx, fs, pp, ts, ps, L.same s13, by omega, fun H4 s4 => ?_⟩⟩
      rw [hL]
      have s14 := s13.trans s4
      clear s13 s4
      walk_at "rd"
      refine ⟨x, dx, fs, pp, ts, ps, a, b, c, row, one, other, rfl, L.same s14, by walk_at "ft", by walk_at "ft", by walk_at "ft", by omega, by omega, by omega, by omega, fun H5 s5 => ?_⟩
      rw [hL]
      have s15 := s14.trans s5
      clear s14 s5
      walk_at "rd"
      refine ⟨x, dx, fs, pp, ts, ps, a, c, b, row, other, one, rfl, L.same s15, by walk_at "ft", by walk_at "ft", by walk_at "ft", by omega, by omega, by omega, by omega, fun H6 s6 => ?_⟩
      have s16 := s15.trans s6
      clear s15 s6
      walk_at "rd"
      refine ⟨a, c, b, x, row, other, one, rfl, by walk_at "ft", by walk_at "ft", by walk_at "ft", by omega, .inr ⟨dx, fs, pp, ts, ps, L.same s16, by omega, fun H7 s7 => ?_⟩⟩
      have s17 := s16.trans s7
      clear s16 s7
      walk_at "rd"
      refine ⟨x, dx, fs, pp, ts, ps, e, b, c, beside, one, other, rfl, L.same s17, by walk_at "ft", by walk_at "ft", by walk_at "ft", by omega, by omega, by omega, by omega, fun H8 s8 => ?_⟩
      have s18 := s17.trans s8
      clear s17 s8
      walk_at "rd"
      refine ⟨e, b, c, x, beside, one, other, rfl, by walk_at "ft", by walk_at "ft", by walk_at "ft", by omega, .inr ⟨dx, fs, pp, ts, ps, L.same s18, by omega, fun H9 s9 => ?_⟩⟩
      have s19 := s18.trans s9
      clear s18 s9
      have L9 := L.same s19
      have hx9 := L9.ob
      have hpa9 := L9.pr.at_
      have s09 := s1'.trans s19
      walk_at "rd"
      intro u hu0
      walk_at "rd"
      have hP9 := L9.pr.same (Same.upd_new (o := HO.tup [V.int (one.length : Int), V.int (other.length : Int)]) hu0)
      have app : a ≠ pp := ne_of_none ha fpp0
      have bpp : b ≠ pp := ne_of_none hb fpp0
      have cpp : c ≠ pp := ne_of_none hc fpp0
      have xpp : x ≠ pp := fun z => by rw [z, hpa9] at hx9; cases hx9
      have hP10 := hP9.snoc (t := u) (i := one.length) (j := other.length) upd_same
      refine r_append hP9.at_ (by rw [List.length_map, hP.len]; omega) ?_
      have s010 : Same H (upd (upd H9 u (HO.tup [V.int (one.length : Int), V.int (other.length : Int)])) pp (.lst (ts.map V.ref ++ [.ref u]))) := same_upd (same_upd s09 (s09.free hu0)) fpp0
      have hx10 : upd (upd H9 u (HO.tup [V.int (one.length : Int), V.int (other.length : Int)])) pp (.lst (ts.map V.ref ++ [.ref u])) x = some (.ins k_Unmixed dx fs) := upd_keepNe (upd_keep hx9 hu0) xpp
      walk_at "rd"
      refine ⟨x, dx, fs, pp, ts ++ [u], _, a, b, c, row, one, other, rfl, ⟨hx10, fp, fn, hP10⟩, s010.at ha, s010.at hb, s010.at hc, by rw [List.length_append]; simp only [List.length_singleton]; omega, by omega, by omega, by omega, fun H11 s11 => ?_⟩
      rw [Lf.unmixed_more]
      walk_at "rd"
      exact k _ (s010.trans s11)
end

abbrev s_law : Stmt := body.getD 45 (.Pass ⟨0, 0, 0, 0⟩)
abbrev N_law : List Str := ["_law_script", "_law_one", "_law_other", "_law_row_here", "_law_i", "_law_j", "_law_cell", "_law_at", "_law_near", "_law_some"]
abbrev P_law : List Str := ["_law_script"]
theorem sc_law : FnScope N_law P_law (defScope s_law) := ⟨rfl, rfl, rfl, by decide, rfl, by decide, by decide⟩
section
variable {P : Program} {w : World} {K : PySem.W.Frag} {mg : Str → Option Value} {base : Heap} {f f1 f2 f3 k_Mixed k_Unmixed : Addr} {fd fd1 fd2 fd3 : FuncData}
def sp_law (K : PySem.W.Frag) : Sp := fun vs H Q _ => ∃ (a : Addr) (ns : List Int), vs = [.ref a] ∧ SqL K H a (ns.map V.int) ∧ ns.length ≤ 63 ∧ ∀ H', Q (.bl true) H'
theorem ok_law (F : Fun K "law" "law" s_law f fd) (T : Blt mg)
    (C__law_row : Cal K mg "_law_row" f1 fd1 P__law_row) (G__law_row : FnOk P w K mg base CX0 1 f1 fd1 P__law_row (sp__law_row K))
    (C__law_right : Cal K mg "_law_right" f2 fd2 P__law_right) (G__law_right : FnOk P w K mg base CX0 9 f2 fd2 P__law_right sp__law_right)
    (C_mixed : Cal K mg "mixed" f3 fd3 P_mixed) (G_mixed : FnOk P w K mg base CX0 8 f3 fd3 P_mixed (sp_mixed k_Mixed k_Unmixed))
    (g_Mixed : mg "Mixed" = some (.ref k_Mixed))
    (I_Mixed : Ins K k_Mixed) (I_Unmixed : Ins K k_Unmixed)
    (i_Mixed_Mixed : PySem.W.kitOne K (.ref k_Mixed) (.ref k_Mixed) = some true)
    (i_Unmixed_Mixed : PySem.W.kitOne K (.ref k_Unmixed) (.ref k_Mixed) = some false)
    : FnOk P w K mg base CX0 10 f fd P_law (sp_law K) := by
  refine F.ok sc_law (fun vs H Q E h => ?_) (fun cdv A outer s H vs Q E hr h => ?_)
  · obtain ⟨_, _, rfl, _⟩ := h
    rfl
  · obtain ⟨a, ns, rfl, ha, hn, k⟩ := h
    have nd := sc_law.nd
    have hu := hr.units
    refine ⟨_, (pss_cons (ps_par (i := 1) (j := 2) rfl nd rfl rfl (by decide) rfl rfl (pa_cons (pe_call G__law_row (hr.mono (by decide)) rfl C__law_row.mg C__law_row.kp C__law_row.b .nil pass0 (pa_cons (pe_slice3 (pv 0) po_none po_none pe_int) (pa_cons (pe_callB (call_sum rfl) rfl T.no_sum boot_sum (pa_cons (pv 0) pa_nil)) pa_nil))) (pa_cons (pe_call G__law_row (hr.mono (by decide)) rfl C__law_row.mg C__law_row.kp C__law_row.b .nil pass0 (pa_cons (pe_slice3 (pv 0) (po_some pe_int) po_none pe_int) (pa_cons (pe_callB (call_sum rfl) rfl T.no_sum boot_sum (pa_cons (pv 0) pa_nil)) pa_nil))) pa_nil)) (by with_unfolding_all rfl))
     (pss_cons (ps_par3 (i := 3) (j := 4) (k := 5) rfl nd rfl rfl rfl (by decide) (by decide) (by decide) rfl rfl rfl (pa_cons (pe_lst pa_nil) (pa_cons pe_int (pa_cons pe_int pa_nil))) (by with_unfolding_all rfl))
     (pss_cons (ps_for PassesOwn.never rfl (pi_list (pv 0)) (pg_name (i := 6) nd rfl (by first | exact Or.inl rfl | exact Or.inr rfl)) (pss_one (ps_if (PW.pt (pw_or (pt_cmpR (op_eqG hu) (pv 5) (pe_callB len_G rfl T.no_len boot_len (pa_cons (pv 2) pa_nil)) (nomark _)) (pw_or1 (PW.pt (pw_and (pt_cmpR op_lt (pv 4) (pe_callB len_G rfl T.no_len boot_len (pa_cons (pv 1) pa_nil)) (nomark _)) (pw_and1 (pt_cmpR (op_eqG hu) (pe_op op_mod (pe_op op_fdiv (pv 6) pe_int) pe_int) pe_int (nomark _)))))))) (pss_cons (ps_expr (pe_bm PySem.F.plainAttrs_list PySem.F.slot_list_append PySem.F.type_list_append mr_append (pv 3) (pa_cons (pe_ix ix_G (pv 1) (pv 4) (fun _ _ => rfl)) pa_nil)))
     (pss_one (ps_set (i := 4) nd rfl (by first | exact Or.inl rfl | exact Or.inr rfl) (pe_op op_addG (pv 4) pe_int)))) (pss_cons (ps_expr (pe_bm PySem.F.plainAttrs_list PySem.F.slot_list_append PySem.F.type_list_append mr_append (pv 3) (pa_cons (pe_ix ix_G (pv 2) (pv 5) (fun _ _ => rfl)) pa_nil)))
     (pss_one (ps_set (i := 5) nd rfl (by first | exact Or.inl rfl | exact Or.inr rfl) (pe_op op_addG (pv 5) pe_int)))))))
     (pss_cons (ps_set (i := 7) nd rfl (by first | exact Or.inl rfl | exact Or.inr rfl) (pe_op op_mod (pe_op op_fdiv (pe_callB (call_sum rfl) rfl T.no_sum boot_sum (pa_cons (pv 0) pa_nil)) pe_int) (pe_callB (call_max2N rfl) rfl T.no_max boot_max (pa_cons pe_int (pa_cons (pe_op op_sub (pe_callB len_G rfl T.no_len boot_len (pa_cons (pv 3) pa_nil)) pe_int) pa_nil)))))
     (pss_cons (ps_set (i := 8) nd rfl (by first | exact Or.inl rfl | exact Or.inr rfl) (pe_op op_addG (pe_op op_addG (pe_slice sl_list (pv 3) po_none (po_some (pv 7))) (pe_slice3 (pe_slice sl_list (pv 3) (po_some (pv 7)) (po_some (pe_op op_addG (pv 7) pe_int))) po_none po_none (pe_un un_neg pe_int))) (pe_slice sl_list (pv 3) (po_some (pe_op op_addG (pv 7) pe_int)) po_none)))
     (pss_cons (ps_for PassesOwn.never rfl (pi_list (pe_lst (pa_cons (pv 3) (pa_cons (pv 8) (pa_cons (pe_slice3 (pv 3) po_none po_none (pe_un un_neg pe_int)) (pa_cons (pe_op op_addG (pv 1) (pv 2)) (pa_cons (pe_op op_addG (pv 2) (pv 1)) (pa_cons (pv 3) pa_nil)))))))) (pg_name (i := 9) nd rfl (by first | exact Or.inl rfl | exact Or.inr rfl)) (pss_one (ps_if (pt_not (pt_val (pe_call G__law_right (hr.mono (by decide)) rfl C__law_right.mg C__law_right.kp C__law_right.b .nil pass0 (pa_cons (pv 9) (pa_cons (pv 1) (pa_cons (pv 2) (pa_cons (pv 8) pa_nil))))))) (pss_one (ps_ret pe_bl)) pss_nil)))
     (pss_cons (ps_for PassesOwn.never rfl (pi_list (pe_lst (pa_cons (pv 3) (pa_cons (pe_op op_addG (pv 1) (pv 2)) (pa_cons (pe_op op_addG (pv 2) (pv 1)) pa_nil))))) (pg_name (i := 9) nd rfl (by first | exact Or.inl rfl | exact Or.inr rfl)) (pss_one (ps_if (PW.pt (pw_or (pt_not (pt_val (pe_callB call_isinst rfl T.no_isinstance boot_isinstance (pa_cons (pe_call G_mixed (hr.mono (by decide)) rfl C_mixed.mg C_mixed.kp C_mixed.b .nil pass0 (pa_cons (pv 9) (pa_cons (pv 1) (pa_cons (pv 2) pa_nil)))) (pa_cons (pe_gref rfl g_Mixed) pa_nil))))) (pw_or1 (pt_not (pt_val (pe_callB call_isinst rfl T.no_isinstance boot_isinstance (pa_cons (pe_call G_mixed (hr.mono (by decide)) rfl C_mixed.mg C_mixed.kp C_mixed.b .nil pass0 (pa_cons (pv 9) (pa_cons (pv 2) (pa_cons (pv 1) pa_nil)))) (pa_cons (pe_gref rfl g_Mixed) pa_nil)))))))) (pss_one (ps_ret pe_bl)) pss_nil)))
     (pss_one (ps_ret pe_bl))))))))), ?_⟩
    try simp only [show (cxOf CX0 P w K mg base N_law "law" (defScope s_law) f cdv A outer s H E).nox.K = K from rfl, show (cxOf CX0 P w K mg base N_law "law" (defScope s_law) f cdv A outer s H E).K = K from rfl]
    rw [show L2.start N_law [V.ref a] = [some (V.ref a), none, none, none, none, none, none, none, none, none] from rfl]
    walk_at "rd"
    intro e1 he1
    walk_at "rd"
    have ev := evens_both ns
    refine ⟨e1, _, _, rfl, by walk_at "ft", by omega, fun r H1 hr1 s1 h1 => ?_⟩
    have l1 := Lf.lrow_len (evens ns) ns.sum
    generalize Lf.lrow (evens ns) ns.sum = one at h1 l1
    walk_at "rd"
    intro e2 he2
    walk_at "rd"
    refine ⟨e2, _, _, rfl, by walk_at "ft", by omega, fun r2 H2 hr2 s2 h2 => ?_⟩
    have l2 := Lf.lrow_len (evens ns.tail) ns.sum
    generalize Lf.lrow (evens ns.tail) ns.sum = other at h2 l2
    have h1 : H2 r = some (.lst (one.map V.int)) := by walk_at "ft"
    have ha2 : SqL K H2 a (ns.map V.int) := by walk_at "ft"
    clear s1 s2 he1 he2 hr1 hr2
    walk_at "rd"
    intro rh hrh
    walk_at "rd"
    refine for_by (ov_ints (ns := ns)) (fun n σ H3 => ∃ (i j : Nat) (row : List Int) (v6 : Option V), σ = [some (.ref a), some (.ref r), some (.ref r2), some (.ref rh), some (.int i), some (.int j), v6, none, none, none] ∧ Same H2 H3 ∧ H3 rh = some (.lst (row.map V.int)) ∧ i + j = n ∧ i ≤ one.length ∧ j ≤ other.length ∧ row.length = n ∧ Lf.Mix row (one.take i) (other.take j)) ?_ ?_ ?_ ?_
    · exact ⟨0, 0, [], _, rfl, by walk_at "sm", by walk_at "ft", rfl, Nat.zero_le _, Nat.zero_le _, rfl, .nil⟩
    · rintro n σ H3 _ ⟨_, _, _, _, _, s3, _⟩
      exact s3.seq ha2
    · rintro n z x σ H3 H3' hy ⟨i, j, row, v6, rfl, s3, hrow, hij, hi, hj, hl, mx⟩ ⟨rfl, rfl⟩
      obtain ⟨hn1, _⟩ := List.getElem?_eq_some_iff.mp hy
      have t1 : i < one.length → one.take (i + 1) = one.take i ++ [one.getD i 0] := fun q => by
        rw [List.take_add_one, List.getD_eq_getElem?_getD]; simp [q]
      have t2 : j < other.length → other.take (j + 1) = other.take j ++ [other.getD j 0] := fun q => by
        rw [List.take_add_one, List.getD_eq_getElem?_getD]; simp [q]
      have h13 := s3.at h1
      have h23 := s3.at h2
      iterate 2 walk_at "rd1"
      refine r_cutT (decide (j = other.length ∨ (i < one.length ∧ z / 13 % 2 = 0))) H3' (fun Q' k' => ?_) ?_
      · walk_at "rd"
        refine iteD (fun q1 => ?_) (fun q1 => ?_)
        · rw [decide_eq_true (.inl (by omega))] at k'
          exact k'
        walk_at "rd"
        refine iteD (fun q2 => ?_) (fun q2 => ?_)
        · walk_at "rd"
          by_cases q3 : z / 13 % 2 = 0
          · rw [decide_eq_true (.inr ⟨by omega, q3⟩)] at k'
            rw [decide_eq_true q3]
            exact k'
          · rw [decide_eq_false (by rintro (q | q); exact q1 (by omega); exact q3 q.2)] at k'
            rw [decide_eq_false q3]
            exact k'
        · rw [decide_eq_false (by rintro (q | q); exact q1 (by omega); exact q2 (by omega))] at k'
          exact k'
      refine iteD (fun q => ?_) (fun q => ?_)
      · have hi1 : i < one.length := by
          rcases q with q | q
          · omega
          · exact q.1
        walk_at "rd"
        refine r_ixI (by walk_at "ft") (by omega) (by omega) ?_
        rw [Int.toNat_natCast]
        walk_at "rd"
        refine r_appI hrow (by omega) ?_
        walk_at "rd"
        refine ⟨i + 1, j, _, _, rfl, by walk_at "sm", upd_same, by omega, by omega, hj, by simp; omega, ?_⟩
        rw [t1 hi1]
        exact mx.snocL
      · have hj1 : j < other.length := by
          by_cases z1 : j = other.length
          · exact absurd (.inl z1) q
          · omega
        walk_at "rd"
        refine r_ixI (by walk_at "ft") (by omega) (by omega) ?_
        rw [Int.toNat_natCast]
        walk_at "rd"
        refine r_appI hrow (by omega) ?_
        walk_at "rd"
        refine ⟨i, j + 1, _, _, rfl, by walk_at "sm", upd_same, by omega, hi, by omega, by simp; omega, ?_⟩
        rw [t2 hj1]
        exact mx.snocR
    rintro σ H3 ⟨i, j, row, v6, rfl, s3, hrow, hij, hi, hj, hl, mx⟩
    have ei : i = one.length := by omega
    have ej : j = other.length := by omega
    subst ei ej
    rw [List.take_length, List.take_length] at mx
    have h13 := s3.at h1
    have h23 := s3.at h2
    have ha3 := s3.seq ha2
    clear s3 h1 h2 ha2 hrh
    walk_at "rd"
    have hm0 : 0 ≤ ns.sum / 3 % max 1 ((row.length : Int) - 1) := Int.emod_nonneg _ (by omega)
    generalize ns.sum / 3 % max 1 ((row.length : Int) - 1) = at' at hm0
    walk_at "rd"
    intro p1 hp1
    walk_at "rd"
    intro p2 hp2
    walk_at "rd"
    intro p3 hp3
    refine r_catI (by walk_at "ft") (by walk_at "ft") (by simp [Lf.cut]; omega) ?_
    intro p4 hp4
    walk_at "rd"
    intro p5 hp5
    refine r_catI (by walk_at "ft") (by walk_at "ft") (by simp [Lf.cut]; omega) ?_
    intro p6 hp6
    have rl : row.length = one.length + other.length := mx.len
    have nl : (row.take at'.toNat ++ (Lf.cut row at' (at' + 2)).reverse ++ row.drop (at' + 2).toNat).length = row.length := by simp [Lf.cut]; omega
    generalize row.take at'.toNat ++ (Lf.cut row at' (at' + 2)).reverse ++ row.drop (at' + 2).toNat = near at nl
    generalize hH4 : upd _ p6 (.lst (near.map V.int)) = H4
    have s34 : Same H3 H4 := by rw [← hH4]; walk_at "sm"
    have hnr : H4 p6 = some (.lst (near.map V.int)) := by rw [← hH4]; walk_at "ft"
    clear hH4 hp1 hp2 hp3 hp4 hp5 hp6
    have h14 := s34.at h13
    have h24 := s34.at h23
    have hr4 := s34.at hrow
    clear s34 h13 h23 hrow ha3
    walk_at "rd"
    intro q1 hq1
    walk_at "rd"
    refine r_catI (by walk_at "ft") (by walk_at "ft") (by omega) ?_
    intro q2 hq2
    walk_at "rd"
    refine r_catI (by walk_at "ft") (by walk_at "ft") (by omega) ?_
    intro q3 hq3
    walk_at "rd"
    intro l hl'
    walk_at "rd"
    generalize hH5 : upd _ l _ = H5
    have s45 : Same H4 H5 := by rw [← hH5]; walk_at "sm"
    have hl5 : H5 l = some (.lst [.ref rh, .ref p6, .ref q1, .ref q2, .ref q3, .ref rh]) := by rw [← hH5]; walk_at "ft"
    have hq15 : H5 q1 = some (.lst (row.reverse.map V.int)) := by rw [← hH5]; walk_at "ft"
    have hq25 : H5 q2 = some (.lst ((one ++ other).map V.int)) := by rw [← hH5]; walk_at "ft"
    have hq35 : H5 q3 = some (.lst ((other ++ one).map V.int)) := by rw [← hH5]; walk_at "ft"
    clear hH5 hq1 hq2 hq3 hl'
    have h15 := s45.at h14
    have h25 := s45.at h24
    have hr5 := s45.at hr4
    have hn5 := s45.at hnr
    clear s45 h14 h24 hr4 hnr
    have all5 : ∀ v ∈ [V.ref rh, V.ref p6, V.ref q1, V.ref q2, V.ref q3, V.ref rh], ∃ (d : Addr) (L : List Int), v = .ref d ∧ H5 d = some (.lst (L.map V.int)) ∧ L.length = one.length + other.length := by
      intro v hv
      simp only [List.mem_cons, List.mem_nil_iff, or_false] at hv
      rcases hv with e | e | e | e | e | e <;> subst e
      · exact ⟨rh, row, rfl, hr5, by omega⟩
      · exact ⟨p6, near, rfl, hn5, by omega⟩
      · exact ⟨q1, _, rfl, hq15, by simp; omega⟩
      · exact ⟨q2, _, rfl, hq25, by simp⟩
      · exact ⟨q3, _, rfl, hq35, by simp; omega⟩
      · exact ⟨rh, row, rfl, hr5, by omega⟩
    refine for_by (ov_list (xs := [V.ref rh, V.ref p6, V.ref q1, V.ref q2, V.ref q3, V.ref rh])) (fun n σ H6 => ∃ v9 : Option V, σ = [some (V.ref a), some (V.ref r), some (V.ref r2), some (V.ref rh), some (V.int (one.length : Int)), some (V.int (other.length : Int)), v6, some (V.int at'), some (V.ref p6), v9] ∧ Same H5 H6) ?_ ?_ ?_ ?_
    · exact ⟨_, rfl, Same.refl _⟩
    · rintro n σ H6 _ ⟨_, _, s6⟩
      exact SqL.of (s6.at hl5)
    · rintro n v y σ H6 H6' hy ⟨v9, rfl, s6⟩ ⟨rfl, rfl⟩
      obtain ⟨d, L, rfl, hd, hL⟩ := all5 _ (List.mem_of_getElem? hy)
      walk_at "rd"
      refine ⟨d, r, r2, p6, L, one, other, near, rfl, by walk_at "ft", by walk_at "ft", by walk_at "ft", by walk_at "ft", by omega, by omega, by omega, by omega, by omega, fun H7 s7 => ?_⟩
      walk_at "rd"
      exact ⟨_, rfl, s6.trans s7⟩
    rintro σ H6 ⟨v9, rfl, s6⟩
    have h16 := s6.at h15
    have h26 := s6.at h25
    have hr6 := s6.at hr5
    clear s6 all5 hl5 hq15 hq25 hq35 h15 h25 hr5 hn5
    walk_at "rd"
    refine r_catI (by walk_at "ft") (by walk_at "ft") (by omega) ?_
    intro w1 hw1
    walk_at "rd"
    refine r_catI (by walk_at "ft") (by walk_at "ft") (by omega) ?_
    intro w2 hw2
    walk_at "rd"
    intro l7 hl7'
    walk_at "rd"
    generalize hH7 : upd _ l7 _ = H7
    have s67 : Same H6 H7 := by rw [← hH7]; walk_at "sm"
    have hl7 : H7 l7 = some (.lst [.ref rh, .ref w1, .ref w2]) := by rw [← hH7]; walk_at "ft"
    have hw17 : H7 w1 = some (.lst ((one ++ other).map V.int)) := by rw [← hH7]; walk_at "ft"
    have hw27 : H7 w2 = some (.lst ((other ++ one).map V.int)) := by rw [← hH7]; walk_at "ft"
    clear hH7 hw1 hw2 hl7'
    have h17 := s67.at h16
    have h27 := s67.at h26
    have hr7 := s67.at hr6
    clear s67 h16 h26 hr6
    have all7 : ∀ v ∈ [V.ref rh, V.ref w1, V.ref w2], ∃ (d : Addr) (L : List Int), v = .ref d ∧ H7 d = some (.lst (L.map V.int)) ∧ L.length ≤ 200 ∧ Lf.Mix L one other := by
      intro v hv
      simp only [List.mem_cons, List.mem_nil_iff, or_false] at hv
      rcases hv with e | e | e <;> subst e
      · exact ⟨rh, row, rfl, hr7, by omega, mx⟩
      · exact ⟨w1, _, rfl, hw17, by simp; omega, Lf.Mix.behind _ _⟩
      · exact ⟨w2, _, rfl, hw27, by simp; omega, Lf.Mix.ahead _ _⟩
    refine for_by (ov_list (xs := [V.ref rh, V.ref w1, V.ref w2])) (fun n σ H8 => ∃ v9 : Option V, σ = [some (V.ref a), some (V.ref r), some (V.ref r2), some (V.ref rh), some (V.int (one.length : Int)), some (V.int (other.length : Int)), v6, some (V.int at'), some (V.ref p6), v9] ∧ Same H7 H8) ?_ ?_ ?_ ?_
    · exact ⟨_, rfl, Same.refl _⟩
    · rintro n σ H8 _ ⟨_, _, s8⟩
      exact SqL.of (s8.at hl7)
    · rintro n v y σ H8 H8' hy ⟨v9', rfl, s8⟩ ⟨rfl, rfl⟩
      obtain ⟨d, L, rfl, hd, hL, hM⟩ := all7 _ (List.mem_of_getElem? hy)
      walk_at "rd"
      refine ⟨d, r, r2, L, one, other, rfl, by walk_at "ft", by walk_at "ft", by walk_at "ft", by omega, by omega, by omega, hM.len, fun x dx fs pl ps H9 fx fpl s9 A1 hA => ?_, fun x dx fs pp ts ps H9 fx fpp s9 A1 lps hA => absurd hM (Lf.un_not_mix (Lf.unmixed_iff.mp hA))⟩
      have hx := A1.ob
      walk_at "rd"
      refine ⟨d, r2, r, L, other, one, rfl, by walk_at "ft", by walk_at "ft", by walk_at "ft", by omega, by omega, by omega, hM.swap.len, fun x' dx' fs' pl' ps' H10 fx' fpl' s10 A2 hA2 => ?_, fun x' dx' fs' pp' ts' ps' H10 fx' fpp' s10 A2 lps' hA2 => absurd hM.swap (Lf.un_not_mix (Lf.unmixed_iff.mp hA2))⟩
      have hx' := A2.ob
      walk_at "rd"
      exact ⟨_, rfl, s8.trans (s9.trans s10)⟩
    rintro σ H8 ⟨v9', rfl, s8⟩
    walk_at "rd"
    exact k _
end

theorem all_mk {l : PySem.W.OpenLaw} {w : World} {K : PySem.W.Frag} {h : Heap} {mg : Str → Option Value} {fa : Addr} (X : K.In h) (G : h.Ns mainGlobals mg) (hfa : mg "law" = some (.ref fa))
    {f_is_whole : Addr} {od_is_whole an_is_whole : Option Addr} {sl_is_whole : Array (Option Value)} {oc_is_whole kV_is_whole dc_is_whole pm_is_whole cd_is_whole ct_is_whole : Value}
    {f_is_count : Addr} {od_is_count an_is_count : Option Addr} {sl_is_count : Array (Option Value)} {oc_is_count kV_is_count dc_is_count pm_is_count cd_is_count ct_is_count : Value}
    {f_is_row : Addr} {od_is_row an_is_row : Option Addr} {sl_is_row : Array (Option Value)} {oc_is_row kV_is_row dc_is_row pm_is_row cd_is_row ct_is_row : Value}
    {f_checked_row : Addr} {od_checked_row an_checked_row : Option Addr} {sl_checked_row : Array (Option Value)} {oc_checked_row kV_checked_row dc_checked_row pm_checked_row cd_checked_row ct_checked_row : Value}
    {f_are_places : Addr} {od_are_places an_are_places : Option Addr} {sl_are_places : Array (Option Value)} {oc_are_places kV_are_places dc_are_places pm_are_places cd_are_places ct_are_places : Value}
    {f_signs_at : Addr} {od_signs_at an_signs_at : Option Addr} {sl_signs_at : Array (Option Value)} {oc_signs_at kV_signs_at dc_signs_at pm_signs_at cd_signs_at ct_signs_at : Value}
    {f_stands_at : Addr} {od_stands_at an_stands_at : Option Addr} {sl_stands_at : Array (Option Value)} {oc_stands_at kV_stands_at dc_stands_at pm_stands_at cd_stands_at ct_stands_at : Value}
    {f_are_counts : Addr} {od_are_counts an_are_counts : Option Addr} {sl_are_counts : Array (Option Value)} {oc_are_counts kV_are_counts dc_are_counts pm_are_counts cd_are_counts ct_are_counts : Value}
    {f_pairs_after : Addr} {od_pairs_after an_pairs_after : Option Addr} {sl_pairs_after : Array (Option Value)} {oc_pairs_after kV_pairs_after dc_pairs_after pm_pairs_after cd_pairs_after ct_pairs_after : Value}
    {f_is_followed : Addr} {od_is_followed an_is_followed : Option Addr} {sl_is_followed : Array (Option Value)} {oc_is_followed kV_is_followed dc_is_followed pm_is_followed cd_is_followed ct_is_followed : Value}
    {f_pairs_reached : Addr} {od_pairs_reached an_pairs_reached : Option Addr} {sl_pairs_reached : Array (Option Value)} {oc_pairs_reached kV_pairs_reached dc_pairs_reached pm_pairs_reached cd_pairs_reached ct_pairs_reached : Value}
    {f_places_on_way : Addr} {od_places_on_way an_places_on_way : Option Addr} {sl_places_on_way : Array (Option Value)} {oc_places_on_way kV_places_on_way dc_places_on_way pm_places_on_way cd_places_on_way ct_places_on_way : Value}
    {f_Mixed___init__ : Addr} {od_Mixed___init__ an_Mixed___init__ : Option Addr} {sl_Mixed___init__ : Array (Option Value)} {oc_Mixed___init__ kV_Mixed___init__ dc_Mixed___init__ pm_Mixed___init__ cd_Mixed___init__ ct_Mixed___init__ : Value}
    {f_Unmixed___init__ : Addr} {od_Unmixed___init__ an_Unmixed___init__ : Option Addr} {sl_Unmixed___init__ : Array (Option Value)} {oc_Unmixed___init__ kV_Unmixed___init__ dc_Unmixed___init__ pm_Unmixed___init__ cd_Unmixed___init__ ct_Unmixed___init__ : Value}
    {f_Mixed_shows : Addr} {od_Mixed_shows an_Mixed_shows : Option Addr} {sl_Mixed_shows : Array (Option Value)} {oc_Mixed_shows kV_Mixed_shows dc_Mixed_shows pm_Mixed_shows cd_Mixed_shows ct_Mixed_shows : Value}
    {f_Unmixed_shows : Addr} {od_Unmixed_shows an_Unmixed_shows : Option Addr} {sl_Unmixed_shows : Array (Option Value)} {oc_Unmixed_shows kV_Unmixed_shows dc_Unmixed_shows pm_Unmixed_shows cd_Unmixed_shows ct_Unmixed_shows : Value}
    {f_mixed : Addr} {od_mixed an_mixed : Option Addr} {sl_mixed : Array (Option Value)} {oc_mixed kV_mixed dc_mixed pm_mixed cd_mixed ct_mixed : Value}
    {f__law_row : Addr} {od__law_row an__law_row : Option Addr} {sl__law_row : Array (Option Value)} {oc__law_row kV__law_row dc__law_row pm__law_row cd__law_row ct__law_row : Value}
    {f__law_numbers : Addr} {od__law_numbers an__law_numbers : Option Addr} {sl__law_numbers : Array (Option Value)} {oc__law_numbers kV__law_numbers dc__law_numbers pm__law_numbers cd__law_numbers ct__law_numbers : Value}
    {f__law_stands : Addr} {od__law_stands an__law_stands : Option Addr} {sl__law_stands : Array (Option Value)} {oc__law_stands kV__law_stands dc__law_stands pm__law_stands cd__law_stands ct__law_stands : Value}
    {f__law_is_mixed : Addr} {od__law_is_mixed an__law_is_mixed : Option Addr} {sl__law_is_mixed : Array (Option Value)} {oc__law_is_mixed kV__law_is_mixed dc__law_is_mixed pm__law_is_mixed cd__law_is_mixed ct__law_is_mixed : Value}
    {f__law_unmixed : Addr} {od__law_unmixed an__law_unmixed : Option Addr} {sl__law_unmixed : Array (Option Value)} {oc__law_unmixed kV__law_unmixed dc__law_unmixed pm__law_unmixed cd__law_unmixed ct__law_unmixed : Value}
    {f__law_due : Addr} {od__law_due an__law_due : Option Addr} {sl__law_due : Array (Option Value)} {oc__law_due kV__law_due dc__law_due pm__law_due cd__law_due ct__law_due : Value}
    {f__law_right : Addr} {od__law_right an__law_right : Option Addr} {sl__law_right : Array (Option Value)} {oc__law_right kV__law_right dc__law_right pm__law_right cd__law_right ct__law_right : Value}
    {f_law : Addr} {od_law an_law : Option Addr} {sl_law : Array (Option Value)} {oc_law kV_law dc_law pm_law cd_law ct_law : Value}
    {k_LeftError : Addr}
    {k_BadRow : Addr}
    {k_BadMany : Addr}
    {k_Answer : Addr}
    {k_Left : Addr}
    {k_Short : Addr}
    {k_Longest : Addr}
    {k_Both : Addr}
    {k_Missing : Addr}
    {k_Mixed : Addr}
    {k_Unmixed : Addr}
    (aC_LeftError : PySem.W.nsIn K mainGlobals "LeftError" = some (some (.ref k_LeftError)))
    (aC_BadRow : PySem.W.nsIn K mainGlobals "BadRow" = some (some (.ref k_BadRow)))
    (aC_BadMany : PySem.W.nsIn K mainGlobals "BadMany" = some (some (.ref k_BadMany)))
    (aC_Answer : PySem.W.nsIn K mainGlobals "Answer" = some (some (.ref k_Answer)))
    (aC_Left : PySem.W.nsIn K mainGlobals "Left" = some (some (.ref k_Left)))
    (aC_Short : PySem.W.nsIn K mainGlobals "Short" = some (some (.ref k_Short)))
    (aC_Longest : PySem.W.nsIn K mainGlobals "Longest" = some (some (.ref k_Longest)))
    (aC_Both : PySem.W.nsIn K mainGlobals "Both" = some (some (.ref k_Both)))
    (aC_Missing : PySem.W.nsIn K mainGlobals "Missing" = some (some (.ref k_Missing)))
    (aC_Mixed : PySem.W.nsIn K mainGlobals "Mixed" = some (some (.ref k_Mixed)))
    (aC_Unmixed : PySem.W.nsIn K mainGlobals "Unmixed" = some (some (.ref k_Unmixed)))
    (sn : PySem.W.specialIn K (.builtin "object.__class__") "__get__" = some (some (.builtin "getset_descriptor.__get__")))
    (st : PySem.W.takesIn K (.builtin "object.__class__") = some true)
    (u_Mixed : PySem.W.findIn K (.ref k_Mixed) "__class__" = some (some (.builtin "object.__class__")))
    (v_Mixed : PySem.W.mroIn K k_Mixed (.type "object") = some true)
    (pg_Mixed : PySem.W.plainGet K k_Mixed Str.empty = true)
    (hd_Mixed : PySem.W.hasDictIn K k_Mixed = true)
    (po_Mixed : PySem.W.plainOver K k_Mixed = true)
    (sa_Mixed : PySem.W.findIn K (.ref k_Mixed) "__setattr__" = some (some (.builtin "object.__setattr__")))
    (mkk_Mixed : PySem.W.makesIn K k_Mixed = true)
    (kc_Mixed : PySem.W.keepIn K (.ref k_Mixed) = true)
    (n_Mixed_places : PySem.W.findIn K (.ref k_Mixed) "places" = some none)
    (u_Unmixed : PySem.W.findIn K (.ref k_Unmixed) "__class__" = some (some (.builtin "object.__class__")))
    (v_Unmixed : PySem.W.mroIn K k_Unmixed (.type "object") = some true)
    (pg_Unmixed : PySem.W.plainGet K k_Unmixed Str.empty = true)
    (hd_Unmixed : PySem.W.hasDictIn K k_Unmixed = true)
    (po_Unmixed : PySem.W.plainOver K k_Unmixed = true)
    (sa_Unmixed : PySem.W.findIn K (.ref k_Unmixed) "__setattr__" = some (some (.builtin "object.__setattr__")))
    (mkk_Unmixed : PySem.W.makesIn K k_Unmixed = true)
    (kc_Unmixed : PySem.W.keepIn K (.ref k_Unmixed) = true)
    (n_Unmixed_pairs : PySem.W.findIn K (.ref k_Unmixed) "pairs" = some none)
    (i_Mixed_Answer : PySem.W.kitOne K (.ref k_Mixed) (.ref k_Answer) = some true)
    (i_Mixed_Left : PySem.W.kitOne K (.ref k_Mixed) (.ref k_Left) = some false)
    (i_Mixed_Short : PySem.W.kitOne K (.ref k_Mixed) (.ref k_Short) = some false)
    (i_Mixed_Longest : PySem.W.kitOne K (.ref k_Mixed) (.ref k_Longest) = some false)
    (i_Mixed_Both : PySem.W.kitOne K (.ref k_Mixed) (.ref k_Both) = some false)
    (i_Mixed_Missing : PySem.W.kitOne K (.ref k_Mixed) (.ref k_Missing) = some false)
    (i_Mixed_Mixed : PySem.W.kitOne K (.ref k_Mixed) (.ref k_Mixed) = some true)
    (i_Mixed_Unmixed : PySem.W.kitOne K (.ref k_Mixed) (.ref k_Unmixed) = some false)
    (i_Unmixed_Answer : PySem.W.kitOne K (.ref k_Unmixed) (.ref k_Answer) = some true)
    (i_Unmixed_Left : PySem.W.kitOne K (.ref k_Unmixed) (.ref k_Left) = some false)
    (i_Unmixed_Short : PySem.W.kitOne K (.ref k_Unmixed) (.ref k_Short) = some false)
    (i_Unmixed_Longest : PySem.W.kitOne K (.ref k_Unmixed) (.ref k_Longest) = some false)
    (i_Unmixed_Both : PySem.W.kitOne K (.ref k_Unmixed) (.ref k_Both) = some false)
    (i_Unmixed_Missing : PySem.W.kitOne K (.ref k_Unmixed) (.ref k_Missing) = some false)
    (i_Unmixed_Mixed : PySem.W.kitOne K (.ref k_Unmixed) (.ref k_Mixed) = some false)
    (i_Unmixed_Unmixed : PySem.W.kitOne K (.ref k_Unmixed) (.ref k_Unmixed) = some true)
    (a_is_whole : PySem.W.nsIn K mainGlobals "is_whole" = some (some (.ref f_is_whole)))
    (l_is_whole : K.lookup f_is_whole = some ⟨oc_is_whole, od_is_whole, .func (PySem.W.fnOf "is_whole" "is_whole" (defArgs s_is_whole) (defBody s_is_whole) (defScope s_is_whole) .none kV_is_whole dc_is_whole pm_is_whole an_is_whole cd_is_whole ct_is_whole), sl_is_whole⟩)
    (c_is_whole : PySem.W.codeIn K cd_is_whole "is_whole" = true)
    (h_is_whole : PySem.W.keepIn K (.ref f_is_whole) = true)
    (a_is_count : PySem.W.nsIn K mainGlobals "is_count" = some (some (.ref f_is_count)))
    (l_is_count : K.lookup f_is_count = some ⟨oc_is_count, od_is_count, .func (PySem.W.fnOf "is_count" "is_count" (defArgs s_is_count) (defBody s_is_count) (defScope s_is_count) .none kV_is_count dc_is_count pm_is_count an_is_count cd_is_count ct_is_count), sl_is_count⟩)
    (c_is_count : PySem.W.codeIn K cd_is_count "is_count" = true)
    (h_is_count : PySem.W.keepIn K (.ref f_is_count) = true)
    (a_is_row : PySem.W.nsIn K mainGlobals "is_row" = some (some (.ref f_is_row)))
    (l_is_row : K.lookup f_is_row = some ⟨oc_is_row, od_is_row, .func (PySem.W.fnOf "is_row" "is_row" (defArgs s_is_row) (defBody s_is_row) (defScope s_is_row) .none kV_is_row dc_is_row pm_is_row an_is_row cd_is_row ct_is_row), sl_is_row⟩)
    (c_is_row : PySem.W.codeIn K cd_is_row "is_row" = true)
    (h_is_row : PySem.W.keepIn K (.ref f_is_row) = true)
    (a_checked_row : PySem.W.nsIn K mainGlobals "checked_row" = some (some (.ref f_checked_row)))
    (l_checked_row : K.lookup f_checked_row = some ⟨oc_checked_row, od_checked_row, .func (PySem.W.fnOf "checked_row" "checked_row" (defArgs s_checked_row) (defBody s_checked_row) (defScope s_checked_row) .none kV_checked_row dc_checked_row pm_checked_row an_checked_row cd_checked_row ct_checked_row), sl_checked_row⟩)
    (c_checked_row : PySem.W.codeIn K cd_checked_row "checked_row" = true)
    (h_checked_row : PySem.W.keepIn K (.ref f_checked_row) = true)
    (a_are_places : PySem.W.nsIn K mainGlobals "are_places" = some (some (.ref f_are_places)))
    (l_are_places : K.lookup f_are_places = some ⟨oc_are_places, od_are_places, .func (PySem.W.fnOf "are_places" "are_places" (defArgs s_are_places) (defBody s_are_places) (defScope s_are_places) .none kV_are_places dc_are_places pm_are_places an_are_places cd_are_places ct_are_places), sl_are_places⟩)
    (c_are_places : PySem.W.codeIn K cd_are_places "are_places" = true)
    (h_are_places : PySem.W.keepIn K (.ref f_are_places) = true)
    (a_signs_at : PySem.W.nsIn K mainGlobals "signs_at" = some (some (.ref f_signs_at)))
    (l_signs_at : K.lookup f_signs_at = some ⟨oc_signs_at, od_signs_at, .func (PySem.W.fnOf "signs_at" "signs_at" (defArgs s_signs_at) (defBody s_signs_at) (defScope s_signs_at) .none kV_signs_at dc_signs_at pm_signs_at an_signs_at cd_signs_at ct_signs_at), sl_signs_at⟩)
    (c_signs_at : PySem.W.codeIn K cd_signs_at "signs_at" = true)
    (h_signs_at : PySem.W.keepIn K (.ref f_signs_at) = true)
    (a_stands_at : PySem.W.nsIn K mainGlobals "stands_at" = some (some (.ref f_stands_at)))
    (l_stands_at : K.lookup f_stands_at = some ⟨oc_stands_at, od_stands_at, .func (PySem.W.fnOf "stands_at" "stands_at" (defArgs s_stands_at) (defBody s_stands_at) (defScope s_stands_at) .none kV_stands_at dc_stands_at pm_stands_at an_stands_at cd_stands_at ct_stands_at), sl_stands_at⟩)
    (c_stands_at : PySem.W.codeIn K cd_stands_at "stands_at" = true)
    (h_stands_at : PySem.W.keepIn K (.ref f_stands_at) = true)
    (a_are_counts : PySem.W.nsIn K mainGlobals "are_counts" = some (some (.ref f_are_counts)))
    (l_are_counts : K.lookup f_are_counts = some ⟨oc_are_counts, od_are_counts, .func (PySem.W.fnOf "are_counts" "are_counts" (defArgs s_are_counts) (defBody s_are_counts) (defScope s_are_counts) .none kV_are_counts dc_are_counts pm_are_counts an_are_counts cd_are_counts ct_are_counts), sl_are_counts⟩)
    (c_are_counts : PySem.W.codeIn K cd_are_counts "are_counts" = true)
    (h_are_counts : PySem.W.keepIn K (.ref f_are_counts) = true)
    (a_pairs_after : PySem.W.nsIn K mainGlobals "pairs_after" = some (some (.ref f_pairs_after)))
    (l_pairs_after : K.lookup f_pairs_after = some ⟨oc_pairs_after, od_pairs_after, .func (PySem.W.fnOf "pairs_after" "pairs_after" (defArgs s_pairs_after) (defBody s_pairs_after) (defScope s_pairs_after) .none kV_pairs_after dc_pairs_after pm_pairs_after an_pairs_after cd_pairs_after ct_pairs_after), sl_pairs_after⟩)
    (c_pairs_after : PySem.W.codeIn K cd_pairs_after "pairs_after" = true)
    (h_pairs_after : PySem.W.keepIn K (.ref f_pairs_after) = true)
    (a_is_followed : PySem.W.nsIn K mainGlobals "is_followed" = some (some (.ref f_is_followed)))
    (l_is_followed : K.lookup f_is_followed = some ⟨oc_is_followed, od_is_followed, .func (PySem.W.fnOf "is_followed" "is_followed" (defArgs s_is_followed) (defBody s_is_followed) (defScope s_is_followed) .none kV_is_followed dc_is_followed pm_is_followed an_is_followed cd_is_followed ct_is_followed), sl_is_followed⟩)
    (c_is_followed : PySem.W.codeIn K cd_is_followed "is_followed" = true)
    (h_is_followed : PySem.W.keepIn K (.ref f_is_followed) = true)
    (a_pairs_reached : PySem.W.nsIn K mainGlobals "pairs_reached" = some (some (.ref f_pairs_reached)))
    (l_pairs_reached : K.lookup f_pairs_reached = some ⟨oc_pairs_reached, od_pairs_reached, .func (PySem.W.fnOf "pairs_reached" "pairs_reached" (defArgs s_pairs_reached) (defBody s_pairs_reached) (defScope s_pairs_reached) .none kV_pairs_reached dc_pairs_reached pm_pairs_reached an_pairs_reached cd_pairs_reached ct_pairs_reached), sl_pairs_reached⟩)
    (c_pairs_reached : PySem.W.codeIn K cd_pairs_reached "pairs_reached" = true)
    (h_pairs_reached : PySem.W.keepIn K (.ref f_pairs_reached) = true)
    (a_places_on_way : PySem.W.nsIn K mainGlobals "places_on_way" = some (some (.ref f_places_on_way)))
    (l_places_on_way : K.lookup f_places_on_way = some ⟨oc_places_on_way, od_places_on_way, .func (PySem.W.fnOf "places_on_way" "places_on_way" (defArgs s_places_on_way) (defBody s_places_on_way) (defScope s_places_on_way) .none kV_places_on_way dc_places_on_way pm_places_on_way an_places_on_way cd_places_on_way ct_places_on_way), sl_places_on_way⟩)
    (c_places_on_way : PySem.W.codeIn K cd_places_on_way "places_on_way" = true)
    (h_places_on_way : PySem.W.keepIn K (.ref f_places_on_way) = true)
    (a_Mixed___init__ : PySem.W.findIn K (.ref k_Mixed) "__init__" = some (some (.ref f_Mixed___init__)))
    (i_Mixed___init__ : PySem.W.isFn K (.ref f_Mixed___init__) = true)
    (l_Mixed___init__ : K.lookup f_Mixed___init__ = some ⟨oc_Mixed___init__, od_Mixed___init__, .func (PySem.W.fnOf "__init__" "Mixed.__init__" (defArgs s_Mixed___init__) (defBody s_Mixed___init__) (defScope s_Mixed___init__) .none kV_Mixed___init__ dc_Mixed___init__ pm_Mixed___init__ an_Mixed___init__ cd_Mixed___init__ ct_Mixed___init__), sl_Mixed___init__⟩)
    (c_Mixed___init__ : PySem.W.codeIn K cd_Mixed___init__ "Mixed.__init__" = true)
    (h_Mixed___init__ : PySem.W.keepIn K (.ref f_Mixed___init__) = true)
    (a_Unmixed___init__ : PySem.W.findIn K (.ref k_Unmixed) "__init__" = some (some (.ref f_Unmixed___init__)))
    (i_Unmixed___init__ : PySem.W.isFn K (.ref f_Unmixed___init__) = true)
    (l_Unmixed___init__ : K.lookup f_Unmixed___init__ = some ⟨oc_Unmixed___init__, od_Unmixed___init__, .func (PySem.W.fnOf "__init__" "Unmixed.__init__" (defArgs s_Unmixed___init__) (defBody s_Unmixed___init__) (defScope s_Unmixed___init__) .none kV_Unmixed___init__ dc_Unmixed___init__ pm_Unmixed___init__ an_Unmixed___init__ cd_Unmixed___init__ ct_Unmixed___init__), sl_Unmixed___init__⟩)
    (c_Unmixed___init__ : PySem.W.codeIn K cd_Unmixed___init__ "Unmixed.__init__" = true)
    (h_Unmixed___init__ : PySem.W.keepIn K (.ref f_Unmixed___init__) = true)
    (a_Mixed_shows : PySem.W.findIn K (.ref k_Mixed) "shows" = some (some (.ref f_Mixed_shows)))
    (i_Mixed_shows : PySem.W.isFn K (.ref f_Mixed_shows) = true)
    (l_Mixed_shows : K.lookup f_Mixed_shows = some ⟨oc_Mixed_shows, od_Mixed_shows, .func (PySem.W.fnOf "shows" "Mixed.shows" (defArgs s_Mixed_shows) (defBody s_Mixed_shows) (defScope s_Mixed_shows) .none kV_Mixed_shows dc_Mixed_shows pm_Mixed_shows an_Mixed_shows cd_Mixed_shows ct_Mixed_shows), sl_Mixed_shows⟩)
    (c_Mixed_shows : PySem.W.codeIn K cd_Mixed_shows "Mixed.shows" = true)
    (h_Mixed_shows : PySem.W.keepIn K (.ref f_Mixed_shows) = true)
    (a_Unmixed_shows : PySem.W.findIn K (.ref k_Unmixed) "shows" = some (some (.ref f_Unmixed_shows)))
    (i_Unmixed_shows : PySem.W.isFn K (.ref f_Unmixed_shows) = true)
    (l_Unmixed_shows : K.lookup f_Unmixed_shows = some ⟨oc_Unmixed_shows, od_Unmixed_shows, .func (PySem.W.fnOf "shows" "Unmixed.shows" (defArgs s_Unmixed_shows) (defBody s_Unmixed_shows) (defScope s_Unmixed_shows) .none kV_Unmixed_shows dc_Unmixed_shows pm_Unmixed_shows an_Unmixed_shows cd_Unmixed_shows ct_Unmixed_shows), sl_Unmixed_shows⟩)
    (c_Unmixed_shows : PySem.W.codeIn K cd_Unmixed_shows "Unmixed.shows" = true)
    (h_Unmixed_shows : PySem.W.keepIn K (.ref f_Unmixed_shows) = true)
    (a_mixed : PySem.W.nsIn K mainGlobals "mixed" = some (some (.ref f_mixed)))
    (l_mixed : K.lookup f_mixed = some ⟨oc_mixed, od_mixed, .func (PySem.W.fnOf "mixed" "mixed" (defArgs s_mixed) (defBody s_mixed) (defScope s_mixed) .none kV_mixed dc_mixed pm_mixed an_mixed cd_mixed ct_mixed), sl_mixed⟩)
    (c_mixed : PySem.W.codeIn K cd_mixed "mixed" = true)
    (h_mixed : PySem.W.keepIn K (.ref f_mixed) = true)
    (a__law_row : PySem.W.nsIn K mainGlobals "_law_row" = some (some (.ref f__law_row)))
    (l__law_row : K.lookup f__law_row = some ⟨oc__law_row, od__law_row, .func (PySem.W.fnOf "_law_row" "_law_row" (defArgs s__law_row) (defBody s__law_row) (defScope s__law_row) .none kV__law_row dc__law_row pm__law_row an__law_row cd__law_row ct__law_row), sl__law_row⟩)
    (c__law_row : PySem.W.codeIn K cd__law_row "_law_row" = true)
    (h__law_row : PySem.W.keepIn K (.ref f__law_row) = true)
    (a__law_numbers : PySem.W.nsIn K mainGlobals "_law_numbers" = some (some (.ref f__law_numbers)))
    (l__law_numbers : K.lookup f__law_numbers = some ⟨oc__law_numbers, od__law_numbers, .func (PySem.W.fnOf "_law_numbers" "_law_numbers" (defArgs s__law_numbers) (defBody s__law_numbers) (defScope s__law_numbers) .none kV__law_numbers dc__law_numbers pm__law_numbers an__law_numbers cd__law_numbers ct__law_numbers), sl__law_numbers⟩)
    (c__law_numbers : PySem.W.codeIn K cd__law_numbers "_law_numbers" = true)
    (h__law_numbers : PySem.W.keepIn K (.ref f__law_numbers) = true)
    (a__law_stands : PySem.W.nsIn K mainGlobals "_law_stands" = some (some (.ref f__law_stands)))
    (l__law_stands : K.lookup f__law_stands = some ⟨oc__law_stands, od__law_stands, .func (PySem.W.fnOf "_law_stands" "_law_stands" (defArgs s__law_stands) (defBody s__law_stands) (defScope s__law_stands) .none kV__law_stands dc__law_stands pm__law_stands an__law_stands cd__law_stands ct__law_stands), sl__law_stands⟩)
    (c__law_stands : PySem.W.codeIn K cd__law_stands "_law_stands" = true)
    (h__law_stands : PySem.W.keepIn K (.ref f__law_stands) = true)
    (a__law_is_mixed : PySem.W.nsIn K mainGlobals "_law_is_mixed" = some (some (.ref f__law_is_mixed)))
    (l__law_is_mixed : K.lookup f__law_is_mixed = some ⟨oc__law_is_mixed, od__law_is_mixed, .func (PySem.W.fnOf "_law_is_mixed" "_law_is_mixed" (defArgs s__law_is_mixed) (defBody s__law_is_mixed) (defScope s__law_is_mixed) .none kV__law_is_mixed dc__law_is_mixed pm__law_is_mixed an__law_is_mixed cd__law_is_mixed ct__law_is_mixed), sl__law_is_mixed⟩)
    (c__law_is_mixed : PySem.W.codeIn K cd__law_is_mixed "_law_is_mixed" = true)
    (h__law_is_mixed : PySem.W.keepIn K (.ref f__law_is_mixed) = true)
    (a__law_unmixed : PySem.W.nsIn K mainGlobals "_law_unmixed" = some (some (.ref f__law_unmixed)))
    (l__law_unmixed : K.lookup f__law_unmixed = some ⟨oc__law_unmixed, od__law_unmixed, .func (PySem.W.fnOf "_law_unmixed" "_law_unmixed" (defArgs s__law_unmixed) (defBody s__law_unmixed) (defScope s__law_unmixed) .none kV__law_unmixed dc__law_unmixed pm__law_unmixed an__law_unmixed cd__law_unmixed ct__law_unmixed), sl__law_unmixed⟩)
    (c__law_unmixed : PySem.W.codeIn K cd__law_unmixed "_law_unmixed" = true)
    (h__law_unmixed : PySem.W.keepIn K (.ref f__law_unmixed) = true)
    (a__law_due : PySem.W.nsIn K mainGlobals "_law_due" = some (some (.ref f__law_due)))
    (l__law_due : K.lookup f__law_due = some ⟨oc__law_due, od__law_due, .func (PySem.W.fnOf "_law_due" "_law_due" (defArgs s__law_due) (defBody s__law_due) (defScope s__law_due) .none kV__law_due dc__law_due pm__law_due an__law_due cd__law_due ct__law_due), sl__law_due⟩)
    (c__law_due : PySem.W.codeIn K cd__law_due "_law_due" = true)
    (h__law_due : PySem.W.keepIn K (.ref f__law_due) = true)
    (a__law_right : PySem.W.nsIn K mainGlobals "_law_right" = some (some (.ref f__law_right)))
    (l__law_right : K.lookup f__law_right = some ⟨oc__law_right, od__law_right, .func (PySem.W.fnOf "_law_right" "_law_right" (defArgs s__law_right) (defBody s__law_right) (defScope s__law_right) .none kV__law_right dc__law_right pm__law_right an__law_right cd__law_right ct__law_right), sl__law_right⟩)
    (c__law_right : PySem.W.codeIn K cd__law_right "_law_right" = true)
    (h__law_right : PySem.W.keepIn K (.ref f__law_right) = true)
    (a_law : PySem.W.nsIn K mainGlobals "law" = some (some (.ref f_law)))
    (l_law : K.lookup f_law = some ⟨oc_law, od_law, .func (PySem.W.fnOf "law" "law" (defArgs s_law) (defBody s_law) (defScope s_law) .none kV_law dc_law pm_law an_law cd_law ct_law), sl_law⟩)
    (c_law : PySem.W.codeIn K cd_law "law" = true)
    (h_law : PySem.W.keepIn K (.ref f_law) = true)
    (z_len : PySem.W.nsIn K mainGlobals "len" = some none)
    (z_zip : PySem.W.nsIn K mainGlobals "zip" = some none)
    (z_enumerate : PySem.W.nsIn K mainGlobals "enumerate" = some none)
    (z_range : PySem.W.nsIn K mainGlobals "range" = some none)
    (z_list : PySem.W.nsIn K mainGlobals "list" = some none)
    (z_int : PySem.W.nsIn K mainGlobals "int" = some none)
    (z_bool : PySem.W.nsIn K mainGlobals "bool" = some none)
    (z_tuple : PySem.W.nsIn K mainGlobals "tuple" = some none)
    (z_set : PySem.W.nsIn K mainGlobals "set" = some none)
    (z_all : PySem.W.nsIn K mainGlobals "all" = some none)
    (z_any : PySem.W.nsIn K mainGlobals "any" = some none)
    (z_sum : PySem.W.nsIn K mainGlobals "sum" = some none)
    (z_min : PySem.W.nsIn K mainGlobals "min" = some none)
    (z_max : PySem.W.nsIn K mainGlobals "max" = some none)
    (z_sorted : PySem.W.nsIn K mainGlobals "sorted" = some none)
    (z_isinstance : PySem.W.nsIn K mainGlobals "isinstance" = some none)
    (z_dict : PySem.W.nsIn K mainGlobals "dict" = some none)
    : ∃ fd : FuncData, (∀ (s : Shared) (v : Value), BindsTo s fd ⟨[v], []⟩ [(P_law.headD "", v)]) ∧ ∀ base : Heap, K.In base → base.Ns mainGlobals mg → FnOk l.prog w K mg base CX0 10 fa fd P_law (sp_law K) := by
  have e := hfa.symm.trans (PySem.W.mg_of X G a_law)
  cases e
  have T : Blt mg := ⟨PySem.W.mg_none_of X G z_len, PySem.W.mg_none_of X G z_zip, PySem.W.mg_none_of X G z_enumerate, PySem.W.mg_none_of X G z_range, PySem.W.mg_none_of X G z_list, PySem.W.mg_none_of X G z_int, PySem.W.mg_none_of X G z_bool, PySem.W.mg_none_of X G z_tuple, PySem.W.mg_none_of X G z_set, PySem.W.mg_none_of X G z_all, PySem.W.mg_none_of X G z_any, PySem.W.mg_none_of X G z_sum, PySem.W.mg_none_of X G z_min, PySem.W.mg_none_of X G z_max, PySem.W.mg_none_of X G z_sorted, PySem.W.mg_none_of X G z_isinstance, PySem.W.mg_none_of X G z_dict⟩
  have g_LeftError : mg "LeftError" = some (.ref k_LeftError) := PySem.W.mg_of X G aC_LeftError
  have g_BadRow : mg "BadRow" = some (.ref k_BadRow) := PySem.W.mg_of X G aC_BadRow
  have g_BadMany : mg "BadMany" = some (.ref k_BadMany) := PySem.W.mg_of X G aC_BadMany
  have g_Answer : mg "Answer" = some (.ref k_Answer) := PySem.W.mg_of X G aC_Answer
  have g_Left : mg "Left" = some (.ref k_Left) := PySem.W.mg_of X G aC_Left
  have g_Short : mg "Short" = some (.ref k_Short) := PySem.W.mg_of X G aC_Short
  have g_Longest : mg "Longest" = some (.ref k_Longest) := PySem.W.mg_of X G aC_Longest
  have g_Both : mg "Both" = some (.ref k_Both) := PySem.W.mg_of X G aC_Both
  have g_Missing : mg "Missing" = some (.ref k_Missing) := PySem.W.mg_of X G aC_Missing
  have g_Mixed : mg "Mixed" = some (.ref k_Mixed) := PySem.W.mg_of X G aC_Mixed
  have g_Unmixed : mg "Unmixed" = some (.ref k_Unmixed) := PySem.W.mg_of X G aC_Unmixed
  have I_Mixed : Ins K k_Mixed := ⟨⟨pg_Mixed, hd_Mixed, po_Mixed, sa_Mixed⟩, u_Mixed, sn, st, v_Mixed⟩
  have I_Unmixed : Ins K k_Unmixed := ⟨⟨pg_Unmixed, hd_Unmixed, po_Unmixed, sa_Unmixed⟩, u_Unmixed, sn, st, v_Unmixed⟩
  have F_is_whole := fun_mk (st := s_is_whole) l_is_whole c_is_whole h_is_whole
  have b_is_whole := F_is_whole.binds (ps := P_is_whole) fun _ _ _ _ _ _ us hl => match us, hl with | [_], _ => rfl
  have C_is_whole : Cal K mg "is_whole" f_is_whole _ P_is_whole := ⟨PySem.W.mg_of X G a_is_whole, h_is_whole, b_is_whole⟩
  have F_is_count := fun_mk (st := s_is_count) l_is_count c_is_count h_is_count
  have b_is_count := F_is_count.binds (ps := P_is_count) fun _ _ _ _ _ _ us hl => match us, hl with | [_, _], _ => rfl
  have C_is_count : Cal K mg "is_count" f_is_count _ P_is_count := ⟨PySem.W.mg_of X G a_is_count, h_is_count, b_is_count⟩
  have F_is_row := fun_mk (st := s_is_row) l_is_row c_is_row h_is_row
  have b_is_row := F_is_row.binds (ps := P_is_row) fun _ _ _ _ _ _ us hl => match us, hl with | [_], _ => rfl
  have C_is_row : Cal K mg "is_row" f_is_row _ P_is_row := ⟨PySem.W.mg_of X G a_is_row, h_is_row, b_is_row⟩
  have F_checked_row := fun_mk (st := s_checked_row) l_checked_row c_checked_row h_checked_row
  have b_checked_row := F_checked_row.binds (ps := P_checked_row) fun _ _ _ _ _ _ us hl => match us, hl with | [_], _ => rfl
  have C_checked_row : Cal K mg "checked_row" f_checked_row _ P_checked_row := ⟨PySem.W.mg_of X G a_checked_row, h_checked_row, b_checked_row⟩
  have F_are_places := fun_mk (st := s_are_places) l_are_places c_are_places h_are_places
  have b_are_places := F_are_places.binds (ps := P_are_places) fun _ _ _ _ _ _ us hl => match us, hl with | [_, _], _ => rfl
  have C_are_places : Cal K mg "are_places" f_are_places _ P_are_places := ⟨PySem.W.mg_of X G a_are_places, h_are_places, b_are_places⟩
  have F_signs_at := fun_mk (st := s_signs_at) l_signs_at c_signs_at h_signs_at
  have b_signs_at := F_signs_at.binds (ps := P_signs_at) fun _ _ _ _ _ _ us hl => match us, hl with | [_, _], _ => rfl
  have C_signs_at : Cal K mg "signs_at" f_signs_at _ P_signs_at := ⟨PySem.W.mg_of X G a_signs_at, h_signs_at, b_signs_at⟩
  have F_stands_at := fun_mk (st := s_stands_at) l_stands_at c_stands_at h_stands_at
  have b_stands_at := F_stands_at.binds (ps := P_stands_at) fun _ _ _ _ _ _ us hl => match us, hl with | [_, _, _], _ => rfl
  have C_stands_at : Cal K mg "stands_at" f_stands_at _ P_stands_at := ⟨PySem.W.mg_of X G a_stands_at, h_stands_at, b_stands_at⟩
  have F_are_counts := fun_mk (st := s_are_counts) l_are_counts c_are_counts h_are_counts
  have b_are_counts := F_are_counts.binds (ps := P_are_counts) fun _ _ _ _ _ _ us hl => match us, hl with | [_, _, _], _ => rfl
  have C_are_counts : Cal K mg "are_counts" f_are_counts _ P_are_counts := ⟨PySem.W.mg_of X G a_are_counts, h_are_counts, b_are_counts⟩
  have F_pairs_after := fun_mk (st := s_pairs_after) l_pairs_after c_pairs_after h_pairs_after
  have b_pairs_after := F_pairs_after.binds (ps := P_pairs_after) fun _ _ _ _ _ _ us hl => match us, hl with | [_, _, _, _], _ => rfl
  have C_pairs_after : Cal K mg "pairs_after" f_pairs_after _ P_pairs_after := ⟨PySem.W.mg_of X G a_pairs_after, h_pairs_after, b_pairs_after⟩
  have F_is_followed := fun_mk (st := s_is_followed) l_is_followed c_is_followed h_is_followed
  have b_is_followed := F_is_followed.binds (ps := P_is_followed) fun _ _ _ _ _ _ us hl => match us, hl with | [_, _, _, _, _], _ => rfl
  have C_is_followed : Cal K mg "is_followed" f_is_followed _ P_is_followed := ⟨PySem.W.mg_of X G a_is_followed, h_is_followed, b_is_followed⟩
  have F_pairs_reached := fun_mk (st := s_pairs_reached) l_pairs_reached c_pairs_reached h_pairs_reached
  have b_pairs_reached := F_pairs_reached.binds (ps := P_pairs_reached) fun _ _ _ _ _ _ us hl => match us, hl with | [_, _, _], _ => rfl
  have C_pairs_reached : Cal K mg "pairs_reached" f_pairs_reached _ P_pairs_reached := ⟨PySem.W.mg_of X G a_pairs_reached, h_pairs_reached, b_pairs_reached⟩
  have F_places_on_way := fun_mk (st := s_places_on_way) l_places_on_way c_places_on_way h_places_on_way
  have b_places_on_way := F_places_on_way.binds (ps := P_places_on_way) fun _ _ _ _ _ _ us hl => match us, hl with | [_, _], _ => rfl
  have C_places_on_way : Cal K mg "places_on_way" f_places_on_way _ P_places_on_way := ⟨PySem.W.mg_of X G a_places_on_way, h_places_on_way, b_places_on_way⟩
  have F_Mixed___init__ := fun_mk (st := s_Mixed___init__) l_Mixed___init__ c_Mixed___init__ h_Mixed___init__
  have b_Mixed___init__ := F_Mixed___init__.binds (ps := P_Mixed___init__) fun _ _ _ _ _ _ us hl => match us, hl with | [_, _], _ => rfl
  have M_Mixed : Mak K mg "Mixed" k_Mixed f_Mixed___init__ _ P_Mixed___init__ := ⟨g_Mixed, ⟨mkk_Mixed, a_Mixed___init__, i_Mixed___init__, kc_Mixed⟩, I_Mixed.cl, b_Mixed___init__⟩
  have F_Unmixed___init__ := fun_mk (st := s_Unmixed___init__) l_Unmixed___init__ c_Unmixed___init__ h_Unmixed___init__
  have b_Unmixed___init__ := F_Unmixed___init__.binds (ps := P_Unmixed___init__) fun _ _ _ _ _ _ us hl => match us, hl with | [_, _], _ => rfl
  have M_Unmixed : Mak K mg "Unmixed" k_Unmixed f_Unmixed___init__ _ P_Unmixed___init__ := ⟨g_Unmixed, ⟨mkk_Unmixed, a_Unmixed___init__, i_Unmixed___init__, kc_Unmixed⟩, I_Unmixed.cl, b_Unmixed___init__⟩
  have F_Mixed_shows := fun_mk (st := s_Mixed_shows) l_Mixed_shows c_Mixed_shows h_Mixed_shows
  have b_Mixed_shows := F_Mixed_shows.binds (ps := P_Mixed_shows) fun _ _ _ _ _ _ us hl => match us, hl with | [_, _, _, _], _ => rfl
  have D_Mixed_shows : Met K k_Mixed "shows" f_Mixed_shows _ P_Mixed_shows := ⟨⟨a_Mixed_shows, i_Mixed_shows, h_Mixed_shows⟩, b_Mixed_shows⟩
  have F_Unmixed_shows := fun_mk (st := s_Unmixed_shows) l_Unmixed_shows c_Unmixed_shows h_Unmixed_shows
  have b_Unmixed_shows := F_Unmixed_shows.binds (ps := P_Unmixed_shows) fun _ _ _ _ _ _ us hl => match us, hl with | [_, _, _, _], _ => rfl
  have D_Unmixed_shows : Met K k_Unmixed "shows" f_Unmixed_shows _ P_Unmixed_shows := ⟨⟨a_Unmixed_shows, i_Unmixed_shows, h_Unmixed_shows⟩, b_Unmixed_shows⟩
  have F_mixed := fun_mk (st := s_mixed) l_mixed c_mixed h_mixed
  have b_mixed := F_mixed.binds (ps := P_mixed) fun _ _ _ _ _ _ us hl => match us, hl with | [_, _, _], _ => rfl
  have C_mixed : Cal K mg "mixed" f_mixed _ P_mixed := ⟨PySem.W.mg_of X G a_mixed, h_mixed, b_mixed⟩
  have F__law_row := fun_mk (st := s__law_row) l__law_row c__law_row h__law_row
  have b__law_row := F__law_row.binds (ps := P__law_row) fun _ _ _ _ _ _ us hl => match us, hl with | [_, _], _ => rfl
  have C__law_row : Cal K mg "_law_row" f__law_row _ P__law_row := ⟨PySem.W.mg_of X G a__law_row, h__law_row, b__law_row⟩
  have F__law_numbers := fun_mk (st := s__law_numbers) l__law_numbers c__law_numbers h__law_numbers
  have b__law_numbers := F__law_numbers.binds (ps := P__law_numbers) fun _ _ _ _ _ _ us hl => match us, hl with | [_], _ => rfl
  have C__law_numbers : Cal K mg "_law_numbers" f__law_numbers _ P__law_numbers := ⟨PySem.W.mg_of X G a__law_numbers, h__law_numbers, b__law_numbers⟩
  have F__law_stands := fun_mk (st := s__law_stands) l__law_stands c__law_stands h__law_stands
  have b__law_stands := F__law_stands.binds (ps := P__law_stands) fun _ _ _ _ _ _ us hl => match us, hl with | [_, _, _], _ => rfl
  have C__law_stands : Cal K mg "_law_stands" f__law_stands _ P__law_stands := ⟨PySem.W.mg_of X G a__law_stands, h__law_stands, b__law_stands⟩
  have F__law_is_mixed := fun_mk (st := s__law_is_mixed) l__law_is_mixed c__law_is_mixed h__law_is_mixed
  have b__law_is_mixed := F__law_is_mixed.binds (ps := P__law_is_mixed) fun _ _ _ _ _ _ us hl => match us, hl with | [_, _, _, _], _ => rfl
  have C__law_is_mixed : Cal K mg "_law_is_mixed" f__law_is_mixed _ P__law_is_mixed := ⟨PySem.W.mg_of X G a__law_is_mixed, h__law_is_mixed, b__law_is_mixed⟩
  have F__law_unmixed := fun_mk (st := s__law_unmixed) l__law_unmixed c__law_unmixed h__law_unmixed
  have b__law_unmixed := F__law_unmixed.binds (ps := P__law_unmixed) fun _ _ _ _ _ _ us hl => match us, hl with | [_, _, _, _], _ => rfl
  have C__law_unmixed : Cal K mg "_law_unmixed" f__law_unmixed _ P__law_unmixed := ⟨PySem.W.mg_of X G a__law_unmixed, h__law_unmixed, b__law_unmixed⟩
  have F__law_due := fun_mk (st := s__law_due) l__law_due c__law_due h__law_due
  have b__law_due := F__law_due.binds (ps := P__law_due) fun _ _ _ _ _ _ us hl => match us, hl with | [_, _, _, _], _ => rfl
  have C__law_due : Cal K mg "_law_due" f__law_due _ P__law_due := ⟨PySem.W.mg_of X G a__law_due, h__law_due, b__law_due⟩
  have F__law_right := fun_mk (st := s__law_right) l__law_right c__law_right h__law_right
  have b__law_right := F__law_right.binds (ps := P__law_right) fun _ _ _ _ _ _ us hl => match us, hl with | [_, _, _, _], _ => rfl
  have C__law_right : Cal K mg "_law_right" f__law_right _ P__law_right := ⟨PySem.W.mg_of X G a__law_right, h__law_right, b__law_right⟩
  have F_law := fun_mk (st := s_law) l_law c_law h_law
  have b_law := F_law.binds (ps := P_law) fun _ _ _ _ _ _ us hl => match us, hl with | [_], _ => rfl
  refine ⟨PySem.W.fnOf "law" "law" (defArgs s_law) (defBody s_law) (defScope s_law) .none kV_law dc_law pm_law an_law cd_law ct_law, fun s v => .of_eq rfl, fun base _ _ => ?_⟩
  have G_is_whole := ok_is_whole (P := l.prog) (w := w) (base := base) (F := F_is_whole) (T := T)
  have G_is_count := ok_is_count (P := l.prog) (w := w) (base := base) (F := F_is_count) (T := T) (C_is_whole := C_is_whole) (G_is_whole := G_is_whole.mono (by decide))
  have G_is_row := ok_is_row (P := l.prog) (w := w) (base := base) (F := F_is_row) (T := T) (C_is_whole := C_is_whole) (G_is_whole := G_is_whole.mono (by decide))
  have G_checked_row := ok_checked_row (P := l.prog) (w := w) (base := base) (F := F_checked_row) (T := T) (C_is_row := C_is_row) (G_is_row := G_is_row.mono (by decide))
  have G_are_places := ok_are_places (P := l.prog) (w := w) (base := base) (F := F_are_places) (T := T) (C_is_row := C_is_row) (G_is_row := G_is_row.mono (by decide))
  have G_signs_at := ok_signs_at (P := l.prog) (w := w) (base := base) (F := F_signs_at) (T := T)
  have G_stands_at := ok_stands_at (P := l.prog) (w := w) (base := base) (F := F_stands_at) (T := T) (C_are_places := C_are_places) (G_are_places := G_are_places.mono (by decide)) (C_signs_at := C_signs_at) (G_signs_at := G_signs_at.mono (by decide))
  have G_are_counts := ok_are_counts (P := l.prog) (w := w) (base := base) (F := F_are_counts) (T := T) (C_is_count := C_is_count) (G_is_count := G_is_count.mono (by decide))
  have G_pairs_after := ok_pairs_after (P := l.prog) (w := w) (base := base) (F := F_pairs_after) (T := T)
  have G_is_followed := ok_is_followed (P := l.prog) (w := w) (base := base) (F := F_is_followed) (T := T) (C_pairs_after := C_pairs_after) (G_pairs_after := G_pairs_after.mono (by decide))
  have G_pairs_reached := ok_pairs_reached (P := l.prog) (w := w) (base := base) (F := F_pairs_reached) (T := T) (C_pairs_after := C_pairs_after) (G_pairs_after := G_pairs_after.mono (by decide))
  have G_places_on_way := ok_places_on_way (P := l.prog) (w := w) (base := base) (F := F_places_on_way) (T := T)
  have G_Mixed___init__ := ok_Mixed___init__ (P := l.prog) (w := w) (base := base) (F := F_Mixed___init__) (T := T) (I_Mixed := I_Mixed) (n_Mixed_places := n_Mixed_places)
  have G_Unmixed___init__ := ok_Unmixed___init__ (P := l.prog) (w := w) (base := base) (F := F_Unmixed___init__) (T := T) (I_Unmixed := I_Unmixed) (n_Unmixed_pairs := n_Unmixed_pairs)
  have G_Mixed_shows := ok_Mixed_shows (P := l.prog) (w := w) (base := base) (F := F_Mixed_shows) (T := T) (I_Mixed := I_Mixed) (n_Mixed_places := n_Mixed_places) (C_stands_at := C_stands_at) (G_stands_at := G_stands_at.mono (by decide))
  have G_Unmixed_shows := ok_Unmixed_shows (P := l.prog) (w := w) (base := base) (F := F_Unmixed_shows) (T := T) (I_Unmixed := I_Unmixed) (n_Unmixed_pairs := n_Unmixed_pairs) (C_are_counts := C_are_counts) (G_are_counts := G_are_counts.mono (by decide)) (C_is_followed := C_is_followed) (G_is_followed := G_is_followed.mono (by decide))
  have G_mixed := ok_mixed (P := l.prog) (w := w) (base := base) (F := F_mixed) (T := T) (C_checked_row := C_checked_row) (G_checked_row := G_checked_row.mono (by decide)) (C_pairs_reached := C_pairs_reached) (G_pairs_reached := G_pairs_reached.mono (by decide)) (C_places_on_way := C_places_on_way) (G_places_on_way := G_places_on_way.mono (by decide)) (M_Mixed := M_Mixed) (G_Mixed___init__ := G_Mixed___init__.mono (by decide)) (M_Unmixed := M_Unmixed) (G_Unmixed___init__ := G_Unmixed___init__.mono (by decide))
  have G__law_row := ok__law_row (P := l.prog) (w := w) (base := base) (F := F__law_row) (T := T)
  have G__law_numbers := ok__law_numbers (P := l.prog) (w := w) (base := base) (F := F__law_numbers) (T := T)
  have G__law_stands := ok__law_stands (P := l.prog) (w := w) (base := base) (F := F__law_stands) (T := T)
  have G__law_is_mixed := ok__law_is_mixed (P := l.prog) (w := w) (base := base) (F := F__law_is_mixed) (T := T) (C__law_stands := C__law_stands) (G__law_stands := G__law_stands.mono (by decide))
  have G__law_unmixed := ok__law_unmixed (P := l.prog) (w := w) (base := base) (F := F__law_unmixed) (T := T)
  have G__law_due := ok__law_due (P := l.prog) (w := w) (base := base) (F := F__law_due) (T := T) (C__law_is_mixed := C__law_is_mixed) (G__law_is_mixed := G__law_is_mixed.mono (by decide)) (C__law_unmixed := C__law_unmixed) (G__law_unmixed := G__law_unmixed.mono (by decide)) (g_Mixed := g_Mixed) (I_Mixed := I_Mixed) (I_Unmixed := I_Unmixed) (n_Mixed_places := n_Mixed_places) (n_Unmixed_pairs := n_Unmixed_pairs) (i_Mixed_Mixed := i_Mixed_Mixed) (i_Unmixed_Mixed := i_Unmixed_Mixed)
  have G__law_right := ok__law_right (P := l.prog) (w := w) (base := base) (F := F__law_right) (T := T) (C_mixed := C_mixed) (G_mixed := G_mixed.mono (by decide)) (C__law_numbers := C__law_numbers) (G__law_numbers := G__law_numbers.mono (by decide)) (C__law_due := C__law_due) (G__law_due := G__law_due.mono (by decide)) (D_Mixed_shows := D_Mixed_shows) (G_Mixed_shows := G_Mixed_shows.mono (by decide)) (D_Unmixed_shows := D_Unmixed_shows) (G_Unmixed_shows := G_Unmixed_shows.mono (by decide)) (g_Answer := g_Answer) (g_Left := g_Left) (g_Short := g_Short) (g_Both := g_Both) (g_Longest := g_Longest) (g_Missing := g_Missing) (g_Mixed := g_Mixed) (g_Unmixed := g_Unmixed) (I_Mixed := I_Mixed) (I_Unmixed := I_Unmixed) (n_Mixed_places := n_Mixed_places) (n_Unmixed_pairs := n_Unmixed_pairs) (i_Mixed_Answer := i_Mixed_Answer) (i_Mixed_Left := i_Mixed_Left) (i_Mixed_Short := i_Mixed_Short) (i_Mixed_Both := i_Mixed_Both) (i_Mixed_Longest := i_Mixed_Longest) (i_Mixed_Missing := i_Mixed_Missing) (i_Mixed_Mixed := i_Mixed_Mixed) (i_Mixed_Unmixed := i_Mixed_Unmixed) (i_Unmixed_Answer := i_Unmixed_Answer) (i_Unmixed_Left := i_Unmixed_Left) (i_Unmixed_Short := i_Unmixed_Short) (i_Unmixed_Both := i_Unmixed_Both) (i_Unmixed_Longest := i_Unmixed_Longest) (i_Unmixed_Missing := i_Unmixed_Missing) (i_Unmixed_Mixed := i_Unmixed_Mixed) (i_Unmixed_Unmixed := i_Unmixed_Unmixed)
  exact ok_law (P := l.prog) (w := w) (base := base) (F := F_law) (T := T) (C__law_row := C__law_row) (G__law_row := G__law_row.mono (by decide)) (C__law_right := C__law_right) (G__law_right := G__law_right.mono (by decide)) (C_mixed := C_mixed) (G_mixed := G_mixed.mono (by decide)) (g_Mixed := g_Mixed) (I_Mixed := I_Mixed) (I_Unmixed := I_Unmixed) (i_Mixed_Mixed := i_Mixed_Mixed) (i_Unmixed_Mixed := i_Unmixed_Mixed)
theorem walk {l : PySem.W.OpenLaw} {q : Program} {loose : List Str} {XP : (Str → Option Value) → Heap → Prop} {YP : World → Heap → Prop} {d : DefRec} {K : Params → PySem.W.Frag} (hn : l.most = some 63) (hdf : d.params.defaults = [])
    (hY : ∀ (w : World) (h : Heap), YP w h → (K w.params).In h)
    (F : ∀ (w : World) (mg : Str → Option Value) (fa : Addr) (h : Heap), (K w.params).In h → h.Ns mainGlobals mg → mg d.name = some (.ref fa) →
      ∃ fd : FuncData, (∀ (s : Shared) (u : Value), BindsTo s fd ⟨[u], []⟩ [(P_law.headD "", u)]) ∧ ∀ base : Heap, (K w.params).In base → base.Ns mainGlobals mg → FnOk l.prog w (K w.params) mg base CX0 10 fa fd P_law (sp_law (K w.params))) :
    PySem.W.WalkO q loose XP YP l.row.toRowW d [] (fun f vs => PySem.call f vs) :=
  L2.walk_of (n := 63) (k := 10) (x := P_law.headD "") (CX := fun _ => CX0) (sp := fun w => sp_law (K w.params)) hn (by decide) hdf ⟨rfl, by decide, by decide⟩ hY F (fun _ _ a ns hl _ hS => ⟨a, ns, rfl, hS, hl, fun _ => rfl⟩) fun _ _ _ _ _ z => z
end My
theorem PySem.W.Fast.tw5160221121723324492 : True := trivial
theorem PySem.W.Fast.tw3988588511300239058 : True := trivial
theorem PySem.W.Fast.tw13353440647506190799 : True := trivial
theorem PySem.W.Fast.tw906823874465479430 : True := trivial
theorem PySem.W.Fast.tw17128055302309966707 : True := trivial
theorem PySem.W.Fast.tw3717060415609279309 : True := trivial
theorem PySem.W.Fast.tw10319251666854508921 : True := trivial
theorem PySem.W.Fast.tw8410055657420476965 : True := trivial
theorem PySem.W.Fast.tw12526745309263651336 : True := trivial
theorem PySem.W.Fast.tw4142141426855932218 : True := trivial
theorem PySem.W.Fast.tw5250767090026827543 : True := trivial
theorem PySem.W.Fast.tw12301932245828386849 : True := trivial
theorem PySem.W.Fast.tw4307226757834833741 : True := trivial
theorem PySem.W.Fast.tw6346811578226670054 : True := trivial
open PySem PySem.W PyProof.Rows
set_option maxRecDepth 100000 in
set_option maxHeartbeats 0 in
theorem PySem.Challenge.cw_leftin_k05_whole_mixed_holds : PySem.Challenge.rw_leftin_k05_whole_mixed.Holds := by
  w_on; o_law; k_head; (case hw => w_witness2)
  k_fill
  refine My.walk (l := PySem.Challenge.rw_leftin_k05_whole_mixed) rfl rfl (fun w h Y => PySem.W.kIn_of Y) ?F
  case F =>
    intro w mg fa h KX G hmg
    refine' My.all_mk KX G hmg ?aC_LeftError ?aC_BadRow ?aC_BadMany ?aC_Answer ?aC_Left ?aC_Short ?aC_Longest ?aC_Both ?aC_Missing ?aC_Mixed ?aC_Unmixed ?sn ?st ?u_Mixed ?v_Mixed ?pg_Mixed ?hd_Mixed ?po_Mixed ?sa_Mixed ?mkk_Mixed ?kc_Mixed ?n_Mixed_places ?u_Unmixed ?v_Unmixed ?pg_Unmixed ?hd_Unmixed ?po_Unmixed ?sa_Unmixed ?mkk_Unmixed ?kc_Unmixed ?n_Unmixed_pairs ?i_Mixed_Answer ?i_Mixed_Left ?i_Mixed_Short ?i_Mixed_Longest ?i_Mixed_Both ?i_Mixed_Missing ?i_Mixed_Mixed ?i_Mixed_Unmixed ?i_Unmixed_Answer ?i_Unmixed_Left ?i_Unmixed_Short ?i_Unmixed_Longest ?i_Unmixed_Both ?i_Unmixed_Missing ?i_Unmixed_Mixed ?i_Unmixed_Unmixed ?a_is_whole ?l_is_whole ?c_is_whole ?h_is_whole ?a_is_count ?l_is_count ?c_is_count ?h_is_count ?a_is_row ?l_is_row ?c_is_row ?h_is_row ?a_checked_row ?l_checked_row ?c_checked_row ?h_checked_row ?a_are_places ?l_are_places ?c_are_places ?h_are_places ?a_signs_at ?l_signs_at ?c_signs_at ?h_signs_at ?a_stands_at ?l_stands_at ?c_stands_at ?h_stands_at ?a_are_counts ?l_are_counts ?c_are_counts ?h_are_counts ?a_pairs_after ?l_pairs_after ?c_pairs_after ?h_pairs_after ?a_is_followed ?l_is_followed ?c_is_followed ?h_is_followed ?a_pairs_reached ?l_pairs_reached ?c_pairs_reached ?h_pairs_reached ?a_places_on_way ?l_places_on_way ?c_places_on_way ?h_places_on_way ?a_Mixed___init__ ?i_Mixed___init__ ?l_Mixed___init__ ?c_Mixed___init__ ?h_Mixed___init__ ?a_Unmixed___init__ ?i_Unmixed___init__ ?l_Unmixed___init__ ?c_Unmixed___init__ ?h_Unmixed___init__ ?a_Mixed_shows ?i_Mixed_shows ?l_Mixed_shows ?c_Mixed_shows ?h_Mixed_shows ?a_Unmixed_shows ?i_Unmixed_shows ?l_Unmixed_shows ?c_Unmixed_shows ?h_Unmixed_shows ?a_mixed ?l_mixed ?c_mixed ?h_mixed ?a__law_row ?l__law_row ?c__law_row ?h__law_row ?a__law_numbers ?l__law_numbers ?c__law_numbers ?h__law_numbers ?a__law_stands ?l__law_stands ?c__law_stands ?h__law_stands ?a__law_is_mixed ?l__law_is_mixed ?c__law_is_mixed ?h__law_is_mixed ?a__law_unmixed ?l__law_unmixed ?c__law_unmixed ?h__law_unmixed ?a__law_due ?l__law_due ?c__law_due ?h__law_due ?a__law_right ?l__law_right ?c__law_right ?h__law_right ?a_law ?l_law ?c_law ?h_law ?z_len ?z_zip ?z_enumerate ?z_range ?z_list ?z_int ?z_bool ?z_tuple ?z_set ?z_all ?z_any ?z_sum ?z_min ?z_max ?z_sorted ?z_isinstance ?z_dict
    (case aC_LeftError => k_is)
    (case aC_BadRow => k_is)
    (case aC_BadMany => k_is)
    (case aC_Answer => k_is)
    (case aC_Left => k_is)
    (case aC_Short => k_is)
    (case aC_Longest => k_is)
    (case aC_Both => k_is)
    (case aC_Missing => k_is)
    (case aC_Mixed => k_is)
    (case aC_Unmixed => k_is)
    (case sn => k_is)
    (case st => k_is)
    (case u_Mixed => k_is)
    (case v_Mixed => k_is)
    (case pg_Mixed => k_is)
    (case hd_Mixed => k_is)
    (case po_Mixed => k_is)
    (case sa_Mixed => k_is)
    (case mkk_Mixed => k_is)
    (case kc_Mixed => k_is)
    (case n_Mixed_places => k_is)
    (case u_Unmixed => k_is)
    (case v_Unmixed => k_is)
    (case pg_Unmixed => k_is)
    (case hd_Unmixed => k_is)
    (case po_Unmixed => k_is)
    (case sa_Unmixed => k_is)
    (case mkk_Unmixed => k_is)
    (case kc_Unmixed => k_is)
    (case n_Unmixed_pairs => k_is)
    (case i_Mixed_Answer => kit_is)
    (case i_Mixed_Left => kit_is)
    (case i_Mixed_Short => kit_is)
    (case i_Mixed_Longest => kit_is)
    (case i_Mixed_Both => kit_is)
    (case i_Mixed_Missing => kit_is)
    (case i_Mixed_Mixed => kit_is)
    (case i_Mixed_Unmixed => kit_is)
    (case i_Unmixed_Answer => kit_is)
    (case i_Unmixed_Left => kit_is)
    (case i_Unmixed_Short => kit_is)
    (case i_Unmixed_Longest => kit_is)
    (case i_Unmixed_Both => kit_is)
    (case i_Unmixed_Missing => kit_is)
    (case i_Unmixed_Mixed => kit_is)
    (case i_Unmixed_Unmixed => kit_is)
    (case a_is_whole => k_is)
    (case l_is_whole => k_is)
    (case c_is_whole => k_is)
    (case h_is_whole => k_is)
    (case a_is_count => k_is)
    (case l_is_count => k_is)
    (case c_is_count => k_is)
    (case h_is_count => k_is)
    (case a_is_row => k_is)
    (case l_is_row => k_is)
    (case c_is_row => k_is)
    (case h_is_row => k_is)
    (case a_checked_row => k_is)
    (case l_checked_row => k_is)
    (case c_checked_row => k_is)
    (case h_checked_row => k_is)
    (case a_are_places => k_is)
    (case l_are_places => k_is)
    (case c_are_places => k_is)
    (case h_are_places => k_is)
    (case a_signs_at => k_is)
    (case l_signs_at => k_is)
    (case c_signs_at => k_is)
    (case h_signs_at => k_is)
    (case a_stands_at => k_is)
    (case l_stands_at => k_is)
    (case c_stands_at => k_is)
    (case h_stands_at => k_is)
    (case a_are_counts => k_is)
    (case l_are_counts => k_is)
    (case c_are_counts => k_is)
    (case h_are_counts => k_is)
    (case a_pairs_after => k_is)
    (case l_pairs_after => k_is)
    (case c_pairs_after => k_is)
    (case h_pairs_after => k_is)
    (case a_is_followed => k_is)
    (case l_is_followed => k_is)
    (case c_is_followed => k_is)
    (case h_is_followed => k_is)
    (case a_pairs_reached => k_is)
    (case l_pairs_reached => k_is)
    (case c_pairs_reached => k_is)
    (case h_pairs_reached => k_is)
    (case a_places_on_way => k_is)
    (case l_places_on_way => k_is)
    (case c_places_on_way => k_is)
    (case h_places_on_way => k_is)
    (case a_Mixed___init__ => k_is)
    (case i_Mixed___init__ => k_is)
    (case l_Mixed___init__ => k_is)
    (case c_Mixed___init__ => k_is)
    (case h_Mixed___init__ => k_is)
    (case a_Unmixed___init__ => k_is)
    (case i_Unmixed___init__ => k_is)
    (case l_Unmixed___init__ => k_is)
    (case c_Unmixed___init__ => k_is)
    (case h_Unmixed___init__ => k_is)
    (case a_Mixed_shows => k_is)
    (case i_Mixed_shows => k_is)
    (case l_Mixed_shows => k_is)
    (case c_Mixed_shows => k_is)
    (case h_Mixed_shows => k_is)
    (case a_Unmixed_shows => k_is)
    (case i_Unmixed_shows => k_is)
    (case l_Unmixed_shows => k_is)
    (case c_Unmixed_shows => k_is)
    (case h_Unmixed_shows => k_is)
    (case a_mixed => k_is)
    (case l_mixed => k_is)
    (case c_mixed => k_is)
    (case h_mixed => k_is)
    (case a__law_row => k_is)
    (case l__law_row => k_is)
    (case c__law_row => k_is)
    (case h__law_row => k_is)
    (case a__law_numbers => k_is)
    (case l__law_numbers => k_is)
    (case c__law_numbers => k_is)
    (case h__law_numbers => k_is)
    (case a__law_stands => k_is)
    (case l__law_stands => k_is)
    (case c__law_stands => k_is)
    (case h__law_stands => k_is)
    (case a__law_is_mixed => k_is)
    (case l__law_is_mixed => k_is)
    (case c__law_is_mixed => k_is)
    (case h__law_is_mixed => k_is)
    (case a__law_unmixed => k_is)
    (case l__law_unmixed => k_is)
    (case c__law_unmixed => k_is)
    (case h__law_unmixed => k_is)
    (case a__law_due => k_is)
    (case l__law_due => k_is)
    (case c__law_due => k_is)
    (case h__law_due => k_is)
    (case a__law_right => k_is)
    (case l__law_right => k_is)
    (case c__law_right => k_is)
    (case h__law_right => k_is)
    (case a_law => k_is)
    (case l_law => k_is)
    (case c_law => k_is)
    (case h_law => k_is)
    (case z_len => k_is)
    (case z_zip => k_is)
    (case z_enumerate => k_is)
    (case z_range => k_is)
    (case z_list => k_is)
    (case z_int => k_is)
    (case z_bool => k_is)
    (case z_tuple => k_is)
    (case z_set => k_is)
    (case z_all => k_is)
    (case z_any => k_is)
    (case z_sum => k_is)
    (case z_min => k_is)
    (case z_max => k_is)
    (case z_sorted => k_is)
    (case z_isinstance => k_is)
    (case z_dict => k_is)
