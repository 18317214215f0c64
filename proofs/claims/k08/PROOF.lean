import PyProof.Rows.All
import Wide.All
import OpenK.AllK
import Wide.FinOn
import Lean
import PyProof.EqAt
import PyProof.EqKinds
import PyProof.TupleCall
import PyProof.ZipIter
import PyProof.EnumMake
import PyProof.EnumFor
import PyProof.DictIter
import PyProof.FactsAll.set
import KE.KDictSum
import PyProof.AttrMissSeq
import PyProof.DictRoadsH
import KE.KDictOf
import PyProof.DictWalks
import KE.KDictList
import PyProof.Rows.TupDisplay
import PyProof.P3Eq
import PySem.Challenge.RW_leftin_k08_refused
set_option Elab.async false
set_option linter.all false
set_option maxRecDepth 100000
namespace L2
open PySem PySem.Spec PyProof.Rows

abbrev Key := Sum Int Str
def keyIs : Key → Value → Bool
  | .inl k, v => Value.isInt k v
  | .inr x, v => Value.isStrOf x v
def keyH (w : World) : Key → Int
  | .inl k => hashInt k
  | .inr x => hashStr w x
theorem keyIs_shape : ∀ {k : Key} {v : Value}, keyIs k v = true → (∃ i t, k = Sum.inl i ∧ v = Value.int i t) ∨ (∃ x t, k = Sum.inr x ∧ v = Value.str x t)
  | .inl i, v, h => by
    obtain ⟨t, e⟩ := Value.isInt_shape (k := i) (v := v) h
    exact .inl ⟨i, t, rfl, e⟩
  | .inr x, v, h => by
    obtain ⟨t, e⟩ := Value.isStrOf_shape (x := x) (v := v) h
    exact .inr ⟨x, t, rfl, e⟩
theorem key_ll (a b : Int) : decide ((Sum.inl a : Key) = Sum.inl b) = (a == b) := by
  by_cases e : a = b
  · subst e; simp
  · have h : ¬ (Sum.inl a : Key) = Sum.inl b := fun q => e (Sum.inl.inj q)
    rw [decide_eq_false h]
    exact (beq_eq_false_iff_ne.mpr e).symm
theorem key_rr (a b : Str) : decide ((Sum.inr a : Key) = Sum.inr b) = decide (a = b) := by
  by_cases e : a = b
  · subst e; simp
  · have h : ¬ (Sum.inr a : Key) = Sum.inr b := fun q => e (Sum.inr.inj q)
    rw [decide_eq_false h, decide_eq_false e]
theorem key_lr (a : Int) (b : Str) : decide ((Sum.inl a : Key) = Sum.inr b) = false := decide_eq_false (fun q => nomatch q)
theorem key_rl (a : Str) (b : Int) : decide ((Sum.inr a : Key) = Sum.inl b) = false := decide_eq_false (fun q => nomatch q)

def mixKind (prog : Program) (w : World) : PySem.KeyKind prog w Key where
  is := keyIs
  hash := keyH w
  inj := fun v a b ha hb => by
    rcases keyIs_shape ha with ⟨i, t, rfl, rfl⟩ | ⟨x, t, rfl, rfl⟩
    · rcases keyIs_shape hb with ⟨j, u, rfl, e⟩ | ⟨y, u, rfl, e⟩
      · injection e with e1 _; rw [e1]
      · exact nomatch e
    · rcases keyIs_shape hb with ⟨j, u, rfl, e⟩ | ⟨y, u, rfl, e⟩
      · exact nomatch e
      · injection e with e1 _; rw [e1]
  byValue := fun k v h => by
    rcases keyIs_shape h with ⟨i, t, rfl, rfl⟩ | ⟨x, t, rfl, rfl⟩ <;> rfl
  pyHash := fun hv h => by
    rcases keyIs_shape hv with ⟨i, t, rfl, rfl⟩ | ⟨x, t, rfl, rfl⟩
    · exact wpAny_pyHash_int h
    · exact wpAny_pyHash_str h
  eqBool := fun hu hv h => by
    rcases keyIs_shape hu with ⟨i, t, rfl, rfl⟩ | ⟨x, t, rfl, rfl⟩
    · rcases keyIs_shape hv with ⟨j, u, rfl, rfl⟩ | ⟨y, u, rfl, rfl⟩
      · rw [key_ll] at h; exact wpAny_eqBool_int h
      · rw [key_lr] at h; exact SeqAt.EqAt.int_str i t y u _ _ _ _ h
    · rcases keyIs_shape hv with ⟨j, u, rfl, rfl⟩ | ⟨y, u, rfl, rfl⟩
      · rw [key_rl] at h; exact SeqAt.EqAt.str_int x t j u _ _ _ _ h
      · rw [key_rr] at h; exact wpAny_eqBool_str h
  «strs» := fun k x t v h => by
    rcases keyIs_shape h with ⟨i, u, rfl, e⟩ | ⟨y, u, rfl, e⟩
    · exact nomatch e
    · injection e with e1 _
      subst e1
      cases v <;> rfl

end L2

namespace L2
open PySem PySem.Spec PyProof.Rows

inductive V where
  | non | bl (b : Bool) | int (i : Int) | str (x : Str) | byt (b : Array UInt8) | flt (b : UInt64) | ref (a : Addr) | ty (n : String)
  deriving DecidableEq

def RelV : V → Value → Prop
  | .non, u => u = Value.none
  | .bl b, u => u = Value.bool b
  | .int i, u => ∃ t, u = Value.int i t
  | .str x, u => ∃ t, u = Value.str x t
  | .byt b, u => ∃ t, u = Value.bytes b t
  | .flt b, u => ∃ t, u = Value.float b t
  | .ref a, u => u = Value.ref a
  | .ty n, u => u = Value.type n

abbrev Vals : List V → List Value → Prop := Paired RelV
theorem Vals.length {xs : List V} {us : List Value} (r : Vals xs us) : xs.length = us.length := Paired.length r
theorem Vals.get : ∀ {xs : List V} {us : List Value} {i : Nat} {x : V}, Vals xs us → xs[i]? = some x → ∃ u, us[i]? = some u ∧ RelV x u
  | _, _, _, _, .nil, e => by simp at e
  | _, _, 0, _, .cons r _, e => by simp at e; subst e; exact ⟨_, rfl, r⟩
  | _, _, i + 1, x, .cons _ t, e => by
    obtain ⟨u, h1, h2⟩ := Vals.get (i := i) (x := x) t (by simpa using e)
    exact ⟨u, by simpa using h1, h2⟩
theorem Vals.set {x : V} {u : Value} (r : RelV x u) : ∀ {xs : List V} {us : List Value} (i : Nat), Vals xs us → Vals (xs.set i x) (us.set i u)
  | _, _, _, .nil => .nil
  | _, _, 0, .cons _ t => .cons r t
  | _, _, i + 1, .cons q t => .cons q (Vals.set r i t)
theorem Vals.append : ∀ {xs ys : List V} {us ws : List Value}, Vals xs us → Vals ys ws → Vals (xs ++ ys) (us ++ ws)
  | _, _, _, _, .nil, s => s
  | _, _, _, _, .cons r t, s => .cons r (Vals.append t s)
theorem Vals.take : ∀ {xs : List V} {us : List Value} (n : Nat), Vals xs us → Vals (xs.take n) (us.take n)
  | _, _, 0, _ => .nil
  | _, _, _ + 1, .nil => .nil
  | _, _, n + 1, .cons r t => .cons r (Vals.take n t)
theorem Vals.drop : ∀ {xs : List V} {us : List Value} (n : Nat), Vals xs us → Vals (xs.drop n) (us.drop n)
  | _, _, 0, r => r
  | _, _, _ + 1, .nil => .nil
  | _, _, n + 1, .cons _ t => Vals.drop n t
def RelO : Option V → Option Value → Prop
  | some v, some u => RelV v u
  | none, none => True
  | _, _ => False
def KV {κ : Type} : List (κ × V) → List (κ × Value) → Prop := Paired fun (p : κ × V) (q : κ × Value) => p.1 = q.1 ∧ RelV p.2 q.2

def kV : Key → V
  | .inl i => .int i
  | .inr x => .str x

inductive HO where
    | lst (xs : List V)
    | tup (xs : List V)
    | dK (kvs : List (Key × V)) | dT (kvs : List (List Key × V))
    | set (S : Int → Bool) (n : Nat)
    | ins (C dx : Addr) (fs : List (Str × V))
    | own (x : Addr)
    | xd (fs : List (Str × V))
    | met (f x : Addr)
    | rng (lo hi : Int)
    | frz (o : Obj) (u : HO)
    | tbl (ps : Array Value)
    | ext (φ : Heap → Prop)

abbrev Hp := Addr → Option HO
def upd (H : Hp) (a : Addr) (o : HO) : Hp := fun b => if b = a then some o else H b
theorem upd_same {H : Hp} {a : Addr} {o : HO} : upd H a o a = some o := by unfold upd; rw [if_pos rfl]
theorem upd_ne {H : Hp} {a b : Addr} {o : HO} (h : b ≠ a) : upd H a o b = H b := by unfold upd; rw [if_neg h]
theorem ne_of_none {H : Hp} {a b : Addr} {o : HO} (h : H a = some o) (h' : H b = none) : a ≠ b := by
  intro e; subst e; rw [h] at h'; cases h'

section
variable (P : Program) (w : World)
def ObjOk (H : Hp) (h : Heap) (a : Addr) : HO → Prop
  | .lst xs => xs.length ≤ sizeLine ∧ ∃ (its : List Value) (n : Nat), Vals xs its ∧ h.get? a = some { cls := .type "list", data := .seq its.toArray n }
  | .tup xs => xs.length ≤ sizeLine ∧ ∃ its : List Value, Vals xs its ∧ IsTup h a its.toArray
  | .dK kvs => kvs.length ≤ sizeLine ∧ (a == sysModules) = false ∧ ∃ vs, KV kvs vs ∧ h.DictOf (mixKind P w) a vs
  | .dT kvs => kvs.length ≤ sizeLine ∧ (a == sysModules) = false ∧ ∃ xs : List (List Key × Addr × Value),
      Paired (fun (p : List Key × V) (q : List Key × Addr × Value) => p.1 = q.1 ∧ H q.2.1 = some (.tup (p.1.map kV)) ∧ RelV p.2 q.2.2) kvs xs ∧
      ∃ o es ep, h.get? a = some o ∧ o.ExactDict ∧ o.data = .dict es ep ∧ es.toList = xs.map (entryOfKey (tupleKind (mixKind P w))) ∧ (xs.map (·.1)).Nodup
  | .set S n => h.SetOf (intKind P w) a S n
  | .ins C dx fs => H dx = some (.own a) ∧ fs.length ≤ 1000 ∧ dx ≠ a ∧ h.get? a = some (PySem.W.instObj C dx) ∧
      ∃ mA, h.Ns1 dx mA ∧ (∀ f, RelO (fs.lookup f) (mA f)) ∧ PySem.Within mA (fs.map (·.1))
  | .own _ => ∃ o, h.get? a = some o
  | .xd fs => ∃ mA, h.Ns1 a mA ∧ ∀ f, RelO (fs.lookup f) (mA f)
  | .rng lo hi => ∃ t u v, h.get? a = some { cls := .type "range", data := .fields #[.int lo t, .int hi u, .int 1 v] }
  | .frz o u => h.get? a = some o ∧ ObjOk H h a u
  | .tbl ps => h.get? a = some { cls := .none, data := .fields ps }
  | .met f x => h.get? a = some (PySem.W.methodObj (.ref f) (.ref x))
  | .ext φ => φ h ∧ (∃ o, h.get? a = some o) ∧ ∀ h1 h2 : Heap, φ h1 → (∀ o, h1.get? a = some o → h2.get? a = some o) → φ h2
def HOk (H : Hp) (h : Heap) : Prop := ∀ a o, H a = some o → ObjOk P w H h a o
end

section
variable {P : Program} {w : World} {H H' : Hp} {h h' : Heap} {a : Addr} {o : HO}
theorem ObjOk.lt (x : ObjOk P w H h a o) : a < h.objs.size := by
  cases o with
  | lst xs => obtain ⟨_, _, _, _, e⟩ := x; exact Heap.lt_size e
  | tup xs => obtain ⟨_, _, _, p⟩ := x; exact p.lt
  | dK kvs => obtain ⟨_, _, _, _, o, _, _, e, _⟩ := x; exact Heap.lt_size e
  | dT kvs => obtain ⟨_, _, _, _, o, _, _, e, _⟩ := x; exact Heap.lt_size e
  | set S n => obtain ⟨o, _, _, _, e, _⟩ := x; exact Heap.lt_size e
  | ins C dx fs => obtain ⟨_, _, _, e, _⟩ := x; exact Heap.lt_size e
  | own y => obtain ⟨_, e⟩ := x; exact Heap.lt_size e
  | xd fs => obtain ⟨_, ⟨_, _, _, e, _⟩, _⟩ := x; exact Heap.lt_size e
  | rng lo hi => obtain ⟨_, _, _, e⟩ := x; exact Heap.lt_size e
  | frz ob u => obtain ⟨e, _⟩ := x; exact Heap.lt_size e
  | tbl ps => exact Heap.lt_size (show h.get? a = some _ from x)
  | met f y => exact Heap.lt_size (show h.get? a = some _ from x)
  | ext φ => obtain ⟨_, ⟨_, e⟩, _⟩ := x; exact Heap.lt_size e
theorem Paired.mapP {α β : Type} {F G : α → β → Prop} : ∀ {l₁ : List α} {l₂ : List β}, Paired F l₁ l₂ → (∀ a b, F a b → G a b) → Paired G l₁ l₂
  | _, _, .nil, _ => .nil
  | _, _, .cons r t, f => .cons (f _ _ r) (Paired.mapP t f)
theorem ObjOk.stay (x : ObjOk P w H h a o) (k : ∀ b u, (b = a ∨ H b = some (.own a)) → h.get? b = some u → h'.get? b = some u)
    (ho : ∀ b, H b = some (.own a) → H' b = some (.own a)) (ht : ∀ b xs, H b = some (.tup xs) → H' b = some (.tup xs)) : ObjOk P w H' h' a o := by
  induction o with
  | lst xs => obtain ⟨z, its, n, r, e⟩ := x; exact ⟨z, its, n, r, k _ _ (.inl rfl) e⟩
  | tup xs => obtain ⟨z, its, r, ob, e, c⟩ := x; exact ⟨z, its, r, ob, k _ _ (.inl rfl) e, c⟩
  | dK kvs => obtain ⟨z, y, vs, r, ob, es, ep, e, c⟩ := x; exact ⟨z, y, vs, r, ob, es, ep, k _ _ (.inl rfl) e, c⟩
  | dT kvs =>
    obtain ⟨z, y, xs, r, ob, es, ep, e, c⟩ := x
    exact ⟨z, y, xs, Paired.mapP r fun p q z => ⟨z.1, ht _ _ z.2.1, z.2.2⟩, ob, es, ep, k _ _ (.inl rfl) e, c⟩
  | set S n => obtain ⟨ob, es, ep, t, e, c⟩ := x; exact ⟨ob, es, ep, t, k _ _ (.inl rfl) e, c⟩
  | ins C dx fs =>
    obtain ⟨d, z, ne, e, mA, ⟨od, es, ep, e2, c⟩, r⟩ := x
    exact ⟨ho _ d, z, ne, k _ _ (.inl rfl) e, mA, ⟨od, es, ep, k _ _ (.inr d) e2, c⟩, r⟩
  | own y => obtain ⟨ob, e⟩ := x; exact ⟨ob, k _ _ (.inl rfl) e⟩
  | xd fs => obtain ⟨mA, ⟨od, es, ep, e, c⟩, r⟩ := x; exact ⟨mA, ⟨od, es, ep, k _ _ (.inl rfl) e, c⟩, r⟩
  | rng lo hi => obtain ⟨t, u, v, e⟩ := x; exact ⟨t, u, v, k _ _ (.inl rfl) e⟩
  | frz ob u ih => obtain ⟨e, q⟩ := x; exact ⟨k _ _ (.inl rfl) e, ih q⟩
  | tbl ps =>
    have e : h.get? a = some { cls := .none, data := .fields ps } := x
    show h'.get? a = some { cls := .none, data := .fields ps }
    exact k a _ (.inl rfl) e
  | met f y =>
    have e : h.get? a = some (PySem.W.methodObj (.ref f) (.ref y)) := x
    show h'.get? a = some (PySem.W.methodObj (.ref f) (.ref y))
    exact k a _ (.inl rfl) e
  | ext φ => obtain ⟨p, ⟨o, e⟩, st⟩ := x; exact ⟨st _ _ p fun o q => k _ _ (.inl rfl) q, ⟨o, k _ _ (.inl rfl) e⟩, st⟩
theorem HOk.lt (x : HOk P w H h) (e : H a = some o) : a < h.objs.size := (x a o e).lt
theorem HOk.fresh (x : HOk P w H h) (e : h.objs.size ≤ a) : H a = none := by
  cases q : H a with
  | none => rfl
  | some u => exact absurd (Nat.lt_of_lt_of_le (x.lt q) e) (Nat.lt_irrefl _)
theorem HOk.kept (x : HOk P w H h) (k : ∀ b u, h.get? b = some u → h'.get? b = some u) : HOk P w H h' := fun a o e =>
  (x a o e).stay (fun b u _ q => k b u q) (fun _ q => q) fun _ _ q => q
theorem HOk.laid (x : HOk P w H h) (k : ∀ b u, h.get? b = some u → h'.get? b = some u) (hp : h.objs.size ≤ a) (new : ObjOk P w (upd H a o) h' a o) : HOk P w (upd H a o) h' := fun b u e => by
  have hn := x.fresh hp
  by_cases hb : b = a
  · subst hb; rw [upd_same] at e; cases e; exact new
  · rw [upd_ne hb] at e
    exact (x b u e).stay (fun c v _ q => k c v q) (fun c q => by rw [upd_ne (ne_of_none q hn)]; exact q) fun c xs q => by rw [upd_ne (ne_of_none q hn)]; exact q
end

def Rd (H : Hp) (a : Addr) (u : HO) : Prop := H a = some u ∨ ∃ o, H a = some (.frz o u)
theorem Rd.of {H : Hp} {a : Addr} {u : HO} (h : H a = some u) : Rd H a u := .inl h
theorem Rd.ok {P : Program} {w : World} {H : Hp} {h : Heap} {a : Addr} {u : HO} (r : Rd H a u) (x : HOk P w H h) : ObjOk P w H h a u := by
  rcases r with r | ⟨o, r⟩
  · exact x a u r
  · obtain ⟨_, q⟩ := x a _ r
    exact q
def Mut : Option HO → Prop
  | some (.lst _) => True
  | some (.dK _) => True
  | some (.dT _) => True
  | some (.set _ _) => True
  | some (.ins _ _ _) => True
  | some (.ext _) => True
  | _ => False
section
variable {P : Program} {w : World} {H : Hp} {h h' : Heap} {x e : Addr} {o' : HO}
theorem HOk.write (ok : HOk P w H h) (mu : Mut (H x)) (he : e = x ∨ H e = some (.own x)) (k : ∀ b u, b ≠ e → h.get? b = some u → h'.get? b = some u) (heo : ∃ u, h'.get? e = some u)
    (new : ObjOk P w (upd H x o') h' x o') : HOk P w (upd H x o') h' := fun b u q => by
  have nown : ∀ c y, H c = some (.own y) → c ≠ x := fun c y r z => by subst z; rw [r] at mu; exact mu
  have ntup : ∀ c xs, H c = some (.tup xs) → c ≠ x := fun c xs r z => by subst z; rw [r] at mu; exact mu
  by_cases hb : b = x
  · subst hb; rw [upd_same] at q; cases q; exact new
  · rw [upd_ne hb] at q
    by_cases hbe : b = e
    · have q' : H b = some (.own x) := by
        rcases he with z | z
        · exact absurd (hbe.trans z) hb
        · rw [hbe]; exact z
      rw [q] at q'; cases q'
      obtain ⟨v, hv⟩ := heo
      exact ⟨v, by rw [hbe]; exact hv⟩
    · refine (ok b u q).stay (fun c v hc r => k c v ?_ r) (fun c r => by rw [upd_ne (nown c b r)]; exact r) fun c xs r => by rw [upd_ne (ntup c xs r)]; exact r
      rcases hc with rfl | hc
      · exact hbe
      · rintro rfl
        rcases he with z | z
        · exact nown c b hc z
        · rw [hc] at z; cases z; exact hb rfl
end

structure Un (fs ex : List Addr) (H H' : Hp) (h h' : Heap) : Prop where
  keep : ∀ b o, h.get? b = some o → H b = none → b ∉ fs → b ∉ ex → h'.get? b = some o
  slot : ∀ b o, h.get? b = some o → H b = none → b ∈ fs → b ∉ ex → ∃ sl, h'.get? b = some { o with slots := sl }
  free : ∀ b o, h.get? b = some o → H b = none → b ∉ ex → H' b = none
  there : ∀ b o, h.get? b = some o → b ∉ ex → ∃ o', h'.get? b = some o'
  tups : ∀ b xs, H b = some (.tup xs) → H' b = some (.tup xs)
  frzs : ∀ b o u, H b = some (.frz o u) → H' b = some (.frz o u)
  tbls : ∀ b ps, H b = some (.tbl ps) → ∃ more, H' b = some (.tbl (ps ++ more))
section
variable {fs fs' ex ex' : List Addr} {H H1 H2 : Hp} {h h1 h2 h' : Heap} {a x e : Addr} {o : HO}
theorem Un.any (u : Un fs ex H H1 h h1) {b : Addr} {ob : Obj} (q : h.get? b = some ob) (n : H b = none) (hx : b ∉ ex) : ∃ sl, h1.get? b = some { ob with slots := sl } := by
  by_cases hb : b ∈ fs
  · exact u.slot b ob q n hb hx
  · exact ⟨ob.slots, u.keep b ob q n hb hx⟩
theorem Un.trans (a : Un fs ex H H1 h h1) (b : Un fs ex H1 H2 h1 h2) : Un fs ex H H2 h h2 where
  keep := fun c ob q n hc hx => b.keep c ob (a.keep c ob q n hc hx) (a.free c ob q n hx) hc hx
  slot := fun c ob q n hc hx => by
    obtain ⟨sl, e1⟩ := a.slot c ob q n hc hx
    obtain ⟨sl', e2⟩ := b.slot c _ e1 (a.free c ob q n hx) hc hx
    exact ⟨sl', e2⟩
  free := fun c ob q n hx => by
    obtain ⟨o', e1⟩ := a.there c ob q hx
    exact b.free c o' e1 (a.free c ob q n hx) hx
  there := fun c ob q hx => by
    obtain ⟨o', e1⟩ := a.there c ob q hx
    exact b.there c o' e1 hx
  tups := fun c xs q => b.tups c xs (a.tups c xs q)
  frzs := fun c ob xs q => b.frzs c ob xs (a.frzs c ob xs q)
  tbls := fun c ps q => by
    obtain ⟨m1, e1⟩ := a.tbls c ps q
    obtain ⟨m2, e2⟩ := b.tbls c _ e1
    exact ⟨m1 ++ m2, by rw [e2, Array.append_assoc]⟩
theorem Un.kept (k : ∀ b u, h.get? b = some u → h'.get? b = some u) : Un fs ex H H h h' :=
  ⟨fun b ob q _ _ _ => k b ob q, fun b ob q _ _ _ => ⟨ob.slots, k b ob q⟩, fun _ _ _ n _ => n, fun b ob q _ => ⟨ob, k b ob q⟩, fun _ _ q => q, fun _ _ _ q => q, fun _ ps q => ⟨#[], by rw [q]; simp⟩⟩
theorem Un.refl : Un fs ex H H h h := Un.kept fun _ _ q => q
theorem Un.laid (k : ∀ b u, h.get? b = some u → h'.get? b = some u) (hp : h.objs.size ≤ a) (hn : H a = none) : Un fs ex H (upd H a o) h h' where
  keep := fun b u q _ _ _ => k b u q
  slot := fun b u q _ _ _ => ⟨u.slots, k b u q⟩
  free := fun b u q n _ => by rw [upd_ne (Nat.ne_of_lt (Nat.lt_of_lt_of_le (Heap.lt_size q) hp))]; exact n
  there := fun b u q _ => ⟨u, k b u q⟩
  tups := fun b xs q => by rw [upd_ne (ne_of_none q hn)]; exact q
  frzs := fun b u xs q => by rw [upd_ne (ne_of_none q hn)]; exact q
  tbls := fun b ps q => ⟨#[], by rw [upd_ne (ne_of_none q hn), q]; simp⟩
theorem Un.write (mu : Mut (H x)) (he : e = x ∨ H e = some (.own x)) (k : ∀ b u, b ≠ e → h.get? b = some u → h'.get? b = some u) (heo : ∃ u, h'.get? e = some u) : Un fs ex H (upd H x o) h h' := by
  have hx : ∀ b, H b = none → b ≠ x := fun b n z => by subst z; rw [n] at mu; exact mu
  have hb : ∀ b, H b = none → b ≠ e := fun b n z => by
    subst z
    rcases he with r | r
    · exact hx b n r
    · rw [n] at r; cases r
  have hm : ∀ b u, H b = some u → ¬ Mut (some u) → b ≠ x := fun b u q nm z => by subst z; rw [q] at mu; exact nm mu
  refine ⟨fun b u q n _ _ => k b u (hb b n) q, fun b u q n _ _ => ⟨u.slots, k b u (hb b n) q⟩, fun b u q n _ => by rw [upd_ne (hx b n)]; exact n, fun b u q _ => ?_,
    fun b xs q => by rw [upd_ne (hm b _ q fun z => z)]; exact q, fun b u xs q => by rw [upd_ne (hm b _ q fun z => z)]; exact q, fun b ps q => ⟨#[], by rw [upd_ne (hm b _ q fun z => z), q]; simp⟩⟩
  by_cases hbe : b = e
  · subst hbe; exact heo
  · exact ⟨u, k b u hbe q⟩
theorem Un.mono (u : Un fs ex H H1 h h1) (hs : ∀ b ∈ fs, b ∈ fs') (hx : ∀ b ∈ ex, b ∈ ex') : Un fs' ex' H H1 h h1 :=
  ⟨fun b ob q n hb he => u.keep b ob q n (fun z => hb (hs b z)) fun z => he (hx b z), fun _ _ q n _ he => u.any q n fun z => he (hx _ z), fun b ob q n he => u.free b ob q n fun z => he (hx b z), fun b ob q he => u.there b ob q fun z => he (hx b z), u.tups, u.frzs, u.tbls⟩
end

def trk (h : Heap) (H : Hp) : List Addr := (List.range h.objs.size).filter fun a => (H a).isSome
def hidT (h : Heap) (H : Hp) : Heap := PySem.W.hideAll h (trk h H)
theorem hidT_size (h : Heap) (H : Hp) : (hidT h H).objs.size = h.objs.size := PySem.W.hideAll_size _ _
theorem hidT_get {h : Heap} {H : Hp} {b : Addr} {o : Obj} (e : h.get? b = some o) (n : H b = none) : (hidT h H).get? b = some o :=
  PySem.W.hideAll_get _ e fun hm => by
    have q : (H b).isSome = true := (List.mem_filter.mp hm).2
    rw [n] at q; simp at q
theorem of_hidT {h : Heap} {H : Hp} {b : Addr} {o : Obj} (e : (hidT h H).get? b = some o) : h.get? b = some o ∧ H b = none := by
  have e' : h.get? b = some o := PySem.W.of_hideAll (trk h H) e
  refine ⟨e', ?_⟩
  cases q : H b with
  | none => rfl
  | some x =>
    have hm : b ∈ trk h H := List.mem_filter.mpr ⟨List.mem_range.mpr (Heap.lt_size e'), by simp [q]⟩
    have z : (hidT h H).get? b = none := PySem.W.hideAll_none (trk h H) hm
    rw [z] at e; cases e

def allNews (g h : Heap) (L : Addr) : List (Addr × Obj) := (List.range h.objs.size).filterMap fun a => if a = L ∨ (g.get? a).isSome = true then none else (h.get? a).map fun o => (a, o)
def rest (g h : Heap) (L d : Addr) : List (Addr × Obj) := (allNews g h L).filter fun p => decide (p.1 ≠ d)
end L2

namespace L2
open PySem PySem.Spec PyProof.Rows

structure Mod (K : PySem.W.Frag) (mg : Str → Option Value) (base : Heap) : Prop where
  kin : K.In base
  glob : base.Ns mainGlobals mg
  blt : ∃ mb, base.Ns builtinsNs mb ∧ ∀ x : Str, x ≠ "__name__" → mb x = bootBuiltins x
  nolimit : base.NoLimit

structure Cx where
  prog : Program
  w : World
  K : PySem.W.Frag
  mg : Str → Option Value
  base : Heap
  A : Around
  N : List Str
  s₀ : Shared
  H₀ : Hp
  env : Env
  outer : List Env
  stack : List Env
  ex : List Addr
  fn : Str → Bool
  calm : Bool
  pn : List (Addr × Obj)
  xe : Value → Shared → Prop
def frs (l : List Env) : List Addr := l.filterMap (·.frame)
abbrev Cx.fs (X : Cx) : List Addr := frs X.outer

def Vis (sc : Scope) (x : Str) : Prop := sc.names.lookup x = some .local ∨ sc.names.lookup x = some .cell ∨ sc.names.lookup x = some .free
def Loc (sc : Scope) (x : Str) : Prop := sc.names.lookup x = some .local ∨ sc.names.lookup x = some .cell
def Look (env : Env) (h : Heap) (m : Str → Option Value) (x : Str) (u : Value) : Prop :=
  (env.kindOf x = some .local ∧ m x = some u) ∨ ((env.kindOf x = some .cell ∨ env.kindOf x = some .free) ∧ ∃ c, env.cells.lookup x = some c ∧ h.IsCell c (some u))

structure Cx.Ok (X : Cx) : Prop where
  mod : Mod X.K X.mg X.base
  kind : X.env.scope.kind = .function
  glob : X.env.globals = mainGlobals
  blt : X.env.builtins = builtinsNs
  above : X.s₀.heap.objs.size ≤ X.env.locals
  inj : ∀ x y c, X.env.cells.lookup x = some c → X.env.cells.lookup y = some c → x = y
  has : ∀ x, (X.env.kindOf x = some .cell ∨ X.env.kindOf x = some .free) → ∃ c, X.env.cells.lookup x = some c
  cab : ∀ x c, X.fn x = true → X.env.cells.lookup x = some c → X.s₀.heap.objs.size ≤ c
  hd : X.calm = true → X.A.handled = none
  frames : X.A.frames = some X.stack
  stk : X.stack = X.outer ∨ (X.stack = X.env :: X.outer ∧ X.env.frame = some X.env.locals)
  exf : ∀ b ∈ X.ex, b ≠ X.env.locals ∧ ∀ x c, X.env.cells.lookup x = some c → c ≠ b
  bs : ∀ b o, X.base.get? b = some o → X.s₀.heap.get? b = some o ∧ X.H₀ b = none
  bsz : X.base.objs.size ≤ X.s₀.heap.objs.size
  noex : ∀ b o, X.base.get? b = some o → b ∉ X.ex
  exfs : ∀ b ∈ X.ex, b ∉ X.fs
  funs : X.s₀.heap.FunFrames X.base X.outer
  frf : ∀ b ∈ X.fs, X.H₀ b = none

structure Inv (X : Cx) (pins : List (Addr × Obj)) (σ : List (Option V)) (H : Hp) (s : Shared) : Prop where
  ok : X.Ok
  os : s.os = X.s₀.os
  bare : AllBare s.gens
  base : Un X.fs X.ex X.H₀ H X.s₀.heap s.heap
  loc : ∃ m, s.heap.Ns X.env.locals m ∧ ∀ (i : Nat) (x : Str) (v : V), X.N[i]? = some x → σ[i]? = some (some v) → Vis X.env.scope x → ∃ u, RelV v u ∧ Look X.env s.heap m x u
  cell : ∀ x c, X.env.cells.lookup x = some c → ∃ v, s.heap.IsCell c v
  free : H X.env.locals = none
  freeC : ∀ x c, X.env.cells.lookup x = some c → H c = none
  pin : ∀ p ∈ X.pn ++ pins, s.heap.get? p.1 = some p.2 ∧ H p.1 = none ∧ p.1 ≠ X.env.locals ∧ p.1 ∉ X.fs ∧ ∀ v, p.2.data ≠ .cell v
  hok : HOk X.prog X.w H s.heap
  len : σ.length = X.N.length

section
variable {X : Cx} {pins : List (Addr × Obj)} {σ : List (Option V)} {H H' : Hp} {s : Shared} {h' : Heap}

theorem Cx.Ok.nofr (ok : X.Ok) {b : Addr} {o : Obj} (e : X.base.get? b = some o) : b ∉ X.fs := fun hb => by
  have := (ok.funs.mem hb).1
  rw [e] at this; cases this
theorem Inv.bs (I : Inv X pins σ H s) : ∀ b o, X.base.get? b = some o → s.heap.get? b = some o ∧ H b = none := fun b o e =>
  ⟨I.base.keep b o (I.ok.bs b o e).1 (I.ok.bs b o e).2 (I.ok.nofr e) (I.ok.noex b o e), I.base.free b o (I.ok.bs b o e).1 (I.ok.bs b o e).2 (I.ok.noex b o e)⟩
theorem Inv.bk (I : Inv X pins σ H s) : ∀ b o, X.base.get? b = some o → s.heap.get? b = some o := fun b o e => (I.bs b o e).1
theorem Inv.mod (I : Inv X pins σ H s) : Mod X.K X.mg X.base := I.ok.mod
theorem Inv.kIn (I : Inv X pins σ H s) : X.K.In s.heap := I.ok.mod.kin.keeps I.bk
theorem Inv.nolimit (I : Inv X pins σ H s) : s.heap.NoLimit := I.ok.mod.nolimit.keeps I.bk
theorem Inv.fr (I : Inv X pins σ H s) : ∃ m, Fr X.base X.env.locals s.heap m :=
  let ⟨m, hn, _⟩ := I.loc
  ⟨m, hn, I.bk, Nat.le_trans I.ok.bsz I.ok.above⟩
theorem Inv.lt (I : Inv X pins σ H s) : X.env.locals < s.heap.objs.size := let ⟨_, hn, _⟩ := I.loc; hn.lt
theorem Inv.sz (I : Inv X pins σ H s) : X.s₀.heap.objs.size ≤ s.heap.objs.size := Nat.le_trans I.ok.above (Nat.le_of_lt I.lt)
theorem Inv.nofs (I : Inv X pins σ H s) {a : Addr} (h : s.heap.objs.size ≤ a) : a ∉ X.fs := fun hb => by
  obtain ⟨_, o, ho, _⟩ := I.ok.funs.mem hb
  exact absurd (Nat.lt_of_lt_of_le (Heap.lt_size ho) (Nat.le_trans I.sz h)) (Nat.lt_irrefl _)
theorem Inv.cne (I : Inv X pins σ H s) : ∀ x c, X.env.cells.lookup x = some c → c ≠ X.env.locals := fun x c e z => by
  obtain ⟨v, o, ho, hd⟩ := I.cell x c e
  obtain ⟨m, ⟨o', es, ep, ho', hd', _⟩, _⟩ := I.loc
  rw [z, ho'] at ho; cases ho; rw [hd'] at hd; cases hd
theorem Inv.funs (I : Inv X pins σ H s) : s.heap.FunFrames X.base X.outer := by
  have all : ∀ (l : List Env), (∀ b ∈ frs l, b ∈ X.fs) → X.s₀.heap.FunFrames X.base l → s.heap.FunFrames X.base l := by
    intro l
    induction l with
    | nil => intro _ _; trivial
    | cons env r ih =>
      intro hs hl
      obtain ⟨hk, ⟨L, o, hf, hn, ho, hd⟩, hr⟩ := hl
      have hL : L ∈ X.fs := hs L (by unfold frs; rw [List.filterMap_cons, hf]; exact List.mem_cons_self)
      obtain ⟨sl, e⟩ := I.base.slot L o ho (I.ok.frf L hL) hL fun z => I.ok.exfs L z hL
      exact ⟨hk, ⟨L, _, hf, hn, e, hd⟩, ih (fun b hb => hs b (by unfold frs; rw [List.filterMap_cons, hf]; exact List.mem_cons_of_mem _ hb)) hr⟩
  exact all X.outer (fun _ hb => hb) I.ok.funs

theorem Inv.stack (I : Inv X pins σ H s) : s.heap.FunFrames X.base X.stack := by
  rcases I.ok.stk with e | ⟨e, hf⟩
  · rw [e]; exact I.funs
  · rw [e]
    obtain ⟨m, hn, _⟩ := I.loc
    refine .cons (by rw [I.ok.kind]; decide) hf hn ?_ I.funs
    exact Heap.get?_none_of_le (Nat.le_trans I.ok.bsz I.ok.above)
theorem Inv.stkSub (I : Inv X pins σ H s) : ∀ b ∈ frs X.stack, b ∈ X.env.locals :: X.fs := fun b hb => by
  rcases I.ok.stk with e | ⟨e, hf⟩
  · rw [e] at hb; exact List.mem_cons_of_mem _ hb
  · rw [e] at hb
    unfold frs at hb
    rw [List.filterMap_cons, hf] at hb
    exact hb
theorem Inv.stkFree (I : Inv X pins σ H s) : ∀ b ∈ frs X.stack, H b = none := fun b hb => by
  rcases List.mem_cons.mp (I.stkSub b hb) with e | hb
  · rw [e]; exact I.free
  · obtain ⟨_, o, ho, _⟩ := I.ok.funs.mem hb
    exact I.base.free b o ho (I.ok.frf b hb) fun z => I.ok.exfs b z hb

theorem Inv.step {g' : Array GenState} {t' : Nat} {d' : Drawn} {ch : List Addr} (I : Inv X pins σ H s)
    (hch : ∀ b ∈ ch, (b ∈ X.ex ∨ X.s₀.heap.objs.size ≤ b) ∧ b ≠ X.env.locals ∧ (∀ x c, X.env.cells.lookup x = some c → c ≠ b) ∧ ∀ p ∈ X.pn ++ pins, p.1 ≠ b)
    (keep : ∀ b o, b ≠ X.env.locals → b ∉ X.fs → b ∉ ch → s.heap.get? b = some o → H b = none → h'.get? b = some o)
    (slot : ∀ b o, b ≠ X.env.locals → b ∈ X.fs → b ∉ ch → s.heap.get? b = some o → H b = none → ∃ sl, h'.get? b = some { o with slots := sl }) (free : ∀ b o, b ∉ ch → s.heap.get? b = some o → H b = none → H' b = none)
    (there : ∀ b o, b ∉ ch → s.heap.get? b = some o → ∃ o', h'.get? b = some o')
    (tups : ∀ b xs, H b = some (.tup xs) → H' b = some (.tup xs)) (frzs : ∀ b o u, H b = some (.frz o u) → H' b = some (.frz o u)) (tbls : ∀ b ps, H b = some (.tbl ps) → ∃ more, H' b = some (.tbl (ps ++ more)))
    (ns : ∀ m, s.heap.Ns X.env.locals m → h'.Ns X.env.locals m) (hok : HOk X.prog X.w H' h') (hg : AllBare g') :
    Inv X pins σ H' { s with heap := h', gens := g', drawn := d', toks := t' } := by
  have neL : ∀ b o, X.s₀.heap.get? b = some o → b ≠ X.env.locals := fun b o e => Nat.ne_of_lt (Nat.lt_of_lt_of_le (Heap.lt_size e) I.ok.above)
  have neC : ∀ b o, X.s₀.heap.get? b = some o → b ∉ X.ex → b ∉ ch := fun b o e hx hb => by
    rcases (hch b hb).1 with z | z
    · exact hx z
    · exact absurd (Nat.lt_of_lt_of_le (Heap.lt_size e) z) (Nat.lt_irrefl _)
  have cellK : ∀ x c, X.env.cells.lookup x = some c → ∀ v, s.heap.IsCell c v → h'.IsCell c v := fun x c e v ⟨o, ho, hd⟩ => by
    have nch : c ∉ ch := fun z => (hch c z).2.2.1 x c e rfl
    by_cases hc : c ∈ X.fs
    · obtain ⟨sl, q⟩ := slot c o (I.cne x c e) hc nch ho (I.freeC x c e)
      exact ⟨_, q, hd⟩
    · exact ⟨o, keep c o (I.cne x c e) hc nch ho (I.freeC x c e), hd⟩
  refine ⟨I.ok, I.os, hg, ⟨fun b o e n hb hx => ?_, fun b o e n hb hx => ?_, fun b o e n hx => ?_, fun b o e hx => ?_, fun b xs e => tups b xs (I.base.tups b xs e), fun b o xs e => frzs b o xs (I.base.frzs b o xs e), fun b ps e => ?_⟩, ?_, fun x c e => ?_, ?_, fun x c e => ?_, fun p hp => ?_, hok, I.len⟩
  · exact keep b o (neL b o e) hb (neC b o e hx) (I.base.keep b o e n hb hx) (I.base.free b o e n hx)
  · obtain ⟨sl, e1⟩ := I.base.slot b o e n hb hx
    obtain ⟨sl', e2⟩ := slot b _ (neL b o e) hb (neC b o e hx) e1 (I.base.free b o e n hx)
    exact ⟨sl', e2⟩
  · obtain ⟨o', e1⟩ := I.base.there b o e hx
    exact free b o' (neC b o e hx) e1 (I.base.free b o e n hx)
  · obtain ⟨o', e1⟩ := I.base.there b o e hx
    exact there b o' (neC b o e hx) e1
  · obtain ⟨m1, e1⟩ := I.base.tbls b ps e
    obtain ⟨m2, e2⟩ := tbls b _ e1
    exact ⟨m1 ++ m2, by rw [e2, Array.append_assoc]⟩
  · obtain ⟨m, hn, hl⟩ := I.loc
    refine ⟨m, ns m hn, fun i x v e1 e2 e3 => ?_⟩
    obtain ⟨u, r, l⟩ := hl i x v e1 e2 e3
    refine ⟨u, r, ?_⟩
    rcases l with l | ⟨k, c, e, z⟩
    · exact .inl l
    · exact .inr ⟨k, c, e, cellK x c e _ z⟩
  · obtain ⟨v, z⟩ := I.cell x c e
    exact ⟨v, cellK x c e v z⟩
  · obtain ⟨m, ⟨o, _, _, ho, _⟩, _⟩ := I.loc
    exact free _ o (fun z => (hch _ z).2.1 rfl) ho I.free
  · obtain ⟨v, o, ho, hd⟩ := I.cell x c e
    exact free c o (fun z => (hch c z).2.2.1 x c e rfl) ho (I.freeC x c e)
  · obtain ⟨e, n, ne, nf, d⟩ := I.pin p hp
    have nch : p.1 ∉ ch := fun z => (hch p.1 z).2.2.2 p hp rfl
    exact ⟨keep p.1 p.2 ne nf nch e n, free p.1 p.2 nch e n, ne, nf, d⟩
theorem Inv.un {t' : Nat} (I : Inv X pins σ H s) (u : Un X.fs [] H H' s.heap h') (hok : HOk X.prog X.w H' h') : Inv X pins σ H' { s with heap := h', toks := t' } := by
  obtain ⟨m, ⟨o, es, ep, ho, r⟩, _⟩ := id I.loc
  obtain ⟨sl, hL⟩ := u.any ho I.free (by simp)
  exact I.step (g' := s.gens) (d' := s.drawn) (ch := []) (fun _ z => nomatch z) (fun b o _ hb _ e n => u.keep b o e n hb (by simp)) (fun b o _ hb _ e n => u.slot b o e n hb (by simp)) (fun b o _ e n => u.free b o e n (by simp)) (fun b o _ e => u.there b o e (by simp)) u.tups u.frzs u.tbls (fun m' hm => by
    obtain ⟨o', es', ep', ho', r'⟩ := hm
    rw [ho] at ho'; cases ho'
    exact ⟨_, es', ep', hL, r'⟩) hok I.bare
theorem Inv.call {g' : Array GenState} {t' : Nat} {d' : Drawn} {ch : List Addr} (I : Inv X pins σ H s) (u : Un (frs X.stack) ch H H' s.heap h') (hok : HOk X.prog X.w H' h') (hg : AllBare g')
    (hch : ∀ b ∈ ch, (b ∈ X.ex ∨ X.s₀.heap.objs.size ≤ b) ∧ b ≠ X.env.locals ∧ (∀ x c, X.env.cells.lookup x = some c → c ≠ b) ∧ ∀ p ∈ X.pn ++ pins, p.1 ≠ b) :
    Inv X pins σ H' { s with heap := h', gens := g', drawn := d', toks := t' } := by
  obtain ⟨m, ⟨o, es, ep, ho, r⟩, _⟩ := id I.loc
  obtain ⟨sl, hL⟩ := u.any ho I.free fun z => (hch _ z).2.1 rfl
  exact I.step (ch := ch) hch (fun b o hL hb hc e n => u.keep b o e n (fun z => (List.mem_cons.mp (I.stkSub b z)).elim hL hb) hc) (fun b o _ _ hc e n => u.any e n hc) (fun b o hc e n => u.free b o e n hc) (fun b o hc e => u.there b o e hc) u.tups u.frzs u.tbls (fun m' hm => by
    obtain ⟨o', es', ep', ho', r'⟩ := hm
    rw [ho] at ho'; cases ho'
    exact ⟨_, es', ep', hL, r'⟩) hok hg
theorem Inv.turned {t' : Nat} {it : Addr} (I : Inv X pins σ H s) (k : ∀ b o, b ≠ it → s.heap.get? b = some o → h'.get? b = some o) (hn : H it = none) (hL : it ≠ X.env.locals)
    (h1 : it ∈ X.ex ∨ X.s₀.heap.objs.size ≤ it) (h2 : ∀ x c, X.env.cells.lookup x = some c → c ≠ it) (h3 : ∀ p ∈ X.pn ++ pins, p.1 ≠ it) : Inv X pins σ H { s with heap := h', toks := t' } := by
  have nit : ∀ b u, H b = some u → b ≠ it := fun b u e z => by rw [z, hn] at e; cases e
  refine I.step (g' := s.gens) (d' := s.drawn) (ch := [it]) (fun b hb => ?_) (fun b o _ _ hc e _ => k b o (fun z => hc (by simp [z])) e) (fun b o _ _ hc e _ => ⟨o.slots, k b o (fun z => hc (by simp [z])) e⟩) (fun _ _ _ _ n => n)
    (fun b o hc e => ⟨o, k b o (fun z => hc (by simp [z])) e⟩) (fun _ _ e => e) (fun _ _ _ e => e) (fun b ps e => ⟨#[], by rw [e]; simp⟩) (fun m hm => ?_) (fun b u e => ?_) I.bare
  · have e : b = it := by simpa using hb
    subst e
    exact ⟨h1, hL, h2, h3⟩
  · obtain ⟨o, es, ep, ho, r⟩ := hm
    exact ⟨o, es, ep, k _ o (Ne.symm hL) ho, r⟩
  · refine (I.hok b u e).stay (fun c v hc q => k c v ?_ q) (fun _ q => q) fun _ _ q => q
    rcases hc with z | z
    · rw [z]; exact nit b u e
    · exact nit c _ z
theorem Inv.tok (I : Inv X pins σ H s) (t : Nat) : Inv X pins σ H { s with toks := t } := I.un (h' := s.heap) (t' := t) Un.refl I.hok
theorem Inv.kept {t' : Nat} (I : Inv X pins σ H s) (k : ∀ b u, s.heap.get? b = some u → h'.get? b = some u) : Inv X pins σ H { s with heap := h', toks := t' } := I.un (Un.kept k) (I.hok.kept k)
theorem Inv.laid {a : Addr} {o : HO} {t' : Nat} (I : Inv X pins σ H s) (k : ∀ b u, s.heap.get? b = some u → h'.get? b = some u) (hp : s.heap.objs.size ≤ a) (new : ObjOk X.prog X.w (upd H a o) h' a o) :
    Inv X pins σ (upd H a o) { s with heap := h', toks := t' } := I.un (Un.laid k hp (I.hok.fresh hp)) (I.hok.laid k hp new)
theorem Inv.write {x e : Addr} {o : HO} {t' : Nat} (I : Inv X pins σ H s) (mu : Mut (H x)) (he : e = x ∨ H e = some (.own x)) (k : ∀ b u, b ≠ e → s.heap.get? b = some u → h'.get? b = some u) (heo : ∃ u, h'.get? e = some u)
    (new : ObjOk X.prog X.w (upd H x o) h' x o) : Inv X pins σ (upd H x o) { s with heap := h', toks := t' } := I.un (Un.write mu he k heo) (I.hok.write mu he k heo new)
theorem Inv.weak {σ' : List (Option V)} (I : Inv X pins σ H s) (hl : σ'.length = σ.length) (w : ∀ (i : Nat) v, σ'[i]? = some (some v) → σ[i]? = some (some v)) : Inv X pins σ' H s :=
  ⟨I.ok, I.os, I.bare, I.base, let ⟨m, hn, hl'⟩ := I.loc; ⟨m, hn, fun i x v e1 e2 e3 => hl' i x v e1 (w i v e2) e3⟩, I.cell, I.free, I.freeC, I.pin, I.hok, hl.trans I.len⟩
theorem Inv.pins_of {pins' : List (Addr × Obj)} (I : Inv X pins σ H s) (h : ∀ p ∈ pins', s.heap.get? p.1 = some p.2 ∧ H p.1 = none ∧ p.1 ≠ X.env.locals ∧ p.1 ∉ X.fs ∧ ∀ v, p.2.data ≠ .cell v) : Inv X pins' σ H s :=
  ⟨I.ok, I.os, I.bare, I.base, I.loc, I.cell, I.free, I.freeC, fun p hp => (List.mem_append.mp hp).elim (fun z => I.pin p (List.mem_append_left _ z)) (h p), I.hok, I.len⟩

theorem nodup_ix {N : List Str} (hN : N.Nodup) {i j : Nat} {x : Str} (a : N[i]? = some x) (b : N[j]? = some x) : i = j := by
  obtain ⟨h1, e1⟩ := List.getElem?_eq_some_iff.mp a
  obtain ⟨h2, e2⟩ := List.getElem?_eq_some_iff.mp b
  exact (List.getElem_inj hN).mp (e1.trans e2.symm)

theorem store_ok2 {M : Model} {A : Around} {E : Value → Shared → Prop} {i : Nat} {x : Str} {v : V} {u : Value} {Q : Unit → Shared → Prop} (I : Inv X pins σ H s) (hN : X.N.Nodup) (hi : X.N[i]? = some x) (hx : Loc X.env.scope x) (r : RelV v u)
    (h : ∀ s', Inv X pins (σ.set i (some v)) H s' → (∃ a, Heap.SameBut a s.heap s'.heap ∧ (a = X.env.locals ∨ X.env.cells.lookup x = some a)) → Q () s') (hf : X.fn x = true ∨ X.env.scope.names.lookup x = some .local := by first | exact .inl rfl | exact .inr rfl | assumption) : wpAny M A (storeName X.env x u) Q E s := by
  obtain ⟨m, hn, hl⟩ := id I.loc
  have hcls : (X.env.scope.kind == .class || (X.env.scope.kind == .module && X.env.locals != X.env.globals)) = false := by rw [I.ok.kind]; rfl
  have hiσ : i < σ.length := by rw [I.len]; exact (List.getElem?_eq_some_iff.mp hi).1
  have cne := I.cne
  have tracked : ∀ {a : Addr} {h' : Heap}, (∃ o, s.heap.get? a = some o ∧ H a = none) → Heap.SameBut a s.heap h' → HOk X.prog X.w H h' := fun {a h'} ha hs b ob e => by
    obtain ⟨_, _, hfree⟩ := ha
    refine (I.hok b ob e).stay (fun c w' hc q => (hs.2 c ?_).trans q) (fun _ q => q) fun _ _ q => q
    rintro rfl
    rcases hc with rfl | hc
    · rw [hfree] at e; cases e
    · rw [hfree] at hc; cases hc
  rcases hx with hk | hk
  · refine wpAny_storeName_local hk hn (fun h' hn' hs => ?_) hcls
    obtain ⟨oL, _, _, hoL, _⟩ := id hn
    refine h _ ⟨I.ok, I.os, I.bare, ⟨fun b o e n hb hx => ?_, fun b o e n hb hx => ?_, I.base.free, fun b o e hx => ?_, I.base.tups, I.base.frzs, I.base.tbls⟩, ⟨_, hn', fun j y v' e1 e2 e3 => ?_⟩, fun y c e => ?_, I.free, I.freeC, fun p hp => ?_, tracked ⟨oL, hoL, I.free⟩ hs, by simpa using I.len⟩ ⟨_, hs, .inl rfl⟩
    · exact (hs.2 b (Nat.ne_of_lt (Nat.lt_of_lt_of_le (Heap.lt_size e) I.ok.above))).trans (I.base.keep b o e n hb hx)
    · obtain ⟨sl, e1⟩ := I.base.slot b o e n hb hx
      exact ⟨sl, (hs.2 b (Nat.ne_of_lt (Nat.lt_of_lt_of_le (Heap.lt_size e) I.ok.above))).trans e1⟩
    · obtain ⟨o', e1⟩ := I.base.there b o e hx
      exact ⟨o', (hs.2 b (Nat.ne_of_lt (Nat.lt_of_lt_of_le (Heap.lt_size e) I.ok.above))).trans e1⟩
    · by_cases hj : j = i
      · subst hj
        rw [hi] at e1; cases e1
        rw [List.getElem?_set_self hiσ] at e2
        cases e2
        exact ⟨u, r, .inl ⟨hk, by simp⟩⟩
      · rw [List.getElem?_set_ne (Ne.symm hj)] at e2
        obtain ⟨u', r', q⟩ := hl j y v' e1 e2 e3
        refine ⟨u', r', ?_⟩
        rcases q with ⟨k, e⟩ | ⟨k, c, e, z⟩
        · refine .inl ⟨k, ?_⟩
          have : y ≠ x := fun e => hj (nodup_ix hN e1 (e ▸ hi))
          simp [this, e]
        · exact .inr ⟨k, c, e, z.sameBut hs (cne y c e)⟩
    · obtain ⟨w', z⟩ := I.cell y c e
      exact ⟨w', z.sameBut hs (cne y c e)⟩
    · obtain ⟨e, n, ne, nf, d⟩ := I.pin p hp
      exact ⟨(hs.2 p.1 ne).trans e, n, ne, nf, d⟩
  · have hfn : X.fn x = true := by
      rcases hf with z | z
      · exact z
      · rw [z] at hk; cases hk
    obtain ⟨c, hc⟩ := I.ok.has x (.inl hk)
    obtain ⟨w', z⟩ := I.cell x c hc
    refine wpAny_storeName_cell I.ok.kind hk hc z (fun h' hc' hs => ?_)
    obtain ⟨oc, hoc, hocd⟩ := id z
    refine h { s with heap := h' } ⟨I.ok, I.os, I.bare, ⟨fun b o e n hb hx => ?_, fun b o e n hb hx => ?_, I.base.free, fun b o e hx => ?_, I.base.tups, I.base.frzs, I.base.tbls⟩, ⟨m, hn.sameBut hs (Ne.symm (cne x c hc)), fun j y v' e1 e2 e3 => ?_⟩, fun y c' e => ?_, I.free, I.freeC, fun p hp => ?_, tracked ⟨oc, hoc, I.freeC x c hc⟩ hs, by simpa using I.len⟩ ⟨c, hs, .inr hc⟩
    · exact (hs.2 b (Nat.ne_of_lt (Nat.lt_of_lt_of_le (Heap.lt_size e) (I.ok.cab x c hfn hc)))).trans (I.base.keep b o e n hb hx)
    · obtain ⟨sl, e1⟩ := I.base.slot b o e n hb hx
      exact ⟨sl, (hs.2 b (Nat.ne_of_lt (Nat.lt_of_lt_of_le (Heap.lt_size e) (I.ok.cab x c hfn hc)))).trans e1⟩
    · obtain ⟨o', e1⟩ := I.base.there b o e hx
      exact ⟨o', (hs.2 b (Nat.ne_of_lt (Nat.lt_of_lt_of_le (Heap.lt_size e) (I.ok.cab x c hfn hc)))).trans e1⟩
    · by_cases hj : j = i
      · subst hj
        rw [hi] at e1; cases e1
        rw [List.getElem?_set_self hiσ] at e2
        cases e2
        exact ⟨u, r, .inr ⟨.inl hk, c, hc, hc'⟩⟩
      · rw [List.getElem?_set_ne (Ne.symm hj)] at e2
        obtain ⟨u', r', q⟩ := hl j y v' e1 e2 e3
        refine ⟨u', r', ?_⟩
        rcases q with q | ⟨k, c', e, z'⟩
        · exact .inl q
        · refine .inr ⟨k, c', e, z'.sameBut hs ?_⟩
          rintro rfl
          exact hj (nodup_ix hN e1 (I.ok.inj _ _ _ e hc ▸ hi))
    · by_cases hcc : c' = c
      · subst hcc; exact ⟨_, hc'⟩
      · obtain ⟨w2, z2⟩ := I.cell y c' e
        exact ⟨w2, z2.sameBut hs hcc⟩
    · obtain ⟨e, n, ne, nf, d⟩ := I.pin p hp
      refine ⟨(hs.2 p.1 ?_).trans e, n, ne, nf, d⟩
      intro q
      rw [q, hoc] at e
      have q' : oc = p.2 := Option.some.inj e
      exact d w' (by rw [← q']; exact hocd)
theorem store_ok {M : Model} {A : Around} {E : Value → Shared → Prop} {i : Nat} {x : Str} {v : V} {u : Value} {Q : Unit → Shared → Prop} (I : Inv X pins σ H s) (hN : X.N.Nodup) (hi : X.N[i]? = some x) (hx : Loc X.env.scope x) (r : RelV v u)
    (h : ∀ s', Inv X pins (σ.set i (some v)) H s' → Q () s') (hf : X.fn x = true ∨ X.env.scope.names.lookup x = some .local := by first | exact .inl rfl | exact .inr rfl | assumption) : wpAny M A (storeName X.env x u) Q E s :=
  store_ok2 I hN hi hx r (fun s' I' _ => h s' I') hf
theorem Inv.call' {s' : Shared} {ch : List Addr} (I : Inv X pins σ H s) (ho : s'.os = s.os) (u : Un (frs X.stack) ch H H' s.heap s'.heap) (hok : HOk X.prog X.w H' s'.heap) (hg : AllBare s'.gens)
    (hch : ∀ b ∈ ch, (b ∈ X.ex ∨ X.s₀.heap.objs.size ≤ b) ∧ b ≠ X.env.locals ∧ (∀ x c, X.env.cells.lookup x = some c → c ≠ b) ∧ ∀ p ∈ X.pn ++ pins, p.1 ≠ b) : Inv X pins σ H' s' := by
  obtain ⟨h', g', d', t', o'⟩ := s'
  have e : o' = s.os := ho
  subst e
  exact I.call (g' := g') (t' := t') (d' := d') u hok hg hch
end

abbrev XK := Value → Option Addr → Hp → Prop
abbrev St := List (Option V)
abbrev VK := V → Hp → Prop
abbrev TE := St → Hp → VK → Prop
abbrev TT := St → Hp → (Bool → Hp → Prop) → Prop
abbrev TA := St → Hp → (List V → Hp → Prop) → Prop
structure Ends where
  nx : St → Hp → Prop
  rt : VK
  bk : St → Hp → Prop := fun _ _ => False
  ct : St → Hp → Prop := fun _ _ => False
abbrev TS := Ends → St → Hp → Prop

def EP (X : Cx) (pins : List (Addr × Obj)) (σ : St) (Q : VK) (u : Value) (s' : Shared) : Prop := ∃ v H', Inv X pins σ H' s' ∧ RelV v u ∧ Q v H'
def TP (X : Cx) (pins : List (Addr × Obj)) (σ : St) (Q : Bool → Hp → Prop) (b : Bool) (s' : Shared) : Prop := ∃ H', Inv X pins σ H' s' ∧ Q b H'
def AP (X : Cx) (pins : List (Addr × Obj)) (σ : St) (Q : List V → Hp → Prop) (us : List Value) (s' : Shared) : Prop := ∃ vs H', Inv X pins σ H' s' ∧ Vals vs us ∧ Q vs H'
def SP (X : Cx) (pins : List (Addr × Obj)) (D : Ends) (f : Flow) (s' : Shared) : Prop :=
  match f with
  | .next => ∃ σ' H', Inv X pins σ' H' s' ∧ D.nx σ' H'
  | .brk => ∃ σ' H', Inv X pins σ' H' s' ∧ D.bk σ' H'
  | .cont => ∃ σ' H', Inv X pins σ' H' s' ∧ D.ct σ' H'
  | .ret u => ∃ v σ' H', Inv X pins σ' H' s' ∧ RelV v u ∧ D.rt v H'

def PE (X : Cx) (e : Expr) (t : TE) : Prop :=
  ∀ (pins : List (Addr × Obj)) (s : Shared) (σ : St) (H : Hp) (Q : VK), Inv X pins σ H s → t σ H Q → wpAny (model X.prog X.w) X.A (eval e X.env) (EP X pins σ Q) X.xe s
def PT (X : Cx) (e : Expr) (t : TT) : Prop :=
  ∀ (pins : List (Addr × Obj)) (s : Shared) (σ : St) (H : Hp) (Q : Bool → Hp → Prop), Inv X pins σ H s → t σ H Q → wpAny (model X.prog X.w) X.A (isTrue e X.env (eval e X.env)) (TP X pins σ Q) X.xe s
def PW (X : Cx) (e : Expr) (t : TT) : Prop :=
  ∀ (whole : Sem Value) (pins : List (Addr × Obj)) (s : Shared) (σ : St) (H : Hp) (Q : Bool → Hp → Prop), Inv X pins σ H s → t σ H Q → wpAny (model X.prog X.w) X.A (isTrue e X.env whole) (TP X pins σ Q) X.xe s
theorem PW.pt {X : Cx} {e : Expr} {t : TT} (h : PW X e t) : PT X e t := h _
def PA (X : Cx) (es : List Expr) (t : TA) : Prop :=
  ∀ (pos : Pos) (pins : List (Addr × Obj)) (s : Shared) (σ : St) (H : Hp) (Q : List V → Hp → Prop), Inv X pins σ H s → t σ H Q → wpAny (model X.prog X.w) X.A (spliced (backTo pos (starEach es X.env))) (AP X pins σ Q) X.xe s
def PS (X : Cx) (st : Stmt) (t : TS) : Prop :=
  ∀ (pins : List (Addr × Obj)) (s : Shared) (σ : St) (H : Hp) (D : Ends), Inv X pins σ H s → t D σ H → wpAny (model X.prog X.w) X.A (exec st X.env) (SP X pins D) X.xe s
def PSs (X : Cx) (st : List Stmt) (t : TS) : Prop :=
  ∀ (pins : List (Addr × Obj)) (s : Shared) (σ : St) (H : Hp) (D : Ends), Inv X pins σ H s → t D σ H → wpAny (model X.prog X.w) X.A (execs st X.env) (SP X pins D) X.xe s
theorem thn {α : Type} {t : Sem α} {Q Q' : α → Shared → Prop} {M : Model} {A : Around} {E : Value → Shared → Prop} {s : Shared} (h : wpAny M A t Q E s) (hQ : ∀ a s, Q a s → Q' a s) : wpAny M A t Q' E s := wpAny_mono h hQ fun _ _ x => x
end L2

namespace L2
open PySem PySem.Spec PyProof.Rows
section
variable {X : Cx}

def tVar (i : Nat) : TE := fun σ H Q => ∃ v, σ[i]? = some (some v) ∧ Q v H
def tC (v : V) : TE := fun _ H Q => Q v H
theorem pe_var {i : Nat} {x : Str} {pos : Pos} (hN : X.N[i]? = some x) (hv : Vis X.env.scope x) (hd : (x == ("__debug__" : Str)) = false := by decide) (hcd : (x == ("__classdict__" : Str)) = false := by decide) : PE X (.Name x pos) (tVar i) := by
  intro pins s σ H Q I h
  obtain ⟨v, e, h⟩ := h
  obtain ⟨m, hn, hl⟩ := I.loc
  obtain ⟨u, r, l⟩ := hl i x v hN e hv
  have fin : EP X pins σ Q u s := ⟨v, H, I, r, h⟩
  rcases l with ⟨hk, hm⟩ | ⟨hk, c, hc, hcell⟩
  · exact wpAny_Name (wpAny_loadName_local I.ok.kind hk hn hm fin) hd
  · rcases hk with hk | hk
    · exact wpAny_Name (wpAny_loadName_cell I.ok.kind hk hc hcell fin) hd
    · exact wpAny_Name (wpAny_loadName_free I.ok.kind hk hc hcell fin hcd) hd
theorem pe_int {i j pos} : PE X (.Constant (.int i) j pos) (tC (.int i)) := fun _ _ _ H _ I h => wpAny_Constant_int ⟨.int i, H, I.tok _, ⟨_, rfl⟩, h⟩
theorem pe_bl {b j pos} : PE X (.Constant (.bool b) j pos) (tC (.bl b)) := fun _ _ _ H _ I h => Constant_bool ⟨.bl b, H, I, rfl, h⟩
theorem pe_non {j pos} : PE X (.Constant .none j pos) (tC .non) := fun _ _ _ H _ I h => Constant_none ⟨.non, H, I, rfl, h⟩
theorem pe_str {x j pos} : PE X (.Constant (.str x) j pos) (tC (.str x)) := fun _ _ _ H _ I h => Calls.Constant_str ⟨.str x, H, I.tok _, ⟨_, rfl⟩, h⟩

def Gl (X : Cx) (x : Str) : Prop := X.env.kindOf x = some .globalImplicit
theorem ld_glob {E : Value → Shared → Prop} {pins : List (Addr × Obj)} {s : Shared} {σ : St} {H : Hp} {x : Str} {u : Value} {pos : Pos} {Q : Value → Shared → Prop} (I : Inv X pins σ H s) (hg : Gl X x) (hm : X.mg x = some u) (h : Q u s)
    (hd : (x == ("__debug__" : Str)) = false := by decide) : wpAny (model X.prog X.w) X.A (eval (.Name x pos) X.env) Q E s :=
  Calls.Name_function_global I.ok.kind hg (Calls.loadGlobal_global (by rw [I.ok.glob]; exact I.mod.glob.keeps I.bk) hm h) hd
theorem ld_blt {E : Value → Shared → Prop} {pins : List (Addr × Obj)} {s : Shared} {σ : St} {H : Hp} {x : Str} {u : Value} {pos : Pos} {Q : Value → Shared → Prop} (I : Inv X pins σ H s) (hg : Gl X x) (hm : X.mg x = none) (hv : bootBuiltins x = some u) (h : Q u s)
    (hn : x ≠ "__name__" := by decide) (hd : (x == ("__debug__" : Str)) = false := by decide) : wpAny (model X.prog X.w) X.A (eval (.Name x pos) X.env) Q E s := by
  obtain ⟨mb, h1, h2⟩ := I.mod.blt
  exact Calls.Name_function_global I.ok.kind hg (Calls.loadGlobal_builtin (by rw [I.ok.glob]; exact I.mod.glob.keeps I.bk) hm (by rw [I.ok.blt]; exact h1.keeps I.bk) ((h2 x hn).trans hv) h) hd
theorem pe_glob {x : Str} {v : V} {u : Value} {pos : Pos} (hg : Gl X x) (hm : X.mg x = some u) (r : RelV v u) (hd : (x == ("__debug__" : Str)) = false := by decide) : PE X (.Name x pos) (tC v) :=
  fun _ _ _ H _ I h => ld_glob I hg hm ⟨v, H, I, r, h⟩ hd
theorem pe_bltn {x : Str} {v : V} {u : Value} {pos : Pos} (hg : Gl X x) (hm : X.mg x = none) (hv : bootBuiltins x = some u) (r : RelV v u) (hn : x ≠ "__name__" := by decide) (hd : (x == ("__debug__" : Str)) = false := by decide) : PE X (.Name x pos) (tC v) :=
  fun _ _ _ H _ I h => ld_blt I hg hm hv ⟨v, H, I, r, h⟩ hn hd

variable {a b : Expr} {ta tb : TE} {pos : Pos}
def PC (X : Cx) (op : CmpOp) (a b : Expr) (t : TE) : Prop :=
  ∀ (pins : List (Addr × Obj)) (s : Shared) (σ : St) (H : Hp) (Q : VK), Inv X pins σ H s → t σ H Q →
    wpAny (model X.prog X.w) X.A (eval a X.env) (fun v s₁ => wpAny (model X.prog X.w) X.A (eval b X.env) (fun u s₂ => wpAny (model X.prog X.w) X.A (compareOp op v u) (EP X pins σ Q) X.xe s₂) X.xe s₁) X.xe s
def tB (t : TE) : TT := fun σ H Q => t σ H fun x H1 => ∃ c, x = .bl c ∧ Q c H1
theorem pt_val {e : Expr} {t : TE} (h : PE X e t) (he : ∀ whole, isTrue e X.env whole = (do let v ← whole; standAt e.pos; holding [v] (truthy v)) := by intro _; rfl) : PT X e (tB t) := by
  intro pins s σ H Q I hw
  refine isTrue_plain (thn (h pins s σ H _ I hw) fun v s1 ⟨x, H1, I1, r1, q1⟩ => ?_) (he _)
  obtain ⟨d, rfl, q⟩ := q1
  cases r1
  exact wpAny_truthy_bool ⟨H1, I1, q⟩

variable {tA tB' : TT} {rest : List Expr}
def tAnd (t u : TT) : TT := fun σ H Q => t σ H fun c H1 => if c = true then u σ H1 Q else Q false H1
def tOr (t u : TT) : TT := fun σ H Q => t σ H fun c H1 => if c = true then Q true H1 else u σ H1 Q
def tNot (t : TT) : TT := fun σ H Q => t σ H fun c H1 => Q (!c) H1
theorem pw_or1 (ha : PT X a tA) : PW X (.BoolOp .Or [a] pos) tA := by
  intro wh pins s σ H Q I h
  refine isTrue_or (thn (ha pins s σ H Q I h) fun c s1 e => ?_)
  cases c with
  | false => exact isTrue_or_nil e
  | true => exact e
theorem pw_or (ha : PT X a tA) (hb : PW X (.BoolOp .Or (b :: rest) pos) tB') : PW X (.BoolOp .Or (a :: b :: rest) pos) (tOr tA tB') := by
  intro wh pins s σ H Q I h
  refine isTrue_or (thn (ha pins s σ H _ I h) fun c s1 ⟨H1, I1, q1⟩ => ?_)
  cases c with
  | true => exact ⟨H1, I1, q1⟩
  | false => exact hb wh pins s1 σ H1 Q I1 q1
theorem pt_not (ha : PT X a tA) : PT X (.UnaryOp .Not a pos) (tNot tA) := by
  intro pins s σ H Q I h
  exact isTrue_not (ha pins s σ H (fun c H1 => Q (!c) H1) I h)
def tAndV (ta tb : TE) : TE := fun σ H Q => ta σ H fun x H1 => ∃ c, x = .bl c ∧ if c = true then tb σ H1 Q else Q (.bl false) H1
def tOrV (ta tb : TE) : TE := fun σ H Q => ta σ H fun x H1 => ∃ c, x = .bl c ∧ if c = true then Q (.bl true) H1 else tb σ H1 Q
def tNotV (ta : TE) : TE := fun σ H Q => ta σ H fun x H1 => ∃ c, x = .bl c ∧ Q (.bl (!c)) H1
theorem pe_one {op} {t : TE} (h : PE X a t) : PE X (.BoolOp op [a] pos) t := fun pins s σ H Q I hw => BoolOp_one (h pins s σ H Q I hw)
theorem pe_and (ha : PE X a ta) (hb : PE X (.BoolOp .And (b :: rest) pos) tb) : PE X (.BoolOp .And (a :: b :: rest) pos) (tAndV ta tb) := by
  intro pins s σ H Q I h
  refine BoolOp_and (thn (ha pins s σ H _ I h) fun v s1 ⟨x, H1, I1, r1, q1⟩ => ?_)
  obtain ⟨c, rfl, q1⟩ := q1
  cases r1
  refine wpAny_truthy_bool ?_
  cases c with
  | true => exact hb pins s1 σ H1 Q I1 q1
  | false => exact ⟨.bl false, H1, I1, rfl, q1⟩
theorem pe_not (ha : PE X a ta) : PE X (.UnaryOp .Not a pos) (tNotV ta) := by
  intro pins s σ H Q I h
  refine UnaryOp_ (thn (ha pins s σ H _ I h) fun v s1 ⟨x, H1, I1, r1, q1⟩ => ?_)
  obtain ⟨c, rfl, q1⟩ := q1
  cases r1
  exact not_of (wpAny_truthy_bool ⟨.bl (!c), H1, I1, rfl, q1⟩)
def tIf (t : TT) (ta tb : TE) : TE := fun σ H Q => t σ H fun c H1 => if c = true then ta σ H1 Q else tb σ H1 Q
theorem pe_ifExp {c : Expr} (hc : PT X c tA) (ha : PE X a ta) (hb : PE X b tb) : PE X (.IfExp c a b pos) (tIf tA ta tb) := by
  intro pins s σ H Q I h
  refine wpAny_IfExp (thn (hc pins s σ H _ I h) fun d s1 ⟨H1, I1, q1⟩ => ?_)
  cases d with
  | true => exact ha pins s1 σ H1 Q I1 q1
  | false => exact hb pins s1 σ H1 Q I1 q1
end
end L2

namespace L2
open PySem PySem.Spec PyProof.Rows

def SqL (K : PySem.W.Frag) (H : Hp) (a : Addr) (xs : List V) : Prop :=
  Rd H a (.lst xs) ∨
    ∃ (o : Obj) (its : Array Value) (n : Nat), K.lookup a = some o ∧ o.cls = .type "list" ∧ o.dict = none ∧ o.data = .seq its n ∧ its.size ≤ sizeLine ∧ Vals xs its.toList
def SqT (K : PySem.W.Frag) (H : Hp) (a : Addr) (xs : List V) : Prop :=
  Rd H a (.tup xs) ∨
    ∃ (o : Obj) (its : Array Value) (n : Nat), K.lookup a = some o ∧ o.cls = .type "tuple" ∧ o.data = .seq its n ∧ its.size ≤ sizeLine ∧ Vals xs its.toList
def absV : Value → Option V
  | .none => some .non
  | .bool b => some (.bl b)
  | .int i _ => some (.int i)
  | .str x _ => some (.str x)
  | .bytes b _ => some (.byt b)
  | .float b _ => some (.flt b)
  | .ref a => some (.ref a)
  | .type n => some (.ty n)
  | _ => none
theorem RelV.abs {x : V} {u : Value} (r : RelV x u) : absV u = some x := by
  cases x with
  | non => cases r; rfl
  | bl _ => cases r; rfl
  | int _ => obtain ⟨t, rfl⟩ := r; rfl
  | str _ => obtain ⟨t, rfl⟩ := r; rfl
  | byt _ => obtain ⟨t, rfl⟩ := r; rfl
  | flt _ => obtain ⟨t, rfl⟩ := r; rfl
  | ref _ => cases r; rfl
  | ty _ => cases r; rfl
theorem RelV.inj {x y : V} {u : Value} (r : RelV x u) (q : RelV y u) : x = y := Option.some.inj (r.abs.symm.trans q.abs)
theorem Vals.inj : ∀ {xs ys : List V} {us : List Value}, Vals xs us → Vals ys us → xs = ys
  | _, _, _, .nil, .nil => rfl
  | _, _, _, .cons r t, .cons r' t' => by rw [r.inj r', Vals.inj t t']
section
variable {X : Cx} {pins : List (Addr × Obj)} {σ : St} {H : Hp} {s : Shared} {a : Addr} {xs ys : List V}
theorem SqL.of {K : PySem.W.Frag} (h : H a = some (.lst xs)) : SqL K H a xs := .inl (.inl h)
theorem SqT.of {K : PySem.W.Frag} (h : H a = some (.tup xs)) : SqT K H a xs := .inl (.inl h)
theorem Inv.list (I : Inv X pins σ H s) (h : SqL X.K H a xs) : ∃ its : List Value, Vals xs its ∧ PlainL s.heap a its.toArray ∧ xs.length ≤ sizeLine := by
  rcases h with h | ⟨o, its, n, hk, hc, hd, hs, hz, r⟩
  · obtain ⟨z, its, n, r, e⟩ := h.ok I.hok
    exact ⟨its, r, ⟨_, n, e, rfl, rfl, rfl⟩, z⟩
  · refine ⟨its.toList, r, ⟨o, n, I.kIn a o hk, hc, hd, by simpa using hs⟩, ?_⟩
    have e := r.length
    simp only [Array.length_toList] at e
    omega
theorem Inv.tuple (I : Inv X pins σ H s) (h : SqT X.K H a xs) : ∃ its : List Value, Vals xs its ∧ IsTup s.heap a its.toArray ∧ xs.length ≤ sizeLine := by
  rcases h with h | ⟨o, its, n, hk, hc, hs, hz, r⟩
  · obtain ⟨z, its, r, p⟩ := h.ok I.hok
    exact ⟨its, r, p, z⟩
  · refine ⟨its.toList, r, ⟨o, I.kIn a o hk, hc, n, by simpa using hs⟩, ?_⟩
    have e := r.length
    simp only [Array.length_toList] at e
    omega
theorem Inv.list_inj (I : Inv X pins σ H s) (h : SqL X.K H a xs) (h' : SqL X.K H a ys) : xs = ys := by
  obtain ⟨its, r, ⟨o, n, e, _, _, d⟩, _⟩ := I.list h
  obtain ⟨its', r', ⟨o', n', e', _, _, d'⟩, _⟩ := I.list h'
  rw [e] at e'; cases e'
  rw [d] at d'
  injection d' with d1 _
  have : its = its' := by simpa using congrArg Array.toList d1
  subst this
  exact r.inj r'
end

abbrev Cx.wish (X : Cx) (E : Value → Shared → Prop) : Cx := { X with xe := E }
abbrev Cx.nox (X : Cx) : Cx := X.wish fun _ _ => False
theorem Cx.Ok.wish {X : Cx} (ok : X.Ok) (E : Value → Shared → Prop) : (X.wish E).Ok :=
  ⟨ok.mod, ok.kind, ok.glob, ok.blt, ok.above, ok.inj, ok.has, ok.cab, ok.hd, ok.frames, ok.stk, ok.exf, ok.bs, ok.bsz, ok.noex, ok.exfs, ok.funs, ok.frf⟩
theorem Cx.Ok.unwish {X : Cx} {E : Value → Shared → Prop} (ok : (X.wish E).Ok) : X.Ok :=
  ⟨ok.mod, ok.kind, ok.glob, ok.blt, ok.above, ok.inj, ok.has, ok.cab, ok.hd, ok.frames, ok.stk, ok.exf, ok.bs, ok.bsz, ok.noex, ok.exfs, ok.funs, ok.frf⟩
section
variable {X : Cx} {pins : List (Addr × Obj)} {σ : St} {H : Hp} {s : Shared} {E : Value → Shared → Prop}
theorem Inv.wish (I : Inv X pins σ H s) (E : Value → Shared → Prop) : Inv (X.wish E) pins σ H s := ⟨I.ok.wish E, I.os, I.bare, I.base, I.loc, I.cell, I.free, I.freeC, I.pin, I.hok, I.len⟩
theorem Inv.unwish (I : Inv (X.wish E) pins σ H s) : Inv X pins σ H s := ⟨I.ok.unwish, I.os, I.bare, I.base, I.loc, I.cell, I.free, I.freeC, I.pin, I.hok, I.len⟩
theorem SP.unwish {D : Ends} {f : Flow} {s' : Shared} (h : SP (X.wish E) pins D f s') : SP X pins D f s' := by
  cases f with
  | next => obtain ⟨σ', H', I, q⟩ := h; exact ⟨σ', H', I.unwish, q⟩
  | brk => obtain ⟨σ', H', I, q⟩ := h; exact ⟨σ', H', I.unwish, q⟩
  | cont => obtain ⟨σ', H', I, q⟩ := h; exact ⟨σ', H', I.unwish, q⟩
  | ret u => obtain ⟨v, σ', H', I, r, q⟩ := h; exact ⟨v, σ', H', I.unwish, r, q⟩
theorem PE.nox {e : Expr} {t : TE} (h : PE X.nox e t) : PE X e t := fun pins s σ H Q I hw =>
  wpAny_mono (h pins s σ H Q (I.wish _) hw) (fun _ _ ⟨v, H', I', r, q⟩ => ⟨v, H', I'.unwish, r, q⟩) fun _ _ z => False.elim z
theorem PT.nox {e : Expr} {t : TT} (h : PT X.nox e t) : PT X e t := fun pins s σ H Q I hw =>
  wpAny_mono (h pins s σ H Q (I.wish _) hw) (fun _ _ ⟨H', I', q⟩ => ⟨H', I'.unwish, q⟩) fun _ _ z => False.elim z
theorem PSs.nox {st : List Stmt} {t : TS} (h : PSs X.nox st t) : PSs X st t := fun pins s σ H D I hw =>
  wpAny_mono (h pins s σ H D (I.wish _) hw) (fun _ _ q => q.unwish) fun _ _ z => False.elim z
end

section
variable {X : Cx} {st : Stmt} {rest : List Stmt} {t u : TS} {e : Expr} {te : TE} {pos : Pos}
def tNext : TS := fun D σ H => D.nx σ H
def tSeq (t u : TS) : TS := fun D σ H => t { D with nx := u D } σ H
theorem pss_nil : PSs X [] tNext := fun _ _ σ H _ I h => wpAny_execs_nil ⟨σ, H, I, h⟩
theorem pss_cons (h1 : PS X st t) (h2 : PSs X rest u) : PSs X (st :: rest) (tSeq t u) := by
  intro pins s σ H D I h
  refine wpAny_execs_cons (thn (h1 pins s σ H { D with nx := u D } I h) fun f s1 q => ?_)
  cases f with
  | next =>
    obtain ⟨σ', H', I', q⟩ := q
    exact h2 pins s1 σ' H' D I' q
  | ret v => exact q
  | brk => exact q
  | cont => exact q
theorem pss_one (h1 : PS X st t) : PSs X [st] t := by
  intro pins s σ H D I h
  refine wpAny_execs_cons (thn (h1 pins s σ H D I h) fun f s1 q => ?_)
  cases f with
  | next => exact wpAny_execs_nil q
  | ret v => exact q
  | brk => exact q
  | cont => exact q
def tBreak : TS := fun D σ H => D.bk σ H
def tCont : TS := fun D σ H => D.ct σ H
theorem Inv.quiet {pins : List (Addr × Obj)} {σ : St} {H : Hp} {s : Shared} (I : Inv X pins σ H s) : interactive X.env = false := by simp [interactive, I.ok.kind]
def tDrop (te : TE) : TS := fun D σ H => te σ H fun _ H1 => D.nx σ H1
def tRet (te : TE) : TS := fun D σ H => te σ H D.rt
theorem ps_ret (he : PE X e te) : PS X (.Return (some e) pos) (tRet te) := by
  intro pins s σ H D I h
  exact wpAny_Return_some (thn (he pins s σ H _ I h) fun v s1 ⟨x, H1, I1, r1, q1⟩ => ⟨x, σ, H1, I1, r1, q1⟩)
def tIfS (c : TT) (t u : TS) : TS := fun D σ H => c σ H fun b H1 => if b = true then t D σ H1 else u D σ H1
theorem ps_if {c : Expr} {a b : List Stmt} {tc : TT} (hc : PT X c tc) (ha : PSs X a t) (hb : PSs X b u) : PS X (.If c a b pos) (tIfS tc t u) := by
  intro pins s σ H D I h
  refine wpAny_If (thn (hc pins s σ H _ I h) fun d s1 ⟨H1, I1, q1⟩ => ?_)
  cases d with
  | true => exact ha pins s1 σ H1 D I1 q1
  | false => exact hb pins s1 σ H1 D I1 q1
end

abbrev TG := V → St → Hp → (St → Hp → Prop) → Prop
abbrev TGs := List V → St → Hp → (St → Hp → Prop) → Prop
def PG (X : Cx) (target : Expr) (t : TG) : Prop :=
  ∀ (pins : List (Addr × Obj)) (s : Shared) (σ : St) (H : Hp) (v : V) (u : Value) (Q : St → Hp → Prop), Inv X pins σ H s → RelV v u → t v σ H Q →
    wpAny (model X.prog X.w) X.A (assign target X.env u) (fun _ s' => ∃ σ' H', Inv X pins σ' H' s' ∧ Q σ' H') X.xe s
def PGs (X : Cx) (ts : List Expr) (t : TGs) : Prop :=
  ∀ (pins : List (Addr × Obj)) (s : Shared) (σ : St) (H : Hp) (vs : List V) (us : List Value) (Q : St → Hp → Prop), Inv X pins σ H s → Vals vs us → t vs σ H Q →
    wpAny (model X.prog X.w) X.A (assignInOrder ((assignEach ts X.env).map (·.2)) us) (fun _ s' => ∃ σ' H', Inv X pins σ' H' s' ∧ Q σ' H') X.xe s
abbrev TSet := V → V → V → Hp → (Hp → Prop) → Prop
def PSet (X : Cx) (t : TSet) : Prop :=
  ∀ (pins : List (Addr × Obj)) (s : Shared) (σ : St) (H : Hp) (o i v : V) (ov iv u : Value) (Q : Hp → Prop), Inv X pins σ H s → RelV o ov → RelV i iv → RelV v u → t o i v H Q →
    wpAny (model X.prog X.w) X.A (setItem ov iv u) (fun _ s' => ∃ H', Inv X pins σ H' s' ∧ Q H') X.xe s
abbrev TIp := V → V → Hp → VK → Prop
def PIp (X : Cx) (op : Operator) (t : TIp) : Prop :=
  ∀ (pins : List (Addr × Obj)) (s : Shared) (σ : St) (H : Hp) (x y : V) (v u : Value) (Q : VK), Inv X pins σ H s → RelV x v → RelV y u → t x y H Q →
    wpAny (model X.prog X.w) X.A (inplaceOp op v u) (EP X pins σ Q) X.xe s
section
variable {X : Cx} {pos : Pos}
def gName (i : Nat) : TG := fun v σ H Q => Q (σ.set i (some v)) H
theorem pg_name {i : Nat} {x : Str} (hN : X.N.Nodup) (hi : X.N[i]? = some x) (hx : Loc X.env.scope x) (hf : X.fn x = true ∨ X.env.scope.names.lookup x = some .local := by first | exact .inl rfl | exact .inr rfl | assumption) : PG X (.Name x pos) (gName i) := by
  intro pins s σ H v u Q I r h
  exact wpAny_assign_Name (store_ok I hN hi hx r (fun s' I' => ⟨_, H, I', h⟩) hf)
def gNil : TGs := fun vs σ H Q => vs = [] ∧ Q σ H
def gCons (t : TG) (u : TGs) : TGs := fun vs σ H Q => ∃ v r, vs = v :: r ∧ t v σ H fun σ' H' => u r σ' H' Q
theorem pgs_nil : PGs X [] gNil := by
  intro pins s σ H vs us Q I r h
  obtain ⟨e, h⟩ := h
  subst e
  cases r
  exact assignInOrder_nil ⟨σ, H, I, h⟩
theorem pgs_cons {e : Expr} {es : List Expr} {t : TG} {u : TGs} (h1 : PG X e t) (h2 : PGs X es u)
    (hs : (assignEach (e :: es) X.env).map (·.2) = assign e X.env :: (assignEach es X.env).map (·.2) := by rfl) : PGs X (e :: es) (gCons t u) := by
  intro pins s σ H vs us Q I r h
  obtain ⟨v, vr, e1, h⟩ := h
  subst e1
  cases r with
  | cons r rr =>
    rw [hs]
    refine assignInOrder_cons (thn (h1 pins s σ H _ _ _ I r h) fun _ s1 ⟨σ1, H1, I1, q1⟩ => ?_)
    exact h2 pins s1 σ1 H1 _ _ Q I1 rr q1
def gTup (K : PySem.W.Frag) (n : Nat) (t : TGs) : TG := fun v σ H Q => ∃ a xs, v = .ref a ∧ SqT K H a xs ∧ xs.length = n ∧ t xs σ H Q
theorem pg_tup {es : List Expr} {k : Nat} {t : TGs} {n : Nat} (hc : X.calm = true) (h : PGs X es t)
    (hn : (assignEach es X.env).length = n := by rfl) (hst : (assignEach es X.env).findIdx? (·.1) = none := by rfl) : PG X (.Tuple es k pos) (gTup X.K n t) := by
  intro pins s σ H v u Q I r hw
  obtain ⟨a, xs, e1, hq, hl, hw⟩ := hw
  subst e1
  cases r
  obtain ⟨its, rv, ht, hz⟩ := I.tuple hq
  refine assign_Tuple_tuple (I.ok.hd hc) ht (by simp [hn, ← hl, rv.length]) hst fun h' hx => ?_
  have I1 : Inv X pins σ H { s with heap := h' } := I.kept (t' := s.toks) fun b o e => hx b o (Nat.ne_of_lt (Heap.lt_size e)) e
  exact h pins _ σ H xs _ Q I1 (by simpa using rv) hw
def gSub (to ti : TE) (t : TSet) : TG := fun v σ H Q => to σ H fun o H1 => ti σ H1 fun i H2 => t o i v H2 fun H3 => Q σ H3
def tAsg (te : TE) (g : TG) : TS := fun D σ H => te σ H fun x H1 => g x σ H1 D.nx
theorem ps_set {i : Nat} {x : Str} {e : Expr} {te : TE} {pos' : Pos} (hN : X.N.Nodup) (hi : X.N[i]? = some x) (hx : Loc X.env.scope x) (he : PE X e te) (hs : swapsWith e (some (.Name x pos')) pos.line X.env = pure false := by rfl) (hf : X.fn x = true ∨ X.env.scope.names.lookup x = some .local := by first | exact .inl rfl | exact .inr rfl | assumption) :
    PS X (.Assign [.Name x pos'] e pos) (tAsg te (gName i)) := by
  intro pins s σ H D I h
  refine wpAny_Assign_Name (thn (he pins s σ H _ I h) fun v s1 ⟨y, H1, I1, r1, q1⟩ => ?_) hs
  exact store_ok I1 hN hi hx r1 (fun s2 I2 => ⟨_, H1, I2, q1⟩) hf
def tPar (i j : Nat) (ta : TA) : TS := fun D σ H => ta σ H fun vs H1 => ∃ v w, vs = [v, w] ∧ D.nx ((σ.set i (some v)).set j (some w)) H1
def tAug (i : Nat) (te : TE) (ti : TIp) : TS := fun D σ H => ∃ x, σ[i]? = some (some x) ∧ te σ H fun y H1 => ti x y H1 fun z H2 => D.nx (σ.set i (some z)) H2
def tAugS (to ti te : TE) (tget : V → V → Hp → VK → Prop) (tip : TIp) (tset : TSet) : TS := fun D σ H => to σ H fun o H1 => ti σ H1 fun i H2 => tget o i H2 fun x H3 => te σ H3 fun y H4 => tip x y H4 fun z H5 => tset o i z H5 fun H6 => D.nx σ H6
def PGet (X : Cx) (t : V → V → Hp → VK → Prop) : Prop :=
  ∀ (pins : List (Addr × Obj)) (s : Shared) (σ : St) (H : Hp) (o i : V) (ov iv : Value) (Q : VK), Inv X pins σ H s → RelV o ov → RelV i iv → t o i H Q →
    wpAny (model X.prog X.w) X.A (getItem ov iv) (EP X pins σ Q) X.xe s
def ipI (f : Int → Int → Int) : TIp := fun x y H Q => ∃ i j, x = .int i ∧ y = .int j ∧ Q (.int (f i j)) H
end


structure It where
  go : Nat → Hp → Prop
  yld : Nat → Hp → V → Hp → Prop
  stop : Nat → Hp → Prop
def FpOk (X : Cx) (pins : List (Addr × Obj)) (H : Hp) (b : Addr) : Prop :=
  H b = none ∧ b ≠ X.env.locals ∧ b ∉ X.fs ∧ (b ∈ X.ex ∨ X.s₀.heap.objs.size ≤ b) ∧ (∀ x c, X.env.cells.lookup x = some c → c ≠ b) ∧ ∀ p ∈ X.pn ++ pins, p.1 ≠ b
theorem Inv.fpOk {X : Cx} {pins : List (Addr × Obj)} {σ : St} {H H' : Hp} {s : Shared} {b : Addr} (I : Inv X pins σ H s) (hb : s.heap.objs.size ≤ b) (hn : H' b = none) : FpOk X pins H' b := by
  refine ⟨hn, Nat.ne_of_gt (Nat.lt_of_lt_of_le I.lt hb), I.nofs hb, .inr (Nat.le_trans I.sz hb), fun x c e z => ?_, fun p hp z => ?_⟩
  · obtain ⟨v, q⟩ := I.cell x c e
    exact absurd (Nat.lt_of_lt_of_le q.lt (by rw [z]; exact hb)) (Nat.lt_irrefl _)
  · exact absurd (Nat.lt_of_lt_of_le (Heap.lt_size (I.pin p hp).1) (by rw [z]; exact hb)) (Nat.lt_irrefl _)
structure Turn (P : Program) (w : World) (K : PySem.W.Frag) (tg : Expr) (J : It) (fp : List Addr) (it : Addr) (tn : Nat → Heap → Prop) : Prop where
  mem : it ∈ fp
  obj : ∀ i h, tn i h → ∀ b ∈ fp, ∃ o, h.get? b = some o ∧ ∀ v, o.data ≠ .cell v
  keep : ∀ i h h', tn i h → (∀ b ∈ fp, ∀ o, h.get? b = some o → h'.get? b = some o) → tn i h'
  item : ∀ (X : Cx), X.prog = P → X.w = w → X.K = K → X.calm = true → ∀ (i : Nat) (pins : List (Addr × Obj)) (s : Shared) (σ : St) (H : Hp) (E : Value → Shared → Prop), Inv X pins σ H s → (∀ b ∈ fp, FpOk X pins H b) → tn i s.heap → J.go i H →
    wpAny (model P w) X.A (pyNext (.ref it)) (fun r s1 => ∃ u, r = some u ∧
      wpAny (model P w) X.A (letOwnedTupleGo tg (.ref it) u) (fun _ s2 => ∃ x H', Inv X pins σ H' s2 ∧ RelV x u ∧ J.yld i H x H' ∧ tn (i + 1) s2.heap ∧ ∀ b ∈ fp, H' b = none) E s1) E s
  done : ∀ (X : Cx), X.prog = P → X.w = w → X.K = K → X.calm = true → ∀ (i : Nat) (pins : List (Addr × Obj)) (s : Shared) (σ : St) (H : Hp) (E : Value → Shared → Prop), Inv X pins σ H s → (∀ b ∈ fp, FpOk X pins H b) → tn i s.heap → J.stop i H →
    wpAny (model P w) X.A (pyNext (.ref it)) (fun r s1 => r = none ∧ Inv X pins σ H s1) E s
  self : ∀ (A : Around) (i : Nat) (s : Shared) (Q : Value → Shared → Prop) (E : Value → Shared → Prop), tn i s.heap → Q (.ref it) s → wpAny (model P w) A (pyIter (.ref it)) Q E s
abbrev TI := St → Hp → (It → Hp → Prop) → Prop
def PIE (X : Cx) (pins : List (Addr × Obj)) (σ : St) (tg : Expr) (R : It → Hp → Prop) (itv : Value) (s2 : Shared) : Prop :=
  ∃ (it : Addr) (fp : List Addr) (tn : Nat → Heap → Prop) (J : It) (H' : Hp), itv = .ref it ∧ Inv X pins σ H' s2 ∧ Turn X.prog X.w X.K tg J fp it tn ∧ tn 0 s2.heap ∧ (∀ b ∈ fp, FpOk X pins H' b) ∧ R J H'
def PI (X : Cx) (tg iter : Expr) (wi : TI) : Prop :=
  ∀ (pins : List (Addr × Obj)) (s : Shared) (σ : St) (H : Hp) (R : It → Hp → Prop), Inv X pins σ H s → wi σ H R →
    wpAny (model X.prog X.w) X.A (eval iter X.env) (fun v s1 => wpAny (model X.prog X.w) X.A (pyIter v) (PIE X pins σ tg R) X.xe s1) X.xe s

theorem go_of {M : Model} {A : Around} {E : Value → Shared → Prop} {s : Shared} {tg : Expr} {it : Addr} {u : Value} {o : Obj} {n : String} {vs : Array Value} {Q : Unit → Shared → Prop} (ho : s.heap.get? it = some o) (hc : o.cls = .type n) (hd : o.data = .fields vs)
    (hn : ["enumerate", "zip", "dict_itemiterator", "dict_reverseitemiterator", "odict_iterator", "itertools.zip_longest", "itertools.pairwise"].contains n = false) (hQ : Q () s) : wpAny M A (letOwnedTupleGo tg (.ref it) u) Q E s := by
  unfold letOwnedTupleGo
  cases tg <;> first
    | exact wpAny_pure hQ
    | (cases u <;> first
        | exact wpAny_pure hQ
        | (refine wpAny_bind (wpAny_load ho ?_)
           rw [hc, hd]
           show wpAny M A (if (["enumerate", "zip", "dict_itemiterator", "dict_reverseitemiterator", "odict_iterator", "itertools.zip_longest", "itertools.pairwise"].contains n && vs[0]? == some (rawInt _)) = true then _ else _) Q E s
           rw [if_neg (by intro h; rw [hn, Bool.false_and] at h; cases h)]
           exact wpAny_pure hQ))

def Itl (K : PySem.W.Frag) (a : Addr) : It :=
  ⟨fun i H => ∃ xs x, SqL K H a xs ∧ xs[i]? = some x, fun i H x H' => H' = H ∧ ∀ xs, SqL K H a xs → xs[i]? = some x, fun i H => ∃ xs, SqL K H a xs ∧ xs.length ≤ i⟩
def Itr (lo : Int) (n : Nat) : It := ⟨fun i _ => i < n, fun i H x H' => H' = H ∧ x = .int (lo + i), fun i _ => n ≤ i⟩
theorem turn_list {P : Program} {w : World} {K : PySem.W.Frag} {tg : Expr} (a it : Addr) : Turn P w K tg (Itl K a) [it] it (fun i h => h.IsListIter it a i) where
  mem := by simp
  obj := fun i h st b hb => by
    have e : b = it := by simpa using hb
    subst e
    obtain ⟨o, e, c, d⟩ := st
    exact ⟨o, e, fun v z => by rw [d] at z; cases z⟩
  keep := fun i h h' st k => st.at fun o e => k it (by simp) o e
  item := by
    intro X hP hw hK hc i pins s σ H E I hf st hg
    subst hP hw hK
    obtain ⟨xs, x, hq, hx⟩ := hg
    obtain ⟨its, rv, p, hz⟩ := I.list hq
    obtain ⟨u, hu, ru⟩ := rv.get hx
    obtain ⟨f0, f1, f2, f3, f4, f5⟩ := hf it (by simp)
    refine wpAny_pyNext_list_item st p.isList (x := u) (by simpa using hu) fun h' st' sb => ?_
    have I1 : Inv X pins σ H { s with heap := h' } := I.turned (t' := s.toks) (fun b o hb e => (sb.2 b hb).trans e) f0 f1 f3 f4 f5
    obtain ⟨o, e, c, d⟩ := id st'
    exact ⟨u, rfl, go_of (s := { s with heap := h' }) e c d (by decide) ⟨x, H, I1, ru, ⟨rfl, fun ys hy => by rw [I.list_inj hy hq]; exact hx⟩, st', fun b hb => (hf b hb).1⟩⟩
  done := by
    intro X hP hw hK hc i pins s σ H E I hf st hg
    subst hP hw hK
    obtain ⟨xs, hq, hx⟩ := hg
    obtain ⟨its, rv, p, hz⟩ := I.list hq
    obtain ⟨f0, f1, f2, f3, f4, f5⟩ := hf it (by simp)
    have hl := rv.length
    exact wpAny_pyNext_list_end (I.ok.hd hc) st p.isList (by simp; omega) fun h' eb => ⟨rfl, I.turned (t' := s.toks) (fun b o hb e => eb b o hb e) f0 f1 f3 f4 f5⟩
  self := fun _ _ _ _ _ st h => wpAny_pyIter_listiter st h
end L2

namespace L2
open PySem PySem.Spec PyProof.Rows
section
variable {X : Cx} {tg : Expr}
def iList (K : PySem.W.Frag) (tl : TE) : TI := fun σ H R => tl σ H fun x H1 => ∃ a, x = .ref a ∧ (∃ xs, SqL K H1 a xs) ∧ R (Itl K a) H1
theorem pi_list {l : Expr} {tl : TE} (hl : PE X l tl) : PI X tg l (iList X.K tl) := by
  intro pins s σ H R I h
  refine thn (hl pins s σ H _ I h) fun v s1 ⟨x, H1, I1, r1, q1⟩ => ?_
  obtain ⟨a, e, ⟨xs, hq⟩, q⟩ := q1
  subst e
  cases r1
  obtain ⟨its, rv, p, hz⟩ := I1.list hq
  refine wpAny_pyIter_list p.isList ?_
  refine ⟨s1.heap.objs.size, [s1.heap.objs.size], _, _, H1, rfl, I1.kept (t' := s1.toks) fun b o e => Heap.get?_push_of_some _ e, turn_list a _, ⟨_, Heap.get?_push_size _ rfl, rfl, rfl⟩, fun b hb => ?_, q⟩
  have e : b = s1.heap.objs.size := by simpa using hb
  subst e
  exact I1.fpOk (Nat.le_refl _) (I1.hok.fresh (Nat.le_refl _))
def iRng1 (ta : TA) : TI := fun σ H R => ta σ H fun vs H1 => ∃ j : Int, vs = [.int j] ∧ -(2 ^ 62) ≤ j ∧ j < 2 ^ 62 ∧ R (Itr 0 j.toNat) H1
def tFor (wi : TI) (g : TG) (tb : TS) : TS := fun D σ H => wi σ H fun J H1 => ∃ W : Nat → Nat → St → Hp → Prop, (∃ m, W 0 m σ H1) ∧ ∀ i m σ H, W i m σ H →
  (J.stop i H ∧ D.nx σ H) ∨ (J.go i H ∧ ∃ N : St → Hp → Prop, (∀ σ' H', N σ' H' → ∃ m', m' < m ∧ W (i + 1) m' σ' H') ∧ ∀ x H', J.yld i H x H' → g x σ H' fun σ2 H2 => tb { D with nx := N, ct := N, bk := D.nx } σ2 H2)
def pinsAt (fp : List Addr) (h : Heap) : List (Addr × Obj) := fp.filterMap fun b => (h.get? b).map fun o => (b, o)
theorem mem_pinsAt {fp : List Addr} {h : Heap} {b : Addr} {o : Obj} (hb : b ∈ fp) (e : h.get? b = some o) : (b, o) ∈ pinsAt fp h := List.mem_filterMap.mpr ⟨b, hb, by rw [e]; rfl⟩
theorem of_pinsAt {fp : List Addr} {h : Heap} {p : Addr × Obj} (hp : p ∈ pinsAt fp h) : p.1 ∈ fp ∧ h.get? p.1 = some p.2 := by
  obtain ⟨b, hb, e⟩ := List.mem_filterMap.mp hp
  cases q : h.get? b with
  | none => rw [q] at e; cases e
  | some o =>
    rw [q] at e
    have e' : (b, o) = p := Option.some.inj e
    subst e'
    exact ⟨hb, q⟩
theorem Inv.pinned {pins : List (Addr × Obj)} {σ : St} {H : Hp} {s : Shared} {fp : List Addr} (I : Inv X pins σ H s) (hf : ∀ b ∈ fp, FpOk X pins H b) (ho : ∀ b ∈ fp, ∃ o, s.heap.get? b = some o ∧ ∀ v, o.data ≠ .cell v) : Inv X (pins ++ pinsAt fp s.heap) σ H s :=
  I.pins_of fun p hp => (List.mem_append.mp hp).elim (fun z => I.pin p (List.mem_append_right _ z)) fun z => by
    obtain ⟨hb, e⟩ := of_pinsAt z
    obtain ⟨f0, f1, f2, _⟩ := hf p.1 hb
    obtain ⟨o, e', d⟩ := ho p.1 hb
    rw [e] at e'; cases e'
    exact ⟨e, f0, f1, f2, d⟩
theorem Inv.unpinned {pins pl : List (Addr × Obj)} {σ : St} {H : Hp} {s : Shared} (I : Inv X (pins ++ pl) σ H s) : Inv X pins σ H s := I.pins_of fun p hp => I.pin p (List.mem_append_right _ (List.mem_append_left _ hp))
theorem ps_for {iter : Expr} {body : List Stmt} {wi : TI} {g : TG} {tb : TS} {pos : Pos} (hp : PassesOwn (model X.prog X.w) X.A X.env X.xe) (hc : X.calm = true) (hi : PI X tg iter wi) (hg : PG X tg g) (hb : PSs X body tb)
    (hs : ∀ x, foldedSetIterable iter X.env x = pure x := by intro _; rfl) : PS X (.For tg iter body [] pos) (tFor wi g tb) := by
  intro pins s σ H D I h
  refine wpAny_For (thn (hi pins s σ H _ I h) fun v s1 h1 => thn h1 fun itv s2 h2 => ?_) hs
  obtain ⟨it, fp, tn, J, H2, e, I2, T, st2, f2, W, ⟨m0, w0⟩, turn⟩ := h2
  subst e
  -- what stays true of the iterator's objects through the loop
  have stat : ∀ {H' : Hp}, (∀ b ∈ fp, H' b = none) → ∀ b ∈ fp, FpOk X pins H' b := fun hn b hb => ⟨hn b hb, (f2 b hb).2⟩
  refine codeAny_forLoop_any (fun n s' => ∃ i σ' H', Inv X pins σ' H' s' ∧ tn i s'.heap ∧ (∀ b ∈ fp, H' b = none) ∧ W i n σ' H') ?_ m0 ⟨0, σ, H2, I2, st2, fun b hb => (f2 b hb).1, w0⟩
  rintro n s3 ⟨i, σ3, H3, I3, st3, fr3, w3⟩
  rcases turn i n σ3 H3 w3 with ⟨stop, qn⟩ | ⟨go, N, hN, step⟩
  · refine wpAny_passesOwn hp (thn (T.done X rfl rfl rfl hc i pins s3 σ3 H3 X.xe I3 (stat fr3) st3 stop) fun r s4 ⟨hr, I4⟩ => ?_)
    subst hr
    exact wpAny_execs_nil ⟨σ3, H3, I4, qn⟩
  · refine wpAny_passesOwn hp (thn (T.item X rfl rfl rfl hc i pins s3 σ3 H3 X.xe I3 (stat fr3) st3 go) fun r s4 ⟨u, hr, h4⟩ => ?_)
    subst hr
    refine wpAny_passesOwn hp (thn h4 fun _ s5 ⟨x, H5, I5, r5, y5, st5, fr5⟩ => ?_)
    have I5' := I5.pinned (stat fr5) (T.obj _ _ st5)
    refine wpAny_passesOwn hp (thn (hg _ s5 σ3 H5 x u _ I5' r5 (step x H5 y5)) fun _ s6 ⟨σ6, H6, I6, q6⟩ => ?_)
    refine wpAny_passesOwn hp (thn (hb _ s6 σ6 H6 _ I6 q6) fun f s7 q7 => ?_)
    have again : ∀ {σ7 : St} {H7 : Hp}, Inv X (pins ++ pinsAt fp s5.heap) σ7 H7 s7 → N σ7 H7 → ∃ m, m < n ∧ ∃ i σ' H', Inv X pins σ' H' s7 ∧ tn i s7.heap ∧ (∀ b ∈ fp, H' b = none) ∧ W i m σ' H' := fun {σ7 H7} I7 n7 => by
      obtain ⟨m', hm, w7⟩ := hN σ7 H7 n7
      refine ⟨m', hm, i + 1, σ7, H7, I7.unpinned, T.keep _ _ _ st5 fun b hb o e => (I7.pin (b, o) (List.mem_append_right _ (List.mem_append_right _ (mem_pinsAt hb e)))).1, fun b hb => ?_, w7⟩
      obtain ⟨o, e, d⟩ := T.obj _ _ st5 b hb
      exact (I7.pin (b, o) (List.mem_append_right _ (List.mem_append_right _ (mem_pinsAt hb e)))).2.1
    cases f with
    | next => obtain ⟨σ7, H7, I7, n7⟩ := q7; exact again I7 n7
    | cont => obtain ⟨σ7, H7, I7, n7⟩ := q7; exact again I7 n7
    | brk => obtain ⟨σ7, H7, I7, q7⟩ := q7; exact ⟨σ7, H7, I7.unpinned, q7⟩
    | ret v => obtain ⟨x7, σ7, H7, I7, r7, q7⟩ := q7; exact ⟨x7, σ7, H7, I7.unpinned, r7, q7⟩
end

end L2

namespace L2
open PySem PySem.Spec PyProof.Rows

abbrev R2 := V → V → Hp → VK → Prop
def OpR (X : Cx) (f : Value → Value → Sem Value) (r : R2) : Prop :=
  ∀ (pins : List (Addr × Obj)) (s : Shared) (σ : St) (H : Hp) (x y : V) (v u : Value) (Q : VK), Inv X pins σ H s → RelV x v → RelV y u → r x y H Q →
    wpAny (model X.prog X.w) X.A (f v u) (EP X pins σ Q) X.xe s
def UnR (X : Cx) (f : Value → Sem Value) (r : V → Hp → VK → Prop) : Prop :=
  ∀ (pins : List (Addr × Obj)) (s : Shared) (σ : St) (H : Hp) (x : V) (v : Value) (Q : VK), Inv X pins σ H s → RelV x v → r x H Q →
    wpAny (model X.prog X.w) X.A (f v) (EP X pins σ Q) X.xe s
def CallR (X : Cx) (f : Value) (r : List V → Hp → VK → Prop) : Prop :=
  ∀ (pins : List (Addr × Obj)) (s : Shared) (σ : St) (H : Hp) (xs : List V) (us : List Value) (Q : VK), Inv X pins σ H s → Vals xs us → r xs H Q →
    wpAny (model X.prog X.w) X.A (call f us) (EP X pins σ Q) X.xe s
def TruR (X : Cx) (r : V → Hp → (Bool → Hp → Prop) → Prop) : Prop :=
  ∀ (pins : List (Addr × Obj)) (s : Shared) (σ : St) (H : Hp) (x : V) (v : Value) (Q : Bool → Hp → Prop), Inv X pins σ H s → RelV x v → r x H Q →
    wpAny (model X.prog X.w) X.A (truthy v) (TP X pins σ Q) X.xe s

def tOp (r : R2) (ta tb : TE) : TE := fun σ H Q => ta σ H fun x H1 => tb σ H1 fun y H2 => r x y H2 Q
def tUn (r : V → Hp → VK → Prop) (ta : TE) : TE := fun σ H Q => ta σ H fun x H1 => r x H1 Q
def rI (C : Int → Int → Prop) (g : Int → Int → V) : R2 := fun x y H Q => ∃ i j, x = .int i ∧ y = .int j ∧ C i j ∧ Q (g i j) H
def rI0 (g : Int → Int → V) : R2 := fun x y H Q => ∃ i j, x = .int i ∧ y = .int j ∧ Q (g i j) H
def rU (g : Int → V) : V → Hp → VK → Prop := fun x H Q => ∃ i, x = .int i ∧ Q (g i) H

section
variable {X : Cx} {a b c : Expr} {ta tb tc : TE} {pos : Pos}

theorem binT (ha : PE X a ta) (hb : PE X b tb) {pins : List (Addr × Obj)} {s : Shared} {σ : St} {H : Hp} {R : V → V → Hp → Prop} (I : Inv X pins σ H s)
    (h : ta σ H fun x H1 => tb σ H1 fun y H2 => R x y H2) {Q : Value → Shared → Prop} {f : Value → Value → Sem Value}
    (hf : ∀ v u s2 x y H2, Inv X pins σ H2 s2 → RelV x v → RelV y u → R x y H2 → wpAny (model X.prog X.w) X.A (f v u) Q X.xe s2) :
    wpAny (model X.prog X.w) X.A (eval a X.env) (fun v s₁ => wpAny (model X.prog X.w) X.A (eval b X.env) (fun u s₂ => wpAny (model X.prog X.w) X.A (f v u) Q X.xe s₂) X.xe s₁) X.xe s := by
  refine thn (ha pins s σ H _ I h) fun v s1 ⟨x, H1, I1, r1, q1⟩ => ?_
  refine thn (hb pins s1 σ H1 _ I1 q1) fun u s2 ⟨y, H2, I2, r2, q2⟩ => ?_
  exact hf v u s2 x y H2 I2 r1 r2 q2

theorem pe_op {op : Operator} {r : R2} (ho : OpR X (binaryOp op) r) (ha : PE X a ta) (hb : PE X b tb) : PE X (.BinOp a op b pos) (tOp r ta tb) := by
  intro pins s σ H Q I h
  exact wpAny_BinOp (binT ha hb I h fun v u s2 x y H2 I2 rx ry q => ho pins s2 σ H2 x y v u Q I2 rx ry q)
theorem pe_un {op : UnaryOp} {r : V → Hp → VK → Prop} (ho : UnR X (unaryOp op) r) (ha : PE X a ta) : PE X (.UnaryOp op a pos) (tUn r ta) := by
  intro pins s σ H Q I h
  exact UnaryOp_ (thn (ha pins s σ H _ I h) fun v s1 ⟨x, H1, I1, r1, q1⟩ => ho pins s1 σ H1 x v Q I1 r1 q1)
theorem opI {f : Value → Value → Sem Value} {C : Int → Int → Prop} {g : Int → Int → Int}
    (rule : ∀ (i j : Int) (t u : Tok) (s : Shared) (Q : Value → Shared → Prop) (E : Value → Shared → Prop), C i j → Q (.int (g i j) s.toks) { s with toks := s.toks + 1 } → wpAny (model X.prog X.w) X.A (f (.int i t) (.int j u)) Q E s) :
    OpR X f (rI C fun i j => .int (g i j)) := by
  intro pins s σ H x y v u Q I rx ry h
  obtain ⟨i, j, rfl, rfl, hc, q⟩ := h
  obtain ⟨t, rfl⟩ := rx
  obtain ⟨t', rfl⟩ := ry
  exact rule i j t t' s _ _ hc ⟨.int (g i j), H, I.tok _, ⟨_, rfl⟩, q⟩
theorem opI0 {f : Value → Value → Sem Value} {g : Int → Int → Int}
    (rule : ∀ (i j : Int) (t u : Tok) (s : Shared) (Q : Value → Shared → Prop) (E : Value → Shared → Prop), Q (.int (g i j) s.toks) { s with toks := s.toks + 1 } → wpAny (model X.prog X.w) X.A (f (.int i t) (.int j u)) Q E s) :
    OpR X f (rI0 fun i j => .int (g i j)) := by
  intro pins s σ H x y v u Q I rx ry h
  obtain ⟨i, j, rfl, rfl, q⟩ := h
  obtain ⟨t, rfl⟩ := rx
  obtain ⟨t', rfl⟩ := ry
  exact rule i j t t' s _ _ ⟨.int (g i j), H, I.tok _, ⟨_, rfl⟩, q⟩
theorem opB0 {f : Value → Value → Sem Value} {g : Int → Int → Bool}
    (rule : ∀ (i j : Int) (t u : Tok) (s : Shared) (Q : Value → Shared → Prop) (E : Value → Shared → Prop), Q (.bool (g i j)) s → wpAny (model X.prog X.w) X.A (f (.int i t) (.int j u)) Q E s) :
    OpR X f (rI0 fun i j => .bl (g i j)) := by
  intro pins s σ H x y v u Q I rx ry h
  obtain ⟨i, j, rfl, rfl, q⟩ := h
  obtain ⟨t, rfl⟩ := rx
  obtain ⟨t', rfl⟩ := ry
  exact rule i j t t' s _ _ ⟨.bl (g i j), H, I, rfl, q⟩

def CDiv (i j : Int) : Prop := 0 < j ∧ j < 1073741824
def CPow (i j : Int) : Prop := 0 ≤ j ∧ j ≤ 1000000 ∧ i.natAbs < 2 ^ 64
def CMul (i j : Int) : Prop := (-(2 ^ 64) < i ∧ i < 2 ^ 64) ∨ (-(2 ^ 64) < j ∧ j < 2 ^ 64)
theorem CMul.ok {i j : Int} (h : CMul i j) : IntMulOk i j := by
  rcases h with ⟨h1, h2⟩ | ⟨h1, h2⟩
  · exact .of_left (intBits_le_64 h1 h2)
  · exact .of_right (intBits_le_64 h1 h2)
theorem op_add : OpR X (binaryOp .Add) (rI0 fun i j => .int (i + j)) := opI0 fun _ _ _ _ _ _ _ q => add_int q
theorem op_sub : OpR X (binaryOp .Sub) (rI0 fun i j => .int (i - j)) := opI0 fun _ _ _ _ _ _ _ q => sub_int q
theorem op_fdiv : OpR X (binaryOp .FloorDiv) (rI CDiv fun i j => .int (i / j)) := opI fun i j _ _ _ _ _ hc q => by
  have h1 : (0 : Int) < j := hc.1
  have h2 : j < 1073741824 := hc.2
  exact floordiv_int (by omega) (by rw [Int.fdiv_eq_ediv_of_nonneg i (by omega)]; exact q) (.inl (PyProof.noPylong_small (by omega)))
theorem op_mod : OpR X (binaryOp .Mod) (rI (fun _ j => 0 < j) fun i j => .int (i % j)) := opI fun i j _ _ _ _ _ hc q => by
  have h1 : (0 : Int) < j := hc
  exact mod_int' (by omega) (by rw [Int.fmod_eq_emod_of_nonneg i (by omega)]; exact q)
theorem op_pow : OpR X (binaryOp .Pow) (rI CPow fun i j => .int (i ^ j.toNat)) := opI fun _ _ _ _ _ _ _ hc q => pow_int_small hc.1 hc.2.1 hc.2.2 q
theorem unI {f : Value → Sem Value} {g : Int → Int}
    (rule : ∀ (i : Int) (t : Tok) (s : Shared) (Q : Value → Shared → Prop) (E : Value → Shared → Prop), Q (.int (g i) s.toks) { s with toks := s.toks + 1 } → wpAny (model X.prog X.w) X.A (f (.int i t)) Q E s) :
    UnR X f (rU fun i => .int (g i)) := by
  intro pins s σ H x v Q I rx h
  obtain ⟨i, rfl, q⟩ := h
  obtain ⟨t, rfl⟩ := rx
  exact rule i t s _ _ ⟨.int (g i), H, I.tok _, ⟨_, rfl⟩, q⟩
theorem un_neg : UnR X (unaryOp .USub) (rU fun i => .int (-i)) := unI fun _ _ _ _ _ q => neg_int q
end

def scal : V → V → Bool
  | .non, .non => true | .non, .int _ => true | .int _, .non => true | .non, .bl _ => true | .bl _, .non => true | .non, .str _ => true | .str _, .non => true
  | .int _, .int _ => true | .bl _, .bl _ => true | .str _, .str _ => true | .byt _, .byt _ => true
  | .int _, .str _ => true | .str _, .int _ => true | .bl _, .str _ => true | .str _, .bl _ => true
  | _, _ => false
def rEq : R2 := fun x y H Q => scal x y = true ∧ Q (.bl (decide (x = y))) H
def rNe : R2 := fun x y H Q => scal x y = true ∧ Q (.bl (!decide (x = y))) H

theorem dec_int {i j : Int} : decide (V.int i = V.int j) = (i == j) := by
  rw [Bool.eq_iff_iff]
  simp
theorem dec_bl {i j : Bool} : decide (V.bl i = V.bl j) = (i == j) := by
  rw [Bool.eq_iff_iff]
  simp
theorem dec_str {i j : Str} : decide (V.str i = V.str j) = (i == j) := by
  rw [Bool.eq_iff_iff]
  simp
theorem dec_byt {i j : Array UInt8} : decide (V.byt i = V.byt j) = (i.toList == j.toList) := by
  rw [Bool.eq_iff_iff]
  cases i
  cases j
  simp

section
variable {X : Cx} {a b c : Expr} {ta tb tc : TE} {pos : Pos}
theorem fin_bl {pins : List (Addr × Obj)} {σ : St} {H : Hp} {s : Shared} {Q : VK} {k k' : Bool} (I : Inv X pins σ H s) (q : Q (.bl k) H) (e : k = k') : EP X pins σ Q (.bool k') s := by
  subst e
  exact ⟨.bl k, H, I, rfl, q⟩
theorem op_eq : OpR X (compareOp .Eq) rEq := by
  intro pins s σ H x y v u Q I rx ry h
  obtain ⟨hs, q⟩ := h
  cases x with
  | non =>
    cases rx
    cases y with
    | non => cases ry; exact PySem.EqNone.eq_none_none (fin_bl I q (by simp))
    | bl j => cases ry; exact PySem.EqNone.eq_none_bool (fin_bl I q (by simp))
    | int j => obtain ⟨t', rfl⟩ := ry; exact PySem.EqNone.eq_none_int (fin_bl I q (by simp))
    | str j => obtain ⟨t', rfl⟩ := ry; exact PySem.EqNone.eq_none_str (fin_bl I q (by simp))
    | _ => exact absurd (show false = true from hs) Bool.false_ne_true
  | bl i =>
    cases rx
    cases y with
    | non => cases ry; exact PySem.EqNone.eq_bool_none (fin_bl I q (by simp))
    | bl j => cases ry; exact eq_bool (fin_bl I q dec_bl)
    | str j => obtain ⟨t', rfl⟩ := ry; exact PySem.EqMixed.eq_bool_str (fin_bl I q (by simp))
    | _ => exact absurd (show false = true from hs) Bool.false_ne_true
  | int i =>
    obtain ⟨t, rfl⟩ := rx
    cases y with
    | non => cases ry; exact PySem.EqNone.eq_int_none (fin_bl I q (by simp))
    | int j => obtain ⟨t', rfl⟩ := ry; exact eq_int (fin_bl I q dec_int)
    | str j => obtain ⟨t', rfl⟩ := ry; exact PySem.EqMixed.eq_int_str (fin_bl I q (by simp))
    | _ => exact absurd (show false = true from hs) Bool.false_ne_true
  | str i =>
    obtain ⟨t, rfl⟩ := rx
    cases y with
    | non => cases ry; exact PySem.EqNone.eq_str_none (fin_bl I q (by simp))
    | bl j => cases ry; exact PySem.EqMixed.eq_str_bool (fin_bl I q (by simp))
    | int j => obtain ⟨t', rfl⟩ := ry; exact PySem.EqMixed.eq_str_int (fin_bl I q (by simp))
    | str j => obtain ⟨t', rfl⟩ := ry; exact eq_str (fin_bl I q dec_str)
    | _ => exact absurd (show false = true from hs) Bool.false_ne_true
  | byt i =>
    obtain ⟨t, rfl⟩ := rx
    cases y with
    | byt j => obtain ⟨t', rfl⟩ := ry; exact PySem.W.eq_bytes (fin_bl I q dec_byt)
    | _ => exact absurd (show false = true from hs) Bool.false_ne_true
  | _ => cases y <;> exact absurd (show false = true from hs) Bool.false_ne_true
theorem op_ne : OpR X (compareOp .NotEq) rNe := by
  intro pins s σ H x y v u Q I rx ry h
  obtain ⟨hs, q⟩ := h
  cases x with
  | non =>
    cases rx
    cases y with
    | non => cases ry; exact PySem.EqNone.ne_none_none (fin_bl I q (by simp))
    | bl j => cases ry; exact PySem.EqNone.ne_none_bool (fin_bl I q (by simp))
    | int j => obtain ⟨t', rfl⟩ := ry; exact PySem.EqNone.ne_none_int (fin_bl I q (by simp))
    | str j => obtain ⟨t', rfl⟩ := ry; exact PySem.EqNone.ne_none_str (fin_bl I q (by simp))
    | _ => exact absurd (show false = true from hs) Bool.false_ne_true
  | bl i =>
    cases rx
    cases y with
    | non => cases ry; exact PySem.EqNone.ne_bool_none (fin_bl I q (by simp))
    | bl j => cases ry; exact ne_bool (fin_bl I q (congrArg not dec_bl))
    | str j => obtain ⟨t', rfl⟩ := ry; exact PySem.EqMixed.ne_bool_str (fin_bl I q (by simp))
    | _ => exact absurd (show false = true from hs) Bool.false_ne_true
  | int i =>
    obtain ⟨t, rfl⟩ := rx
    cases y with
    | non => cases ry; exact PySem.EqNone.ne_int_none (fin_bl I q (by simp))
    | int j => obtain ⟨t', rfl⟩ := ry; exact ne_int (fin_bl I q (congrArg not dec_int))
    | str j => obtain ⟨t', rfl⟩ := ry; exact PySem.EqMixed.ne_int_str (fin_bl I q (by simp))
    | _ => exact absurd (show false = true from hs) Bool.false_ne_true
  | str i =>
    obtain ⟨t, rfl⟩ := rx
    cases y with
    | non => cases ry; exact PySem.EqNone.ne_str_none (fin_bl I q (by simp))
    | bl j => cases ry; exact PySem.EqMixed.ne_str_bool (fin_bl I q (by simp))
    | int j => obtain ⟨t', rfl⟩ := ry; exact PySem.EqMixed.ne_str_int (fin_bl I q (by simp))
    | str j => obtain ⟨t', rfl⟩ := ry; exact ne_str (fin_bl I q (congrArg not dec_str))
    | _ => exact absurd (show false = true from hs) Bool.false_ne_true
  | byt i =>
    obtain ⟨t, rfl⟩ := rx
    cases y with
    | byt j => obtain ⟨t', rfl⟩ := ry; exact PySem.W.ne_bytes (fin_bl I q (congrArg not dec_byt))
    | _ => exact absurd (show false = true from hs) Bool.false_ne_true
  | _ => cases y <;> exact absurd (show false = true from hs) Bool.false_ne_true

theorem op_lt : OpR X (compareOp .Lt) (rI0 fun i j => .bl (decide (i < j))) := opB0 fun _ _ _ _ _ _ _ q => lt_int q
theorem op_le : OpR X (compareOp .LtE) (rI0 fun i j => .bl (decide (i ≤ j))) := opB0 fun _ _ _ _ _ _ _ q => le_int q
theorem OpR.or {f : Value → Value → Sem Value} {r r' : R2} (h : OpR X f r) (h' : OpR X f r') : OpR X f (fun x y H Q => r x y H Q ∨ r' x y H Q) := by
  intro pins s σ H x y v u Q I rx ry q
  rcases q with q | q
  · exact h pins s σ H x y v u Q I rx ry q
  · exact h' pins s σ H x y v u Q I rx ry q

theorem nomark (b : Expr) {op : CmpOp} (h : op ≠ .In := by decide) (h2 : op ≠ .NotIn := by decide) : behindInMarks op b = false := by
  have e1 : (op == CmpOp.In) = false := by cases op <;> first | rfl | exact absurd rfl h
  have e2 : (op == CmpOp.NotIn) = false := by cases op <;> first | rfl | exact absurd rfl h2
  cases b <;> simp [behindInMarks, e1, e2]
theorem pe_cmpR {op : CmpOp} {r : R2} (ho : OpR X (compareOp op) r) (ha : PE X a ta) (hb : PE X b tb) (hm : behindInMarks op b = false) : PE X (.Compare a [op] [b] pos) (tOp r ta tb) := by
  intro pins s σ H Q I h
  exact wpAny_Compare1 (binT ha hb I h fun v u s2 x y H2 I2 rx ry q => ho pins s2 σ H2 x y v u Q I2 rx ry q) hm
def tTest (t : TE) : TT := fun σ H Q => t σ H fun x H' => ∃ k, x = .bl k ∧ Q k H'
theorem pt_cmpR {op : CmpOp} {r : R2} (ho : OpR X (compareOp op) r) (ha : PE X a ta) (hb : PE X b tb) (hm : behindInMarks op b = false) : PT X (.Compare a [op] [b] pos) (tTest (tOp r ta tb)) := by
  intro pins s σ H Q I h
  refine wpAny_isTrue_Compare1 (thn (ha pins s σ H _ I h) fun v s1 ⟨x, H1, I1, r1, q1⟩ => thn (hb pins s1 σ H1 _ I1 q1) fun u s2 ⟨y, H2, I2, r2, q2⟩ =>
    thn (ho pins s2 σ H2 x y v u _ I2 r1 r2 q2) fun c s3 ⟨z, H3, I3, r3, k, e, q3⟩ => ?_) hm
  subst e
  cases r3
  exact wpAny_truthy_bool ⟨H3, I3, q3⟩
def tChain (r r' : R2) (ta tb tc : TE) : TE := fun σ H Q => ta σ H fun x H1 => tb σ H1 fun y H2 => r x y H2 fun z H3 => ∃ k, z = .bl k ∧
  (if k = true then tc σ H3 fun w' H4 => r' y w' H4 Q else Q (.bl false) H3)
theorem pe_chain {op op' : CmpOp} {r r' : R2} (ho : OpR X (compareOp op) r) (ho' : OpR X (compareOp op') r') (ha : PE X a ta) (hb : PE X b tb) (hc : PE X c tc)
    (hm : lastMarks [op, op'] [b, c] = false := by with_unfolding_all rfl) : PE X (.Compare a [op, op'] [b, c] pos) (tChain r r' ta tb tc) := by
  intro pins s σ H Q I h
  refine Compare_chain (thn (ha pins s σ H _ I h) fun v s1 ⟨x, H1, I1, r1, q1⟩ => chain_link (thn (hb pins s1 σ H1 _ I1 q1) fun u s2 ⟨y, H2, I2, r2, q2⟩ =>
    thn (ho pins s2 σ H2 x y v u _ I2 r1 r2 q2) fun d s3 ⟨z, H3, I3, r3, k, e, q3⟩ => ?_)) hm
  subst e
  cases r3
  refine wpAny_truthy_bool ?_
  cases k with
  | false => exact ite_ff ⟨.bl false, H3, I3, rfl, q3⟩
  | true => exact ite_tt (chain_last (thn (hc pins s3 σ H3 _ I3 q3) fun w' s4 ⟨z', H4, I4, r4, q4⟩ => ho' pins s4 σ H4 y z' u w' Q I4 r2 r4 q4))
theorem line63 : (sizeLine : Nat) < 2 ^ 63 := by rw [sizeLine_eq]; decide
theorem vals1 {x : V} {us : List Value} (r : Vals [x] us) : ∃ u, us = [u] ∧ RelV x u := by
  cases r with
  | cons r1 r2 => cases r2; exact ⟨_, rfl, r1⟩
theorem vals2 {x y : V} {us : List Value} (r : Vals [x, y] us) : ∃ u w', us = [u, w'] ∧ RelV x u ∧ RelV y w' := by
  cases r with
  | cons r1 r2 =>
    cases r2 with
    | cons r3 r4 => cases r4; exact ⟨_, _, rfl, r1, r3⟩
end
end L2

namespace L2
open PySem PySem.Spec PyProof.Rows

structure ObjM (h : Heap) (x dx C : Addr) (mA : Str → Option Value) : Prop where
  obj : h.get? x = some (PySem.W.instObj C dx)
  ns : h.Ns1 dx mA
  ne : dx ≠ x

theorem lookIn_ns {h : Heap} {dx : Addr} {mA : Str → Option Value} (n : h.Ns1 dx mA) : ∃ od, h.get? dx = some od ∧ ∀ name, PySem.W.lookIn name od = some (mA name) := by
  obtain ⟨o, es, ep, ho, hd, hk, _, hm⟩ := n
  refine ⟨o, ho, fun name => ?_⟩
  have e := hm name
  unfold nsFind findBy at e
  rw [← Array.find?_toList] at e
  unfold PySem.W.lookIn
  rw [hd]
  dsimp only
  split
  · rename_i y q
    rw [q] at e
    exact congrArg some e
  · rename_i q
    rw [q] at e
    have a : es.toList.any (·.refKey) = false := by
      rw [List.any_eq_false]
      intro y hy
      obtain ⟨z, t, hkey⟩ := hk y (Array.mem_toList_iff.mp hy)
      simp [DictEntry.refKey, hkey]
    have a' : ¬ es.toList.any (·.refKey) = true := by rw [a]; exact Bool.false_ne_true
    rw [if_neg a']
    exact congrArg some e

theorem ObjM.look {h : Heap} {x dx C : Addr} {mA : Str → Option Value} (I : ObjM h x dx C mA) : ∃ od, PySem.W.InstAt h x (PySem.W.instObj C dx) C (some od) ∧ ∀ name, PySem.W.lookIn name od = some (mA name) :=
  let ⟨od, ho, hl⟩ := lookIn_ns I.ns
  ⟨od, ⟨I.obj, rfl, rfl, ho⟩, hl⟩

section
variable {prog : Program} {w : World} {A : Around} {E : Value → Shared → Prop} {s : Shared} {K : PySem.W.Frag} {x dx C f : Addr} {mA : Str → Option Value} {name : Str} {v : Value}

end

def putF (f : Str) (v : V) : List (Str × V) → List (Str × V)
  | [] => [(f, v)]
  | (g, x) :: r => if g = f then (g, v) :: r else (g, x) :: putF f v r
section
variable {P : Program} {w : World} {H H' : Hp} {h h' : Heap} {a C dx : Addr} {fs fs' : List (Str × V)}
theorem ins_get (hok : HOk P w H h) (e : H a = some (.ins C dx fs)) : ∃ mA, ObjM h a dx C mA ∧ (∀ f, RelO (fs.lookup f) (mA f)) ∧ PySem.Within mA (fs.map (·.1)) ∧ fs.length ≤ 1000 ∧ H dx = some (.own a) := by
  obtain ⟨d, z, ne, ob, mA, n, r, q⟩ := (show ObjOk P w H h a (.ins C dx fs) from hok a _ e)
  exact ⟨mA, ⟨ob, n, ne⟩, r, q, z, d⟩
end

structure Cls (K : PySem.W.Frag) (C : Addr) : Prop where
  pg : PySem.W.plainGet K C Str.empty = true
  hd : PySem.W.hasDictIn K C = true
  po : PySem.W.plainOver K C = true
  sa : PySem.W.findIn K (.ref C) "__setattr__" = some (some (.builtin "object.__setattr__"))
theorem Cls.get {K : PySem.W.Frag} {C : Addr} (c : Cls K C) (f : Str) : PySem.W.plainGet K C f = true := c.pg
def NoAttr (K : PySem.W.Frag) (C : Addr) (f : Str) : Prop := PySem.W.findIn K (.ref C) f = some none
structure Con (K : PySem.W.Frag) (C : Addr) (f : Str) (v : V) (u : Value) : Prop where
  at_ : PySem.W.findIn K (.ref C) f = some (some u)
  rel : RelV v u
  get : PySem.W.specialIn K u "__get__" = some none
  cp : PySem.W.copiedNames.contains f = false
structure Meth (K : PySem.W.Frag) (C : Addr) (m : Str) (f : Addr) : Prop where
  at_ : PySem.W.findIn K (.ref C) m = some (some (.ref f))
  fn : PySem.W.isFn K (.ref f) = true
  kp : PySem.W.keepIn K (.ref f) = true

section
variable {X : Cx} {pins : List (Addr × Obj)} {σ : St} {H : Hp} {s : Shared} {a C dx : Addr} {fs : List (Str × V)} {f : Str} {v : V} {A : Around} {E : Value → Shared → Prop}

theorem Inv.made (I : Inv X pins σ H s) : Inv X pins σ (upd (upd H s.heap.objs.size (.own (s.heap.objs.size + 1))) (s.heap.objs.size + 1) (.ins C s.heap.objs.size []))
    { s with heap := (s.heap.push PySem.W.emptyDict).push (PySem.W.instObj C s.heap.objs.size) } := by
  have e1 : (s.heap.push PySem.W.emptyDict).get? s.heap.objs.size = some PySem.W.emptyDict := Heap.get?_push_size s.heap rfl
  have e2 : ((s.heap.push PySem.W.emptyDict).push (PySem.W.instObj C s.heap.objs.size)).get? (s.heap.objs.size + 1) = some (PySem.W.instObj C s.heap.objs.size) := by
    have := Heap.get?_push_size (s.heap.push PySem.W.emptyDict) (o := PySem.W.instObj C s.heap.objs.size) rfl
    rwa [Heap.size_push] at this
  have e3 : (s.heap.push PySem.W.emptyDict).Ns s.heap.objs.size (fun _ => none) := ⟨PySem.W.emptyDict, #[], _, e1, rfl, (fun e he => absurd he (by simp)), fun _ => rfl⟩
  have I1 := I.laid (a := s.heap.objs.size) (o := .own (s.heap.objs.size + 1)) (h' := s.heap.push PySem.W.emptyDict) (t' := s.toks) (fun b u q => Heap.get?_push_of_some _ q) (Nat.le_refl _) ⟨_, e1⟩
  refine I1.laid (a := s.heap.objs.size + 1) (o := .ins C s.heap.objs.size []) (t' := s.toks) (fun b u q => Heap.get?_push_of_some _ q) (Nat.le_of_eq (Heap.size_push _ _)) ?_
  have ne : s.heap.objs.size ≠ s.heap.objs.size + 1 := Nat.ne_of_lt (Nat.lt_succ_self _)
  refine ⟨by rw [upd_ne ne, upd_same], Nat.zero_le _, ne, e2, fun _ => none, (Heap.Ns1.of_empty e3).at fun o q => Heap.get?_push_of_some _ q, fun _ => True.intro, fun y hy => absurd rfl hy⟩

end

def tFld (K : PySem.W.Frag) (ta : TE) (f : Str) : TE := fun σ H Q => ta σ H fun x H1 => ∃ a C dx fs v, x = .ref a ∧ H1 a = some (.ins C dx fs) ∧ Cls K C ∧ NoAttr K C f ∧ fs.lookup f = some v ∧ Q v H1
def sFld (K : PySem.W.Frag) (ta tv : TE) (f : Str) : TS := fun D σ H => tv σ H fun y H1 => ta σ H1 fun x H2 => ∃ a C dx fs, x = .ref a ∧ H2 a = some (.ins C dx fs) ∧ Cls K C ∧ NoAttr K C f ∧ fs.length < 1000 ∧
  D.nx σ (upd H2 a (.ins C dx (putF f y fs)))

section
variable {X : Cx} {pins : List (Addr × Obj)} {σ : St} {H : Hp} {s : Shared} {A : Around} {E : Value → Shared → Prop} {Q : Value → Shared → Prop} {c : Value} {b : Bool}
inductive TyOf (K : PySem.W.Frag) (H : Hp) : V → Value → Prop where
  | non : TyOf K H .non (.type "NoneType")
  | bl (x : Bool) : TyOf K H (.bl x) (.type "bool")
  | int (i : Int) : TyOf K H (.int i) (.type "int")
  | str (x : Str) : TyOf K H (.str x) (.type "str")
  | flt (x : UInt64) : TyOf K H (.flt x) (.type "float")
  | lst {a : Addr} {xs : List V} (e : H a = some (.lst xs)) : TyOf K H (.ref a) (.type "list")
  | frz {a : Addr} {o : Obj} {xs : List V} (e : H a = some (.frz o (.lst xs))) : TyOf K H (.ref a) (.type "list")
  | tup {a : Addr} {xs : List V} (e : H a = some (.tup xs)) : TyOf K H (.ref a) (.type "tuple")
  | dK {a : Addr} {kvs : List (Key × V)} (e : H a = some (.dK kvs)) : TyOf K H (.ref a) (.type "dict")
  | dT {a : Addr} {kvs : List (List Key × V)} (e : H a = some (.dT kvs)) : TyOf K H (.ref a) (.type "dict")
  | ins {a C dx : Addr} {fs : List (Str × V)} (e : H a = some (.ins C dx fs)) (cl : Cls K C) (ha : PySem.W.findIn K (.ref C) "__class__" = some (some (.builtin "object.__class__")))
      (hn : PySem.W.specialIn K (.builtin "object.__class__") "__get__" = some (some (.builtin "getset_descriptor.__get__"))) (htk : PySem.W.takesIn K (.builtin "object.__class__") = some true)
      (hm : PySem.W.mroIn K C (.type "object") = some true) : TyOf K H (.ref a) (.ref C)
theorem isinst_ok {x : V} {u t : Value} (I : Inv X pins σ H s) (rx : RelV x u) (ty : TyOf X.K H x t) (e : PySem.W.kitOne X.K t c = some b) (h : ∀ tk, Q (.bool b) { s with toks := tk }) :
    wpAny (model X.prog X.w) A (call (.builtin "isinstance") [u, c]) Q E s := by
  cases ty with
  | non => cases (show u = Value.none from rx); exact PySem.W.kia_one PySem.W.kitx_none I.kIn True.intro e (fun z => nomatch z) h
  | bl y => cases (show u = Value.bool y from rx); exact PySem.W.kia_one PySem.W.kitx_bool I.kIn True.intro e (fun z => nomatch z) h
  | int i => obtain ⟨t, q⟩ := (show ∃ t, u = Value.int i t from rx); cases q; exact PySem.W.kia_one PySem.W.kitx_int I.kIn True.intro e (fun z => nomatch z) h
  | str y => obtain ⟨t, q⟩ := (show ∃ t, u = Value.str y t from rx); cases q; exact PySem.W.kia_one PySem.W.kitx_str I.kIn True.intro e (fun z => nomatch z) h
  | flt y => obtain ⟨t, q⟩ := (show ∃ t, u = Value.float y t from rx); cases q; exact PySem.W.kia_one PySem.W.kitx_float I.kIn True.intro e (fun z => nomatch z) h
  | @lst a xs ea =>
    cases (show u = Value.ref a from rx)
    obtain ⟨_, _, n, _, h1⟩ := (show ObjOk X.prog X.w H s.heap a (.lst xs) from I.hok a _ ea)
    exact PySem.W.kia_one PySem.W.kitx_list I.kIn ⟨_, h1, rfl⟩ e (fun z => nomatch z) h
  | @frz a ob xs ea =>
    cases (show u = Value.ref a from rx)
    obtain ⟨_, _, _, n, _, h1⟩ := (show ObjOk X.prog X.w H s.heap a (.frz ob (.lst xs)) from I.hok a _ ea)
    exact PySem.W.kia_one PySem.W.kitx_list I.kIn ⟨_, h1, rfl⟩ e (fun z => nomatch z) h
  | @tup a xs ea =>
    cases (show u = Value.ref a from rx)
    obtain ⟨_, _, _, p⟩ := (show ObjOk X.prog X.w H s.heap a (.tup xs) from I.hok a _ ea)
    obtain ⟨o, h1, h2, _⟩ := p
    exact PySem.W.kia_one PySem.W.kitx_tuple I.kIn ⟨o, h1, h2⟩ e (fun z => nomatch z) h
  | @dK a kvs ea =>
    cases (show u = Value.ref a from rx)
    obtain ⟨_, _, vs, _, p⟩ := (show ObjOk X.prog X.w H s.heap a (.dK kvs) from I.hok a _ ea)
    obtain ⟨o, es, ep, h1, h2, _⟩ := p
    exact PySem.W.kia_one PySem.W.kitx_dict I.kIn ⟨o, h1, h2.1⟩ e (fun z => nomatch z) h
  | @dT a kvs ea =>
    cases (show u = Value.ref a from rx)
    obtain ⟨_, _, xs, _, o, es, ep, h1, h2, _⟩ := (show ObjOk X.prog X.w H s.heap a (.dT kvs) from I.hok a _ ea)
    exact PySem.W.kia_one PySem.W.kitx_dict I.kIn ⟨o, h1, h2.1⟩ e (fun z => nomatch z) h
  | @ins a C dx fs ea cl ha hn htk hm =>
    cases (show u = Value.ref a from rx)
    obtain ⟨mA, O, _⟩ := ins_get I.hok ea
    obtain ⟨od, J, _⟩ := O.look
    exact PySem.W.kia_one (PySem.W.kitx_own (cl.get _) cl.hd ha hn htk hm) I.kIn J e (fun z => nomatch z) h
end
end L2

namespace L2
open PySem PySem.Spec PyProof.Rows

structure Room (k : Nat) (A : Around) : Prop where
  hd : A.handled = none
  dp : A.depth + 3 * k + 5 < recursionLimit
  un : A.units + 16 * k + 200 < cLine
theorem Room.mono {j k : Nat} {A : Around} (r : Room k A) (h : j ≤ k) : Room j A := ⟨r.hd, by have := r.dp; omega, by have := r.un; omega⟩
theorem Room.deeper {k : Nat} {A : Around} (r : Room (k + 1) A) (env : Env) : Room k (A.deeper env) :=
  ⟨r.hd, by have := r.dp; show A.depth + 1 + 3 * k + 5 < _; omega, by have := r.un; show A.units + 3 + 16 * k + 200 < _; omega⟩
theorem Room.in1 {k : Nat} {A : Around} (r : Room (k + 1) A) : Room k A.in1 :=
  ⟨r.hd, by have := r.dp; show A.depth + 3 * k + 5 < _; omega, by have := r.un; show A.units + 1 + 16 * k + 200 < _; omega⟩
theorem Room.depth {k : Nat} {A : Around} (r : Room k A) : A.depth < recursionLimit := by have := r.dp; omega
theorem Room.units {k : Nat} {A : Around} (r : Room k A) : A.units + 64 < cLine := by have := r.un; omega
def tNil : TA := fun _ H Q => Q [] H
def tCons (ta : TE) (tr : TA) : TA := fun σ H Q => ta σ H fun x H1 => tr σ H1 fun xs H2 => Q (x :: xs) H2
section
variable {X : Cx} {e : Expr} {es : List Expr} {te : TE} {t : TA} {pos : Pos}
theorem pa_nil : PA X [] tNil := fun _ _ _ _ H Q I h => Calls.spliced_nil ⟨[], H, I, .nil, h⟩
theorem pa_cons (ha : PE X e te) (hr : PA X es t) (hs : starEach (e :: es) X.env = (false, eval e X.env) :: starEach es X.env := by rfl) : PA X (e :: es) (tCons te t) := by
  intro pos pins s σ H Q I h
  rw [hs]
  show wpAny _ _ (spliced ((false, eval e X.env) :: backTo pos (starEach es X.env))) _ _ s
  refine Calls.spliced_cons (thn (ha pins s σ H _ I h) fun u s1 ⟨x, H1, I1, r1, q1⟩ => ?_)
  exact thn (hr pos pins s1 σ H1 _ I1 q1) fun us s2 ⟨xs, H2, I2, r2, q2⟩ => ⟨x :: xs, H2, I2, .cons r1 r2, q2⟩

def tTup (t : TA) : TE := fun σ H Q => t σ H fun xs H1 => xs.length ≤ sizeLine ∧ ∀ p, H1 p = none → Q (.ref p) (upd H1 p (.tup xs))
def tLst (t : TA) : TE := fun σ H Q => t σ H fun xs H1 => xs.length ≤ sizeLine ∧ ∀ p, H1 p = none → Q (.ref p) (upd H1 p (.lst xs))
theorem pe_tup {x1} (h : PA X es t) : PE X (.Tuple es x1 pos) (tTup t) := by
  intro pins s σ H Q I hq
  refine wpAny_Tuple_spliced (thn (h pos pins s σ H _ I hq) fun us s1 ⟨xs, H1, I1, r, z, q⟩ => ⟨by rw [← r.length]; exact z, ?_⟩)
  have hf : H1 s1.heap.objs.size = none := I1.hok.fresh (Nat.le_refl _)
  refine ⟨.ref s1.heap.objs.size, upd H1 s1.heap.objs.size (.tup xs), I1.laid (t' := s1.toks) (fun b u e => Heap.get?_push_of_some _ e) (Nat.le_refl _) ?_, rfl, q _ hf⟩
  exact ⟨z, us, r, ⟨_, Heap.get?_push_size _ rfl, rfl, _, rfl⟩⟩
theorem pe_lst (h : PA X es t) : PE X (.List es pos) (tLst t) := by
  intro pins s σ H Q I hq
  refine wpAny_List_spliced (thn (h pos pins s σ H _ I hq) fun us s1 ⟨xs, H1, I1, r, z, q⟩ => ⟨by rw [← r.length]; exact z, ?_⟩)
  have hf : H1 s1.heap.objs.size = none := I1.hok.fresh (Nat.le_refl _)
  refine ⟨.ref s1.heap.objs.size, upd H1 s1.heap.objs.size (.lst xs), I1.laid (t' := s1.toks) (fun b u e => Heap.get?_push_of_some _ e) (Nat.le_refl _) ?_, rfl, q _ hf⟩
  exact ⟨z, us, 0, r, Heap.get?_push_size _ rfl⟩
end

abbrev Sp := List V → Hp → VK → XK → Prop
abbrev CXT := List Env → Hp → Shared → XK → Value → Shared → Prop

structure Env0 (P : Program) (w : World) (K : PySem.W.Frag) (mg : Str → Option Value) (base : Heap) (A : Around) (outer : List Env) (s : Shared) (H : Hp) : Prop where
  frames : A.frames = some outer
  mod : Mod K mg base
  bs : ∀ b o, base.get? b = some o → s.heap.get? b = some o ∧ H b = none
  bsz : base.objs.size ≤ s.heap.objs.size
  funs : s.heap.FunFrames base outer
  frf : ∀ b ∈ frs outer, H b = none
  hok : HOk P w H s.heap
  bare : AllBare s.gens
def CE (outer : List Env) (P : Program) (w : World) (H : Hp) (s : Shared) (Q : VK) (u : Value) (s' : Shared) : Prop :=
  ∃ v H', s'.os = s.os ∧ AllBare s'.gens ∧ Un (frs outer) [] H H' s.heap s'.heap ∧ HOk P w H' s'.heap ∧ RelV v u ∧ Q v H'
def CR (CX : CXT) (outer : List Env) (P : Program) (w : World) (H : Hp) (s : Shared) (Q : VK) (E : XK) (r : Result) (s' : Shared) : Prop :=
  match r with
  | .ok (.ret u) => CE outer P w H s Q u s'
  | .ok _ => False
  | .error e => CX outer H s E e s'
structure FnOk (P : Program) (w : World) (K : PySem.W.Frag) (mg : Str → Option Value) (base : Heap) (CX : CXT) (k : Nat) (f : Addr) (fd : FuncData) (ps : List Str) (sp : Sp) : Prop where
  len : ∀ vs H Q E, sp vs H Q E → vs.length = ps.length
  run : ∀ (A : Around) (outer : List Env) (s : Shared) (H : Hp) (args : Args) (us : List Value) (vs : List V) (Q : VK) (E : XK), Room k A → Env0 P w K mg base A outer s H → BindsTo s fd args (ps.zip us) → Vals vs us → sp vs H Q E →
    codeAny (model P w) A (.call (.ref f) args) (CR CX outer P w H s Q E) s
theorem FnOk.mono {P : Program} {w : World} {K : PySem.W.Frag} {mg : Str → Option Value} {base : Heap} {CX : CXT} {j k : Nat} {f : Addr} {fd : FuncData} {ps : List Str} {sp : Sp} (F : FnOk P w K mg base CX j f fd ps sp) (h : j ≤ k) :
    FnOk P w K mg base CX k f fd ps sp := ⟨F.len, fun A outer s H args us vs Q E hr => F.run A outer s H args us vs Q E (hr.mono h)⟩
theorem Env0.in1 {P : Program} {w : World} {K : PySem.W.Frag} {mg : Str → Option Value} {base : Heap} {A : Around} {outer : List Env} {s : Shared} {H : Hp} (e : Env0 P w K mg base A outer s H) :
    Env0 P w K mg base A.in1 outer s H := ⟨e.frames, e.mod, e.bs, e.bsz, e.funs, e.frf, e.hok, e.bare⟩

section
variable {X : Cx} {pins : List (Addr × Obj)} {σ : St} {H : Hp} {s s' : Shared}
theorem Inv.env0 (I : Inv X pins σ H s) : Env0 X.prog X.w X.K X.mg X.base X.A X.stack s H :=
  ⟨I.ok.frames, I.ok.mod, I.bs, Nat.le_trans I.ok.bsz I.sz, I.stack, I.stkFree, I.hok, I.bare⟩
theorem Inv.after {Q : VK} {u : Value} (I : Inv X pins σ H s) (h : CE X.stack X.prog X.w H s Q u s') : EP X pins σ Q u s' := by
  obtain ⟨v, H', os, bare, un, hok, r, q⟩ := h
  obtain ⟨hh, g, d, t, os'⟩ := s'
  obtain rfl : os' = s.os := os
  exact ⟨v, H', I.call (h' := hh) (g' := g) (d' := d) (t' := t) (ch := []) un hok bare (fun b z => absurd z (by simp)), r, q⟩
end

def tCall (sp : Sp) (dvs : List V) (E : XK) (t : TA) : TE := fun σ H Q => t σ H fun vs H1 => sp (vs ++ dvs) H1 Q E
def tMeth (C : Addr) (m : Str) (sp : Sp) (dvs : List V) (E : XK) (ta : TE) (t : TA) : TE := fun σ H Q => ta σ H fun x H1 => ∃ a dx fs, x = .ref a ∧ H1 a = some (.ins C dx fs) ∧ fs.lookup m = none ∧
  t σ H1 fun vs H2 => sp (x :: (vs ++ dvs)) H2 Q E
def tMake (C : Addr) (sp : Sp) (dvs : List V) (E : XK) (t : TA) : TE := fun σ H Q => t σ H fun vs H1 => ∀ x dx, H1 x = none → H1 dx = none → dx ≠ x →
  sp (.ref x :: (vs ++ dvs)) (upd (upd H1 dx (.own x)) x (.ins C dx [])) (fun v H2 => v = .non ∧ Q (.ref x) H2) E

def Binds (K : PySem.W.Frag) (fd : FuncData) (ps : List Str) (ds : List Value) : Prop :=
  ∀ (s : Shared) (us : List Value), K.In s.heap → (us ++ ds).length = ps.length → BindsTo s fd ⟨us, []⟩ (ps.zip (us ++ ds))
theorem Binds.all {K : PySem.W.Frag} {fd : FuncData} {ps : List Str} (h : ∀ us : List Value, us.length = ps.length → bindArgs fd ⟨us, []⟩ = pure (ps.zip us)) : Binds K fd ps [] := fun s us _ hl => by
  rw [List.append_nil] at hl ⊢
  exact .of_eq (h us hl)

def Passes (CX : CXT) (X : Cx) (E : XK) : Prop := ∀ (pins : List (Addr × Obj)) (σ : St) (H : Hp) (s : Shared) (e : Value) (s' : Shared), Inv X pins σ H s → CX X.stack H s E e s' → X.xe e s'

section
variable {X : Cx} {CX : CXT} {k : Nat} {f C : Addr} {fd : FuncData} {ps : List Str} {sp : Sp} {dvs : List V} {ds : List Value} {E : XK} {x m : Str} {p pos apos : Pos} {e o : Expr} {es : List Expr} {ta : TE} {t : TA}

theorem run_fn {pins : List (Addr × Obj)} {σ : St} {H : Hp} {s : Shared} {Q : VK} {us : List Value} {vs : List V} (F : FnOk X.prog X.w X.K X.mg X.base CX k f fd ps sp) (hr : Room k X.A) (hb : Binds X.K fd ps ds) (hd : Vals dvs ds) (hx : Passes CX X E)
    (I : Inv X pins σ H s) (r : Vals vs us) (h : sp (vs ++ dvs) H Q E) : wpAny (model X.prog X.w) X.A (call (.ref f) us) (EP X pins σ Q) X.xe s := by
  have r2 : Vals (vs ++ dvs) (us ++ ds) := r.append hd
  have hl : (us ++ ds).length = ps.length := by rw [← r2.length]; exact F.len _ _ _ _ h
  refine wpAny_call (codeAny_mono (F.run X.A X.stack s H ⟨us, []⟩ (us ++ ds) (vs ++ dvs) Q E hr I.env0 (hb s us I.kIn hl) r2 h) fun r s' hq => ?_)
  cases r with
  | error e => exact hx pins σ H s e s' I hq
  | ok fl =>
    cases fl with
    | ret u => exact I.after hq
    | next => exact False.elim hq
    | brk => exact False.elim hq
    | cont => exact False.elim hq

theorem pe_call (F : FnOk X.prog X.w X.K X.mg X.base CX k f fd ps sp) (hr : Room k X.A) (hg : Gl X x) (hm : X.mg x = some (.ref f)) (hk : PySem.W.keepIn X.K (.ref f) = true) (hb : Binds X.K fd ps ds) (hd : Vals dvs ds) (hx : Passes CX X E)
    (ha : PA X (e :: es) t) (hdb : (x == ("__debug__" : Str)) = false := by decide) (he : starEach (e :: es) X.env = (false, eval e X.env) :: starEach es X.env := by rfl) (hpl : (backTo pos (starEach es X.env)).any (·.1) = false := by rfl) :
    PE X (.Call (.Name x p) (e :: es) [] pos) (tCall sp dvs E t) := by
  intro pins s σ H Q I h
  refine wpAny_Call_Name_kw (ld_glob I hg hm ?_ hdb)
  refine PySem.W.callWith_K (h₀ := X.base) I.ok.mod.kin hk (thn (ha pos pins s σ H _ I h) fun us s1 ⟨vs, H1, I1, r, q⟩ => ⟨I1.kIn, ?_⟩) he hpl
  exact run_fn F hr hb hd hx I1 r q
structure Mk (K : PySem.W.Frag) (C f : Addr) : Prop where
  makes : PySem.W.makesIn K C = true
  init : PySem.W.findIn K (.ref C) "__init__" = some (some (.ref f))
  fn : PySem.W.isFn K (.ref f) = true
  kp : PySem.W.keepIn K (.ref C) = true

end

def PK (X : Cx) (kws : List Keyword) (t : TA) : Prop :=
  ∀ (pos : Pos) (pins : List (Addr × Obj)) (s : Shared) (σ : St) (H : Hp) (Q : List V → Hp → Prop), Inv X pins σ H s → t σ H Q → wpAny (model X.prog X.w) X.A (evalAll ((backToKw pos (keywordEach kws X.env)).map (·.2))) (AP X pins σ Q) X.xe s
section
variable {X : Cx} {CX : CXT} {k : Nat} {f C : Addr} {fd : FuncData} {ps ks : List Str} {sp : Sp} {E : XK} {x m : Str} {p pos apos kpos : Pos} {e o : Expr} {es : List Expr} {kws : List Keyword} {te ta : TE} {t tk : TA} {nm : Option Str}
structure KBinds (K : PySem.W.Frag) (fd : FuncData) (ps ks : List Str) (g : List Value → List Value → List Value) (gV : List V → List V → List V) : Prop where
  to : ∀ (s : Shared) (us ws : List Value), K.In s.heap → (g us ws).length = ps.length → BindsTo s fd ⟨us, ks.zip ws⟩ (ps.zip (g us ws))
  rel : ∀ {vs : List V} {us : List Value} {zs : List V} {ws : List Value}, Vals vs us → Vals zs ws → Vals (gV vs zs) (g us ws)
variable {g : List Value → List Value → List Value} {gV : List V → List V → List V}
end

structure FnScope (N P : List Str) (sc : Scope) : Prop where
  kind : sc.kind = .function
  co : sc.isCoroutine = false
  gen : sc.isGenerator = false
  nd : N.Nodup
  pre : N.take P.length = P
  par : ∀ x ∈ P, sc.names.lookup x = some .local ∨ sc.names.lookup x = some .cell
  nofree : ∀ y ∈ sc.names, y.2 ≠ .free

theorem bindL_out {kindOf : Str → Option NameKind} {x : Str} : ∀ {binds : List (Str × Value)} {m : Str → Option Value}, (∀ v, (x, v) ∉ binds) → bindL kindOf binds m x = m x
  | [], _, _ => rfl
  | (n, v) :: r, m, h => by
    unfold bindL
    rw [bindL_out fun w hw => h w (List.mem_cons_of_mem _ hw)]
    split
    · have : x ≠ n := by rintro rfl; exact h v List.mem_cons_self
      simp [this]
    · rfl
theorem bindC_out {kindOf : Str → Option NameKind} {x : Str} : ∀ {binds : List (Str × Value)} {m : Str → Option Value}, (∀ v, (x, v) ∉ binds) → bindC kindOf binds m x = m x
  | [], _, _ => rfl
  | (n, v) :: r, m, h => by
    unfold bindC
    rw [bindC_out fun w hw => h w (List.mem_cons_of_mem _ hw)]
    split
    · rfl
    · have : x ≠ n := by rintro rfl; exact h v List.mem_cons_self
      simp [this]
theorem bindL_get {kindOf : Str → Option NameKind} {x : Str} {v : Value} : ∀ {P : List Str} {vs : List Value} {i : Nat} {m : Str → Option Value}, P.Nodup → P[i]? = some x → vs[i]? = some v → kindOf x = some .local →
    bindL kindOf (P.zip vs) m x = some v
  | [], _, _, _, _, h, _, _ => by simp at h
  | _ :: _, [], _, _, _, _, h, _ => by simp at h
  | p :: P, w :: vs, 0, m, nd, h1, h2, hk => by
    simp at h1 h2; subst h1; subst h2
    show bindL kindOf ((p, w) :: P.zip vs) m p = _
    unfold bindL
    rw [bindL_out fun v hv => (List.nodup_cons.mp nd).1 (List.of_mem_zip hv).1, if_pos hk]
    simp
  | p :: P, w :: vs, i + 1, m, nd, h1, h2, hk => by
    show bindL kindOf ((p, w) :: P.zip vs) m x = _
    unfold bindL
    exact bindL_get (i := i) (List.nodup_cons.mp nd).2 (by simpa using h1) (by simpa using h2) hk
theorem bindC_get {kindOf : Str → Option NameKind} {x : Str} {v : Value} : ∀ {P : List Str} {vs : List Value} {i : Nat} {m : Str → Option Value}, P.Nodup → P[i]? = some x → vs[i]? = some v → kindOf x ≠ some .local →
    bindC kindOf (P.zip vs) m x = some v
  | [], _, _, _, _, h, _, _ => by simp at h
  | _ :: _, [], _, _, _, _, h, _ => by simp at h
  | p :: P, w :: vs, 0, m, nd, h1, h2, hk => by
    simp at h1 h2; subst h1; subst h2
    show bindC kindOf ((p, w) :: P.zip vs) m p = _
    unfold bindC
    rw [bindC_out fun v hv => (List.nodup_cons.mp nd).1 (List.of_mem_zip hv).1, if_neg hk]
    simp
  | p :: P, w :: vs, i + 1, m, nd, h1, h2, hk => by
    show bindC kindOf ((p, w) :: P.zip vs) m x = _
    unfold bindC
    exact bindC_get (i := i) (List.nodup_cons.mp nd).2 (by simpa using h1) (by simpa using h2) hk

def start (N : List Str) (vs : List V) : St := vs.map some ++ List.replicate (N.length - vs.length) none

def cxOf (CX : CXT) (P : Program) (w : World) (K : PySem.W.Frag) (mg : Str → Option Value) (base : Heap) (N : List Str) (qual : Str) (scope : Scope) (f : Addr) (cd : Value) (A : Around) (outer : List Env) (s : Shared) (H : Hp) (E : XK) : Cx where
  prog := P
  w := w
  K := K
  mg := mg
  base := base
  A := A.deeper (envOfC qual scope s.heap.objs.size f cd)
  N := N
  s₀ := s
  H₀ := H
  env := envOfC qual scope s.heap.objs.size f cd
  outer := outer
  stack := envOfC qual scope s.heap.objs.size f cd :: outer
  ex := []
  calm := true
  fn := fun _ => true
  pn := []
  xe := fun e s' => wpAny (model P w) (A.deeper (envOfC qual scope s.heap.objs.size f cd)) (leaving (envOfC qual scope s.heap.objs.size f cd) e) (fun _ s'' => CX outer H s E e s'') (fun e' s'' => CX outer H s E e' s'') s'

theorem cell_has {sc : Scope} {n : Nat} {x : Str} (h : sc.names.lookup x = some .cell) : ∃ c, (cellsFrom n sc.names []).lookup x = some c := by
  have q := PySem.W.cellsFrom_some sc.names n [] (.inl h)
  exact Option.isSome_iff_exists.mp q

theorem inv_start {CX : CXT} {P : Program} {w : World} {K : PySem.W.Frag} {mg : Str → Option Value} {base : Heap} {N ps : List Str} {qual : Str} {scope : Scope} {f : Addr} {cd : Value} {A : Around} {outer : List Env} {s s1 : Shared} {H : Hp} {E : XK} {us : List Value} {vs : List V}
    (S : FnScope N ps scope) (hd : A.handled = none) (e0 : Env0 P w K mg base A outer s H) (hl : vs.length = ps.length) (r : Vals vs us)
    (x : InCallC s s.heap.objs.size (bindL (envOfC qual scope s.heap.objs.size f cd).kindOf (ps.zip us) fun _ => none) (cellsFrom (s.heap.objs.size + 1) scope.names []) (bindC (envOfC qual scope s.heap.objs.size f cd).kindOf (ps.zip us) fun _ => none) s1) :
    Inv (cxOf CX P w K mg base N qual scope f cd A outer s H E) [] (start N vs) H s1 := by
  have hpl : ps.length ≤ N.length := by have := congrArg List.length S.pre; rw [List.length_take] at this; omega
  obtain ⟨h1, tk, rfl, hk⟩ := x.done
  have noA : ∀ b : Addr, b ∉ (cxOf CX P w K mg base N qual scope f cd A outer s H E).ex := fun b z => absurd (show b ∈ ([] : List Addr) from z) (by simp)
  refine ⟨⟨e0.mod, S.kind, rfl, rfl, Nat.le_refl _, fun y z c h1 h2 => ?_, fun y hy => ?_, fun y c _ h => ?_, fun _ => hd, Around.frames_deeper e0.frames, .inr ⟨rfl, rfl⟩, fun b z => absurd z (noA b), e0.bs, e0.bsz, fun b _ _ => noA b, fun b z => absurd z (noA b), e0.funs, e0.frf⟩,
    rfl, e0.bare, Un.kept hk, ⟨_, x.toInCall.ns, fun i y v h1 h2 h3 => ?_⟩, fun y c h => ⟨_, x.cell y c h⟩, e0.hok.fresh (Nat.le_refl _), fun y c h => ?_, fun p hp => absurd (show p ∈ ([] : List (Addr × Obj)) from hp) (by simp), e0.hok.kept hk, ?_⟩
  · exact name_of_addr x.apart (PySem.mem_of_lookup h1) (PySem.mem_of_lookup h2)
  · have hy : scope.names.lookup y = some .cell ∨ scope.names.lookup y = some .free := hy
    rcases hy with hy | hy
    · exact cell_has hy
    · exact absurd rfl (S.nofree _ (PySem.mem_of_lookup hy))
  · exact Nat.le_of_lt (x.above y c (PySem.mem_of_lookup h))
  · have hi : i < vs.length := by
      unfold start at h2
      by_cases hi : i < vs.length
      · exact hi
      · rw [List.getElem?_append_right (by simpa using hi)] at h2
        rw [List.getElem?_replicate] at h2
        split at h2 <;> cases h2
    have ha : vs[i]? = some v := by
      unfold start at h2
      rw [List.getElem?_append_left (by simpa using hi), List.getElem?_map] at h2
      cases e : vs[i]? with
      | none => rw [e] at h2; cases h2
      | some a => rw [e] at h2; cases h2; rfl
    obtain ⟨u, hu, rv⟩ := r.get ha
    have hp : ps[i]? = some y := by
      rw [← S.pre, List.getElem?_take_of_lt (by omega)]; exact h1
    have ndP : ps.Nodup := by rw [← S.pre]; exact S.nd.sublist (List.take_sublist _ _)
    refine ⟨u, rv, ?_⟩
    rcases S.par y (List.mem_of_getElem? hp) with k | k
    · exact .inl ⟨k, bindL_get ndP hp hu k⟩
    · obtain ⟨c, e⟩ := cell_has (n := s.heap.objs.size + 1) k
      refine .inr ⟨.inl k, c, e, ?_⟩
      have q := x.cell y c e
      rw [bindC_get ndP hp hu (by show scope.names.lookup y ≠ _; rw [k]; decide)] at q
      exact q
  · exact e0.hok.fresh (Nat.le_of_lt (x.above y c (PySem.mem_of_lookup h)))
  · unfold start
    show _ = N.length
    rw [List.length_append, List.length_map, List.length_replicate]
    omega

theorem fn_of {CX : CXT} {P : Program} {w : World} {K : PySem.W.Frag} {mg : Str → Option Value} {base : Heap} {k : Nat} {f : Addr} {name qual : Str} {params : Arguments} {body : List Stmt} {scope : Scope} {dV kV doc pm cdv ct oc : Value} {an od : Option Addr}
    {osl : Array (Option Value)} {N ps : List Str} {sp : Sp} (lk : K.lookup f = some ⟨oc, od, .func (PySem.W.fnOf name qual params body scope dV kV doc pm an cdv ct), osl⟩) (hcd : PySem.W.codeIn K cdv qual = true) (S : FnScope N ps scope)
    (len : ∀ vs H Q E, sp vs H Q E → vs.length = ps.length)
    (hbody : ∀ (A : Around) (outer : List Env) (s : Shared) (H : Hp) (vs : List V) (Q : VK) (E : XK), Room k (A.deeper (envOfC qual scope s.heap.objs.size f cdv)) → sp vs H Q E →
      ∃ t, PSs (cxOf CX P w K mg base N qual scope f cdv A outer s H E) body t ∧ t { nx := fun _ H' => Q .non H', rt := Q } (start N vs) H) :
    FnOk P w K mg base CX (k + 1) f (PySem.W.fnOf name qual params body scope dV kV doc pm an cdv ct) ps sp := by
  refine ⟨len, fun A outer s H args us vs Q E hr e0 hb r hsp => ?_⟩
  have hl := len _ _ _ _ hsp
  have KX : K.In s.heap := e0.mod.kin.keeps fun b o e => (e0.bs b o e).1
  have lim : s.heap.NoLimit := e0.mod.nolimit.keeps fun b o e => (e0.bs b o e).1
  have hkind : ∀ y ∈ ps.zip us, scope.names.lookup y.1 = some .local ∨ (scope.names.lookup y.1 = some .cell ∧ ((cellsFrom (s.heap.objs.size + 1) scope.names []).lookup y.1).isSome = true) := fun ⟨n, v⟩ hy => by
    rcases S.par n (List.of_mem_zip hy).1 with q | q
    · exact .inl q
    · exact .inr ⟨q, PySem.W.cellsFrom_some _ _ _ (.inl q)⟩
  refine codeAny_call_function hr.depth (KX _ _ lk) rfl S.co S.gen rfl (PySem.W.codeRec_of KX hcd) (hb _ _ _ _ ?_)
  refine wpAny_newFunctionEnv_cells S.kind hkind fun env he s1 x => ?_
  subst he
  refine ⟨lim.keeps x.toInCall.keep, codeAny_func ?_⟩
  obtain ⟨t, ht, hq⟩ := hbody A outer s H vs Q E (hr.deeper _) hsp
  have I : Inv (cxOf CX P w K mg base N qual scope f cdv A outer s H E) [] (start N vs) H s1 := inv_start S hr.hd e0 hl r x
  refine wpAny_mono (ht [] s1 (start N vs) H _ I hq) (fun fl s' hs => ?_) fun e s' hs => hs
  have fin : ∀ {σ' : St} {H' : Hp} {v : V} {u : Value}, Inv (cxOf CX P w K mg base N qual scope f cdv A outer s H E) [] σ' H' s' → RelV v u → Q v H' → CE outer P w H s Q u s' :=
    fun {σ' H' v u} J rv q => ⟨v, H', J.os, J.bare, J.base, J.hok, rv, q⟩
  cases fl with
  | ret u =>
    obtain ⟨v, σ', H', J, rv, q⟩ := hs
    exact fin J rv q
  | next =>
    obtain ⟨σ', H', J, q⟩ := hs
    exact fin (v := V.non) (u := Value.none) J rfl q
  | brk =>
    obtain ⟨_, _, _, q⟩ := hs
    exact False.elim q
  | cont =>
    obtain ⟨_, _, _, q⟩ := hs
    exact False.elim q
end L2

namespace L2
open PySem PySem.Spec PyProof.Rows
section
variable {X : Cx} {x : Str} {p pos : Pos} {e : Expr} {es : List Expr} {t : TA} {id T : String} {r : List V → Hp → VK → Prop}

def tCB (r : List V → Hp → VK → Prop) (t : TA) : TE := fun σ H Q => t σ H fun vs H1 => r vs H1 Q
theorem pe_callB (hc : CallR X (.builtin id) r) (hg : Gl X x) (hm : X.mg x = none) (hv : bootBuiltins x = some (.builtin id)) (ha : PA X (e :: es) t) (hn : x ≠ "__name__" := by decide) (hdb : (x == ("__debug__" : Str)) = false := by decide)
    (he : starEach (e :: es) X.env = (false, eval e X.env) :: starEach es X.env := by rfl) (hpl : (backTo pos (starEach es X.env)).any (·.1) = false := by rfl) : PE X (.Call (.Name x p) (e :: es) [] pos) (tCB r t) := by
  intro pins s σ H Q I h
  refine wpAny_Call_Name_kw (ld_blt I hg hm hv ?_ hn hdb)
  exact PyProof.Rows.callWith_builtin1 (thn (ha pos pins s σ H _ I h) fun us s1 ⟨vs, H1, I1, r1, q1⟩ => hc pins s1 σ H1 vs us Q I1 r1 q1) he hpl
theorem pe_callTy (hc : CallR X (.type T) r) (hg : Gl X x) (hm : X.mg x = none) (hv : bootBuiltins x = some (.type T)) (ha : PA X (e :: es) t) (hn : x ≠ "__name__" := by decide) (hdb : (x == ("__debug__" : Str)) = false := by decide)
    (he : starEach (e :: es) X.env = (false, eval e X.env) :: starEach es X.env := by rfl) (hpl : (backTo pos (starEach es X.env)).any (·.1) = false := by rfl) : PE X (.Call (.Name x p) (e :: es) [] pos) (tCB r t) := by
  intro pins s σ H Q I h
  refine wpAny_Call_Name_kw (ld_blt I hg hm hv ?_ hn hdb)
  exact PyProof.Rows.callWith_type1 (thn (ha pos pins s σ H _ I h) fun us s1 ⟨vs, H1, I1, r1, q1⟩ => hc pins s1 σ H1 vs us Q I1 r1 q1) he hpl
end
end L2

namespace HT
open PySem PyProof.Rows

section
open PySem.SeqAt
open PySem.AutoSeq1 (wpAny_loadPart')
open PySem.MeetsSeq PySem.MeetsSeq2 PySem.MeetsSeq3

end

section
variable {prog : Program} {w : World} {A : Around} {E : Value → Shared → Prop} {s : Shared}

def sIx (n d : Nat) : Option Int → Nat
  | none => d
  | some v => if v < 0 then (v + (n : Int)).toNat else min v.toNat n
theorem sIx_none (n d : Nat) : sIx n d none = d := rfl
theorem sIx_nat (n d k : Nat) : sIx n d (some (k : Int)) = min k n := by
  show (if (k : Int) < 0 then ((k : Int) + (n : Int)).toNat else min (k : Int).toNat n) = min k n
  rw [if_neg (by omega), Int.toNat_natCast]
end
end HT

namespace L2
open PySem PySem.Spec PyProof.Rows

abbrev TO := St → Hp → (Option Int → Hp → Prop) → Prop
def PO (X : Cx) (e : Option Expr) (t : TO) : Prop :=
  ∀ (pins : List (Addr × Obj)) (s : Shared) (σ : St) (H : Hp) (Q : Option Int → Hp → Prop), Inv X pins σ H s → t σ H Q →
    wpAny (model X.prog X.w) X.A (evalPart e X.env) (fun u s' => ∃ o H', Inv X pins σ H' s' ∧ IsPart u o ∧ Q o H') X.xe s
def tNoPart : TO := fun _ H Q => Q none H
def tPart (t : TE) : TO := fun σ H Q => t σ H fun x H1 => ∃ i, x = .int i ∧ Q (some i) H1

section
variable {X : Cx} {e : Expr} {te : TE} {lo hi : Option Expr} {tl th : TO} {pos p2 : Pos}

def SlR (X : Cx) (r : V → Option Int → Option Int → Hp → VK → Prop) : Prop :=
  ∀ (pins : List (Addr × Obj)) (s : Shared) (σ : St) (H : Hp) (x : V) (v vl vu : Value) (lo hi : Option Int) (sl : Addr) (Q : VK), Inv X pins σ H s → RelV x v → s.heap.IsSliceOf sl vl vu .none → IsPart vl lo → IsPart vu hi → r x lo hi H Q →
    ∃ T id, typeLookup (.type T) "__getitem__" = pure (some (.builtin id)) ∧ s.TypeIs v T ∧ wpAny (model X.prog X.w) X.A (getItem v (.ref sl)) (EP X pins σ Q) X.xe s
theorem SlR.or {r r' : V → Option Int → Option Int → Hp → VK → Prop} (h : SlR X r) (h' : SlR X r') : SlR X (fun x lo hi H Q => r x lo hi H Q ∨ r' x lo hi H Q) := by
  intro pins s σ H x v vl vu lo hi sl Q I rx hs pl pu q
  rcases q with q | q
  · exact h pins s σ H x v vl vu lo hi sl Q I rx hs pl pu q
  · exact h' pins s σ H x v vl vu lo hi sl Q I rx hs pl pu q
def tSl (r : V → Option Int → Option Int → Hp → VK → Prop) (te : TE) (tl th : TO) : TE := fun σ H Q => te σ H fun x H1 => tl σ H1 fun l H2 => th σ H2 fun u H3 => r x l u H3 Q
def cutV (xs : List V) (lo hi : Option Int) : List V := (xs.drop (HT.sIx xs.length 0 lo)).take (HT.sIx xs.length xs.length hi - HT.sIx xs.length 0 lo)
end
end L2

namespace L2
open PySem PySem.Spec PyProof.Rows

def ixN (n : Nat) (i : Int) : Option Nat := if 0 ≤ i then (if i < n then some i.toNat else none) else if -(n : Int) ≤ i then some (i + n).toNat else none
def atI {α : Type} (xs : List α) (i : Int) : Option α := (ixN xs.length i).bind fun j => xs[j]?
theorem ixN_seq {n : Nat} {i : Int} {j : Nat} (h : ixN n i = some j) : seqIndex? i n = some j ∧ j < n ∧ -(n : Int) ≤ i ∧ i < n := by
  unfold ixN at h
  by_cases h0 : 0 ≤ i
  · rw [if_pos h0] at h
    by_cases h1 : i < n
    · rw [if_pos h1] at h
      have e : i.toNat = j := Option.some.inj h
      exact ⟨by rw [seqIndex_of h0 h1, e], by omega, by omega, h1⟩
    · rw [if_neg h1] at h; cases h
  · rw [if_neg h0] at h
    by_cases h1 : -(n : Int) ≤ i
    · rw [if_pos h1] at h
      have e : (i + n).toNat = j := Option.some.inj h
      exact ⟨by rw [seqIndex_neg (by omega) h1, e], by omega, h1, by omega⟩
    · rw [if_neg h1] at h; cases h
theorem atI_get {α : Type} {xs : List α} {i : Int} {v : α} (h : atI xs i = some v) : ∃ j, seqIndex? i xs.length = some j ∧ xs[j]? = some v ∧ j < xs.length ∧ -(xs.length : Int) ≤ i ∧ i < xs.length := by
  unfold atI at h
  cases e : ixN xs.length i with
  | none => rw [e] at h; cases h
  | some j =>
    rw [e] at h
    obtain ⟨h1, h2, h3, h4⟩ := ixN_seq e
    exact ⟨j, h1, h, h2, h3, h4⟩
theorem atI_nat {α : Type} {xs : List α} {j : Nat} {v : α} (h : xs[j]? = some v) : atI xs (j : Int) = some v := by
  have hj : j < xs.length := (List.getElem?_eq_some_iff.mp h).1
  have e : ixN xs.length (j : Int) = some j := by
    unfold ixN
    rw [if_pos (by omega), if_pos (by omega)]; simp
  unfold atI; rw [e]; exact h
def PlainIx (b : Expr) : Prop := ∀ o i, subscripted b false o i = operate [o, i] (getItem o i)
def IxR (X : Cx) (r : R2) : Prop :=
  ∀ (value slice : Expr) (pins : List (Addr × Obj)) (s : Shared) (σ : St) (H : Hp) (x y : V) (v u : Value) (Q : VK), Inv X pins σ H s → RelV x v → RelV y u → r x y H Q →
    subscripted slice false v u = operate [v, u] (getItem v u) → wpAny (model X.prog X.w) X.A (subscriptTail value slice v u) (EP X pins σ Q) X.xe s
def MtR (X : Cx) (id : String) (r : V → List V → Hp → VK → Prop) : Prop :=
  ∀ (pins : List (Addr × Obj)) (s : Shared) (σ : St) (H : Hp) (x : V) (xs : List V) (v : Value) (us : List Value) (Q : VK), Inv X pins σ H s → RelV x v → Vals xs us → r x xs H Q →
    wpAny (model X.prog X.w) X.A (call (.builtin id) (v :: us)) (EP X pins σ Q) X.xe s
section
variable {X : Cx} {a b : Expr} {ta tb : TE} {pos : Pos}
theorem IxR.or {r r' : R2} (h : IxR X r) (h' : IxR X r') : IxR X (fun x y H Q => r x y H Q ∨ r' x y H Q) := by
  intro value slice pins s σ H x y v u Q I rx ry q hs
  rcases q with q | q
  · exact h value slice pins s σ H x y v u Q I rx ry q hs
  · exact h' value slice pins s σ H x y v u Q I rx ry q hs
theorem MtR.or {id : String} {r r' : V → List V → Hp → VK → Prop} (h : MtR X id r) (h' : MtR X id r') : MtR X id (fun x xs H Q => r x xs H Q ∨ r' x xs H Q) := by
  intro pins s σ H x xs v us Q I rx rs q
  rcases q with q | q
  · exact h pins s σ H x xs v us Q I rx rs q
  · exact h' pins s σ H x xs v us Q I rx rs q
theorem pe_ix {r : R2} (hr : IxR X r) (ha : PE X a ta) (hb : PE X b tb) (hs : PlainIx b) : PE X (.Subscript a b pos) (tOp r ta tb) := by
  intro pins s σ H Q I h
  exact Subscript_ (binT ha hb I h fun v u s2 x y H2 I2 rx ry q => hr a b pins s2 σ H2 x y v u Q I2 rx ry q (hs _ _))

def rIxL (K : PySem.W.Frag) : R2 := fun x y H Q => ∃ p xs i v, x = .ref p ∧ y = .int i ∧ SqL K H p xs ∧ atI xs i = some v ∧ Q v H
def rIxT (K : PySem.W.Frag) : R2 := fun x y H Q => ∃ p xs i v, x = .ref p ∧ y = .int i ∧ SqT K H p xs ∧ atI xs i = some v ∧ Q v H
theorem ix_list : IxR X (rIxL X.K) := by
  intro value slice pins s σ H x y v u Q I rx ry h hs
  obtain ⟨p, xs, i, z, rfl, rfl, hq, he, q⟩ := h
  cases rx
  obtain ⟨t, rfl⟩ := ry
  obtain ⟨its, r, pl, hz⟩ := I.list hq
  obtain ⟨j, h1, h2, h3, h4, h5⟩ := atI_get he
  obtain ⟨w, ew, rw'⟩ := r.get h2
  have hl := r.length
  have hn := line63
  have fin : EP X pins σ Q w s := ⟨z, H, I, rw', q⟩
  by_cases h0 : 0 ≤ i
  · have hj : i.toNat = j := by
      rw [seqIndex_of h0 h5] at h1
      exact Option.some.inj h1
    exact item_listR pl.isList h0 (by omega) (by rw [hj]; simpa using ew) fin hs
  · have hj : (i + (its.toArray.size : Int)).toNat = j := by
      rw [seqIndex_neg (by omega) h4] at h1
      rw [List.size_toArray, ← hl]
      exact Option.some.inj h1
    exact subscriptTail_builtinR (x := w) pl.isList.typeIs slot_list_getitem.lookup
      (wpAny_getItem_list_neg (Q := fun r s' => r = w ∧ EP X pins σ Q r s') pl.isList (by omega) (by rw [List.size_toArray] <;> omega) (by omega) (by rw [hj]; simpa using ew) ⟨rfl, fin⟩) hs
theorem ix_tup : IxR X (rIxT X.K) := by
  intro value slice pins s σ H x y v u Q I rx ry h hs
  obtain ⟨p, xs, i, z, rfl, rfl, hq, he, q⟩ := h
  cases rx
  obtain ⟨t, rfl⟩ := ry
  obtain ⟨its, r, pl, hz⟩ := I.tuple hq
  obtain ⟨j, h1, h2, h3, h4, h5⟩ := atI_get he
  obtain ⟨w, ew, rw'⟩ := r.get h2
  have hl := r.length
  have hn := line63
  have fin : EP X pins σ Q w s := ⟨z, H, I, rw', q⟩
  exact subscriptTail_builtinR (x := w) pl.typeIs slot_tuple_getitem.lookup
    (getItem_tuple (j := j) (Q := fun r s' => r = w ∧ EP X pins σ Q r s') pl (by omega) (by omega) (by rw [List.size_toArray, ← hl]; exact h1) (by simpa using ew) ⟨rfl, fin⟩) hs
theorem Inv.lst {pins : List (Addr × Obj)} {σ : St} {H : Hp} {s : Shared} {p : Addr} {xs : List V} (I : Inv X pins σ H s) (h : H p = some (.lst xs)) :
    ∃ (its : List Value) (n : Nat), Vals xs its ∧ s.heap.get? p = some { cls := .type "list", data := .seq its.toArray n } ∧ xs.length ≤ sizeLine := by
  obtain ⟨z, its, n, r, e⟩ := I.hok p _ h
  exact ⟨its, n, r, e, z⟩
def rSlL (K : PySem.W.Frag) : V → Option Int → Option Int → Hp → VK → Prop := fun x lo hi H Q => ∃ a xs, x = .ref a ∧ SqL K H a xs ∧ ∀ p, H p = none → Q (.ref p) (upd H p (.lst (cutV xs lo hi)))
def flatV : V → Bool
  | .non => true
  | .bl _ => true
  | .int _ => true
  | .str _ => true
  | _ => false
def eqV : V → V → Bool
  | .non, .non => true
  | .bl a, .bl b => a == b
  | .bl a, .int b => (if a then 1 else 0) == b
  | .int a, .bl b => a == (if b then 1 else 0)
  | .int a, .int b => a == b
  | .str a, .str b => a == b
  | _, _ => false
def inV (x : V) (xs : List V) : Bool := xs.any fun y => eqV y x
def rIn (K : PySem.W.Frag) (neg : Bool) : R2 := fun x y H Q => ∃ p xs, y = .ref p ∧ (SqL K H p xs ∨ SqT K H p xs) ∧ flatV x = true ∧ xs.all flatV = true ∧ Q (.bl (if neg then !inV x xs else inV x xs)) H
theorem call_len_seq : CallR X (.builtin "len") (fun xs H Q => ∃ p ys, xs = [.ref p] ∧ (SqL X.K H p ys ∨ SqT X.K H p ys) ∧ Q (.int ys.length) H) := by
  intro pins s σ H xs us Q I r h
  obtain ⟨p, ys, rfl, hq, q⟩ := h
  obtain ⟨u, rfl, rx⟩ := vals1 r
  cases rx
  have hn := line63
  rcases hq with hq | hq
  · obtain ⟨its, r', pl, hz⟩ := I.list hq
    have hlen := r'.length
    exact Calls.call_len_list pl.isList (by simp only [List.size_toArray] <;> omega) ⟨.int ys.length, H, I.tok _, ⟨s.toks + 1, by rw [List.size_toArray, hlen]⟩, q⟩
  · obtain ⟨its, r', pl, hz⟩ := I.tuple hq
    have hlen := r'.length
    exact len_tuple pl (by simp only [List.size_toArray] <;> omega) ⟨.int ys.length, H, I.tok _, ⟨s.toks + 1, by rw [List.size_toArray, hlen]⟩, q⟩
theorem CallR.or {f : Value} {r r' : List V → Hp → VK → Prop} (h : CallR X f r) (h' : CallR X f r') : CallR X f (fun xs H Q => r xs H Q ∨ r' xs H Q) := by
  intro pins s σ H xs us Q I rs q
  rcases q with q | q
  · exact h pins s σ H xs us Q I rs q
  · exact h' pins s σ H xs us Q I rs q
theorem call_list_of : CallR X (.type "list") (fun xs H Q => ∃ p ys, xs = [.ref p] ∧ (SqL X.K H p ys ∨ SqT X.K H p ys) ∧ ∀ l, H l = none → Q (.ref l) (upd H l (.lst ys))) := by
  intro pins s σ H xs us Q I r h
  obtain ⟨p, ys, rfl, hq, q⟩ := h
  obtain ⟨u, rfl, rx⟩ := vals1 r
  cases rx
  have fin : ∀ (its : List Value), Vals ys its → ys.length ≤ sizeLine → ∀ (h' : Heap) (c' : Nat), (∀ b o', s.heap.get? b = some o' → h'.get? b = some o') →
      h'.get? s.heap.objs.size = some { cls := .type "list", dict := none, data := .seq its.toArray c', slots := #[] } → EP X pins σ Q (.ref s.heap.objs.size) { s with heap := h' } := fun its r' hz h' c' kp e =>
    ⟨.ref s.heap.objs.size, _, I.laid (t' := s.toks) kp (Nat.le_refl _) (show ObjOk X.prog X.w _ h' _ (.lst ys) from ⟨hz, its, c', r', e⟩), rfl, q _ (I.hok.fresh (Nat.le_refl _))⟩
  rcases hq with hq | hq
  · obtain ⟨its, r', pl, hz⟩ := I.list hq
    have hlen := r'.length
    obtain ⟨o, ho, hc, n, hd⟩ := pl.isList
    exact call_list_seq p (.inl rfl) ho hc hd (fun h' c' kp e => fin its r' hz h' c' kp e) (by simp only [List.size_toArray] <;> omega)
  · obtain ⟨its, r', pl, hz⟩ := I.tuple hq
    have hlen := r'.length
    obtain ⟨o, ho, hc, n, hd⟩ := pl
    exact call_list_seq p (.inr rfl) ho hc hd (fun h' c' kp e => fin its r' hz h' c' kp e) (by simp only [List.size_toArray] <;> omega)
def tyV (K : PySem.W.Frag) (T : String) (x : V) (H : Hp) : Prop := match x with
  | .str _ => T = "str"
  | .int _ => T = "int"
  | .ref p => (T = "list" ∧ ∃ xs, SqL K H p xs) ∨ (T = "tuple" ∧ ∃ o, K.lookup p = some o ∧ o.cls = .type "tuple" ∧ o.dict = none) ∨
      (T = "dict" ∧ ((∃ kvs, H p = some (.dK kvs)) ∨ ∃ kvs, H p = some (.dT kvs))) ∨ (T = "set" ∧ ∃ S n, H p = some (.set S n))
  | _ => False
def tBM0 (K : PySem.W.Frag) (T : String) (r : V → List V → Hp → VK → Prop) (to : TE) : TE := fun σ H Q => to σ H fun x H1 => tyV K T x H1 ∧ r x [] H1 Q
def tBM (K : PySem.W.Frag) (T : String) (r : V → List V → Hp → VK → Prop) (to : TE) (t : TA) : TE := fun σ H Q => to σ H fun x H1 => tyV K T x H1 ∧ t σ H1 fun xs H2 => r x xs H2 Q
variable {o e : Expr} {es : List Expr} {to : TE} {t : TA} {name : Str} {apos cpos : Pos} {T id : String} {r : V → List V → Hp → VK → Prop}
end
end L2

namespace L2
open PySem PySem.Spec PyProof.Rows

def MtM (X : Cx) (id : String) (r : V → List V → Hp → VK → Prop) : Prop :=
  ∀ (pins : List (Addr × Obj)) (s : Shared) (σ : St) (H : Hp) (x : V) (xs : List V) (v : Value) (us : List Value) (Q : VK), Inv X pins σ H s → RelV x v → Vals xs us → r x xs H Q →
    wpAny (model X.prog X.w) X.A (call (.builtin id) (v :: us)) (EP X pins σ Q) X.xe s

theorem Vals.one : ∀ {x : V} {us : List Value}, Vals [x] us → ∃ u, us = [u] ∧ RelV x u
  | _, _, .cons r .nil => ⟨_, rfl, r⟩
theorem Vals.zero : ∀ {us : List Value}, Vals [] us → us = []
  | _, .nil => rfl
theorem Vals.dropLast {xs : List V} {us : List Value} (h : Vals xs us) : Vals xs.dropLast us.dropLast := by
  induction h with
  | nil => exact .nil
  | cons r t ih =>
    cases t with
    | nil => exact .nil
    | cons q t' => exact .cons r ih
theorem Vals.reverse {xs : List V} {us : List Value} (h : Vals xs us) : Vals xs.reverse us.reverse := by
  induction h with
  | nil => exact .nil
  | cons r t ih => rw [List.reverse_cons, List.reverse_cons]; exact Vals.append ih (.cons r .nil)
theorem Vals.rep {xs : List V} {us : List Value} (h : Vals xs us) : ∀ k : Nat, Vals (List.replicate k xs).flatten (List.replicate k us).flatten
  | 0 => .nil
  | k + 1 => by
    rw [List.replicate_succ, List.replicate_succ, List.flatten_cons, List.flatten_cons]
    exact Vals.append h (Vals.rep h k)
section
variable {X : Cx} {pins : List (Addr × Obj)} {σ : St} {H : Hp} {s : Shared} {l b : Addr} {xs ys zs : List V}

theorem Inv.lset {its its' : List Value} {n : Nat} {f : Array Value → Array Value} {t' : Nat} (I : Inv X pins σ H s) (hH : H l = some (.lst xs))
    (e : s.heap.get? l = some { cls := .type "list", data := .seq its.toArray n }) (hf : f its.toArray = its'.toArray) (hv : Vals ys its') (hz : ys.length ≤ sizeLine) :
    Inv X pins σ (upd H l (.lst ys)) { s with heap := s.heap.update l (Obj.mapSeq f), toks := t' } := by
  have q := PySem.IsL.update e f
  rw [hf] at q
  refine I.write (x := l) (e := l) (by rw [hH]; exact trivial) (.inl rfl) (fun b' u hb hu => (Heap.get?_update_other s.heap (Obj.mapSeq f) (Ne.symm hb)).trans hu) ⟨_, q⟩ ?_
  exact ⟨hz, its', _, hv, q⟩
theorem Inv.lnew {its : List Value} {t' : Nat} (I : Inv X pins σ H s) (hv : Vals ys its) (hz : ys.length ≤ sizeLine) :
    Inv X pins σ (upd H s.heap.objs.size (.lst ys)) { s with heap := s.heap.push { cls := .type "list", data := .seq its.toArray }, toks := t' } :=
  I.laid (fun _ _ q => Heap.get?_push_of_some _ q) (Nat.le_refl _) ⟨hz, its, 0, hv, Heap.get?_push_size _ rfl⟩
theorem Inv.fresh (I : Inv X pins σ H s) : H s.heap.objs.size = none := I.hok.fresh (Nat.le_refl _)
theorem Inv.lstM (I : Inv X pins σ H s) (hH : H l = some (.lst xs)) : xs.length ≤ sizeLine ∧ ∃ (its : List Value) (n : Nat), Vals xs its ∧ xs.length = its.length ∧ s.heap.get? l = some { cls := .type "list", data := .seq its.toArray n } := by
  obtain ⟨z, its, n, r, e⟩ := I.hok l _ hH
  exact ⟨z, its, n, r, r.length, e⟩

end

section
variable {X : Cx}

def rAppend : V → List V → Hp → VK → Prop := fun x vs H Q => ∃ l xs y, x = .ref l ∧ vs = [y] ∧ H l = some (.lst xs) ∧ xs.length < sizeLine ∧ Q .non (upd H l (.lst (xs ++ [y])))
theorem mt_append : MtM X "list.append" rAppend := by
  intro pins s σ H x vs v us Q I rx rv h
  obtain ⟨l, xs, y, rfl, rfl, hH, hz, q⟩ := h
  cases rx
  obtain ⟨u, rfl, ru⟩ := rv.one
  obtain ⟨z, its, n, r, hl, e⟩ := I.lstM hH
  refine call_meets F.slot_list_append ⟨_, e, rfl⟩ F.entry_list_append (F.args_list_append_2 _ _) (PySem.list_append l its.toArray n u (by rw [List.size_toArray]; omega)) ⟨e, ?_⟩
  refine ⟨.non, _, I.lset (its' := its ++ [u]) hH e (by simp) (r.append (.cons ru .nil)) ?_, rfl, q⟩
  rw [List.length_append, List.length_singleton]
  omega

def rCat : R2 := fun x y H Q => ∃ l b xs zs, x = .ref l ∧ y = .ref b ∧ H l = some (.lst xs) ∧ H b = some (.lst zs) ∧ xs.length + zs.length ≤ sizeLine ∧ ∀ p, H p = none → Q (.ref p) (upd H p (.lst (xs ++ zs)))
theorem op_cat : OpR X (binaryOp .Add) rCat := by
  intro pins s σ H x y v u Q I rx ry h
  obtain ⟨l, b, xs, zs, rfl, rfl, hH, hB, hz, q⟩ := h
  cases rx
  cases ry
  obtain ⟨z, its, n, r, hl, e⟩ := I.lstM hH
  obtain ⟨z2, its2, n2, r2, hl2, e2⟩ := I.lstM hB
  refine PySem.P.add_list e e2 ?_ (by rw [List.size_toArray, List.size_toArray]; omega)
  have ea : its.toArray ++ its2.toArray = (its ++ its2).toArray := by simp
  rw [ea]
  exact ⟨.ref _, _, I.lnew (t' := s.toks) (r.append r2) (by rw [List.length_append]; omega), rfl, q _ I.fresh⟩
end


end L2

namespace L2
open PySem PySem.Spec PyProof.Rows

section
variable {κ : Type} [DecidableEq κ]
def valV (kvs : List (κ × V)) (k : κ) : Option V := (kvs.find? fun kv => decide (kv.1 = k)).map (·.2)
def putK (kvs : List (κ × V)) (k : κ) (v : V) : List (κ × V) :=
  if (kvs.any fun kv => decide (kv.1 = k)) = true then kvs.map (fun kv => if kv.1 = k then (kv.1, v) else kv) else kvs ++ [(k, v)]
def dropK (kvs : List (κ × V)) (k : κ) : List (κ × V) := kvs.filter fun kv => decide (kv.1 ≠ k)

theorem RelO.getD {o : Option V} {u : Option Value} {d : V} {d' : Value} (r : RelO o u) (rd : RelV d d') : RelV (o.getD d) (u.getD d') := by
  cases o with
  | none => cases u with
    | none => exact rd
    | some _ => exact (show False from r).elim
  | some _ => cases u with
    | none => exact (show False from r).elim
    | some _ => exact r

theorem KV.any {kvs : List (κ × V)} {vs : List (κ × Value)} (r : KV kvs vs) (k : κ) : (kvs.any fun kv => decide (kv.1 = k)) = vs.any fun kv => decide (kv.1 = k) := by
  unfold KV at r
  induction r with
  | nil => rfl
  | cons h t ih => rw [List.any_cons, List.any_cons, ih, h.1]
theorem KV.drop {kvs : List (κ × V)} {vs : List (κ × Value)} (r : KV kvs vs) (k : κ) : KV (dropK kvs k) (without vs k) := by
  unfold KV at r ⊢
  unfold dropK without
  induction r with
  | nil => exact .nil
  | @cons p q ps qs h t ih =>
    obtain ⟨h1, h2⟩ := h
    rw [List.filter_cons, List.filter_cons]
    by_cases e : p.1 = k
    · have a : ¬ decide (p.1 ≠ k) = true := by simp [e]
      have b : ¬ decide (q.1 ≠ k) = true := by simp [h1.symm.trans e]
      rw [if_neg a, if_neg b]; exact ih
    · have e' : ¬ q.1 = k := fun z => e (h1.trans z)
      have a : decide (p.1 ≠ k) = true := by simp [e]
      have b : decide (q.1 ≠ k) = true := by simp [e']
      rw [if_pos a, if_pos b]; exact .cons ⟨h1, h2⟩ ih
theorem KV.keys {kvs : List (κ × V)} {vs : List (κ × Value)} (r : KV kvs vs) : kvs.map (·.1) = vs.map (·.1) := by
  unfold KV at r
  induction r with
  | nil => rfl
  | cons h t ih => rw [List.map_cons, List.map_cons, ih, h.1]
theorem KV.length {kvs : List (κ × V)} {vs : List (κ × Value)} (r : KV kvs vs) : kvs.length = vs.length := Paired.length r
end


abbrev KT (H : Hp) : List (List Key × V) → List (List Key × Addr × Value) → Prop := Paired fun p q => p.1 = q.1 ∧ H q.2.1 = some (.tup (p.1.map kV)) ∧ RelV p.2 q.2.2
theorem KT.keeps {H H' : Hp} {kvs : List (List Key × V)} {xs : List (List Key × Addr × Value)} (r : KT H kvs xs) (ht : ∀ b ys, H b = some (.tup ys) → H' b = some (.tup ys)) : KT H' kvs xs :=
  Paired.mapP r fun _ _ z => ⟨z.1, ht _ _ z.2.1, z.2.2⟩

section
variable {P : Program} {w : World} {H : Hp} {h : Heap} {a : Addr}
theorem rd_of {u : HO} (ok : HOk P w H h) (e : Rd H a u) : ObjOk P w H h a u := e.ok ok
theorem dk_rd {kvs : List (Key × V)} (ok : HOk P w H h) (e : Rd H a (.dK kvs)) : kvs.length ≤ sizeLine ∧ (a == sysModules) = false ∧ ∃ vs, KV kvs vs ∧ h.DictOf (mixKind P w) a vs :=
  show ObjOk P w H h a (.dK kvs) from rd_of ok e
end

def DGet (H : Hp) (a : Addr) (y : V) (r : Option V) : Prop :=
  (∃ kvs k, Rd H a (.dK kvs) ∧ y = kV k ∧ r = valV kvs k) ∨ ∃ kvs k b, Rd H a (.dT kvs) ∧ y = .ref b ∧ H b = some (.tup (k.map kV)) ∧ r = valV kvs k
def DPut (H : Hp) (a : Addr) (y v : V) (H' : Hp) : Prop :=
  (∃ kvs k, H a = some (.dK kvs) ∧ y = kV k ∧ kvs.length < sizeLine ∧ H' = upd H a (.dK (putK kvs k v))) ∨
  ∃ kvs k b, H a = some (.dT kvs) ∧ y = .ref b ∧ H b = some (.tup (k.map kV)) ∧ kvs.length < sizeLine ∧ H' = upd H a (.dT (putK kvs k v))
theorem DGet.k {H : Hp} {a : Addr} {kvs : List (Key × V)} {k : Key} (e : H a = some (.dK kvs)) : DGet H a (kV k) (valV kvs k) := .inl ⟨kvs, k, .inl e, rfl, rfl⟩
theorem DGet.t {H : Hp} {a b : Addr} {kvs : List (List Key × V)} {k : List Key} (e : H a = some (.dT kvs)) (eb : H b = some (.tup (k.map kV))) : DGet H a (.ref b) (valV kvs k) := .inr ⟨kvs, k, b, .inl e, rfl, eb, rfl⟩
theorem DPut.k {H : Hp} {a : Addr} {kvs : List (Key × V)} {k : Key} {v : V} (e : H a = some (.dK kvs)) (hl : kvs.length < sizeLine) : DPut H a (kV k) v (upd H a (.dK (putK kvs k v))) := .inl ⟨kvs, k, e, rfl, hl, rfl⟩
theorem DPut.t {H : Hp} {a b : Addr} {kvs : List (List Key × V)} {k : List Key} {v : V} (e : H a = some (.dT kvs)) (eb : H b = some (.tup (k.map kV))) (hl : kvs.length < sizeLine) :
    DPut H a (.ref b) v (upd H a (.dT (putK kvs k v))) := .inr ⟨kvs, k, b, e, rfl, eb, hl, rfl⟩


section
variable {X : Cx} {pins : List (Addr × Obj)} {σ : St} {H : Hp} {s : Shared} {a : Addr} {y v : V} {u r : Value} {o : Option V} {A : Around} {E : Value → Shared → Prop}

theorem Inv.big (I : Inv X pins σ H s) : sysModules < s.heap.objs.size := by
  have h : mainGlobals < s.heap.objs.size := (I.mod.glob.keeps I.bk).lt
  exact Nat.lt_trans (by decide) h

end

section
variable {X : Cx} {pins : List (Addr × Obj)} {σ : St} {H : Hp} {s : Shared} {a : Addr} {kvs : List (Key × V)} {k : Key} {u : Value} {A : Around} {E : Value → Shared → Prop}
theorem d_len {Q : Value → Shared → Prop} (I : Inv X pins σ H s) (e : Rd H a (.dK kvs)) (h : ∀ t s', Inv X pins σ H s' → Q (.int kvs.length t) s') : wpAny (model X.prog X.w) A (call (.builtin "len") [.ref a]) Q E s := by
  obtain ⟨z, hd, vs, rel, dd⟩ := dk_rd I.hok e
  refine call_len_dict hd dd (by rw [← rel.length]; rw [sizeLine_eq] at z; omega) ?_
  rw [← rel.length]
  exact h _ _ (I.tok _)
end


def tDGet (td ty : TE) : TE := fun σ H Q => td σ H fun x H1 => ty σ H1 fun y H2 => ∃ a v, x = .ref a ∧ DGet H2 a y (some v) ∧ Q v H2
def tDIn (ty td : TE) : TE := fun σ H Q => ty σ H fun y H1 => td σ H1 fun x H2 => ∃ a o, x = .ref a ∧ DGet H2 a y o ∧ Q (.bl o.isSome) H2
def tDNotIn (ty td : TE) : TE := fun σ H Q => ty σ H fun y H1 => td σ H1 fun x H2 => ∃ a o, x = .ref a ∧ DGet H2 a y o ∧ Q (.bl (!o.isSome)) H2
def sDPut (td ty tv : TE) : TS := fun D σ H => tv σ H fun v H1 => td σ H1 fun x H2 => ty σ H2 fun y H3 => ∃ a H4, x = .ref a ∧ DPut H3 a y v H4 ∧ D.nx σ H4


theorem dk_empty {P : Program} {w : World} {H : Hp} (h : Heap) (hb : sysModules < h.objs.size) : ObjOk P w H (h.push { cls := .type "dict", data := .dict #[] }) h.objs.size (.dK []) :=
  ⟨Nat.zero_le _, beq_eq_false_iff_ne.mpr (Ne.symm (Nat.ne_of_lt hb)), [], .nil, Heap.DictOf.new h⟩
def tDNewK : TE := fun _ H Q => ∀ p, H p = none → Q (.ref p) (upd H p (.dK []))
def tDNewT : TE := fun _ H Q => ∀ p, H p = none → Q (.ref p) (upd H p (.dT []))
section
variable {X : Cx} {pos : Pos}
theorem pe_dnewK : PE X (.Dict [] [] pos) tDNewK := fun pins s σ H Q I h =>
  wpAny_Dict_empty ⟨.ref s.heap.objs.size, _, I.laid (a := s.heap.objs.size) (o := .dK []) (t' := s.toks) (fun _ _ q => Heap.get?_push_of_some _ q) (Nat.le_refl _) (dk_empty s.heap I.big), rfl, h _ (I.hok.fresh (Nat.le_refl _))⟩
end

def tPairs : List (TE × TE) → St → Hp → (List (V × V) → Hp → Prop) → Prop
  | [], _, H, Q => Q [] H
  | (tk, tv) :: r, σ, H, Q => tk σ H fun x H1 => tv σ H1 fun y H2 => tPairs r σ H2 fun ps H3 => Q ((x, y) :: ps) H3
abbrev VV : List (V × V) → List (Value × Value) → Prop := Paired fun p q => RelV p.1 q.1 ∧ RelV p.2 q.2
def PPs (X : Cx) (pos : Pos) (keys : List (Option Expr)) (values : List Expr) (trs : List (TE × TE)) : Prop :=
  ∀ (pins : List (Addr × Obj)) (s : Shared) (σ : St) (H : Hp) (Q : List (V × V) → Hp → Prop), Inv X pins σ H s → tPairs trs σ H Q →
    wpAny (model X.prog X.w) X.A (evalPairs (pairTrees keys values X.env pos)) (fun vs s' => ∃ ps H', Inv X pins σ H' s' ∧ VV ps vs ∧ Q ps H') X.xe s
structure M1 (X : Cx) (o : Expr) (m : Str) (apos : Pos) (e : Expr) (cpos : Pos) : Prop where
  base : attributeBase o m X.env (eval o X.env) = eval o X.env
  few : ((backTo cpos (starEach [e] X.env)).all (fun x => !x.1) && (backToKw cpos (keywordEach [] X.env)).all (fun x => x.1.isSome)
    && decide (([e] : List Expr).length + ([] : List Keyword).length + (if ([] : List Keyword).isEmpty then 0 else 1) < 30)) = true
  line : (apos.endLine == cpos.line) = true
  trees : backTo cpos (starEach [e] X.env) = [(false, eval e X.env)]
structure M2 (X : Cx) (o : Expr) (m : Str) (apos : Pos) (e f : Expr) (cpos : Pos) : Prop where
  base : attributeBase o m X.env (eval o X.env) = eval o X.env
  few : ((backTo cpos (starEach [e, f] X.env)).all (fun x => !x.1) && (backToKw cpos (keywordEach [] X.env)).all (fun x => x.1.isSome)
    && decide (([e, f] : List Expr).length + ([] : List Keyword).length + (if ([] : List Keyword).isEmpty then 0 else 1) < 30)) = true
  line : (apos.endLine == cpos.line) = true
  trees : backTo cpos (starEach [e, f] X.env) = [(false, eval e X.env), (false, eval f X.env)]

def IsD (H : Hp) (a : Addr) : Prop := (∃ kvs, Rd H a (.dK kvs)) ∨ ∃ kvs, Rd H a (.dT kvs)

def tDGet2 (td ty tx : TE) : TE := fun σ H Q => td σ H fun x H1 => ∃ a, x = .ref a ∧ IsD H1 a ∧ ty σ H1 fun y H2 => tx σ H2 fun z H3 => ∃ o, DGet H3 a y o ∧ Q (o.getD z) H3



end L2

namespace Att
open PySem PySem.W PySem.Calls PyProof.Rows

theorem ints_of_wellAll {P : Params} {h : Heap} : ∀ (ns : List Int) (vs : List Value), WellAll P h vs (ns.map WData.int) → IntsAre vs ns := by
  intro ns
  induction ns with
  | nil =>
    intro vs w
    rw [List.map_nil] at w
    cases w
    exact .nil
  | cons n ns ih =>
    intro vs w
    rw [List.map_cons] at w
    cases w with
    | cons a b =>
      cases a
      exact .cons _ _ (ih _ b)

theorem script_of {l : OpenLaw} {n : Nat} (hn : l.most = some n) {P : Params} {h : Heap} {args : List WData} {vals : List Value}
    (hpre : l.row.toRowW.claim.pre args = true) (hwl : WellAll P h vals args) :
    ∃ a vs ns, vals = [Value.ref a] ∧ args = [WData.list (ns.map WData.int)] ∧ h.get? a = some { cls := .type "list", data := .seq vs.toArray } ∧ IntsAre vs ns ∧ ns.length ≤ n := by
  have hsh : WShape.hasAll [] args [.list .int] = true := (pre_splitW hpre).1
  have hc : l.pre.holds [] { args := args } = true := (pre_splitW hpre).2
  obtain ⟨d, r, rfl, h1, h2⟩ := hasAllW_cons hsh
  obtain rfl := hasAllW_nil h2
  obtain ⟨xs, rfl, h3⟩ := hasW_list h1
  obtain ⟨ns, rfl⟩ := items_int h3
  have hlen : ns.length ≤ n := by
    unfold OpenLaw.pre at hc
    have h4 : (WTm.not (.lt (.lit (.int (n : Int))) (.len (.arg 0)))).holds [] { args := [.list (ns.map .int)] } = true := by
      have h4 := (holds_andW hc).1
      rw [hn] at h4
      exact h4
    have h5 := condW_of h4 (w_not (w_lt w_lit (w_len_list (w_arg rfl))))
    rw [List.length_map] at h5
    refine Nat.le_of_not_lt fun q => ?_
    have q' : (n : Int) < ((ns.length : Nat) : Int) := by omega
    first
      | (rw [decide_eq_true q'] at h5; exact absurd h5 (by decide))
      | (simp at h5; omega)
  cases hwl with
  | cons w1 w2 =>
    cases w2
    cases w1 with
    | list ho hall => exact ⟨_, _, ns, rfl, rfl, ho, ints_of_wellAll ns _ hall, hlen⟩

theorem post_true (l : OpenLaw) (args : List WData) : l.row.toRowW.claim.post args (.bool true) args = true :=
  postW_of (r := l.row.toRowW) (X := (true == true))
    (show WShape.has [] (.bool true) .bool = true by first | rfl | decide | simp [WShape.has, WShape.arms, WShape.armsAll])
    (show (WTm.eq .res (.lit (.bool true))).value [] { args := args, res := some (.bool true), after := args } = some (.bool (true == true)) from w_eq_bool (w_res rfl) w_lit) rfl

theorem attach_call {l : OpenLaw} {n : Nat} {q : Program} {loose : List Str} {XP : (Str → Option Value) → Heap → Prop} {YP : World → Heap → Prop} {d : DefRec}
    (hn : l.most = some n) (hdf : d.params.defaults = [])
    (call : ∀ (w : World) (s₀ s₁ : Shared) (mg mb : Str → Option Value) (fa : Addr) (o : Obj) (pm cd doc : Value) (a : Addr) (vs : List Value) (ns : List Int),
      Ground q loose [] XP w s₀ mg mb s₁.heap → YP w s₁.heap →
      s₁.heap.get? fa = some o → o.data = .func (docDef d.name d.params d.body d.scope pm cd doc) → s₁.heap.CodeRec cd d.name → mg d.name = some (.ref fa) →
      s₁.heap.get? a = some { cls := .type "list", data := .seq vs.toArray } → IntsAre vs ns → ns.length ≤ n → s₁.gens = #[] →
      codeAny (model l.prog w) callerA (.call (.ref fa) ⟨[.ref a], []⟩) (fun r s' => r = .ok (.ret (.bool true)) ∧ OldK s₁.heap s'.heap ∧ s'.os = s₁.os ∧ AllBare s'.gens) s₁) :
    WalkO q loose XP YP l.row.toRowW d [] (fun f vs => PySem.call f vs) := by
  intro w s₀ s₁ mg mb G Y fa o pm cd doc dV kV ho hd hcd hD hmg hg args vals as hpre hlay hrd hwl hlo
  obtain rfl : dV = .none := Dflts.none hD hdf
  obtain rfl : kV = .none := Dflts.noKw hD
  obtain ⟨a, vs, ns, rfl, rfl, hobj, hints, hlen⟩ := script_of hn hpre hwl
  refine enter_call (codeAny_mono (call w s₀ s₁ mg mb fa o pm cd doc a vs ns G Y ho (fd_plain hd) hcd hmg hobj hints hlen hg) fun r s' hq => ?_)
  obtain ⟨rfl, h2, h3, h4⟩ := hq
  exact ⟨.inl ⟨.bool true, .bool true, [], rfl, fun _ => rfl, .bool true, post_true l _, fun _ => ⟨List.Pairwise.nil, fun _ hm => (nomatch hm)⟩⟩, h2, h3, h4⟩

section
variable {prog : Program} {w : World} {A : Around} {E : Value → Shared → Prop} {s : Shared} {K : Frag}

end
end Att

namespace L2
open PySem PySem.Spec PyProof.Rows

theorem vals_ints : ∀ {vs : List Value} {ns : List Int}, IntsAre vs ns → Vals (ns.map V.int) vs
  | _, _, .nil => .nil
  | _, _, .cons n t h => .cons ⟨t, rfl⟩ (vals_ints h)

def Only (H : Hp) : Prop := ∀ b, H b = none ∨ ∃ o xs, H b = some (.frz o (.lst xs))

theorem law_call {P : Program} {w : World} {K : PySem.W.Frag} {mg mb : Str → Option Value} {CX : CXT} {k : Nat} {fa a : Addr} {fd : FuncData} {x : Str} {sp : Sp} {s₁ : Shared} {vs : List Value} {ns : List Int}
    (KX : K.In s₁.heap) (hns : s₁.heap.Ns mainGlobals mg) (hb : s₁.heap.Ns builtinsNs mb) (hbb : ∀ x : Str, x ≠ "__name__" → mb x = bootBuiltins x) (hlim : s₁.heap.NoLimit) (hg : s₁.gens = #[])
    (ha : s₁.heap.get? a = some { cls := .type "list", data := .seq vs.toArray }) (hi : IntsAre vs ns) (hl : ns.length ≤ sizeLine) (hr : Room k callerA)
    (F : ∀ base : Heap, K.In base → base.Ns mainGlobals mg → FnOk P w K mg base CX k fa fd [x] sp) (hbind : ∀ (s : Shared) (u : Value), BindsTo s fd ⟨[u], []⟩ [(x, u)])
    (hsp : ∀ H : Hp, Only H → SqL K H a (ns.map V.int) → sp [.ref a] H (fun v _ => v = .bl true) fun _ _ _ => False)
    (hCX : ∀ H e s', CX [] H s₁ (fun _ _ _ => False) e s' → False) :
    codeAny (model P w) callerA (.call (.ref fa) ⟨[.ref a], []⟩) (fun r s' => r = .ok (.ret (.bool true)) ∧ OldK s₁.heap s'.heap ∧ s'.os = s₁.os ∧ AllBare s'.gens) s₁ := by
  have rv := vals_ints hi
  have lenV := hi.length
  -- from an abstract heap in which nothing but the script may be tracked
  have core : ∀ H : Hp, Only H → SqL K H a (ns.map V.int) → HOk P w H s₁.heap → (∀ b, H b ≠ none → b = a) → (H a ≠ none → K.lookup a = none) →
      codeAny (model P w) callerA (.call (.ref fa) ⟨[.ref a], []⟩) (fun r s' => r = .ok (.ret (.bool true)) ∧ OldK s₁.heap s'.heap ∧ s'.os = s₁.os ∧ AllBare s'.gens) s₁ := by
    intro H hO hS hok hA hK
    have base_of : ∀ {b : Addr} {o : Obj}, s₁.heap.get? b = some o → H b = none → (hidT s₁.heap H).get? b = some o := fun e n => hidT_get e n
    have noA : ∀ {b : Addr} {o : Obj} {es : Array DictEntry} {ep : Nat}, s₁.heap.get? b = some o → o.data = .dict es ep → H b = none := fun {b o es ep} e d => by
      cases q : H b with
      | none => rfl
      | some u =>
        have e' : b = a := hA b (by rw [q]; simp)
        subst e'
        rw [ha] at e; cases e
        have d' : Data.seq vs.toArray _ = Data.dict es ep := d
        cases d'
    have nsK : ∀ {b : Addr} {m : Str → Option Value}, s₁.heap.Ns b m → (hidT s₁.heap H).Ns b m := fun {b m} ⟨o, es, ep, e, d, r⟩ => ⟨o, es, ep, base_of e (noA e d), d, r⟩
    have hKb : K.In (hidT s₁.heap H) := fun b o e => base_of (KX b o e) (by
      cases q : H b with
      | none => rfl
      | some u =>
        have e' : b = a := hA b (by rw [q]; simp)
        subst e'
        rw [hK (by rw [q]; simp)] at e; cases e)
    have hM : Mod K mg (hidT s₁.heap H) := ⟨hKb, nsK hns, ⟨mb, nsK hb, hbb⟩, let ⟨mc, h1, h2⟩ := hlim; ⟨mc, nsK h1, h2⟩⟩
    have e0 : Env0 P w K mg (hidT s₁.heap H) callerA [] s₁ H := ⟨rfl, hM, fun b o e => of_hidT e, Nat.le_of_eq (hidT_size _ _), trivial, fun b hb => absurd (show b ∈ ([] : List Addr) from hb) (by simp), hok, .of_eq hg⟩
    refine codeAny_mono ((F _ hKb (nsK hns)).run callerA [] s₁ H ⟨[.ref a], []⟩ [.ref a] [.ref a] _ _ hr e0 (hbind s₁ (.ref a)) (.cons rfl .nil) (hsp H hO hS)) fun r s' h => ?_
    cases r with
    | error e => exact (hCX H e s' h).elim
    | ok fl =>
      cases fl with
      | next => exact False.elim h
      | brk => exact False.elim h
      | cont => exact False.elim h
      | ret u =>
        obtain ⟨v, H', os, bare, un, hok', r', q⟩ := h
        have q' : v = .bl true := q
        subst q'
        obtain rfl : u = Value.bool true := r'
        refine ⟨rfl, OldK.of_keep fun b o e => ?_, os, bare⟩
        cases q : H b with
        | none => exact un.keep b o e q (by intro z; exact absurd (show b ∈ ([] : List Addr) from z) (by simp)) (by simp)
        | some u =>
          rcases hO b with z | ⟨ob, xs, z⟩
          · rw [q] at z; cases z
          · have z2 := un.frzs b ob _ z
            obtain ⟨e1, _⟩ := hok b _ z
            obtain ⟨e2, _⟩ := hok' b _ z2
            rw [e] at e1; cases e1
            exact e2
  cases hk : K.lookup a with
  | some o =>
    -- the script is one of the module's own objects
    have e := KX a o hk
    rw [ha] at e
    cases e
    refine core (fun _ => none) (fun _ => .inl rfl) (.inr ⟨_, vs.toArray, _, hk, rfl, rfl, rfl, by rw [List.size_toArray, lenV]; exact hl, by simpa using rv⟩) (fun b u z => by have z' : (none : Option HO) = some u := z; cases z') (fun b z => absurd rfl z) fun z => absurd rfl z
  | none =>
    refine core (fun b => if b = a then some (.frz { cls := .type "list", data := .seq vs.toArray } (.lst (ns.map V.int))) else none) (fun b => ?_) (.inl (.inr ⟨{ cls := .type "list", data := .seq vs.toArray }, if_pos rfl⟩)) (fun b u z => ?_) (fun b z => ?_) fun _ => hk
    · by_cases hb : b = a
      · exact .inr ⟨_, _, if_pos hb⟩
      · exact .inl (if_neg hb)
    · by_cases hb : b = a
      · have z' := (if_pos hb).symm.trans z
        cases z'
        subst hb
        exact ⟨ha, by rw [List.length_map]; exact hl, vs, _, rv, ha⟩
      · have z' := (if_neg hb).symm.trans z
        cases z'
    · by_cases hb : b = a
      · exact hb
      · exact absurd (if_neg hb) z
end L2

namespace L2
open PySem PySem.Spec PyProof.Rows

abbrev KOf {K : PySem.W.Frag} {h : Heap} (_ : K.In h) : PySem.W.Frag := K

theorem walk_of {l : PySem.W.OpenLaw} {n k : Nat} {q : Program} {loose : List Str} {XP : (Str → Option Value) → Heap → Prop} {YP : World → Heap → Prop} {d : DefRec} {K : Params → PySem.W.Frag} {CX : World → CXT} {sp : World → Sp} {x : Str}
    (hn : l.most = some n) (hn2 : n ≤ sizeLine) (hdf : d.params.defaults = []) (hr : Room k callerA)
    (hY : ∀ (w : World) (h : Heap), YP w h → (K w.params).In h)
    (F : ∀ (w : World) (mg : Str → Option Value) (fa : Addr) (h : Heap), (K w.params).In h → h.Ns mainGlobals mg → mg d.name = some (.ref fa) →
      ∃ fd : FuncData, (∀ (s : Shared) (u : Value), BindsTo s fd ⟨[u], []⟩ [(x, u)]) ∧
        ∀ base : Heap, (K w.params).In base → base.Ns mainGlobals mg → FnOk l.prog w (K w.params) mg base (CX w) k fa fd [x] (sp w))
    (hsp : ∀ (w : World) (H : Hp) (a : Addr) (ns : List Int), ns.length ≤ n → Only H → SqL (K w.params) H a (ns.map V.int) → sp w [.ref a] H (fun v _ => v = .bl true) fun _ _ _ => False)
    (hCX : ∀ (w : World) (H : Hp) (s : Shared) (e : Value) (s' : Shared), CX w [] H s (fun _ _ _ => False) e s' → False) :
    PySem.W.WalkO q loose XP YP l.row.toRowW d [] (fun f vs => PySem.call f vs) := by
  refine Att.attach_call hn hdf fun w s₀ s₁ mg mb fa o pm cd doc a vs ns G Y ho hd hcd hmg hobj hints hlen hg => ?_
  have KX := hY w _ Y
  obtain ⟨fd, hb, hF⟩ := F w mg fa _ KX G.T.g hmg
  exact law_call KX G.T.g G.T.b G.T.builtins G.T.nolimit hg hobj hints (Nat.le_trans hlen hn2) hr hF hb (fun H hO hS => hsp w H a ns hlen hO hS) fun H e s' => hCX w H s₁ e s'
end L2

/- THE LAST THEOREM (shape; LID, My.* are yours):
   My.Adr: a structure of the addresses that your layer names (classes, functions); My.Txt K t: a structure (Prop) of the equations over K;
   My.txt_mk : {K} {implicit addresses ..} (e1 : nsIn K mainGlobals "law" = some (some (.ref f))) (e2 : K.lookup f = some ⟨oc, od, .func (fnOf "law" "law" params body scope dV kV doc pm an cdv ct), sl⟩) (e3 : codeIn K cdv "law" = true) .. : ∃ t, My.Txt K t

set_option maxRecDepth 100000 in
set_option maxHeartbeats 0 in
theorem PySem.Challenge.cw_LID_holds : PySem.Challenge.rw_LID.Holds := by
  w_on; o_law; k_head; (case hw => w_witness2)
  k_fill
  refine L2.walk_of (l := PySem.Challenge.rw_LID) (n := 63) (k := 40) (x := "script") (CX := fun w => ..) (sp := fun _ => My.sp_law) rfl (by decide) rfl ⟨rfl, by decide, by decide⟩ (fun w h Y => PySem.W.kIn_of Y) ?F ?S ?C
  case F =>
    intro w mg fa h KX G hmg
    have T : ∃ t, My.Txt (L2.KOf KX) t := by
      dsimp only [L2.KOf]                          -- K must stand as «<heap const> w.params» for k_is
      refine' My.txt_mk ?e1 ?e2 ?e3 ..
      (case e1 => PySem.W.k_is)                    -- in the order: a name -> its address -> its object -> its parts
      (case e2 => PySem.W.k_is)
      ..
    obtain ⟨t, T⟩ := T
    have e0 := hmg.symm.trans (PySem.W.mg_of KX G T.law)
    cases e0                                       -- fa is the law's own address
    exact ⟨_, fun s u => .of_eq rfl, fun base kb nb => My.law_fn T kb nb⟩     -- if «.of_eq rfl» comes too early: refine' ⟨_, ?b, fun base kb nb => My.law_fn T kb nb⟩; exact fun s u => .of_eq rfl
  case S => exact fun w H a ns hl hO hS => ..
  case C => exact ..
(the tactic k_is has no namespace: write k_is) -/

namespace L2
open PySem PySem.Spec PyProof.Rows

def defArgs (s : Stmt) : Arguments := match s with
  | .FunctionDef _ a _ _ _ _ _ _ _ _ => a
  | _ => { posonlyargs := [], args := [], vararg := none, kwonlyargs := [], kw_defaults := [], kwarg := none, defaults := [] }
def defBody (s : Stmt) : List Stmt := match s with
  | .FunctionDef _ _ b _ _ _ _ _ _ _ => b
  | _ => []
def defScope (s : Stmt) : Scope := match s with
  | .FunctionDef _ _ _ _ _ _ sc _ _ _ => sc
  | _ => { kind := .function, names := [], isGenerator := false, isCoroutine := false }

abbrev CX0 : CXT := fun _ _ _ _ _ _ => False
abbrev E0 : XK := fun _ _ _ => False
theorem pass0 {X : Cx} : Passes CX0 X E0 := fun _ _ _ _ _ _ _ h => h.elim

structure Fun (K : PySem.W.Frag) (x qual : Str) (st : Stmt) (f : Addr) (fd : FuncData) : Prop where
  ex : ∃ (oc : Value) (od : Option Addr) (kV doc pm : Value) (an : Option Addr) (cdv ct : Value) (osl : Array (Option Value)),
    fd = PySem.W.fnOf x qual (defArgs st) (defBody st) (defScope st) .none kV doc pm an cdv ct ∧ K.lookup f = some ⟨oc, od, .func fd, osl⟩ ∧ PySem.W.codeIn K cdv qual = true
  kp : PySem.W.keepIn K (.ref f) = true
section
variable {P : Program} {w : World} {K : PySem.W.Frag} {mg : Str → Option Value} {base : Heap}
theorem Fun.ok {x qual : Str} {st : Stmt} {f : Addr} {fd : FuncData} {N ps : List Str} {k : Nat} {sp : Sp} (F : Fun K x qual st f fd) (S : FnScope N ps (defScope st)) (len : ∀ vs H Q E, sp vs H Q E → vs.length = ps.length)
    (hbody : ∀ (cdv : Value) (A : Around) (outer : List Env) (s : Shared) (H : Hp) (vs : List V) (Q : VK) (E : XK), Room k (A.deeper (envOfC qual (defScope st) s.heap.objs.size f cdv)) → sp vs H Q E →
      ∃ t, PSs (cxOf CX0 P w K mg base N qual (defScope st) f cdv A outer s H E).nox (defBody st) t ∧ t { nx := fun _ H' => Q .non H', rt := Q } (start N vs) H) : FnOk P w K mg base CX0 (k + 1) f fd ps sp := by
  obtain ⟨oc, od, kV, doc, pm, an, cdv, ct, osl, rfl, lk, hcd⟩ := F.ex
  refine fn_of lk hcd S len fun A outer s H vs Q E hr hsp => ?_
  obtain ⟨t, h, q⟩ := hbody cdv A outer s H vs Q E hr hsp
  exact ⟨t, h.nox, q⟩
theorem Fun.binds {x qual : Str} {st : Stmt} {f : Addr} {fd : FuncData} {ps : List Str} (F : Fun K x qual st f fd)
    (h : ∀ (kV doc pm : Value) (an : Option Addr) (cdv ct : Value) (us : List Value), us.length = ps.length → bindArgs (PySem.W.fnOf x qual (defArgs st) (defBody st) (defScope st) .none kV doc pm an cdv ct) ⟨us, []⟩ = pure (ps.zip us)) : Binds K fd ps [] := by
  obtain ⟨oc, od, kV, doc, pm, an, cdv, ct, osl, rfl, lk, hcd⟩ := F.ex
  exact .all (h kV doc pm an cdv ct)
theorem fun_mk {x qual : Str} {st : Stmt} {f : Addr} {oc : Value} {od an : Option Addr} {osl : Array (Option Value)} {kV doc pm cdv ct : Value} (l : K.lookup f = some ⟨oc, od, .func (PySem.W.fnOf x qual (defArgs st) (defBody st) (defScope st) .none kV doc pm an cdv ct), osl⟩)
    (c : PySem.W.codeIn K cdv qual = true) (k : PySem.W.keepIn K (.ref f) = true) : Fun K x qual st f (PySem.W.fnOf x qual (defArgs st) (defBody st) (defScope st) .none kV doc pm an cdv ct) := ⟨⟨oc, od, kV, doc, pm, an, cdv, ct, osl, rfl, l, c⟩, k⟩
end
section
variable {X : Cx}
theorem pv (i : Nat) {x : Str} {pos : Pos} (hN : X.N[i]? = some x := by rfl) (hv : Vis X.env.scope x := by first | exact Or.inl rfl | exact Or.inr (Or.inl rfl) | exact Or.inr (Or.inr rfl)) (hd : (x == ("__debug__" : Str)) = false := by decide)
    (hcd : (x == ("__classdict__" : Str)) = false := by decide) : PE X (.Name x pos) (tVar i) := pe_var hN hv hd hcd
end

theorem iteF {A B : Prop} (h : B) : if false = true then A else B := by
  rw [if_neg Bool.false_ne_true]
  exact h
theorem iteT {A B : Prop} (h : A) : if true = true then A else B := by
  rw [if_pos rfl]
  exact h
def Same (H H' : Hp) : Prop := ∀ b o, H b = some o → H' b = some o
theorem Same.refl (H : Hp) : Same H H := fun _ _ h => h
theorem Same.trans {H H1 H2 : Hp} (a : Same H H1) (b : Same H1 H2) : Same H H2 := fun c o h => b c o (a c o h)
theorem Same.free {H H' : Hp} (e : Same H H') {l : Addr} (h : H' l = Option.none) : H l = Option.none := by
  cases q : H l with
  | none => rfl
  | some o =>
    rw [e l o q] at h
    cases h
theorem Same.seq {K : PySem.W.Frag} {H H' : Hp} {a : Addr} {xs : List V} (e : Same H H') (h : SqL K H a xs) : SqL K H' a xs := by
  rcases h with (h | ⟨o, h⟩) | h
  · exact .inl (.inl (e _ _ h))
  · exact .inl (.inr ⟨o, e _ _ h⟩)
  · exact .inr h

section
variable {X : Cx}
theorem call_lenD : CallR X (.builtin "len") (fun xs H Q => ∃ a kvs, xs = [V.ref a] ∧ H a = some (.dK kvs) ∧ Q (.int kvs.length) H) := by
  intro pins s σ H xs us Q I r h
  obtain ⟨a, kvs, rfl, ha, q⟩ := h
  obtain ⟨u, rfl, ru⟩ := vals1 r
  cases ru
  exact d_len I (.inl ha) fun t s' I' => ⟨.int kvs.length, H, I', ⟨t, rfl⟩, q⟩
end
end L2
set_option maxRecDepth 100000
set_option maxHeartbeats 4000000
namespace L2
open PySem PySem.Spec PyProof.Rows

def closL (cells : List (Str × Addr)) : List (Str × NameKind) → List (Str × Addr) → List (Str × Addr)
  | [], acc => acc
  | (n, k) :: r, acc => if k == NameKind.free then (match cells.lookup n with
    | some c => closL cells r ((n, c) :: acc)
    | none => closL cells r acc) else closL cells r acc

theorem closL_sound (cells : List (Str × Addr)) : ∀ (ns : List (Str × NameKind)) (acc : List (Str × Addr)), (∀ x c, acc.lookup x = some c → cells.lookup x = some c) →
    ∀ x c, (closL cells ns acc).lookup x = some c → cells.lookup x = some c
  | [], acc, h, x, c, e => h x c e
  | (n, k) :: r, acc, h, x, c, e => by
    unfold closL at e
    by_cases hk : (k == NameKind.free) = true
    · rw [if_pos hk] at e
      cases hc : cells.lookup n with
      | none =>
        rw [hc] at e
        exact closL_sound cells r acc h x c e
      | some d =>
        rw [hc] at e
        refine closL_sound cells r _ (fun y z q => ?_) x c e
        rw [List.lookup_cons] at q
        by_cases hy : (y == n) = true
        · rw [hy] at q
          have : d = z := Option.some.inj q
          subst this
          rw [eq_of_beq hy]
          exact hc
        · have hy' : (y == n) = false := by simpa using hy
          rw [hy'] at q
          exact h y z q
    · rw [if_neg hk] at e
      exact closL_sound cells r acc h x c e

theorem closL_keep (cells : List (Str × Addr)) : ∀ (ns : List (Str × NameKind)) (acc : List (Str × Addr)) (x : Str), (acc.lookup x).isSome = true → ((closL cells ns acc).lookup x).isSome = true
  | [], _, _, h => h
  | (n, k) :: r, acc, x, h => by
    unfold closL
    by_cases hk : (k == NameKind.free) = true
    · rw [if_pos hk]
      cases hc : cells.lookup n with
      | none => exact closL_keep cells r acc x h
      | some d =>
        refine closL_keep cells r _ x ?_
        rw [List.lookup_cons]
        by_cases hy : (x == n) = true
        · rw [hy]; rfl
        · have hy' : (x == n) = false := by simpa using hy
          rw [hy']; exact h
    · rw [if_neg hk]
      exact closL_keep cells r acc x h

theorem closL_has (cells : List (Str × Addr)) : ∀ (ns : List (Str × NameKind)) (acc : List (Str × Addr)) (x : Str) (c : Addr), (x, NameKind.free) ∈ ns → cells.lookup x = some c → (closL cells ns acc).lookup x ≠ none
  | [], _, _, _, h, _ => absurd h (by simp)
  | (n, k) :: r, acc, x, c, h, hc => by
    rcases List.mem_cons.mp h with e | h
    · have e1 : x = n := congrArg Prod.fst e
      have e2 : NameKind.free = k := congrArg Prod.snd e
      subst e1; subst e2
      unfold closL
      rw [if_pos (by decide), hc]
      have q := closL_keep cells r ((x, c) :: acc) x (by rw [List.lookup_cons]; simp)
      intro z
      rw [z] at q
      cases q
    · unfold closL
      by_cases hk : (k == NameKind.free) = true
      · rw [if_pos hk]
        cases cells.lookup n with
        | none => exact closL_has cells r acc x c h hc
        | some d => exact closL_has cells r _ x c h hc
      · rw [if_neg hk]
        exact closL_has cells r acc x c h hc

theorem closL_fun (env : Env) : ∀ (ns : List (Str × NameKind)) (acc : List (Str × Addr)), (∀ n, (n, NameKind.free) ∈ ns → ∃ c, env.cells.lookup n = some c) →
    (forIn ns acc fun (x : Str × NameKind) (cs : List (Str × Addr)) =>
      (match x with
      | (name, kind) => if (kind == NameKind.free) = true then do let a ← cellOf env name; pure (ForInStep.yield ((name, a) :: cs)) else pure (ForInStep.yield cs) : Sem (ForInStep (List (Str × Addr))))) = pure (closL env.cells ns acc)
  | [], acc, _ => by rw [List.forIn_nil]; rfl
  | (n, k) :: r, acc, h => by
    rw [List.forIn_cons]
    unfold closL
    by_cases hk : (k == NameKind.free) = true
    · obtain ⟨c, hc⟩ := h n (by rw [eq_of_beq hk]; exact List.mem_cons_self)
      have e : cellOf env n = pure c := by unfold cellOf; rw [hc]
      simp only [hk, if_true, hc, e, pure_bind]
      exact closL_fun env r _ fun m hm => h m (List.mem_cons_of_mem _ hm)
    · simp only [hk, if_false, pure_bind]
      exact closL_fun env r _ fun m hm => h m (List.mem_cons_of_mem _ hm)

theorem closureFor_eq {scope : Scope} {env : Env} (h : ∀ n, (n, NameKind.free) ∈ scope.names → ∃ c, env.cells.lookup n = some c) : closureFor scope env = pure (closL env.cells scope.names []) := by
  have e := closL_fun env scope.names [] h
  unfold closureFor
  first
    | (simp only [e, pure_bind]; done)
    | (rw [show (forIn scope.names ([] : List (Str × Addr)) _ : Sem _) = _ from e]; rfl)

theorem relabel_kind (env : Env) : ∀ {names : List (Str × NameKind)} {x : Str} {k : NameKind},
    (names.map fun (n, k) => if (k == NameKind.free && env.scope.kind == .function && env.kindOf n == some .cell) then (n, NameKind.cell) else (n, k)).lookup x = some k →
    ∃ k', names.lookup x = some k' ∧ (k = k' ∨ (k = .cell ∧ k' = .free))
  | [], _, _, h => by simp at h
  | (n, j) :: r, x, k, h => by
    by_cases hc : (j == NameKind.free && env.scope.kind == .function && env.kindOf n == some .cell) = true
    · rw [List.map_cons] at h
      simp only [hc, if_true] at h
      rw [List.lookup_cons] at h ⊢
      by_cases hx : (x == n) = true
      · rw [hx] at h ⊢
        have e1 : k = NameKind.cell := (Option.some.inj h).symm
        have e2 : j = NameKind.free := by
          have := hc
          simp only [Bool.and_eq_true] at this
          exact eq_of_beq this.1.1
        exact ⟨j, rfl, .inr ⟨e1, e2⟩⟩
      · have hx' : (x == n) = false := by simpa using hx
        rw [hx'] at h ⊢
        exact relabel_kind env h
    · rw [List.map_cons] at h
      simp only [hc, Bool.false_eq_true, if_false] at h
      rw [List.lookup_cons] at h ⊢
      by_cases hx : (x == n) = true
      · rw [hx] at h ⊢
        exact ⟨j, rfl, .inl (Option.some.inj h).symm⟩
      · have hx' : (x == n) = false := by simpa using hx
        rw [hx'] at h ⊢
        exact relabel_kind env h

theorem relabel_free (env : Env) : ∀ {names : List (Str × NameKind)} {x : Str}, names.lookup x = some .free →
    (names.map fun (n, k) => if (k == NameKind.free && env.scope.kind == .function && env.kindOf n == some .cell) then (n, NameKind.cell) else (n, k)).lookup x = some .cell ∨
    (names.map fun (n, k) => if (k == NameKind.free && env.scope.kind == .function && env.kindOf n == some .cell) then (n, NameKind.cell) else (n, k)).lookup x = some .free
  | [], _, h => by simp at h
  | (n, j) :: r, x, h => by
    rw [List.lookup_cons] at h
    by_cases hx : (x == n) = true
    · rw [hx] at h
      have e : j = NameKind.free := Option.some.inj h
      subst e
      by_cases hc : (NameKind.free == NameKind.free && env.scope.kind == .function && env.kindOf n == some .cell) = true
      · left
        rw [List.map_cons]
        simp only [hc, if_true]
        rw [List.lookup_cons, hx]
      · right
        rw [List.map_cons]
        simp only [hc, Bool.false_eq_true, if_false]
        rw [List.lookup_cons, hx]
    · have hx' : (x == n) = false := by simpa using hx
      rw [hx'] at h
      rw [List.map_cons]
      by_cases hc : (j == NameKind.free && env.scope.kind == .function && env.kindOf n == some .cell) = true
      · simp only [hc, if_true]
        rw [List.lookup_cons, hx']
        exact relabel_free env h
      · simp only [hc, Bool.false_eq_true, if_false]
        rw [List.lookup_cons, hx']
        exact relabel_free env h

theorem mem_of_look {α : Type} : ∀ {l : List (Str × α)} {x : Str} {k : α}, l.lookup x = some k → (x, k) ∈ l
  | [], _, _, h => by simp at h
  | (n, j) :: r, x, k, h => by
    rw [List.lookup_cons] at h
    by_cases hx : (x == n) = true
    · rw [hx] at h
      have e : j = k := Option.some.inj h
      rw [eq_of_beq hx, e]
      exact List.mem_cons_self
    · have hx' : (x == n) = false := by simpa using hx
      rw [hx'] at h
      exact List.mem_cons_of_mem _ (mem_of_look h)

def inner (k : Nat) (caps : List Nat) (σ : St) : St := List.replicate k none ++ caps.map fun j => (σ[j]?).join

abbrev pushD (s : Shared) : Shared := { s with heap := s.heap.push { cls := .type "list", dict := none, data := .seq ([] : List Value).toArray } }

def cxComp (X : Cx) (N : List Str) (scope : Scope) (pins : List (Addr × Obj)) (fp : List Addr) (s : Shared) (H : Hp) : Cx where
  prog := X.prog
  w := X.w
  K := X.K
  mg := X.mg
  base := X.base
  A := X.A
  N := N
  s₀ := pushD s
  H₀ := upd H s.heap.objs.size (.lst [])
  env := compEnvC scope (closL X.env.cells scope.names []) (s.heap.objs.size + 1) X.env
  outer := X.stack
  stack := X.stack
  ex := fp
  fn := fun _ => false
  calm := X.calm
  pn := X.pn ++ pins
  xe := fun _ _ => False

structure Block (X : Cx) (N : List Str) (scope : Scope) (k : Nat) (caps : List Nat) : Prop where
  kind : scope.kind = .function
  nocell : ∀ y ∈ scope.names, y.2 ≠ .cell
  frees : ∀ y ∈ scope.names, y.2 = .free → X.env.scope.names.lookup y.1 = some .cell ∨ X.env.scope.names.lookup y.1 = some .free
  locals : ∀ y ∈ scope.names, y.2 = .local → scope.names.lookup y.1 = some .local
  len : N.length = k + caps.length
  cap : ∀ i j, caps[i]? = some j → ∃ x, N[k + i]? = some x ∧ X.N[j]? = some x ∧ scope.names.lookup x = some .free

section
variable {X : Cx} {N : List Str} {scope : Scope} {k : Nat} {caps : List Nat} {pins : List (Addr × Obj)} {fp : List Addr} {σ : St} {H : Hp} {s : Shared} {h₁ : Heap} {tk : Nat}

theorem comp_start (B : Block X N scope k caps) (I : Inv X pins σ H s) (hf : ∀ b ∈ fp, FpOk X pins H b) (ho : ∀ b ∈ fp, ∃ o, s.heap.get? b = some o)
    (hn : h₁.Ns (s.heap.objs.size + 1) (fun _ => none)) (hk : ∀ b o, (pushD s).heap.get? b = some o → h₁.get? b = some o) :
    Inv (cxComp X N scope pins fp s H) [] (inner k caps σ) (upd H s.heap.objs.size (.lst [])) { s with heap := h₁, toks := tk } := by
  have szD : (pushD s).heap.objs.size = s.heap.objs.size + 1 := Heap.size_push ..
  have upD : ∀ b o, s.heap.get? b = some o → (pushD s).heap.get? b = some o := fun b o e => Heap.get?_push_of_some _ e
  have up : ∀ b o, s.heap.get? b = some o → h₁.get? b = some o := fun b o e => hk b o (upD b o e)
  have lt : ∀ {b o}, s.heap.get? b = some o → b ≠ s.heap.objs.size := fun e => Nat.ne_of_lt (Heap.lt_size e)
  have ltC : ∀ {b o}, s.heap.get? b = some o → b ≠ s.heap.objs.size + 1 := fun e => Nat.ne_of_lt (Nat.lt_succ_of_lt (Heap.lt_size e))
  have snd : ∀ x c, (closL X.env.cells scope.names []).lookup x = some c → X.env.cells.lookup x = some c := closL_sound _ _ _ fun x c e => by simp at e
  have isfree : ∀ x, (relabel scope X.env).names.lookup x = some .cell ∨ (relabel scope X.env).names.lookup x = some .free → scope.names.lookup x = some .free := fun x h => by
    rcases h with h | h
    · obtain ⟨k', e, z⟩ := relabel_kind X.env h
      rcases z with z | ⟨_, z⟩
      · rw [← z] at e; exact absurd rfl (B.nocell _ (mem_of_look e))
      · rw [z] at e; exact e
    · obtain ⟨k', e, z⟩ := relabel_kind X.env h
      rcases z with z | ⟨z, _⟩
      · rw [← z] at e; exact e
      · cases z
  have hasC : ∀ x, scope.names.lookup x = some .free → ∃ c, X.env.cells.lookup x = some c := fun x h => I.ok.has x (B.frees _ (mem_of_look h) rfl)
  have hasL : ∀ x c, scope.names.lookup x = some .free → X.env.cells.lookup x = some c → (closL X.env.cells scope.names []).lookup x = some c := fun x c h hc => by
    cases e : (closL X.env.cells scope.names []).lookup x with
    | none => exact absurd e (closL_has _ _ _ x c (mem_of_look h) hc)
    | some d => rw [← hc, snd x d e]
  have stk : ∀ b ∈ frs X.stack, H b = none ∧ b ≠ s.heap.objs.size := fun b hb => ⟨I.stkFree b hb, by
    obtain ⟨_, o, e, _⟩ := I.stack.mem hb
    exact lt e⟩
  refine ⟨⟨I.ok.mod, B.kind, I.ok.glob, I.ok.blt, Nat.le_of_eq szD, fun x y c h1 h2 => I.ok.inj x y c (snd x c h1) (snd y c h2), fun x h => ?_, fun x c h => absurd h (by simp [cxComp]), I.ok.hd, I.ok.frames, .inl rfl, fun b hb => ?_, fun b o e => ?_, ?_, fun b o e hb => ?_, fun b hb hs => ?_, ?_, fun b hb => ?_⟩,
    rfl, I.bare, Un.kept hk, ⟨_, hn, fun i x v h1 h2 h3 => ?_⟩, fun x c h => ?_, ?_, fun x c h => ?_, fun p hp => ?_, ?_, ?_⟩
  · -- has
    have hfx := isfree x h
    obtain ⟨c, hc⟩ := hasC x hfx
    exact ⟨c, hasL x c hfx hc⟩
  · -- exf
    obtain ⟨o, e⟩ := ho b hb
    exact ⟨ltC e, fun x c h => (hf b hb).2.2.2.2.1 x c (snd x c h)⟩
  · -- bs
    obtain ⟨e1, e2⟩ := I.bs b o e
    refine ⟨upD b o e1, ?_⟩
    show upd H _ _ b = none
    rw [upd_ne (lt e1)]; exact e2
  · -- bsz
    show X.base.objs.size ≤ (pushD s).heap.objs.size
    have := I.sz
    have := I.ok.bsz
    omega
  · -- noex
    rcases (hf b hb).2.2.2.1 with z | z
    · exact I.ok.noex b o e z
    · exact absurd (Nat.lt_of_lt_of_le (Heap.lt_size e) (Nat.le_trans I.ok.bsz z)) (Nat.lt_irrefl _)
  · -- exfs
    rcases List.mem_cons.mp (I.stkSub b hs) with z | z
    · exact (hf b hb).2.1 z
    · exact (hf b hb).2.2.1 z
  · -- funs
    exact I.stack.of_keeps fun b o e _ => ⟨o, upD b o e, rfl⟩
  · -- frf
    show upd H _ _ b = none
    rw [upd_ne (stk b hb).2]; exact (stk b hb).1
  · -- loc
    have hlt : ¬ i < k := fun hlt => by
      unfold inner at h2
      rw [List.getElem?_append_left (by simpa using hlt), List.getElem?_replicate, if_pos hlt] at h2
      cases h2
    obtain ⟨j, rfl⟩ : ∃ j, i = k + j := ⟨i - k, by omega⟩
    unfold inner at h2
    rw [List.getElem?_append_right (by simp), List.length_replicate, Nat.add_sub_cancel_left, List.getElem?_map] at h2
    cases hj : caps[j]? with
    | none => rw [hj] at h2; cases h2
    | some q =>
      rw [hj] at h2
      obtain ⟨y, hy1, hy2, hy3⟩ := B.cap j q hj
      have exy : y = x := Option.some.inj (hy1.symm.trans h1)
      subst exy
      have hv : σ[q]? = some (some v) := by
        have h2' : (σ[q]?).join = some v := Option.some.inj h2
        cases hq : σ[q]? with
        | none => rw [hq] at h2'; cases h2'
        | some w' => rw [hq] at h2'; rw [show w' = some v from h2']
      obtain ⟨m, hnm, hl⟩ := I.loc
      have fr := B.frees _ (mem_of_look hy3) rfl
      obtain ⟨u, ru, lk⟩ := hl q y v hy2 hv (.inr fr)
      refine ⟨u, ru, .inr ⟨relabel_free X.env hy3, ?_⟩⟩
      rcases lk with ⟨z, _⟩ | ⟨_, c, hc, ic⟩
      · exfalso
        have z' : X.env.scope.names.lookup y = some .local := z
        rcases fr with fr | fr
        · rw [z'] at fr; cases fr
        · rw [z'] at fr; cases fr
      · exact ⟨c, hasL y c hy3 hc, ic.keeps up⟩
  · -- cell
    obtain ⟨v, ic⟩ := I.cell x c (snd x c h)
    exact ⟨v, ic.keeps up⟩
  · -- free
    show upd H _ _ (s.heap.objs.size + 1) = none
    rw [upd_ne (Nat.succ_ne_self _)]
    exact I.hok.fresh (Nat.le_succ _)
  · -- freeC
    obtain ⟨v, o, e, _⟩ := I.cell x c (snd x c h)
    show upd H _ _ c = none
    rw [upd_ne (lt e)]
    exact I.freeC x c (snd x c h)
  · -- pin
    have hp' : p ∈ X.pn ++ pins := by
      have hp2 : p ∈ (X.pn ++ pins) ++ [] := hp
      rw [List.append_nil] at hp2
      exact hp2
    obtain ⟨e, n, ne, nf, d⟩ := I.pin p hp'
    refine ⟨up _ _ e, ?_, ltC e, fun z => ?_, d⟩
    · show upd H _ _ p.1 = none
      rw [upd_ne (lt e)]; exact n
    · rcases List.mem_cons.mp (I.stkSub p.1 z) with z | z
      · exact ne z
      · exact nf z
  · -- hok
    refine I.hok.laid up (Nat.le_refl _) ?_
    exact ⟨Nat.zero_le _, [], 0, .nil, hk _ _ (Heap.get?_push_size _ rfl)⟩
  · -- len
    unfold inner
    rw [List.length_append, List.length_replicate, List.length_map]
    exact B.len.symm

theorem comp_end {σ' : St} {H' : Hp} {s' : Shared} {h' : Heap} {pins' : List (Addr × Obj)} (I : Inv X pins σ H s) (hf : ∀ b ∈ fp, FpOk X pins H b) (J : Inv (cxComp X N scope pins fp s H) pins' σ' H' s')
    (hs : Heap.SameBut (s.heap.objs.size + 1) s'.heap h') : Inv X pins σ H' { s' with heap := h' } := by
  have freeD : H s.heap.objs.size = none := I.hok.fresh (Nat.le_refl _)
  have lt : ∀ {b o}, s.heap.get? b = some o → b ≠ s.heap.objs.size := fun e => Nat.ne_of_lt (Heap.lt_size e)
  have ltC : ∀ {b o}, s.heap.get? b = some o → b ≠ s.heap.objs.size + 1 := fun e => Nat.ne_of_lt (Nat.lt_succ_of_lt (Heap.lt_size e))
  have upD : ∀ b o, s.heap.get? b = some o → (pushD s).heap.get? b = some o := fun b o e => Heap.get?_push_of_some _ e
  have U : Un (frs X.stack) fp (upd H s.heap.objs.size (.lst [])) H' (pushD s).heap s'.heap := J.base
  have freeC : H' (s.heap.objs.size + 1) = none := J.free
  refine I.call' (s' := { s' with heap := h' }) (ch := fp) J.os ⟨fun b o e n hb hx => ?_, fun b o e n hb hx => ?_, fun b o e n hx => ?_, fun b o e hx => ?_, fun b xs e => ?_, fun b o u e => ?_, fun b ps e => ?_⟩ (fun b o e => ?_) J.bare fun b hb => ?_
  · show h'.get? b = some o
    rw [hs.2 b (ltC e)]
    exact U.keep b o (upD b o e) (by rw [upd_ne (lt e)]; exact n) hb hx
  · obtain ⟨sl, q⟩ := U.slot b o (upD b o e) (by rw [upd_ne (lt e)]; exact n) hb hx
    exact ⟨sl, by show h'.get? b = _; rw [hs.2 b (ltC e)]; exact q⟩
  · exact U.free b o (upD b o e) (by rw [upd_ne (lt e)]; exact n) hx
  · obtain ⟨o', q⟩ := U.there b o (upD b o e) hx
    exact ⟨o', by show h'.get? b = _; rw [hs.2 b (ltC e)]; exact q⟩
  · exact U.tups b xs (by rw [upd_ne (ne_of_none e freeD)]; exact e)
  · exact U.frzs b o u (by rw [upd_ne (ne_of_none e freeD)]; exact e)
  · exact U.tbls b ps (by rw [upd_ne (ne_of_none e freeD)]; exact e)
  · refine (J.hok b o e).stay (fun c v hc q => ?_) (fun _ q => q) fun _ _ q => q
    have hne : c ≠ s.heap.objs.size + 1 := by
      rcases hc with z | z
      · rw [z]; intro w'; rw [w', freeC] at e; cases e
      · intro w'; rw [w', freeC] at z; cases z
    show h'.get? c = some v
    rw [hs.2 c hne]; exact q
  · obtain ⟨f0, f1, f2, f3, f4, f5⟩ := hf b hb
    exact ⟨f3, f1, f4, f5⟩
end

section
variable {prog : Program} {w : World} {A : Around} {R : Result → Shared → Prop} {s : Shared}
theorem comp_turns {elt target iter : Expr} {ifs : List Expr} {scope : Scope} {pos : Pos} {it acc : Value} {env : Env} (J : Nat → Shared → Prop) (n : Nat) (h0 : J n s)
    (turn : ∀ n s, J n s → wpAny (model prog w) A (pyNext it) (fun r s1 => match r with
      | none => R (.ok .next) s1
      | some v => wpAny (model prog w) A (letOwnedTupleGo target it v) (fun _ s2 => wpAny (model prog w) A (assign target env v) (fun _ s3 =>
          wpAny (model prog w) A (forIn ifs true fun c r => if r = true then do let ok ← isTrue c env (eval c env); pure (ForInStep.yield ok) else pure (ForInStep.yield r)) (fun ok s4 =>
            if ok = true then wpAny (model prog w) A (eval elt env) (fun x s5 =>
              wpAny (model prog w) A (call (.builtin "list.append") [acc, x]) (fun _ s6 => ∃ m, m < n ∧ J m s6) (fun _ _ => False) s5) (fun _ _ => False) s4
            else ∃ m, m < n ∧ J m s4) (fun _ _ => False) s3) (fun _ _ => False) s2) (fun _ _ => False) s1) (fun _ _ => False) s) :
    codeAny (model prog w) A (.compLoop (.ListComp elt [⟨target, iter, ifs, 0⟩] scope pos) 0 it acc env) R s := by
  have no : ∀ {e : Value} {s' : Shared}, False → notedBy (model prog w) A env (fun e s' => R (.error e) s') e s' := fun h => False.elim h
  refine codeAny_loop rfl J (fun n s hJ => ?_) n h0
  show wpAny (model prog w) A ((compTurn (.ListComp elt [⟨target, iter, ifs, 0⟩] scope pos) 0 it acc env).onRaise (fun x => do noteFrame x env; theTreesLotGoes x)) _ _ s
  refine wpAny_noted ?_
  rw [compTurn_list]
  refine wpAny_bind (wpAny_standAt (wpAny_bind (wpAny_mono (turn n s hJ) (fun r s1 h1 => ?_) fun _ _ h' => no h')))
  cases r with
  | none => exact wpAny_pure h1
  | some v =>
    refine wpAny_bind (wpAny_mono h1 (fun _ s2 h2 => ?_) fun _ _ h' => no h')
    refine wpAny_bind (wpAny_mono h2 (fun _ s3 h3 => wpAny_bind (wpAny_mono h3 (fun ok s4 h4 => ?_) fun _ _ h' => no h')) fun _ _ h' => no h')
    cases ok with
    | false => exact wpAny_pure ⟨rfl, h4⟩
    | true =>
      have h4' := h4
      rw [if_pos rfl] at h4'
      exact wpAny_bind (wpAny_bind (wpAny_mono h4' (fun x s5 h5 => wpAny_bind (wpAny_mono h5 (fun _ s6 h6 => wpAny_pure (wpAny_pure ⟨rfl, h6⟩)) fun _ _ h' => no h')) fun _ _ h' => no h'))
end

inductive PIfs (X : Cx) : List Expr → TT → Prop
  | none : PIfs X [] (fun _ H Q => Q true H)
  | one {c : Expr} {t : TT} : PT X c t → PIfs X [c] t

def CompAt (D : Addr) (J : It) (g : TG) (ti : TT) (te : TE) (k : Nat) (caps : List Nat) (σ : St) (Q : VK) (H1 : Hp) : Prop :=
  ∃ W : Nat → Nat → List V → Hp → Prop, (∃ m, W 0 m [] (upd H1 D (.lst []))) ∧
    ∀ i m ys H2, W i m ys H2 → H2 D = some (.lst ys) ∧ ((J.stop i H2 ∧ Q (.ref D) H2) ∨ (J.go i H2 ∧ ys.length < sizeLine ∧ ∀ x H3, J.yld i H2 x H3 →
      g x (inner k caps σ) H3 fun σ4 H4 => (σ4.length = (inner k caps σ).length ∧ σ4.drop k = (inner k caps σ).drop k) ∧
        ti σ4 H4 fun b H5 => if b = true then te σ4 H5 fun y H6 => H6 D = some (.lst ys) ∧ ∃ m', m' < m ∧ W (i + 1) m' (ys ++ [y]) (upd H6 D (.lst (ys ++ [y]))) else ∃ m', m' < m ∧ W (i + 1) m' ys H5))
def CompBody (J : It) (g : TG) (ti : TT) (te : TE) (k : Nat) (caps : List Nat) (σ : St) (Q : VK) (H1 : Hp) : Prop := ∀ D, H1 D = none → CompAt D J g ti te k caps σ Q H1
def tComp (wi : TI) (g : TG) (ti : TT) (te : TE) (k : Nat) (caps : List Nat) : TE := fun σ H Q => wi σ H fun J H1 => CompBody J g ti te k caps σ Q H1

section
variable {X : Cx} {N : List Str} {scope : Scope} {k : Nat} {caps : List Nat} {tg elt iter : Expr} {ifs : List Expr} {wi : TI} {g : TG} {ti : TT} {te : TE} {pos : Pos}

theorem inner_weak {σ σ4 : St} (h1 : σ4.length = (inner k caps σ).length) (h2 : σ4.drop k = (inner k caps σ).drop k) (i : Nat) (v : V) (h : (inner k caps σ)[i]? = some (some v)) : σ4[i]? = some (some v) := by
  have hlt : ¬ i < k := fun hlt => by
    unfold inner at h
    rw [List.getElem?_append_left (by simpa using hlt), List.getElem?_replicate, if_pos hlt] at h
    cases h
  obtain ⟨j, rfl⟩ : ∃ j, i = k + j := ⟨i - k, by omega⟩
  have e1 : (σ4.drop k)[j]? = σ4[k + j]? := List.getElem?_drop
  have e2 : ((inner k caps σ).drop k)[j]? = (inner k caps σ)[k + j]? := List.getElem?_drop
  rw [← e1, h2, e2, h]

theorem comp_block {E : Value → Shared → Prop} {pins : List (Addr × Obj)} {σ : St} {H : Hp} {s : Shared} {it : Addr} {fp : List Addr} {tn : Nat → Heap → Prop} {J : It} {RR : Value → Addr → Result → Shared → Prop} (B : Block X N scope k caps) (hcalm : X.calm = true)
    (hg : ∀ pins fp s H, ∃ t, PG (cxComp X N scope pins fp s H) tg t ∧ t = g) (hi : ∀ pins fp s H, ∃ t, PIfs (cxComp X N scope pins fp s H) ifs t ∧ t = ti) (he : ∀ pins fp s H, ∃ t, PE (cxComp X N scope pins fp s H) elt t ∧ t = te)
    (I : Inv X pins σ H s) (T : Turn X.prog X.w X.K tg J fp it tn) (st : tn 0 s.heap) (hf : ∀ b ∈ fp, FpOk X pins H b) (Q : VK)
    (hw : CompAt s.heap.objs.size J g ti te k caps σ Q H)
    (hRR : ∀ s' H', (∃ m, s'.heap.Ns (s.heap.objs.size + 1) m) → H' (s.heap.objs.size + 1) = none → (∀ h', Heap.SameBut (s.heap.objs.size + 1) s'.heap h' → Inv X pins σ H' { s' with heap := h' }) → Q (.ref s.heap.objs.size) H' → RR (.ref s.heap.objs.size) (s.heap.objs.size + 1) (.ok .next) s') :
    wpAny (model X.prog X.w) X.A (newList []) (fun acc s3 => wpAny (model X.prog X.w) X.A (newFunctionEnv scope X.env.globals (closL X.env.cells scope.names []) [] X.env.qual none .none (some X.env)) (fun cenv s4 =>
      codeAny (model X.prog X.w) X.A (.compStart (.ListComp elt [⟨tg, iter, ifs, 0⟩] scope pos) 0 (.ref it) acc { cenv with scope := relabel scope X.env }) (RR acc cenv.locals) s4) E s3) E s := by
  obtain ⟨W, ⟨m0, w0⟩, turn⟩ := hw
  obtain ⟨tg', hg1, eg⟩ := hg pins fp s H
  clear hg
  subst eg
  obtain ⟨ti', hi1, ei⟩ := hi pins fp s H
  clear hi
  subst ei
  obtain ⟨te', he1, ee⟩ := he pins fp s H
  clear he
  subst ee
  refine wpAny_newObj_type (wpAny_newFunctionEnv B.nocell (by intro y hy; simp at hy) (fun h₁ hns₁ hsb₁ => ?_) B.kind)
  dsimp only at hns₁ hsb₁ ⊢
  have szD : (pushD s).heap.objs.size = s.heap.objs.size + 1 := Heap.size_push ..
  have eC : (s.heap.push { cls := .type "list", dict := none, data := .seq ([] : List Value).toArray }).objs.size = s.heap.objs.size + 1 := szD
  rw [eC] at hns₁ hsb₁ ⊢
  have hk₁ : ∀ b o, (pushD s).heap.get? b = some o → h₁.get? b = some o := fun b o e => by
    have l : b ≠ s.heap.objs.size + 1 := by
      have l1 := Heap.lt_size e
      rw [szD] at l1
      exact Nat.ne_of_lt l1
    exact hsb₁.extBut b o l (Heap.get?_push_of_some _ e)
  have st₁ : tn 0 h₁ := T.keep 0 s.heap h₁ st fun b _ o e => hk₁ b o (Heap.get?_push_of_some _ e)
  have ho : ∀ b ∈ fp, ∃ o, s.heap.get? b = some o := fun b hb => let ⟨o, e, _⟩ := T.obj 0 _ st b hb; ⟨o, e⟩
  have loop : ∀ s1 : Shared, s1 = { s with heap := h₁, toks := s.toks + ([] : List (Str × Value)).length } →
      codeAny (model X.prog X.w) X.A (.compLoop (.ListComp elt [⟨tg, iter, ifs, 0⟩] scope pos) 0 (.ref it) (.ref s.heap.objs.size) (cxComp X N scope pins fp s H).env) (RR (.ref s.heap.objs.size) (s.heap.objs.size + 1)) s1 := by
    rintro s1 rfl
    have I₁ := comp_start (N := N) (tk := s.toks + ([] : List (Str × Value)).length) B I hf ho hns₁ hk₁
    have stat : ∀ {H' : Hp}, (∀ b ∈ fp, H' b = none) → ∀ b ∈ fp, FpOk (cxComp X N scope pins fp s H) [] H' b := fun hn b hb => by
      obtain ⟨_, z⟩ := I₁.ok.exf b hb
      refine ⟨hn b hb, (I₁.ok.exf b hb).1, I₁.ok.exfs b hb, .inl hb, fun x c e => (I₁.ok.exf b hb).2 x c e, fun p hp => ?_⟩
      have hp2 : p ∈ (X.pn ++ pins) ++ [] := hp
      rw [List.append_nil] at hp2
      exact (hf b hb).2.2.2.2.2 p hp2
    refine comp_turns (fun n s' => ∃ i ys H', Inv (cxComp X N scope pins fp s H) [] (inner k caps σ) H' s' ∧ tn i s'.heap ∧ (∀ b ∈ fp, H' b = none) ∧ W i n ys H') m0 ⟨0, [], _, I₁, st₁, fun b hb => ?_, w0⟩ ?_
    · obtain ⟨o, e⟩ := ho b hb
      rw [upd_ne (Nat.ne_of_lt (Heap.lt_size e))]
      exact (hf b hb).1
    · rintro n s2 ⟨i, ys, H2, I2, st2, fr2, w2⟩
      obtain ⟨hD, alt⟩ := turn i n ys H2 w2
      rcases alt with ⟨stop, q⟩ | ⟨go, hz, step⟩
      · refine thn (T.done (cxComp X N scope pins fp s H) rfl rfl rfl hcalm i [] s2 _ H2 _ I2 (stat fr2) st2 stop) fun r s3 ⟨hr, I3⟩ => ?_
        subst hr
        obtain ⟨m, hnm, _⟩ := id I3.loc
        exact hRR s3 H2 ⟨m, hnm⟩ I3.free (fun h' hs => comp_end I hf I3 hs) q
      · refine thn (T.item (cxComp X N scope pins fp s H) rfl rfl rfl hcalm i [] s2 _ H2 _ I2 (stat fr2) st2 go) fun r s3 ⟨u, hr, h3⟩ => ?_
        subst hr
        refine thn h3 fun _ s4 ⟨x, H4, I4, r4, y4, st4, fr4⟩ => ?_
        have I4' := I4.pinned (stat fr4) (T.obj _ _ st4)
        refine thn (hg1 _ s4 _ H4 x u _ I4' r4 (step x H4 y4)) fun _ s5 ⟨σ5, H5, I5, ⟨k1, k2⟩, q5⟩ => ?_
        have back : ∀ {H7 : Hp} {s7 : Shared}, Inv (cxComp X N scope pins fp s H) ([] ++ pinsAt fp s4.heap) σ5 H7 s7 → Inv (cxComp X N scope pins fp s H) [] (inner k caps σ) H7 s7 ∧ tn (i + 1) s7.heap ∧ (∀ b ∈ fp, H7 b = none) := fun {H7 s7} I7 => by
          refine ⟨I7.unpinned.weak k1.symm (inner_weak k1 k2), T.keep _ _ _ st4 fun b hb o e => (I7.pin (b, o) (List.mem_append_right _ (List.mem_append_right _ (mem_pinsAt hb e)))).1, fun b hb => ?_⟩
          obtain ⟨o, e, d⟩ := T.obj _ _ st4 b hb
          exact (I7.pin (b, o) (List.mem_append_right _ (List.mem_append_right _ (mem_pinsAt hb e)))).2.1
        have body : ∀ (ok : Bool) (s6 : Shared) (H6 : Hp), Inv (cxComp X N scope pins fp s H) ([] ++ pinsAt fp s4.heap) σ5 H6 s6 →
            (if ok = true then te' σ5 H6 fun y H6 => H6 s.heap.objs.size = some (.lst ys) ∧ ∃ m', m' < n ∧ W (i + 1) m' (ys ++ [y]) (upd H6 s.heap.objs.size (.lst (ys ++ [y]))) else ∃ m', m' < n ∧ W (i + 1) m' ys H6) →
            (if ok = true then wpAny (model X.prog X.w) X.A (eval elt (cxComp X N scope pins fp s H).env) (fun x s5 =>
              wpAny (model X.prog X.w) X.A (call (.builtin "list.append") [.ref s.heap.objs.size, x]) (fun _ s6 => ∃ m, m < n ∧ ∃ i ys H', Inv (cxComp X N scope pins fp s H) [] (inner k caps σ) H' s6 ∧ tn i s6.heap ∧ (∀ b ∈ fp, H' b = none) ∧ W i m ys H') (fun _ _ => False) s5) (fun _ _ => False) s6
            else ∃ m, m < n ∧ ∃ i ys H', Inv (cxComp X N scope pins fp s H) [] (inner k caps σ) H' s6 ∧ tn i s6.heap ∧ (∀ b ∈ fp, H' b = none) ∧ W i m ys H') := fun ok s6 H6 I6 q6 => by
          cases ok with
          | false =>
            rw [if_neg Bool.false_ne_true] at q6 ⊢
            obtain ⟨m', hm, w6⟩ := q6
            obtain ⟨b1, b2, b3⟩ := back I6
            exact ⟨m', hm, i + 1, ys, H6, b1, b2, b3, w6⟩
          | true =>
            rw [if_pos rfl] at q6 ⊢
            refine thn (he1 _ s6 σ5 H6 _ I6 q6) fun y s7 ⟨yv, H7, I7, r7, hD7, m', hm, w7⟩ => ?_
            refine thn (mt_append (X := cxComp X N scope pins fp s H) _ s7 σ5 H7 (.ref s.heap.objs.size) [yv] (.ref s.heap.objs.size) [y] (fun v H8 => v = .non ∧ H8 = upd H7 s.heap.objs.size (.lst (ys ++ [yv]))) I7 rfl (.cons r7 .nil) ⟨_, ys, yv, rfl, rfl, hD7, hz, rfl, rfl⟩) fun _ s8 ⟨_, H8, I8, _, _, e8⟩ => ?_
            subst e8
            obtain ⟨b1, b2, b3⟩ := back I8
            exact ⟨m', hm, i + 1, _, _, b1, b2, b3, w7⟩
        cases hi1 with
        | none => exact wpAny_tests_nil (body true s5 H5 I5 q5)
        | one hc => exact wpAny_tests_one (thn (hc _ s5 σ5 H5 _ I5 q5) fun ok s6 ⟨H6, I6, q6⟩ => body ok s6 H6 I6 q6)
  exact codeAny_compStart_list (loop _ rfl) (T.self X.A 0 _ _ _ st₁ (loop _ rfl))

theorem pe_comp (B : Block X N scope k caps) (hcalm : X.calm = true) (hwi : PI X tg iter wi)
    (hg : ∀ pins fp s H, ∃ t, PG (cxComp X N scope pins fp s H) tg t ∧ t = g) (hi : ∀ pins fp s H, ∃ t, PIfs (cxComp X N scope pins fp s H) ifs t ∧ t = ti) (he : ∀ pins fp s H, ∃ t, PE (cxComp X N scope pins fp s H) elt t ∧ t = te)
    (hs : ∀ x, foldedSetIterable iter X.env x = pure x := by intro _; rfl) : PE X (.ListComp elt [⟨tg, iter, ifs, 0⟩] scope pos) (tComp wi g ti te k caps) := by
  intro pins s σ H Q I h
  rw [eval_ListComp]
  have hcl : closureFor scope X.env = pure (closL X.env.cells scope.names []) := closureFor_eq fun n hn => I.ok.has n (B.frees _ hn rfl)
  refine wpAny_comprehension_free (use := none) rfl hs hcl B.kind B.locals (thn (hwi pins s σ H _ I h) fun xv s1 h1 => thn h1 fun itv s2 h2 => ?_)
  obtain ⟨it, fp, tn, J, H2, e, I2, T, st2, f2, hw⟩ := h2
  subst e
  refine comp_block (RR := fun acc C => compPost (model X.prog X.w) X.A X.xe none (EP X pins σ Q) acc C) B hcalm hg hi he I2 T st2 f2 Q (hw _ (I2.hok.fresh (Nat.le_refl _))) fun s' H' hm _ hI q => ?_
  obtain ⟨m, hnm⟩ := hm
  exact ⟨m, hnm, fun h' hs' => ⟨.ref _, H', hI h' hs', rfl, q⟩⟩

end
end L2
set_option maxRecDepth 100000
set_option maxHeartbeats 4000000
namespace L2
open PySem PySem.Spec PyProof.Rows


def Itz (K : PySem.W.Frag) (a b : Addr) : It :=
  ⟨fun i H => ∃ xs ys x y, SqL K H a xs ∧ SqL K H b ys ∧ xs[i]? = some x ∧ ys[i]? = some y,
   fun i H v H' => ∃ T x y, H T = none ∧ v = .ref T ∧ H' = upd H T (.tup [x, y]) ∧ (∀ xs, SqL K H a xs → xs[i]? = some x) ∧ ∀ ys, SqL K H b ys → ys[i]? = some y,
   fun i H => ∃ xs ys, SqL K H a xs ∧ SqL K H b ys ∧ (xs.length ≤ i ∨ ys.length ≤ i)⟩

def iZip (K : PySem.W.Frag) (ta : TA) : TI := fun σ H R => ta σ H fun vs H1 => ∃ a b, vs = [.ref a, .ref b] ∧ (∃ xs, SqL K H1 a xs) ∧ (∃ ys, SqL K H1 b ys) ∧ R (Itz K a b) H1
def Ite (K : PySem.W.Frag) (a : Addr) : It :=
  ⟨fun i H => ∃ xs x, SqL K H a xs ∧ xs[i]? = some x,
   fun i H v H' => ∃ T x, H T = none ∧ v = .ref T ∧ H' = upd H T (.tup [.int i, x]) ∧ ∀ xs, SqL K H a xs → xs[i]? = some x,
   fun i H => ∃ xs, SqL K H a xs ∧ xs.length ≤ i⟩

def iEnum (K : PySem.W.Frag) (ta : TA) : TI := fun σ H R => ta σ H fun vs H1 => ∃ a, vs = [.ref a] ∧ (∃ xs, SqL K H1 a xs) ∧ R (Ite K a) H1
structure Ov {α : Type} (J : It) (l : List α) (kp : Hp → Prop) (rep : α → V → Hp → Hp → Prop) : Prop where
  go : ∀ (i : Nat) H, kp H → i < l.length → J.go i H
  stop : ∀ (i : Nat) H, kp H → l.length ≤ i → J.stop i H
  yld : ∀ (i : Nat) H x H' y, kp H → l[i]? = some y → J.yld i H x H' → rep y x H H'

theorem ov_list {K : PySem.W.Frag} {a : Addr} {xs : List V} : Ov (Itl K a) xs (fun H => SqL K H a xs) (fun y x H H' => x = y ∧ H' = H) where
  go := fun i H h hi => ⟨xs, xs[i], h, by simp [hi]⟩
  stop := fun i H h hi => ⟨xs, h, hi⟩
  yld := fun i H x H' y h hy ⟨e, q⟩ => ⟨Option.some.inj ((q xs h).symm.trans hy), e⟩
theorem for_ov {α : Type} {J : It} {l : List α} {kp : Hp → Prop} {rep : α → V → Hp → Hp → Prop} (O : Ov J l kp rep) {g : TG} {tb : TS} {D : Ends} {σ : St} {H : Hp} (Pv : Nat → St → Hp → Prop) (h0 : Pv 0 σ H) (hk : ∀ i σ H, i ≤ l.length → Pv i σ H → kp H)
    (hs : ∀ i y x σ H H', l[i]? = some y → Pv i σ H → rep y x H H' → g x σ H' fun σ2 H2 => tb { D with nx := Pv (i + 1), ct := Pv (i + 1), bk := D.nx } σ2 H2) (hd : ∀ σ H, Pv l.length σ H → D.nx σ H) :
    ∃ W : Nat → Nat → St → Hp → Prop, (∃ m, W 0 m σ H) ∧ ∀ i m σ H, W i m σ H →
      (J.stop i H ∧ D.nx σ H) ∨ (J.go i H ∧ ∃ N : St → Hp → Prop, (∀ σ' H', N σ' H' → ∃ m', m' < m ∧ W (i + 1) m' σ' H') ∧ ∀ x H', J.yld i H x H' → g x σ H' fun σ2 H2 => tb { D with nx := N, ct := N, bk := D.nx } σ2 H2) := by
  refine ⟨fun i m σ H => m = l.length - i ∧ i ≤ l.length ∧ Pv i σ H, ⟨l.length, by simp, Nat.zero_le _, h0⟩, ?_⟩
  rintro i m σ H ⟨rfl, hi, p⟩
  by_cases hlt : i < l.length
  · refine .inr ⟨O.go i H (hk i σ H hi p) hlt, Pv (i + 1), fun σ' H' p' => ⟨l.length - (i + 1), by omega, rfl, hlt, p'⟩, fun x H' y => ?_⟩
    have e : l[i]? = some l[i] := by simp [hlt]
    exact hs i _ x σ H H' e p (O.yld i H x H' _ (hk i σ H hi p) e y)
  · have e : i = l.length := by omega
    subst e
    exact .inl ⟨O.stop _ H (hk _ σ H hi p) (Nat.le_refl _), hd σ H p⟩

theorem Same.upd_new {H : Hp} {a : Addr} {o : HO} (h : H a = none) : Same H (upd H a o) := fun b u e => by rw [upd_ne (ne_of_none e h)]; exact e
theorem take_snoc {α : Type} {l : List α} {i : Nat} {y : α} (h : l[i]? = some y) : l.take (i + 1) = l.take i ++ [y] := by
  rw [List.take_add_one, h]; rfl
theorem Paired.snoc {α β : Type} {F : α → β → Prop} : ∀ {l₁ : List α} {l₂ : List β} {a : α} {b : β}, Paired F l₁ l₂ → F a b → Paired F (l₁ ++ [a]) (l₂ ++ [b])
  | _, _, _, _, .nil, h => .cons h .nil
  | _, _, _, _, .cons r t, h => .cons r (Paired.snoc t h)

theorem comp_rel {α : Type} {J : It} {l : List α} {kp : Hp → Prop} {rep : α → V → Hp → Hp → Prop} (O : Ov J l kp rep) {g : TG} {ti : TT} {te : TE} {k : Nat} {caps : List Nat} {σ : St} {H1 : Hp} {Q : VK}
    (p : α → Bool) (Rv : Addr → α → V → Hp → Prop) (mono : ∀ D y v H H', (∀ b o, b ≠ D → H b = some o → H' b = some o) → Rv D y v H → Rv D y v H') (hk : ∀ H, Same H1 H → kp H) (hl : l.length ≤ sizeLine)
    (turn : ∀ D (i : Nat) y x H3 H4 (R : V → Hp → Prop) (R' : Hp → Prop), l[i]? = some y → Same H1 H3 → (∃ ys, H3 D = some (.lst ys)) → rep y x H3 H4 → (p y = true → ∀ v H7, Same H3 H7 → Rv D y v H7 → R v H7) → (p y = false → ∀ H7, Same H3 H7 → R' H7) →
      g x (inner k caps σ) H4 fun σ4 H5 => (σ4.length = (inner k caps σ).length ∧ σ4.drop k = (inner k caps σ).drop k) ∧ ti σ4 H5 fun b H6 => if b = true then te σ4 H6 R else R' H6)
    (fin : ∀ D H' ys, H1 D = none → Same H1 H' → H' D = some (.lst ys) → Paired (fun y v => Rv D y v H') (l.filter p) ys → Q (.ref D) H') :
    CompBody J g ti te k caps σ Q H1 := by
  intro D hD
  refine ⟨fun i m ys H => m = l.length - i ∧ i ≤ l.length ∧ Same H1 H ∧ H D = some (.lst ys) ∧ Paired (fun y v => Rv D y v H) ((l.take i).filter p) ys ∧ ys.length ≤ i, ⟨l.length, by simp, Nat.zero_le _, Same.upd_new hD, upd_same, .nil, Nat.le_refl _⟩, ?_⟩
  rintro i m ys H2 ⟨rfl, hi, s2, d2, pr, hy⟩
  refine ⟨d2, ?_⟩
  by_cases hlt : i < l.length
  · refine .inr ⟨O.go i H2 (hk _ s2) hlt, by omega, fun x H3 y3 => ?_⟩
    have e : l[i]? = some l[i] := by simp [hlt]
    have tk := take_snoc e
    refine turn D i _ x H2 H3 _ _ e s2 ⟨ys, d2⟩ (O.yld i H2 x H3 _ (hk _ s2) e y3) (fun hp v H7 s7 rv => ?_) fun hp H7 s7 => ?_
    · refine ⟨s7 _ _ d2, l.length - (i + 1), by omega, rfl, hlt, ?_, upd_same, ?_, ?_⟩
      · intro b u eb
        rw [upd_ne (ne_of_none eb hD)]
        exact s7 _ _ (s2 _ _ eb)
      · rw [tk, List.filter_append]
        have ef : List.filter p [l[i]] = [l[i]] := by simp [hp]
        rw [ef]
        have up : ∀ b o, b ≠ D → H7 b = some o → upd H7 D (.lst (ys ++ [v])) b = some o := fun b o hb q => by rw [upd_ne hb]; exact q
        exact Paired.snoc (Paired.mapP pr fun y u r => mono D y u _ _ (fun b o hb q => up b o hb (s7 b o q)) r) (mono D _ _ _ _ up rv)
      · rw [List.length_append, List.length_singleton]; omega
    · refine ⟨l.length - (i + 1), by omega, rfl, hlt, s2.trans s7, s7 _ _ d2, ?_, by omega⟩
      rw [tk, List.filter_append]
      have ef : List.filter p [l[i]] = [] := by simp [hp]
      rw [ef, List.append_nil]
      exact Paired.mapP pr fun y v r => mono D y v _ _ (fun b o _ q => s7 b o q) r
  · have e : i = l.length := by omega
    subst e
    refine .inl ⟨O.stop _ H2 (hk _ s2) (Nat.le_refl _), fin D H2 ys hD s2 d2 ?_⟩
    rw [List.take_length] at pr
    exact pr

theorem paired_map {α β : Type} {f : α → β} : ∀ {l : List α} {ys : List β}, Paired (fun y v => v = f y) l ys → ys = l.map f
  | _, _, .nil => rfl
  | _, _, .cons r t => by rw [List.map_cons, r, paired_map t]

theorem comp_pure {α : Type} {J : It} {l : List α} {kp : Hp → Prop} {rep : α → V → Hp → Hp → Prop} (O : Ov J l kp rep) {g : TG} {ti : TT} {te : TE} {k : Nat} {caps : List Nat} {σ : St} {H1 : Hp} {Q : VK}
    (p : α → Bool) (f : α → V) (hk : ∀ H, Same H1 H → kp H) (hl : l.length ≤ sizeLine)
    (turn : ∀ (i : Nat) y x H3 H4 (R : V → Hp → Prop) (R' : Hp → Prop), l[i]? = some y → Same H1 H3 → rep y x H3 H4 → (p y = true → ∀ H7, Same H3 H7 → R (f y) H7) → (p y = false → ∀ H7, Same H3 H7 → R' H7) →
      g x (inner k caps σ) H4 fun σ4 H5 => (σ4.length = (inner k caps σ).length ∧ σ4.drop k = (inner k caps σ).drop k) ∧ ti σ4 H5 fun b H6 => if b = true then te σ4 H6 R else R' H6)
    (fin : ∀ D H', H1 D = none → Same H1 H' → H' D = some (.lst ((l.filter p).map f)) → Q (.ref D) H') :
    CompBody J g ti te k caps σ Q H1 :=
  comp_rel O p (fun _ y v _ => v = f y) (fun _ _ _ _ _ _ r => r) hk hl (fun _ i y x H3 H4 R R' e s _ r h1 h2 => turn i y x H3 H4 R R' e s r (fun hp H7 s7 => h1 hp _ H7 s7 rfl) h2)
    fun D H' ys hD s d pr => fin D H' hD s (by rw [d, paired_map pr])
end L2
set_option maxRecDepth 100000
set_option maxHeartbeats 4000000
namespace L2
open PySem PySem.Spec PyProof.Rows

section
variable {X : Cx}
theorem bl_at {bs : List Bool} {its : List Value} (r : Vals (bs.map V.bl) its) {i : Nat} {v : Value} (h : its.toArray[i]? = some v) : v = .bool (bs.getD i true) := by
  have h' : its[i]? = some v := by simpa using h
  have hl := r.length
  rw [List.length_map] at hl
  have hi : i < its.length := (List.getElem?_eq_some_iff.mp h').1
  have hb : (bs.map V.bl)[i]? = some (.bl (bs.getD i true)) := by
    rw [List.getElem?_map, List.getD_eq_getElem?_getD]
    have : i < bs.length := by omega
    simp [this]
  obtain ⟨u, e, ru⟩ := r.get hb
  rw [h'] at e
  cases e
  exact ru
theorem all_range (bs : List Bool) : ∀ n, n = bs.length → (List.range n).all (fun i => bs.getD i true) = bs.all id := by
  intro n hn
  subst hn
  rw [Bool.eq_iff_iff, List.all_eq_true, List.all_eq_true]
  constructor
  · intro h x hx
    obtain ⟨i, hi, rfl⟩ := List.mem_iff_getElem.mp hx
    have := h i (List.mem_range.mpr hi)
    rw [List.getD_eq_getElem?_getD] at this
    simpa [hi] using this
  · intro h i hi
    have hi' := List.mem_range.mp hi
    rw [List.getD_eq_getElem?_getD]
    have := h bs[i] (List.getElem_mem hi')
    simpa [hi'] using this
theorem call_all (hc : X.calm = true) : CallR X (.builtin "all") (fun xs H Q => ∃ (p : Addr) (bs : List Bool), xs = [.ref p] ∧ SqL X.K H p (bs.map V.bl) ∧ Q (.bl (bs.all id)) H) := by
  intro pins s σ H xs us Q I r h
  obtain ⟨p, bs, rfl, hq, q⟩ := h
  obtain ⟨u, rfl, ru⟩ := vals1 r
  cases ru
  obtain ⟨its, rv, pl, hz⟩ := I.list hq
  obtain ⟨o, e, _⟩ := pl.isList
  have hl := rv.length
  rw [List.length_map] at hl
  refine call_all_walk (wpAny_pyIter_list pl.isList ?_)
  refine ⟨s.heap.objs.size, _, _, _, _, _, fun i => bs.getD i true, rfl, Walks.list (A := X.A.in1) (I.ok.hd hc) s.heap.objs.size p (Nat.ne_of_lt (Heap.lt_size e)) its.toArray, ⟨⟨_, Heap.get?_push_size _ rfl, rfl, rfl⟩, pl.isList.push _⟩, fun i v s' Q' E' hP hQ => ?_, fun h' tk kp => ?_⟩
  · rw [bl_at rv hP]
    exact wpAny_truthy_bool hQ
  · have e1 : (List.range its.toArray.size).all (fun i => bs.getD i true) = bs.all id := all_range bs _ (by rw [List.size_toArray]; omega)
    rw [e1]
    exact ⟨.bl _, H, I.kept (t' := tk) fun b ob q => kp b ob (fun z => absurd (List.mem_singleton.mp z) (Nat.ne_of_lt (Heap.lt_size q))) (Heap.get?_push_of_some _ q), rfl, q⟩
def clsOf : V → Option Value
  | .ty n => some (.type n)
  | .ref a => some (.ref a)
  | _ => none
def rIsi (K : PySem.W.Frag) (xs : List V) (H : Hp) (Q : VK) : Prop := ∃ x c cv t b, xs = [x, c] ∧ clsOf c = some cv ∧ TyOf K H x t ∧ PySem.W.kitOne K t cv = some b ∧ Q (.bl b) H
theorem call_isinst : CallR X (.builtin "isinstance") (rIsi X.K) := by
  intro pins s σ H xs us Q I r h
  obtain ⟨x, c, cv, t, b, rfl, hcv, ty, e, q⟩ := h
  obtain ⟨u, w', rfl, ru, rw'⟩ := vals2 r
  have ec : w' = cv := by
    cases c with
    | ty n => cases hcv; exact rw'
    | ref a => cases hcv; exact rw'
    | _ => cases hcv
  subst ec
  exact isinst_ok I ru ty e fun tk => ⟨.bl b, H, I.tok tk, rfl, q⟩

end

mutual
inductive RdV (K : PySem.W.Frag) (H : Hp) : V → PyData → Prop
  | non : RdV K H .non .none
  | bl (b : Bool) : RdV K H (.bl b) (.bool b)
  | int (i : Int) : RdV K H (.int i) (.int i)
  | str (x : Str) : RdV K H (.str x) (.str x)
  | lst {a : Addr} {xs : List V} {ds : List PyData} : SqL K H a xs → RdVs K H xs ds → RdV K H (.ref a) (.list ds)
  | tup {a : Addr} {xs : List V} {ds : List PyData} : SqT K H a xs → RdVs K H xs ds → RdV K H (.ref a) (.tuple ds)
inductive RdVs (K : PySem.W.Frag) (H : Hp) : List V → List PyData → Prop
  | nil : RdVs K H [] []
  | cons {x : V} {d : PyData} {xs : List V} {ds : List PyData} : RdV K H x d → RdVs K H xs ds → RdVs K H (x :: xs) (d :: ds)
end
section
variable {X : Cx} {pins : List (Addr × Obj)} {σ : St} {H : Hp} {s : Shared}
mutual
theorem RdV.reads (I : Inv X pins σ H s) : ∀ {v : V} {d : PyData} {u : Value}, RdV X.K H v d → RelV v u → ∃ as, Reads s.heap u d as
  | _, _, u, .non, r => by cases (show u = Value.none from r); exact ⟨_, .none⟩
  | _, _, u, .bl b, r => by cases (show u = Value.bool b from r); exact ⟨_, .bool b⟩
  | _, _, u, .int i, r => by obtain ⟨t, rfl⟩ := (show ∃ t, u = Value.int i t from r); exact ⟨_, .int i t⟩
  | _, _, u, .str x, r => by obtain ⟨t, rfl⟩ := (show ∃ t, u = Value.str x t from r); exact ⟨_, .str x t⟩
  | _, _, u, .lst (a := a) q rs, r => by
    cases (show u = Value.ref a from r)
    obtain ⟨its, rv, pl, _⟩ := I.list q
    obtain ⟨as, ra⟩ := RdVs.reads I rs rv
    obtain ⟨o, e, c, n, d⟩ := pl.isList
    exact ⟨_, .list e c d (by simpa using ra)⟩
  | _, _, u, .tup (a := a) q rs, r => by
    cases (show u = Value.ref a from r)
    obtain ⟨its, rv, pl, _⟩ := I.tuple q
    obtain ⟨as, ra⟩ := RdVs.reads I rs rv
    obtain ⟨o, e, c, n, d⟩ := pl
    exact ⟨_, .tuple e c d (by simpa using ra)⟩
theorem RdVs.reads (I : Inv X pins σ H s) : ∀ {vs : List V} {ds : List PyData} {us : List Value}, RdVs X.K H vs ds → Vals vs us → ∃ as, ReadsAll s.heap us ds as
  | _, _, _, .nil, r => by cases r; exact ⟨_, .nil⟩
  | _, _, _, .cons h t, r => by
    cases r with
    | cons r1 r2 =>
      obtain ⟨as, h1⟩ := RdV.reads I h r1
      obtain ⟨bs, h2⟩ := RdVs.reads I t r2
      exact ⟨_, .cons h1 h2⟩
end
end
mutual
theorem RdV.same {K : PySem.W.Frag} {H H' : Hp} (e : Same H H') : ∀ {v : V} {d : PyData}, RdV K H v d → RdV K H' v d
  | _, _, .non => .non
  | _, _, .bl b => .bl b
  | _, _, .int i => .int i
  | _, _, .str x => .str x
  | _, _, .lst q rs => .lst (e.seq q) (RdVs.same e rs)
  | _, _, .tup q rs => .tup (by
      rcases q with (h | ⟨o, h⟩) | h
      · exact .inl (.inl (e _ _ h))
      · exact .inl (.inr ⟨o, e _ _ h⟩)
      · exact .inr h) (RdVs.same e rs)
theorem RdVs.same {K : PySem.W.Frag} {H H' : Hp} (e : Same H H') : ∀ {vs : List V} {ds : List PyData}, RdVs K H vs ds → RdVs K H' vs ds
  | _, _, .nil => .nil
  | _, _, .cons h t => .cons (RdV.same e h) (RdVs.same e t)
end
theorem RdVs.ints {K : PySem.W.Frag} {H : Hp} : ∀ ns : List Int, RdVs K H (ns.map V.int) (ns.map PyData.int)
  | [] => .nil
  | n :: r => .cons (.int n) (RdVs.ints r)
abbrev dI (ns : List Int) : PyData := .list (ns.map PyData.int)
theorem RdV.ints {K : PySem.W.Frag} {H : Hp} {a : Addr} {ns : List Int} (h : SqL K H a (ns.map V.int)) : RdV K H (.ref a) (dI ns) := .lst h (RdVs.ints ns)

def rEqD (K : PySem.W.Frag) (neg : Bool) : R2 := fun x y H Q => ∃ d e, RdV K H x d ∧ RdV K H y e ∧ SeqAt.shaped d = true ∧ SeqAt.shaped e = true ∧ Q (.bl (if neg then !PyData.eqv d e else PyData.eqv d e)) H
section
variable {X : Cx}
theorem op_eqD (hu : X.A.units + 64 < cLine) : OpR X (compareOp .Eq) (rEqD X.K false) := by
  intro pins s σ H x y v u Q I rx ry h
  obtain ⟨d, e, h1, h2, h3, h4, q⟩ := h
  obtain ⟨as, r1⟩ := h1.reads I rx
  obtain ⟨bs, r2⟩ := h2.reads I ry
  exact eq_dataH r1 r2 h3 h4 hu ⟨.bl _, H, I, rfl, q⟩
theorem op_neD (hu : X.A.units + 64 < cLine) : OpR X (compareOp .NotEq) (rEqD X.K true) := by
  intro pins s σ H x y v u Q I rx ry h
  obtain ⟨d, e, h1, h2, h3, h4, q⟩ := h
  obtain ⟨as, r1⟩ := h1.reads I rx
  obtain ⟨bs, r2⟩ := h2.reads I ry
  exact ne_dataH r1 r2 h3 h4 hu ⟨.bl _, H, I, rfl, q⟩
theorem op_eqG (hu : X.A.units + 64 < cLine) : OpR X (compareOp .Eq) (fun x y H Q => rEq x y H Q ∨ rEqD X.K false x y H Q) := op_eq.or (op_eqD hu)
theorem op_neG (hu : X.A.units + 64 < cLine) : OpR X (compareOp .NotEq) (fun x y H Q => rNe x y H Q ∨ rEqD X.K true x y H Q) := op_ne.or (op_neD hu)

end

def pickV (xs : List V) (lo hi st : Option Int) : List V := (sliceRange (sliceBounds lo hi st xs.length).1 (sliceBounds lo hi st xs.length).2.1 (sliceBounds lo hi st xs.length).2.2).filterMap fun i => xs[i]?
section
variable {X : Cx} {e : Expr} {te : TE} {lo hi : Option Expr} {st : Expr} {tl th : TO} {ts : TE} {pos p2 : Pos}
def Sl3K (K : PySem.W.Frag) (x : V) (l u : Option Int) (z : V) (H4 : Hp) (Q : VK) : Prop := ∃ k a xs, z = .int k ∧ k ≠ 0 ∧ x = .ref a ∧ SqL K H4 a xs ∧ ∀ p, H4 p = none → Q (.ref p) (upd H4 p (.lst (pickV xs l u (some k))))
def tSl3 (K : PySem.W.Frag) (te : TE) (tl th : TO) (ts : TE) : TE := fun σ H Q => te σ H fun x H1 => tl σ H1 fun l H2 => th σ H2 fun u H3 => ts σ H3 fun z H4 => Sl3K K x l u z H4 Q
end
end L2
set_option maxRecDepth 100000
set_option maxHeartbeats 4000000
namespace L2
open PySem PySem.Spec PyProof.Rows
section
variable {X : Cx} {a b e : Expr} {ta tb te : TE} {pos : Pos}

theorem pe_bty {x : Str} {n : String} {pos : Pos} (hg : Gl X x) (hm : X.mg x = none) (hv : bootBuiltins x = some (.type n)) (hn : x ≠ "__name__" := by decide) (hd : (x == ("__debug__" : Str)) = false := by decide) : PE X (.Name x pos) (tC (.ty n)) := pe_bltn hg hm hv rfl hn hd
theorem pe_gref {x : Str} {c : Addr} {pos : Pos} (hg : Gl X x) (hm : X.mg x = some (.ref c)) (hd : (x == ("__debug__" : Str)) = false := by decide) : PE X (.Name x pos) (tC (.ref c)) := pe_glob hg hm rfl hd
def rAddG : R2 := fun x y H Q => rI0 (fun i j => .int (i + j)) x y H Q ∨ rCat x y H Q
theorem op_addG : OpR X (binaryOp .Add) rAddG := op_add.or op_cat
def rIxG (K : PySem.W.Frag) : R2 := fun x y H Q => rIxL K x y H Q ∨ rIxT K x y H Q
theorem ix_G : IxR X (rIxG X.K) := ix_list.or ix_tup
def rLenG (K : PySem.W.Frag) : List V → Hp → VK → Prop := fun xs H Q => (∃ p ys, xs = [.ref p] ∧ (SqL K H p ys ∨ SqT K H p ys) ∧ Q (.int ys.length) H) ∨ (∃ a kvs, xs = [V.ref a] ∧ H a = some (.dK kvs) ∧ Q (.int kvs.length) H)
theorem len_G : CallR X (.builtin "len") (rLenG X.K) := call_len_seq.or call_lenD
def rIsG : R2 := fun x y H Q => (∃ a b, x = .bl a ∧ y = .bl b ∧ Q (.bl (a == b)) H) ∨ (y = .non ∧ Q (.bl (decide (x = .non))) H)
def rIsnotG : R2 := fun x y H Q => (∃ a b, x = .bl a ∧ y = .bl b ∧ Q (.bl (a != b)) H) ∨ (y = .non ∧ Q (.bl (!decide (x = .non))) H)
end

def blockOk (env : List (Str × NameKind)) (XN N : List Str) (scope : Scope) (k : Nat) (caps : List Nat) : Bool :=
  (match scope.kind with | .function => true | _ => false) &&
  scope.names.all (fun y => (match y.2 with
    | .cell => false
    | .free => (match env.lookup y.1 with | some .cell => true | some .free => true | _ => false)
    | .local => (match scope.names.lookup y.1 with | some .local => true | _ => false)
    | _ => true)) &&
  Nat.beq N.length (k + caps.length) &&
  (List.range caps.length).all fun i => match caps[i]? with
    | some j => (match N[k + i]?, XN[j]? with
      | some x, some y => decide (x = y) && (match scope.names.lookup x with | some .free => true | _ => false)
      | _, _ => false)
    | none => false
theorem Block.of {X : Cx} {N : List Str} {scope : Scope} {k : Nat} {caps : List Nat} (h : blockOk X.env.scope.names X.N N scope k caps = true) : Block X N scope k caps := by
  unfold blockOk at h
  simp only [Bool.and_eq_true] at h
  obtain ⟨⟨⟨h1, h2⟩, h3⟩, h4⟩ := h
  have h2 := List.all_eq_true.mp h2
  have h4 := List.all_eq_true.mp h4
  refine ⟨?_, fun y hy => ?_, fun y hy e => ?_, fun y hy e => ?_, Nat.eq_of_beq_eq_true h3, fun i j hj => ?_⟩
  · revert h1
    cases scope.kind <;> intro h1 <;> first | rfl | cases h1
  · have := h2 y hy
    intro e
    rw [e] at this
    cases this
  · have := h2 y hy
    rw [e] at this
    simp only at this
    revert this
    cases X.env.scope.names.lookup y.1 with
    | none => intro z; cases z
    | some q => cases q <;> intro z <;> first | exact .inl rfl | exact .inr rfl | cases z
  · have := h2 y hy
    rw [e] at this
    simp only at this
    revert this
    cases scope.names.lookup y.1 with
    | none => intro z; cases z
    | some q => cases q <;> intro z <;> first | rfl | cases z
  · have hi : i < caps.length := (List.getElem?_eq_some_iff.mp hj).1
    have := h4 i (List.mem_range.mpr hi)
    rw [hj] at this
    simp only at this
    revert this
    cases hN : N[k + i]? with
    | none => intro z; cases z
    | some x =>
      cases hX : X.N[j]? with
      | none => intro z; cases z
      | some y =>
        intro z
        simp only [Bool.and_eq_true, decide_eq_true_eq] at z
        obtain ⟨z1, z2⟩ := z
        refine ⟨x, rfl, by rw [z1], ?_⟩
        revert z2
        cases scope.names.lookup x with
        | none => intro z; cases z
        | some q => cases q <;> intro z <;> first | rfl | cases z

section
variable {X : Cx} {pos : Pos}
def tPar3 (i j k : Nat) (ta : TA) : TS := fun D σ H => ta σ H fun vs H1 => ∃ u v w, vs = [u, v, w] ∧ D.nx (((σ.set i (some u)).set j (some v)).set k (some w)) H1
end
end L2
set_option maxRecDepth 100000
set_option maxHeartbeats 4000000
namespace L2
open PySem PySem.Spec PyProof.Rows
section
variable {σ : St} {H H' : Hp} {Q : VK} {D : Ends} {K : PySem.W.Frag}

theorem upd_keep {q p : Addr} {u o : HO} (h : H q = some u) (hp : H p = none) : upd H p o q = some u := by rw [upd_ne (ne_of_none h hp)]; exact h
theorem upd_keepNe {q p : Addr} {u o : HO} (h : H q = some u) (hne : q ≠ p) : upd H p o q = some u := by rw [upd_ne hne]; exact h
theorem Same.at {q : Addr} {u : HO} (s : Same H H') (h : H q = some u) : H' q = some u := s q u h
theorem sq_keep {q p : Addr} {xs : List V} {o : HO} (h : SqL K H q xs) (hp : H p = none) : SqL K (upd H p o) q xs := (Same.upd_new hp).seq h
theorem sq_keepNe {q p : Addr} {xs : List V} {o : HO} (h : SqL K H q xs) (hne : q ≠ p) : SqL K (upd H p o) q xs := by
  rcases h with (h | ⟨u, h⟩) | h
  · exact .inl (.inl (upd_keepNe h hne))
  · exact .inl (.inr ⟨u, upd_keepNe h hne⟩)
  · exact .inr h
def SameBut (ls : List Addr) (H H' : Hp) : Prop := ∀ b o, H b = some o → b ∉ ls → H' b = some o
theorem Same.but {ls : List Addr} (s : Same H H') : SameBut ls H H' := fun b o h _ => s b o h
theorem SameBut.at {ls : List Addr} {q : Addr} {u : HO} (s : SameBut ls H H') (h : H q = some u) (hn : q ∉ ls) : H' q = some u := s q u h hn
theorem SameBut.seq {ls : List Addr} {q : Addr} {xs : List V} (s : SameBut ls H H') (h : SqL K H q xs) (hn : q ∉ ls) : SqL K H' q xs := by
  rcases h with (h | ⟨u, h⟩) | h
  · exact .inl (.inl (s _ _ h hn))
  · exact .inl (.inr ⟨u, s _ _ h hn⟩)
  · exact .inr h
theorem SameBut.upd {ls : List Addr} {p : Addr} {o : HO} (s : SameBut ls H H') (hp : p ∈ ls) : SameBut ls H (upd H' p o) := fun b u h hn => by
  rw [upd_ne (fun e => by subst e; exact hn hp)]; exact s b u h hn
theorem SameBut.new {ls : List Addr} {p : Addr} {o : HO} (s : SameBut ls H H') (hp : H' p = none) : SameBut ls H (L2.upd H' p o) := fun b u h hn => upd_keep (s b u h hn) hp
theorem SameBut.trans {ls : List Addr} {H1 H2 : Hp} (a : SameBut ls H H1) (b : SameBut ls H1 H2) : SameBut ls H H2 := fun c o h hn => b c o (a c o h hn) hn
theorem r_seq {t u : TS} (h : t { D with nx := u D } σ H) : tSeq t u D σ H := h
theorem r_asg {te : TE} {g : TG} (h : te σ H fun x H1 => g x σ H1 D.nx) : tAsg te g D σ H := h
theorem r_name {i : Nat} {v : V} {R : St → Hp → Prop} (h : R (σ.set i (some v)) H) : gName i v σ H R := h
theorem r_ifs {c : TT} {t u : TS} (h : c σ H fun b H1 => if b = true then t D σ H1 else u D σ H1) : tIfS c t u D σ H := h
theorem r_ret {te : TE} (h : te σ H D.rt) : tRet te D σ H := h
theorem r_next (h : D.nx σ H) : tNext D σ H := h
theorem r_drop {te : TE} (h : te σ H fun _ H1 => D.nx σ H1) : tDrop te D σ H := h
theorem r_break (h : D.bk σ H) : tBreak D σ H := h
theorem r_cont (h : D.ct σ H) : tCont D σ H := h
theorem r_var {i : Nat} {v : V} (e : σ[i]? = some (some v)) (h : Q v H) : tVar i σ H Q := ⟨v, e, h⟩
theorem r_c {v : V} (h : Q v H) : tC v σ H Q := h
theorem r_op {r : R2} {ta tb : TE} (h : ta σ H fun x H1 => tb σ H1 fun y H2 => r x y H2 Q) : tOp r ta tb σ H Q := h
theorem r_un {r : V → Hp → VK → Prop} {ta : TE} (h : ta σ H fun x H1 => r x H1 Q) : tUn r ta σ H Q := h
theorem r_cb {r : List V → Hp → VK → Prop} {t : TA} (h : t σ H fun vs H1 => r vs H1 Q) : tCB r t σ H Q := h
theorem r_cons {ta : TE} {tr : TA} {R : List V → Hp → Prop} (h : ta σ H fun x H1 => tr σ H1 fun xs H2 => R (x :: xs) H2) : tCons ta tr σ H R := h
theorem r_nil {R : List V → Hp → Prop} (h : R [] H) : tNil σ H R := h
theorem r_test {t : TE} {R : Bool → Hp → Prop} (h : t σ H fun x H1 => ∃ k, x = .bl k ∧ R k H1) : tTest t σ H R := h
theorem r_tB {t : TE} {R : Bool → Hp → Prop} (h : t σ H fun x H1 => ∃ k, x = .bl k ∧ R k H1) : tB t σ H R := h
theorem r_bl {b : Bool} {R : Bool → Prop} (h : R b) : ∃ k, V.bl b = .bl k ∧ R k := ⟨b, rfl, h⟩
theorem r_not {t : TT} {R : Bool → Hp → Prop} (h : t σ H fun c H1 => R (!c) H1) : tNot t σ H R := h
theorem r_and {t u : TT} {R : Bool → Hp → Prop} (h : t σ H fun c H1 => if c = true then u σ H1 R else R false H1) : tAnd t u σ H R := h
theorem r_or {t u : TT} {R : Bool → Hp → Prop} (h : t σ H fun c H1 => if c = true then R true H1 else u σ H1 R) : tOr t u σ H R := h
theorem r_andV {ta tb : TE} (h : ta σ H fun x H1 => ∃ c, x = .bl c ∧ if c = true then tb σ H1 Q else Q (.bl false) H1) : tAndV ta tb σ H Q := h
theorem r_orV {ta tb : TE} (h : ta σ H fun x H1 => ∃ c, x = .bl c ∧ if c = true then Q (.bl true) H1 else tb σ H1 Q) : tOrV ta tb σ H Q := h
theorem r_notV {ta : TE} (h : ta σ H fun x H1 => ∃ c, x = .bl c ∧ Q (.bl (!c)) H1) : tNotV ta σ H Q := h
theorem r_ifE {t : TT} {ta tb : TE} (h : t σ H fun c H1 => if c = true then ta σ H1 Q else tb σ H1 Q) : tIf t ta tb σ H Q := h
theorem r_call {sp : Sp} {dvs : List V} {E : XK} {t : TA} (h : t σ H fun vs H1 => sp (vs ++ dvs) H1 Q E) : tCall sp dvs E t σ H Q := h
theorem r_chain {r r' : R2} {ta tb tc : TE} (h : ta σ H fun x H1 => tb σ H1 fun y H2 => r x y H2 fun z H3 => ∃ k, z = .bl k ∧ (if k = true then tc σ H3 fun w' H4 => r' y w' H4 Q else Q (.bl false) H3)) : tChain r r' ta tb tc σ H Q := h
def NewL (Q : VK) (xs : List V) (H1 : Hp) : Prop := xs.length ≤ sizeLine ∧ ∀ p, H1 p = none → Q (.ref p) (upd H1 p (.lst xs))
def NewT (Q : VK) (xs : List V) (H1 : Hp) : Prop := xs.length ≤ sizeLine ∧ ∀ p, H1 p = none → Q (.ref p) (upd H1 p (.tup xs))
theorem r_lst {t : TA} (h : t σ H fun xs H1 => NewL Q xs H1) : tLst t σ H Q := h
theorem r_tup {t : TA} (h : t σ H fun xs H1 => NewT Q xs H1) : tTup t σ H Q := h
theorem r_newL {xs : List V} (hn : xs.length ≤ 1000) (h : ∀ p, H p = none → Q (.ref p) (upd H p (.lst xs))) : NewL Q xs H := ⟨Nat.le_trans hn (by decide), h⟩
theorem r_newT {xs : List V} (hn : xs.length ≤ 1000) (h : ∀ p, H p = none → Q (.ref p) (upd H p (.tup xs))) : NewT Q xs H := ⟨Nat.le_trans hn (by decide), h⟩
theorem r_sl {r : V → Option Int → Option Int → Hp → VK → Prop} {te : TE} {tl th : TO} (h : te σ H fun x H1 => tl σ H1 fun l H2 => th σ H2 fun u H3 => r x l u H3 Q) : tSl r te tl th σ H Q := h
theorem r_part {t : TE} {R : Option Int → Hp → Prop} (h : t σ H fun x H1 => ∃ i, x = .int i ∧ R (some i) H1) : tPart t σ H R := h
theorem r_noPart {R : Option Int → Hp → Prop} (h : R none H) : tNoPart σ H R := h
theorem r_int {i : Int} {R : Int → Prop} (h : R i) : ∃ k, V.int i = .int k ∧ R k := ⟨i, rfl, h⟩
theorem r_comp {wi : TI} {g : TG} {ti : TT} {te : TE} {k : Nat} {caps : List Nat} (h : wi σ H fun J H1 => CompBody J g ti te k caps σ Q H1) : tComp wi g ti te k caps σ H Q := h
def ForBody (J : It) (g : TG) (tb : TS) (D : Ends) (σ : St) (H1 : Hp) : Prop := ∃ W : Nat → Nat → St → Hp → Prop, (∃ m, W 0 m σ H1) ∧ ∀ i m σ H, W i m σ H →
  (J.stop i H ∧ D.nx σ H) ∨ (J.go i H ∧ ∃ N : St → Hp → Prop, (∀ σ' H', N σ' H' → ∃ m', m' < m ∧ W (i + 1) m' σ' H') ∧ ∀ x H', J.yld i H x H' → g x σ H' fun σ2 H2 => tb { D with nx := N, ct := N, bk := D.nx } σ2 H2)
theorem r_for {wi : TI} {g : TG} {tb : TS} (h : wi σ H fun J H1 => ForBody J g tb D σ H1) : tFor wi g tb D σ H := h
def AtL (K : PySem.W.Frag) (R : It → Hp → Prop) (x : V) (H1 : Hp) : Prop := ∃ a, x = .ref a ∧ (∃ xs, SqL K H1 a xs) ∧ R (Itl K a) H1
theorem r_iList {tl : TE} {R : It → Hp → Prop} (h : tl σ H fun x H1 => AtL K R x H1) : iList K tl σ H R := h
theorem r_AtL {a : Addr} {xs : List V} {R : It → Hp → Prop} (hs : SqL K H a xs) (h : R (Itl K a) H) : AtL K R (.ref a) H := ⟨a, rfl, ⟨xs, hs⟩, h⟩
def AtZ (K : PySem.W.Frag) (R : It → Hp → Prop) (vs : List V) (H1 : Hp) : Prop := ∃ a b, vs = [.ref a, .ref b] ∧ (∃ xs, SqL K H1 a xs) ∧ (∃ ys, SqL K H1 b ys) ∧ R (Itz K a b) H1
theorem r_iZip {ta : TA} {R : It → Hp → Prop} (h : ta σ H fun vs H1 => AtZ K R vs H1) : iZip K ta σ H R := h
theorem r_AtZ {a b : Addr} {xs ys : List V} {R : It → Hp → Prop} (hs : SqL K H a xs) (ht : SqL K H b ys) (h : R (Itz K a b) H) : AtZ K R [.ref a, .ref b] H := ⟨a, b, rfl, ⟨xs, hs⟩, ⟨ys, ht⟩, h⟩
def AtE (K : PySem.W.Frag) (R : It → Hp → Prop) (vs : List V) (H1 : Hp) : Prop := ∃ a, vs = [.ref a] ∧ (∃ xs, SqL K H1 a xs) ∧ R (Ite K a) H1
theorem r_iEnum {ta : TA} {R : It → Hp → Prop} (h : ta σ H fun vs H1 => AtE K R vs H1) : iEnum K ta σ H R := h
theorem r_AtE {a : Addr} {xs : List V} {R : It → Hp → Prop} (hs : SqL K H a xs) (h : R (Ite K a) H) : AtE K R [.ref a] H := ⟨a, rfl, ⟨xs, hs⟩, h⟩
def AtR1 (R : It → Hp → Prop) (vs : List V) (H1 : Hp) : Prop := ∃ j : Int, vs = [.int j] ∧ -(2 ^ 62) ≤ j ∧ j < 2 ^ 62 ∧ R (Itr 0 j.toNat) H1
theorem r_iRng1 {ta : TA} {R : It → Hp → Prop} (h : ta σ H fun vs H1 => AtR1 R vs H1) : iRng1 ta σ H R := h
theorem r_gTup {n : Nat} {t : TGs} {T : Addr} {xs : List V} {R : St → Hp → Prop} (ht : H T = some (.tup xs)) (hn : xs.length = n) (h : t xs σ H R) : gTup K n t (.ref T) σ H R := ⟨T, xs, rfl, SqT.of ht, hn, h⟩
theorem r_gCons {t : TG} {u : TGs} {v : V} {r : List V} {R : St → Hp → Prop} (h : t v σ H fun σ' H' => u r σ' H' R) : gCons t u (v :: r) σ H R := ⟨v, r, rfl, h⟩
theorem r_gNil {R : St → Hp → Prop} (h : R σ H) : gNil [] σ H R := ⟨rfl, h⟩

theorem r_rI0 {g : Int → Int → V} {i j : Int} (h : Q (g i j) H) : rI0 g (.int i) (.int j) H Q := ⟨i, j, rfl, rfl, h⟩
theorem r_rI {C : Int → Int → Prop} {g : Int → Int → V} {i j : Int} (hc : C i j) (h : Q (g i j) H) : rI C g (.int i) (.int j) H Q := ⟨i, j, rfl, rfl, hc, h⟩
theorem r_rU {g : Int → V} {i : Int} (h : Q (g i) H) : rU g (.int i) H Q := ⟨i, rfl, h⟩
theorem r_addI {i j : Int} (h : Q (.int (i + j)) H) : rAddG (.int i) (.int j) H Q := .inl ⟨i, j, rfl, rfl, h⟩
theorem r_eqI {i j : Int} (h : Q (.bl (decide (i = j))) H) : rEq (.int i) (.int j) H Q ∨ rEqD K false (.int i) (.int j) H Q := .inl ⟨rfl, by
  have e : decide (V.int i = V.int j) = decide (i = j) := by rw [dec_int]; by_cases z : i = j <;> simp [z]
  rw [e]; exact h⟩
theorem r_neI {i j : Int} (h : Q (.bl (!decide (i = j))) H) : rNe (.int i) (.int j) H Q ∨ rEqD K true (.int i) (.int j) H Q := .inl ⟨rfl, by
  have e : decide (V.int i = V.int j) = decide (i = j) := by rw [dec_int]; by_cases z : i = j <;> simp [z]
  rw [e]; exact h⟩
theorem r_eqB {i j : Bool} (h : Q (.bl (i == j)) H) : rEq (.bl i) (.bl j) H Q ∨ rEqD K false (.bl i) (.bl j) H Q := .inl ⟨rfl, by rw [dec_bl]; exact h⟩
theorem r_neB {i j : Bool} (h : Q (.bl (!(i == j))) H) : rNe (.bl i) (.bl j) H Q ∨ rEqD K true (.bl i) (.bl j) H Q := .inl ⟨rfl, by rw [dec_bl]; exact h⟩
theorem r_isB {a b : Bool} (h : Q (.bl (a == b)) H) : rIsG (.bl a) (.bl b) H Q := .inl ⟨a, b, rfl, rfl, h⟩
theorem r_isnotB {a b : Bool} (h : Q (.bl (a != b)) H) : rIsnotG (.bl a) (.bl b) H Q := .inl ⟨a, b, rfl, rfl, h⟩

theorem r_lenL {p : Addr} {ys : List V} (hs : SqL K H p ys) (h : Q (.int ys.length) H) : rLenG K [.ref p] H Q := .inl ⟨p, ys, rfl, .inl hs, h⟩
theorem r_lenI {p : Addr} {ns : List Int} (hs : SqL K H p (ns.map V.int)) (h : Q (.int ns.length) H) : rLenG K [.ref p] H Q := r_lenL hs (by rw [List.length_map]; exact h)
theorem r_lenD {p : Addr} {kvs : List (Key × V)} (hs : H p = some (.dK kvs)) (h : Q (.int kvs.length) H) : rLenG K [.ref p] H Q := .inr ⟨p, kvs, rfl, hs, h⟩
theorem atI_int {ns : List Int} {i : Int} (h0 : 0 ≤ i) (h1 : i < ns.length) : atI (ns.map V.int) i = some (.int (ns.getD i.toNat 0)) := by
  obtain ⟨j, rfl⟩ : ∃ j : Nat, i = j := ⟨i.toNat, by omega⟩
  have hj : j < ns.length := by omega
  refine atI_nat ?_
  rw [List.getElem?_map, Int.toNat_natCast, List.getD_eq_getElem?_getD]
  simp [hj]
theorem r_ixI {p : Addr} {ns : List Int} {i : Int} (hs : SqL K H p (ns.map V.int)) (h0 : 0 ≤ i) (h1 : i < ns.length) (h : Q (.int (ns.getD i.toNat 0)) H) : rIxG K (.ref p) (.int i) H Q := .inl ⟨p, _, i, _, rfl, rfl, hs, atI_int h0 h1, h⟩
theorem r_ixL {p : Addr} {xs : List V} {i : Int} {v : V} (hs : SqL K H p xs) (e : atI xs i = some v) (h : Q v H) : rIxG K (.ref p) (.int i) H Q := .inl ⟨p, _, i, _, rfl, rfl, hs, e, h⟩
theorem r_ixT {p : Addr} {xs : List V} {i : Int} {v : V} (hs : H p = some (.tup xs)) (e : atI xs i = some v) (h : Q v H) : rIxG K (.ref p) (.int i) H Q := .inr ⟨p, _, i, _, rfl, rfl, SqT.of hs, e, h⟩
theorem shaped_dI (ns : List Int) : SeqAt.shaped (dI ns) = true := PySem.W.ke_shaped_ints ns
theorem eqv_dI (xs ys : List Int) : PyData.eqv (dI xs) (dI ys) = decide (xs = ys) := by rw [PyData.eqv]; exact PySem.W.ked_eqvAll xs ys
theorem r_eqL {a b : Addr} {xs ys : List Int} (h1 : SqL K H a (xs.map V.int)) (h2 : SqL K H b (ys.map V.int)) (h : Q (.bl (decide (xs = ys))) H) : rEq (.ref a) (.ref b) H Q ∨ rEqD K false (.ref a) (.ref b) H Q :=
  .inr ⟨dI xs, dI ys, RdV.ints h1, RdV.ints h2, shaped_dI _, shaped_dI _, by rw [if_neg (by decide), eqv_dI]; exact h⟩
theorem r_neL {a b : Addr} {xs ys : List Int} (h1 : SqL K H a (xs.map V.int)) (h2 : SqL K H b (ys.map V.int)) (h : Q (.bl (!decide (xs = ys))) H) : rNe (.ref a) (.ref b) H Q ∨ rEqD K true (.ref a) (.ref b) H Q :=
  .inr ⟨dI xs, dI ys, RdV.ints h1, RdV.ints h2, shaped_dI _, shaped_dI _, by rw [if_pos rfl, eqv_dI]; exact h⟩
theorem inV_ints (x : Int) : ∀ ns : List Int, inV (.int x) (ns.map V.int) = decide (x ∈ ns)
  | [] => by simp [inV]
  | n :: r => by
    have ih := inV_ints x r
    unfold inV at ih ⊢
    rw [List.map_cons, List.any_cons, ih]
    show ((n == x) || _) = _
    by_cases e : n = x
    · subst e; simp
    · have e' : ¬ x = n := fun z => e z.symm
      simp [e, e']
theorem flat_ints : ∀ ns : List Int, (ns.map V.int).all flatV = true
  | [] => rfl
  | n :: r => by rw [List.map_cons, List.all_cons, flat_ints r]; rfl
theorem r_inI {p : Addr} {x : Int} {ns : List Int} (hs : SqL K H p (ns.map V.int)) (h : Q (.bl (decide (x ∈ ns))) H) : rIn K false (.int x) (.ref p) H Q := ⟨p, _, rfl, .inl hs, rfl, flat_ints ns, by rw [if_neg (by decide), inV_ints]; exact h⟩
theorem r_notInI {p : Addr} {x : Int} {ns : List Int} (hs : SqL K H p (ns.map V.int)) (h : Q (.bl (!decide (x ∈ ns))) H) : rIn K true (.int x) (.ref p) H Q := ⟨p, _, rfl, .inl hs, rfl, flat_ints ns, by rw [if_pos rfl, inV_ints]; exact h⟩
def cutI (xs : List Int) (lo hi : Option Int) : List Int := (xs.drop (HT.sIx xs.length 0 lo)).take (HT.sIx xs.length xs.length hi - HT.sIx xs.length 0 lo)
theorem cutV_ints (ns : List Int) (lo hi : Option Int) : cutV (ns.map V.int) lo hi = (cutI ns lo hi).map V.int := by
  unfold cutV cutI
  rw [List.length_map, List.map_take, List.map_drop]
theorem r_slI {a : Addr} {ns : List Int} {lo hi : Option Int} (hs : SqL K H a (ns.map V.int)) (h : ∀ p, H p = none → Q (.ref p) (upd H p (.lst ((cutI ns lo hi).map V.int)))) : rSlL K (.ref a) lo hi H Q := ⟨a, _, rfl, hs, fun p hp => by rw [cutV_ints]; exact h p hp⟩
theorem filt_range {α : Type} (ys : List α) : ∀ n, n ≤ ys.length → ((List.range n).filterMap fun k => ys[k]?) = ys.take n
  | 0, _ => by simp
  | n + 1, h => by
    rw [List.range_succ, List.filterMap_append, filt_range ys n (by omega), List.take_add_one]
    have hn : n < ys.length := by omega
    simp [hn]
theorem sr_rev (n : Nat) : sliceRange ((n : Int) - 1) (-1) (-1) = (List.range n).map fun k => n - 1 - k := by
  unfold sliceRange
  have e : (if ((-1 : Int) > 0) then (if ((n : Int) - 1 < -1) then ((-1) - ((n : Int) - 1) + (-1) - 1) / (-1) else 0) else (if ((n : Int) - 1 > -1) then ((n : Int) - 1 - (-1) - (-1) - 1) / (-(-1)) else 0)).toNat = n := by
    rw [if_neg (by decide)]
    have e1 : (-(-1) : Int) = 1 := by decide
    rw [e1, Int.ediv_one]
    split <;> omega
  simp only [e]
  refine List.map_congr_left fun k hk => ?_
  have := List.mem_range.mp hk
  omega
theorem filt_congr {α β : Type} {f g : α → Option β} : ∀ {l : List α}, (∀ x ∈ l, f x = g x) → l.filterMap f = l.filterMap g
  | [], _ => rfl
  | x :: r, h => by
    rw [List.filterMap_cons, List.filterMap_cons, h x List.mem_cons_self, filt_congr fun y hy => h y (List.mem_cons_of_mem _ hy)]
theorem pickV_rev (xs : List V) : pickV xs none none (some (-1)) = xs.reverse := by
  unfold pickV
  have eb : sliceBounds none none (some (-1)) xs.length = ((xs.length : Int) - 1, -1, -1) := PySem.W.krv_bounds _
  rw [eb]
  simp only
  rw [sr_rev, List.filterMap_map]
  have e : ((List.range xs.length).filterMap ((fun i => xs[i]?) ∘ fun k => xs.length - 1 - k)) = (List.range xs.length).filterMap fun k => xs.reverse[k]? := by
    refine filt_congr fun k hk => ?_
    have := List.mem_range.mp hk
    show xs[xs.length - 1 - k]? = _
    rw [List.getElem?_reverse (by omega)]
  rw [e, filt_range _ _ (by rw [List.length_reverse]; omega), ← List.length_reverse (as := xs), List.take_length]
def evens {α : Type} : List α → List α
  | [] => []
  | [x] => [x]
  | x :: _ :: r => x :: evens r
theorem evens_map {α β : Type} (f : α → β) : ∀ l : List α, evens (l.map f) = (evens l).map f
  | [] => rfl
  | [x] => rfl
  | x :: y :: r => by
    show f x :: evens (r.map f) = f x :: (evens r).map f
    rw [evens_map f r]
theorem filt_evens {α : Type} : ∀ (xs : List α), ((List.range ((xs.length + 1) / 2)).filterMap fun k => xs[2 * k]?) = evens xs
  | [] => by simp [evens]
  | [x] => by simp [evens, List.range_succ]
  | x :: y :: r => by
    have ih := filt_evens r
    have e : ((x :: y :: r).length + 1) / 2 = (r.length + 1) / 2 + 1 := by simp only [List.length_cons]; omega
    rw [e, List.range_succ_eq_map, List.filterMap_cons]
    show x :: _ = x :: evens r
    rw [← ih, List.filterMap_map]
    congr 1
theorem sr_two (a n : Nat) (h : a ≤ n) : sliceRange (a : Int) (n : Int) 2 = (List.range ((n - a + 1) / 2)).map fun k => a + 2 * k := by
  unfold sliceRange
  have e : (if ((2 : Int) > 0) then (if ((a : Int) < n) then ((n : Int) - a + 2 - 1) / 2 else 0) else (if ((a : Int) > n) then ((a : Int) - n - 2 - 1) / (-2) else 0)).toNat = (n - a + 1) / 2 := by
    rw [if_pos (by decide)]
    split <;> omega
  simp only [e]
  refine List.map_congr_left fun k hk => ?_
  omega
theorem pickV_two (xs : List V) : pickV xs none none (some 2) = evens xs := by
  unfold pickV
  have eb : sliceBounds none none (some 2) xs.length = (((0 : Nat) : Int), (xs.length : Int), 2) := rfl
  rw [eb]
  simp only
  rw [sr_two 0 xs.length (Nat.zero_le _), List.filterMap_map, ← filt_evens xs, Nat.sub_zero]
  refine filt_congr fun k _ => ?_
  show xs[0 + 2 * k]? = _
  rw [Nat.zero_add]
theorem pickV_two1 (xs : List V) : pickV xs (some 1) none (some 2) = evens xs.tail := by
  unfold pickV
  cases xs with
  | nil => rfl
  | cons x r =>
    have eb : sliceBounds (some 1) none (some 2) (x :: r).length = (((1 : Nat) : Int), ((r.length + 1 : Nat) : Int), 2) := by
      unfold sliceBounds
      simp only [Option.getD_some, List.length_cons]
      have z1 : ¬ ((1 : Int) < 0) := by decide
      have z2 : ((2 : Int) > 0) := by decide
      simp only [z1, z2, if_true, if_false]
      have : max 0 (min (1 : Int) ((r.length + 1 : Nat) : Int)) = ((1 : Nat) : Int) := by omega
      rw [this]
    rw [eb]
    simp only
    rw [sr_two 1 (r.length + 1) (by omega), List.filterMap_map]
    show _ = evens r
    rw [← filt_evens r, Nat.add_sub_cancel]
    refine filt_congr fun k _ => ?_
    show (x :: r)[1 + 2 * k]? = _
    rw [Nat.add_comm 1, List.getElem?_cons_succ]
theorem r_sl3 {te : TE} {tl th : TO} {ts : TE} (h : te σ H fun x H1 => tl σ H1 fun l H2 => th σ H2 fun u H3 => ts σ H3 fun z H4 => Sl3K K x l u z H4 Q) : tSl3 K te tl th ts σ H Q := h
theorem r_rev {a : Addr} {ns : List Int} (hs : SqL K H a (ns.map V.int)) (h : ∀ p, H p = none → Q (.ref p) (upd H p (.lst (ns.reverse.map V.int)))) : Sl3K K (.ref a) none none (.int (-1)) H Q :=
  ⟨-1, a, _, rfl, by decide, rfl, hs, fun p hp => by rw [pickV_rev, ← List.map_reverse]; exact h p hp⟩
theorem r_ev {a : Addr} {ns : List Int} (hs : SqL K H a (ns.map V.int)) (h : ∀ p, H p = none → Q (.ref p) (upd H p (.lst ((evens ns).map V.int)))) : Sl3K K (.ref a) none none (.int 2) H Q :=
  ⟨2, a, _, rfl, by decide, rfl, hs, fun p hp => by rw [pickV_two, evens_map]; exact h p hp⟩
theorem r_od {a : Addr} {ns : List Int} (hs : SqL K H a (ns.map V.int)) (h : ∀ p, H p = none → Q (.ref p) (upd H p (.lst ((evens ns.tail).map V.int)))) : Sl3K K (.ref a) (some 1) none (.int 2) H Q :=
  ⟨2, a, _, rfl, by decide, rfl, hs, fun p hp => by
    have e : evens (ns.map V.int).tail = (evens ns.tail).map V.int := by rw [← List.map_tail, evens_map]
    rw [pickV_two1, e]; exact h p hp⟩
def AtM (K : PySem.W.Frag) (x : V) (H1 : Hp) (R : Prop) : Prop := tyV K "list" x H1 ∧ R
theorem r_tBM {r : V → List V → Hp → VK → Prop} {to : TE} {t : TA} (h : to σ H fun x H1 => AtM K x H1 (t σ H1 fun xs H2 => r x xs H2 Q)) : tBM K "list" r to t σ H Q := h
theorem r_tBM0 {r : V → List V → Hp → VK → Prop} {to : TE} (h : to σ H fun x H1 => AtM K x H1 (r x [] H1 Q)) : tBM0 K "list" r to σ H Q := h
theorem r_AtM {p : Addr} {xs : List V} {R : Prop} (hs : SqL K H p xs) (h : R) : AtM K (.ref p) H R := ⟨.inl ⟨rfl, xs, hs⟩, h⟩
end
end L2
namespace L2
open PySem PySem.Spec PyProof.Rows
theorem ov_ints {K : PySem.W.Frag} {a : Addr} {ns : List Int} : Ov (Itl K a) ns (fun H => SqL K H a (ns.map V.int)) (fun z x H H' => x = .int z ∧ H' = H) where
  go := fun i H h hi => (ov_list (K := K) (a := a) (xs := ns.map V.int)).go i H h (by rw [List.length_map]; exact hi)
  stop := fun i H h hi => (ov_list (K := K) (a := a) (xs := ns.map V.int)).stop i H h (by rw [List.length_map]; exact hi)
  yld := fun i H x H' y h hy q => (ov_list (K := K) (a := a) (xs := ns.map V.int)).yld i H x H' (.int y) h (by rw [List.getElem?_map, hy]; rfl) q
theorem for_by {α : Type} {J : It} {l : List α} {kp : Hp → Prop} {rep : α → V → Hp → Hp → Prop} (O : Ov J l kp rep) {g : TG} {tb : TS} {D : Ends} {σ : St} {H : Hp} (Pv : Nat → St → Hp → Prop) (h0 : Pv 0 σ H) (hk : ∀ i σ H, i ≤ l.length → Pv i σ H → kp H)
    (hs : ∀ i y x σ H H', l[i]? = some y → Pv i σ H → rep y x H H' → g x σ H' fun σ2 H2 => tb { D with nx := Pv (i + 1), ct := Pv (i + 1), bk := D.nx } σ2 H2) (hd : ∀ σ H, Pv l.length σ H → D.nx σ H) : ForBody J g tb D σ H := for_ov O Pv h0 hk hs hd
end L2
namespace L2
theorem iteNT {A B : Prop} (h : B) : if (!true) = true then A else B := by rw [if_neg (by decide)]; exact h
theorem iteNF {A B : Prop} (h : A) : if (!false) = true then A else B := iteT h
theorem iteD {P A B : Prop} [Decidable P] (h1 : P → A) (h2 : ¬ P → B) : if decide P = true then A else B := by
  by_cases h : P
  · rw [if_pos (decide_eq_true h)]; exact h1 h
  · rw [if_neg (by simp [h])]; exact h2 h
end L2
namespace L2
open PySem PySem.Spec PyProof.Rows
structure Blt (mg : Str → Option Value) : Prop where
  no_len : mg "len" = none
  no_zip : mg "zip" = none
  no_enumerate : mg "enumerate" = none
  no_range : mg "range" = none
  no_list : mg "list" = none
  no_int : mg "int" = none
  no_bool : mg "bool" = none
  no_tuple : mg "tuple" = none
  no_set : mg "set" = none
  no_all : mg "all" = none
  no_any : mg "any" = none
  no_sum : mg "sum" = none
  no_min : mg "min" = none
  no_max : mg "max" = none
  no_sorted : mg "sorted" = none
  no_isinstance : mg "isinstance" = none
  no_dict : mg "dict" = none
structure Cal (K : PySem.W.Frag) (mg : Str → Option Value) (x : Str) (f : Addr) (fd : FuncData) (ps : List Str) : Prop where
  mg : mg x = some (.ref f)
  kp : PySem.W.keepIn K (.ref f) = true
  b : Binds K fd ps []
structure Mak (K : PySem.W.Frag) (mg : Str → Option Value) (x : Str) (C f : Addr) (fd : FuncData) (ps : List Str) : Prop where
  mg : mg x = some (.ref C)
  mkk : Mk K C f
  cl : Cls K C
  b : Binds K fd ps []
structure Met (K : PySem.W.Frag) (C : Addr) (m : Str) (f : Addr) (fd : FuncData) (ps : List Str) : Prop where
  m : Meth K C m f
  b : Binds K fd ps []
end L2
namespace L2
open PySem PySem.Spec PyProof.Rows
theorem kit_ii {K : PySem.W.Frag} : PySem.W.kitOne K (.type "int") (.type "int") = some true := rfl
theorem kit_ib {K : PySem.W.Frag} : PySem.W.kitOne K (.type "int") (.type "bool") = some false := rfl
theorem kit_ll {K : PySem.W.Frag} : PySem.W.kitOne K (.type "list") (.type "list") = some true := rfl
theorem r_isi {K : PySem.W.Frag} {H : Hp} {Q : VK} {x c : V} {cv t : Value} {b : Bool} (hc : clsOf c = some cv) (ty : TyOf K H x t) (e : PySem.W.kitOne K t cv = some b) (h : Q (.bl b) H) :
    rIsi K [x, c] H Q := ⟨x, c, cv, t, b, rfl, hc, ty, e, h⟩
theorem r_isi_ii {K : PySem.W.Frag} {H : Hp} {Q : VK} {z : Int} (h : Q (.bl true) H) : rIsi K [.int z, .ty "int"] H Q := r_isi rfl (.int z) kit_ii h
theorem r_isi_ib {K : PySem.W.Frag} {H : Hp} {Q : VK} {z : Int} (h : Q (.bl false) H) : rIsi K [.int z, .ty "bool"] H Q := r_isi rfl (.int z) kit_ib h
theorem r_isi_ll {K : PySem.W.Frag} {H : Hp} {Q : VK} {a : Addr} {vs : List V} (ha : H a = some (.lst vs)) (h : Q (.bl true) H) : rIsi K [.ref a, .ty "list"] H Q := r_isi rfl (.lst ha) kit_ll h
end L2
namespace L2
open PySem PySem.Spec PyProof.Rows
theorem comp_map {α : Type} {J : It} {l : List α} {kp : Hp → Prop} {rep : α → V → Hp → Hp → Prop} (O : Ov J l kp rep) {g : TG} {ti : TT} {te : TE} {k : Nat} {caps : List Nat} {σ : St} {H1 : Hp} {Q : VK}
    (f : α → V) (hk : ∀ H, Same H1 H → kp H) (hl : l.length ≤ 1000000)
    (turn : ∀ (i : Nat) y x H3 H4 (R : V → Hp → Prop) (R' : Hp → Prop), l[i]? = some y → Same H1 H3 → rep y x H3 H4 → (∀ H7, Same H3 H7 → R (f y) H7) →
      g x (inner k caps σ) H4 fun σ4 H5 => (σ4.length = (inner k caps σ).length ∧ σ4.drop k = (inner k caps σ).drop k) ∧ ti σ4 H5 fun b H6 => if b = true then te σ4 H6 R else R' H6)
    (fin : ∀ D H', H1 D = none → Same H1 H' → H' D = some (.lst (l.map f)) → Q (.ref D) H') : CompBody J g ti te k caps σ Q H1 :=
  comp_pure O (fun _ => true) f hk (Nat.le_trans hl (by decide)) (fun i y x H3 H4 R R' e s r h1 _ => turn i y x H3 H4 R R' e s r (h1 rfl))
    fun D H' hD s d => fin D H' hD s (by rw [d, List.filter_eq_self.mpr (fun _ _ => rfl)])
theorem all_true {α : Type} (l : List α) : (l.map fun _ => true).all id = true := by simp
end L2
set_option maxHeartbeats 4000000
namespace Lf

def standsFrom (row : List Int) : Int → List Int → List Int → Bool
  | last, p :: ps, x :: xs => decide (last < p) && decide (p < (row.length : Int)) && decide (row.getD p.toNat 0 = x) && standsFrom row p ps xs
  | _, _, _ => true
def stands (row places other : List Int) : Bool := decide (places.length = other.length) && standsFrom row (-1) places other

def strike : List Int → List Int → List Int
  | [], rest => rest
  | y :: ys, rest => strike ys (match rest with | [] => [] | x :: r => if x = y then r else x :: r)
def isLeft (row other : List Int) : Bool := (strike row.reverse other.reverse).isEmpty

theorem strike_nil : ∀ ys : List Int, strike ys [] = []
  | [] => rfl
  | _ :: ys => by rw [strike]; exact strike_nil ys
theorem strike_sub : ∀ (ys rest : List Int), strike ys rest = [] ↔ rest.Sublist ys
  | [], rest => by
    rw [strike]
    constructor
    · intro h; rw [h]; exact List.nil_sublist _
    · intro h; exact List.sublist_nil.mp h
  | y :: ys, [] => by
    rw [strike]
    simp [strike_nil]
  | y :: ys, x :: r => by
    rw [strike]
    by_cases h : x = y
    · subst h
      simp only [if_true]
      rw [strike_sub ys r]
      exact List.cons_sublist_cons.symm
    · simp only [h, if_false]
      rw [strike_sub ys (x :: r)]
      constructor
      · intro q; exact q.cons y
      · intro q
        cases q with
        | cons _ q => exact q
        | cons_cons _ q => exact absurd rfl h
theorem isLeft_iff (row other : List Int) : isLeft row other = true ↔ other.Sublist row := by
  unfold isLeft
  rw [List.isEmpty_iff, strike_sub, List.reverse_sublist]

def cut (row : List Int) (b e : Int) : List Int := (row.drop b.toNat).take (e.toNat - b.toNat)
end Lf
namespace Lf
def most (code : Int) : Int := if code % 4 = 0 then 2 else if code % 4 = 1 then 3 else if code % 4 = 2 then 5 else 10 ^ 30
end Lf
namespace Lf
def rising : Int → Int → List Int → Bool
  | _, _, [] => true
  | ahead, count, p :: ps => decide (ahead < p) && decide (p < count) && rising p count ps
def fits (row : List Int) (ps xs : List Int) : Bool := (ps.zip xs).all fun y => decide (row.getD y.1.toNat 0 = y.2)
theorem standsFrom_eq (row : List Int) : ∀ (ps xs : List Int) (last : Int), ps.length = xs.length → standsFrom row last ps xs = (rising last row.length ps && fits row ps xs)
  | [], [], _, _ => rfl
  | [], _ :: _, _, h => by simp at h
  | _ :: _, [], _, h => by simp at h
  | p :: ps, x :: xs, last, h => by
    rw [standsFrom, rising, standsFrom_eq row ps xs p (by simpa using h)]
    unfold fits
    rw [List.zip_cons_cons, List.all_cons]
    cases decide (last < p) <;> cases decide (p < (row.length : Int)) <;> cases rising p row.length ps <;> simp
theorem stands_eq (row ps xs : List Int) (h : ps.length = xs.length) : stands row ps xs = (rising (-1) row.length ps && fits row ps xs) := by
  unfold stands
  rw [standsFrom_eq row ps xs _ h]
  simp [h]
theorem rising_in : ∀ (ps : List Int) (ahead count : Int), rising ahead count ps = true → ∀ p ∈ ps, ahead < p ∧ p < count
  | [], _, _, _ => fun p hp => by simp at hp
  | q :: ps, ahead, count, h => fun p hp => by
    rw [rising] at h
    simp only [Bool.and_eq_true, decide_eq_true_eq] at h
    rcases List.mem_cons.mp hp with e | hp
    · subst e; exact ⟨h.1.1, h.1.2⟩
    · have := rising_in ps q count h.2 p hp
      omega
end Lf
namespace Lf
theorem cut_none {row : List Int} {b e : Int} (h : e ≤ b) : cut row b e = [] := by
  unfold cut
  have : e.toNat - b.toNat = 0 := by omega
  rw [this]; rfl
end Lf
set_option maxRecDepth 100000
set_option maxHeartbeats 4000000
namespace L2
open PySem PySem.Spec PyProof.Rows
section
variable {σ : St} {H H' : Hp} {Q : VK} {D : Ends} {K : PySem.W.Frag} {X : Cx}
theorem same_upd {H2 : Hp} {r : Addr} {o : HO} (s : Same H H2) (hr : H r = none) : Same H (upd H2 r o) := fun b u h => upd_keepNe (s b u h) (ne_of_none h hr)
theorem free_upd {r q : Addr} {o : HO} (h : upd H r o q = none) : H q = none := by
  by_cases e : q = r
  · subst e; rw [upd_same] at h; cases h
  · rw [upd_ne e] at h; exact h
theorem ne_upd {r q : Addr} {o : HO} (h : upd H r o q = none) : q ≠ r := fun e => by subst e; rw [upd_same] at h; cases h
theorem same_trans {H1 H2 : Hp} (b : Same H1 H2) (a : Same H H1) : Same H H2 := a.trans b
def rLOf (K : PySem.W.Frag) (xs : List V) (H : Hp) (Q : VK) : Prop := ∃ p ys, xs = [.ref p] ∧ (SqL K H p ys ∨ SqT K H p ys) ∧ ∀ l, H l = none → Q (.ref l) (upd H l (.lst ys))
theorem call_listOf : CallR X (.type "list") (rLOf X.K) := call_list_of
theorem r_lofI {p : Addr} {ns : List Int} (hs : SqL K H p (ns.map V.int)) (h : ∀ l, H l = none → Q (.ref l) (upd H l (.lst (ns.map V.int)))) : rLOf K [.ref p] H Q := ⟨p, _, rfl, .inl hs, h⟩
theorem r_new0 (h : ∀ p, H p = none → Q (.ref p) (upd H p (.lst (([] : List Int).map V.int)))) : NewL Q [] H := r_newL (by decide) h
theorem r_new1 {a : Int} (h : ∀ p, H p = none → Q (.ref p) (upd H p (.lst (([a] : List Int).map V.int)))) : NewL Q [.int a] H := r_newL (by simp) h
theorem r_new2 {a b : Int} (h : ∀ p, H p = none → Q (.ref p) (upd H p (.lst (([a, b] : List Int).map V.int)))) : NewL Q [.int a, .int b] H := r_newL (by simp) h
theorem sIx_pos (n d : Nat) {k : Int} (h : 0 ≤ k) : HT.sIx n d (some k) = min k.toNat n := by
  obtain ⟨j, rfl⟩ : ∃ j : Nat, k = j := ⟨k.toNat, by omega⟩
  rw [HT.sIx_nat, Int.toNat_natCast]
theorem cutI_to (xs : List Int) {k : Int} (h : 0 ≤ k) : cutI xs none (some k) = xs.take k.toNat := by
  unfold cutI
  rw [sIx_pos _ _ h, HT.sIx_none, List.drop_zero, Nat.sub_zero, List.take_eq_take_iff]
  omega
theorem cutI_from (xs : List Int) {k : Int} (h : 0 ≤ k) : cutI xs (some k) none = xs.drop k.toNat := by
  unfold cutI
  rw [sIx_pos _ _ h, HT.sIx_none]
  rw [List.take_of_length_le (by rw [List.length_drop]; omega)]
  by_cases hk : k.toNat ≤ xs.length
  · rw [Nat.min_eq_left hk]
  · rw [Nat.min_eq_right (by omega), List.drop_of_length_le (Nat.le_refl _), List.drop_of_length_le (by omega)]
theorem cutI_mid (xs : List Int) {b e : Int} (hb : 0 ≤ b) (he : 0 ≤ e) : cutI xs (some b) (some e) = Lf.cut xs b e := by
  unfold cutI Lf.cut
  rw [sIx_pos _ _ hb, sIx_pos _ _ he]
  by_cases hk : b.toNat ≤ xs.length
  · rw [Nat.min_eq_left hk, List.take_eq_take_iff, List.length_drop]
    omega
  · rw [List.drop_of_length_le (by omega), List.drop_of_length_le (by omega), List.take_nil, List.take_nil]
theorem r_slTo {a : Addr} {ns : List Int} {k : Int} (hs : SqL K H a (ns.map V.int)) (hk : 0 ≤ k) (h : ∀ p, H p = none → Q (.ref p) (upd H p (.lst ((ns.take k.toNat).map V.int)))) : rSlL K (.ref a) none (some k) H Q := r_slI hs (by rw [cutI_to _ hk]; exact h)
theorem r_slFrom {a : Addr} {ns : List Int} {k : Int} (hs : SqL K H a (ns.map V.int)) (hk : 0 ≤ k) (h : ∀ p, H p = none → Q (.ref p) (upd H p (.lst ((ns.drop k.toNat).map V.int)))) : rSlL K (.ref a) (some k) none H Q := r_slI hs (by rw [cutI_from _ hk]; exact h)
theorem r_slMid {a : Addr} {ns : List Int} {b e : Int} (hs : SqL K H a (ns.map V.int)) (hb : 0 ≤ b) (he : 0 ≤ e) (h : ∀ p, H p = none → Q (.ref p) (upd H p (.lst ((Lf.cut ns b e).map V.int)))) : rSlL K (.ref a) (some b) (some e) H Q := r_slI hs (by rw [cutI_mid _ hb he]; exact h)
end
end L2
namespace L2
open PySem PySem.Spec PyProof.Rows
theorem mul2Ok {x : Int} : IntMulOk 2 x := IntMulOk.of_left (by decide)
end L2
namespace L2
open PySem PySem.Spec PyProof.Rows
section
variable {σ : St} {H H' : Hp} {Q : VK} {D : Ends} {K : PySem.W.Frag} {X : Cx}
def AtD2 (ty tx : TE) (σ : St) (Q : VK) (x : V) (H1 : Hp) : Prop := ∃ a, x = .ref a ∧ IsD H1 a ∧ ty σ H1 fun y H2 => tx σ H2 fun z H3 => ∃ o, DGet H3 a y o ∧ Q (o.getD z) H3
theorem r_dget2 {td ty tx : TE} (h : td σ H fun x H1 => AtD2 ty tx σ Q x H1) : tDGet2 td ty tx σ H Q := h
def DG2 (a : Addr) (Q : VK) (y z : V) (H3 : Hp) : Prop := ∃ o, DGet H3 a y o ∧ Q (o.getD z) H3
theorem r_AtD2 {ty tx : TE} {a : Addr} {kvs : List (Key × V)} (ha : H a = some (.dK kvs)) (h : ty σ H fun y H2 => tx σ H2 fun z H3 => DG2 a Q y z H3) : AtD2 ty tx σ Q (.ref a) H := ⟨a, rfl, .inl ⟨kvs, .inl ha⟩, h⟩
theorem r_DG2 {a : Addr} {i : Int} {z : V} {kvs : List (Key × V)} (ha : H a = some (.dK kvs)) (h : Q ((valV kvs (.inl i)).getD z) H) : DG2 a Q (.int i) z H := ⟨_, DGet.k (k := .inl i) ha, h⟩
def DP (R : Hp → Prop) (x y v : V) (H3 : Hp) : Prop := ∃ a H4, x = .ref a ∧ DPut H3 a y v H4 ∧ R H4
theorem r_dput {td ty tv : TE} (h : tv σ H fun v H1 => td σ H1 fun x H2 => ty σ H2 fun y H3 => DP (fun H4 => D.nx σ H4) x y v H3) : sDPut td ty tv D σ H := h
theorem r_dnewK (h : ∀ p, H p = none → Q (.ref p) (upd H p (.dK []))) : tDNewK σ H Q := h
def Par2 (i j : Nat) (σ : St) (D : Ends) (vs : List V) (H1 : Hp) : Prop := ∃ v w, vs = [v, w] ∧ D.nx ((σ.set i (some v)).set j (some w)) H1
theorem r_par {i j : Nat} {ta : TA} (h : ta σ H fun vs H1 => Par2 i j σ D vs H1) : tPar i j ta D σ H := h
theorem r_Par2 {i j : Nat} {x y : V} (h : D.nx ((σ.set i (some x)).set j (some y)) H) : Par2 i j σ D [x, y] H := ⟨x, y, rfl, h⟩
end
end L2
set_option maxHeartbeats 4000000
namespace Lf

def ways : List Int → List Int → Int
  | _, [] => 1
  | [], _ :: _ => 0
  | x :: row, y :: other => ways row (y :: other) + (if x = y then ways row other else 0)
def after (x : Int) : List Int → Option (List Int)
  | [] => none
  | y :: ys => if y = x then some ys else after x ys
theorem after_len (x : Int) : ∀ (s t : List Int), after x s = some t → t.length < s.length
  | [], _, h => by cases h
  | y :: ys, t, h => by
    unfold after at h
    split at h
    · cases h; simp
    · have := after_len x ys t h
      simp; omega
def kin : List Int → Int
  | [] => 1
  | x :: s => 2 * kin s - (match h : after x s with | some t => kin t | none => 0)
termination_by s => s.length
decreasing_by
  · simp
  · have := after_len x s t h
    simp; omega
theorem len_le_of_sub {α : Type} [DecidableEq α] : ∀ (l m : List α), l.Nodup → (∀ a ∈ l, a ∈ m) → l.length ≤ m.length
  | [], m, _, _ => by simp
  | a :: l, m, hn, hs => by
    have hn' := List.nodup_cons.mp hn
    have ham := hs a List.mem_cons_self
    have := len_le_of_sub l (m.erase a) hn'.2 fun b hb => by
      have hne : b ≠ a := fun e => hn'.1 (e ▸ hb)
      exact (List.mem_erase_of_ne hne).mpr (hs b (List.mem_cons_of_mem _ hb))
    rw [List.length_erase_of_mem ham] at this
    have : 0 < m.length := List.length_pos_of_mem ham
    simp; omega
end Lf
namespace Lf
def lmin : List Int → Int
  | [] => 0
  | [x] => x
  | x :: y :: r => if x ≤ lmin (y :: r) then x else lmin (y :: r)
theorem lmin_le : ∀ (l : List Int), ∀ a ∈ l, lmin l ≤ a
  | [], a, h => by simp at h
  | [x], a, h => by simp at h; subst h; exact Int.le_refl _
  | x :: y :: r, a, h => by
    have ih := lmin_le (y :: r)
    rw [lmin]
    rcases List.mem_cons.mp h with e | h
    · subst e; split <;> omega
    · have := ih a h
      split <;> omega
theorem lmin_mem : ∀ (l : List Int), l ≠ [] → lmin l ∈ l
  | [], h => absurd rfl h
  | [x], _ => by simp [lmin]
  | x :: y :: r, _ => by
    have ih := lmin_mem (y :: r) (by simp)
    rw [lmin]
    split
    · simp
    · exact List.mem_cons_of_mem _ ih
theorem lmin_eq {l : List Int} {M : Int} (h1 : M ∈ l) (h2 : ∀ a ∈ l, M ≤ a) : M = lmin l := by
  have a := lmin_le l M h1
  have b := h2 _ (lmin_mem l (List.ne_nil_of_mem h1))
  omega
def least : Nat → List Int → List Int
  | 0, _ => []
  | m + 1, row => lmin (row.take (row.length - m)) :: least m (row.drop ((row.take (row.length - m)).idxOf (lmin (row.take (row.length - m))) + 1))
theorem least_all : ∀ (row : List Int), least row.length row = row
  | [] => rfl
  | x :: r => by
    have e : (x :: r).length - r.length = 1 := by simp
    rw [List.length_cons, least, e]
    have t : (x :: r).take 1 = [x] := rfl
    rw [t]
    have : lmin [x] = x := rfl
    rw [this]
    simp [least_all r]
end Lf
set_option maxRecDepth 100000
set_option maxHeartbeats 4000000
namespace L2
open PySem PySem.Spec PyProof.Rows
section
variable {σ : St} {H H' : Hp} {Q : VK} {D : Ends} {K : PySem.W.Frag} {X : Cx}
theorem upd_keepA {q p : Addr} {u o : HO} (hp : H p = none) (h : H q = some u) : upd H p o q = some u := upd_keep h hp
theorem upd_keepNeA {q p : Addr} {u o : HO} (hne : q ≠ p) (h : H q = some u) : upd H p o q = some u := upd_keepNe h hne
theorem sq_keepA {q p : Addr} {xs : List V} {o : HO} (hp : H p = none) (h : SqL K H q xs) : SqL K (upd H p o) q xs := sq_keep h hp
theorem sq_keepNeA {q p : Addr} {xs : List V} {o : HO} (hne : q ≠ p) (h : SqL K H q xs) : SqL K (upd H p o) q xs := sq_keepNe h hne
theorem mk_keep {x dx q : Addr} {o o' u : HO} (hx : H x = none) (hdx : H dx = none) (h : H q = some u) : upd (upd H dx o') x o q = some u := upd_keepNe (upd_keep h hdx) (ne_of_none h hx)
theorem mk_sq {x dx q : Addr} {o o' : HO} {xs : List V} (hx : H x = none) (hdx : H dx = none) (h : SqL K H q xs) : SqL K (upd (upd H dx o') x o) q xs := by
  rcases h with (h | ⟨u, h⟩) | h
  · exact .inl (.inl (mk_keep hx hdx h))
  · exact .inl (.inr ⟨u, mk_keep hx hdx h⟩)
  · exact .inr h
theorem free_of {l : Addr} (h : H' l = none) (e : Same H H') : H l = none := e.free h
abbrev dL (xss : List (List Int)) : PyData := .list (xss.map dI)
theorem r_new3 {a b c : Int} (h : ∀ p, H p = none → Q (.ref p) (upd H p (.lst (([a, b, c] : List Int).map V.int)))) : NewL Q [.int a, .int b, .int c] H := r_newL (by simp) h
theorem r_new4 {a b c d : Int} (h : ∀ p, H p = none → Q (.ref p) (upd H p (.lst (([a, b, c, d] : List Int).map V.int)))) : NewL Q [.int a, .int b, .int c, .int d] H := r_newL (by simp) h
theorem r_new5 {a b c d e : Int} (h : ∀ p, H p = none → Q (.ref p) (upd H p (.lst (([a, b, c, d, e] : List Int).map V.int)))) : NewL Q [.int a, .int b, .int c, .int d, .int e] H := r_newL (by simp) h
def rSum (K : PySem.W.Frag) (xs : List V) (H : Hp) (Q : VK) : Prop := ∃ (p : Addr) (ns : List Int), xs = [.ref p] ∧ SqL K H p (ns.map V.int) ∧ Q (.int ns.sum) H
theorem r_ixLit {p : Addr} {xs : List V} {i : Int} {v : V} (hs : SqL K H p xs) (e : atI xs i = some v) (h : Q v H) : rIxG K (.ref p) (.int i) H Q := r_ixL hs e h
theorem r_sum {p : Addr} {ns : List Int} (hs : SqL K H p (ns.map V.int)) (h : Q (.int ns.sum) H) : rSum K [.ref p] H Q := ⟨p, ns, rfl, hs, h⟩
structure Ins (K : PySem.W.Frag) (C : Addr) : Prop where
  cl : Cls K C
  ha : PySem.W.findIn K (.ref C) "__class__" = some (some (.builtin "object.__class__"))
  hn : PySem.W.specialIn K (.builtin "object.__class__") "__get__" = some (some (.builtin "getset_descriptor.__get__"))
  htk : PySem.W.takesIn K (.builtin "object.__class__") = some true
  hm : PySem.W.mroIn K C (.type "object") = some true
theorem r_isi_cls {x C D' dx : Addr} {fs : List (Str × V)} {b : Bool} (ha : H x = some (.ins C dx fs)) (i : Ins K C) (hk : PySem.W.kitOne K (.ref C) (.ref D') = some b) (h : Q (.bl b) H) : rIsi K [.ref x, .ref D'] H Q := r_isi rfl (.ins ha i.cl i.ha i.hn i.htk i.hm) hk h
def AtF (K : PySem.W.Frag) (f : Str) (Q : VK) (x : V) (H1 : Hp) : Prop := ∃ a C dx fs v, x = .ref a ∧ H1 a = some (.ins C dx fs) ∧ Cls K C ∧ NoAttr K C f ∧ fs.lookup f = some v ∧ Q v H1
theorem r_fld {ta : TE} {f : Str} (h : ta σ H fun x H1 => AtF K f Q x H1) : tFld K ta f σ H Q := h
theorem r_AtF {a C dx : Addr} {fs : List (Str × V)} {f : Str} {v : V} (ha : H a = some (.ins C dx fs)) (i : Ins K C) (n : NoAttr K C f) (l : fs.lookup f = some v) (h : Q v H) : AtF K f Q (.ref a) H := ⟨a, C, dx, fs, v, rfl, ha, i.cl, n, l, h⟩
def SetF (K : PySem.W.Frag) (f : Str) (R : Hp → Prop) (y x : V) (H2 : Hp) : Prop := ∃ a C dx fs, x = .ref a ∧ H2 a = some (.ins C dx fs) ∧ Cls K C ∧ NoAttr K C f ∧ fs.length < 1000 ∧ R (upd H2 a (.ins C dx (putF f y fs)))
theorem r_sfld {ta tv : TE} {f : Str} (h : tv σ H fun y H1 => ta σ H1 fun x H2 => SetF K f (fun H3 => D.nx σ H3) y x H2) : sFld K ta tv f D σ H := h
theorem r_SetF {a C dx : Addr} {fs : List (Str × V)} {f : Str} {y : V} {R : Hp → Prop} (ha : H a = some (.ins C dx fs)) (i : Ins K C) (n : NoAttr K C f) (l : fs.length < 1000) (h : R (upd H a (.ins C dx (putF f y fs)))) : SetF K f R y (.ref a) H := ⟨a, C, dx, fs, rfl, ha, i.cl, n, l, h⟩
def AtMe (C : Addr) (m : Str) (x : V) (H1 : Hp) (R : Prop) : Prop := ∃ a dx fs, x = .ref a ∧ H1 a = some (.ins C dx fs) ∧ fs.lookup m = none ∧ R
theorem r_meth {C : Addr} {m : Str} {sp : Sp} {dvs : List V} {E : XK} {ta : TE} {t : TA} (h : ta σ H fun x H1 => AtMe C m x H1 (t σ H1 fun vs H2 => sp (x :: (vs ++ dvs)) H2 Q E)) : tMeth C m sp dvs E ta t σ H Q := h
theorem r_AtMe {C a dx : Addr} {m : Str} {fs : List (Str × V)} {R : Prop} (ha : H a = some (.ins C dx fs)) (l : fs.lookup m = none) (h : R) : AtMe C m (.ref a) H R := ⟨a, dx, fs, rfl, ha, l, h⟩
theorem r_make {C : Addr} {sp : Sp} {dvs : List V} {E : XK} {t : TA} (h : t σ H fun vs H1 => ∀ x dx, H1 x = none → H1 dx = none → dx ≠ x →
    sp (.ref x :: (vs ++ dvs)) (upd (upd H1 dx (.own x)) x (.ins C dx [])) (fun v H2 => v = .non ∧ Q (.ref x) H2) E) : tMake C sp dvs E t σ H Q := h
def tEi (t u : TE) : TE := fun σ H Q => t σ H Q ∨ u σ H Q
theorem r_eiL {t u : TE} (h : t σ H Q) : tEi t u σ H Q := .inl h
theorem r_eiR {t u : TE} (h : u σ H Q) : tEi t u σ H Q := .inr h
theorem r_catL {l b : Addr} {xs ys : List V} (h1 : H l = some (.lst xs)) (h2 : H b = some (.lst ys)) (hz : xs.length + ys.length ≤ 1000000) (h : ∀ p, H p = none → Q (.ref p) (upd H p (.lst (xs ++ ys)))) : rAddG (.ref l) (.ref b) H Q := .inr ⟨l, b, _, _, rfl, rfl, h1, h2, Nat.le_trans hz (by decide), h⟩
def rAny (K : PySem.W.Frag) (xs : List V) (H : Hp) (Q : VK) : Prop := ∃ (p : Addr) (bs : List Bool), xs = [.ref p] ∧ SqL K H p (bs.map V.bl) ∧ Q (.bl (bs.any id)) H
def rAll (K : PySem.W.Frag) (xs : List V) (H : Hp) (Q : VK) : Prop := ∃ (p : Addr) (bs : List Bool), xs = [.ref p] ∧ SqL K H p (bs.map V.bl) ∧ Q (.bl (bs.all id)) H
theorem call_allB (hc : X.calm = true) : CallR X (.builtin "all") (rAll X.K) := call_all hc
theorem r_any3F {p : Addr} (hs : SqL K H p [.bl false, .bl false, .bl false]) (h : Q (.bl false) H) : rAny K [.ref p] H Q := ⟨p, [false, false, false], rfl, hs, h⟩
theorem r_any2F {p : Addr} (hs : SqL K H p [.bl false, .bl false]) (h : Q (.bl false) H) : rAny K [.ref p] H Q := ⟨p, [false, false], rfl, hs, h⟩
theorem r_allT {α : Type} {p : Addr} {l : List α} {g : α → V} (hs : SqL K H p (l.map g)) (hg : ∀ x ∈ l, g x = .bl true) (h : Q (.bl true) H) : rAll K [.ref p] H Q := by
  refine ⟨p, l.map (fun _ => true), rfl, ?_, ?_⟩
  · have e : l.map g = (l.map (fun _ => true)).map V.bl := by
      rw [List.map_map]
      exact List.map_congr_left hg
    rw [← e]; exact hs
  · rw [all_true]; exact h
theorem iteTeF {A B : Prop} (h : B) : if (true == false) = true then A else B := h
theorem iteFeT {A B : Prop} (h : B) : if (false == true) = true then A else B := h
theorem iteTeT {A B : Prop} (h : A) : if (true == true) = true then A else B := h
theorem iteFeF {A B : Prop} (h : A) : if (false == false) = true then A else B := h
theorem iteTnT {A B : Prop} (h : B) : if (true != true) = true then A else B := h
theorem iteFnF {A B : Prop} (h : B) : if (false != false) = true then A else B := h
theorem iteTnF {A B : Prop} (h : A) : if (true != false) = true then A else B := h
theorem iteFnT {A B : Prop} (h : A) : if (false != true) = true then A else B := h
theorem iteNBB {b : Bool} {A B : Prop} (h : B) : if (!(b == b)) = true then A else B := by cases b <;> exact h
theorem iteNDD {α : Type} [DecidableEq α] {x : α} {A B : Prop} (h : B) : if (!decide (x = x)) = true then A else B := by rw [decide_eq_true rfl]; exact h
theorem iteDD {α : Type} [DecidableEq α] {x : α} {A B : Prop} (h : A) : if decide (x = x) = true then A else B := by rw [decide_eq_true rfl, if_pos rfl]; exact h
end
end L2
set_option maxHeartbeats 4000000
namespace Lf
def tg (tb : List (List Int)) (i j : Nat) : Int := (tb.getD i []).getD j 0
structure TabAt (one other : List Int) (tb : List (List Int)) (i j : Nat) : Prop where
  up : 0 < i → tg tb (i - 1) j ≤ tg tb i j
  lf : 0 < j → tg tb i (j - 1) ≤ tg tb i j
  dg : 0 < i → 0 < j → one.getD (i - 1) 0 = other.getD (j - 1) 0 → tg tb (i - 1) (j - 1) < tg tb i j
structure TabOk (one other : List Int) (tb : List (List Int)) : Prop where
  len : tb.length = one.length + 1
  first : 0 ≤ tg tb 0 0
  lens : ∀ i, i ≤ one.length → (tb.getD i []).length = other.length + 1
  all : ∀ i j, i ≤ one.length → j ≤ other.length → TabAt one other tb i j
end Lf
namespace Lf
def picks (row ps : List Int) : List Int := ps.map fun p => row.getD p.toNat 0
end Lf
set_option maxHeartbeats 4000000
namespace Lf
theorem take_snoc {l : List Int} {i : Nat} (h0 : 0 < i) (h : i ≤ l.length) : l.take i = l.take (i - 1) ++ [l.getD (i - 1) 0] := by
  have e : i = (i - 1) + 1 := by omega
  conv => lhs; rw [e]
  rw [List.take_add_one]
  congr 1
  rw [List.getD_eq_getElem?_getD]
  have : i - 1 < l.length := by omega
  simp [this]
theorem tab_nonneg {one other : List Int} {tb : List (List Int)} (T : TabOk one other tb) : ∀ (n i j : Nat), i + j = n → i ≤ one.length → j ≤ other.length → 0 ≤ tg tb i j
  | 0, i, j, h, _, _ => by
    have : i = 0 := by omega
    have : j = 0 := by omega
    subst_vars
    exact T.first
  | n + 1, i, j, h, hi, hj => by
    by_cases h0 : 0 < i
    · have := (T.all i j hi hj).up h0
      have := tab_nonneg T n (i - 1) j (by omega) (by omega) hj
      omega
    · have := (T.all i j hi hj).lf (by omega)
      have := tab_nonneg T n i (j - 1) (by omega) hi (by omega)
      omega
theorem set_getD {α : Type} {l : List α} {i : Nat} {x d : α} (h : i < l.length) : (l.set i x).getD i d = x := by
  rw [List.getD_eq_getElem?_getD]
  simp [h]
end Lf
set_option maxRecDepth 100000
set_option maxHeartbeats 4000000
namespace L2
open PySem PySem.Spec PyProof.Rows
structure Tab (H : Hp) (t : Addr) (ls : List Addr) (tb : List (List Int)) : Prop where
  at_ : H t = some (.lst (ls.map V.ref))
  len : ls.length = tb.length
  row : ∀ (i : Nat) (l : Addr), ls[i]? = some l → H l = some (.lst ((tb.getD i []).map V.int))
section
variable {σ : St} {H H' : Hp} {Q : VK} {D : Ends} {K : PySem.W.Frag} {X : Cx}
theorem Tab.same {t : Addr} {ls : List Addr} {tb : List (List Int)} (T : Tab H t ls tb) (s : Same H H') : Tab H' t ls tb := ⟨s.at T.at_, T.len, fun i l h => s.at (T.row i l h)⟩
theorem r_allM {α : Type} {p : Addr} {l : List α} {g : α → Bool} (hs : SqL K H p (l.map fun x => V.bl (g x))) (h : Q (.bl (l.all g)) H) : rAll K [.ref p] H Q := by
  refine ⟨p, l.map g, rfl, ?_, ?_⟩
  · rw [List.map_map]; exact hs
  · rw [List.all_map]; exact h
theorem getD_set_eq {α : Type} {l : List α} {i : Nat} {x d : α} (h : i < l.length) : (l.set i x).getD i d = x := by
  rw [List.getD_eq_getElem?_getD]
  simp [h]
theorem getD_set_ne {α : Type} {l : List α} {i k : Nat} {x d : α} (h : i ≠ k) : (l.set i x).getD k d = l.getD k d := by
  rw [List.getD_eq_getElem?_getD, List.getD_eq_getElem?_getD]
  simp [h]
theorem nodup_at {ls : List Addr} (nd : ls.Nodup) {i k : Nat} {l l' : Addr} (hi : ls[i]? = some l) (hk : ls[k]? = some l') (h : k ≠ i) : l' ≠ l := by
  intro e
  subst e
  exact h ((List.getElem?_inj (List.getElem?_eq_some_iff.mp hk).1 nd).mp (hk.trans hi.symm))
theorem Tab.set {t l : Addr} {ls : List Addr} {tb : List (List Int)} {i : Nat} {line : List Int} (T : Tab H t ls tb) (nd : ls.Nodup) (hl : ls[i]? = some l) (tl : t ≠ l) : Tab (upd H l (.lst (line.map V.int))) t ls (tb.set i line) := by
  have hi : i < tb.length := by rw [← T.len]; exact (List.getElem?_eq_some_iff.mp hl).1
  refine ⟨upd_keepNe T.at_ tl, by rw [List.length_set]; exact T.len, fun k l' hk => ?_⟩
  by_cases e : k = i
  · subst e
    rw [hl] at hk
    cases hk
    rw [upd_same, getD_set_eq hi]
  · rw [upd_ne (nodup_at nd hl hk e), getD_set_ne (fun z => e z.symm)]
    exact T.row k l' hk
theorem r_gsub {to ti : TE} {t : TSet} {v : V} {R : St → Hp → Prop} (h : to σ H fun o H1 => ti σ H1 fun i H2 => t o i v H2 fun H3 => R σ H3) : gSub to ti t v σ H R := h
theorem cutI_neg1 (xs : List Int) : cutI xs none (some (-1)) = xs.dropLast := by
  unfold cutI
  rw [HT.sIx_none, List.drop_zero, Nat.sub_zero]
  have : HT.sIx xs.length xs.length (some (-1)) = xs.length - 1 := by
    show (if (-1 : Int) < 0 then ((-1 : Int) + (xs.length : Int)).toNat else min (-1 : Int).toNat xs.length) = _
    rw [if_pos (by decide)]
    omega
  rw [this, List.dropLast_eq_take]
theorem r_slNeg1 {a : Addr} {ns : List Int} (hs : SqL K H a (ns.map V.int)) (h : ∀ p, H p = none → Q (.ref p) (upd H p (.lst (ns.dropLast.map V.int)))) : rSlL K (.ref a) none (some (-1)) H Q := r_slI hs (by rw [cutI_neg1]; exact h)
end
end L2
namespace L2
open PySem PySem.Spec PyProof.Rows
section
variable {X : Cx} {σ : St} {H : Hp} {Q : VK}
def LR (Q : VK) (i n : Int) (H1 : Hp) : Prop := i ≤ 2 ^ 20 ∧ n ≤ 2 ^ 20 ∧ -(2 ^ 20) ≤ n ∧ -(2 ^ 20) ≤ i ∧ ∀ l, H1 l = none → Q (.ref l) (upd H1 l (.lst (((List.range (n - i).toNat).map fun k : Nat => i + (k : Int)).map V.int)))
def tLR1 (ta : TA) : TE := fun σ H Q => ta σ H fun vs H1 => ∃ j : Int, vs = [.int j] ∧ LR Q 0 j H1
theorem vals_intsJ : ∀ (ns : List Int) (us : List Value), us.length = ns.length → (∀ j v, us[j]? = some v → ∃ t, v = Value.int (ns.getD j 0) t) → Vals (ns.map V.int) us
  | [], [], _, _ => .nil
  | [], _ :: _, h, _ => by simp at h
  | _ :: _, [], h, _ => by simp at h
  | n :: ns, u :: us, h, f => .cons (f 0 u rfl) (vals_intsJ ns us (by simpa using h) fun j v e => f (j + 1) v e)
theorem items_ints {n : Nat} {a : Int} {acc : Array Value} (h : ItemsOf (fun i v => ∃ t, v = Value.int (a + i * 1) t) acc n) : Vals (((List.range n).map fun k : Nat => a + (k : Int)).map V.int) acc.toList := by
  refine vals_intsJ _ _ (by simp [h.1]) fun j v e => ?_
  have e' : acc[j]? = some v := by simpa using e
  obtain ⟨t, rfl⟩ := h.2 j v e'
  have hj : j < n := by
    have := (Array.getElem?_eq_some_iff.mp e').1
    rw [h.1] at this; exact this
  refine ⟨t, ?_⟩
  congr 1
  rw [List.getD_eq_getElem?_getD, List.getElem?_map, List.getElem?_range hj]
  show a + (j : Int) * 1 = a + (j : Int)
  omega
theorem list_range {pins : List (Addr × Obj)} {s : Shared} {lo hi : Int} {t u v : Tok} {tk : Nat} (hc : X.calm = true) (I : Inv X pins σ H s) (q : LR Q lo hi H) :
    wpAny (model X.prog X.w) X.A (call (.type "list") [.ref s.heap.objs.size]) (EP X pins σ Q) X.xe { s with heap := s.heap.push { cls := .type "range", data := .fields #[.int lo t, .int hi u, .int 1 v] }, toks := tk } := by
  obtain ⟨h1, h2, h3, h4, q⟩ := q
  have I1 : Inv X pins σ H { s with heap := s.heap.push { cls := .type "range", data := .fields #[.int lo t, .int hi u, .int 1 v] }, toks := tk } := I.kept fun b o e => Heap.get?_push_of_some _ e
  refine call_list_range (n := (hi - lo).toNat) (I.ok.hd hc) (IsRange.new ..) (small_one (by omega) (by omega) (by omega) (by omega)) (by rw [rangeSize_one]; split <;> omega) (by omega) fun h' tk' acc c hk hS hI => ?_
  refine ⟨.ref _, _, ?_, rfl, q _ (I1.hok.fresh (Nat.le_refl _))⟩
  refine I1.laid (fun b u e => hk b u e) (Nat.le_refl _) ⟨?_, acc.toList, c, items_ints hI, by rw [Array.toArray_toList]; exact hS⟩
  rw [List.length_map, List.length_map, List.length_range]
  refine Nat.le_trans ?_ (by decide : 2 ^ 22 ≤ sizeLine)
  omega
theorem pe_listRange1 {a : Expr} {ta : TA} {p p' pos pos' : Pos} (hc : X.calm = true) (hg : Gl X "list") (hm : X.mg "list" = none) (hg' : Gl X "range") (hm' : X.mg "range" = none) (ha : PA X [a] ta) (hs : starEach [a] X.env = [(false, eval a X.env)] := by rfl)
    (hs2 : starEach [.Call (.Name "range" p') [a] [] pos'] X.env = [(false, eval (.Call (.Name "range" p') [a] [] pos') X.env)] := by rfl) : PE X (.Call (.Name "list" p) [.Call (.Name "range" p') [a] [] pos'] [] pos) (tLR1 ta) := by
  intro pins s σ H Q I h
  refine wpAny_Call_Name_kw (ld_blt I hg hm boot_list ?_)
  refine PyProof.Rows.callWith_type1 ?_ hs2 rfl
  rw [hs2]
  show wpAny _ _ (spliced ((false, eval (.Call (.Name "range" p') [a] [] pos') X.env) :: [])) _ _ s
  refine Calls.spliced_cons ?_
  refine Call_ (ld_blt I hg' hm' boot_range (PyProof.Rows.callWith_type1 (thn (ha pos' pins s σ H _ I h) fun us s1 ⟨vs, H1, I1, r1, q1⟩ => ?_) hs rfl))
  obtain ⟨j, e, q⟩ := q1
  subst e
  cases r1 with
  | cons r rr =>
    cases rr
    obtain ⟨t, rfl⟩ := r
    refine call_range_1 (Calls.spliced_nil ?_)
    exact list_range hc I1 q
def tLR2 (ta : TA) : TE := fun σ H Q => ta σ H fun vs H1 => ∃ i j : Int, vs = [.int i, .int j] ∧ LR Q i j H1
def LR1 (Q : VK) (vs : List V) (H1 : Hp) : Prop := ∃ j : Int, vs = [.int j] ∧ LR Q 0 j H1
def LR2 (Q : VK) (vs : List V) (H1 : Hp) : Prop := ∃ i j : Int, vs = [.int i, .int j] ∧ LR Q i j H1
theorem r_lr1 {ta : TA} (h : ta σ H fun vs H1 => LR1 Q vs H1) : tLR1 ta σ H Q := h
theorem r_lr2 {ta : TA} (h : ta σ H fun vs H1 => LR2 Q vs H1) : tLR2 ta σ H Q := h
theorem r_LR1 {n : Nat} (hn : n ≤ 100000) (h : ∀ l, H l = none → Q (.ref l) (upd H l (.lst (((List.range n).map fun k : Nat => (k : Int)).map V.int)))) : LR1 Q [.int (n : Int)] H := by
  refine ⟨n, rfl, by omega, by omega, by omega, by omega, fun l hl => ?_⟩
  have e : ((List.range ((n : Int) - 0).toNat).map fun k : Nat => (0 : Int) + (k : Int)) = (List.range n).map fun k : Nat => (k : Int) := by
    have : ((n : Int) - 0).toNat = n := by omega
    rw [this]
    exact List.map_congr_left fun k _ => by omega
  rw [e]
  exact h l hl
end
end L2
set_option maxHeartbeats 4000000
namespace Lf
def others (row ps : List Int) : List Int := (row.zipIdx.filter fun y => !decide ((y.2 : Int) ∈ ps)).map fun y => y.1
def mixed (row one other ps : List Int) : Bool := stands row ps one && decide (others row ps = other)
structure UnAt (row one other : List Int) (ps : List (Int × Int)) (i j : Int) : Prop where
  i0 : 0 ≤ i
  i1 : i ≤ (one.length : Int)
  j0 : 0 ≤ j
  j1 : j ≤ (other.length : Int)
  nx : i < (one.length : Int) → one.getD i.toNat 0 = row.getD (i + j).toNat 0 → (i + 1, j) ∈ ps
  ny : j < (other.length : Int) → other.getD j.toNat 0 = row.getD (i + j).toNat 0 → (i, j + 1) ∈ ps
structure UnOk (row one other : List Int) (ps : List (Int × Int)) : Prop where
  len : row.length = one.length + other.length
  first : ((0, 0) : Int × Int) ∈ ps
  last : ((one.length : Int), (other.length : Int)) ∉ ps
  all : ∀ p ∈ ps, UnAt row one other ps p.1 p.2
inductive Mix : List Int → List Int → List Int → Prop
  | nil : Mix [] [] []
  | left {x : Int} {r o t : List Int} : Mix r o t → Mix (x :: r) (x :: o) t
  | right {x : Int} {r o t : List Int} : Mix r o t → Mix (x :: r) o (x :: t)
theorem Mix.len {r o t : List Int} (h : Mix r o t) : r.length = o.length + t.length := by
  induction h with
  | nil => rfl
  | left _ ih => rw [List.length_cons, List.length_cons, ih]; omega
  | right _ ih => rw [List.length_cons, List.length_cons, ih]; omega
theorem Mix.ones : ∀ o : List Int, Mix o o []
  | [] => .nil
  | x :: o => .left (Mix.ones o)
theorem Mix.others : ∀ t : List Int, Mix t [] t
  | [] => .nil
  | x :: t => .right (Mix.others t)
theorem Mix.append {r o t r' o' t' : List Int} (h : Mix r o t) (h' : Mix r' o' t') : Mix (r ++ r') (o ++ o') (t ++ t') := by
  induction h with
  | nil => exact h'
  | left _ ih => exact .left ih
  | right _ ih => exact .right ih
theorem Mix.ahead (o t : List Int) : Mix (t ++ o) o t := by
  have := (Mix.others t).append (Mix.ones o)
  simpa using this
end Lf
set_option maxRecDepth 100000
set_option maxHeartbeats 4000000
namespace L2
open PySem PySem.Spec PyProof.Rows
abbrev dP (p : Int × Int) : PyData := .tuple [.int p.1, .int p.2]
structure Prs (H : Hp) (p : Addr) (ts : List Addr) (ps : List (Int × Int)) : Prop where
  at_ : H p = some (.lst (ts.map V.ref))
  len : ts.length = ps.length
  row : ∀ (i : Nat) (t : Addr), ts[i]? = some t → H t = some (.tup [.int (ps.getD i (0, 0)).1, .int (ps.getD i (0, 0)).2])
section
variable {σ : St} {H H' : Hp} {Q : VK} {D : Ends} {K : PySem.W.Frag} {X : Cx}
theorem Prs.same {p : Addr} {ts : List Addr} {ps : List (Int × Int)} (T : Prs H p ts ps) (s : Same H H') : Prs H' p ts ps := ⟨s.at T.at_, T.len, fun i l h => s.at (T.row i l h)⟩
theorem rdvs_pairs : ∀ (ts : List Addr) (ps : List (Int × Int)), ts.length = ps.length → (∀ (i : Nat) (t : Addr), ts[i]? = some t → H t = some (.tup [.int (ps.getD i (0, 0)).1, .int (ps.getD i (0, 0)).2])) → RdVs K H (ts.map V.ref) (ps.map dP)
  | [], [], _, _ => .nil
  | [], _ :: _, h, _ => by simp at h
  | _ :: _, [], h, _ => by simp at h
  | t :: ts, p :: ps, h, f => .cons (.tup (SqT.of (f 0 t rfl)) (.cons (.int _) (.cons (.int _) .nil))) (rdvs_pairs ts ps (by simpa using h) fun i u e => f (i + 1) u e)
theorem Prs.rd {p : Addr} {ts : List Addr} {ps : List (Int × Int)} (T : Prs H p ts ps) : RdV K H (.ref p) (.list (ps.map dP)) := .lst (SqL.of T.at_) (rdvs_pairs ts ps T.len T.row)
abbrev kP (i j : Int) : List Key := [.inl i, .inl j]
theorem r_dnewT (h : ∀ p, H p = none → Q (.ref p) (upd H p (.dT []))) : tDNewT σ H Q := h
def DIn (neg : Bool) (Q : VK) (y x : V) (H2 : Hp) : Prop := ∃ a o, x = .ref a ∧ DGet H2 a y o ∧ Q (.bl (if neg = true then !o.isSome else o.isSome)) H2
theorem r_din {ty td : TE} (h : ty σ H fun y H1 => td σ H1 fun x H2 => DIn false Q y x H2) : tDIn ty td σ H Q := h
theorem r_dnotin {ty td : TE} (h : ty σ H fun y H1 => td σ H1 fun x H2 => DIn true Q y x H2) : tDNotIn ty td σ H Q := h
theorem kit_tt {K : PySem.W.Frag} : PySem.W.kitOne K (.type "tuple") (.type "tuple") = some true := rfl
theorem r_isi_tt {a : Addr} {vs : List V} (ha : H a = some (.tup vs)) (h : Q (.bl true) H) : rIsi K [.ref a, .ty "tuple"] H Q := r_isi rfl (.tup ha) kit_tt h
theorem Prs.ne {p : Addr} {ts : List Addr} {ps : List (Int × Int)} (T : Prs H p ts ps) {i : Nat} {t : Addr} (h : ts[i]? = some t) : t ≠ p := fun e => by
  have := T.row i t h
  rw [e, T.at_] at this
  cases this
theorem Prs.snoc {p t : Addr} {ts : List Addr} {ps : List (Int × Int)} {i j : Int} (T : Prs H p ts ps) (ht : H t = some (.tup [.int i, .int j])) : Prs (upd H p (.lst (ts.map V.ref ++ [.ref t]))) p (ts ++ [t]) (ps ++ [(i, j)]) := by
  have tp : t ≠ p := fun e => by rw [e, T.at_] at ht; cases ht
  refine ⟨by rw [upd_same, List.map_append]; rfl, by simp [T.len], fun k u hk => ?_⟩
  have hlen := T.len
  by_cases hkl : k < ts.length
  · rw [List.getElem?_append_left hkl] at hk
    rw [upd_ne (T.ne hk)]
    have e : (ps ++ [(i, j)]).getD k (0, 0) = ps.getD k (0, 0) := by
      rw [List.getD_eq_getElem?_getD, List.getElem?_append_left (by omega), ← List.getD_eq_getElem?_getD]
    rw [e]
    exact T.row k u hk
  · have hk2 := (List.getElem?_eq_some_iff.mp hk).1
    rw [List.length_append, List.length_singleton] at hk2
    have ek : k = ts.length := by omega
    subst ek
    rw [List.getElem?_append_right (Nat.le_refl _)] at hk
    simp at hk
    subst hk
    rw [upd_ne tp]
    have e : (ps ++ [(i, j)]).getD ts.length (0, 0) = (i, j) := by
      rw [List.getD_eq_getElem?_getD, hlen, List.getElem?_append_right (Nat.le_refl _)]
      simp
    rw [e]
    exact ht
def rMax2 (xs : List V) (H : Hp) (Q : VK) : Prop := ∃ i j, xs = [.int i, .int j] ∧ Q (.int (if j > i then j else i)) H
theorem r_max2 {i j : Int} (h : Q (.int (max i j)) H) : rMax2 [.int i, .int j] H Q := by
  refine ⟨i, j, rfl, ?_⟩
  have e : (if j > i then j else i) = max i j := by split <;> omega
  rw [e]; exact h
def Par3 (i j k : Nat) (σ : St) (D : Ends) (vs : List V) (H1 : Hp) : Prop := ∃ u v w, vs = [u, v, w] ∧ D.nx (((σ.set i (some u)).set j (some v)).set k (some w)) H1
theorem r_par3 {i j k : Nat} {ta : TA} (h : ta σ H fun vs H1 => Par3 i j k σ D vs H1) : tPar3 i j k ta D σ H := h
theorem r_Par3 {i j k : Nat} {x y z : V} (h : D.nx (((σ.set i (some x)).set j (some y)).set k (some z)) H) : Par3 i j k σ D [x, y, z] H := ⟨x, y, z, rfl, h⟩
end
end L2
set_option maxRecDepth 100000
set_option maxHeartbeats 4000000
namespace L2
open PySem PySem.Spec PyProof.Rows

structure Tbl (w : World) (t : SetTable) : Prop where
  led : t.led = !(w.params.followText "set-order")
  dm : t.dummies = #[]
  up : t.plain = true → t.place.toList.Pairwise (· < ·)
theorem Tbl.fresh {w : World} {f m : Nat} : Tbl w (.fresh f m (!(w.params.followText "set-order"))) := ⟨rfl, rfl, fun _ => .nil⟩
theorem Tbl.laid {w : World} {mask f m : Nat} {led plain : Bool} {hs : Array Int} {t : SetTable} {o : Array Nat} (hl : led = !(w.params.followText "set-order")) (e : SetTable.laid mask f m led plain hs = some (t, o)) : Tbl w t := by
  unfold SetTable.laid at e
  cases ho : SetTable.layClean mask hs with
  | none => rw [ho] at e; cases e
  | some owner =>
    rw [ho] at e
    have e' := Option.some.inj e
    have e1 := congrArg Prod.fst e'
    dsimp only at e1
    subst e1
    refine ⟨hl, rfl, fun _ => ?_⟩
    dsimp only
    have sub : ((List.range (mask + 1)).filterMap (fun j => (owner.getD j none).map (j, ·))).map Prod.fst = (List.range (mask + 1)).filter (fun j => (owner.getD j none).isSome) := by
      induction List.range (mask + 1) with
      | nil => rfl
      | cons a r ih =>
        rw [List.filterMap_cons, List.filter_cons]
        cases q : owner.getD a none with
        | none => simpa using ih
        | some k => simpa using ih
    have p : ((List.range (mask + 1)).filter (fun j => (owner.getD j none).isSome)).Pairwise (· < ·) := List.pairwise_lt_range.sublist List.filter_sublist
    rw [← sub] at p
    simpa using p
section
variable {P : Program} {w : World} {A : Around} {E : Value → Shared → Prop} {s : Shared}
def SetT (P : Program) (w : World) (hp : Heap) (a : Addr) (S : Int → Bool) (n : Nat) : Prop :=
  ∃ o es ep t, hp.get? a = some o ∧ o.ExactSet ∧ o.data = .set es ep t ∧ ElemsOf (intKind P w) es.toList ∧ (∀ k, S k = true ↔ ∃ e ∈ es.toList, (intKind P w).is k e.2 = true) ∧ es.size < scanBound ∧ t.fits es.size = true ∧ es.size = n ∧ Tbl w t
theorem SetT.of {hp : Heap} {a : Addr} {S : Int → Bool} {n : Nat} (h : SetT P w hp a S n) : hp.SetOf (intKind P w) a S n := by
  obtain ⟨o, es, ep, t, h1, h2, h3, h4, h5, h6, h7, h8, _⟩ := h
  exact ⟨o, es, ep, t, h1, h2, h3, h4, h5, h6, h7, h8⟩
end
end L2
set_option maxRecDepth 100000
set_option maxHeartbeats 4000000
namespace L2
open PySem PySem.Spec PyProof.Rows
section
variable {P : Program} {w : World} {A : Around} {R : Result → Shared → Prop} {I : Addr} {fp wr : List Addr} {G : Array GenState → Array GenState → Prop} {n : Nat} {It : Nat → Value → Prop} {St : Nat → Shared → Prop}
theorem SetT.congr {hp : Heap} {a : Addr} {S S' : Int → Bool} {n n' : Nat} (h : SetT P w hp a S n) (e : ∀ k, S k = S' k) (en : n = n') : SetT P w hp a S' n' := by
  obtain rfl : S = S' := funext e
  subst en
  exact h
theorem SetT.keep {hp hp' : Heap} {a : Addr} {S : Int → Bool} {n : Nat} (h : SetT P w hp a S n) (e : ∀ o, hp.get? a = some o → hp'.get? a = some o) : SetT P w hp' a S n := by
  obtain ⟨o, es, ep, t, h1, r⟩ := h
  exact ⟨o, es, ep, t, e o h1, r⟩
end
end L2
set_option maxRecDepth 100000
set_option maxHeartbeats 4000000
set_option maxRecDepth 100000
set_option maxHeartbeats 4000000
namespace L2
open PySem PySem.Spec PyProof.Rows
section
variable {P : Program} {w : World} {A : Around} {E : Value → Shared → Prop} {s : Shared}
def SetRaw (h : Heap) (a : Addr) (es : Array (Int × Value)) (ep : Nat) (t : SetTable) : Prop := ∃ o, h.get? a = some o ∧ o.ExactSet ∧ o.data = .set es ep t ∧ t.fits es.size = true
theorem SetRaw.to {h h' : Heap} {a : Addr} {es : Array (Int × Value)} {ep : Nat} {t : SetTable} (x : SetRaw h a es ep t) (e : ∀ o, h.get? a = some o → h'.get? a = some o) : SetRaw h' a es ep t := let ⟨o, ho, r⟩ := x; ⟨o, e o ho, r⟩
def SetIt (h : Heap) (it : Addr) (first : Value) (i a n ep : Nat) : Prop := ∃ o, h.get? it = some o ∧ o.cls = .type "set_iterator" ∧ o.data = .fields #[first, .int i 0, .ref a, .int n 0, .int ep 0]
theorem SetIt.ty {it : Addr} {first : Value} {i a n ep : Nat} (x : SetIt s.heap it first i a n ep) : s.TypeIs (.ref it) "set_iterator" := let ⟨o, ho, hc, _⟩ := x; ⟨o, ho, hc⟩
theorem SetIt.to {h h' : Heap} {it : Addr} {first : Value} {i a n ep : Nat} (x : SetIt h it first i a n ep) (e : ∀ o, h.get? it = some o → h'.get? it = some o) : SetIt h' it first i a n ep := let ⟨o, ho, r⟩ := x; ⟨o, e o ho, r⟩
end
end L2
set_option maxRecDepth 100000
set_option maxHeartbeats 4000000
namespace L2
open PySem PySem.Spec PyProof.Rows
section
variable {P : Program} {w : World} {A : Around} {E : Value → Shared → Prop} {s : Shared}
theorem SetRaw.ty {a : Addr} {es : Array (Int × Value)} {ep : Nat} {t : SetTable} (x : SetRaw s.heap a es ep t) : s.TypeIs (.ref a) "set" := let ⟨o, ho, hc, _⟩ := x; ⟨o, ho, hc.1⟩
structure SetWalk (P : Program) (w : World) (A : Around) (s s' : Shared) (a : Addr) (es : Array (Int × Value)) (I : Addr) : Prop where
  same : ∃ h' d tk, s' = { s with heap := h', drawn := d, toks := tk }
  kp : ∀ b o, s.heap.get? b = some o → s'.heap.get? b = some o
  new : s.heap.objs.size ≤ I
  walk : ∃ (ord : Array (Int × Value)) (fp : List Addr) (St : Nat → Heap → Prop), ord.toList.Perm es.toList ∧ (∀ b ∈ fp, b = a ∨ s.heap.objs.size ≤ b) ∧ (∀ b ∈ fp, b < s'.heap.objs.size) ∧
    Walks P w A I fp [I] es.size (fun i v => ∃ e, ord[i]? = some e ∧ v = e.2) St ∧ St 0 s'.heap
end
end L2
set_option maxRecDepth 100000
set_option maxHeartbeats 4000000
set_option maxHeartbeats 4000000
namespace Lf
theorem fits_picks (row : List Int) : ∀ ps xs : List Int, ps.length = xs.length → fits row ps xs = decide (picks row ps = xs)
  | [], [], _ => rfl
  | [], _ :: _, h => by simp at h
  | _ :: _, [], h => by simp at h
  | p :: ps, x :: xs, h => by
    have ih := fits_picks row ps xs (by simpa using h)
    unfold fits at ih ⊢
    unfold picks at ih ⊢
    rw [List.zip_cons_cons, List.all_cons, ih, List.map_cons]
    by_cases e : row.getD p.toNat 0 = x
    · subst e; simp
    · simp only [decide_eq_false e, Bool.false_and, List.cons.injEq, e, false_and, decide_false]
theorem stands_picks (row ps xs : List Int) : stands row ps xs = (rising (-1) row.length ps && decide (picks row ps = xs)) := by
  by_cases h : ps.length = xs.length
  · rw [stands_eq _ _ _ h, fits_picks _ _ _ h]
  · have e : ¬ picks row ps = xs := fun z => h (by rw [← z]; unfold picks; simp)
    unfold stands
    rw [decide_eq_false h, decide_eq_false e, Bool.and_false, Bool.false_and]
end Lf
namespace Lf
theorem least_cons (m : Nat) (a : Int) (r : List Int) (hm : m ≤ r.length) : least (m + 1) (a :: r) = if ∀ y ∈ r.take (r.length - m), a ≤ y then a :: least m r else least (m + 1) r := by
  have ew : (a :: r).take ((a :: r).length - m) = a :: r.take (r.length - m) := by
    rw [List.length_cons, Nat.succ_sub hm, List.take_succ_cons]
  rw [least, ew]
  by_cases h : ∀ y ∈ r.take (r.length - m), a ≤ y
  · rw [if_pos h]
    have e : lmin (a :: r.take (r.length - m)) = a := (lmin_eq List.mem_cons_self (fun y hy => by
      rcases List.mem_cons.mp hy with q | q
      · omega
      · exact h y q)).symm
    rw [e]
    simp
  · rw [if_neg h]
    have hne : r.take (r.length - m) ≠ [] := fun e => h (by rw [e]; simp)
    have hm2 : m + 1 ≤ r.length := by
      rcases Nat.lt_or_ge m r.length with q | q
      · omega
      · exact absurd (by rw [show r.length - m = 0 by omega, List.take_zero]) hne
    have hlt : lmin (r.take (r.length - m)) < a := by
      refine Int.not_le.mp fun q => h fun y hy => ?_
      have := lmin_le _ y hy
      omega
    have e : lmin (a :: r.take (r.length - m)) = lmin (r.take (r.length - m)) := (lmin_eq (List.mem_cons_of_mem _ (lmin_mem _ hne)) (fun y hy => by
      rcases List.mem_cons.mp hy with q | q
      · omega
      · exact lmin_le _ y q)).symm
    rw [e, least]
    congr 1
    have ei : (a :: r.take (r.length - m)).idxOf (lmin (r.take (r.length - m))) = (r.take (r.length - m)).idxOf (lmin (r.take (r.length - m))) + 1 := by
      rw [List.idxOf_cons]
      have : (a == lmin (r.take (r.length - m))) = false := by
        rw [beq_eq_false_iff_ne]; omega
      rw [this]; rfl
    rw [ei, List.drop_succ_cons]
theorem least_sorted : ∀ (t : List Int) (m : Nat), t.Pairwise (· ≤ ·) → m ≤ t.length → least m t = t.take m
  | _, 0, _, _ => by simp [least]
  | [], m + 1, _, hm => by simp at hm
  | a :: t, m + 1, hs, hm => by
    obtain ⟨ha, hs⟩ := List.pairwise_cons.mp hs
    rw [least_cons _ _ _ (by simpa using hm), if_pos (fun y hy => ha y (List.mem_of_mem_take hy)), List.take_succ_cons, least_sorted t m hs (by simpa using hm)]
end Lf
namespace Lf
structure Stk (row told rest : List Int) (many spare : Nat) : Prop where
  up : spare = 0 ∨ told.Pairwise (· ≤ ·)
  len : told.length + rest.length = many + spare
  same : least many (told ++ rest) = least many row
theorem Stk.push {row told rest : List Int} {x : Int} {many spare : Nat} (S : Stk row told (x :: rest) many spare) (h : spare = 0 ∨ ∀ b, told.getLast? = some b → b ≤ x) : Stk row (told ++ [x]) rest many spare := by
  obtain ⟨h1, h2, h3⟩ := S
  refine ⟨?_, by simp at h2 ⊢; omega, by rw [List.append_assoc]; exact h3⟩
  rcases h1 with h1 | h1
  · exact .inl h1
  rcases h with h | h
  · exact .inl h
  refine .inr (List.pairwise_append.mpr ⟨h1, by simp, fun a ha y hy => ?_⟩)
  have e : y = x := by simpa using hy
  subst e
  have hne : told ≠ [] := List.ne_nil_of_mem ha
  have hb := h _ (List.getLast?_eq_some_getLast hne)
  rw [← List.dropLast_concat_getLast hne] at ha h1
  rcases List.mem_append.mp ha with q | q
  · have := (List.pairwise_append.mp h1).2.2 a q (told.getLast hne) (by simp)
    omega
  · have : a = told.getLast hne := by simpa using q
    omega
theorem Stk.done {row told : List Int} {many spare : Nat} (S : Stk row told [] many spare) : told.take many = least many row := by
  obtain ⟨h1, h2, h3⟩ := S
  rw [List.append_nil] at h3
  rw [List.length_nil] at h2
  rw [← h3]
  rcases h1 with h1 | h1
  · have e : told.length = many := by omega
    subst e
    rw [least_all, List.take_length]
  · exact (least_sorted told many h1 (by omega)).symm
end Lf
set_option maxRecDepth 100000
set_option maxHeartbeats 4000000
namespace L2
open PySem PySem.Spec PyProof.Rows
section
variable {σ : St} {H H' : Hp} {Q : VK} {D : Ends} {K : PySem.W.Frag} {X : Cx} {tg : Expr}
def Itd (hi : Int) (n : Nat) : It := ⟨fun i _ => i < n, fun i H x H' => H' = H ∧ x = .int (hi - i), fun i _ => n ≤ i⟩
def AtR3 (R : It → Hp → Prop) (vs : List V) (H1 : Hp) : Prop := ∃ i j : Int, vs = [.int i, .int j, .int (-1)] ∧ (-(2 ^ 60) ≤ i ∧ i < 2 ^ 60 ∧ -(2 ^ 60) ≤ j ∧ j < 2 ^ 60) ∧ R (Itd i (i - j).toNat) H1
def iRng3 (ta : TA) : TI := fun σ H R => ta σ H fun vs H1 => AtR3 R vs H1
theorem r_iRng3 {ta : TA} {R : It → Hp → Prop} (h : ta σ H fun vs H1 => AtR3 R vs H1) : iRng3 ta σ H R := h
theorem r_aug {i : Nat} {te : TE} {ti : TIp} {v : V} (e : σ[i]? = some (some v)) (h : te σ H fun y H1 => ti v y H1 fun z H2 => D.nx (σ.set i (some z)) H2) : tAug i te ti D σ H := ⟨v, e, h⟩
theorem r_ipI {f : Int → Int → Int} {i j : Int} (h : Q (.int (f i j)) H) : ipI f (.int i) (.int j) H Q := ⟨i, j, rfl, rfl, h⟩
theorem r_augS {to ti te : TE} {tget : V → V → Hp → VK → Prop} {tip : TIp} {tset : TSet} (h : to σ H fun o H1 => ti σ H1 fun i H2 => tget o i H2 fun x H3 => te σ H3 fun y H4 => tip x y H4 fun z H5 => tset o i z H5 fun H6 => D.nx σ H6) : tAugS to ti te tget tip tset D σ H := h
end
end L2
set_option maxHeartbeats 4000000
namespace Lf
def bnds (one other : List Int) (tb : List (List Int)) (i j : Nat) : List Int :=
  [0] ++ (if 0 < i then [tg tb (i - 1) j] else []) ++ (if 0 < j then [tg tb i (j - 1)] else []) ++ (if 0 < i ∧ 0 < j ∧ one.getD (i - 1) 0 = other.getD (j - 1) 0 then [tg tb (i - 1) (j - 1) + 1] else [])
def lmax : List Int → Int
  | [] => 0
  | [x] => x
  | x :: y :: r => if lmax (y :: r) ≤ x then x else lmax (y :: r)
theorem lmax_le : ∀ (l : List Int), ∀ a ∈ l, a ≤ lmax l
  | [], a, h => by simp at h
  | [x], a, h => by simp at h; subst h; exact Int.le_refl _
  | x :: y :: r, a, h => by
    have ih := lmax_le (y :: r)
    rw [lmax]
    rcases List.mem_cons.mp h with e | h
    · subst e; split <;> omega
    · have := ih a h
      split <;> omega
theorem lmax_mem : ∀ (l : List Int), l ≠ [] → lmax l ∈ l
  | [], h => absurd rfl h
  | [x], _ => by simp [lmax]
  | x :: y :: r, _ => by
    have ih := lmax_mem (y :: r) (by simp)
    rw [lmax]
    split
    · simp
    · exact List.mem_cons_of_mem _ ih
def bnd (one other : List Int) (tb : List (List Int)) (i j : Nat) : Int := lmax (bnds one other tb i j)
theorem bnds_mem {one other : List Int} {tb : List (List Int)} {i j : Nat} {a : Int} : a ∈ bnds one other tb i j ↔ a = 0 ∨ (0 < i ∧ a = tg tb (i - 1) j) ∨ (0 < j ∧ a = tg tb i (j - 1)) ∨ (0 < i ∧ 0 < j ∧ one.getD (i - 1) 0 = other.getD (j - 1) 0 ∧ a = tg tb (i - 1) (j - 1) + 1) := by
  unfold bnds
  by_cases h1 : 0 < i <;> by_cases h2 : 0 < j <;> by_cases h3 : one.getD (i - 1) 0 = other.getD (j - 1) 0 <;> simp [h1, h2, h3, or_assoc]
theorem bnds_ne {one other : List Int} {tb : List (List Int)} {i j : Nat} : bnds one other tb i j ≠ [] := fun e => by
  have : (0 : Int) ∈ bnds one other tb i j := bnds_mem.mpr (.inl rfl)
  rw [e] at this
  simp at this
theorem bnd_mem {one other : List Int} {tb : List (List Int)} {i j : Nat} : bnd one other tb i j ∈ bnds one other tb i j := lmax_mem _ bnds_ne
theorem bnd_le {one other : List Int} {tb : List (List Int)} {i j : Nat} {a : Int} (h : a ∈ bnds one other tb i j) : a ≤ bnd one other tb i j := lmax_le _ a h
theorem bnd_same {one other : List Int} {tb tb' : List (List Int)} {i j : Nat} (h1 : 0 < i → tg tb (i - 1) j = tg tb' (i - 1) j) (h2 : 0 < j → tg tb i (j - 1) = tg tb' i (j - 1)) (h3 : 0 < i → 0 < j → tg tb (i - 1) (j - 1) = tg tb' (i - 1) (j - 1)) : bnd one other tb i j = bnd one other tb' i j := by
  unfold bnd
  congr 1
  unfold bnds
  by_cases q1 : 0 < i <;> by_cases q2 : 0 < j <;> simp [q1, q2]
  · simp [h1 q1, h2 q2, h3 q1 q2]
  · exact h1 q1
  · exact h2 q2
theorem tab_bnd {one other : List Int} {tb : List (List Int)} (h1 : tb.length = one.length + 1) (h2 : ∀ i, i ≤ one.length → (tb.getD i []).length = other.length + 1) :
    TabOk one other tb ↔ ∀ i j, i ≤ one.length → j ≤ other.length → bnd one other tb i j ≤ tg tb i j := by
  constructor
  · intro T i j hi hj
    rcases bnds_mem.mp (bnd_mem (one := one) (other := other) (tb := tb) (i := i) (j := j)) with q | ⟨q, e⟩ | ⟨q, e⟩ | ⟨q1, q2, q3, e⟩
    · rw [q]; exact tab_nonneg T _ i j rfl hi hj
    · rw [e]; exact (T.all i j hi hj).up q
    · rw [e]; exact (T.all i j hi hj).lf q
    · rw [e]; have := (T.all i j hi hj).dg q1 q2 q3; omega
  · intro h
    refine ⟨h1, ?_, h2, fun i j hi hj => ⟨fun q => ?_, fun q => ?_, fun q1 q2 q3 => ?_⟩⟩
    · exact Int.le_trans (bnd_le (bnds_mem.mpr (.inl rfl))) (h 0 0 (Nat.zero_le _) (Nat.zero_le _))
    · exact Int.le_trans (bnd_le (bnds_mem.mpr (.inr (.inl ⟨q, rfl⟩)))) (h i j hi hj)
    · exact Int.le_trans (bnd_le (bnds_mem.mpr (.inr (.inr (.inl ⟨q, rfl⟩))))) (h i j hi hj)
    · have := Int.le_trans (bnd_le (bnds_mem.mpr (.inr (.inr (.inr ⟨q1, q2, q3, rfl⟩))))) (h i j hi hj)
      omega
structure LT (one other : List Int) (tb : List (List Int)) : Prop where
  len : tb.length = one.length + 1
  lens : ∀ i, i ≤ one.length → (tb.getD i []).length = other.length + 1
  eq : ∀ i j, i ≤ one.length → j ≤ other.length → tg tb i j = bnd one other tb i j
theorem LT.ok {one other : List Int} {tb : List (List Int)} (L : LT one other tb) : TabOk one other tb := (tab_bnd L.len L.lens).mpr fun i j hi hj => Int.le_of_eq (L.eq i j hi hj).symm
theorem LT.zero {one other : List Int} {tb : List (List Int)} (L : LT one other tb) : ∀ (n i j : Nat), i + j = n → i ≤ one.length → j ≤ other.length → (i = 0 ∨ j = 0) → tg tb i j = 0
  | 0, i, j, hn, hi, hj, h => by
    have e1 : i = 0 := by omega
    have e2 : j = 0 := by omega
    subst e1; subst e2
    rw [L.eq 0 0 hi hj]
    rcases bnds_mem.mp (bnd_mem (one := one) (other := other) (tb := tb) (i := 0) (j := 0)) with q | ⟨q, e⟩ | ⟨q, e⟩ | ⟨q1, q2, q3, e⟩ <;> omega
  | n + 1, i, j, hn, hi, hj, h => by
    rw [L.eq i j hi hj]
    rcases bnds_mem.mp (bnd_mem (one := one) (other := other) (tb := tb) (i := i) (j := j)) with q | ⟨q, e⟩ | ⟨q, e⟩ | ⟨q1, q2, q3, e⟩
    · exact q
    · rw [e]; exact L.zero n (i - 1) j (by omega) (by omega) hj (by omega)
    · rw [e]; exact L.zero n i (j - 1) (by omega) hi (by omega) (by omega)
    · omega
theorem LT.pos {one other : List Int} {tb : List (List Int)} (L : LT one other tb) {i j : Nat} (hi : i ≤ one.length) (hj : j ≤ other.length) (h : 0 < tg tb i j) : 0 < i ∧ 0 < j := by
  constructor
  · rcases Nat.eq_zero_or_pos i with q | q
    · have := L.zero _ i j rfl hi hj (.inl q); omega
    · exact q
  · rcases Nat.eq_zero_or_pos j with q | q
    · have := L.zero _ i j rfl hi hj (.inr q); omega
    · exact q
structure AP (one other : List Int) (a b : Int) (ps : List (Int × Int)) : Prop where
  mine : rising a one.length (ps.map (·.1)) = true
  theirs : rising b other.length (ps.map (·.2)) = true
  alike : ∀ p ∈ ps, one.getD p.1.toNat 0 = other.getD p.2.toNat 0
theorem rising_low : ∀ (ps : List Int) (a a' c : Int), a' ≤ a → rising a c ps = true → rising a' c ps = true
  | [], _, _, _, _, _ => rfl
  | p :: ps, a, a', c, h, e => by
    rw [rising] at e ⊢
    simp only [Bool.and_eq_true, decide_eq_true_eq] at e ⊢
    exact ⟨⟨by omega, e.1.2⟩, e.2⟩
theorem AP.cons {one other : List Int} {ps : List (Int × Int)} {x y a b : Int} (A : AP one other x y ps) (h1 : a < x) (h2 : b < y) (h3 : x < one.length) (h4 : y < other.length) (h : one.getD x.toNat 0 = other.getD y.toNat 0) : AP one other a b ((x, y) :: ps) := by
  refine ⟨?_, ?_, fun p hp => ?_⟩
  · rw [List.map_cons, rising, decide_eq_true h1, decide_eq_true h3]
    exact A.mine
  · rw [List.map_cons, rising, decide_eq_true h2, decide_eq_true h4]
    exact A.theirs
  · rcases List.mem_cons.mp hp with e | e
    · subst e; exact h
    · exact A.alike p e
structure LTp (one other : List Int) (tb : List (List Int)) (i j : Nat) : Prop where
  len : tb.length = i + 1
  lens : ∀ k, k < i → (tb.getD k []).length = other.length + 1
  last : (tb.getD i []).length = j
  eq : ∀ k l, k ≤ i → (k < i → l ≤ other.length) → (k = i → l < j) → tg tb k l = bnd one other tb k l
theorem tg_set {tb : List (List Int)} {i k l : Nat} {line : List Int} (hi : i < tb.length) : tg (tb.set i line) k l = if k = i then line.getD l 0 else tg tb k l := by
  unfold tg
  by_cases h : k = i
  · subst h
    rw [if_pos rfl, set_getD hi]
  · rw [if_neg h]
    congr 1
    rw [List.getD_eq_getElem?_getD, List.getElem?_set_ne (fun z => h z.symm), ← List.getD_eq_getElem?_getD]
theorem getD_app {l : List Int} {v : Int} {k : Nat} : (l ++ [v]).getD k 0 = if k = l.length then v else l.getD k 0 := by
  by_cases h : k = l.length
  · subst h; rw [if_pos rfl]; simp
  · rw [if_neg h]
    rcases Nat.lt_or_ge k l.length with q | q
    · rw [List.getD_eq_getElem?_getD, List.getElem?_append_left q, ← List.getD_eq_getElem?_getD]
    · rw [List.getD_eq_getElem?_getD, List.getD_eq_getElem?_getD, List.getElem?_eq_none (by simp; omega), List.getElem?_eq_none q]
theorem LTp.step {one other : List Int} {tb : List (List Int)} {i j : Nat} (L : LTp one other tb i j) (hj : j ≤ other.length) : LTp one other (tb.set i (tb.getD i [] ++ [bnd one other tb i j])) i (j + 1) := by
  have hi : i < tb.length := by have := L.len; omega
  have e : ∀ k l, (k = i → l < j) → tg (tb.set i (tb.getD i [] ++ [bnd one other tb i j])) k l = tg tb k l := fun k l h => by
    rw [tg_set hi]
    by_cases q : k = i
    · rw [if_pos q, getD_app, if_neg (by have := h q; have := L.last; omega)]
      subst q; rfl
    · rw [if_neg q]
  refine ⟨by rw [List.length_set]; exact L.len, fun k hk => ?_, ?_, fun k l hk h1 h2 => ?_⟩
  · rw [List.getD_eq_getElem?_getD, List.getElem?_set_ne (by omega), ← List.getD_eq_getElem?_getD]
    exact L.lens k hk
  · rw [set_getD hi, List.length_append, L.last]; rfl
  · have eb : bnd one other (tb.set i (tb.getD i [] ++ [bnd one other tb i j])) k l = bnd one other tb k l := bnd_same (fun q => e _ _ (by omega)) (fun q => e _ _ (by omega)) (fun q q' => e _ _ (by omega))
    rw [eb]
    by_cases q : k = i ∧ l = j
    · obtain ⟨rfl, rfl⟩ := q
      rw [tg_set hi, if_pos rfl, getD_app, if_pos L.last.symm]
    · have h3 : k = i → l < j := fun z => by have := h2 z; omega
      rw [e k l h3]
      exact L.eq k l hk h1 h3
theorem LTp.line {one other : List Int} {tb : List (List Int)} {i : Nat} (L : LTp one other tb i (other.length + 1)) : LTp one other (tb ++ [[]]) (i + 1) 0 := by
  have g : ∀ k, k < tb.length → (tb ++ [[]]).getD k [] = tb.getD k [] := fun k hk => by
    rw [List.getD_eq_getElem?_getD, List.getElem?_append_left hk, ← List.getD_eq_getElem?_getD]
  have e : ∀ k l, k ≤ i → tg (tb ++ [[]]) k l = tg tb k l := fun k l hk => by
    unfold tg
    rw [g k (by have := L.len; omega)]
  refine ⟨by rw [List.length_append, L.len]; rfl, fun k hk => ?_, ?_, fun k l hk h1 h2 => ?_⟩
  · rw [g k (by have := L.len; omega)]
    rcases Nat.lt_or_ge k i with q | q
    · exact L.lens k q
    · have : k = i := by omega
      subst this
      exact L.last
  · rw [List.getD_eq_getElem?_getD, List.getElem?_append_right (by have := L.len; omega), L.len]
    simp
  · have hk' : k ≤ i := by
      rcases Nat.lt_or_ge k (i + 1) with q | q
      · omega
      · have := h2 (by omega); omega
    have eb : bnd one other (tb ++ [[]]) k l = bnd one other tb k l := bnd_same (fun q => e _ _ (by omega)) (fun q => e _ _ (by omega)) (fun q q' => e _ _ (by omega))
    rw [eb, e k l hk']
    exact L.eq k l hk' (fun q => h1 (by omega)) fun q => by have := h1 (by omega); omega
theorem LTp.start (one other : List Int) : LTp one other [[]] 0 0 := ⟨rfl, fun k hk => by omega, rfl, fun k l hk h1 h2 => by have := h2 (by omega); omega⟩
theorem LTp.done {one other : List Int} {tb : List (List Int)} (L : LTp one other tb one.length (other.length + 1)) : LT one other tb := by
  refine ⟨L.len, fun i hi => ?_, fun i j hi hj => L.eq i j hi (fun _ => hj) fun _ => by omega⟩
  rcases Nat.lt_or_ge i one.length with q | q
  · exact L.lens i q
  · have : i = one.length := by omega
    subst this
    exact L.last
end Lf
set_option maxHeartbeats 4000000
namespace Lf
theorem rising_more : ∀ (ps : List Int) (a c c' : Int), c ≤ c' → rising a c ps = true → rising a c' ps = true
  | [], _, _, _, _, _ => rfl
  | p :: ps, a, c, c', h, e => by
    rw [rising] at e ⊢
    simp only [Bool.and_eq_true, decide_eq_true_eq] at e ⊢
    exact ⟨⟨e.1.1, by omega⟩, rising_more ps p c c' h e.2⟩
theorem rising_snoc : ∀ (ps : List Int) (a c x : Int), rising a c ps = true → a < x → (∀ p ∈ ps, p < x) → x < c → rising a c (ps ++ [x]) = true
  | [], a, c, x, _, h1, _, h2 => by
    rw [List.nil_append, rising, decide_eq_true h1, decide_eq_true h2]; rfl
  | p :: ps, a, c, x, e, h1, h3, h2 => by
    rw [List.cons_append, rising] at *
    simp only [Bool.and_eq_true, decide_eq_true_eq] at e ⊢
    exact ⟨e.1, rising_snoc ps p c x e.2 (h3 p List.mem_cons_self) (fun q hq => h3 q (List.mem_cons_of_mem _ hq)) h2⟩
def upTo (r k : Nat) : List Int := (List.range k).map fun i : Nat => (r : Int) + i
theorem upTo_len (r k : Nat) : (upTo r k).length = k := by unfold upTo; simp
theorem upTo_succ (r k : Nat) : upTo r (k + 1) = upTo r k ++ [(r : Int) + k] := by
  unfold upTo; rw [List.range_succ, List.map_append]; rfl
theorem upTo_mem {r k : Nat} {p : Int} (h : p ∈ upTo r k) : (r : Int) ≤ p ∧ p < (r : Int) + k := by
  unfold upTo at h
  obtain ⟨i, hi, rfl⟩ := List.mem_map.mp h
  have := List.mem_range.mp hi
  omega
theorem rising_upTo (ps : List Int) (r : Nat) (h : rising (-1) r ps = true) : ∀ k : Nat, rising (-1) ((r : Int) + k) (ps ++ upTo r k) = true
  | 0 => by
    have : upTo r 0 = [] := rfl
    rw [this, List.append_nil]
    exact rising_more _ _ _ _ (by omega) h
  | k + 1 => by
    rw [upTo_succ, ← List.append_assoc]
    refine rising_snoc _ _ _ _ (rising_more _ _ _ _ (by omega) (rising_upTo ps r h k)) (by omega) (fun p hp => ?_) (by omega)
    rcases List.mem_append.mp hp with q | q
    · have := rising_in _ _ _ h p q; omega
    · have := upTo_mem q; omega
theorem picks_app {row seg ps : List Int} (h : ∀ p ∈ ps, 0 ≤ p ∧ p < (row.length : Int)) : picks (row ++ seg) ps = picks row ps := by
  unfold picks
  refine List.map_congr_left fun p hp => ?_
  have := h p hp
  rw [List.getD_eq_getElem?_getD, List.getElem?_append_left (by omega), ← List.getD_eq_getElem?_getD]
theorem picks_upTo (row seg : List Int) : picks (row ++ seg) (upTo row.length seg.length) = seg := by
  unfold picks upTo
  rw [List.map_map]
  refine List.ext_getElem (by simp) fun i h1 h2 => ?_
  rw [List.getElem_map, List.getElem_range]
  show (row ++ seg).getD ((row.length : Int) + (i : Int)).toNat 0 = seg[i]
  rw [show ((row.length : Int) + (i : Int)).toNat = row.length + i by omega, List.getD_eq_getElem?_getD, List.getElem?_append_right (by omega), Nat.add_sub_cancel_left, List.getElem?_eq_getElem h2]
  rfl
theorem picks_append (row ps qs : List Int) : picks row (ps ++ qs) = picks row ps ++ picks row qs := by unfold picks; rw [List.map_append]
structure Sh (one other row mine theirs : List Int) (m n c : Nat) : Prop where
  lm : mine.length = m
  ln : theirs.length = n
  rm : rising (-1) row.length mine = true
  rn : rising (-1) row.length theirs = true
  pm : picks row mine = one.take m
  pn : picks row theirs = other.take n
  len : row.length + c = m + n
theorem seg_len {l : List Int} {m m' : Nat} (h1 : m ≤ m') (h2 : m' ≤ l.length) : ((l.drop m).take (m' - m)).length = m' - m := by
  rw [List.length_take, List.length_drop]; omega
theorem take_seg {l : List Int} {m m' : Nat} (h1 : m ≤ m') : l.take m ++ (l.drop m).take (m' - m) = l.take m' := by
  have := List.take_add (l := l) (i := m) (j := m' - m)
  rw [show m + (m' - m) = m' by omega] at this
  exact this.symm
theorem Sh.mine {one other row mine theirs : List Int} {m n c m' : Nat} (S : Sh one other row mine theirs m n c) (h1 : m ≤ m') (h2 : m' ≤ one.length) : Sh one other (row ++ (one.drop m).take (m' - m)) (mine ++ upTo row.length (m' - m)) theirs m' n c := by
  have sl := seg_len h1 h2
  have inm : ∀ p ∈ mine, 0 ≤ p ∧ p < (row.length : Int) := fun p hp => by have := rising_in _ _ _ S.rm p hp; omega
  have inn : ∀ p ∈ theirs, 0 ≤ p ∧ p < (row.length : Int) := fun p hp => by have := rising_in _ _ _ S.rn p hp; omega
  have rl : (((row ++ (one.drop m).take (m' - m)).length : Nat) : Int) = (row.length : Int) + ((m' - m : Nat) : Int) := by rw [List.length_append, sl]; omega
  refine ⟨by rw [List.length_append, S.lm, upTo_len]; omega, S.ln, ?_, ?_, ?_, ?_, ?_⟩
  · rw [rl]; exact rising_upTo _ _ S.rm _
  · rw [rl]; exact rising_more _ _ _ _ (by omega) S.rn
  · rw [picks_append, picks_app inm, S.pm]
    conv => lhs; rw [← sl]
    rw [sl]
    have := picks_upTo row ((one.drop m).take (m' - m))
    rw [sl] at this
    rw [this, take_seg h1]
  · rw [picks_app inn, S.pn]
  · rw [List.length_append, sl]; have := S.len; omega
theorem Sh.theirs {one other row mine theirs : List Int} {m n c n' : Nat} (S : Sh one other row mine theirs m n c) (h1 : n ≤ n') (h2 : n' ≤ other.length) : Sh one other (row ++ (other.drop n).take (n' - n)) mine (theirs ++ upTo row.length (n' - n)) m n' c := by
  have S' : Sh other one row theirs mine n m c := ⟨S.ln, S.lm, S.rn, S.rm, S.pn, S.pm, by have := S.len; omega⟩
  have T := S'.mine h1 h2
  exact ⟨T.ln, T.lm, T.rn, T.rm, T.pn, T.pm, by have := T.len; omega⟩
theorem Sh.pair {one other row mine theirs : List Int} {i j c : Nat} {m : Nat} (S : Sh one other row mine theirs m j c) (h1 : m ≤ i) (h2 : i < one.length) (h3 : j < other.length) (h : one.getD i 0 = other.getD j 0) :
    Sh one other (row ++ (one.drop m).take (i + 1 - m)) (mine ++ upTo row.length (i + 1 - m)) (theirs ++ [((row.length + (i - m) : Nat) : Int)]) (i + 1) (j + 1) (c + 1) := by
  have T := S.mine (m' := i + 1) (by omega) (by omega)
  have sl := seg_len (l := one) (m := m) (m' := i + 1) (by omega) (by omega)
  have inn : ∀ p ∈ theirs, 0 ≤ p ∧ p < (row.length : Int) := fun p hp => by have := rising_in _ _ _ S.rn p hp; omega
  refine ⟨T.lm, by rw [List.length_append, T.ln]; rfl, T.rm, ?_, T.pm, ?_, by have := T.len; omega⟩
  · refine rising_snoc _ _ _ _ T.rn (by omega) (fun p hp => ?_) ?_
    · have := inn p hp; omega
    · rw [List.length_append, sl]; omega
  · rw [picks_append, T.pn]
    have : picks (row ++ (one.drop m).take (i + 1 - m)) [((row.length + (i - m) : Nat) : Int)] = [other.getD j 0] := by
      unfold picks
      rw [List.map_singleton, Int.toNat_natCast, List.getD_eq_getElem?_getD, List.getElem?_append_right (by omega), Nat.add_sub_cancel_left, List.getElem?_take_of_lt (by omega), List.getElem?_drop, show m + (i - m) = i by omega, ← List.getD_eq_getElem?_getD, h]
    rw [this]
    have := List.take_succ_eq_append_getElem h3
    rw [this, List.getD_eq_getElem?_getD, List.getElem?_eq_getElem h3]
    rfl
theorem Sh.start (one other : List Int) : Sh one other [] [] [] 0 0 0 := ⟨rfl, rfl, rfl, rfl, by simp [picks], by simp [picks], rfl⟩
end Lf
set_option maxRecDepth 100000
set_option maxHeartbeats 4000000
namespace L2
open PySem PySem.Spec PyProof.Rows
section
variable {σ : St} {H H' : Hp} {Q : VK} {D : Ends} {K : PySem.W.Frag} {X : Cx}
theorem Tab.snoc {t l : Addr} {ls : List Addr} {tb : List (List Int)} {line : List Int} (T : Tab H t ls tb) (hl : H l = some (.lst (line.map V.int))) (tl : t ≠ l) (tls : t ∉ ls) : Tab (upd H t (.lst (ls.map V.ref ++ [.ref l]))) t (ls ++ [l]) (tb ++ [line]) := by
  refine ⟨by rw [upd_same, List.map_append]; rfl, by rw [List.length_append, List.length_append, T.len]; rfl, fun i a ha => ?_⟩
  rcases Nat.lt_or_ge i ls.length with q | q
  · rw [List.getElem?_append_left q] at ha
    have at' : a ≠ t := fun z => tls (z ▸ List.mem_of_getElem? ha)
    have i2 : i < tb.length := by rw [← T.len]; exact q
    rw [upd_ne at', List.getD_eq_getElem?_getD, List.getElem?_append_left i2, ← List.getD_eq_getElem?_getD]
    exact T.row i a ha
  · have hn : i = ls.length := by
      have := (List.getElem?_eq_some_iff.mp ha).1
      rw [List.length_append, List.length_singleton] at this
      omega
    subst hn
    rw [List.getElem?_append_right (Nat.le_refl _), Nat.sub_self] at ha
    have : a = l := by simpa using ha.symm
    subst this
    rw [upd_ne (Ne.symm tl), List.getD_eq_getElem?_getD, T.len, List.getElem?_append_right (Nat.le_refl _), Nat.sub_self]
    exact hl
end
end L2
set_option maxRecDepth 100000
set_option maxHeartbeats 4000000
set_option maxRecDepth 100000
set_option maxHeartbeats 4000000
set_option maxRecDepth 100000
set_option maxHeartbeats 4000000
set_option maxRecDepth 100000
set_option maxHeartbeats 4000000
namespace PySem
open Sem (wp)
section
variable {prog : Program} {w : World} {A : Around} {E : Value → Shared → Prop} {s : Shared}
def Heap.DictRaw (h : Heap) (d : Addr) (es : Array DictEntry) (ep : Nat) : Prop := ∃ o, h.get? d = some o ∧ o.ExactDict ∧ o.data = .dict es ep
theorem Heap.DictRaw.ty {d : Addr} {es : Array DictEntry} {ep : Nat} (x : s.heap.DictRaw d es ep) : s.TypeIs (.ref d) "dict" := let ⟨o, ho, hc, _⟩ := x; ⟨o, ho, hc.1⟩
theorem Heap.DictRaw.to {h h' : Heap} {d : Addr} {es : Array DictEntry} {ep : Nat} (x : h.DictRaw d es ep) (e : ∀ o, h.get? d = some o → h'.get? d = some o) : h'.DictRaw d es ep := let ⟨o, ho, r⟩ := x; ⟨o, e o ho, r⟩
end
end PySem
set_option maxRecDepth 100000
set_option maxHeartbeats 4000000
namespace L2
open PySem PySem.Spec PyProof.Rows
section
variable {X : Cx} {σ : St} {H H' : Hp} {Q : VK} {D : Ends} {K : PySem.W.Frag} {tg : Expr} {pos : Pos}
theorem KT.get {kvs : List (List Key × V)} {ys : List (List Key × Addr × Value)} (r : KT H kvs ys) : ∀ {i : Nat} {kv : List Key × V}, kvs[i]? = some kv → ∃ y, ys[i]? = some y ∧ kv.1 = y.1 ∧ H y.2.1 = some (.tup (kv.1.map kV)) := by
  induction r with
  | nil => intro i kv h; simp at h
  | @cons p q ps qs hq t ih =>
    intro i kv h
    cases i with
    | zero => exact ⟨q, rfl, by simp at h; subst h; exact ⟨hq.1, hq.2.1⟩⟩
    | succ i => simpa using ih (i := i) (kv := kv) (by simpa using h)
def Itk (d : Addr) (o : Obj) (kvs : List (List Key × V)) : It :=
  ⟨fun i H => H d = some (.frz o (.dT kvs)) ∧ i < kvs.length, fun i H x H' => H' = H ∧ ∃ t kv, x = .ref t ∧ kvs[i]? = some kv ∧ H t = some (.tup (kv.1.map kV)), fun i H => H d = some (.frz o (.dT kvs)) ∧ kvs.length ≤ i⟩
def AtK (R : It → Hp → Prop) (x : V) (H1 : Hp) : Prop := ∃ d kvs, x = .ref d ∧ H1 d = some (.dT kvs) ∧ ∀ o, R (Itk d o kvs) (upd H1 d (.frz o (.dT kvs)))
def iKeys (tl : TE) : TI := fun σ H R => tl σ H fun x H1 => AtK R x H1
theorem r_iKeys {tl : TE} {R : It → Hp → Prop} (h : tl σ H fun x H1 => AtK R x H1) : iKeys tl σ H R := h
end
end L2
set_option maxHeartbeats 4000000
namespace Lf
def nexts (row one other : List Int) (p : Int × Int) : List (Int × Int) :=
  (if p.1 < (one.length : Int) ∧ one.getD p.1.toNat 0 = row.getD (p.1 + p.2).toNat 0 then [(p.1 + 1, p.2)] else []) ++
  (if p.2 < (other.length : Int) ∧ other.getD p.2.toNat 0 = row.getD (p.1 + p.2).toNat 0 then [(p.1, p.2 + 1)] else [])
structure Box (one other : List Int) (p : Int × Int) : Prop where
  i0 : 0 ≤ p.1
  i1 : p.1 ≤ (one.length : Int)
  j0 : 0 ≤ p.2
  j1 : p.2 ≤ (other.length : Int)
theorem nexts_mem {row one other : List Int} {p q : Int × Int} : q ∈ nexts row one other p ↔ (p.1 < (one.length : Int) ∧ one.getD p.1.toNat 0 = row.getD (p.1 + p.2).toNat 0 ∧ q = (p.1 + 1, p.2)) ∨ (p.2 < (other.length : Int) ∧ other.getD p.2.toNat 0 = row.getD (p.1 + p.2).toNat 0 ∧ q = (p.1, p.2 + 1)) := by
  unfold nexts
  rw [List.mem_append]
  refine or_congr ?_ ?_
  · split
    · next h => simp only [List.mem_singleton]; exact ⟨fun e => ⟨h.1, h.2, e⟩, fun e => e.2.2⟩
    · next h => simp only [List.not_mem_nil, false_iff]; exact fun e => h ⟨e.1, e.2.1⟩
  · split
    · next h => simp only [List.mem_singleton]; exact ⟨fun e => ⟨h.1, h.2, e⟩, fun e => e.2.2⟩
    · next h => simp only [List.not_mem_nil, false_iff]; exact fun e => h ⟨e.1, e.2.1⟩
structure Bfs (row one other : List Int) (ps : List (Int × Int)) (par : Int × Int → Option (Int × Int)) (gone : Nat) : Prop where
  nodup : ps.Nodup
  box : ∀ p ∈ ps, Box one other p
  zero : ((0, 0) : Int × Int) ∈ ps
  keys : ∀ p, (par p).isSome = true ↔ p ∈ ps
  step : ∀ p q, par p = some q → p ≠ (0, 0) → q ∈ ps ∧ p ∈ nexts row one other q
  done : ∀ k, k < gone → ∀ q ∈ nexts row one other (ps.getD k (0, 0)), q ∈ ps
def boxes (a b : Nat) : List (Int × Int) := ((List.range a).map fun i : Nat => (List.range b).map fun j : Nat => ((i : Int), (j : Int))).flatten
theorem boxes_len (b : Nat) : ∀ a, (boxes a b).length = a * b
  | 0 => by simp [boxes]
  | a + 1 => by
    have ih := boxes_len b a
    unfold boxes at ih ⊢
    rw [List.range_succ, List.map_append, List.flatten_append, List.length_append, ih, Nat.succ_mul]
    simp
theorem Bfs.len {row one other : List Int} {ps : List (Int × Int)} {par : Int × Int → Option (Int × Int)} {gone : Nat} (B : Bfs row one other ps par gone) : ps.length ≤ (one.length + 1) * (other.length + 1) := by
  rw [← boxes_len]
  refine len_le_of_sub _ _ B.nodup fun p hp => ?_
  obtain ⟨b1, b2, b3, b4⟩ := B.box p hp
  unfold boxes
  rw [List.mem_flatten]
  refine ⟨_, List.mem_map.mpr ⟨p.1.toNat, List.mem_range.mpr (by omega), rfl⟩, List.mem_map.mpr ⟨p.2.toNat, List.mem_range.mpr (by omega), ?_⟩⟩
  rw [Int.toNat_of_nonneg b1, Int.toNat_of_nonneg b3]
theorem Bfs.un {row one other : List Int} {ps : List (Int × Int)} {par : Int × Int → Option (Int × Int)} (B : Bfs row one other ps par ps.length) (hl : row.length = one.length + other.length) (hn : ((one.length : Int), (other.length : Int)) ∉ ps) : UnOk row one other ps := by
  refine ⟨hl, B.zero, hn, fun p hp => ?_⟩
  obtain ⟨b1, b2, b3, b4⟩ := B.box p hp
  obtain ⟨k, hk, e⟩ := List.mem_iff_getElem.mp hp
  have d := B.done k hk
  rw [List.getD_eq_getElem?_getD, List.getElem?_eq_getElem hk] at d
  have d : ∀ q ∈ nexts row one other p, q ∈ ps := by rw [← e]; exact d
  exact ⟨b1, b2, b3, b4, fun h1 h2 => d _ (nexts_mem.mpr (.inl ⟨h1, h2, rfl⟩)), fun h1 h2 => d _ (nexts_mem.mpr (.inr ⟨h1, h2, rfl⟩))⟩
theorem Bfs.start (row one other : List Int) : Bfs row one other [(0, 0)] (fun p => if p = (0, 0) then some (0, 0) else none) 0 := by
  refine ⟨by simp, fun p hp => ?_, by simp, fun p => ?_, fun p q h hn => ?_, fun k hk => by omega⟩
  · have : p = (0, 0) := by simpa using hp
    subst this
    exact ⟨by show (0 : Int) ≤ 0; omega, by show (0 : Int) ≤ _; omega, by show (0 : Int) ≤ 0; omega, by show (0 : Int) ≤ _; omega⟩
  · by_cases h : p = (0, 0) <;> simp [h]
  · rw [if_neg hn] at h; cases h
structure BfsIn (row one other : List Int) (ps : List (Int × Int)) (par : Int × Int → Option (Int × Int)) (gone : Nat) (pair : Int × Int) (k : Nat) : Prop where
  b : Bfs row one other ps par gone
  here : ps.getD gone (0, 0) = pair
  lt : gone < ps.length
  fst : ∀ q ∈ (nexts row one other pair).take k, q ∈ ps
theorem BfsIn.skip {row one other : List Int} {ps : List (Int × Int)} {par : Int × Int → Option (Int × Int)} {gone k : Nat} {pair q : Int × Int} (B : BfsIn row one other ps par gone pair k) (hq : (nexts row one other pair)[k]? = some q) (h : q ∈ ps) : BfsIn row one other ps par gone pair (k + 1) := by
  obtain ⟨hk, e⟩ := List.getElem?_eq_some_iff.mp hq
  refine ⟨B.b, B.here, B.lt, fun p hp => ?_⟩
  rw [List.take_succ_eq_append_getElem hk, e] at hp
  rcases List.mem_append.mp hp with z | z
  · exact B.fst p z
  · have : p = q := by simpa using z
    rw [this]; exact h
theorem BfsIn.turn {row one other : List Int} {ps : List (Int × Int)} {par : Int × Int → Option (Int × Int)} {gone k : Nat} {pair : Int × Int} (B : BfsIn row one other ps par gone pair k) (hk : (nexts row one other pair).length ≤ k) : Bfs row one other ps par (gone + 1) := by
  refine ⟨B.b.nodup, B.b.box, B.b.zero, B.b.keys, B.b.step, fun i hi q hq => ?_⟩
  rcases Nat.lt_or_ge i gone with z | z
  · exact B.b.done i z q hq
  · have : i = gone := by omega
    subst this
    rw [B.here] at hq
    refine B.fst q ?_
    rw [List.take_of_length_le hk]
    exact hq
structure Wy (row one other : List Int) (i j : Nat) (P : List Int) : Prop where
  up : rising ((i : Int) + j - 1) row.length P = true
  at_ : picks row P = one.drop i
  oth : ((row.zipIdx.drop (i + j)).filter fun y => !decide ((y.2 : Int) ∈ P)).map (fun y => y.1) = other.drop j
theorem zip_drop {row : List Int} {k : Nat} (h : k < row.length) : row.zipIdx.drop k = (row.getD k 0, k) :: row.zipIdx.drop (k + 1) := by
  rw [List.drop_eq_getElem_cons (by rw [List.length_zipIdx]; exact h), List.getElem_zipIdx, List.getD_eq_getElem?_getD, List.getElem?_eq_getElem h]
  simp
theorem zip_ge {row : List Int} {k : Nat} {y : Int × Nat} (h : y ∈ row.zipIdx.drop k) : k ≤ y.2 := by
  obtain ⟨n, hn, e⟩ := List.mem_iff_getElem.mp h
  rw [List.getElem_drop, List.getElem_zipIdx] at e
  rw [← e]
  show k ≤ 0 + (k + n)
  omega
theorem Wy.start {row one other : List Int} (hl : row.length = one.length + other.length) : Wy row one other one.length other.length [] := by
  refine ⟨rfl, by simp [picks], ?_⟩
  rw [List.drop_of_length_le (by rw [List.length_zipIdx]; omega)]
  simp
theorem getD_drop {l : List Int} {i : Nat} (h : i < l.length) : l.drop i = l.getD i 0 :: l.drop (i + 1) := by
  rw [List.drop_eq_getElem_cons h, List.getD_eq_getElem?_getD, List.getElem?_eq_getElem h]; rfl
theorem Wy.left {row one other P : List Int} {i j : Nat} (W : Wy row one other (i + 1) j P) (hi : i < one.length) (hr : i + j < row.length) (h : one.getD i 0 = row.getD (i + j) 0) : Wy row one other i j (((i + j : Nat) : Int) :: P) := by
  obtain ⟨w1, w2, w3⟩ := W
  refine ⟨?_, ?_, ?_⟩
  · rw [rising, decide_eq_true (by omega), decide_eq_true (by omega)]
    have : ((i + 1 : Nat) : Int) + (j : Int) - 1 = ((i + j : Nat) : Int) := by omega
    rw [this] at w1
    exact w1
  · unfold picks at w2 ⊢
    rw [List.map_cons, w2, Int.toNat_natCast, getD_drop hi, h]
  · rw [zip_drop hr, List.filter_cons]
    have e : (!decide ((((row.getD (i + j) 0, i + j) : Int × Nat).2 : Int) ∈ ((i + j : Nat) : Int) :: P)) = false := by
      simp
    rw [e, if_neg (by decide), ← w3, show i + 1 + j = i + j + 1 by omega]
    congr 1
    refine List.filter_congr fun y hy => ?_
    have := zip_ge hy
    have ne : ¬ (y.2 : Int) = ((i + j : Nat) : Int) := by omega
    simp only [List.mem_cons, ne, false_or]
theorem Wy.right {row one other P : List Int} {i j : Nat} (W : Wy row one other i (j + 1) P) (hj : j < other.length) (hr : i + j < row.length) (h : other.getD j 0 = row.getD (i + j) 0) : Wy row one other i j P := by
  obtain ⟨w1, w2, w3⟩ := W
  refine ⟨rising_low _ _ _ _ (by omega) w1, w2, ?_⟩
  rw [zip_drop hr, List.filter_cons]
  have e : (!decide ((((row.getD (i + j) 0, i + j) : Int × Nat).2 : Int) ∈ P)) = true := by
    rw [Bool.not_eq_true', decide_eq_false_iff_not]
    intro m
    have := rising_in P _ _ w1 _ m
    simp at this
    omega
  rw [e, if_pos rfl, List.map_cons, show i + j + 1 = i + (j + 1) by omega, w3, getD_drop hj, h]
theorem Wy.mixed {row one other P : List Int} (W : Wy row one other 0 0 P) : Lf.mixed row one other P = true := by
  obtain ⟨w1, w2, w3⟩ := W
  unfold Lf.mixed others
  rw [stands_picks]
  have e1 : rising (-1) row.length P = true := w1
  rw [e1, w2, List.drop_zero, decide_eq_true rfl]
  rw [List.drop_zero, List.drop_zero] at w3
  rw [decide_eq_true w3]
  rfl
end Lf
set_option maxHeartbeats 4000000
namespace Lf
def dd : List Int → List Int
  | [] => []
  | x :: r => x :: (dd r).filter fun y => decide (y ≠ x)
def isKind (kinds x : Int) : Bool := decide (0 ≤ x ∧ x < kinds)
def kindsIn (kinds : Int) (l : List Int) : Nat := (dd (l.filter (isKind kinds))).length
def CutsOk (row : List Int) (kinds : Int) : Int → List Int → Prop
  | _, [] => True
  | b, e :: r => b < e ∧ e ≤ (row.length : Int) ∧ (kindsIn kinds (cut row b e) : Int) = kinds ∧ CutsOk row kinds e r
structure MiOk (row : List Int) (kinds : Int) (cuts word : List Int) : Prop where
  len : word.length = cuts.length + 1
  kin : ∀ s ∈ word, 0 ≤ s ∧ s < kinds
  gone : isLeft row word = false
  cuts : CutsOk row kinds 0 cuts
structure Mi (row : List Int) (kinds : Int) (cuts word : List Int) (b i : Nat) (seen : List Int) : Prop where
  few : (seen.length : Int) < kinds
  small : cuts.length ≤ i
  le : b ≤ i
  li : i ≤ row.length
  len : word.length = cuts.length
  last : (b : Int) = (if h : cuts = [] then 0 else cuts.getLast h)
  kin : ∀ s ∈ word, 0 ≤ s ∧ s < kinds
  nodup : seen.Nodup
  skip : ∀ L : List Int, (word ++ L).Sublist row → L.Sublist (row.drop b)
  cok : CutsOk row kinds 0 cuts
  sn : ∀ a, a ∈ seen ↔ a ∈ cut row b i ∧ isKind kinds a = true
theorem cut_snoc {row : List Int} {b i : Nat} (h : b ≤ i) (hi : i < row.length) : cut row b ((i : Int) + 1) = cut row b i ++ [row.getD i 0] := by
  unfold cut
  rw [Int.toNat_natCast, Int.toNat_natCast, show ((i : Int) + 1).toNat - b = (i - b) + 1 by omega, List.take_succ_eq_append_getElem (by rw [List.length_drop]; omega), List.getElem_drop, List.getD_eq_getElem?_getD, List.getElem?_eq_getElem hi]
  congr 2
  have : b + (i - b) = i := by omega
  simp [this]
theorem cut_all {row : List Int} {b : Nat} : cut row b row.length = row.drop b := by
  unfold cut
  rw [Int.toNat_natCast, Int.toNat_natCast, List.take_of_length_le (by rw [List.length_drop]; exact Nat.le_refl _)]
theorem Mi.start {row : List Int} {kinds : Int} (hk : 1 ≤ kinds) : Mi row kinds [] [] 0 0 [] := by
  refine ⟨by simp; omega, Nat.le_refl _, Nat.le_refl _, Nat.zero_le _, rfl, rfl, by simp, by simp, fun L h => by simpa using h, trivial, fun a => ?_⟩
  have : cut row ((0 : Nat) : Int) ((0 : Nat) : Int) = [] := cut_none (Int.le_refl _)
  rw [this]; simp
theorem Mi.more {row : List Int} {kinds : Int} {cuts word : List Int} {b i : Nat} {seen seen' : List Int} (M : Mi row kinds cuts word b i seen) (hi : i < row.length) (h : isKind kinds (row.getD i 0) = true) (hs : row.getD i 0 ∉ seen) (e : seen' = seen ++ [row.getD i 0]) (hf : (seen'.length : Int) < kinds) : Mi row kinds cuts word b (i + 1) seen' := by
  subst e
  refine ⟨hf, by have := M.small; omega, by have := M.le; omega, hi, M.len, M.last, M.kin, ?_, M.skip, M.cok, fun a => ?_⟩
  · rw [List.nodup_append]
    refine ⟨M.nodup, by simp, fun x hx y hy => ?_⟩
    have : y = row.getD i 0 := by simpa using hy
    rw [this]
    exact fun z => hs (z ▸ hx)
  · rw [show ((i + 1 : Nat) : Int) = (i : Int) + 1 by omega, cut_snoc M.le hi, List.mem_append, List.mem_append, M.sn a, List.mem_singleton]
    constructor
    · rintro (h1 | h1)
      · exact ⟨.inl h1.1, h1.2⟩
      · exact ⟨.inr h1, by rw [h1]; exact h⟩
    · rintro ⟨h1 | h1, h2⟩
      · exact .inl ⟨h1, h2⟩
      · exact .inr h1
theorem Mi.done {row : List Int} {kinds : Int} {cuts word : List Int} {b : Nat} {seen : List Int} {u : Int} (M : Mi row kinds cuts word b row.length seen) (h1 : 0 ≤ u) (h2 : u < kinds) (hu : u ∉ seen) : MiOk row kinds cuts (word ++ [u]) := by
  refine ⟨by rw [List.length_append, M.len]; rfl, fun s hs => ?_, ?_, M.cok⟩
  · rcases List.mem_append.mp hs with q | q
    · exact M.kin s q
    · have : s = u := by simpa using q
      rw [this]; exact ⟨h1, h2⟩
  · rw [Bool.eq_false_iff]
    intro z
    have := M.skip [u] ((isLeft_iff _ _).mp z)
    have m := List.singleton_sublist.mp this
    refine hu ((M.sn u).mpr ⟨?_, decide_eq_true ⟨h1, h2⟩⟩)
    rw [cut_all]; exact m
end Lf
set_option maxRecDepth 100000
set_option maxHeartbeats 4000000
namespace L2
open PySem PySem.Spec PyProof.Rows
section
variable {σ : St} {H H' : Hp} {Q : VK} {D : Ends} {K : PySem.W.Frag} {X : Cx}
theorem RdV.pair {t : Addr} {i j : Int} (ht : H t = some (.tup [.int i, .int j])) : RdV K H (.ref t) (dP (i, j)) := .tup (SqT.of ht) (.cons (.int i) (.cons (.int j) .nil))
def GD (Q : VK) (x y : V) (H2 : Hp) : Prop := ∃ a v, x = .ref a ∧ DGet H2 a y (some v) ∧ Q v H2
theorem r_dget {td ty : TE} (h : td σ H fun x H1 => ty σ H1 fun y H2 => GD Q x y H2) : tDGet td ty σ H Q := h
end
end L2
namespace L2
open PySem PySem.Spec PyProof.Rows
abbrev kPp (q : Int × Int) : List Key := kP q.1 q.2
structure ParOk (H : Hp) (kvs : List (List Key × V)) (par : Int × Int → Option (Int × Int)) : Prop where
  no : ∀ p, par p = none → valV kvs (kPp p) = none
  yes : ∀ p q, par p = some q → ∃ t, valV kvs (kPp p) = some (.ref t) ∧ H t = some (.tup [.int q.1, .int q.2])
section
variable {H H' : Hp}
theorem ParOk.same {kvs : List (List Key × V)} {par : Int × Int → Option (Int × Int)} (A : ParOk H kvs par) (h : ∀ t xs, H t = some (.tup xs) → H' t = some (.tup xs)) : ParOk H' kvs par :=
  ⟨A.no, fun p q e => let ⟨t, h1, h2⟩ := A.yes p q e; ⟨t, h1, h _ _ h2⟩⟩
theorem Prs.but {ls : List Addr} {p : Addr} {ts : List Addr} {ps : List (Int × Int)} (T : Prs H p ts ps) (s : SameBut ls H H') (h1 : p ∉ ls) (h2 : ∀ t ∈ ts, t ∉ ls) : Prs H' p ts ps :=
  ⟨s.at T.at_ h1, T.len, fun i t ht => s.at (T.row i t ht) (h2 t (List.mem_of_getElem? ht))⟩
theorem Prs.mem {p : Addr} {ts : List Addr} {ps : List (Int × Int)} (T : Prs H p ts ps) {t : Addr} (h : t ∈ ts) : ∃ i j, H t = some (.tup [.int i, .int j]) := by
  obtain ⟨n, hn⟩ := List.getElem?_of_mem h
  exact ⟨_, _, T.row n t hn⟩
end
end L2
set_option maxRecDepth 100000
set_option maxHeartbeats 4000000
namespace L2
open PySem PySem.Spec PyProof.Rows
section
variable {X : Cx} {σ : St} {H H' : Hp} {Q : VK} {D : Ends} {K : PySem.W.Frag} {P : Program} {w : World}
theorem Inv.drawn {pins : List (Addr × Obj)} {s : Shared} (I : Inv X pins σ H s) (d : Drawn) : Inv X pins σ H { s with drawn := d } := ⟨I.ok, I.os, I.bare, I.base, I.loc, I.cell, I.free, I.freeC, I.pin, I.hok, I.len⟩
end
end L2
set_option maxRecDepth 100000
set_option maxHeartbeats 4000000
namespace L2
open PySem PySem.Spec PyProof.Rows
section
variable {σ : St} {H H' : Hp} {Q : VK} {D : Ends} {K : PySem.W.Frag} {X : Cx}
theorem kit_bb {K : PySem.W.Frag} : PySem.W.kitOne K (.type "bool") (.type "bool") = some true := rfl
theorem r_isi_bb {z : Bool} (h : Q (.bl true) H) : rIsi K [.bl z, .ty "bool"] H Q := r_isi rfl (.bl z) kit_bb h
theorem rdvs_lists : ∀ (ls : List Addr) (tb : List (List Int)), ls.length = tb.length → (∀ (i : Nat) (t : Addr), ls[i]? = some t → H t = some (.lst ((tb.getD i []).map V.int))) → RdVs K H (ls.map V.ref) (tb.map dI)
  | [], [], _, _ => .nil
  | [], _ :: _, h, _ => by simp at h
  | _ :: _, [], h, _ => by simp at h
  | t :: ts, p :: ps, h, f => .cons (RdV.ints (SqL.of (f 0 t rfl))) (rdvs_lists ts ps (by simpa using h) fun i u e => f (i + 1) u e)
theorem Tab.rd {t : Addr} {ls : List Addr} {tb : List (List Int)} (T : Tab H t ls tb) : RdV K H (.ref t) (dL tb) := .lst (SqL.of T.at_) (rdvs_lists ls tb T.len T.row)
def dT (xss : List (List Int)) (tb : List (List Int)) : PyData := .list (xss.map dI ++ [dL tb])
def PrA (H : Hp) (ts : List Addr) (ps : List (Int × Int)) : Prop := ts.length = ps.length ∧ ∀ (i : Nat) (t : Addr), ts[i]? = some t → H t = some (.tup [.int (ps.getD i (0, 0)).1, .int (ps.getD i (0, 0)).2])
theorem Prs.a {p : Addr} {ts : List Addr} {ps : List (Int × Int)} (T : Prs H p ts ps) : PrA H ts ps := ⟨T.len, T.row⟩
theorem PrA.same {ts : List Addr} {ps : List (Int × Int)} (A : PrA H ts ps) (s : Same H H') : PrA H' ts ps := ⟨A.1, fun i t h => s.at (A.2 i t h)⟩
theorem PrA.nil : PrA H [] [] := ⟨rfl, fun i t h => by simp at h⟩
theorem PrA.cons {t : Addr} {i j : Int} {ts : List Addr} {ps : List (Int × Int)} (h : H t = some (.tup [.int i, .int j])) (A : PrA H ts ps) : PrA H (t :: ts) ((i, j) :: ps) := ⟨by simp [A.1], fun n u e => by
  cases n with
  | zero => simp at e; subst e; exact h
  | succ n => exact A.2 n u (by simpa using e)⟩
theorem PrA.take {ts : List Addr} {ps : List (Int × Int)} (A : PrA H ts ps) (n : Nat) : PrA H (ts.take n) (ps.take n) := ⟨by simp [A.1], fun i t h => by
  rw [List.getElem?_take] at h
  split at h
  · rename_i q
    have := A.2 i t h
    rw [List.getD_eq_getElem?_getD] at this ⊢
    rw [List.getElem?_take, if_pos q]; exact this
  · cases h⟩
theorem PrA.drop {ts : List Addr} {ps : List (Int × Int)} (A : PrA H ts ps) (n : Nat) : PrA H (ts.drop n) (ps.drop n) := ⟨by simp [A.1], fun i t h => by
  rw [List.getElem?_drop] at h
  have := A.2 _ t h
  rw [List.getD_eq_getElem?_getD] at this ⊢
  rw [List.getElem?_drop]; exact this⟩
theorem PrA.append {ts ts' : List Addr} {ps ps' : List (Int × Int)} (A : PrA H ts ps) (B : PrA H ts' ps') : PrA H (ts ++ ts') (ps ++ ps') := ⟨by simp [A.1, B.1], fun i t h => by
  by_cases q : i < ts.length
  · rw [List.getElem?_append_left q] at h
    have := A.2 i t h
    rw [List.getD_eq_getElem?_getD] at this ⊢
    rw [List.getElem?_append_left (by rw [← A.1]; exact q)]; exact this
  · rw [List.getElem?_append_right (by omega)] at h
    have := B.2 _ t h
    rw [List.getD_eq_getElem?_getD] at this ⊢
    rw [List.getElem?_append_right (by rw [← A.1]; omega), ← A.1]; exact this⟩
theorem PrA.reverse {ts : List Addr} {ps : List (Int × Int)} (A : PrA H ts ps) : PrA H ts.reverse ps.reverse := ⟨by simp [A.1], fun i t h => by
  have hi : i < ts.length := by
    have := (List.getElem?_eq_some_iff.mp h).1
    simpa using this
  rw [List.getElem?_reverse hi] at h
  have := A.2 _ t h
  rw [List.getD_eq_getElem?_getD] at this ⊢
  rw [List.getElem?_reverse (by rw [← A.1]; exact hi), ← A.1]; exact this⟩
def TbA (H : Hp) (ls : List Addr) (tb : List (List Int)) : Prop := ls.length = tb.length ∧ ∀ (i : Nat) (l : Addr), ls[i]? = some l → H l = some (.lst ((tb.getD i []).map V.int))
theorem Tab.a {p : Addr} {ts : List Addr} {ps : List (List Int)} (T : Tab H p ts ps) : TbA H ts ps := ⟨T.len, T.row⟩
theorem TbA.same {ts : List Addr} {ps : List (List Int)} (A : TbA H ts ps) (s : Same H H') : TbA H' ts ps := ⟨A.1, fun i t h => s.at (A.2 i t h)⟩
theorem TbA.nil : TbA H [] [] := ⟨rfl, fun i t h => by simp at h⟩
theorem TbA.cons {t : Addr} {xs : List Int} {ts : List Addr} {ps : List (List Int)} (h : H t = some (.lst (xs.map V.int))) (A : TbA H ts ps) : TbA H (t :: ts) (xs :: ps) := ⟨by simp [A.1], fun n u e => by
  cases n with
  | zero => simp at e; subst e; exact h
  | succ n => exact A.2 n u (by simpa using e)⟩
theorem TbA.drop {ts : List Addr} {ps : List (List Int)} (A : TbA H ts ps) (n : Nat) : TbA H (ts.drop n) (ps.drop n) := ⟨by simp [A.1], fun i t h => by
  rw [List.getElem?_drop] at h
  have := A.2 _ t h
  rw [List.getD_eq_getElem?_getD] at this ⊢
  rw [List.getElem?_drop]; exact this⟩
theorem TbA.append {ts ts' : List Addr} {ps ps' : List (List Int)} (A : TbA H ts ps) (B : TbA H ts' ps') : TbA H (ts ++ ts') (ps ++ ps') := ⟨by simp [A.1, B.1], fun i t h => by
  by_cases q : i < ts.length
  · rw [List.getElem?_append_left q] at h
    have := A.2 i t h
    rw [List.getD_eq_getElem?_getD] at this ⊢
    rw [List.getElem?_append_left (by rw [← A.1]; exact q)]; exact this
  · rw [List.getElem?_append_right (by omega)] at h
    have := B.2 _ t h
    rw [List.getD_eq_getElem?_getD] at this ⊢
    rw [List.getElem?_append_right (by rw [← A.1]; omega), ← A.1]; exact this⟩
theorem TbA.set {ts : List Addr} {ps : List (List Int)} {n : Nat} {t : Addr} {xs : List Int} (A : TbA H ts ps) (h : H t = some (.lst (xs.map V.int))) : TbA H (ts.set n t) (ps.set n xs) := ⟨by simp [A.1], fun i u e => by
  rw [List.getElem?_set] at e
  rw [List.getD_eq_getElem?_getD, List.getElem?_set]
  split at e
  · rename_i q
    rw [if_pos q]
    split at e
    · rename_i q2
      cases e
      rw [if_pos (by rw [← A.1]; exact q2)]
      exact h
    · cases e
  · rename_i q
    rw [if_neg q]
    have := A.2 i u e
    rw [List.getD_eq_getElem?_getD] at this
    exact this⟩
theorem Tab.but {ls ls' : List Addr} {t : Addr} {tb : List (List Int)} (T : Tab H t ls tb) (s : SameBut ls' H H') (h1 : t ∉ ls') (h2 : ∀ l ∈ ls, l ∉ ls') : Tab H' t ls tb := ⟨s.at T.at_ h1, T.len, fun i l hl => s.at (T.row i l hl) (h2 l (List.mem_of_getElem? hl))⟩
end
end L2
set_option maxRecDepth 100000
set_option maxHeartbeats 4000000
namespace L2
open PySem PySem.Spec PyProof.Rows
theorem dict_fields (o : Obj) (g : Array Value → Array Value) : (o.mapFields g).dict = o.dict := by
  obtain ⟨_, _, dt, _⟩ := o
  cases dt <;> rfl
def XAt (B : Heap) (C e : Addr) (fl : Value) (h : Heap) : Prop :=
  B.get? e = none ∧ ∃ (ob oT : Obj) (vs ts : Array Value) (T : Addr), h.get? e = some ob ∧ (ob.cls = .ref C ∧ ob.dict = none ∧ ob.data = .fields vs) ∧ (vs[1]? = some (.ref T) ∧ vs[2]? = some .none) ∧ (B.get? T = none ∧ T ≠ e) ∧ h.get? T = some oT ∧ oT.data = .fields ts ∧ ts[3]? = some fl
structure Stay (B : Heap) (l : List Env) (h h' : Heap) : Prop where
  kb : B.StaysIn h'
  fr : h'.FunFrames B l
  sl : ∀ b o, b ∈ frs l → h.get? b = some o → ∃ z, h'.get? b = some { o with slots := z }
theorem Stay.trans {B : Heap} {l : List Env} {h h' h'' : Heap} (x : Stay B l h h') (y : Stay B l h' h'') : Stay B l h h'' :=
  ⟨y.kb, y.fr, fun b o hb e => by
    obtain ⟨z, e1⟩ := x.sl b o hb e
    obtain ⟨z', e2⟩ := y.sl b _ hb e1
    exact ⟨z', e2⟩⟩
section
variable {M : Model} {A : Around} {E : Value → Shared → Prop} {s : Shared} {B : Heap} {env : Env} {outer : List Env} {L C e : Addr} {Q : Unit → Shared → Prop}
theorem entry_new {ob : Obj} {vs : Array Value} {hd : Value} {nx : Bool} (hA : A.frames = some (env :: outer)) (hF : s.heap.FunFrames B (env :: outer)) (hL : env.frame = some L) (hB : B.StaysIn s.heap)
    (ho : s.heap.get? e = some ob) (hn : B.get? e = none) (hc : ob.cls = .ref C ∧ ob.dict = none ∧ ob.data = .fields vs) (hz : 1 < vs.size) (h2 : vs[2]? = some .none)
    (k : ∀ h', Stay B (env :: outer) s.heap h' → XAt B C e (rawInt L) h' → Q () { s with heap := h' }) :
    wpAny M A (do let fr ← frameOf env; let at' ← entryPlaceOf L nx; let en ← EntryCells.newEntry hd fr .none (rawInt L) .none at'; setField (.ref e) 1 en) Q E s := by
  have nfr : ∀ b ∈ frs (env :: outer), b ≠ e := fun b hb z => by
    obtain ⟨_, o, g, nf⟩ := hF.mem hb
    rw [z, ho] at g
    cases g
    exact nf vs hc.2.2
  refine wpAny_bind (wpAny_frameOf_fun hA hF hL fun h1 so => wpAny_bind (wpAny_entryPlaceOf fun at' ip => ?_))
  unfold EntryCells.newEntry newFields
  refine wpAny_bind (wpAny_newObj_type ?_ (ip.sizeOk5 _ _ _ _ _))
  have ho1 : h1.get? e = some ob := (so.2.1 e fun hm => nfr e hm rfl).trans ho
  have hB1 : B.StaysIn h1 := fun b o g => (so.2.1 b fun hm => by rw [(hF.mem hm).1] at g; cases g).trans (hB b o g)
  generalize hTB : ({ cls := .type "traceback", dict := none, data := .fields ([hd, .ref L, .none, rawInt L, .none] ++ (if at'.isEmpty then List.replicate 6 Value.none else at')).toArray } : Obj) = TB
  have ho2 : (h1.push TB).get? e = some ob := Heap.get?_push_of_some _ ho1
  have hd3 := Obj.data_mapFields hc.2.2 fun a => a.setIfInBounds 1 (Value.ref h1.objs.size)
  have Te : h1.objs.size ≠ e := Nat.ne_of_gt (Heap.lt_size ho1)
  have keep : ∀ b o, b ≠ e → h1.get? b = some o → ((h1.push TB).update e (Obj.mapFields fun a => a.setIfInBounds 1 (Value.ref h1.objs.size))).get? b = some o := fun b o hb g => by
    rw [Heap.get?_update_other _ _ (Ne.symm hb)]
    exact Heap.get?_push_of_some _ g
  refine wpAny_setField ho2 hc.2.2 hz (k _ ⟨fun b o g => keep b o (fun z => by rw [z, hn] at g; cases g) (hB1 b o g), hF.of_keeps fun b o g nf => ?_, fun b o hb g => ?_⟩ ⟨hn, _, TB, _, _, h1.objs.size, Heap.get?_update_self _ ho2 (Obj.isFreed_of_fields hd3), ⟨(Obj.cls_mapFields _ _).trans hc.1, (dict_fields _ _).trans hc.2.1, hd3⟩, ⟨by simp [hz], by rw [Array.getElem?_setIfInBounds_ne (by decide)]; exact h2⟩, ⟨hB1.fresh, Te⟩, ?_, by rw [← hTB], ?_⟩)
  · obtain ⟨z, g1⟩ := so.2.2 b o g
    exact ⟨_, keep b _ (fun q => by rw [q, ho] at g; cases g; exact nf vs hc.2.2) g1, rfl⟩
  · obtain ⟨z, g1⟩ := so.2.2 b o g
    exact ⟨z, keep b _ (nfr b hb) g1⟩
  · rw [Heap.get?_update_other _ _ (Ne.symm Te)]
    exact Heap.get?_push_size h1 (by rw [← hTB]; rfl)
  · simp
theorem note_first {ob : Obj} {vs : Array Value} (hA : A.frames = some (env :: outer)) (hF : s.heap.FunFrames B (env :: outer)) (hL : env.frame = some L) (hB : B.StaysIn s.heap)
    (ho : s.heap.get? e = some ob) (hn : B.get? e = none) (hc : ob.cls = .ref C ∧ ob.dict = none ∧ ob.data = .fields vs) (h1 : vs[1]? = some .none) (h2 : vs[2]? = some .none)
    (k : ∀ h', Stay B (env :: outer) s.heap h' → XAt B C e (rawInt L) h' → Q () { s with heap := h' }) : wpAny M A (noteFrame (.ref e) env) Q E s := by
  unfold noteFrame
  simp only [hL]
  refine wpAny_bind (wpAny_field ho hc.2.2 h1 ?_)
  rw [if_neg (by decide)]
  exact entry_new hA hF hL hB ho hn hc (Array.getElem?_eq_some_iff.mp h1).1 h2 k
theorem note_on (hA : A.frames = some (env :: outer)) (hF : s.heap.FunFrames B (env :: outer)) (hL : env.frame = some L) (hB : B.StaysIn s.heap) (x : XAt B C e .none s.heap)
    (k : ∀ h', Stay B (env :: outer) s.heap h' → XAt B C e (rawInt L) h' → Q () { s with heap := h' }) : wpAny M A (noteFrame (.ref e) env) Q E s := by
  obtain ⟨hn, ob, oT, vs, ts, T, ho, hc, ⟨h1, h2⟩, ⟨hT, Te⟩, hoT, hdT, h3⟩ := x
  unfold noteFrame
  simp only [hL]
  refine wpAny_bind (wpAny_field ho hc.2.2 h1 ?_)
  rw [if_pos (by simp)]
  refine wpAny_bind (wpAny_field hoT hdT h3 ?_)
  rw [if_neg (by simp [rawInt])]
  refine wpAny_bind (wpAny_setField hoT hdT (Array.getElem?_eq_some_iff.mp h3).1 ?_)
  have oth : ∀ b, b ≠ T → (s.heap.update T (Obj.mapFields fun a => a.setIfInBounds 3 Value.none)).get? b = s.heap.get? b := fun b hb => Heap.get?_update_other _ _ (Ne.symm hb)
  have nT : ∀ b o, s.heap.get? b = some o → (∀ ws, o.data ≠ .fields ws) → b ≠ T := fun b o g nf q => by
    rw [q, hoT] at g
    cases g
    exact nf ts hdT
  refine entry_new (ob := ob) (vs := vs) hA (hF.of_keeps fun b o g nf => ⟨o, (oth b (nT b o g nf)).trans g, rfl⟩) hL (fun b o g => (oth b fun z => by rw [z, hT] at g; cases g).trans (hB b o g)) ((oth e (Ne.symm Te)).trans ho) hn hc (Array.getElem?_eq_some_iff.mp h1).1 h2 fun h' st x' => k h' ⟨st.kb, st.fr, fun b o hb g => st.sl b o hb ?_⟩ x'
  obtain ⟨_, o', g', nf⟩ := hF.mem hb
  exact (oth b (nT b o' g' nf)).trans g
theorem land {l : List Env} {fl : Value} (hF : s.heap.FunFrames B l) (hB : B.StaysIn s.heap) (x : XAt B C e fl s.heap)
    (k : ∀ h', Stay B l s.heap h' → XAt B C e .none h' → Q () { s with heap := h' }) : wpAny M A (setFlight (.ref e) none) Q E s := by
  obtain ⟨hn, ob, oT, vs, ts, T, ho, hc, ⟨h1, h2⟩, ⟨hT, Te⟩, hoT, hdT, h3⟩ := x
  have z3 : 3 < ts.size := (Array.getElem?_eq_some_iff.mp h3).1
  have oth : ∀ b, b ≠ T → (s.heap.update T (Obj.mapFields fun a => a.setIfInBounds 3 ((none : Option Addr).elim Value.none fun f => rawInt f))).get? b = s.heap.get? b := fun b hb => Heap.get?_update_other _ _ (Ne.symm hb)
  have nT : ∀ b o, s.heap.get? b = some o → (∀ ws, o.data ≠ .fields ws) → b ≠ T := fun b o g nf q => by
    rw [q, hoT] at g
    cases g
    exact nf ts hdT
  unfold setFlight
  refine wpAny_bind (wpAny_field ho hc.2.2 h1 ?_)
  rw [if_pos (by simp)]
  refine wpAny_setField hoT hdT z3 (k _ ⟨fun b o g => (oth b fun z => by rw [z, hT] at g; cases g).trans (hB b o g), hF.of_keeps fun b o g nf => ⟨o, (oth b (nT b o g nf)).trans g, rfl⟩, fun b o hb g => ?_⟩ ⟨hn, ob, _, vs, _, T, (oth e (Ne.symm Te)).trans ho, hc, ⟨h1, h2⟩, ⟨hT, Te⟩, Heap.get?_update_self _ hoT (Obj.isFreed_of_fields (Obj.data_mapFields hdT _)), Obj.data_mapFields hdT _, by simp [z3]⟩)
  obtain ⟨_, o', g', nf⟩ := hF.mem hb
  exact ⟨o.slots, (oth b (nT b o' g' nf)).trans g⟩
end
section
variable {P : Program} {w : World} {H H' : Hp} {h h' B : Heap} {a : Addr} {o : HO}
theorem ObjOk.there (x : ObjOk P w H h a o) : ∃ u, h.get? a = some u := by
  cases o with
  | lst xs => obtain ⟨_, _, _, _, g⟩ := x; exact ⟨_, g⟩
  | tup xs => obtain ⟨_, _, _, _, g, _⟩ := x; exact ⟨_, g⟩
  | dK kvs => obtain ⟨_, _, _, _, _, _, _, g, _⟩ := x; exact ⟨_, g⟩
  | dT kvs => obtain ⟨_, _, _, _, _, _, _, g, _⟩ := x; exact ⟨_, g⟩
  | set S n => obtain ⟨_, _, _, _, g, _⟩ := x; exact ⟨_, g⟩
  | ins C dx fs => obtain ⟨_, _, _, g, _⟩ := x; exact ⟨_, g⟩
  | own y => exact x
  | xd fs => obtain ⟨_, ⟨_, _, _, g, _⟩, _⟩ := x; exact ⟨_, g⟩
  | rng lo hi => obtain ⟨_, _, _, g⟩ := x; exact ⟨_, g⟩
  | frz ob u => obtain ⟨g, _⟩ := x; exact ⟨_, g⟩
  | tbl ps => exact ⟨_, show h.get? a = some _ from x⟩
  | met f y => exact ⟨_, show h.get? a = some _ from x⟩
  | ext φ => obtain ⟨_, g, _⟩ := x; exact g
theorem HOk.stayB (x : HOk P w H h) (tr : ∀ b u, H b = some u → ∃ o, B.get? b = some o) (k : B.StaysIn h) (k' : B.StaysIn h') : HOk P w H h' := fun a o e =>
  (x a o e).stay (fun b u hb q => by
    have : ∃ u', H b = some u' := by
      rcases hb with z | z
      · exact ⟨o, by rw [z]; exact e⟩
      · exact ⟨_, z⟩
    obtain ⟨u', e'⟩ := this
    obtain ⟨o', g⟩ := tr b u' e'
    have := k b o' g
    rw [q] at this
    cases this
    exact k' b u g) (fun _ q => q) fun _ _ q => q
end
def CXR (P : Program) (w : World) : CXT := fun outer H s E e s' => ∃ (a C : Addr) (B : Heap) (H' : Hp), e = .ref a ∧ (s'.os = s.os ∧ AllBare s'.gens) ∧ Un (frs outer) [] H H' s.heap s'.heap ∧ HOk P w H' s'.heap ∧
  (B.StaysIn s'.heap ∧ s'.heap.FunFrames B outer ∧ XAt B C a .none s'.heap) ∧ (∀ b u, H' b = some u → ∃ o, B.get? b = some o) ∧ (∀ b o, s.heap.get? b = some o → b ∉ frs outer → ∃ o', B.get? b = some o' ∧ (H b = none → o' = o)) ∧ E (.ref C) none H'
theorem un_out {fs : List Addr} {H H' : Hp} {h h1 h2 B : Heap} (u : Un fs [] H H' h h1) (kp : ∀ b o, h.get? b = some o → b ∉ fs → ∃ o', B.get? b = some o' ∧ (H b = none → o' = o)) (kb : B.StaysIn h2)
    (sl : ∀ b o, b ∈ fs → h1.get? b = some o → ∃ z, h2.get? b = some { o with slots := z }) : Un fs [] H H' h h2 := by
  refine ⟨fun b o e n hb _ => ?_, fun b o e n hb nx => ?_, u.free, fun b o e nx => ?_, u.tups, u.frzs, u.tbls⟩
  · obtain ⟨o', g, q⟩ := kp b o e hb
    rw [← q n]
    exact kb b o' g
  · obtain ⟨z, g⟩ := u.slot b o e n hb nx
    obtain ⟨z', g'⟩ := sl b _ hb g
    exact ⟨z', g'⟩
  · by_cases hb : b ∈ fs
    · obtain ⟨o', g⟩ := u.there b o e nx
      obtain ⟨z, g'⟩ := sl b o' hb g
      exact ⟨_, g'⟩
    · obtain ⟨o', g, _⟩ := kp b o e hb
      exact ⟨o', kb b o' g⟩
section
variable {P : Program} {w : World} {K : PySem.W.Frag} {mg : Str → Option Value} {base : Heap} {N : List Str} {qual : Str} {scope : Scope} {f : Addr} {cd : Value} {A : Around} {outer : List Env} {s : Shared} {H : Hp} {E : XK}
abbrev cxR (P : Program) (w : World) (K : PySem.W.Frag) (mg : Str → Option Value) (base : Heap) (N : List Str) (qual : Str) (scope : Scope) (f : Addr) (cd : Value) (A : Around) (outer : List Env) (s : Shared) (H : Hp) (E : XK) : Cx := cxOf (CXR P w) P w K mg base N qual scope f cd A outer s H E
theorem cxR_fr {pins : List (Addr × Obj)} {σ : St} {H1 : Hp} {s1 : Shared} (I : Inv (cxR P w K mg base N qual scope f cd A outer s H E) pins σ H1 s1) {b : Addr} {o : Obj} (e : s.heap.get? b = some o) (hb : b ∉ frs outer) : b ∉ frs (cxR P w K mg base N qual scope f cd A outer s H E).stack := fun z => by
  rcases List.mem_cons.mp (I.stkSub b z) with q | q
  · have : s.heap.objs.size ≤ b := by rw [q]; exact I.ok.above
    exact absurd (Nat.lt_of_lt_of_le (Heap.lt_size e) this) (Nat.lt_irrefl _)
  · exact hb q
theorem go_out {pins : List (Addr × Obj)} {σ : St} {H' : Hp} {s2 s3 : Shared} {B : Heap} {C e : Addr} {z : Value} (J : Inv (cxR P w K mg base N qual scope f cd A outer s H E) pins σ H' s2) (hos : s3.os = s2.os) (hg : AllBare s3.gens)
    (kp : ∀ b o, s.heap.get? b = some o → b ∉ frs outer → ∃ o', B.get? b = some o' ∧ (H b = none → o' = o)) (tr : ∀ b u, H' b = some u → ∃ o, B.get? b = some o) (kB : B.StaysIn s2.heap)
    (st : Stay B (cxR P w K mg base N qual scope f cd A outer s H E).stack s2.heap s3.heap) (x : XAt B C e z s3.heap) (q : E (.ref C) none H') :
    wpAny (model P w) (cxR P w K mg base N qual scope f cd A outer s H E).A (setFlight (.ref e) none) (fun _ s'' => CXR P w outer H s E (.ref e) s'') (fun e' s'' => CXR P w outer H s E e' s'') s3 := by
  refine land st.fr st.kb x fun h4 st4 x4 => ?_
  have st' := st.trans st4
  obtain ⟨_, _, fr⟩ := st'.fr
  refine ⟨e, C, B, H', rfl, ⟨hos.trans J.os, hg⟩, un_out J.base kp st'.kb fun b o hb g => st'.sl b o ?_ g, J.hok.stayB tr kB st'.kb, ⟨st'.kb, fr, x4⟩, tr, kp, q⟩
  unfold frs
  show b ∈ List.filterMap _ (_ :: outer)
  rw [List.filterMap_cons]
  exact List.mem_cons_of_mem _ hb
theorem passR : Passes (CXR P w) (cxR P w K mg base N qual scope f cd A outer s H E) E := by
  intro pins σ H1 s1 e s' I h
  obtain ⟨a, C, B, H', rfl, ⟨os, bare⟩, un, hok, ⟨kb, fr, x⟩, tr, kp, q⟩ := h
  have J : Inv (cxR P w K mg base N qual scope f cd A outer s H E) pins σ H' { s1 with heap := s'.heap, gens := s'.gens, drawn := s'.drawn, toks := s'.toks } := I.call un hok bare (fun b z => nomatch z)
  have kp' : ∀ b o, s.heap.get? b = some o → b ∉ frs outer → ∃ o', B.get? b = some o' ∧ (H b = none → o' = o) := fun b o g hb => by
    obtain ⟨o1, g1⟩ := I.base.there b o g (by intro z; cases z)
    obtain ⟨o', g', q'⟩ := kp b o1 g1 (cxR_fr I g hb)
    refine ⟨o', g', fun n => ?_⟩
    have g2 := I.base.keep b o g n hb (by intro z; cases z)
    rw [g1] at g2
    cases g2
    exact q' (I.base.free b o g n (by intro z; cases z))
  show wpAny _ _ (leaving _ _) _ _ _
  unfold leaving
  refine wpAny_bind (note_on I.ok.frames fr rfl kb x fun h3 st x3 => ?_)
  exact go_out J os bare kp' tr kb st x3 q
end
end L2
set_option maxRecDepth 100000
set_option maxHeartbeats 4000000
namespace L2
open PySem PySem.Spec PyProof.Rows
abbrev VE : List Value := [.type "ValueError", .type "Exception", .type "BaseException", .type "object"]
def excB (K : PySem.W.Frag) (C : Addr) : Bool := PySem.W.excIn K C VE "ValueError.__new__"
theorem exc_obj {K : PySem.W.Frag} {h : Heap} {C : Addr} (X : K.In h) (q : excB K C = true) : ∃ (nm qn : Str) (N : Addr) (bs bm : List Value) (hdct : Bool) (sn : List Str) (sub : List Value) (ab : Bool) (col : Option Bool) (dd : Option Addr) (k0 k1 k2 k3 k5 : Option Value) (mN : Str → Option Value),
    K.lookup C = some (excClassObj nm qn C N bs bm hdct sn sub ab col dd k0 k1 k2 k3 k5 "ValueError.__new__") ∧ h.Ns N mN ∧ mN "__init__" = none ∧ OwnTail h VE bm := by
  unfold excB PySem.W.excIn at q
  split at q
  · rename_i dct c slots look
    split at q
    · rename_i C1 rest y0 y1 y2 y3 id y5 em es
      simp only [Bool.and_eq_true, beq_iff_eq, Bool.not_eq_true'] at q
      obtain ⟨⟨⟨⟨⟨e1, e2⟩, e3⟩, e4⟩, e5⟩, e6⟩ := q
      subst e1 e2
      obtain ⟨n1, n2, n3, n4, n5, n6, n7, n8, n9, n10, n11⟩ := c
      dsimp only at em e3 e5 e6
      subst em e3
      obtain ⟨lst⟩ := slots
      dsimp only at es
      subst es
      exact ⟨_, _, _, _, _, _, _, _, _, _, _, _, _, _, _, _, _, look, .of_isNs (PySem.W.isNs_of_in X e5), PySem.W.nsMap_none_of_in X e5 e6, PySem.W.tail_of_in X e4⟩
    · cases q
  · cases q
def tRaise (E : XK) (C : Addr) (t : TA) : TS := fun _ σ H => t σ H fun vs H1 => vs.length ≤ 1000 ∧ E (.ref C) none H1
def tNo : TS := fun _ _ _ => False
theorem pss_no {X : Cx} {st : List Stmt} : PSs X st tNo := fun _ _ _ _ _ _ h => h.elim
section
variable {P : Program} {w : World} {K : PySem.W.Frag} {mg : Str → Option Value} {base : Heap} {N : List Str} {qual : Str} {scope : Scope} {f : Addr} {cd : Value} {A : Around} {outer : List Env} {s : Shared} {H : Hp} {E : XK}
theorem ps_raise {x : Str} {ex : Expr} {t : TA} {np cpos pos : Pos} {C : Addr} (hC : excB K C = true) (hg : Gl (cxR P w K mg base N qual scope f cd A outer s H E) x) (hm : mg x = some (.ref C)) (ha : PA (cxR P w K mg base N qual scope f cd A outer s H E) [ex] t)
    (hdb : (x == ("__debug__" : Str)) = false := by decide) (he : starEach [ex] (cxR P w K mg base N qual scope f cd A outer s H E).env = [(false, eval ex (cxR P w K mg base N qual scope f cd A outer s H E).env)] := by rfl) :
    PS (cxR P w K mg base N qual scope f cd A outer s H E) (.Raise (some (.Call (.Name x np) [ex] [] cpos)) none pos) (tRaise E C t) := by
  intro pins s1 σ H1 D I h
  obtain ⟨nm, qn, N', bs, bm, hdct, sn, sub, ab, col, dd, k0, k1, k2, k3, k5, mN, lk, gN, hni, T⟩ := exc_obj I.mod.kin hC
  refine wpAny_Raise_call_subU (C := C) (nm := nm) (q := qn) (N := N') (bs := bs) (bm := bm) (hdct := hdct) (sn := sn) (sub := sub) (ab := ab) (col := col) (dd := dd) (k0 := k0) (k1 := k1) (k2 := k2) (k3 := k3) (k5 := k5) (mN := mN)
    PySem.F.excBase_ValueError (by decide) PySem.F.excBase_ValueError (T.hasType (by decide)) (I.ok.hd rfl) (by rw [he]; rfl) hni (ld_glob I hg hm ⟨rfl, ?_⟩ hdb)
  have args := ha cpos pins s1 σ H1 _ I h
  rw [he] at args ⊢
  refine Calls.evalArgs_plain (thn args fun us s2 ⟨vs, H2, I2, r, lv, q⟩ => ⟨rfl, ?_, I2.kIn _ _ lk, gN.keeps I2.bk, T.keeps I2.bk, fun h3 e made => ?_⟩)
  · show us.length ≤ _
    rw [← r.length]
    exact Nat.le_trans lv (by decide)
  obtain ⟨tp, ge, _, _⟩ := made.there
  have hin : ∀ env ∈ (cxR P w K mg base N qual scope f cd A outer s H E).stack, ∀ b, env.frame = some b → b ∈ frs (cxR P w K mg base N qual scope f cd A outer s H E).stack := fun env hm b hb => List.mem_filterMap.mpr ⟨env, hm, hb⟩
  have tr : ∀ b u, H2 b = some u → ∃ o, (PySem.W.hideAll s2.heap (frs (cxR P w K mg base N qual scope f cd A outer s H E).stack)).get? b = some o := fun b u e => by
    obtain ⟨o, g⟩ := (I2.hok b u e).there
    exact ⟨o, PySem.W.hideAll_get _ g fun z => by rw [I2.stkFree b z] at e; cases e⟩
  have kp : ∀ b o, s.heap.get? b = some o → b ∉ frs outer → ∃ o', (PySem.W.hideAll s2.heap (frs (cxR P w K mg base N qual scope f cd A outer s H E).stack)).get? b = some o' ∧ (H b = none → o' = o) := fun b o g hb => by
    obtain ⟨o1, g1⟩ := I2.base.there b o g (by intro z; cases z)
    refine ⟨o1, PySem.W.hideAll_get _ g1 (cxR_fr I2 g hb), fun n => ?_⟩
    have g2 := I2.base.keep b o g n hb (by intro z; cases z)
    rw [g1] at g2
    cases g2
    rfl
  show wpAny _ _ (leaving _ _) _ _ _
  unfold leaving
  refine wpAny_bind (note_first (B := PySem.W.hideAll s2.heap (frs (cxR P w K mg base N qual scope f cd A outer s H E).stack)) (C := C) I2.ok.frames ((PySem.W.funFrames_hide I2.stack hin).of_keeps fun b o g _ => ⟨o, made.keeps b o g, rfl⟩) rfl (fun b o g => made.keeps b o (PySem.W.of_hideAll _ g)) ge ?_ ⟨rfl, rfl, rfl⟩ rfl rfl fun h4 st x => ?_)
  · cases z : (PySem.W.hideAll s2.heap (frs (cxR P w K mg base N qual scope f cd A outer s H E).stack)).get? e with
    | none => rfl
    | some o =>
      have := PySem.W.of_hideAll _ z
      rw [made.new] at this
      cases this
  · exact go_out (s2 := s2) I2 rfl I2.bare kp tr (fun b o g => PySem.W.of_hideAll _ g) ⟨st.kb, st.fr, fun b o hb g => st.sl b o hb (made.keeps b o g)⟩ x q
end
section
variable {P : Program} {w : World} {K : PySem.W.Frag} {mg : Str → Option Value} {base : Heap}
theorem Fun.okR {x qual : Str} {st : Stmt} {f : Addr} {fd : FuncData} {N ps : List Str} {k : Nat} {sp : Sp} (F : Fun K x qual st f fd) (S : FnScope N ps (defScope st)) (len : ∀ vs H Q E, sp vs H Q E → vs.length = ps.length)
    (hbody : ∀ (cdv : Value) (A : Around) (outer : List Env) (s : Shared) (H : Hp) (vs : List V) (Q : VK) (E : XK), Room k (A.deeper (envOfC qual (defScope st) s.heap.objs.size f cdv)) → sp vs H Q E →
      ∃ t, PSs (cxR P w K mg base N qual (defScope st) f cdv A outer s H E) (defBody st) t ∧ t { nx := fun _ H' => Q .non H', rt := Q } (start N vs) H) : FnOk P w K mg base (CXR P w) (k + 1) f fd ps sp := by
  obtain ⟨_, _, _, _, _, _, cdv, _, _, rfl, lk, hcd⟩ := F.ex
  exact fn_of lk hcd S len fun A outer s H vs Q E hr hsp => hbody cdv A outer s H vs Q E hr hsp
end
def xo (C a : Addr) : HO := .ext fun h => ∃ (ob : Obj) (vs : Array Value), h.get? a = some ob ∧ ob.cls = .ref C ∧ ob.dict = none ∧ ob.data = .fields vs ∧ vs[2]? = some .none
theorem xo_ok {P : Program} {w : World} {H : Hp} {B h : Heap} {C a : Addr} {fl : Value} (x : XAt B C a fl h) : ObjOk P w H h a (xo C a) := by
  obtain ⟨_, ob, _, vs, _, _, ho, hc, ⟨_, h2⟩, _⟩ := x
  exact ⟨⟨ob, vs, ho, hc.1, hc.2.1, hc.2.2, h2⟩, ⟨ob, ho⟩, fun h1 h3 ⟨o1, v1, g, r⟩ k => ⟨o1, v1, k _ g, r⟩⟩
theorem xo_get {P : Program} {w : World} {H : Hp} {h : Heap} {C a : Addr} (k : HOk P w H h) (e : H a = some (xo C a)) : ∃ (ob : Obj) (vs : Array Value), h.get? a = some ob ∧ ob.cls = .ref C ∧ ob.dict = none ∧ ob.data = .fields vs ∧ vs[2]? = some .none := (show ObjOk P w H h a (xo C a) from k a _ e).1
abbrev Cx.inEx (X : Cx) (a : Addr) : Cx := { X with A := X.A.mark (some (.ref a)), calm := false, xe := fun _ _ => False }
section
variable {X : Cx} {pins : List (Addr × Obj)} {σ : St} {H : Hp} {s : Shared} {a : Addr}
theorem Inv.inEx (I : Inv X pins σ H s) (a : Addr) : Inv (X.inEx a) pins σ H s :=
  ⟨⟨I.ok.mod, I.ok.kind, I.ok.glob, I.ok.blt, I.ok.above, I.ok.inj, I.ok.has, I.ok.cab, (fun z => nomatch z), I.ok.frames, I.ok.stk, I.ok.exf, I.ok.bs, I.ok.bsz, I.ok.noex, I.ok.exfs, I.ok.funs, I.ok.frf⟩, I.os, I.bare, I.base, I.loc, I.cell, I.free, I.freeC, I.pin, I.hok, I.len⟩
theorem Inv.forget (I : Inv (X.inEx a) pins σ H s) (ok : X.Ok) {h' : Heap} {m : Str → Option Value} {tk : Nat} (hn : h'.Ns X.env.locals m) (hs : Heap.SameBut X.env.locals s.heap h') : Inv X pins (List.replicate X.N.length none) H { s with heap := h', toks := tk } := by
  have neL : ∀ b o, X.s₀.heap.get? b = some o → b ≠ X.env.locals := fun b o e => Nat.ne_of_lt (Nat.lt_of_lt_of_le (Heap.lt_size e) ok.above)
  refine ⟨ok, I.os, I.bare, ⟨fun b o e n hb hx => (hs.2 b (neL b o e)).trans (I.base.keep b o e n hb hx), fun b o e n hb hx => ?_, I.base.free, fun b o e hx => ?_, I.base.tups, I.base.frzs, I.base.tbls⟩, ⟨m, hn, fun i y v e1 e2 _ => ?_⟩, fun y c e => ?_, I.free, I.freeC, fun p hp => ?_, fun b ob e => ?_, by simp⟩
  · obtain ⟨z, g⟩ := I.base.slot b o e n hb hx
    exact ⟨z, (hs.2 b (neL b o e)).trans g⟩
  · obtain ⟨o', g⟩ := I.base.there b o e hx
    exact ⟨o', (hs.2 b (neL b o e)).trans g⟩
  · rw [List.getElem?_replicate] at e2
    split at e2 <;> cases e2
  · obtain ⟨v, q⟩ := I.cell y c e
    exact ⟨v, q.sameBut hs (I.cne y c e)⟩
  · obtain ⟨e, n, ne, nf, d⟩ := I.pin p hp
    exact ⟨(hs.2 p.1 ne).trans e, n, ne, nf, d⟩
  · refine (I.hok b ob e).stay (fun c u hc q => (hs.2 c ?_).trans q) (fun _ q => q) fun _ _ q => q
    rintro rfl
    rcases hc with rfl | hc
    · rw [I.free] at e; cases e
    · rw [I.free] at hc; cases hc
end
theorem exc_matches {K : PySem.W.Frag} {M : Model} {A : Around} {E : Value → Shared → Prop} {s : Shared} {C D a : Addr} {ob : Obj} {Q : Bool → Shared → Prop} (X : K.In s.heap) (hC : excB K C = true) (hD : excB K D = true) (ho : s.heap.get? a = some ob) (hc : ob.cls = .ref C)
    (sub : PySem.W.subIn K (.ref C) (.ref D) = some true) (q : Q true s) : wpAny M A (excMatches (.ref a) (.ref D)) Q E s := by
  obtain ⟨_, _, _, _, bm, _, _, _, _, _, _, _, _, _, _, _, _, lk, _, _, T⟩ := exc_obj X hD
  have gD := X _ _ lk
  have hb : (Value.ref D :: bm).contains (.type "BaseException") = true := by rw [List.contains_cons, T.hasType (b := true) (by decide), Bool.or_true]
  have f := tc_notTuple
  have L1 : PySem.W.Looks M s.heap (isSubtype (.ref C) (.ref D)) true := PySem.W.looks_subIn X sub
  obtain ⟨hp, g, d, tk, os⟩ := s
  unfold excMatches
  repeat (first | (with_reducible refine wpAny_loadPart_at ho ?_; rw [hc]) | with_reducible refine wpAny_loadPart_at gD ?_ | (with_reducible refine wpAny_isSubtype_exc gD ?_; rw [hb]) | with_reducible refine L1.at ?_ | wp_step)
  exact q
end L2
set_option maxRecDepth 100000
set_option maxHeartbeats 4000000
namespace L2
open PySem PySem.Spec PyProof.Rows
theorem Un.track {fs ex : List Addr} {H H' : Hp} {h h' : Heap} {a : Addr} {o : HO} (u : Un fs ex H H' h h') (fa : H' a = none) (na : h.get? a = none) : Un fs ex H (upd H' a o) h h' :=
  ⟨u.keep, u.slot, fun b o' e n x => by
    rw [upd_ne (fun z => by rw [z, na] at e; cases e)]
    exact u.free b o' e n x, u.there, fun b xs e => by
    have := u.tups b xs e
    rw [upd_ne (fun z => by rw [z, fa] at this; cases this)]
    exact this, fun b o' v e => by
    have := u.frzs b o' v e
    rw [upd_ne (fun z => by rw [z, fa] at this; cases this)]
    exact this, fun b ps e => by
    obtain ⟨more, this⟩ := u.tbls b ps e
    refine ⟨more, ?_⟩
    rw [upd_ne (fun z => by rw [z, fa] at this; cases this)]
    exact this⟩
theorem HOk.track {P : Program} {w : World} {H : Hp} {h : Heap} {a : Addr} {o : HO} (x : HOk P w H h) (fa : H a = none) (new : ObjOk P w (upd H a o) h a o) : HOk P w (upd H a o) h := fun b u e => by
  by_cases z : b = a
  · subst z
    rw [upd_same] at e
    cases e
    exact new
  · rw [upd_ne z] at e
    refine (x b u e).stay (fun _ _ _ q => q) (fun c q => ?_) fun c xs q => ?_
    · rw [upd_ne (fun z => by rw [z, fa] at q; cases q)]
      exact q
    · rw [upd_ne (fun z => by rw [z, fa] at q; cases q)]
      exact q
def tTry (K : PySem.W.Frag) (LE : Addr) (i : Nat) (sp : Sp) (ta : TA) (ts : Addr → TS) : TS := fun D σ H => ta σ H fun vs H1 => sp vs H1 (fun _ H2 => D.nx σ H2) (fun cv _ H2 => ∃ C, cv = .ref C ∧ excB K C = true ∧ PySem.W.subIn K (.ref C) (.ref LE) = some true ∧
  ∀ a, H2 a = none → ts a { nx := fun _ _ => False, rt := D.rt } (σ.set i (some (.ref a))) (upd H2 a (xo C a)))
section
variable {X : Cx} {k i : Nat} {f LE : Addr} {fd : FuncData} {ps : List Str} {sp : Sp} {fx x n : Str} {fp cpos epos np hpos pos : Pos} {e : Expr} {es : List Expr} {ta : TA} {ts : Addr → TS} {b₀ : Stmt} {suite : List Stmt}
theorem ps_try (hx : ∀ v z, ¬ X.xe v z) (hstk : X.stack = X.env :: X.outer) (hfr : X.env.frame = some X.env.locals) (F : FnOk X.prog X.w X.K X.mg X.base (CXR X.prog X.w) k f fd ps sp) (hr : Room k X.A) (hg : Gl X fx) (hm : X.mg fx = some (.ref f)) (hk : PySem.W.keepIn X.K (.ref f) = true) (hb : Binds X.K fd ps [])
    (ha : PA X (e :: es) ta) (hgx : Gl X x) (hmx : X.mg x = some (.ref LE)) (hLE : excB X.K LE = true) (nd : X.N.Nodup) (hi : X.N[i]? = some n) (hn : X.env.scope.names.lookup n = some .local) (hs : ∀ a, PSs (X.inEx a) (b₀ :: suite) (ts a))
    (hdb : (fx == ("__debug__" : Str)) = false := by decide) (hdx : (x == ("__debug__" : Str)) = false := by decide) (he : starEach (e :: es) X.env = (false, eval e X.env) :: starEach es X.env := by rfl) (hpl : (backTo cpos (starEach es X.env)).any (·.1) = false := by rfl)
    (hsw : swapsWith (.Call (.Name fx fp) (e :: es) [] cpos) none epos.line X.env = pure false := by rfl) :
    PS X (.Try [.Expr (.Call (.Name fx fp) (e :: es) [] cpos) epos] [.ExceptHandler (some (.Name x np)) (some n) (b₀ :: suite) hpos] [] [] pos) (tTry X.K LE i sp ta ts) := by
  intro pins s σ H D I h
  refine wpAny_Try_except (wpAny_execs_cons (wpAny_Expr_any ?_ I.quiet hsw))
  refine wpAny_Call_Name_kw (ld_glob I hg hm ?_ hdb)
  refine PySem.W.callWith_K (h₀ := X.base) I.ok.mod.kin hk (wpAny_mono (ha cpos pins s σ H _ I h) (fun us s1 ⟨vs, H1, I1, r, q⟩ => ⟨I1.kIn, ?_⟩) fun v z y => (hx v z y).elim) he hpl
  have hl : us.length = ps.length := by rw [← r.length]; exact F.len _ _ _ _ q
  have hb1 := hb s1 us I1.kIn (by rw [List.append_nil]; exact hl)
  rw [List.append_nil] at hb1
  refine wpAny_call (codeAny_mono (F.run X.A X.stack s1 H1 ⟨us, []⟩ us vs _ _ hr I1.env0 hb1 r q) fun rr s' hq => ?_)
  cases rr with
  | ok fl =>
    cases fl with
    | ret u =>
      obtain ⟨v, H2, I2, _, qq⟩ := I1.after hq
      exact wpAny_execs_nil (wpAny_execs_nil ⟨σ, H2, I2, qq⟩)
    | next => exact False.elim hq
    | brk => exact False.elim hq
    | cont => exact False.elim hq
  | error ev =>
    obtain ⟨a, C, B, H', rfl, ⟨os, bare⟩, un, hok, ⟨kb, fr, xa⟩, tr, kp, C', eC, xC, sub, rd⟩ := hq
    cases eC
    obtain ⟨hh, gs, dr, tk, os'⟩ := s'
    obtain rfl : os' = s1.os := os
    have hA : X.A.frames = some (X.env :: X.outer) := by rw [← hstk]; exact I1.ok.frames
    have na : s1.heap.get? a = none := by
      cases z : s1.heap.get? a with
      | none => rfl
      | some o =>
        by_cases hb' : a ∈ frs X.stack
        · obtain ⟨_, o', g', nf⟩ := fr.mem hb'
          obtain ⟨_, ob, _, vs', _, _, ho, hc, _⟩ := xa
          rw [ho] at g'
          cases g'
          exact absurd hc.2.2 (nf vs')
        · obtain ⟨o', g, _⟩ := kp a o z hb'
          rw [xa.1] at g
          cases g
    have fa : H' a = none := by
      cases z : H' a with
      | none => rfl
      | some u =>
        obtain ⟨o, g⟩ := tr a u z
        rw [xa.1] at g
        cases g
    have sls : ∀ {h4 : Heap}, Stay B (X.env :: X.outer) hh h4 → ∀ b o, b ∈ frs X.stack → hh.get? b = some o → ∃ z, h4.get? b = some { o with slots := z } := fun st b o hb' g => st.sl b o (by rw [← hstk]; exact hb') g
    rw [hstk] at fr
    refine note_on hA fr hfr kb xa fun h3 st3 x3 => ?_
    refine land st3.fr st3.kb x3 fun h4 st4 x4 => ?_
    have stA := st3.trans st4
    have J4 : Inv X pins σ H' { s1 with heap := h4, gens := gs, drawn := dr, toks := tk } := I1.call (un_out un kp stA.kb (sls stA)) (hok.stayB tr kb stA.kb) bare (fun b z => nomatch z)
    refine wpAny_handleBy_cons (codeAny_handlers_test (ld_glob (X := X.inEx a) (J4.inEx a) hgx hmx ?_ hdx)) (by intro z; cases z)
    obtain ⟨_, ob, _, vs', _, _, ho, hc, _⟩ := id x4
    refine exc_matches J4.kIn xC hLE ho hc.1 sub ?_
    refine codeAny_handlers_suite_as ?_
    refine land stA.fr stA.kb x4 fun h5 st5 x5 => ?_
    have stB := stA.trans st5
    have J6 : Inv X pins σ (upd H' a (xo C a)) { s1 with heap := h5, gens := gs, drawn := dr, toks := tk } := I1.call ((un_out un kp stB.kb (sls stB)).track fa na) ((hok.stayB tr kb stB.kb).track fa (xo_ok x5)) bare (fun b z => nomatch z)
    refine store_ok (X := X.inEx a) (J6.inEx a) nd hi (.inl hn) (v := .ref a) rfl (fun s7 J7 => ?_) (.inr hn)
    refine wpAny_mono (hs a pins s7 _ _ _ J7 (rd a fa)) (fun fl s8 q8 => ?_) (fun v z y => y.elim)
    cases fl with
    | ret u =>
      obtain ⟨v, σ', H8, I8, rv, qq⟩ := q8
      obtain ⟨m, hm8, _⟩ := I8.loc
      exact wpAny_nameGoes hn hm8 (by rw [I8.ok.kind]; rfl) fun h9 m9 hn9 sb => ⟨v, _, H8, I8.forget J4.ok hn9 sb, rv, qq⟩
    | next => obtain ⟨_, _, _, z⟩ := q8; exact z.elim
    | brk => obtain ⟨_, _, _, z⟩ := q8; exact z.elim
    | cont => obtain ⟨_, _, _, z⟩ := q8; exact z.elim
end
end L2
set_option maxRecDepth 100000
set_option maxHeartbeats 4000000
namespace L2
open PySem PySem.Spec PyProof.Rows
theorem entry_unchain : entryFor table "proto.unchain" = some Builtin.«proto.unchain» := entryFor_of_tree (by kernel_rfl)
section
variable {prog : Program} {w : World} {A : Around} {E : Value → Shared → Prop} {s : Shared}
theorem range_endX {it a : Addr} {x left step : Int} {ob : Obj} {vs : Array Value} {Q : Option Value → Shared → Prop} (hh : A.handled = some (.ref a)) (hit : IsRangeIter s.heap it x left step) (hl : left ≤ 0) (ho : s.heap.get? a = some ob) (hd : ob.data = .fields vs) (h2 : vs[2]? = some .none)
    (k : ∀ h', (∀ b o, s.heap.get? b = some o → h'.get? b = some o) → Q none { s with heap := h' }) : wpAny (model prog w) A (pyNext (.ref it)) Q E s := by
  have ty : s.TypeIs (.ref it) "range_iterator" := ⟨_, hit, rfl⟩
  unfold pyNext
  refine wpAny_bind (wpAny_attempt (wpAny_callSpecial?_slot (name := Str.ofString "__next__") ty F.slot_range_iterator_next (wpAny_call_entry F.slot_range_iterator_next ty F.entry_range_iterator_next ?_ (F.args_range_iterator_next_1 _))))
  show wpAny _ _ (field (.ref it) 0 >>= _) _ _ _
  refine wpAny_bind (wpAny_field hit rfl (x := rawInt x) rfl (wpAny_bind (wpAny_field hit rfl (x := rawInt left) rfl (wpAny_bind (wpAny_field hit rfl (x := rawInt step) rfl ?_)))))
  show wpAny _ _ (if left ≤ 0 then _ else _) _ _ _
  rw [if_pos hl]
  refine wpAny_bind (wpAny_rule (wpAny_bind ?_))
  show wpAny _ _ (newExc (.type "StopIteration") [] >>= _) _ _ _
  refine wpAny_bind ?_
  simp only [newExc, newTuple]
  refine wpAny_bind (wpAny_newObj_type (wpAny_bind (m := firstArgMember _ _) (wpAny_of_eq (a := Value.none) (by first | rfl | (simp only [firstArgMember]; rfl)) (wpAny_newObj_type ?_ (by size_fits)))) (by size_fits))
  simp only [raiseNew]
  refine wpAny_bind (wpAny_handled ?_)
  first | rw [show A.in1.handled = some (.ref a) from hh] | rw [hh]
  have la : a < s.heap.objs.size := Heap.lt_size ho
  have ln : (s.heap.push { cls := .type "tuple", data := .seq #[] }).objs.size = s.heap.objs.size + 1 := Heap.size_push ..
  rw [ln]
  have na : (Value.ref a != Value.ref (s.heap.objs.size + 1)) = true := by
    rw [bne_iff_ne]
    intro z
    injection z with z
    rw [z] at la
    exact Nat.lt_irrefl _ (Nat.lt_of_succ_lt la)
  dsimp only
  rw [if_pos na]
  generalize hSI : ({ cls := .type "StopIteration", data := .fields (#[.ref s.heap.objs.size, .none, .none, .none, .bool false, .none] ++ ownMembersOf (.type "StopIteration") []) } : Obj) = SI
  have dSI : SI.data = .fields (#[.ref s.heap.objs.size, .none, .none, .none, .bool false, .none] ++ ownMembersOf (.type "StopIteration") []) := by rw [← hSI]
  have cSI : SI.cls = .type "StopIteration" := by rw [← hSI]
  have up : ∀ b o, s.heap.get? b = some o → ((s.heap.push { cls := .type "tuple", data := .seq #[] }).push SI).get? b = some o := fun b o g => Heap.get?_push_of_some _ (Heap.get?_push_of_some _ g)
  have gSI : ((s.heap.push { cls := .type "tuple", data := .seq #[] }).push SI).get? (s.heap.objs.size + 1) = some SI := by
    rw [← ln]
    exact Heap.get?_push_size _ (Obj.isFreed_of_fields dSI)
  refine wpAny_bind (wpAny_holding (wpAny_runValue (codeAny_builtin entry_unchain ?_)))
  show wpAny _ _ (field (.ref a) 2 >>= _) _ _ _
  refine wpAny_bind (wpAny_field (up _ _ ho) hd h2 ?_)
  rw [if_pos (by decide)]
  refine wpAny_bind (wpAny_pure (wpAny_pure ?_))
  show wpAny _ _ (setField (.ref (s.heap.objs.size + 1)) 2 (.ref a) >>= _) _ _ _
  refine wpAny_bind (wpAny_setField gSI dSI (by rw [Array.size_append]; simp; omega) (wpAny_throw ?_))
  have dd := Obj.data_mapFields dSI fun v => v.setIfInBounds 2 (Value.ref a)
  refine wpAny_bind (wpAny_isInstance (T := "StopIteration") (b := true) ⟨_, Heap.get?_update_self _ gSI (Obj.isFreed_of_fields dd), (Obj.cls_mapFields _ _).trans cSI⟩ isSubtype_stop (wpAny_pure (k _ fun b o g => ?_)))
  rw [Heap.get?_update_other _ _ (Nat.ne_of_gt (Nat.lt_succ_of_lt (Heap.lt_size g)))]
  exact up b o g
end
structure TurnX (P : Program) (w : World) (K : PySem.W.Frag) (xa : Addr) (tg : Expr) (J : It) (fp : List Addr) (it : Addr) (tn : Nat → Heap → Prop) : Prop where
  mem : it ∈ fp
  obj : ∀ i h, tn i h → ∀ b ∈ fp, ∃ o, h.get? b = some o ∧ ∀ v, o.data ≠ .cell v
  keep : ∀ i h h', tn i h → (∀ b ∈ fp, ∀ o, h.get? b = some o → h'.get? b = some o) → tn i h'
  item : ∀ (X : Cx), X.prog = P → X.w = w → X.K = K → X.A.handled = some (.ref xa) → ∀ (i : Nat) (pins : List (Addr × Obj)) (s : Shared) (σ : St) (H : Hp) (E : Value → Shared → Prop), Inv X pins σ H s → (∀ b ∈ fp, FpOk X pins H b) → tn i s.heap → J.go i H →
    wpAny (model P w) X.A (pyNext (.ref it)) (fun r s1 => ∃ u, r = some u ∧
      wpAny (model P w) X.A (letOwnedTupleGo tg (.ref it) u) (fun _ s2 => ∃ x H', Inv X pins σ H' s2 ∧ RelV x u ∧ J.yld i H x H' ∧ tn (i + 1) s2.heap ∧ ∀ b ∈ fp, H' b = none) E s1) E s
  done : ∀ (X : Cx), X.prog = P → X.w = w → X.K = K → X.A.handled = some (.ref xa) → ∀ (i : Nat) (pins : List (Addr × Obj)) (s : Shared) (σ : St) (H : Hp) (E : Value → Shared → Prop), Inv X pins σ H s → (∀ b ∈ fp, FpOk X pins H b) → tn i s.heap → J.stop i H →
    wpAny (model P w) X.A (pyNext (.ref it)) (fun r s1 => r = none ∧ Inv X pins σ H s1) E s
  self : ∀ (A : Around) (i : Nat) (s : Shared) (Q : Value → Shared → Prop) (E : Value → Shared → Prop), tn i s.heap → Q (.ref it) s → wpAny (model P w) A (pyIter (.ref it)) Q E s
def PIEX (X : Cx) (xa : Addr) (pins : List (Addr × Obj)) (σ : St) (tg : Expr) (R : It → Hp → Prop) (itv : Value) (s2 : Shared) : Prop :=
  ∃ (it : Addr) (fp : List Addr) (tn : Nat → Heap → Prop) (J : It) (H' : Hp), itv = .ref it ∧ Inv X pins σ H' s2 ∧ TurnX X.prog X.w X.K xa tg J fp it tn ∧ tn 0 s2.heap ∧ (∀ b ∈ fp, FpOk X pins H' b) ∧ R J H'
def PIX (X : Cx) (xa : Addr) (tg iter : Expr) (wi : TI) : Prop :=
  ∀ (pins : List (Addr × Obj)) (s : Shared) (σ : St) (H : Hp) (R : It → Hp → Prop), Inv X pins σ H s → wi σ H R →
    wpAny (model X.prog X.w) X.A (eval iter X.env) (fun v s1 => wpAny (model X.prog X.w) X.A (pyIter v) (PIEX X xa pins σ tg R) X.xe s1) X.xe s
def Itx (xa : Addr) (lo : Int) (n : Nat) : It := ⟨fun i _ => i < n, fun i H x H' => H' = H ∧ x = .int (lo + i), fun i H => n ≤ i ∧ ∃ C, H xa = some (xo C xa)⟩
theorem ov_rangeX {C xa : Addr} {lo : Int} {n : Nat} : Ov (Itx xa lo n) (List.range n) (fun H => H xa = some (xo C xa)) (fun y x H H' => x = .int (lo + (y : Nat)) ∧ H' = H) where
  go := fun i H _ hi => by rw [List.length_range] at hi; exact hi
  stop := fun i H h hi => by rw [List.length_range] at hi; exact ⟨hi, C, h⟩
  yld := fun i H x H' y _ hy ⟨e, q⟩ => by
    obtain ⟨h1, h2⟩ := List.getElem?_eq_some_iff.mp hy
    rw [List.getElem_range] at h2
    subst h2
    exact ⟨q, e⟩
theorem turn_rangeX {P : Program} {w : World} {K : PySem.W.Frag} {tg : Expr} (xa it : Addr) (lo : Int) (n : Nat) : TurnX P w K xa tg (Itx xa lo n) [it] it (fun i h => IsRangeIter h it (lo + (i : Nat) * 1) ((n : Int) - (i : Nat)) 1) where
  mem := by simp
  obj := fun i h st b hb => by
    have e : b = it := by simpa using hb
    subst e
    exact ⟨_, st, fun v z => by
      have z' : Data.fields _ = Data.cell v := z
      cases z'⟩
  keep := fun i h h' st k => k it (by simp) _ st
  item := by
    intro X hP hw hK hc i pins s σ H E I hf st hg
    subst hP hw hK
    obtain ⟨f0, f1, f2, f3, f4, f5⟩ := hf it (by simp)
    have hg' : i < n := hg
    refine wpAny_pyNext_range_item st (by omega) fun h' st' sb => ?_
    have I1 : Inv X pins σ H { s with heap := h', toks := s.toks + 1 } := I.turned (fun b o hb e => (sb.2 b hb).trans e) f0 f1 f3 f4 f5
    have st2 : IsRangeIter h' it (lo + ((i + 1 : Nat) : Int) * 1) ((n : Int) - ((i + 1 : Nat) : Int)) 1 := by
      have e1 : lo + ((i + 1 : Nat) : Int) * 1 = lo + (i : Nat) * 1 + 1 := by omega
      have e2 : (n : Int) - ((i + 1 : Nat) : Int) = (n : Int) - (i : Nat) - 1 := by omega
      rw [e1, e2]
      exact st'
    refine ⟨_, rfl, go_of (s := { s with heap := h', toks := s.toks + 1 }) (n := "range_iterator") st2 rfl rfl (by decide) ⟨.int (lo + i), H, I1, ⟨s.toks, ?_⟩, ⟨rfl, rfl⟩, st2, fun b hb => (hf b hb).1⟩⟩
    rw [Int.mul_one]
  done := by
    intro X hP hw hK hc i pins s σ H E I hf st hg
    subst hP hw hK
    obtain ⟨f0, f1, f2, f3, f4, f5⟩ := hf it (by simp)
    obtain ⟨hi, C, hx⟩ := hg
    obtain ⟨ob, vs, ho, _, _, hd, h2⟩ := xo_get I.hok hx
    exact range_endX hc st (by omega) ho hd h2 fun h' kk => ⟨rfl, I.kept (t' := s.toks) kk⟩
  self := fun _ _ _ _ _ st h => wpAny_pyIter_rangeiter st h
section
variable {X : Cx} {tg : Expr}
theorem range_itX {xa : Addr} {pins : List (Addr × Obj)} {σ : St} {H : Hp} {s : Shared} {R : It → Hp → Prop} {E : Value → Shared → Prop} {lo hi : Int} {t u v : Tok} {tk : Nat} (I : Inv X pins σ H s) (h1 : -(2 ^ 62) ≤ lo) (h2 : lo < 2 ^ 62) (h3 : -(2 ^ 62) ≤ hi) (h4 : hi < 2 ^ 62)
    (q : R (Itx xa lo (hi - lo).toNat) H) : wpAny (model X.prog X.w) X.A (pyIter (.ref s.heap.objs.size)) (PIEX X xa pins σ tg R) E { s with heap := s.heap.push { cls := .type "range", data := .fields #[.int lo t, .int hi u, .int 1 v] }, toks := tk } := by
  refine wpAny_pyIter_range (IsRange.new ..) (small_one h1 h2 h3 h4) ?_
  have I1 : Inv X pins σ H { s with heap := s.heap.push { cls := .type "range", data := .fields #[.int lo t, .int hi u, .int 1 v] }, toks := tk } := I.kept fun b o e => Heap.get?_push_of_some _ e
  refine ⟨(s.heap.push { cls := .type "range", data := .fields #[.int lo t, .int hi u, .int 1 v] }).objs.size, [(s.heap.push { cls := .type "range", data := .fields #[.int lo t, .int hi u, .int 1 v] }).objs.size], _, _, H, rfl,
    I1.kept (t' := tk) fun b o e => Heap.get?_push_of_some _ e, turn_rangeX xa _ lo (hi - lo).toNat, ?_, fun b hb => ?_, q⟩
  · have e1 : lo + ((0 : Nat) : Int) * 1 = lo := by simp
    have e2 : (((hi - lo).toNat : Nat) : Int) - ((0 : Nat) : Int) = Builtin.Range.rangeSize lo hi 1 := by rw [rangeSize_one]; split <;> omega
    show IsRangeIter _ _ (lo + ((0 : Nat) : Int) * 1) ((((hi - lo).toNat : Nat) : Int) - ((0 : Nat) : Int)) 1
    rw [e1, e2]
    exact Heap.get?_push_size _ rfl
  · have e : b = (s.heap.push { cls := .type "range", data := .fields #[.int lo t, .int hi u, .int 1 v] }).objs.size := by simpa using hb
    subst e
    exact I1.fpOk (Nat.le_refl _) (I1.hok.fresh (Nat.le_refl _))
def iRngX (xa : Addr) (ta : TA) : TI := fun σ H R => ta σ H fun vs H1 => ∃ j : Int, vs = [.int j] ∧ -(2 ^ 62) ≤ j ∧ j < 2 ^ 62 ∧ R (Itx xa 0 j.toNat) H1
theorem pi_rangeX {xa : Addr} {a : Expr} {ta : TA} {p pos : Pos} (hg : Gl X "range") (hm : X.mg "range" = none) (ha : PA X [a] ta) (hs : starEach [a] X.env = [(false, eval a X.env)] := by rfl) : PIX X xa tg (.Call (.Name "range" p) [a] [] pos) (iRngX xa ta) := by
  intro pins s σ H R I h
  refine Call_ (ld_blt I hg hm boot_range (PyProof.Rows.callWith_type1 (thn (ha pos pins s σ H _ I h) fun us s1 ⟨vs, H1, I1, r1, q1⟩ => ?_) hs rfl))
  obtain ⟨j, e, q1, q2, q⟩ := q1
  subst e
  cases r1 with
  | cons r rr =>
    cases rr
    obtain ⟨t, rfl⟩ := r
    exact call_range_1 (range_itX I1 (by omega) (by omega) q1 q2 (by simpa using q))
end
section
variable {X : Cx} {N : List Str} {scope : Scope} {k : Nat} {caps : List Nat} {tg elt iter : Expr} {ifs : List Expr} {wi : TI} {g : TG} {ti : TT} {te : TE} {pos : Pos}
theorem comp_blockX {xa : Addr} {E : Value → Shared → Prop} {pins : List (Addr × Obj)} {σ : St} {H : Hp} {s : Shared} {it : Addr} {fp : List Addr} {tn : Nat → Heap → Prop} {J : It} {RR : Value → Addr → Result → Shared → Prop} (B : Block X N scope k caps) (hcalm : X.A.handled = some (.ref xa))
    (hg : ∀ pins fp s H, ∃ t, PG (cxComp X N scope pins fp s H) tg t ∧ t = g) (hi : ∀ pins fp s H, ∃ t, PIfs (cxComp X N scope pins fp s H) ifs t ∧ t = ti) (he : ∀ pins fp s H, ∃ t, PE (cxComp X N scope pins fp s H) elt t ∧ t = te)
    (I : Inv X pins σ H s) (T : TurnX X.prog X.w X.K xa tg J fp it tn) (st : tn 0 s.heap) (hf : ∀ b ∈ fp, FpOk X pins H b) (Q : VK)
    (hw : CompAt s.heap.objs.size J g ti te k caps σ Q H)
    (hRR : ∀ s' H', (∃ m, s'.heap.Ns (s.heap.objs.size + 1) m) → H' (s.heap.objs.size + 1) = none → (∀ h', Heap.SameBut (s.heap.objs.size + 1) s'.heap h' → Inv X pins σ H' { s' with heap := h' }) → Q (.ref s.heap.objs.size) H' → RR (.ref s.heap.objs.size) (s.heap.objs.size + 1) (.ok .next) s') :
    wpAny (model X.prog X.w) X.A (newList []) (fun acc s3 => wpAny (model X.prog X.w) X.A (newFunctionEnv scope X.env.globals (closL X.env.cells scope.names []) [] X.env.qual none .none (some X.env)) (fun cenv s4 =>
      codeAny (model X.prog X.w) X.A (.compStart (.ListComp elt [⟨tg, iter, ifs, 0⟩] scope pos) 0 (.ref it) acc { cenv with scope := relabel scope X.env }) (RR acc cenv.locals) s4) E s3) E s := by
  obtain ⟨W, ⟨m0, w0⟩, turn⟩ := hw
  obtain ⟨tg', hg1, eg⟩ := hg pins fp s H
  clear hg
  subst eg
  obtain ⟨ti', hi1, ei⟩ := hi pins fp s H
  clear hi
  subst ei
  obtain ⟨te', he1, ee⟩ := he pins fp s H
  clear he
  subst ee
  refine wpAny_newObj_type (wpAny_newFunctionEnv B.nocell (by intro y hy; simp at hy) (fun h₁ hns₁ hsb₁ => ?_) B.kind)
  dsimp only at hns₁ hsb₁ ⊢
  have szD : (pushD s).heap.objs.size = s.heap.objs.size + 1 := Heap.size_push ..
  have eC : (s.heap.push { cls := .type "list", dict := none, data := .seq ([] : List Value).toArray }).objs.size = s.heap.objs.size + 1 := szD
  rw [eC] at hns₁ hsb₁ ⊢
  have hk₁ : ∀ b o, (pushD s).heap.get? b = some o → h₁.get? b = some o := fun b o e => by
    have l : b ≠ s.heap.objs.size + 1 := by
      have l1 := Heap.lt_size e
      rw [szD] at l1
      exact Nat.ne_of_lt l1
    exact hsb₁.extBut b o l (Heap.get?_push_of_some _ e)
  have st₁ : tn 0 h₁ := T.keep 0 s.heap h₁ st fun b _ o e => hk₁ b o (Heap.get?_push_of_some _ e)
  have ho : ∀ b ∈ fp, ∃ o, s.heap.get? b = some o := fun b hb => let ⟨o, e, _⟩ := T.obj 0 _ st b hb; ⟨o, e⟩
  have loop : ∀ s1 : Shared, s1 = { s with heap := h₁, toks := s.toks + ([] : List (Str × Value)).length } →
      codeAny (model X.prog X.w) X.A (.compLoop (.ListComp elt [⟨tg, iter, ifs, 0⟩] scope pos) 0 (.ref it) (.ref s.heap.objs.size) (cxComp X N scope pins fp s H).env) (RR (.ref s.heap.objs.size) (s.heap.objs.size + 1)) s1 := by
    rintro s1 rfl
    have I₁ := comp_start (N := N) (tk := s.toks + ([] : List (Str × Value)).length) B I hf ho hns₁ hk₁
    have stat : ∀ {H' : Hp}, (∀ b ∈ fp, H' b = none) → ∀ b ∈ fp, FpOk (cxComp X N scope pins fp s H) [] H' b := fun hn b hb => by
      obtain ⟨_, z⟩ := I₁.ok.exf b hb
      refine ⟨hn b hb, (I₁.ok.exf b hb).1, I₁.ok.exfs b hb, .inl hb, fun x c e => (I₁.ok.exf b hb).2 x c e, fun p hp => ?_⟩
      have hp2 : p ∈ (X.pn ++ pins) ++ [] := hp
      rw [List.append_nil] at hp2
      exact (hf b hb).2.2.2.2.2 p hp2
    refine comp_turns (fun n s' => ∃ i ys H', Inv (cxComp X N scope pins fp s H) [] (inner k caps σ) H' s' ∧ tn i s'.heap ∧ (∀ b ∈ fp, H' b = none) ∧ W i n ys H') m0 ⟨0, [], _, I₁, st₁, fun b hb => ?_, w0⟩ ?_
    · obtain ⟨o, e⟩ := ho b hb
      rw [upd_ne (Nat.ne_of_lt (Heap.lt_size e))]
      exact (hf b hb).1
    · rintro n s2 ⟨i, ys, H2, I2, st2, fr2, w2⟩
      obtain ⟨hD, alt⟩ := turn i n ys H2 w2
      rcases alt with ⟨stop, q⟩ | ⟨go, hz, step⟩
      · refine thn (T.done (cxComp X N scope pins fp s H) rfl rfl rfl hcalm i [] s2 _ H2 _ I2 (stat fr2) st2 stop) fun r s3 ⟨hr, I3⟩ => ?_
        subst hr
        obtain ⟨m, hnm, _⟩ := id I3.loc
        exact hRR s3 H2 ⟨m, hnm⟩ I3.free (fun h' hs => comp_end I hf I3 hs) q
      · refine thn (T.item (cxComp X N scope pins fp s H) rfl rfl rfl hcalm i [] s2 _ H2 _ I2 (stat fr2) st2 go) fun r s3 ⟨u, hr, h3⟩ => ?_
        subst hr
        refine thn h3 fun _ s4 ⟨x, H4, I4, r4, y4, st4, fr4⟩ => ?_
        have I4' := I4.pinned (stat fr4) (T.obj _ _ st4)
        refine thn (hg1 _ s4 _ H4 x u _ I4' r4 (step x H4 y4)) fun _ s5 ⟨σ5, H5, I5, ⟨k1, k2⟩, q5⟩ => ?_
        have back : ∀ {H7 : Hp} {s7 : Shared}, Inv (cxComp X N scope pins fp s H) ([] ++ pinsAt fp s4.heap) σ5 H7 s7 → Inv (cxComp X N scope pins fp s H) [] (inner k caps σ) H7 s7 ∧ tn (i + 1) s7.heap ∧ (∀ b ∈ fp, H7 b = none) := fun {H7 s7} I7 => by
          refine ⟨I7.unpinned.weak k1.symm (inner_weak k1 k2), T.keep _ _ _ st4 fun b hb o e => (I7.pin (b, o) (List.mem_append_right _ (List.mem_append_right _ (mem_pinsAt hb e)))).1, fun b hb => ?_⟩
          obtain ⟨o, e, d⟩ := T.obj _ _ st4 b hb
          exact (I7.pin (b, o) (List.mem_append_right _ (List.mem_append_right _ (mem_pinsAt hb e)))).2.1
        have body : ∀ (ok : Bool) (s6 : Shared) (H6 : Hp), Inv (cxComp X N scope pins fp s H) ([] ++ pinsAt fp s4.heap) σ5 H6 s6 →
            (if ok = true then te' σ5 H6 fun y H6 => H6 s.heap.objs.size = some (.lst ys) ∧ ∃ m', m' < n ∧ W (i + 1) m' (ys ++ [y]) (upd H6 s.heap.objs.size (.lst (ys ++ [y]))) else ∃ m', m' < n ∧ W (i + 1) m' ys H6) →
            (if ok = true then wpAny (model X.prog X.w) X.A (eval elt (cxComp X N scope pins fp s H).env) (fun x s5 =>
              wpAny (model X.prog X.w) X.A (call (.builtin "list.append") [.ref s.heap.objs.size, x]) (fun _ s6 => ∃ m, m < n ∧ ∃ i ys H', Inv (cxComp X N scope pins fp s H) [] (inner k caps σ) H' s6 ∧ tn i s6.heap ∧ (∀ b ∈ fp, H' b = none) ∧ W i m ys H') (fun _ _ => False) s5) (fun _ _ => False) s6
            else ∃ m, m < n ∧ ∃ i ys H', Inv (cxComp X N scope pins fp s H) [] (inner k caps σ) H' s6 ∧ tn i s6.heap ∧ (∀ b ∈ fp, H' b = none) ∧ W i m ys H') := fun ok s6 H6 I6 q6 => by
          cases ok with
          | false =>
            rw [if_neg Bool.false_ne_true] at q6 ⊢
            obtain ⟨m', hm, w6⟩ := q6
            obtain ⟨b1, b2, b3⟩ := back I6
            exact ⟨m', hm, i + 1, ys, H6, b1, b2, b3, w6⟩
          | true =>
            rw [if_pos rfl] at q6 ⊢
            refine thn (he1 _ s6 σ5 H6 _ I6 q6) fun y s7 ⟨yv, H7, I7, r7, hD7, m', hm, w7⟩ => ?_
            refine thn (mt_append (X := cxComp X N scope pins fp s H) _ s7 σ5 H7 (.ref s.heap.objs.size) [yv] (.ref s.heap.objs.size) [y] (fun v H8 => v = .non ∧ H8 = upd H7 s.heap.objs.size (.lst (ys ++ [yv]))) I7 rfl (.cons r7 .nil) ⟨_, ys, yv, rfl, rfl, hD7, hz, rfl, rfl⟩) fun _ s8 ⟨_, H8, I8, _, _, e8⟩ => ?_
            subst e8
            obtain ⟨b1, b2, b3⟩ := back I8
            exact ⟨m', hm, i + 1, _, _, b1, b2, b3, w7⟩
        cases hi1 with
        | none => exact wpAny_tests_nil (body true s5 H5 I5 q5)
        | one hc => exact wpAny_tests_one (thn (hc _ s5 σ5 H5 _ I5 q5) fun ok s6 ⟨H6, I6, q6⟩ => body ok s6 H6 I6 q6)
  exact codeAny_compStart_list (loop _ rfl) (T.self X.A 0 _ _ _ st₁ (loop _ rfl))

theorem pe_compX {xa : Addr} (B : Block X N scope k caps) (hcalm : X.A.handled = some (.ref xa)) (hwi : PIX X xa tg iter wi)
    (hg : ∀ pins fp s H, ∃ t, PG (cxComp X N scope pins fp s H) tg t ∧ t = g) (hi : ∀ pins fp s H, ∃ t, PIfs (cxComp X N scope pins fp s H) ifs t ∧ t = ti) (he : ∀ pins fp s H, ∃ t, PE (cxComp X N scope pins fp s H) elt t ∧ t = te)
    (hs : ∀ x, foldedSetIterable iter X.env x = pure x := by intro _; rfl) : PE X (.ListComp elt [⟨tg, iter, ifs, 0⟩] scope pos) (tComp wi g ti te k caps) := by
  intro pins s σ H Q I h
  rw [eval_ListComp]
  have hcl : closureFor scope X.env = pure (closL X.env.cells scope.names []) := closureFor_eq fun n hn => I.ok.has n (B.frees _ hn rfl)
  refine wpAny_comprehension_free (use := none) rfl hs hcl B.kind B.locals (thn (hwi pins s σ H _ I h) fun xv s1 h1 => thn h1 fun itv s2 h2 => ?_)
  obtain ⟨it, fp, tn, J, H2, e, I2, T, st2, f2, hw⟩ := h2
  subst e
  refine comp_blockX (RR := fun acc C => compPost (model X.prog X.w) X.A X.xe none (EP X pins σ Q) acc C) B hcalm hg hi he I2 T st2 f2 Q (hw _ (I2.hok.fresh (Nat.le_refl _))) fun s' H' hm _ hI q => ?_
  obtain ⟨m, hnm⟩ := hm
  exact ⟨m, hnm, fun h' hs' => ⟨.ref _, H', hI h' hs', rfl, q⟩⟩

end
end L2
set_option maxRecDepth 100000
set_option maxHeartbeats 4000000
namespace L2
open PySem PySem.Spec PyProof.Rows
structure ExcI (K : PySem.W.Frag) (C : Addr) : Prop where
  x : excB K C = true
  ga : PySem.W.findIn K (.ref C) "__getattribute__" = some (some (.builtin "BaseException.__getattribute__"))
  gn : PySem.W.findIn K (.ref C) "__getattr__" = some none
  ha : PySem.W.findIn K (.ref C) "__class__" = some (some (.builtin "object.__class__"))
  hn : PySem.W.specialIn K (.builtin "object.__class__") "__get__" = some (some (.builtin "getset_descriptor.__get__"))
  htk : PySem.W.takesIn K (.builtin "object.__class__") = some true
  hm : PySem.W.mroIn K C (.type "object") = some true
  hb : PySem.W.subIn K (.ref C) (.type "BaseException") = some true
section
variable {prog : Program} {w : World} {A : Around} {E : Value → Shared → Prop} {s : Shared} {K : PySem.W.Frag} {a C : Addr}
theorem exc_clsIn {h : Heap} (X : K.In h) (i : ExcI K C) : ∃ cd, PySem.W.clsIn K C = some cd := by
  obtain ⟨_, _, _, _, _, _, _, _, _, _, _, _, _, _, _, _, _, lk, _⟩ := exc_obj X i.x
  unfold PySem.W.clsIn
  rw [lk]
  exact ⟨_, rfl⟩
theorem exc_find {h : Heap} (X : K.In h) (i : ExcI K C) : PySem.W.findObj K C none "__class__" = some (.bind (.builtin "getset_descriptor.__get__") (.builtin "object.__class__")) := by
  obtain ⟨cd, hc⟩ := exc_clsIn X i
  unfold PySem.W.findObj
  rw [hc, Option.bind_some, i.ha, Option.bind_some]
  simp [i.hn, i.htk]
theorem exc_class {ob : Obj} {Q : Option Value → Shared → Prop} (i : ExcI K C) (X : K.In s.heap) (I : PySem.W.InstAt s.heap a ob C none) (h : Q (some (.ref C)) { s with toks := s.toks + 1 }) : wpAny (model prog w) A (getAttr? (.ref a) "__class__") Q E s := by
  obtain ⟨hh, g, d, t, os⟩ := s
  have L0 := I.type (M := model prog w)
  have L1 := PySem.W.looks_findIn (M := model prog w) X i.ga
  have L2 := PySem.W.looks_findIn (M := model prog w) X i.gn
  have L3 := PySem.W.looks_find (M := model prog w) X I (exc_find X i)
  have L4 := PySem.W.looks_subIn (M := model prog w) X i.hb
  unfold getAttr? getAttrBy? getAttrBy
  refine wpAny_bind (wpAny_mkText (wpAny_bind (wpAny_attempt (wpAny_holding (wpAny_bind (L0.at (wpAny_bind (L1.at ?_))))))))
  have ne : (Value.builtin "BaseException.__getattribute__" == Value.builtin "object.__getattribute__") = false := by decide +kernel
  dsimp only
  rw [ne, Bool.and_false, if_neg Bool.false_ne_true]
  unfold getAttrByItsOwn hookBefore
  refine wpAny_bind ?_
  show wpAny _ _ (typeLookup (.ref C) _) _ _ _
  refine L2.at (wpAny_bind (wpAny_attempt (wpAny_holding ?_)))
  show wpAny _ _ (boundAndCalled _ _ _) _ _ _
  unfold boundAndCalled
  refine wpAny_bind (wpAny_of_eq (PySem.F.attr_ValueError.ga.bind (.ref a)) ?_)
  show wpAny _ _ (call (.builtin "BaseException.__getattribute__") [.ref a, .str "__class__" t]) _ _ _
  refine wpAny_call (codeAny_call_builtin PySem.F.attr_ValueError.ga.plain PySem.F.entry_bexc_ga ?_)
  have kd : builtinKind "BaseException.__getattribute__" = some .slot := by decide +kernel
  have sp : splitId "BaseException.__getattribute__" = some ("BaseException", "__getattribute__") := by decide +kernel
  have ao := PySem.F.args_bexc_ga (.ref a) (.str "__class__" t)
  have LI : PySem.W.Looks (model prog w) hh (isInstance (.ref a) (.type "BaseException")) true := L0.andThen L4
  simp only [checkBuiltinCall, kd, sp]
  refine wpAny_bind (LI.at ?_)
  rw [if_neg (by decide)]
  refine wpAny_of_eq ao ?_
  unfold Builtin.«object.__getattribute__»
  refine wpAny_bind (wpAny_pure (wpAny_bind (wpAny_pure (wpAny_bind (L0.at (wpAny_bind (L3.at ?_)))))))
  show wpAny _ _ (holding [_] (call (.builtin "getset_descriptor.__get__") [.builtin "object.__class__", .ref a, .ref C]) >>= ret) _ _ _
  refine wpAny_bind (wpAny_holding (wpAny_call (PySem.W.class_get (ox := ob) (od := none) X I i.hm (wpAny_pure ?_))))
  exact wpAny_pure (wpAny_pure h)
theorem kitx_exc (i : ExcI K C) (hk : ∃ cd, PySem.W.clsIn K C = some cd) : PySem.W.KitX K (.ref a) (.ref C) (fun h => ∃ (ob : Obj) (vs : Array Value), h.get? a = some ob ∧ ob.cls = .ref C ∧ ob.dict = none ∧ ob.data = .fields vs ∧ vs[2]? = some .none) where
  ty := fun M h _ ⟨ob, vs, g, hc, _⟩ => hc ▸ (PySem.W.Looks.ld g).andThen .now
  it := fun M h X _ => by
    obtain ⟨cd, hc⟩ := hk
    unfold PySem.W.clsIn at hc
    split at hc
    · rename_i look
      intro A' Q' E' s' kp q
      unfold isType loadHead
      exact wpAny_bind (wpAny_loadPart (kp _ _ (X _ _ look)) (wpAny_pure q))
    · cases hc
  ne := fun h tp dd its n sl X htp => by
    obtain ⟨cd, hc⟩ := hk
    refine Bool.eq_false_iff.mpr fun q => ?_
    have e : C = tp := Value.ref.inj (beq_iff_eq.mp q)
    subst e
    unfold PySem.W.clsIn at hc
    split at hc
    · rename_i look
      have := X _ _ look
      rw [htp] at this
      cases this
    · cases hc
  ca := fun X ⟨ob, vs, g, hc, hd, hf, _⟩ q => exc_class i X ⟨g, hc, by unfold PySem.W.notCls; rw [hf], by rw [hd]; trivial⟩ q
end
def rIsiE (K : PySem.W.Frag) (xs : List V) (H : Hp) (Q : VK) : Prop := ∃ (a C : Addr) (c : V) (cv : Value) (b : Bool), xs = [.ref a, c] ∧ clsOf c = some cv ∧ H a = some (xo C a) ∧ ExcI K C ∧ PySem.W.kitOne K (.ref C) cv = some b ∧ Q (.bl b) H
theorem call_isinstE {X : Cx} : CallR X (.builtin "isinstance") (rIsiE X.K) := by
  intro pins s σ H xs us Q I r h
  obtain ⟨a, C, c, cv, b, rfl, hcv, hx, i, e, q⟩ := h
  obtain ⟨u, w', rfl, ru, rw'⟩ := vals2 r
  cases (show u = Value.ref a from ru)
  have ec : w' = cv := by
    cases c with
    | ty n => cases hcv; exact rw'
    | ref a => cases hcv; exact rw'
    | _ => cases hcv
  subst ec
  exact PySem.W.kia_one (kitx_exc i (exc_clsIn I.kIn i)) I.kIn (xo_get I.hok hx) e (fun z => nomatch z) fun tk => ⟨.bl b, H, I.tok tk, rfl, q⟩
theorem boot_ValueError : bootBuiltins "ValueError" = some (.type "ValueError") := by first | rfl | kernel_rfl
def Keeps (X : Cx) (CX : CXT) (k : Nat) (f : Addr) (sp : Sp) : Prop := ∃ (fd : FuncData) (ps : List Str), FnOk X.prog X.w X.K X.mg X.base CX k f fd ps sp ∧ PySem.W.keepIn X.K (.ref f) = true ∧ Binds X.K fd ps []
def tCallV (Kp : Addr → Sp → Prop) (tf : TE) (E : XK) (t : TA) : TE := fun σ H Q => tf σ H fun fv H1 => ∃ f sp, fv = .ref f ∧ Kp f sp ∧ t σ H1 fun vs H2 => sp vs H2 Q E
theorem pe_callV {X : Cx} {CX : CXT} {k : Nat} {E : XK} {fe e : Expr} {es : List Expr} {tf : TE} {t : TA} {pos : Pos} (hf : PE X fe tf) (hr : Room k X.A) (hx : Passes CX X E) (ha : PA X (e :: es) t)
    (hev : eval (.Call fe (e :: es) [] pos) X.env = (do callWith pos (← eval fe X.env) [] (backTo pos (starEach (e :: es) X.env)) (backToKw pos (keywordEach [] X.env))) := by rfl)
    (he : starEach (e :: es) X.env = (false, eval e X.env) :: starEach es X.env := by rfl) (hpl : (backTo pos (starEach es X.env)).any (·.1) = false := by rfl) : PE X (.Call fe (e :: es) [] pos) (tCallV (Keeps X CX k) tf E t) := by
  intro pins s σ H Q I h
  rw [hev]
  refine wpAny_bind (thn (hf pins s σ H _ I h) fun fv s1 ⟨x, H1, I1, rf, f, sp, ef, ⟨fd, ps, F, hk, hb⟩, q⟩ => ?_)
  subst ef
  cases (show fv = Value.ref f from rf)
  refine PySem.W.callWith_K (h₀ := X.base) I1.ok.mod.kin hk (thn (ha pos pins s1 σ H1 _ I1 q) fun us s2 ⟨vs, H2, I2, r, q2⟩ => ⟨I2.kIn, ?_⟩) he hpl
  refine run_fn (ds := []) (dvs := []) F hr hb .nil hx I2 r ?_
  rw [List.append_nil]
  exact q2
inductive Knd (K : PySem.W.Frag) (H : Hp) : V → Prop
  | non : Knd K H .non
  | bl (b : Bool) : Knd K H (.bl b)
  | int (i : Int) : Knd K H (.int i)
  | str (x : Str) : Knd K H (.str x)
  | lst {a : Addr} {xs : List V} (e : H a = some (.lst xs)) : Knd K H (.ref a)
  | tup {a : Addr} {xs : List V} (e : H a = some (.tup xs)) : Knd K H (.ref a)
  | dic {a : Addr} {kvs : List (Key × V)} (e : H a = some (.dK kvs)) : Knd K H (.ref a)
def whole : V → Bool
  | .int _ => true
  | _ => false
def isBl : V → Bool
  | .bl _ => true
  | _ => false
def isLs (H : Hp) : V → Bool
  | .ref a => match H a with
    | some (.lst _) => true
    | _ => false
  | _ => false
def cnt (v : V) (m : Int) : Bool := match v with
  | .int z => decide (0 ≤ z ∧ z ≤ m)
  | _ => false
def kinB (v : V) : Bool := match v with
  | .int z => decide (1 ≤ z)
  | _ => false
theorem whole_int {v : V} (h : whole v = true) : ∃ z, v = .int z := by
  cases v with
  | int z => exact ⟨z, rfl⟩
  | _ => cases h
theorem cnt_no {v : V} {m : Int} (h : ¬ whole v = true) : cnt v m = false := by
  cases v with
  | int z => exact absurd rfl h
  | _ => rfl
theorem whole_bl {v : V} (h : whole v = true) : isBl v = false := by
  obtain ⟨z, rfl⟩ := whole_int h
  rfl
section
variable {K : PySem.W.Frag} {H H' : Hp} {Q : VK} {v : V} {σ : St} {D : Ends}
theorem Knd.same (k : Knd K H v) (s : Same H H') : Knd K H' v := by
  cases k with
  | non => exact .non
  | bl b => exact .bl b
  | int i => exact .int i
  | str x => exact .str x
  | lst e => exact .lst (s.at e)
  | tup e => exact .tup (s.at e)
  | dic e => exact .dic (s.at e)
theorem r_isi_int (k : Knd K H v) (h : Q (.bl (whole v || isBl v)) H) : rIsi K [v, .ty "int"] H Q := by
  cases k with
  | non => exact r_isi rfl .non (show PySem.W.kitOne K (.type "NoneType") (.type "int") = some false from rfl) h
  | bl b => exact r_isi rfl (.bl b) (show PySem.W.kitOne K (.type "bool") (.type "int") = some true from rfl) h
  | int i => exact r_isi rfl (.int i) (show PySem.W.kitOne K (.type "int") (.type "int") = some true from rfl) h
  | str x => exact r_isi rfl (.str x) (show PySem.W.kitOne K (.type "str") (.type "int") = some false from rfl) h
  | lst e => exact r_isi rfl (.lst e) (show PySem.W.kitOne K (.type "list") (.type "int") = some false from rfl) h
  | tup e => exact r_isi rfl (.tup e) (show PySem.W.kitOne K (.type "tuple") (.type "int") = some false from rfl) h
  | dic e => exact r_isi rfl (.dK e) (show PySem.W.kitOne K (.type "dict") (.type "int") = some false from rfl) h
theorem r_isi_bool (k : Knd K H v) (h : Q (.bl (isBl v)) H) : rIsi K [v, .ty "bool"] H Q := by
  cases k with
  | non => exact r_isi rfl .non (show PySem.W.kitOne K (.type "NoneType") (.type "bool") = some false from rfl) h
  | bl b => exact r_isi rfl (.bl b) (show PySem.W.kitOne K (.type "bool") (.type "bool") = some true from rfl) h
  | int i => exact r_isi rfl (.int i) (show PySem.W.kitOne K (.type "int") (.type "bool") = some false from rfl) h
  | str x => exact r_isi rfl (.str x) (show PySem.W.kitOne K (.type "str") (.type "bool") = some false from rfl) h
  | lst e => exact r_isi rfl (.lst e) (show PySem.W.kitOne K (.type "list") (.type "bool") = some false from rfl) h
  | tup e => exact r_isi rfl (.tup e) (show PySem.W.kitOne K (.type "tuple") (.type "bool") = some false from rfl) h
  | dic e => exact r_isi rfl (.dK e) (show PySem.W.kitOne K (.type "dict") (.type "bool") = some false from rfl) h
theorem r_isi_list (k : Knd K H v) (h : Q (.bl (isLs H v)) H) : rIsi K [v, .ty "list"] H Q := by
  cases k with
  | non => exact r_isi rfl .non (show PySem.W.kitOne K (.type "NoneType") (.type "list") = some false from rfl) h
  | bl b => exact r_isi rfl (.bl b) (show PySem.W.kitOne K (.type "bool") (.type "list") = some false from rfl) h
  | int i => exact r_isi rfl (.int i) (show PySem.W.kitOne K (.type "int") (.type "list") = some false from rfl) h
  | str x => exact r_isi rfl (.str x) (show PySem.W.kitOne K (.type "str") (.type "list") = some false from rfl) h
  | lst e => refine r_isi rfl (.lst e) (show PySem.W.kitOne K (.type "list") (.type "list") = some true from rfl) ?_; simpa [isLs, e] using h
  | tup e => refine r_isi rfl (.tup e) (show PySem.W.kitOne K (.type "tuple") (.type "list") = some false from rfl) ?_; simpa [isLs, e] using h
  | dic e => refine r_isi rfl (.dK e) (show PySem.W.kitOne K (.type "dict") (.type "list") = some false from rfl) ?_; simpa [isLs, e] using h
inductive RowB (K : PySem.W.Frag) (H : Hp) : V → Bool → Prop
  | no {v : V} (kd : Knd K H v) (hn : isLs H v = false) : RowB K H v false
  | li {a : Addr} {xs : List V} (ha : H a = some (.lst xs)) (hk : ∀ x ∈ xs, Knd K H x) (hl : xs.length ≤ 1000000) : RowB K H (.ref a) (xs.all whole)
theorem RowB.same {b : Bool} (r : RowB K H v b) (s : Same H H') : RowB K H' v b := by
  cases r with
  | no kd hn =>
    refine .no (kd.same s) ?_
    cases kd with
    | lst e => simp [isLs, e] at hn
    | tup e => simp [isLs, s.at e]
    | dic e => simp [isLs, s.at e]
    | _ => rfl
  | li ha hk hl => exact .li (s.at ha) (fun x hx => (hk x hx).same s) hl
theorem RowB.ints {a : Addr} {ns : List Int} (ha : H a = some (.lst (ns.map V.int))) (hl : ns.length ≤ 1000000) : RowB K H (.ref a) true := by
  have e : (ns.map V.int).all whole = true := by
    rw [List.all_eq_true]
    intro x hx
    obtain ⟨z, _, rfl⟩ := List.mem_map.mp hx
    rfl
  rw [← e]
  refine .li ha (fun x hx => ?_) (by rw [List.length_map]; exact hl)
  obtain ⟨z, _, rfl⟩ := List.mem_map.mp hx
  exact .int z
theorem RowB.bad {a : Addr} {xs : List V} (ha : H a = some (.lst xs)) (hk : ∀ x ∈ xs, Knd K H x) (hl : xs.length ≤ 1000000) (hn : xs.all whole = false) : RowB K H (.ref a) false := by
  rw [← hn]
  exact .li ha hk hl
theorem r_raise {E : XK} {C : Addr} {t : TA} (h : t σ H fun vs H1 => vs.length ≤ 1000 ∧ E (.ref C) none H1) : tRaise E C t D σ H := h
theorem r_try {LE : Addr} {i : Nat} {sp : Sp} {ta : TA} {ts : Addr → TS} (h : ta σ H fun vs H1 => sp vs H1 (fun _ H2 => D.nx σ H2) (fun cv _ H2 => ∃ C, cv = .ref C ∧ excB K C = true ∧ PySem.W.subIn K (.ref C) (.ref LE) = some true ∧
  ∀ a, H2 a = none → ts a { nx := fun _ _ => False, rt := D.rt } (σ.set i (some (.ref a))) (upd H2 a (xo C a)))) : tTry K LE i sp ta ts D σ H := h
theorem r_callV {Kp : Addr → Sp → Prop} {tf : TE} {E : XK} {t : TA} (h : tf σ H fun fv H1 => ∃ f sp, fv = .ref f ∧ Kp f sp ∧ t σ H1 fun vs H2 => sp vs H2 Q E) : tCallV Kp tf E t σ H Q := h
theorem r_isiE {a C : Addr} {c : V} {cv : Value} {b : Bool} (hc : clsOf c = some cv) (hx : H a = some (xo C a)) (i : ExcI K C) (e : PySem.W.kitOne K (.ref C) cv = some b) (h : Q (.bl b) H) : rIsiE K [.ref a, c] H Q := ⟨a, C, c, cv, b, rfl, hc, hx, i, e, h⟩
theorem r_iRngX {xa : Addr} {ta : TA} {R : It → Hp → Prop} (h : ta σ H fun vs H1 => ∃ j : Int, vs = [.int j] ∧ -(2 ^ 62) ≤ j ∧ j < 2 ^ 62 ∧ R (Itx xa 0 j.toNat) H1) : iRngX xa ta σ H R := h
end
end L2
set_option maxRecDepth 100000
set_option maxHeartbeats 4000000
namespace My
open PySem PySem.Spec PyProof.Rows L2
abbrev body := PySem.Challenge.pw_leftin_k08_refused.main.body
seal PE PT PW PA PS PSs PC PG PGs PSet PIp PGet PI OpR UnR CallR TruR PK PO SlR IxR MtR PPs
local macro_rules | `(tactic| walk_at "nn") => `(tactic| omega)
local macro_rules | `(tactic| walk_at "sm") => `(tactic| first | with_reducible exact Same.refl _ | with_reducible assumption | ((with_reducible refine same_upd ?_ ?_); walk_at "sm"; walk_at "fr") | ((with_reducible apply same_trans); (focus with_reducible assumption); walk_at "sm"))
local macro_rules | `(tactic| walk_at "ce") => `(tactic| first | rfl | (dsimp only [cxComp]; done) | (dsimp only [cxComp]; rfl))
local macro_rules | `(tactic| walk_at "ci") => `(tactic| first | (show (0 : Int) < _; omega) | exact ⟨by omega, by omega⟩ | exact mul2Ok | exact ⟨by decide, by decide, by decide⟩)
local macro_rules | `(tactic| walk_at "fr1") => `(tactic| first | with_reducible assumption | ((with_reducible apply free_upd); first | with_reducible assumption | ((with_reducible apply free_upd); first | with_reducible assumption | ((with_reducible apply free_upd); first | with_reducible assumption | ((with_reducible apply free_upd); first | with_reducible assumption | ((with_reducible apply free_upd); first | with_reducible assumption | ((with_reducible apply free_upd); first | with_reducible assumption | ((with_reducible apply free_upd); first | with_reducible assumption | ((with_reducible apply free_upd); first | with_reducible assumption | ((with_reducible apply free_upd); first | with_reducible assumption | ((with_reducible apply free_upd); first | with_reducible assumption | ((with_reducible apply free_upd); first | with_reducible assumption | ((with_reducible apply free_upd); first | with_reducible assumption | ((with_reducible apply free_upd); with_reducible assumption))))))))))))))
local macro_rules | `(tactic| walk_at "fr") => `(tactic| first | walk_at "fr1" | ((with_reducible apply free_of); (focus with_reducible assumption); walk_at "sm") | ((with_reducible apply Same.free); (focus with_reducible assumption); walk_at "fr1"))
local macro_rules | `(tactic| walk_at "ft") => `(tactic| first
  | with_reducible assumption
  | with_reducible exact upd_same
  | ((with_reducible apply SqL.of); first | with_reducible assumption | with_reducible exact upd_same)
  | ((with_reducible apply mk_keep); (focus with_reducible assumption); (focus with_reducible assumption); walk_at "ft")
  | ((with_reducible apply mk_sq); (focus with_reducible assumption); (focus with_reducible assumption); walk_at "ft")
  | ((with_reducible apply upd_keepA); (focus with_reducible assumption); walk_at "ft")
  | ((with_reducible apply sq_keepA); (focus with_reducible assumption); walk_at "ft")
  | ((with_reducible apply Same.at); (focus with_reducible assumption); walk_at "ft")
  | ((with_reducible apply Same.seq); (focus with_reducible assumption); walk_at "ft")
  | ((with_reducible apply upd_keepNeA); (focus walk_at "ne"); walk_at "ft")
  | ((with_reducible apply sq_keepNeA); (focus walk_at "ne"); walk_at "ft")
  | assumption
  | exact upd_same)
local macro_rules | `(tactic| walk_at "ne") => `(tactic| first | with_reducible assumption | ((with_reducible apply Ne.symm); with_reducible assumption) | ((with_reducible apply ne_upd); with_reducible assumption) | ((with_reducible apply Ne.symm); (with_reducible apply ne_upd); with_reducible assumption) | ((with_reducible apply ne_of_none); rotate_left; (focus walk_at "fr"); walk_at "ft") | ((with_reducible apply Ne.symm); (with_reducible apply ne_of_none); rotate_left; (focus walk_at "fr"); walk_at "ft"))
local macro_rules | `(tactic| walk_at "rd1") => `(tactic| first
  | with_reducible refine iteTeF ?_ | with_reducible refine iteFeT ?_ | with_reducible refine iteTeT ?_ | with_reducible refine iteFeF ?_ | with_reducible refine iteTnT ?_ | with_reducible refine iteFnF ?_ | with_reducible refine iteTnF ?_ | with_reducible refine iteFnT ?_ | with_reducible refine iteNBB ?_ | with_reducible refine iteNDD ?_ | with_reducible refine iteDD ?_
  | with_reducible refine iteT ?_ | with_reducible refine iteF ?_ | with_reducible refine iteNT ?_ | with_reducible refine iteNF ?_
  | with_reducible refine r_seq ?_ | with_reducible refine r_asg ?_ | ((with_reducible refine r_name ?_); first | (dsimp only [inner]; dsimp only [List.replicate, List.map, List.cons_append, List.nil_append, List.getElem?_cons_zero, List.getElem?_cons_succ, Option.join_some, List.set]) | dsimp only [List.set] | skip) | with_reducible refine r_ifs ?_ | with_reducible refine r_ret ?_ | with_reducible refine r_next ?_ | with_reducible refine r_drop ?_
  | with_reducible refine r_break ?_ | with_reducible refine r_cont ?_ | ((with_reducible show tVar _ _ _ _); refine r_var rfl ?_) | with_reducible refine r_c ?_ | with_reducible refine r_op ?_ | with_reducible refine r_un ?_ | with_reducible refine r_cb ?_
  | with_reducible refine r_cons ?_ | with_reducible refine r_nil ?_ | with_reducible refine r_test ?_ | with_reducible refine r_tB ?_ | with_reducible refine r_bl ?_ | with_reducible refine r_not ?_ | with_reducible refine r_and ?_ | with_reducible refine r_or ?_
  | with_reducible refine r_andV ?_ | with_reducible refine r_orV ?_ | with_reducible refine r_notV ?_ | with_reducible refine r_call ?_ | with_reducible refine r_chain ?_ | with_reducible refine r_lst ?_ | with_reducible refine r_tup ?_
  | with_reducible refine r_sl ?_ | with_reducible refine r_sl3 ?_ | with_reducible refine r_part ?_ | with_reducible refine r_noPart ?_ | with_reducible refine r_int ?_ | with_reducible refine r_comp ?_ | with_reducible refine r_for ?_ | with_reducible refine r_iList ?_
  | with_reducible refine r_iZip ?_ | with_reducible refine r_iEnum ?_ | with_reducible refine r_iRng1 ?_ | with_reducible refine r_tBM ?_ | with_reducible refine r_tBM0 ?_ | with_reducible refine r_new0 ?_ | with_reducible refine r_new1 ?_ | with_reducible refine r_new2 ?_ | with_reducible refine r_new3 ?_ | with_reducible refine r_new4 ?_ | with_reducible refine r_new5 ?_ | ((with_reducible refine r_newL ?_ ?_); (· first | decide | (simp; done) | (simp; omega))) | ((with_reducible refine r_newT ?_ ?_); (· first | decide | (simp; done) | (simp; omega)))
  | ((with_reducible apply r_AtL); walk_at "ft") | ((with_reducible apply r_AtZ); walk_at "ft"; walk_at "ft") | ((with_reducible apply r_AtE); walk_at "ft")
  | ((with_reducible refine r_rI ?_ ?_); (· walk_at "ci")) | with_reducible refine r_rI0 ?_ | with_reducible refine r_rU ?_ | with_reducible refine r_addI ?_ | with_reducible refine r_eqI ?_ | with_reducible refine r_neI ?_ | with_reducible refine r_eqB ?_ | with_reducible refine r_neB ?_ | with_reducible refine r_isB ?_ | with_reducible refine r_isnotB ?_
  | ((with_reducible apply r_lenI); walk_at "ft") | ((with_reducible apply r_lenD); walk_at "ft")
  | ((with_reducible apply r_eqL); walk_at "ft"; walk_at "ft") | ((with_reducible apply r_neL); walk_at "ft"; walk_at "ft")
  | ((with_reducible apply r_inI); walk_at "ft") | ((with_reducible apply r_notInI); walk_at "ft")
  | ((with_reducible apply r_slNeg1); walk_at "ft") | ((with_reducible apply r_slTo); walk_at "ft"; (focus walk_at "nn")) | ((with_reducible apply r_slFrom); walk_at "ft"; (focus walk_at "nn")) | ((with_reducible apply r_slMid); walk_at "ft"; (focus walk_at "nn"); (focus walk_at "nn"))
  | ((with_reducible apply r_lofI); walk_at "ft") | with_reducible refine r_new0 ?_ | with_reducible refine r_new1 ?_ | with_reducible refine r_new2 ?_ | with_reducible refine r_new3 ?_ | with_reducible refine r_new4 ?_ | with_reducible refine r_new5 ?_
  | ((with_reducible apply r_rev); walk_at "ft") | ((with_reducible apply r_ev); walk_at "ft") | ((with_reducible apply r_od); walk_at "ft")
  | ((with_reducible apply r_AtM); walk_at "ft")
  | with_reducible refine r_dget2 ?_ | ((with_reducible apply r_AtD2); walk_at "ft") | ((with_reducible apply r_DG2); walk_at "ft") | with_reducible refine r_dput ?_ | with_reducible refine r_dnewK ?_ | with_reducible refine r_par ?_ | ((with_reducible refine r_Par2 ?_); dsimp only [List.set])
  | ((with_reducible apply r_isi_tt); (focus walk_at "ft"))
  | with_reducible refine r_isi_bb ?_ | with_reducible refine r_isi_ii ?_ | with_reducible refine r_isi_ib ?_ | ((with_reducible apply r_isi_ll); walk_at "ft")
  | ((with_reducible apply r_sum); walk_at "ft") | ((with_reducible apply r_ixLit); (focus walk_at "ft"); (focus rfl))
  | ((with_reducible refine r_eiL ?_); (with_reducible refine r_meth ?_); ((with_reducible show tVar _ _ _ _); refine r_var rfl ?_); ((with_reducible apply r_AtMe); (focus walk_at "ft"); (focus first | with_reducible assumption | rfl))) | with_reducible refine r_eiR ?_
  | ((with_reducible apply r_any3F); (focus walk_at "ft")) | ((with_reducible apply r_any2F); (focus walk_at "ft"))
  | with_reducible refine r_max2 ?_ | with_reducible refine r_par3 ?_ | ((with_reducible refine r_Par3 ?_); dsimp only [List.set])
  | with_reducible refine r_din ?_ | with_reducible refine r_dnotin ?_ | with_reducible refine r_dnewT ?_
  | with_reducible refine r_gsub ?_ | with_reducible refine r_lr1 ?_ | with_reducible refine r_lr2 ?_
  | with_reducible refine r_fld ?_ | ((with_reducible apply r_AtF); (focus walk_at "ft"); (focus assumption); (focus assumption); (focus first | with_reducible assumption | rfl)) | with_reducible refine r_sfld ?_ | ((with_reducible apply r_SetF); (focus walk_at "ft"); (focus assumption); (focus assumption); (focus first | (show _ < 1000; decide) | exact (show 1 < 1000 by decide) | exact (show 2 < 1000 by decide) | exact (show 3 < 1000 by decide)))
  | with_reducible refine r_meth ?_ | ((with_reducible apply r_AtMe); (focus walk_at "ft"); (focus first | with_reducible assumption | rfl)) | with_reducible refine r_make ?_ | ((with_reducible apply r_isi_cls); (focus walk_at "ft"); (focus assumption); (focus assumption))
  | with_reducible refine r_iRng3 ?_ | ((with_reducible show tAug _ _ _ _ _ _); refine r_aug rfl ?_; dsimp only [List.set]) | with_reducible refine r_ipI ?_ | with_reducible refine r_augS ?_
  | with_reducible refine r_iKeys ?_ | with_reducible refine r_dget ?_
  | with_reducible refine r_gCons ?_ | with_reducible refine r_gNil ?_ | ((with_reducible apply r_gTup); walk_at "ft"; rfl))
local macro_rules | `(tactic| walk_at "rd") => `(tactic| repeat walk_at "rd1")

abbrev s_is_whole : Stmt := body.getD 7 (.Pass ⟨0, 0, 0, 0⟩)
abbrev N_is_whole : List Str := ["value"]
abbrev P_is_whole : List Str := ["value"]
theorem sc_is_whole : FnScope N_is_whole P_is_whole (defScope s_is_whole) := ⟨rfl, rfl, rfl, by decide, rfl, by decide, by decide⟩
section
variable {P : Program} {w : World} {K : PySem.W.Frag} {mg : Str → Option Value} {base : Heap} {f : Addr} {fd : FuncData}
def sp_is_whole (K : PySem.W.Frag) : Sp := fun vs H Q _ => ∃ v : V, vs = [v] ∧ Knd K H v ∧ Q (.bl (whole v)) H
theorem ok_is_whole (F : Fun K "is_whole" "is_whole" s_is_whole f fd) (T : Blt mg) : FnOk P w K mg base CX0 1 f fd P_is_whole (sp_is_whole K) := by
  refine F.ok sc_is_whole (fun vs H Q E h => ?_) (fun cdv A outer s H vs Q E hr h => ?_)
  · obtain ⟨_, rfl, _⟩ := h
    rfl
  · obtain ⟨v, rfl, kd, k⟩ := h
    have nd := sc_is_whole.nd
    have hu := hr.units
    refine ⟨_, (pss_one (ps_ret (pe_and (pe_callB call_isinst rfl T.no_isinstance boot_isinstance (pa_cons (pv 0) (pa_cons (pe_bty rfl T.no_int boot_int) pa_nil))) (pe_one (pe_not (pe_callB call_isinst rfl T.no_isinstance boot_isinstance (pa_cons (pv 0) (pa_cons (pe_bty rfl T.no_bool boot_bool) pa_nil)))))))), ?_⟩
    try simp only [show (cxOf CX0 P w K mg base N_is_whole "is_whole" (defScope s_is_whole) f cdv A outer s H E).nox.K = K from rfl, show (cxOf CX0 P w K mg base N_is_whole "is_whole" (defScope s_is_whole) f cdv A outer s H E).K = K from rfl]
    rw [show L2.start N_is_whole [v] = [some (v)] from rfl]
    walk_at "rd"
    refine r_isi_int kd ?_
    cases hw : whole v with
    | true =>
      have hb := whole_bl hw
      rw [hw] at k
      rw [Bool.true_or]
      walk_at "rd"
      refine r_isi_bool kd ?_
      rw [hb]
      walk_at "rd"
      exact k
    | false =>
      rw [hw] at k
      cases hb : isBl v with
      | true =>
        rw [Bool.or_true]
        walk_at "rd"
        refine r_isi_bool kd ?_
        rw [hb]
        walk_at "rd"
        exact k
      | false =>
        rw [Bool.or_false]
        walk_at "rd"
        exact k
end

abbrev s_is_count : Stmt := body.getD 8 (.Pass ⟨0, 0, 0, 0⟩)
abbrev N_is_count : List Str := ["value", "most"]
abbrev P_is_count : List Str := ["value", "most"]
theorem sc_is_count : FnScope N_is_count P_is_count (defScope s_is_count) := ⟨rfl, rfl, rfl, by decide, rfl, by decide, by decide⟩
section
variable {P : Program} {w : World} {K : PySem.W.Frag} {mg : Str → Option Value} {base : Heap} {f f2 : Addr} {fd fd2 : FuncData}
def sp_is_count (K : PySem.W.Frag) : Sp := fun vs H Q _ => ∃ (v : V) (m : Int), vs = [v, .int m] ∧ Knd K H v ∧ Q (.bl (cnt v m)) H
theorem ok_is_count (F : Fun K "is_count" "is_count" s_is_count f fd) (T : Blt mg) (C_is_whole : Cal K mg "is_whole" f2 fd2 P_is_whole) (G_is_whole : FnOk P w K mg base CX0 1 f2 fd2 P_is_whole (sp_is_whole K)) : FnOk P w K mg base CX0 2 f fd P_is_count (sp_is_count K) := by
  refine F.ok sc_is_count (fun vs H Q E h => ?_) (fun cdv A outer s H vs Q E hr h => ?_)
  · obtain ⟨_, _, rfl, _⟩ := h
    rfl
  · obtain ⟨v, m, rfl, kd, k⟩ := h
    have nd := sc_is_count.nd
    have hu := hr.units
    refine ⟨_, (pss_one (ps_ret (pe_and (pe_call G_is_whole (hr.mono (by decide)) rfl C_is_whole.mg C_is_whole.kp C_is_whole.b .nil pass0 (pa_cons (pv 0) pa_nil)) (pe_one (pe_chain op_le op_le pe_int (pv 0) (pv 1)))))), ?_⟩
    try simp only [show (cxOf CX0 P w K mg base N_is_count "is_count" (defScope s_is_count) f cdv A outer s H E).nox.K = K from rfl, show (cxOf CX0 P w K mg base N_is_count "is_count" (defScope s_is_count) f cdv A outer s H E).K = K from rfl]
    rw [show L2.start N_is_count [v, V.int m] = [some (v), some (V.int m)] from rfl]
    walk_at "rd"
    refine ⟨v, rfl, kd, ?_⟩
    by_cases hw : whole v = true
    · obtain ⟨z, rfl⟩ := whole_int hw
      have e0 : cnt (.int z) m = decide (0 ≤ z ∧ z ≤ m) := rfl
      rw [e0] at k
      rw [hw]
      walk_at "rd"
      refine iteD (fun h1 => ?_) (fun h1 => ?_)
      · walk_at "rd"
        have e : decide (0 ≤ z ∧ z ≤ m) = decide (z ≤ m) := by
          by_cases h2 : z ≤ m
          · rw [decide_eq_true h2, decide_eq_true ⟨h1, h2⟩]
          · rw [decide_eq_false h2, decide_eq_false fun q => h2 q.2]
        rw [e] at k
        exact k
      · walk_at "rd"
        rw [decide_eq_false fun q => h1 q.1] at k
        exact k
    · rw [cnt_no hw] at k
      rw [Bool.eq_false_iff.mpr hw]
      walk_at "rd"
      exact k
end

abbrev s_is_row : Stmt := body.getD 9 (.Pass ⟨0, 0, 0, 0⟩)
abbrev N_is_row : List Str := ["value"]
abbrev P_is_row : List Str := ["value"]
theorem sc_is_row : FnScope N_is_row P_is_row (defScope s_is_row) := ⟨rfl, rfl, rfl, by decide, rfl, by decide, by decide⟩
section
variable {P : Program} {w : World} {K : PySem.W.Frag} {mg : Str → Option Value} {base : Heap} {f f2 : Addr} {fd fd2 : FuncData}
def sp_is_row (K : PySem.W.Frag) : Sp := fun vs H Q _ => ∃ (v : V) (b : Bool), vs = [v] ∧ RowB K H v b ∧ ∀ H', Same H H' → Q (.bl b) H'
theorem ok_is_row (F : Fun K "is_row" "is_row" s_is_row f fd) (T : Blt mg) (C_is_whole : Cal K mg "is_whole" f2 fd2 P_is_whole) (G_is_whole : FnOk P w K mg base CX0 1 f2 fd2 P_is_whole (sp_is_whole K)) : FnOk P w K mg base CX0 2 f fd P_is_row (sp_is_row K) := by
  refine F.ok sc_is_row (fun vs H Q E h => ?_) (fun cdv A outer s H vs Q E hr h => ?_)
  · obtain ⟨_, _, rfl, _⟩ := h
    rfl
  · obtain ⟨v, b, rfl, rb, k⟩ := h
    have nd := sc_is_row.nd
    have hu := hr.units
    refine ⟨_, (pss_one (ps_ret (pe_and (pe_callB call_isinst rfl T.no_isinstance boot_isinstance (pa_cons (pv 0) (pa_cons (pe_bty rfl T.no_list boot_list) pa_nil))) (pe_one (pe_callB (call_allB rfl) rfl T.no_all boot_all (pa_cons (pe_comp (N := ["sign"]) (k := 1) (caps := []) (Block.of (by kernel_rfl)) rfl (pi_list (pv 0)) (fun _ _ _ _ => ⟨_, (pg_name (i := 0) (by show List.Nodup (["sign"] : List Str); decide) rfl (by first | exact Or.inl rfl | exact Or.inr rfl)), by walk_at "ce"⟩) (fun _ _ _ _ => ⟨_, PIfs.none, by walk_at "ce"⟩) (fun _ _ _ _ => ⟨_, (pe_call G_is_whole (hr.mono (by decide)) rfl C_is_whole.mg C_is_whole.kp C_is_whole.b .nil pass0 (pa_cons (pv 0) pa_nil)), by walk_at "ce"⟩)) pa_nil)))))), ?_⟩
    try simp only [show (cxOf CX0 P w K mg base N_is_row "is_row" (defScope s_is_row) f cdv A outer s H E).nox.K = K from rfl, show (cxOf CX0 P w K mg base N_is_row "is_row" (defScope s_is_row) f cdv A outer s H E).K = K from rfl]
    rw [show L2.start N_is_row [v] = [some (v)] from rfl]
    walk_at "rd"
    cases rb with
    | no kd hn =>
      refine r_isi_list kd ?_
      rw [hn]
      walk_at "rd"
      exact k _ (Same.refl _)
    | @li a xs ha hk hl =>
      refine r_isi_ll ha ?_
      walk_at "rd"
      refine comp_map (ov_list (xs := xs)) (fun v => .bl (whole v)) (fun H' s' => SqL.of (s'.at ha)) hl ?_ ?_
      · rintro i z x H3 H4 R R' hi s3 ⟨rfl, rfl⟩ h1
        have kz := (hk _ (List.mem_of_getElem? hi)).same s3
        walk_at "rd"
        refine ⟨⟨rfl, rfl⟩, ?_⟩
        walk_at "rd"
        exact ⟨_, rfl, kz, h1 _ (Same.refl _)⟩
      · intro D H' hD s' hd
        walk_at "rd"
        refine r_allM (l := xs) (g := fun v => whole v) (SqL.of hd) ?_
        exact k _ s'
end

abbrev s_checked_row : Stmt := body.getD 10 (.Pass ⟨0, 0, 0, 0⟩)
abbrev N_checked_row : List Str := ["value"]
abbrev P_checked_row : List Str := ["value"]
theorem sc_checked_row : FnScope N_checked_row P_checked_row (defScope s_checked_row) := ⟨rfl, rfl, rfl, by decide, rfl, by decide, by decide⟩
section
variable {P : Program} {w : World} {K : PySem.W.Frag} {mg : Str → Option Value} {base : Heap} {f f2 k_BadRow : Addr} {fd fd2 : FuncData}
def sp_checked_row (K : PySem.W.Frag) (C : Addr) : Sp := fun vs H Q E => ∃ v : V, vs = [v] ∧ ((RowB K H v false ∧ ∀ H', Same H H' → E (.ref C) none H') ∨ (∃ (a : Addr) (ns : List Int), v = .ref a ∧ H a = some (.lst (ns.map V.int)) ∧ ns.length ≤ 1000 ∧ ∀ p H', H p = none → Same H H' → H' p = some (.lst (ns.map V.int)) → Q (.ref p) H'))
theorem ok_checked_row (F : Fun K "checked_row" "checked_row" s_checked_row f fd) (T : Blt mg) (C_is_row : Cal K mg "is_row" f2 fd2 P_is_row) (G_is_row : FnOk P w K mg base CX0 2 f2 fd2 P_is_row (sp_is_row K))
    (x_BadRow : excB K k_BadRow = true) (g_BadRow : mg "BadRow" = some (.ref k_BadRow)) : FnOk P w K mg base (CXR P w) 3 f fd P_checked_row (sp_checked_row K k_BadRow) := by
  refine F.okR sc_checked_row (fun vs H Q E h => ?_) (fun cdv A outer s H vs Q E hr h => ?_)
  · obtain ⟨_, rfl, _⟩ := h
    rfl
  · obtain ⟨v, rfl, h⟩ := h
    have nd := sc_checked_row.nd
    have hu := hr.units
    refine ⟨_, (pss_cons (ps_if (pt_not (pt_val (pe_call G_is_row (hr.mono (by decide)) rfl C_is_row.mg C_is_row.kp C_is_row.b .nil pass0 (pa_cons (pv 0) pa_nil)))) (pss_one (ps_raise x_BadRow rfl g_BadRow (pa_cons pe_str pa_nil))) pss_nil)
     (pss_one (ps_ret (pe_callTy call_listOf rfl T.no_list boot_list (pa_cons (pv 0) pa_nil))))), ?_⟩
    try simp only [show (cxR P w K mg base N_checked_row "checked_row" (defScope s_checked_row) f cdv A outer s H E).K = K from rfl]
    rw [show L2.start N_checked_row [v] = [some (v)] from rfl]
    walk_at "rd"
    rcases h with ⟨rb, k⟩ | ⟨a, ns, rfl, ha, hn, k⟩
    · refine ⟨v, false, rfl, rb, fun H1 s1 => ?_⟩
      walk_at "rd"
      refine r_raise ?_
      walk_at "rd"
      exact ⟨by decide, k _ s1⟩
    · refine ⟨.ref a, true, rfl, RowB.ints ha (by omega), fun H1 s1 => ?_⟩
      walk_at "rd"
      intro p hp
      walk_at "rd"
      exact k p _ (by walk_at "fr") (by walk_at "sm") (by walk_at "ft")
end

section
def Good (H : Hp) (v : V) (n : Nat) : Prop := ∃ (a : Addr) (ns : List Int), v = .ref a ∧ H a = some (.lst (ns.map V.int)) ∧ ns.length ≤ n
def sp_two (K : PySem.W.Frag) (C : Addr) : Sp := fun vs H _ E => ∃ v u : V, vs = [v, u] ∧ (RowB K H v false ∨ (Good H v 1000 ∧ RowB K H u false)) ∧ ∀ H', Same H H' → E (.ref C) none H'
def sp_one (K : PySem.W.Frag) (C : Addr) : Sp := fun vs H _ E => ∃ v : V, vs = [v] ∧ RowB K H v false ∧ ∀ H', Same H H' → E (.ref C) none H'
end

abbrev s_left : Stmt := body.getD 34 (.Pass ⟨0, 0, 0, 0⟩)
abbrev N_left : List Str := ["row", "other", "signs", "asked", "places"]
abbrev P_left : List Str := ["row", "other"]
theorem sc_left : FnScope N_left P_left (defScope s_left) := ⟨rfl, rfl, rfl, by decide, rfl, by decide, by decide⟩
section
variable {P : Program} {w : World} {K : PySem.W.Frag} {mg : Str → Option Value} {base : Heap} {f f2 k_BadRow : Addr} {fd fd2 : FuncData}
theorem ok_left (F : Fun K "left" "left" s_left f fd) (T : Blt mg) (C_checked_row : Cal K mg "checked_row" f2 fd2 P_checked_row) (G_checked_row : FnOk P w K mg base (CXR P w) 3 f2 fd2 P_checked_row (sp_checked_row K k_BadRow)) : FnOk P w K mg base (CXR P w) 4 f fd P_left (sp_two K k_BadRow) := by
  refine F.okR sc_left (fun vs H Q E h => ?_) (fun cdv A outer s H vs Q E hr h => ?_)
  · obtain ⟨_, _, rfl, _⟩ := h
    rfl
  · obtain ⟨v, u, rfl, h, k⟩ := h
    have nd := sc_left.nd
    have hu := hr.units
    refine ⟨_, (pss_cons (ps_set (i := 2) nd rfl (by first | exact Or.inl rfl | exact Or.inr rfl) (pe_call G_checked_row (hr.mono (by decide)) rfl C_checked_row.mg C_checked_row.kp C_checked_row.b .nil passR (pa_cons (pv 0) pa_nil)))
     (pss_cons (ps_set (i := 3) nd rfl (by first | exact Or.inl rfl | exact Or.inr rfl) (pe_call G_checked_row (hr.mono (by decide)) rfl C_checked_row.mg C_checked_row.kp C_checked_row.b .nil passR (pa_cons (pv 1) pa_nil)))
     pss_no)), ?_⟩
    try simp only [show (cxR P w K mg base N_left "left" (defScope s_left) f cdv A outer s H E).K = K from rfl]
    rw [show L2.start N_left [v, u] = [some (v), some (u), none, none, none] from rfl]
    walk_at "rd"
    rcases h with h | ⟨⟨a, ns, rfl, ha, hn⟩, h⟩
    · exact ⟨v, rfl, .inl ⟨h, k⟩⟩
    · refine ⟨_, rfl, .inr ⟨a, ns, rfl, ha, hn, fun p H1 hp s1 h1 => ?_⟩⟩
      walk_at "rd"
      exact ⟨u, rfl, .inl ⟨h.same s1, fun H2 s2 => k _ (s1.trans s2)⟩⟩
end

abbrev s_kin : Stmt := body.getD 14 (.Pass ⟨0, 0, 0, 0⟩)
abbrev N_kin : List Str := ["row", "signs", "count", "ending", "sign", "more"]
abbrev P_kin : List Str := ["row"]
theorem sc_kin : FnScope N_kin P_kin (defScope s_kin) := ⟨rfl, rfl, rfl, by decide, rfl, by decide, by decide⟩
section
variable {P : Program} {w : World} {K : PySem.W.Frag} {mg : Str → Option Value} {base : Heap} {f f2 k_BadRow : Addr} {fd fd2 : FuncData}
theorem ok_kin (F : Fun K "kin" "kin" s_kin f fd) (T : Blt mg) (C_checked_row : Cal K mg "checked_row" f2 fd2 P_checked_row) (G_checked_row : FnOk P w K mg base (CXR P w) 3 f2 fd2 P_checked_row (sp_checked_row K k_BadRow)) : FnOk P w K mg base (CXR P w) 4 f fd P_kin (sp_one K k_BadRow) := by
  refine F.okR sc_kin (fun vs H Q E h => ?_) (fun cdv A outer s H vs Q E hr h => ?_)
  · obtain ⟨_, rfl, _⟩ := h
    rfl
  · obtain ⟨v, rfl, h, k⟩ := h
    have nd := sc_kin.nd
    have hu := hr.units
    refine ⟨_, (pss_cons (ps_set (i := 1) nd rfl (by first | exact Or.inl rfl | exact Or.inr rfl) (pe_call G_checked_row (hr.mono (by decide)) rfl C_checked_row.mg C_checked_row.kp C_checked_row.b .nil passR (pa_cons (pv 0) pa_nil)))
     pss_no), ?_⟩
    try simp only [show (cxR P w K mg base N_kin "kin" (defScope s_kin) f cdv A outer s H E).K = K from rfl]
    rw [show L2.start N_kin [v] = [some (v), none, none, none, none, none] from rfl]
    walk_at "rd"
    exact ⟨v, rfl, .inl ⟨h, k⟩⟩
end

abbrev s_longest : Stmt := body.getD 35 (.Pass ⟨0, 0, 0, 0⟩)
abbrev N_longest : List Str := ["one", "other", "first", "second", "table", "pairs"]
abbrev P_longest : List Str := ["one", "other"]
theorem sc_longest : FnScope N_longest P_longest (defScope s_longest) := ⟨rfl, rfl, rfl, by decide, rfl, by decide, by decide⟩
section
variable {P : Program} {w : World} {K : PySem.W.Frag} {mg : Str → Option Value} {base : Heap} {f f2 k_BadRow : Addr} {fd fd2 : FuncData}
theorem ok_longest (F : Fun K "longest" "longest" s_longest f fd) (T : Blt mg) (C_checked_row : Cal K mg "checked_row" f2 fd2 P_checked_row) (G_checked_row : FnOk P w K mg base (CXR P w) 3 f2 fd2 P_checked_row (sp_checked_row K k_BadRow)) : FnOk P w K mg base (CXR P w) 4 f fd P_longest (sp_two K k_BadRow) := by
  refine F.okR sc_longest (fun vs H Q E h => ?_) (fun cdv A outer s H vs Q E hr h => ?_)
  · obtain ⟨_, _, rfl, _⟩ := h
    rfl
  · obtain ⟨v, u, rfl, h, k⟩ := h
    have nd := sc_longest.nd
    have hu := hr.units
    refine ⟨_, (pss_cons (ps_set (i := 2) nd rfl (by first | exact Or.inl rfl | exact Or.inr rfl) (pe_call G_checked_row (hr.mono (by decide)) rfl C_checked_row.mg C_checked_row.kp C_checked_row.b .nil passR (pa_cons (pv 0) pa_nil)))
     (pss_cons (ps_set (i := 3) nd rfl (by first | exact Or.inl rfl | exact Or.inr rfl) (pe_call G_checked_row (hr.mono (by decide)) rfl C_checked_row.mg C_checked_row.kp C_checked_row.b .nil passR (pa_cons (pv 1) pa_nil)))
     pss_no)), ?_⟩
    try simp only [show (cxR P w K mg base N_longest "longest" (defScope s_longest) f cdv A outer s H E).K = K from rfl]
    rw [show L2.start N_longest [v, u] = [some (v), some (u), none, none, none, none] from rfl]
    walk_at "rd"
    rcases h with h | ⟨⟨a, ns, rfl, ha, hn⟩, h⟩
    · exact ⟨v, rfl, .inl ⟨h, k⟩⟩
    · refine ⟨_, rfl, .inr ⟨a, ns, rfl, ha, hn, fun p H1 hp s1 h1 => ?_⟩⟩
      walk_at "rd"
      exact ⟨u, rfl, .inl ⟨h.same s1, fun H2 s2 => k _ (s1.trans s2)⟩⟩
end

abbrev s_shortest : Stmt := body.getD 37 (.Pass ⟨0, 0, 0, 0⟩)
abbrev N_shortest : List Str := ["one", "other", "first", "second", "table", "row", "mine", "theirs", "pair"]
abbrev P_shortest : List Str := ["one", "other"]
theorem sc_shortest : FnScope N_shortest P_shortest (defScope s_shortest) := ⟨rfl, rfl, rfl, by decide, rfl, by decide, by decide⟩
section
variable {P : Program} {w : World} {K : PySem.W.Frag} {mg : Str → Option Value} {base : Heap} {f f2 k_BadRow : Addr} {fd fd2 : FuncData}
theorem ok_shortest (F : Fun K "shortest" "shortest" s_shortest f fd) (T : Blt mg) (C_checked_row : Cal K mg "checked_row" f2 fd2 P_checked_row) (G_checked_row : FnOk P w K mg base (CXR P w) 3 f2 fd2 P_checked_row (sp_checked_row K k_BadRow)) : FnOk P w K mg base (CXR P w) 4 f fd P_shortest (sp_two K k_BadRow) := by
  refine F.okR sc_shortest (fun vs H Q E h => ?_) (fun cdv A outer s H vs Q E hr h => ?_)
  · obtain ⟨_, _, rfl, _⟩ := h
    rfl
  · obtain ⟨v, u, rfl, h, k⟩ := h
    have nd := sc_shortest.nd
    have hu := hr.units
    refine ⟨_, (pss_cons (ps_set (i := 2) nd rfl (by first | exact Or.inl rfl | exact Or.inr rfl) (pe_call G_checked_row (hr.mono (by decide)) rfl C_checked_row.mg C_checked_row.kp C_checked_row.b .nil passR (pa_cons (pv 0) pa_nil)))
     (pss_cons (ps_set (i := 3) nd rfl (by first | exact Or.inl rfl | exact Or.inr rfl) (pe_call G_checked_row (hr.mono (by decide)) rfl C_checked_row.mg C_checked_row.kp C_checked_row.b .nil passR (pa_cons (pv 1) pa_nil)))
     pss_no)), ?_⟩
    try simp only [show (cxR P w K mg base N_shortest "shortest" (defScope s_shortest) f cdv A outer s H E).K = K from rfl]
    rw [show L2.start N_shortest [v, u] = [some (v), some (u), none, none, none, none, none, none, none] from rfl]
    walk_at "rd"
    rcases h with h | ⟨⟨a, ns, rfl, ha, hn⟩, h⟩
    · exact ⟨v, rfl, .inl ⟨h, k⟩⟩
    · refine ⟨_, rfl, .inr ⟨a, ns, rfl, ha, hn, fun p H1 hp s1 h1 => ?_⟩⟩
      walk_at "rd"
      exact ⟨u, rfl, .inl ⟨h.same s1, fun H2 s2 => k _ (s1.trans s2)⟩⟩
end

abbrev s_ways : Stmt := body.getD 13 (.Pass ⟨0, 0, 0, 0⟩)
abbrev N_ways : List Str := ["row", "other", "signs", "asked", "counts", "sign", "many"]
abbrev P_ways : List Str := ["row", "other"]
theorem sc_ways : FnScope N_ways P_ways (defScope s_ways) := ⟨rfl, rfl, rfl, by decide, rfl, by decide, by decide⟩
section
variable {P : Program} {w : World} {K : PySem.W.Frag} {mg : Str → Option Value} {base : Heap} {f f2 k_BadRow : Addr} {fd fd2 : FuncData}
theorem ok_ways (F : Fun K "ways" "ways" s_ways f fd) (T : Blt mg) (C_checked_row : Cal K mg "checked_row" f2 fd2 P_checked_row) (G_checked_row : FnOk P w K mg base (CXR P w) 3 f2 fd2 P_checked_row (sp_checked_row K k_BadRow)) : FnOk P w K mg base (CXR P w) 4 f fd P_ways (sp_two K k_BadRow) := by
  refine F.okR sc_ways (fun vs H Q E h => ?_) (fun cdv A outer s H vs Q E hr h => ?_)
  · obtain ⟨_, _, rfl, _⟩ := h
    rfl
  · obtain ⟨v, u, rfl, h, k⟩ := h
    have nd := sc_ways.nd
    have hu := hr.units
    refine ⟨_, (pss_cons (ps_set (i := 2) nd rfl (by first | exact Or.inl rfl | exact Or.inr rfl) (pe_call G_checked_row (hr.mono (by decide)) rfl C_checked_row.mg C_checked_row.kp C_checked_row.b .nil passR (pa_cons (pv 0) pa_nil)))
     (pss_cons (ps_set (i := 3) nd rfl (by first | exact Or.inl rfl | exact Or.inr rfl) (pe_call G_checked_row (hr.mono (by decide)) rfl C_checked_row.mg C_checked_row.kp C_checked_row.b .nil passR (pa_cons (pv 1) pa_nil)))
     pss_no)), ?_⟩
    try simp only [show (cxR P w K mg base N_ways "ways" (defScope s_ways) f cdv A outer s H E).K = K from rfl]
    rw [show L2.start N_ways [v, u] = [some (v), some (u), none, none, none, none, none] from rfl]
    walk_at "rd"
    rcases h with h | ⟨⟨a, ns, rfl, ha, hn⟩, h⟩
    · exact ⟨v, rfl, .inl ⟨h, k⟩⟩
    · refine ⟨_, rfl, .inr ⟨a, ns, rfl, ha, hn, fun p H1 hp s1 h1 => ?_⟩⟩
      walk_at "rd"
      exact ⟨u, rfl, .inl ⟨h.same s1, fun H2 s2 => k _ (s1.trans s2)⟩⟩
end

abbrev s_missing : Stmt := body.getD 39 (.Pass ⟨0, 0, 0, 0⟩)
abbrev N_missing : List Str := ["row", "kinds", "signs", "cuts", "word", "seen", "place", "sign"]
abbrev P_missing : List Str := ["row", "kinds"]
theorem sc_missing : FnScope N_missing P_missing (defScope s_missing) := ⟨rfl, rfl, rfl, by decide, rfl, by decide, by decide⟩
section
variable {P : Program} {w : World} {K : PySem.W.Frag} {mg : Str → Option Value} {base : Heap} {f f2 f3 k_BadRow k_BadKinds : Addr} {fd fd2 fd3 : FuncData}
def sp_missing (K : PySem.W.Frag) (C D : Addr) : Sp := fun vs H _ E => ∃ v u : V, vs = [v, u] ∧ ((RowB K H v false ∧ ∀ H', Same H H' → E (.ref C) none H') ∨ (Good H v 1000 ∧ Knd K H u ∧ kinB u = false ∧ ∀ H', Same H H' → E (.ref D) none H'))
theorem ok_missing (F : Fun K "missing" "missing" s_missing f fd) (T : Blt mg) (C_checked_row : Cal K mg "checked_row" f2 fd2 P_checked_row) (G_checked_row : FnOk P w K mg base (CXR P w) 3 f2 fd2 P_checked_row (sp_checked_row K k_BadRow))
    (C_is_whole : Cal K mg "is_whole" f3 fd3 P_is_whole) (G_is_whole : FnOk P w K mg base CX0 1 f3 fd3 P_is_whole (sp_is_whole K)) (x_BadKinds : excB K k_BadKinds = true) (g_BadKinds : mg "BadKinds" = some (.ref k_BadKinds)) : FnOk P w K mg base (CXR P w) 4 f fd P_missing (sp_missing K k_BadRow k_BadKinds) := by
  refine F.okR sc_missing (fun vs H Q E h => ?_) (fun cdv A outer s H vs Q E hr h => ?_)
  · obtain ⟨_, _, rfl, _⟩ := h
    rfl
  · obtain ⟨v, u, rfl, h⟩ := h
    have nd := sc_missing.nd
    have hu := hr.units
    refine ⟨_, (pss_cons (ps_set (i := 2) nd rfl (by first | exact Or.inl rfl | exact Or.inr rfl) (pe_call G_checked_row (hr.mono (by decide)) rfl C_checked_row.mg C_checked_row.kp C_checked_row.b .nil passR (pa_cons (pv 0) pa_nil)))
     (pss_cons (ps_if (PW.pt (pw_or (pt_not (pt_val (pe_call G_is_whole (hr.mono (by decide)) rfl C_is_whole.mg C_is_whole.kp C_is_whole.b .nil pass0 (pa_cons (pv 1) pa_nil)))) (pw_or1 (pt_cmpR op_lt (pv 1) pe_int (nomark _))))) (pss_one (ps_raise x_BadKinds rfl g_BadKinds (pa_cons pe_str pa_nil))) pss_nil)
     pss_no)), ?_⟩
    try simp only [show (cxR P w K mg base N_missing "missing" (defScope s_missing) f cdv A outer s H E).K = K from rfl]
    rw [show L2.start N_missing [v, u] = [some (v), some (u), none, none, none, none, none, none] from rfl]
    walk_at "rd"
    rcases h with ⟨h, k⟩ | ⟨⟨a, ns, rfl, ha, hn⟩, kd, kb, k⟩
    · exact ⟨v, rfl, .inl ⟨h, k⟩⟩
    · refine ⟨_, rfl, .inr ⟨a, ns, rfl, ha, hn, fun p H1 hp s1 h1 => ?_⟩⟩
      walk_at "rd"
      refine ⟨u, rfl, kd.same s1, ?_⟩
      by_cases hw : whole u = true
      · obtain ⟨z, rfl⟩ := whole_int hw
        have z1 : z < 1 := of_decide_eq_true (by simpa [kinB] using kb)
        rw [hw]
        walk_at "rd"
        rw [decide_eq_true z1]
        walk_at "rd"
        refine r_raise ?_
        walk_at "rd"
        exact ⟨by decide, k _ s1⟩
      · rw [Bool.eq_false_iff.mpr hw]
        walk_at "rd"
        refine r_raise ?_
        walk_at "rd"
        exact ⟨by decide, k _ s1⟩
end

abbrev s_least : Stmt := body.getD 15 (.Pass ⟨0, 0, 0, 0⟩)
abbrev N_least : List Str := ["row", "many", "signs", "spare", "told", "sign"]
abbrev P_least : List Str := ["row", "many"]
theorem sc_least : FnScope N_least P_least (defScope s_least) := ⟨rfl, rfl, rfl, by decide, rfl, by decide, by decide⟩
section
variable {P : Program} {w : World} {K : PySem.W.Frag} {mg : Str → Option Value} {base : Heap} {f f2 f3 k_BadRow k_BadMany : Addr} {fd fd2 fd3 : FuncData}
def sp_least (K : PySem.W.Frag) (C D : Addr) : Sp := fun vs H _ E => ∃ v u : V, vs = [v, u] ∧ ((RowB K H v false ∧ ∀ H', Same H H' → E (.ref C) none H') ∨ (∃ (a : Addr) (ns : List Int), v = .ref a ∧ H a = some (.lst (ns.map V.int)) ∧ ns.length ≤ 1000 ∧ Knd K H u ∧ cnt u ns.length = false ∧ ∀ H', Same H H' → E (.ref D) none H'))
theorem ok_least (F : Fun K "least" "least" s_least f fd) (T : Blt mg) (C_checked_row : Cal K mg "checked_row" f2 fd2 P_checked_row) (G_checked_row : FnOk P w K mg base (CXR P w) 3 f2 fd2 P_checked_row (sp_checked_row K k_BadRow))
    (C_is_count : Cal K mg "is_count" f3 fd3 P_is_count) (G_is_count : FnOk P w K mg base CX0 2 f3 fd3 P_is_count (sp_is_count K)) (x_BadMany : excB K k_BadMany = true) (g_BadMany : mg "BadMany" = some (.ref k_BadMany)) : FnOk P w K mg base (CXR P w) 4 f fd P_least (sp_least K k_BadRow k_BadMany) := by
  refine F.okR sc_least (fun vs H Q E h => ?_) (fun cdv A outer s H vs Q E hr h => ?_)
  · obtain ⟨_, _, rfl, _⟩ := h
    rfl
  · obtain ⟨v, u, rfl, h⟩ := h
    have nd := sc_least.nd
    have hu := hr.units
    refine ⟨_, (pss_cons (ps_set (i := 2) nd rfl (by first | exact Or.inl rfl | exact Or.inr rfl) (pe_call G_checked_row (hr.mono (by decide)) rfl C_checked_row.mg C_checked_row.kp C_checked_row.b .nil passR (pa_cons (pv 0) pa_nil)))
     (pss_cons (ps_if (pt_not (pt_val (pe_call G_is_count (hr.mono (by decide)) rfl C_is_count.mg C_is_count.kp C_is_count.b .nil pass0 (pa_cons (pv 1) (pa_cons (pe_callB len_G rfl T.no_len boot_len (pa_cons (pv 2) pa_nil)) pa_nil))))) (pss_one (ps_raise x_BadMany rfl g_BadMany (pa_cons pe_str pa_nil))) pss_nil)
     pss_no)), ?_⟩
    try simp only [show (cxR P w K mg base N_least "least" (defScope s_least) f cdv A outer s H E).K = K from rfl]
    rw [show L2.start N_least [v, u] = [some (v), some (u), none, none, none, none] from rfl]
    walk_at "rd"
    rcases h with ⟨h, k⟩ | ⟨a, ns, rfl, ha, hn, kd, kb, k⟩
    · exact ⟨v, rfl, .inl ⟨h, k⟩⟩
    · refine ⟨_, rfl, .inr ⟨a, ns, rfl, ha, hn, fun p H1 hp s1 h1 => ?_⟩⟩
      walk_at "rd"
      refine ⟨u, _, rfl, kd.same s1, ?_⟩
      rw [kb]
      walk_at "rd"
      refine r_raise ?_
      walk_at "rd"
      exact ⟨by decide, k _ s1⟩
end

abbrev s_mixed : Stmt := body.getD 40 (.Pass ⟨0, 0, 0, 0⟩)
abbrev N_mixed : List Str := ["row", "one", "other", "signs", "first", "second", "ahead", "pair"]
abbrev P_mixed : List Str := ["row", "one", "other"]
theorem sc_mixed : FnScope N_mixed P_mixed (defScope s_mixed) := ⟨rfl, rfl, rfl, by decide, rfl, by decide, by decide⟩
section
variable {P : Program} {w : World} {K : PySem.W.Frag} {mg : Str → Option Value} {base : Heap} {f f2 k_BadRow k_BadMany : Addr} {fd fd2 : FuncData}
def sp_mixed (K : PySem.W.Frag) (C D : Addr) : Sp := fun vs H _ E => ∃ v u z : V, vs = [v, u, z] ∧ (((RowB K H v false ∨ (Good H v 1000 ∧ RowB K H u false) ∨ (Good H v 1000 ∧ Good H u 1000 ∧ RowB K H z false)) ∧ ∀ H', Same H H' → E (.ref C) none H') ∨
  (∃ (a b c : Addr) (row one other : List Int), v = .ref a ∧ u = .ref b ∧ z = .ref c ∧ H a = some (.lst (row.map V.int)) ∧ H b = some (.lst (one.map V.int)) ∧ H c = some (.lst (other.map V.int)) ∧ row.length ≤ 1000 ∧ one.length ≤ 1000 ∧ other.length ≤ 1000 ∧ row.length ≠ one.length + other.length ∧ ∀ H', Same H H' → E (.ref D) none H'))
theorem ok_mixed (F : Fun K "mixed" "mixed" s_mixed f fd) (T : Blt mg) (C_checked_row : Cal K mg "checked_row" f2 fd2 P_checked_row) (G_checked_row : FnOk P w K mg base (CXR P w) 3 f2 fd2 P_checked_row (sp_checked_row K k_BadRow))
    (x_BadMany : excB K k_BadMany = true) (g_BadMany : mg "BadMany" = some (.ref k_BadMany)) : FnOk P w K mg base (CXR P w) 4 f fd P_mixed (sp_mixed K k_BadRow k_BadMany) := by
  refine F.okR sc_mixed (fun vs H Q E h => ?_) (fun cdv A outer s H vs Q E hr h => ?_)
  · obtain ⟨_, _, _, rfl, _⟩ := h
    rfl
  · obtain ⟨v, u, z, rfl, h⟩ := h
    have nd := sc_mixed.nd
    have hu := hr.units
    refine ⟨_, (pss_cons (ps_set (i := 3) nd rfl (by first | exact Or.inl rfl | exact Or.inr rfl) (pe_call G_checked_row (hr.mono (by decide)) rfl C_checked_row.mg C_checked_row.kp C_checked_row.b .nil passR (pa_cons (pv 0) pa_nil)))
     (pss_cons (ps_set (i := 4) nd rfl (by first | exact Or.inl rfl | exact Or.inr rfl) (pe_call G_checked_row (hr.mono (by decide)) rfl C_checked_row.mg C_checked_row.kp C_checked_row.b .nil passR (pa_cons (pv 1) pa_nil)))
     (pss_cons (ps_set (i := 5) nd rfl (by first | exact Or.inl rfl | exact Or.inr rfl) (pe_call G_checked_row (hr.mono (by decide)) rfl C_checked_row.mg C_checked_row.kp C_checked_row.b .nil passR (pa_cons (pv 2) pa_nil)))
     (pss_cons (ps_if (pt_cmpR (op_neG hu) (pe_callB len_G rfl T.no_len boot_len (pa_cons (pv 3) pa_nil)) (pe_op op_addG (pe_callB len_G rfl T.no_len boot_len (pa_cons (pv 4) pa_nil)) (pe_callB len_G rfl T.no_len boot_len (pa_cons (pv 5) pa_nil))) (nomark _)) (pss_one (ps_raise x_BadMany rfl g_BadMany (pa_cons pe_str pa_nil))) pss_nil)
     pss_no)))), ?_⟩
    try simp only [show (cxR P w K mg base N_mixed "mixed" (defScope s_mixed) f cdv A outer s H E).K = K from rfl]
    rw [show L2.start N_mixed [v, u, z] = [some (v), some (u), some (z), none, none, none, none, none] from rfl]
    walk_at "rd"
    rcases h with ⟨h | ⟨⟨a, ns, rfl, ha, hn⟩, h⟩ | ⟨⟨a, ns, rfl, ha, hn⟩, ⟨b, ms, rfl, hb, hm⟩, h⟩, k⟩ | ⟨a, b, c, row, one, other, rfl, rfl, rfl, ha, hb, hc, l1, l2, l3, ne, k⟩
    · exact ⟨v, rfl, .inl ⟨h, k⟩⟩
    · refine ⟨_, rfl, .inr ⟨a, ns, rfl, ha, hn, fun p H1 hp s1 h1 => ?_⟩⟩
      walk_at "rd"
      exact ⟨u, rfl, .inl ⟨h.same s1, fun H2 s2 => k _ (s1.trans s2)⟩⟩
    · refine ⟨_, rfl, .inr ⟨a, ns, rfl, ha, hn, fun p H1 hp s1 h1 => ?_⟩⟩
      walk_at "rd"
      refine ⟨_, rfl, .inr ⟨b, ms, rfl, s1.at hb, hm, fun p2 H2 hp2 s2 h2 => ?_⟩⟩
      walk_at "rd"
      exact ⟨z, rfl, .inl ⟨(h.same s1).same s2, fun H3 s3 => k _ (s1.trans (s2.trans s3))⟩⟩
    · refine ⟨_, rfl, .inr ⟨a, row, rfl, ha, l1, fun p H1 hp s1 h1 => ?_⟩⟩
      walk_at "rd"
      refine ⟨_, rfl, .inr ⟨b, one, rfl, s1.at hb, l2, fun p2 H2 hp2 s2 h2 => ?_⟩⟩
      have h12 := s2.at h1
      have s12 := s1.trans s2
      walk_at "rd"
      refine ⟨_, rfl, .inr ⟨c, other, rfl, s12.at hc, l3, fun p3 H3 hp3 s3 h3 => ?_⟩⟩
      have h13 := s3.at h12
      have h23 := s3.at h2
      have s13 := s12.trans s3
      clear s1 s2 s3 s12 h1 h2 h12
      walk_at "rd"
      rw [decide_eq_false (by omega)]
      walk_at "rd"
      refine r_raise ?_
      walk_at "rd"
      exact ⟨by decide, k _ s13⟩
end

abbrev s__law_mix : Stmt := body.getD 43 (.Pass ⟨0, 0, 0, 0⟩)
abbrev N__law_mix : List Str := ["_law_door", "_law_thing"]
abbrev P__law_mix : List Str := ["_law_door", "_law_thing"]
theorem sc__law_mix : FnScope N__law_mix P__law_mix (defScope s__law_mix) := ⟨rfl, rfl, rfl, by decide, rfl, by decide, by decide⟩
section
variable {P : Program} {w : World} {K : PySem.W.Frag} {mg : Str → Option Value} {base : Heap} {f f2 k_BadRow k_BadMany : Addr} {fd fd2 : FuncData}
def sp__law_mix (K : PySem.W.Frag) (C D : Addr) : Sp := fun vs H _ E => ∃ (d : Int) (v : V), vs = [.int d, v] ∧ (d = 12 ∨ d = 13) ∧ ((RowB K H v false ∧ ∀ H', Same H H' → E (.ref C) none H') ∨ (Good H v 100 ∧ ∀ H', Same H H' → E (.ref D) none H'))
theorem ok__law_mix (F : Fun K "_law_mix" "_law_mix" s__law_mix f fd) (T : Blt mg) (C_mixed : Cal K mg "mixed" f2 fd2 P_mixed) (G_mixed : FnOk P w K mg base (CXR P w) 4 f2 fd2 P_mixed (sp_mixed K k_BadRow k_BadMany)) : FnOk P w K mg base (CXR P w) 5 f fd P__law_mix (sp__law_mix K k_BadRow k_BadMany) := by
  refine F.okR sc__law_mix (fun vs H Q E h => ?_) (fun cdv A outer s H vs Q E hr h => ?_)
  · obtain ⟨_, _, rfl, _⟩ := h
    rfl
  · obtain ⟨d, v, rfl, hd, h⟩ := h
    have nd := sc__law_mix.nd
    have hu := hr.units
    refine ⟨_, (pss_one (ps_ret (pe_ifExp (pt_cmpR (op_eqG hu) (pv 0) pe_int (nomark _)) (pe_call G_mixed (hr.mono (by decide)) rfl C_mixed.mg C_mixed.kp C_mixed.b .nil passR (pa_cons (pe_lst (pa_cons pe_int pa_nil)) (pa_cons (pv 1) (pa_cons (pe_lst (pa_cons pe_int (pa_cons pe_int pa_nil))) pa_nil)))) (pe_call G_mixed (hr.mono (by decide)) rfl C_mixed.mg C_mixed.kp C_mixed.b .nil passR (pa_cons (pe_lst (pa_cons pe_int pa_nil)) (pa_cons (pe_lst (pa_cons pe_int (pa_cons pe_int pa_nil))) (pa_cons (pv 1) pa_nil))))))), ?_⟩
    try simp only [show (cxR P w K mg base N__law_mix "_law_mix" (defScope s__law_mix) f cdv A outer s H E).K = K from rfl]
    rw [show L2.start N__law_mix [V.int d, v] = [some (V.int d), some (v)] from rfl]
    walk_at "rd"
    refine r_ifE ?_
    walk_at "rd"
    rcases hd with rfl | rfl
    · rw [decide_eq_true rfl]
      walk_at "rd"
      intro p1 hp1
      walk_at "rd"
      intro p2 hp2
      walk_at "rd"
      have s2 : Same H (upd (upd H p1 (.lst ([1].map V.int))) p2 (.lst ([1, 2].map V.int))) := (Same.upd_new hp1).trans (Same.upd_new hp2)
      have h1 : (upd (upd H p1 (.lst ([1].map V.int))) p2 (.lst ([1, 2].map V.int))) p1 = some (.lst (([1] : List Int).map V.int)) := upd_keep upd_same hp2
      have h2 : (upd (upd H p1 (.lst ([1].map V.int))) p2 (.lst ([1, 2].map V.int))) p2 = some (.lst (([1, 2] : List Int).map V.int)) := upd_same
      rcases h with ⟨h, k⟩ | ⟨⟨a, ns, rfl, ha, hn⟩, k⟩
      · exact ⟨_, v, _, rfl, .inl ⟨.inr (.inl ⟨⟨p1, [1], rfl, h1, by decide⟩, h.same s2⟩), fun H' s' => k _ (s2.trans s')⟩⟩
      · exact ⟨_, _, _, rfl, .inr ⟨p1, a, p2, [1], ns, [1, 2], rfl, rfl, rfl, h1, s2.at ha, h2, by decide, by omega, by decide, by simp, fun H' s' => k _ (s2.trans s')⟩⟩
    · rw [decide_eq_false (by decide)]
      walk_at "rd"
      intro p1 hp1
      walk_at "rd"
      intro p2 hp2
      walk_at "rd"
      have s2 : Same H (upd (upd H p1 (.lst ([1].map V.int))) p2 (.lst ([1, 2].map V.int))) := (Same.upd_new hp1).trans (Same.upd_new hp2)
      have h1 : (upd (upd H p1 (.lst ([1].map V.int))) p2 (.lst ([1, 2].map V.int))) p1 = some (.lst (([1] : List Int).map V.int)) := upd_keep upd_same hp2
      have h2 : (upd (upd H p1 (.lst ([1].map V.int))) p2 (.lst ([1, 2].map V.int))) p2 = some (.lst (([1, 2] : List Int).map V.int)) := upd_same
      rcases h with ⟨h, k⟩ | ⟨⟨a, ns, rfl, ha, hn⟩, k⟩
      · exact ⟨_, _, v, rfl, .inl ⟨.inr (.inr ⟨⟨p1, [1], rfl, h1, by decide⟩, ⟨p2, [1, 2], rfl, h2, by decide⟩, h.same s2⟩), fun H' s' => k _ (s2.trans s')⟩⟩
      · exact ⟨_, _, _, rfl, .inr ⟨p1, p2, a, [1], [1, 2], ns, rfl, rfl, rfl, h1, h2, s2.at ha, by decide, by decide, by omega, by simp; omega, fun H' s' => k _ (s2.trans s')⟩⟩
end

abbrev s__law_ask : Stmt := body.getD 42 (.Pass ⟨0, 0, 0, 0⟩)
abbrev N__law_ask : List Str := ["_law_door", "_law_thing", "_law_good", "_law_pair"]
abbrev P__law_ask : List Str := ["_law_door", "_law_thing"]
theorem sc__law_ask : FnScope N__law_ask P__law_ask (defScope s__law_ask) := ⟨rfl, rfl, rfl, by decide, rfl, by decide, by decide⟩
section
variable {P : Program} {w : World} {K : PySem.W.Frag} {mg : Str → Option Value} {base : Heap} {f f1 f2 f3 f4 f5 f6 f7 f8 f9 k_BadRow k_BadKinds k_BadMany : Addr} {fd fd1 fd2 fd3 fd4 fd5 fd6 fd7 fd8 fd9 : FuncData}
def clsK (a b c : Addr) (k : Nat) : Addr := if k = 0 then a else if k = 1 then b else c
def Ask (K : PySem.W.Frag) (H : Hp) (d : Int) (v : V) (k : Nat) : Prop := (k = 0 ∧ 0 ≤ d ∧ d ≤ 13 ∧ RowB K H v false) ∨ (k = 1 ∧ d = 14 ∧ Knd K H v ∧ kinB v = false) ∨ (k = 2 ∧ d = 15 ∧ Knd K H v ∧ cnt v 2 = false) ∨
  (k = 2 ∧ 11 ≤ d ∧ d ≤ 13 ∧ ∃ (a : Addr) (ns : List Int), v = .ref a ∧ H a = some (.lst (ns.map V.int)) ∧ ns.length ≤ 100 ∧ (d = 11 → ns.length ≠ 4))
theorem Ask.same {K : PySem.W.Frag} {H H' : Hp} {d : Int} {v : V} {k : Nat} (h : Ask K H d v k) (s : Same H H') : Ask K H' d v k := by
  rcases h with ⟨h1, h2, h3, h⟩ | ⟨h1, h2, h, h3⟩ | ⟨h1, h2, h, h3⟩ | ⟨h1, h2, h3, a, ns, e, ha, h⟩
  · exact .inl ⟨h1, h2, h3, h.same s⟩
  · exact .inr (.inl ⟨h1, h2, h.same s, h3⟩)
  · exact .inr (.inr (.inl ⟨h1, h2, h.same s, h3⟩))
  · exact .inr (.inr (.inr ⟨h1, h2, h3, a, ns, e, s.at ha, h⟩))
def sp__law_ask (K : PySem.W.Frag) (a b c : Addr) : Sp := fun vs H _ E => ∃ (d : Int) (v : V) (k : Nat), vs = [.int d, v] ∧ Ask K H d v k ∧ ∀ H', Same H H' → E (.ref (clsK a b c k)) none H'
theorem ok__law_ask (F : Fun K "_law_ask" "_law_ask" s__law_ask f fd) (T : Blt mg)
    (C_left : Cal K mg "left" f1 fd1 P_left) (G_left : FnOk P w K mg base (CXR P w) 4 f1 fd1 P_left (sp_two K k_BadRow))
    (C_longest : Cal K mg "longest" f2 fd2 P_longest) (G_longest : FnOk P w K mg base (CXR P w) 4 f2 fd2 P_longest (sp_two K k_BadRow))
    (C_shortest : Cal K mg "shortest" f3 fd3 P_shortest) (G_shortest : FnOk P w K mg base (CXR P w) 4 f3 fd3 P_shortest (sp_two K k_BadRow))
    (C_ways : Cal K mg "ways" f4 fd4 P_ways) (G_ways : FnOk P w K mg base (CXR P w) 4 f4 fd4 P_ways (sp_two K k_BadRow))
    (C_kin : Cal K mg "kin" f5 fd5 P_kin) (G_kin : FnOk P w K mg base (CXR P w) 4 f5 fd5 P_kin (sp_one K k_BadRow))
    (C_missing : Cal K mg "missing" f6 fd6 P_missing) (G_missing : FnOk P w K mg base (CXR P w) 4 f6 fd6 P_missing (sp_missing K k_BadRow k_BadKinds))
    (C_least : Cal K mg "least" f7 fd7 P_least) (G_least : FnOk P w K mg base (CXR P w) 4 f7 fd7 P_least (sp_least K k_BadRow k_BadMany))
    (C_mixed : Cal K mg "mixed" f8 fd8 P_mixed) (G_mixed : FnOk P w K mg base (CXR P w) 4 f8 fd8 P_mixed (sp_mixed K k_BadRow k_BadMany))
    (C__law_mix : Cal K mg "_law_mix" f9 fd9 P__law_mix) (G__law_mix : FnOk P w K mg base (CXR P w) 5 f9 fd9 P__law_mix (sp__law_mix K k_BadRow k_BadMany))
    : FnOk P w K mg base (CXR P w) 6 f fd P__law_ask (sp__law_ask K k_BadRow k_BadKinds k_BadMany) := by
  refine F.okR sc__law_ask (fun vs H Q E h => ?_) (fun cdv A outer s H vs Q E hr h => ?_)
  · obtain ⟨_, _, _, rfl, _⟩ := h
    rfl
  · obtain ⟨d, v, k, rfl, h, fin⟩ := h
    have nd := sc__law_ask.nd
    have hu := hr.units
    refine ⟨_, (pss_cons (ps_set (i := 2) nd rfl (by first | exact Or.inl rfl | exact Or.inr rfl) (pe_lst (pa_cons pe_int (pa_cons pe_int pa_nil))))
     (pss_cons (ps_if (pt_cmpR op_lt (pv 0) pe_int (nomark _)) (pss_cons (ps_set (i := 3) nd rfl (by first | exact Or.inl rfl | exact Or.inr rfl) (pe_ix ix_G (pe_lst (pa_cons (pe_tup (pa_cons (pv 1) (pa_cons (pv 2) pa_nil))) (pa_cons (pe_tup (pa_cons (pv 2) (pa_cons (pv 1) pa_nil))) pa_nil))) (pe_op op_mod (pv 0) pe_int) (fun _ _ => rfl)))
     (pss_one (ps_ret (pe_callV (k := 4) (pe_ix ix_G (pe_lst (pa_cons (pe_gref rfl C_left.mg) (pa_cons (pe_gref rfl C_longest.mg) (pa_cons (pe_gref rfl C_shortest.mg) pa_nil)))) (pe_op op_fdiv (pv 0) pe_int) (fun _ _ => rfl)) (hr.mono (by decide)) passR (pa_cons (pe_ix ix_G (pv 3) pe_int (fun _ _ => rfl)) (pa_cons (pe_ix ix_G (pv 3) pe_int (fun _ _ => rfl)) pa_nil)))))) pss_nil)
     (pss_cons (ps_if (pt_cmpR op_lt (pv 0) pe_int (nomark _)) (pss_one (ps_ret (pe_ifExp (pt_cmpR (op_eqG hu) (pv 0) pe_int (nomark _)) (pe_call G_ways (hr.mono (by decide)) rfl C_ways.mg C_ways.kp C_ways.b .nil passR (pa_cons (pv 1) (pa_cons (pv 2) pa_nil))) (pe_ifExp (pt_cmpR (op_eqG hu) (pv 0) pe_int (nomark _)) (pe_call G_ways (hr.mono (by decide)) rfl C_ways.mg C_ways.kp C_ways.b .nil passR (pa_cons (pv 2) (pa_cons (pv 1) pa_nil))) (pe_call G_kin (hr.mono (by decide)) rfl C_kin.mg C_kin.kp C_kin.b .nil passR (pa_cons (pv 1) pa_nil)))))) pss_nil)
     (pss_cons (ps_if (pt_cmpR op_lt (pv 0) pe_int (nomark _)) (pss_one (ps_ret (pe_ifExp (pt_cmpR (op_eqG hu) (pv 0) pe_int (nomark _)) (pe_call G_missing (hr.mono (by decide)) rfl C_missing.mg C_missing.kp C_missing.b .nil passR (pa_cons (pv 1) (pa_cons pe_non pa_nil))) (pe_call G_least (hr.mono (by decide)) rfl C_least.mg C_least.kp C_least.b .nil passR (pa_cons (pv 1) (pa_cons pe_non pa_nil)))))) pss_nil)
     (pss_cons (ps_if (pt_cmpR op_lt (pv 0) pe_int (nomark _)) (pss_one (ps_ret (pe_ifExp (pt_cmpR (op_eqG hu) (pv 0) pe_int (nomark _)) (pe_lst (pa_cons (pe_call G_mixed (hr.mono (by decide)) rfl C_mixed.mg C_mixed.kp C_mixed.b .nil passR (pa_cons (pv 1) (pa_cons (pv 2) (pa_cons (pv 2) pa_nil)))) pa_nil)) (pe_call G__law_mix (hr.mono (by decide)) rfl C__law_mix.mg C__law_mix.kp C__law_mix.b .nil passR (pa_cons (pv 0) (pa_cons (pv 1) pa_nil)))))) pss_nil)
     (pss_one (ps_ret (pe_ifExp (pt_cmpR (op_eqG hu) (pv 0) pe_int (nomark _)) (pe_call G_missing (hr.mono (by decide)) rfl C_missing.mg C_missing.kp C_missing.b .nil passR (pa_cons (pv 2) (pa_cons (pv 1) pa_nil))) (pe_call G_least (hr.mono (by decide)) rfl C_least.mg C_least.kp C_least.b .nil passR (pa_cons (pv 2) (pa_cons (pv 1) pa_nil))))))))))), ?_⟩
    try simp only [show (cxR P w K mg base N__law_ask "_law_ask" (defScope s__law_ask) f cdv A outer s H E).K = K from rfl]
    rw [show L2.start N__law_ask [V.int d, v] = [some (V.int d), some (v), none, none] from rfl]
    walk_at "rd"
    intro g hg
    have hg1 : (upd H g (.lst (([1, 2] : List Int).map V.int))) g = some (.lst (([1, 2] : List Int).map V.int)) := upd_same
    have s1 : Same H (upd H g (.lst (([1, 2] : List Int).map V.int))) := Same.upd_new hg
    have h' := h.same s1
    have fin' : ∀ H', Same (upd H g (.lst (([1, 2] : List Int).map V.int))) H' → E (.ref (clsK k_BadRow k_BadKinds k_BadMany k)) none H' := fun H' s' => fin _ (s1.trans s')
    generalize upd H g (.lst (([1, 2] : List Int).map V.int)) = H1 at hg1 h' fin' ⊢
    clear h s1 fin hg
    have gd : ∀ H', Same H1 H' → Good H' (.ref g) 1000 := fun H' s' => ⟨g, [1, 2], rfl, s'.at hg1, by decide⟩
    walk_at "rd"
    rcases h' with ⟨rfl, d0, d1, h⟩ | ⟨rfl, rfl, kd, kb⟩ | ⟨rfl, rfl, kd, kb⟩ | ⟨rfl, d0, d1, a, ns, rfl, ha, hn, h4⟩
    · have cs : d = 0 ∨ d = 1 ∨ d = 2 ∨ d = 3 ∨ d = 4 ∨ d = 5 ∨ d = 6 ∨ d = 7 ∨ d = 8 ∨ d = 9 ∨ d = 10 ∨ d = 11 ∨ d = 12 ∨ d = 13 := by omega
      rcases cs with rfl | rfl | rfl | rfl | rfl | rfl | rfl | rfl | rfl | rfl | rfl | rfl | rfl | rfl
      · rw [decide_eq_true (by decide)]
        walk_at "rd"
        intro t1 ht1
        walk_at "rd"
        intro t2 ht2
        walk_at "rd"
        intro l1 hl1
        walk_at "rd"
        refine r_callV ?_
        walk_at "rd"
        intro l2 hl2
        walk_at "rd"
        refine ⟨_, _, rfl, ⟨_, _, G_left, C_left.kp, C_left.b⟩, ?_⟩
        walk_at "rd"
        refine r_ixT (by walk_at "ft") rfl ?_
        walk_at "rd"
        refine r_ixT (by walk_at "ft") rfl ?_
        walk_at "rd"
        generalize hH4 : upd _ l2 _ = H4
        have s4 : Same H1 H4 := by rw [← hH4]; walk_at "sm"
        exact ⟨v, .ref g, rfl, .inl (h.same s4), fun H5 s5 => fin' _ (s4.trans s5)⟩
      · rw [decide_eq_true (by decide)]
        walk_at "rd"
        intro t1 ht1
        walk_at "rd"
        intro t2 ht2
        walk_at "rd"
        intro l1 hl1
        walk_at "rd"
        refine r_callV ?_
        walk_at "rd"
        intro l2 hl2
        walk_at "rd"
        refine ⟨_, _, rfl, ⟨_, _, G_left, C_left.kp, C_left.b⟩, ?_⟩
        walk_at "rd"
        refine r_ixT (by walk_at "ft") rfl ?_
        walk_at "rd"
        refine r_ixT (by walk_at "ft") rfl ?_
        walk_at "rd"
        generalize hH4 : upd _ l2 _ = H4
        have s4 : Same H1 H4 := by rw [← hH4]; walk_at "sm"
        exact ⟨.ref g, v, rfl, .inr ⟨gd _ s4, h.same s4⟩, fun H5 s5 => fin' _ (s4.trans s5)⟩
      · rw [decide_eq_true (by decide)]
        walk_at "rd"
        intro t1 ht1
        walk_at "rd"
        intro t2 ht2
        walk_at "rd"
        intro l1 hl1
        walk_at "rd"
        refine r_callV ?_
        walk_at "rd"
        intro l2 hl2
        walk_at "rd"
        refine ⟨_, _, rfl, ⟨_, _, G_longest, C_longest.kp, C_longest.b⟩, ?_⟩
        walk_at "rd"
        refine r_ixT (by walk_at "ft") rfl ?_
        walk_at "rd"
        refine r_ixT (by walk_at "ft") rfl ?_
        walk_at "rd"
        generalize hH4 : upd _ l2 _ = H4
        have s4 : Same H1 H4 := by rw [← hH4]; walk_at "sm"
        exact ⟨v, .ref g, rfl, .inl (h.same s4), fun H5 s5 => fin' _ (s4.trans s5)⟩
      · rw [decide_eq_true (by decide)]
        walk_at "rd"
        intro t1 ht1
        walk_at "rd"
        intro t2 ht2
        walk_at "rd"
        intro l1 hl1
        walk_at "rd"
        refine r_callV ?_
        walk_at "rd"
        intro l2 hl2
        walk_at "rd"
        refine ⟨_, _, rfl, ⟨_, _, G_longest, C_longest.kp, C_longest.b⟩, ?_⟩
        walk_at "rd"
        refine r_ixT (by walk_at "ft") rfl ?_
        walk_at "rd"
        refine r_ixT (by walk_at "ft") rfl ?_
        walk_at "rd"
        generalize hH4 : upd _ l2 _ = H4
        have s4 : Same H1 H4 := by rw [← hH4]; walk_at "sm"
        exact ⟨.ref g, v, rfl, .inr ⟨gd _ s4, h.same s4⟩, fun H5 s5 => fin' _ (s4.trans s5)⟩
      · rw [decide_eq_true (by decide)]
        walk_at "rd"
        intro t1 ht1
        walk_at "rd"
        intro t2 ht2
        walk_at "rd"
        intro l1 hl1
        walk_at "rd"
        refine r_callV ?_
        walk_at "rd"
        intro l2 hl2
        walk_at "rd"
        refine ⟨_, _, rfl, ⟨_, _, G_shortest, C_shortest.kp, C_shortest.b⟩, ?_⟩
        walk_at "rd"
        refine r_ixT (by walk_at "ft") rfl ?_
        walk_at "rd"
        refine r_ixT (by walk_at "ft") rfl ?_
        walk_at "rd"
        generalize hH4 : upd _ l2 _ = H4
        have s4 : Same H1 H4 := by rw [← hH4]; walk_at "sm"
        exact ⟨v, .ref g, rfl, .inl (h.same s4), fun H5 s5 => fin' _ (s4.trans s5)⟩
      · rw [decide_eq_true (by decide)]
        walk_at "rd"
        intro t1 ht1
        walk_at "rd"
        intro t2 ht2
        walk_at "rd"
        intro l1 hl1
        walk_at "rd"
        refine r_callV ?_
        walk_at "rd"
        intro l2 hl2
        walk_at "rd"
        refine ⟨_, _, rfl, ⟨_, _, G_shortest, C_shortest.kp, C_shortest.b⟩, ?_⟩
        walk_at "rd"
        refine r_ixT (by walk_at "ft") rfl ?_
        walk_at "rd"
        refine r_ixT (by walk_at "ft") rfl ?_
        walk_at "rd"
        generalize hH4 : upd _ l2 _ = H4
        have s4 : Same H1 H4 := by rw [← hH4]; walk_at "sm"
        exact ⟨.ref g, v, rfl, .inr ⟨gd _ s4, h.same s4⟩, fun H5 s5 => fin' _ (s4.trans s5)⟩
      · rw [decide_eq_false (by decide)]
        walk_at "rd"
        rw [decide_eq_true (by decide)]
        walk_at "rd"
        refine r_ifE ?_
        walk_at "rd"
        exact ⟨v, .ref g, rfl, .inl h, fin'⟩
      · rw [decide_eq_false (by decide)]
        walk_at "rd"
        rw [decide_eq_true (by decide)]
        walk_at "rd"
        refine r_ifE ?_
        walk_at "rd"
        rw [decide_eq_false (by decide)]
        walk_at "rd"
        refine r_ifE ?_
        walk_at "rd"
        exact ⟨.ref g, v, rfl, .inr ⟨gd _ (Same.refl _), h⟩, fin'⟩
      · rw [decide_eq_false (by decide)]
        walk_at "rd"
        rw [decide_eq_true (by decide)]
        walk_at "rd"
        refine r_ifE ?_
        walk_at "rd"
        rw [decide_eq_false (by decide)]
        walk_at "rd"
        refine r_ifE ?_
        walk_at "rd"
        rw [decide_eq_false (by decide)]
        walk_at "rd"
        exact ⟨v, rfl, h, fin'⟩
      · rw [decide_eq_false (by decide)]
        walk_at "rd"
        rw [decide_eq_false (by decide)]
        walk_at "rd"
        rw [decide_eq_true (by decide)]
        walk_at "rd"
        refine r_ifE ?_
        walk_at "rd"
        exact ⟨v, .non, rfl, .inl ⟨h, fin'⟩⟩
      · rw [decide_eq_false (by decide)]
        walk_at "rd"
        rw [decide_eq_false (by decide)]
        walk_at "rd"
        rw [decide_eq_true (by decide)]
        walk_at "rd"
        refine r_ifE ?_
        walk_at "rd"
        rw [decide_eq_false (by decide)]
        walk_at "rd"
        exact ⟨v, .non, rfl, .inl ⟨h, fin'⟩⟩
      · rw [decide_eq_false (by decide)]
        walk_at "rd"
        rw [decide_eq_false (by decide)]
        walk_at "rd"
        rw [decide_eq_false (by decide)]
        walk_at "rd"
        rw [decide_eq_true (by decide)]
        walk_at "rd"
        refine r_ifE ?_
        walk_at "rd"
        exact ⟨v, .ref g, .ref g, rfl, .inl ⟨.inl h, fin'⟩⟩
      · rw [decide_eq_false (by decide)]
        walk_at "rd"
        rw [decide_eq_false (by decide)]
        walk_at "rd"
        rw [decide_eq_false (by decide)]
        walk_at "rd"
        rw [decide_eq_true (by decide)]
        walk_at "rd"
        refine r_ifE ?_
        walk_at "rd"
        rw [decide_eq_false (by decide)]
        walk_at "rd"
        exact ⟨12, v, rfl, by decide, .inl ⟨h, fin'⟩⟩
      · rw [decide_eq_false (by decide)]
        walk_at "rd"
        rw [decide_eq_false (by decide)]
        walk_at "rd"
        rw [decide_eq_false (by decide)]
        walk_at "rd"
        rw [decide_eq_true (by decide)]
        walk_at "rd"
        refine r_ifE ?_
        walk_at "rd"
        rw [decide_eq_false (by decide)]
        walk_at "rd"
        exact ⟨13, v, rfl, by decide, .inl ⟨h, fin'⟩⟩
    · rw [decide_eq_false (by decide)]
      walk_at "rd"
      rw [decide_eq_false (by decide)]
      walk_at "rd"
      rw [decide_eq_false (by decide)]
      walk_at "rd"
      rw [decide_eq_false (by decide)]
      walk_at "rd"
      refine r_ifE ?_
      walk_at "rd"
      exact ⟨.ref g, v, rfl, .inr ⟨gd _ (Same.refl _), kd, kb, fin'⟩⟩
    · rw [decide_eq_false (by decide)]
      walk_at "rd"
      rw [decide_eq_false (by decide)]
      walk_at "rd"
      rw [decide_eq_false (by decide)]
      walk_at "rd"
      rw [decide_eq_false (by decide)]
      walk_at "rd"
      refine r_ifE ?_
      walk_at "rd"
      rw [decide_eq_false (by decide)]
      walk_at "rd"
      exact ⟨.ref g, v, rfl, .inr ⟨g, [1, 2], rfl, hg1, by decide, kd, kb, fin'⟩⟩
    · have cs : d = 11 ∨ d = 12 ∨ d = 13 := by omega
      rcases cs with rfl | rfl | rfl
      · rw [decide_eq_false (by decide)]
        walk_at "rd"
        rw [decide_eq_false (by decide)]
        walk_at "rd"
        rw [decide_eq_false (by decide)]
        walk_at "rd"
        rw [decide_eq_true (by decide)]
        walk_at "rd"
        refine r_ifE ?_
        walk_at "rd"
        exact ⟨.ref a, .ref g, .ref g, rfl, .inr ⟨a, g, g, ns, [1, 2], [1, 2], rfl, rfl, rfl, ha, hg1, hg1, by omega, by decide, by decide, by have := h4 rfl; simp; omega, fin'⟩⟩
      · rw [decide_eq_false (by decide)]
        walk_at "rd"
        rw [decide_eq_false (by decide)]
        walk_at "rd"
        rw [decide_eq_false (by decide)]
        walk_at "rd"
        rw [decide_eq_true (by decide)]
        walk_at "rd"
        refine r_ifE ?_
        walk_at "rd"
        rw [decide_eq_false (by decide)]
        walk_at "rd"
        exact ⟨12, _, rfl, by decide, .inr ⟨⟨a, ns, rfl, ha, hn⟩, fin'⟩⟩
      · rw [decide_eq_false (by decide)]
        walk_at "rd"
        rw [decide_eq_false (by decide)]
        walk_at "rd"
        rw [decide_eq_false (by decide)]
        walk_at "rd"
        rw [decide_eq_true (by decide)]
        walk_at "rd"
        refine r_ifE ?_
        walk_at "rd"
        rw [decide_eq_false (by decide)]
        walk_at "rd"
        exact ⟨13, _, rfl, by decide, .inr ⟨⟨a, ns, rfl, ha, hn⟩, fin'⟩⟩
end

abbrev s__law_due : Stmt := body.getD 44 (.Pass ⟨0, 0, 0, 0⟩)
abbrev N__law_due : List Str := ["_law_door", "_law_thing", "_law_due_here", "error", "_law_found"]
abbrev P__law_due : List Str := ["_law_door", "_law_thing", "_law_due_here"]
theorem sc__law_due : FnScope N__law_due P__law_due (defScope s__law_due) := ⟨rfl, rfl, rfl, by decide, rfl, by decide, by decide⟩
section
variable {P : Program} {w : World} {K : PySem.W.Frag} {mg : Str → Option Value} {base : Heap} {f f1 k_LeftError k_BadRow k_BadKinds k_BadMany : Addr} {fd fd1 : FuncData}
def sp__law_due (K : PySem.W.Frag) : Sp := fun vs H Q _ => ∃ (d : Int) (v : V) (k : Nat), vs = [.int d, v, .int (k : Int)] ∧ Ask K H d v k ∧ k ≤ 2 ∧ ∀ H', Same H H' → Q (.bl true) H'
theorem r_eqB3 {K : PySem.W.Frag} {H : Hp} {Q : VK} {a b : Addr} {x y z : Bool} (h1 : H a = some (.lst [.bl x, .bl y, .bl z])) (h2 : H b = some (.lst [.bl x, .bl y, .bl z])) (h : Q (.bl true) H) : rEq (.ref a) (.ref b) H Q ∨ rEqD K false (.ref a) (.ref b) H Q := by
  have rd : RdVs K H [.bl x, .bl y, .bl z] [.bool x, .bool y, .bool z] := .cons (.bl x) (.cons (.bl y) (.cons (.bl z) .nil))
  have hs : SeqAt.shaped (.list [.bool x, .bool y, .bool z]) = true := by cases x <;> cases y <;> cases z <;> decide
  exact .inr ⟨_, _, .lst (SqL.of h1) rd, .lst (SqL.of h2) rd, hs, hs, by rw [if_neg (by decide), SeqAt.eqv_refl _ (SeqAt.canLay_of_shaped hs)]; exact h⟩
theorem ok__law_due (F : Fun K "_law_due" "_law_due" s__law_due f fd) (T : Blt mg)
    (C__law_ask : Cal K mg "_law_ask" f1 fd1 P__law_ask) (G__law_ask : FnOk P w K mg base (CXR P w) 6 f1 fd1 P__law_ask (sp__law_ask K k_BadRow k_BadKinds k_BadMany))
    (g_LeftError : mg "LeftError" = some (.ref k_LeftError))
    (g_BadRow : mg "BadRow" = some (.ref k_BadRow))
    (g_BadKinds : mg "BadKinds" = some (.ref k_BadKinds))
    (g_BadMany : mg "BadMany" = some (.ref k_BadMany))
    (z_ValueError : mg "ValueError" = none) (x_LeftError : excB K k_LeftError = true) (y_BadRow : ExcI K k_BadRow) (y_BadKinds : ExcI K k_BadKinds) (y_BadMany : ExcI K k_BadMany)
    (z_BadRow : PySem.W.subIn K (.ref k_BadRow) (.ref k_LeftError) = some true) (z_BadKinds : PySem.W.subIn K (.ref k_BadKinds) (.ref k_LeftError) = some true) (z_BadMany : PySem.W.subIn K (.ref k_BadMany) (.ref k_LeftError) = some true)
    (i_BadRow_BadRow : PySem.W.kitOne K (.ref k_BadRow) (.ref k_BadRow) = some true)
    (i_BadRow_BadKinds : PySem.W.kitOne K (.ref k_BadRow) (.ref k_BadKinds) = some false)
    (i_BadRow_BadMany : PySem.W.kitOne K (.ref k_BadRow) (.ref k_BadMany) = some false)
    (i_BadKinds_BadRow : PySem.W.kitOne K (.ref k_BadKinds) (.ref k_BadRow) = some false)
    (i_BadKinds_BadKinds : PySem.W.kitOne K (.ref k_BadKinds) (.ref k_BadKinds) = some true)
    (i_BadKinds_BadMany : PySem.W.kitOne K (.ref k_BadKinds) (.ref k_BadMany) = some false)
    (i_BadMany_BadRow : PySem.W.kitOne K (.ref k_BadMany) (.ref k_BadRow) = some false)
    (i_BadMany_BadKinds : PySem.W.kitOne K (.ref k_BadMany) (.ref k_BadKinds) = some false)
    (i_BadMany_BadMany : PySem.W.kitOne K (.ref k_BadMany) (.ref k_BadMany) = some true)
    (v_BadRow : PySem.W.kitOne K (.ref k_BadRow) (.type "ValueError") = some true) (v_BadKinds : PySem.W.kitOne K (.ref k_BadKinds) (.type "ValueError") = some true) (v_BadMany : PySem.W.kitOne K (.ref k_BadMany) (.type "ValueError") = some true)
    : FnOk P w K mg base CX0 7 f fd P__law_due (sp__law_due K) := by
  refine F.ok sc__law_due (fun vs H Q E h => ?_) (fun cdv A outer s H vs Q E hr h => ?_)
  · obtain ⟨_, _, _, rfl, _⟩ := h
    rfl
  · obtain ⟨d, v, k, rfl, h, hk, fin⟩ := h
    have nd := sc__law_due.nd
    have hu := hr.units
    refine ⟨_, (pss_cons (ps_try (i := 3) (fun _ _ z => z) rfl rfl G__law_ask (hr.mono (by decide)) rfl C__law_ask.mg C__law_ask.kp C__law_ask.b (pa_cons (pv 0) (pa_cons (pv 1) pa_nil)) rfl g_LeftError x_LeftError nd rfl rfl (fun xa => (pss_cons (ps_set (i := 4) nd rfl (by first | exact Or.inl rfl | exact Or.inr rfl) (pe_lst (pa_cons (pe_callB call_isinstE rfl T.no_isinstance boot_isinstance (pa_cons (pv 3) (pa_cons (pe_gref rfl g_BadRow) pa_nil))) (pa_cons (pe_callB call_isinstE rfl T.no_isinstance boot_isinstance (pa_cons (pv 3) (pa_cons (pe_gref rfl g_BadKinds) pa_nil))) (pa_cons (pe_callB call_isinstE rfl T.no_isinstance boot_isinstance (pa_cons (pv 3) (pa_cons (pe_gref rfl g_BadMany) pa_nil))) pa_nil)))))
     (pss_one (ps_ret (pe_and (pe_cmpR (op_eqG hu) (pv 4) (pe_compX (N := ["_law_k", "_law_due_here"]) (k := 1) (caps := [2]) (Block.of (by kernel_rfl)) rfl (pi_rangeX (xa := xa) rfl T.no_range (pa_cons pe_int pa_nil)) (fun _ _ _ _ => ⟨_, (pg_name (i := 0) (by show List.Nodup (["_law_k", "_law_due_here"] : List Str); decide) rfl (by first | exact Or.inl rfl | exact Or.inr rfl)), by walk_at "ce"⟩) (fun _ _ _ _ => ⟨_, PIfs.none, by walk_at "ce"⟩) (fun _ _ _ _ => ⟨_, (pe_cmpR (op_eqG hu) (pv 0) (pv 1) (nomark _)), by walk_at "ce"⟩)) (nomark _)) (pe_one (pe_callB call_isinstE rfl T.no_isinstance boot_isinstance (pa_cons (pv 3) (pa_cons (pe_bty rfl z_ValueError boot_ValueError) pa_nil))))))))))
     (pss_one (ps_ret pe_bl))), ?_⟩
    try simp only [show (cxOf CX0 P w K mg base N__law_due "_law_due" (defScope s__law_due) f cdv A outer s H E).nox.K = K from rfl, show (cxOf CX0 P w K mg base N__law_due "_law_due" (defScope s__law_due) f cdv A outer s H E).K = K from rfl]
    rw [show L2.start N__law_due [V.int d, v, V.int (k : Int)] = [some (V.int d), some (v), some (V.int (k : Int)), none, none] from rfl]
    walk_at "rd"
    refine r_try ?_
    walk_at "rd"
    refine ⟨d, v, k, rfl, h, fun H2 s2 => ?_⟩
    have cs : k = 0 ∨ k = 1 ∨ k = 2 := by omega
    have xs : excB K (clsK k_BadRow k_BadKinds k_BadMany k) = true := by rcases cs with rfl | rfl | rfl; exact y_BadRow.x; exact y_BadKinds.x; exact y_BadMany.x
    have zs : PySem.W.subIn K (.ref (clsK k_BadRow k_BadKinds k_BadMany k)) (.ref k_LeftError) = some true := by rcases cs with rfl | rfl | rfl; exact z_BadRow; exact z_BadKinds; exact z_BadMany
    have ys : ExcI K (clsK k_BadRow k_BadKinds k_BadMany k) := by rcases cs with rfl | rfl | rfl; exact y_BadRow; exact y_BadKinds; exact y_BadMany
    have vs : PySem.W.kitOne K (.ref (clsK k_BadRow k_BadKinds k_BadMany k)) (.type "ValueError") = some true := by rcases cs with rfl | rfl | rfl; exact v_BadRow; exact v_BadKinds; exact v_BadMany
    have i1 : PySem.W.kitOne K (.ref (clsK k_BadRow k_BadKinds k_BadMany k)) (.ref k_BadRow) = some (decide (k = 0)) := by rcases cs with rfl | rfl | rfl; exact i_BadRow_BadRow; exact i_BadKinds_BadRow; exact i_BadMany_BadRow
    have i2 : PySem.W.kitOne K (.ref (clsK k_BadRow k_BadKinds k_BadMany k)) (.ref k_BadKinds) = some (decide (k = 1)) := by rcases cs with rfl | rfl | rfl; exact i_BadRow_BadKinds; exact i_BadKinds_BadKinds; exact i_BadMany_BadKinds
    have i3 : PySem.W.kitOne K (.ref (clsK k_BadRow k_BadKinds k_BadMany k)) (.ref k_BadMany) = some (decide (k = 2)) := by rcases cs with rfl | rfl | rfl; exact i_BadRow_BadMany; exact i_BadKinds_BadMany; exact i_BadMany_BadMany
    refine ⟨_, rfl, xs, zs, fun a ha => ?_⟩
    generalize clsK k_BadRow k_BadKinds k_BadMany k = C at xs zs ys vs i1 i2 i3 ⊢
    have ha3 : (upd H2 a (xo C a)) a = some (xo C a) := upd_same
    have s3 : Same H (upd H2 a (xo C a)) := s2.trans (Same.upd_new ha)
    generalize upd H2 a (xo C a) = H3 at ha3 s3 ⊢
    clear s2 ha
    walk_at "rd"
    refine r_isiE rfl ha3 ys i1 ?_
    walk_at "rd"
    refine r_isiE rfl ha3 ys i2 ?_
    walk_at "rd"
    refine r_isiE rfl ha3 ys i3 ?_
    walk_at "rd"
    intro l hl
    have hl4 : (upd H3 l (.lst [.bl (decide (k = 0)), .bl (decide (k = 1)), .bl (decide (k = 2))])) l = some (.lst [.bl (decide (k = 0)), .bl (decide (k = 1)), .bl (decide (k = 2))]) := upd_same
    have s34 : Same H3 (upd H3 l (.lst [.bl (decide (k = 0)), .bl (decide (k = 1)), .bl (decide (k = 2))])) := Same.upd_new hl
    generalize upd H3 l (.lst [.bl (decide (k = 0)), .bl (decide (k = 1)), .bl (decide (k = 2))]) = H4 at hl4 s34 ⊢
    have ha4 := s34.at ha3
    walk_at "rd"
    refine r_iRngX ?_
    walk_at "rd"
    refine ⟨3, rfl, by decide, by decide, ?_⟩
    refine comp_map (ov_rangeX (C := C)) (fun y => .bl (decide ((0 : Int) + (y : Nat) = k))) (fun H' s' => s'.at ha4) (by decide) ?_ ?_
    · rintro i z x H5 H6 R R' hi s5 ⟨rfl, rfl⟩ h1
      walk_at "rd"
      refine ⟨⟨rfl, rfl⟩, ?_⟩
      walk_at "rd"
      exact h1 _ (Same.refl _)
    intro D H5 hD s45 hd
    have ha5 := s45.at ha4
    have hl5 := s45.at hl4
    have hd5 : H5 D = some (.lst [.bl (decide (k = 0)), .bl (decide (k = 1)), .bl (decide (k = 2))]) := by rcases cs with rfl | rfl | rfl <;> exact hd
    walk_at "rd"
    refine r_eqB3 hl5 hd5 ?_
    walk_at "rd"
    refine r_isiE rfl ha5 ys vs ?_
    walk_at "rd"
    exact fin _ (s3.trans (s34.trans s45))
end

abbrev s__law_rows : Stmt := body.getD 45 (.Pass ⟨0, 0, 0, 0⟩)
abbrev N__law_rows : List Str := ["_law_cell", "_law_some"]
abbrev P__law_rows : List Str := ["_law_cell"]
theorem sc__law_rows : FnScope N__law_rows P__law_rows (defScope s__law_rows) := ⟨rfl, rfl, rfl, by decide, rfl, by decide, by decide⟩
section
variable {P : Program} {w : World} {K : PySem.W.Frag} {mg : Str → Option Value} {base : Heap} {f : Addr} {fd : FuncData}
def sp_things (G : Hp → V → Prop) : Sp := fun vs H Q _ => ∃ c : Int, vs = [.int c] ∧ 0 ≤ c ∧ ∀ (p : Addr) (ts : List V) H', H p = none → Same H H' → H' p = some (.lst ts) → 0 < ts.length → ts.length ≤ 100 → (∀ v ∈ ts, G H' v) → Q (.ref p) H'
theorem ok__law_rows (F : Fun K "_law_rows" "_law_rows" s__law_rows f fd) (T : Blt mg) : FnOk P w K mg base CX0 1 f fd P__law_rows (sp_things fun H v => RowB K H v false) := by
  refine F.ok sc__law_rows (fun vs H Q E h => ?_) (fun cdv A outer s H vs Q E hr h => ?_)
  · obtain ⟨_, rfl, _⟩ := h
    rfl
  · obtain ⟨c, rfl, c0, k⟩ := h
    have nd := sc__law_rows.nd
    have hu := hr.units
    refine ⟨_, (pss_cons (ps_set (i := 1) nd rfl (by first | exact Or.inl rfl | exact Or.inr rfl) (pe_lst (pa_cons pe_non (pa_cons (pe_tup pa_nil) (pa_cons (pe_tup (pa_cons pe_int (pa_cons pe_int pa_nil))) (pa_cons pe_str (pa_cons pe_dnewK (pa_cons (pe_lst (pa_cons pe_non pa_nil)) (pa_cons (pe_lst (pa_cons pe_str pa_nil)) (pa_cons (pe_lst (pa_cons pe_bl pa_nil)) (pa_cons (pe_lst (pa_cons pe_int (pa_cons pe_bl pa_nil))) (pa_cons (pe_lst (pa_cons pe_int (pa_cons pe_int (pa_cons pe_str pa_nil)))) (pa_cons (pe_lst (pa_cons (pe_lst (pa_cons pe_int pa_nil)) pa_nil)) (pa_cons (pe_lst (pa_cons (pe_tup (pa_cons pe_int (pa_cons pe_int pa_nil))) pa_nil)) (pa_cons (pv 0) (pa_cons pe_int pa_nil))))))))))))))))
     (pss_one (ps_ret (pe_op op_addG (pv 1) (pe_lst (pa_cons (pe_lst (pa_cons (pv 0) (pa_cons pe_non pa_nil))) (pa_cons (pe_lst (pa_cons pe_non (pa_cons (pv 0) pa_nil))) (pa_cons (pe_lst (pa_cons (pv 0) (pa_cons pe_bl pa_nil))) (pa_cons (pe_lst (pa_cons (pv 0) (pa_cons (pe_lst (pa_cons (pv 0) pa_nil)) pa_nil))) pa_nil))))))))), ?_⟩
    try simp only [show (cxOf CX0 P w K mg base N__law_rows "_law_rows" (defScope s__law_rows) f cdv A outer s H E).nox.K = K from rfl, show (cxOf CX0 P w K mg base N__law_rows "_law_rows" (defScope s__law_rows) f cdv A outer s H E).K = K from rfl]
    rw [show L2.start N__law_rows [V.int c] = [some (V.int c), none] from rfl]
    walk_at "rd"
    intro p1 hp1
    generalize hG : upd H p1 _ = H1
    have e1 : H1 p1 = some (.tup []) := by rw [← hG]; exact upd_same
    have s1 : Same H H1 := by rw [← hG]; exact Same.upd_new hp1
    clear hG
    walk_at "rd"
    intro p2 hp2
    generalize hG : upd H1 p2 _ = H2
    have e2 : H2 p2 = some (.tup [.int 1, .int 2]) := by rw [← hG]; exact upd_same
    have s2 : Same H1 H2 := by rw [← hG]; exact Same.upd_new hp2
    clear hG
    walk_at "rd"
    intro p3 hp3
    generalize hG : upd H2 p3 _ = H3
    have e3 : H3 p3 = some (.dK []) := by rw [← hG]; exact upd_same
    have s3 : Same H2 H3 := by rw [← hG]; exact Same.upd_new hp3
    clear hG
    walk_at "rd"
    intro p4 hp4
    generalize hG : upd H3 p4 _ = H4
    have e4 : H4 p4 = some (.lst [.non]) := by rw [← hG]; exact upd_same
    have s4 : Same H3 H4 := by rw [← hG]; exact Same.upd_new hp4
    clear hG
    walk_at "rd"
    intro p5 hp5
    generalize hG : upd H4 p5 _ = H5
    have e5 : H5 p5 = some (.lst [.str "1"]) := by rw [← hG]; exact upd_same
    have s5 : Same H4 H5 := by rw [← hG]; exact Same.upd_new hp5
    clear hG
    walk_at "rd"
    intro p6 hp6
    generalize hG : upd H5 p6 _ = H6
    have e6 : H6 p6 = some (.lst [.bl true]) := by rw [← hG]; exact upd_same
    have s6 : Same H5 H6 := by rw [← hG]; exact Same.upd_new hp6
    clear hG
    walk_at "rd"
    intro p7 hp7
    generalize hG : upd H6 p7 _ = H7
    have e7 : H7 p7 = some (.lst [.int 1, .bl false]) := by rw [← hG]; exact upd_same
    have s7 : Same H6 H7 := by rw [← hG]; exact Same.upd_new hp7
    clear hG
    walk_at "rd"
    intro p8 hp8
    generalize hG : upd H7 p8 _ = H8
    have e8 : H8 p8 = some (.lst [.int 1, .int 2, .str "3"]) := by rw [← hG]; exact upd_same
    have s8 : Same H7 H8 := by rw [← hG]; exact Same.upd_new hp8
    clear hG
    walk_at "rd"
    intro p9 hp9
    generalize hG : upd H8 p9 _ = H9
    have e9 : H9 p9 = some (.lst [.int 1]) := by rw [← hG]; exact upd_same
    have s9 : Same H8 H9 := by rw [← hG]; exact Same.upd_new hp9
    clear hG
    walk_at "rd"
    intro p10 hp10
    generalize hG : upd H9 p10 _ = H10
    have e10 : H10 p10 = some (.lst [.ref p9]) := by rw [← hG]; exact upd_same
    have s10 : Same H9 H10 := by rw [← hG]; exact Same.upd_new hp10
    clear hG
    walk_at "rd"
    intro p11 hp11
    generalize hG : upd H10 p11 _ = H11
    have e11 : H11 p11 = some (.tup [.int 1, .int 2]) := by rw [← hG]; exact upd_same
    have s11 : Same H10 H11 := by rw [← hG]; exact Same.upd_new hp11
    clear hG
    walk_at "rd"
    intro p12 hp12
    generalize hG : upd H11 p12 _ = H12
    have e12 : H12 p12 = some (.lst [.ref p11]) := by rw [← hG]; exact upd_same
    have s12 : Same H11 H12 := by rw [← hG]; exact Same.upd_new hp12
    clear hG
    walk_at "rd"
    intro p13 hp13
    generalize hG : upd H12 p13 _ = H13
    have e13 : H13 p13 = some (.lst [.non, .ref p1, .ref p2, .str "12", .ref p3, .ref p4, .ref p5, .ref p6, .ref p7, .ref p8, .ref p10, .ref p12, .int c, .int 5]) := by rw [← hG]; exact upd_same
    have s13 : Same H12 H13 := by rw [← hG]; exact Same.upd_new hp13
    clear hG
    walk_at "rd"
    intro p14 hp14
    generalize hG : upd H13 p14 _ = H14
    have e14 : H14 p14 = some (.lst [.int c, .non]) := by rw [← hG]; exact upd_same
    have s14 : Same H13 H14 := by rw [← hG]; exact Same.upd_new hp14
    clear hG
    walk_at "rd"
    intro p15 hp15
    generalize hG : upd H14 p15 _ = H15
    have e15 : H15 p15 = some (.lst [.non, .int c]) := by rw [← hG]; exact upd_same
    have s15 : Same H14 H15 := by rw [← hG]; exact Same.upd_new hp15
    clear hG
    walk_at "rd"
    intro p16 hp16
    generalize hG : upd H15 p16 _ = H16
    have e16 : H16 p16 = some (.lst [.int c, .bl true]) := by rw [← hG]; exact upd_same
    have s16 : Same H15 H16 := by rw [← hG]; exact Same.upd_new hp16
    clear hG
    walk_at "rd"
    intro p17 hp17
    generalize hG : upd H16 p17 _ = H17
    have e17 : H17 p17 = some (.lst [.int c]) := by rw [← hG]; exact upd_same
    have s17 : Same H16 H17 := by rw [← hG]; exact Same.upd_new hp17
    clear hG
    walk_at "rd"
    intro p18 hp18
    generalize hG : upd H17 p18 _ = H18
    have e18 : H18 p18 = some (.lst [.int c, .ref p17]) := by rw [← hG]; exact upd_same
    have s18 : Same H17 H18 := by rw [← hG]; exact Same.upd_new hp18
    clear hG
    walk_at "rd"
    intro p19 hp19
    generalize hG : upd H18 p19 _ = H19
    have e19 : H19 p19 = some (.lst [.ref p14, .ref p15, .ref p16, .ref p18]) := by rw [← hG]; exact upd_same
    have s19 : Same H18 H19 := by rw [← hG]; exact Same.upd_new hp19
    clear hG
    walk_at "rd"
    refine r_catL (s19.at (s18.at (s17.at (s16.at (s15.at (s14.at e13)))))) e19 (by simp) ?_
    intro p20 hp20
    generalize hG : upd H19 p20 _ = H20
    have e20 : H20 p20 = some (.lst ([.non, .ref p1, .ref p2, .str "12", .ref p3, .ref p4, .ref p5, .ref p6, .ref p7, .ref p8, .ref p10, .ref p12, .int c, .int 5] ++ [.ref p14, .ref p15, .ref p16, .ref p18])) := by rw [← hG]; exact upd_same
    have s20 : Same H19 H20 := by rw [← hG]; exact Same.upd_new hp20
    clear hG
    walk_at "rd"
    have t20 : Same H20 H20 := Same.refl _
    have t19 : Same H19 H20 := s20.trans t20
    have t18 : Same H18 H20 := s19.trans t19
    have t17 : Same H17 H20 := s18.trans t18
    have t16 : Same H16 H20 := s17.trans t17
    have t15 : Same H15 H20 := s16.trans t16
    have t14 : Same H14 H20 := s15.trans t15
    have t13 : Same H13 H20 := s14.trans t14
    have t12 : Same H12 H20 := s13.trans t13
    have t11 : Same H11 H20 := s12.trans t12
    have t10 : Same H10 H20 := s11.trans t11
    have t9 : Same H9 H20 := s10.trans t10
    have t8 : Same H8 H20 := s9.trans t9
    have t7 : Same H7 H20 := s8.trans t8
    have t6 : Same H6 H20 := s7.trans t7
    have t5 : Same H5 H20 := s6.trans t6
    have t4 : Same H4 H20 := s5.trans t5
    have t3 : Same H3 H20 := s4.trans t4
    have t2 : Same H2 H20 := s3.trans t3
    have t1 : Same H1 H20 := s2.trans t2
    have t0 : Same H H20 := s1.trans t1
    have f1 := t1.at e1
    have f2 := t2.at e2
    have f3 := t3.at e3
    have f4 := t4.at e4
    have f5 := t5.at e5
    have f6 := t6.at e6
    have f7 := t7.at e7
    have f8 := t8.at e8
    have f9 := t9.at e9
    have f10 := t10.at e10
    have f11 := t11.at e11
    have f12 := t12.at e12
    have f13 := t13.at e13
    have f14 := t14.at e14
    have f15 := t15.at e15
    have f16 := t16.at e16
    have f17 := t17.at e17
    have f18 := t18.at e18
    have f19 := t19.at e19
    clear e1
    clear e2
    clear e3
    clear e4
    clear e5
    clear e6
    clear e7
    clear e8
    clear e9
    clear e10
    clear e11
    clear e12
    clear e13
    clear e14
    clear e15
    clear e16
    clear e17
    clear e18
    clear e19
    have u0 : Same H H19 := s1.trans (s2.trans (s3.trans (s4.trans (s5.trans (s6.trans (s7.trans (s8.trans (s9.trans (s10.trans (s11.trans (s12.trans (s13.trans (s14.trans (s15.trans (s16.trans (s17.trans (s18.trans (s19))))))))))))))))))
    refine k p20 _ H20 (u0.free hp20) t0 e20 (by simp) (by simp) fun v hv => ?_
    simp only [List.cons_append, List.nil_append, List.mem_cons, List.not_mem_nil, or_false] at hv
    rcases hv with rfl | rfl | rfl | rfl | rfl | rfl | rfl | rfl | rfl | rfl | rfl | rfl | rfl | rfl | rfl | rfl | rfl | rfl
    · exact .no (.non) rfl
    · exact .no (.tup f1) (by simp [isLs, f1])
    · exact .no (.tup f2) (by simp [isLs, f2])
    · exact .no (.str _) rfl
    · exact .no (.dic f3) (by simp [isLs, f3])
    · exact RowB.bad f4 (by intro x hx; simp only [List.mem_cons, List.not_mem_nil, or_false] at hx; rcases hx with rfl <;> first | exact .non | exact .bl _ | exact .int _ | exact .str _ | exact .lst (by assumption) | exact .tup (by assumption)) (by simp) rfl
    · exact RowB.bad f5 (by intro x hx; simp only [List.mem_cons, List.not_mem_nil, or_false] at hx; rcases hx with rfl <;> first | exact .non | exact .bl _ | exact .int _ | exact .str _ | exact .lst (by assumption) | exact .tup (by assumption)) (by simp) rfl
    · exact RowB.bad f6 (by intro x hx; simp only [List.mem_cons, List.not_mem_nil, or_false] at hx; rcases hx with rfl <;> first | exact .non | exact .bl _ | exact .int _ | exact .str _ | exact .lst (by assumption) | exact .tup (by assumption)) (by simp) rfl
    · exact RowB.bad f7 (by intro x hx; simp only [List.mem_cons, List.not_mem_nil, or_false] at hx; rcases hx with rfl | rfl <;> first | exact .non | exact .bl _ | exact .int _ | exact .str _ | exact .lst (by assumption) | exact .tup (by assumption)) (by simp) rfl
    · exact RowB.bad f8 (by intro x hx; simp only [List.mem_cons, List.not_mem_nil, or_false] at hx; rcases hx with rfl | rfl | rfl <;> first | exact .non | exact .bl _ | exact .int _ | exact .str _ | exact .lst (by assumption) | exact .tup (by assumption)) (by simp) rfl
    · exact RowB.bad f10 (by intro x hx; simp only [List.mem_cons, List.not_mem_nil, or_false] at hx; rcases hx with rfl <;> first | exact .non | exact .bl _ | exact .int _ | exact .str _ | exact .lst (by assumption) | exact .tup (by assumption)) (by simp) rfl
    · exact RowB.bad f12 (by intro x hx; simp only [List.mem_cons, List.not_mem_nil, or_false] at hx; rcases hx with rfl <;> first | exact .non | exact .bl _ | exact .int _ | exact .str _ | exact .lst (by assumption) | exact .tup (by assumption)) (by simp) rfl
    · exact .no (.int _) rfl
    · exact .no (.int _) rfl
    · exact RowB.bad f14 (by intro x hx; simp only [List.mem_cons, List.not_mem_nil, or_false] at hx; rcases hx with rfl | rfl <;> first | exact .non | exact .bl _ | exact .int _ | exact .str _ | exact .lst (by assumption) | exact .tup (by assumption)) (by simp) rfl
    · exact RowB.bad f15 (by intro x hx; simp only [List.mem_cons, List.not_mem_nil, or_false] at hx; rcases hx with rfl | rfl <;> first | exact .non | exact .bl _ | exact .int _ | exact .str _ | exact .lst (by assumption) | exact .tup (by assumption)) (by simp) rfl
    · exact RowB.bad f16 (by intro x hx; simp only [List.mem_cons, List.not_mem_nil, or_false] at hx; rcases hx with rfl | rfl <;> first | exact .non | exact .bl _ | exact .int _ | exact .str _ | exact .lst (by assumption) | exact .tup (by assumption)) (by simp) rfl
    · exact RowB.bad f18 (by intro x hx; simp only [List.mem_cons, List.not_mem_nil, or_false] at hx; rcases hx with rfl | rfl <;> first | exact .non | exact .bl _ | exact .int _ | exact .str _ | exact .lst (by assumption) | exact .tup (by assumption)) (by simp) rfl
end
abbrev s__law_kinds : Stmt := body.getD 46 (.Pass ⟨0, 0, 0, 0⟩)
abbrev N__law_kinds : List Str := ["_law_cell"]
abbrev P__law_kinds : List Str := ["_law_cell"]
theorem sc__law_kinds : FnScope N__law_kinds P__law_kinds (defScope s__law_kinds) := ⟨rfl, rfl, rfl, by decide, rfl, by decide, by decide⟩
section
variable {P : Program} {w : World} {K : PySem.W.Frag} {mg : Str → Option Value} {base : Heap} {f : Addr} {fd : FuncData}
theorem ok__law_kinds (F : Fun K "_law_kinds" "_law_kinds" s__law_kinds f fd) (T : Blt mg) : FnOk P w K mg base CX0 1 f fd P__law_kinds (sp_things fun H v => Knd K H v ∧ kinB v = false) := by
  refine F.ok sc__law_kinds (fun vs H Q E h => ?_) (fun cdv A outer s H vs Q E hr h => ?_)
  · obtain ⟨_, rfl, _⟩ := h
    rfl
  · obtain ⟨c, rfl, c0, k⟩ := h
    have nd := sc__law_kinds.nd
    have hu := hr.units
    refine ⟨_, (pss_one (ps_ret (pe_lst (pa_cons pe_non (pa_cons pe_int (pa_cons (pe_un un_neg pe_int) (pa_cons (pe_op op_sub (pe_un un_neg pe_int) (pe_op op_mod (pv 0) pe_int)) (pa_cons pe_bl (pa_cons pe_str (pa_cons (pe_lst (pa_cons pe_int pa_nil)) (pa_cons (pe_tup (pa_cons pe_int pa_nil)) (pa_cons pe_dnewK pa_nil)))))))))))), ?_⟩
    try simp only [show (cxOf CX0 P w K mg base N__law_kinds "_law_kinds" (defScope s__law_kinds) f cdv A outer s H E).nox.K = K from rfl, show (cxOf CX0 P w K mg base N__law_kinds "_law_kinds" (defScope s__law_kinds) f cdv A outer s H E).K = K from rfl]
    rw [show L2.start N__law_kinds [V.int c] = [some (V.int c)] from rfl]
    walk_at "rd"
    intro p1 hp1
    generalize hG : upd H p1 _ = H1
    have e1 : H1 p1 = some (.lst [.int 2]) := by rw [← hG]; exact upd_same
    have s1 : Same H H1 := by rw [← hG]; exact Same.upd_new hp1
    clear hG
    walk_at "rd"
    intro p2 hp2
    generalize hG : upd H1 p2 _ = H2
    have e2 : H2 p2 = some (.tup [.int 2]) := by rw [← hG]; exact upd_same
    have s2 : Same H1 H2 := by rw [← hG]; exact Same.upd_new hp2
    clear hG
    walk_at "rd"
    intro p3 hp3
    generalize hG : upd H2 p3 _ = H3
    have e3 : H3 p3 = some (.dK []) := by rw [← hG]; exact upd_same
    have s3 : Same H2 H3 := by rw [← hG]; exact Same.upd_new hp3
    clear hG
    walk_at "rd"
    intro p4 hp4
    generalize hG : upd H3 p4 _ = H4
    have e4 : H4 p4 = some (.lst [.non, .int 0, .int (-1), .int (-1 - c % 9), .bl true, .str "2", .ref p1, .ref p2, .ref p3]) := by rw [← hG]; exact upd_same
    have s4 : Same H3 H4 := by rw [← hG]; exact Same.upd_new hp4
    clear hG
    walk_at "rd"
    have t4 : Same H4 H4 := Same.refl _
    have t3 : Same H3 H4 := s4.trans t4
    have t2 : Same H2 H4 := s3.trans t3
    have t1 : Same H1 H4 := s2.trans t2
    have t0 : Same H H4 := s1.trans t1
    have f1 := t1.at e1
    have f2 := t2.at e2
    have f3 := t3.at e3
    have u0 : Same H H3 := s1.trans (s2.trans (s3))
    refine k p4 _ H4 (u0.free hp4) t0 e4 (by simp) (by simp) fun v hv => ?_
    simp only [List.mem_cons, List.not_mem_nil, or_false] at hv
    rcases hv with rfl | rfl | rfl | rfl | rfl | rfl | rfl | rfl | rfl
    · exact ⟨.non, rfl⟩
    · exact ⟨.int _, rfl⟩
    · exact ⟨.int _, rfl⟩
    · exact ⟨.int _, decide_eq_false (by omega)⟩
    · exact ⟨.bl _, rfl⟩
    · exact ⟨.str _, rfl⟩
    · exact ⟨.lst f1, rfl⟩
    · exact ⟨.tup f2, rfl⟩
    · exact ⟨.dic f3, rfl⟩
end
abbrev s__law_counts : Stmt := body.getD 47 (.Pass ⟨0, 0, 0, 0⟩)
abbrev N__law_counts : List Str := ["_law_cell"]
abbrev P__law_counts : List Str := ["_law_cell"]
theorem sc__law_counts : FnScope N__law_counts P__law_counts (defScope s__law_counts) := ⟨rfl, rfl, rfl, by decide, rfl, by decide, by decide⟩
section
variable {P : Program} {w : World} {K : PySem.W.Frag} {mg : Str → Option Value} {base : Heap} {f : Addr} {fd : FuncData}
theorem ok__law_counts (F : Fun K "_law_counts" "_law_counts" s__law_counts f fd) (T : Blt mg) : FnOk P w K mg base CX0 1 f fd P__law_counts (sp_things fun H v => Knd K H v ∧ cnt v 2 = false) := by
  refine F.ok sc__law_counts (fun vs H Q E h => ?_) (fun cdv A outer s H vs Q E hr h => ?_)
  · obtain ⟨_, rfl, _⟩ := h
    rfl
  · obtain ⟨c, rfl, c0, k⟩ := h
    have nd := sc__law_counts.nd
    have hu := hr.units
    refine ⟨_, (pss_one (ps_ret (pe_lst (pa_cons pe_non (pa_cons (pe_un un_neg pe_int) (pa_cons (pe_op op_sub (pe_un un_neg pe_int) (pe_op op_mod (pv 0) pe_int)) (pa_cons pe_int (pa_cons (pe_op op_addG pe_int (pe_op op_mod (pv 0) pe_int)) (pa_cons pe_bl (pa_cons pe_str (pa_cons (pe_lst (pa_cons pe_int pa_nil)) (pa_cons (pe_tup (pa_cons pe_int pa_nil)) pa_nil)))))))))))), ?_⟩
    try simp only [show (cxOf CX0 P w K mg base N__law_counts "_law_counts" (defScope s__law_counts) f cdv A outer s H E).nox.K = K from rfl, show (cxOf CX0 P w K mg base N__law_counts "_law_counts" (defScope s__law_counts) f cdv A outer s H E).K = K from rfl]
    rw [show L2.start N__law_counts [V.int c] = [some (V.int c)] from rfl]
    walk_at "rd"
    intro p1 hp1
    generalize hG : upd H p1 _ = H1
    have e1 : H1 p1 = some (.lst [.int 1]) := by rw [← hG]; exact upd_same
    have s1 : Same H H1 := by rw [← hG]; exact Same.upd_new hp1
    clear hG
    walk_at "rd"
    intro p2 hp2
    generalize hG : upd H1 p2 _ = H2
    have e2 : H2 p2 = some (.tup [.int 0]) := by rw [← hG]; exact upd_same
    have s2 : Same H1 H2 := by rw [← hG]; exact Same.upd_new hp2
    clear hG
    walk_at "rd"
    intro p3 hp3
    generalize hG : upd H2 p3 _ = H3
    have e3 : H3 p3 = some (.lst [.non, .int (-1), .int (-1 - c % 9), .int 3, .int (3 + c % 9), .bl true, .str "1", .ref p1, .ref p2]) := by rw [← hG]; exact upd_same
    have s3 : Same H2 H3 := by rw [← hG]; exact Same.upd_new hp3
    clear hG
    walk_at "rd"
    have t3 : Same H3 H3 := Same.refl _
    have t2 : Same H2 H3 := s3.trans t3
    have t1 : Same H1 H3 := s2.trans t2
    have t0 : Same H H3 := s1.trans t1
    have f1 := t1.at e1
    have f2 := t2.at e2
    have u0 : Same H H2 := s1.trans (s2)
    refine k p3 _ H3 (u0.free hp3) t0 e3 (by simp) (by simp) fun v hv => ?_
    simp only [List.mem_cons, List.not_mem_nil, or_false] at hv
    rcases hv with rfl | rfl | rfl | rfl | rfl | rfl | rfl | rfl | rfl
    · exact ⟨.non, rfl⟩
    · exact ⟨.int _, rfl⟩
    · exact ⟨.int _, decide_eq_false (by omega)⟩
    · exact ⟨.int _, rfl⟩
    · exact ⟨.int _, decide_eq_false (by omega)⟩
    · exact ⟨.bl _, rfl⟩
    · exact ⟨.str _, rfl⟩
    · exact ⟨.lst f1, rfl⟩
    · exact ⟨.tup f2, rfl⟩
end

abbrev s_law : Stmt := body.getD 48 (.Pass ⟨0, 0, 0, 0⟩)
abbrev N_law : List Str := ["_law_script", "_law_doors", "_law_things", "_law_due_here", "_law_door", "_law_cell", "_law_some", "_law_thing"]
abbrev P_law : List Str := ["_law_script"]
theorem sc_law : FnScope N_law P_law (defScope s_law) := ⟨rfl, rfl, rfl, by decide, rfl, by decide, by decide⟩
section
variable {P : Program} {w : World} {K : PySem.W.Frag} {mg : Str → Option Value} {base : Heap} {f f1 f2 f3 f4 : Addr} {fd fd1 fd2 fd3 fd4 : FuncData}
def sp_law (K : PySem.W.Frag) : Sp := fun vs H Q _ => ∃ (a : Addr) (ns : List Int), vs = [.ref a] ∧ SqL K H a (ns.map V.int) ∧ ns.length ≤ 63 ∧ ∀ H', Q (.bl true) H'
def Kind (P : Program) (w : World) (K : PySem.W.Frag) (mg : Str → Option Value) (base : Heap) (g : Addr) (ds : List Int) (k : Nat) : Prop := ∃ G : Hp → V → Prop, (∃ (fd : FuncData) (ps : List Str), FnOk P w K mg base CX0 1 g fd ps (sp_things G) ∧ PySem.W.keepIn K (.ref g) = true ∧ Binds K fd ps []) ∧ ∀ d ∈ ds, ∀ H v, G H v → Ask K H d v k
theorem mem_getD {ds : List Int} {i : Nat} (h : i < ds.length) : ds.getD i 0 ∈ ds := by
  rw [List.getD_eq_getElem?_getD, List.getElem?_eq_getElem h]
  exact List.getElem_mem h
theorem ok_law (F : Fun K "law" "law" s_law f fd) (T : Blt mg)
    (C__law_due : Cal K mg "_law_due" f1 fd1 P__law_due) (G__law_due : FnOk P w K mg base CX0 7 f1 fd1 P__law_due (sp__law_due K))
    (C__law_rows : Cal K mg "_law_rows" f2 fd2 P__law_rows) (G__law_rows : FnOk P w K mg base CX0 1 f2 fd2 P__law_rows (sp_things fun H v => RowB K H v false))
    (C__law_kinds : Cal K mg "_law_kinds" f3 fd3 P__law_kinds) (G__law_kinds : FnOk P w K mg base CX0 1 f3 fd3 P__law_kinds (sp_things fun H v => Knd K H v ∧ kinB v = false))
    (C__law_counts : Cal K mg "_law_counts" f4 fd4 P__law_counts) (G__law_counts : FnOk P w K mg base CX0 1 f4 fd4 P__law_counts (sp_things fun H v => Knd K H v ∧ cnt v 2 = false))
    : FnOk P w K mg base CX0 8 f fd P_law (sp_law K) := by
  refine F.ok sc_law (fun vs H Q E h => ?_) (fun cdv A outer s H vs Q E hr h => ?_)
  · obtain ⟨_, _, rfl, _⟩ := h
    rfl
  · obtain ⟨a, ns, rfl, ha, hn, k⟩ := h
    have nd := sc_law.nd
    have hu := hr.units
    have kR : Kind P w K mg base f2 ((List.range 14).map fun k : Nat => (k : Int)) 0 := ⟨_, ⟨_, _, G__law_rows, C__law_rows.kp, C__law_rows.b⟩, fun d hd H v h => by
      obtain ⟨j, hj, rfl⟩ := List.mem_map.mp hd
      have := List.mem_range.mp hj
      exact .inl ⟨rfl, by omega, by omega, h⟩⟩
    have kK : Kind P w K mg base f3 [14] 1 := ⟨_, ⟨_, _, G__law_kinds, C__law_kinds.kp, C__law_kinds.b⟩, fun d hd H v h => .inr (.inl ⟨rfl, List.mem_singleton.mp hd, h.1, h.2⟩)⟩
    have kC : Kind P w K mg base f4 [15] 2 := ⟨_, ⟨_, _, G__law_counts, C__law_counts.kp, C__law_counts.b⟩, fun d hd H v h => .inr (.inr (.inl ⟨rfl, List.mem_singleton.mp hd, h.1, h.2⟩))⟩
    refine ⟨_, (pss_cons (ps_for PassesOwn.never rfl (pi_list (pe_lst (pa_cons (pe_tup (pa_cons (pe_listRange1 rfl rfl T.no_list rfl T.no_range (pa_cons pe_int pa_nil)) (pa_cons (pe_gref rfl C__law_rows.mg) (pa_cons pe_int pa_nil)))) (pa_cons (pe_tup (pa_cons (pe_lst (pa_cons pe_int pa_nil)) (pa_cons (pe_gref rfl C__law_kinds.mg) (pa_cons pe_int pa_nil)))) (pa_cons (pe_tup (pa_cons (pe_lst (pa_cons pe_int pa_nil)) (pa_cons (pe_gref rfl C__law_counts.mg) (pa_cons pe_int pa_nil)))) pa_nil))))) (pg_tup (n := 3) rfl (pgs_cons (pg_name (i := 1) nd rfl (by first | exact Or.inl rfl | exact Or.inr rfl)) (pgs_cons (pg_name (i := 2) nd rfl (by first | exact Or.inl rfl | exact Or.inr rfl)) (pgs_cons (pg_name (i := 3) nd rfl (by first | exact Or.inl rfl | exact Or.inr rfl)) pgs_nil)))) (pss_cons (ps_for PassesOwn.never rfl (pi_list (pv 1)) (pg_name (i := 4) nd rfl (by first | exact Or.inl rfl | exact Or.inr rfl)) (pss_one (ps_if (pt_not (pt_val (pe_callB (call_allB rfl) rfl T.no_all boot_all (pa_cons (pe_comp (N := ["_law_thing", "_law_door", "_law_due_here"]) (k := 1) (caps := [4, 3]) (Block.of (by kernel_rfl)) rfl (pi_list (pe_callV (k := 1) (pv 2) (hr.mono (by decide)) pass0 (pa_cons (pe_callB len_G rfl T.no_len boot_len (pa_cons (pv 0) pa_nil)) pa_nil))) (fun _ _ _ _ => ⟨_, (pg_name (i := 0) (by show List.Nodup (["_law_thing", "_law_door", "_law_due_here"] : List Str); decide) rfl (by first | exact Or.inl rfl | exact Or.inr rfl)), by walk_at "ce"⟩) (fun _ _ _ _ => ⟨_, PIfs.none, by walk_at "ce"⟩) (fun _ _ _ _ => ⟨_, (pe_call G__law_due (hr.mono (by decide)) rfl C__law_due.mg C__law_due.kp C__law_due.b .nil pass0 (pa_cons (pv 1) (pa_cons (pv 0) (pa_cons (pv 2) pa_nil)))), by walk_at "ce"⟩)) pa_nil)))) (pss_one (ps_ret pe_bl)) pss_nil)))
     (pss_one (ps_for PassesOwn.never rfl (pi_list (pv 0)) (pg_name (i := 5) nd rfl (by first | exact Or.inl rfl | exact Or.inr rfl)) (pss_cons (ps_set (i := 6) nd rfl (by first | exact Or.inl rfl | exact Or.inr rfl) (pe_callV (k := 1) (pv 2) (hr.mono (by decide)) pass0 (pa_cons (pe_op op_mod (pv 5) (pe_op op_pow pe_int pe_int)) pa_nil)))
     (pss_one (ps_if (pt_not (pt_val (pe_call G__law_due (hr.mono (by decide)) rfl C__law_due.mg C__law_due.kp C__law_due.b .nil pass0 (pa_cons (pe_ix ix_G (pv 1) (pe_op op_mod (pv 5) (pe_callB len_G rfl T.no_len boot_len (pa_cons (pv 1) pa_nil))) (fun _ _ => rfl)) (pa_cons (pe_ix ix_G (pv 6) (pe_op op_mod (pe_op op_fdiv (pv 5) (pe_callB len_G rfl T.no_len boot_len (pa_cons (pv 1) pa_nil))) (pe_callB len_G rfl T.no_len boot_len (pa_cons (pv 6) pa_nil))) (fun _ _ => rfl)) (pa_cons (pv 3) pa_nil)))))) (pss_one (ps_ret pe_bl)) pss_nil)))))))
     (pss_cons (ps_for PassesOwn.never rfl (pi_list (pe_lst (pa_cons (pe_tup (pa_cons pe_int (pa_cons (pe_lst (pa_cons pe_int pa_nil)) pa_nil))) (pa_cons (pe_tup (pa_cons pe_int (pa_cons (pe_lst (pa_cons pe_int (pa_cons pe_int (pa_cons pe_int (pa_cons pe_int (pa_cons pe_int pa_nil)))))) pa_nil))) (pa_cons (pe_tup (pa_cons pe_int (pa_cons (pe_lst pa_nil) pa_nil))) (pa_cons (pe_tup (pa_cons pe_int (pa_cons (pe_lst (pa_cons pe_int pa_nil)) pa_nil))) (pa_cons (pe_tup (pa_cons pe_int (pa_cons (pe_lst (pa_cons pe_int (pa_cons pe_int (pa_cons pe_int pa_nil)))) pa_nil))) pa_nil))))))) (pg_tup (n := 2) rfl (pgs_cons (pg_name (i := 4) nd rfl (by first | exact Or.inl rfl | exact Or.inr rfl)) (pgs_cons (pg_name (i := 7) nd rfl (by first | exact Or.inl rfl | exact Or.inr rfl)) pgs_nil))) (pss_one (ps_if (pt_not (pt_val (pe_call G__law_due (hr.mono (by decide)) rfl C__law_due.mg C__law_due.kp C__law_due.b .nil pass0 (pa_cons (pv 4) (pa_cons (pv 7) (pa_cons pe_int pa_nil)))))) (pss_one (ps_ret pe_bl)) pss_nil)))
     (pss_one (ps_ret pe_bl)))), ?_⟩
    try simp only [show (cxOf CX0 P w K mg base N_law "law" (defScope s_law) f cdv A outer s H E).nox.K = K from rfl, show (cxOf CX0 P w K mg base N_law "law" (defScope s_law) f cdv A outer s H E).K = K from rfl]
    rw [show L2.start N_law [V.ref a] = [some (V.ref a), none, none, none, none, none, none, none] from rfl]
    walk_at "rd"
    refine r_LR1 (n := 14) (by decide) ?_
    intro l1 hp1
    generalize hG : upd H l1 _ = H1
    have e1 : H1 l1 = some (.lst (((List.range 14).map fun k : Nat => (k : Int)).map V.int)) := by rw [← hG]; exact upd_same
    have s1 : Same H H1 := by rw [← hG]; exact Same.upd_new hp1
    clear hG hp1
    walk_at "rd"
    intro t1 hp2
    generalize hG : upd H1 t1 _ = H2
    have e2 : H2 t1 = some (.tup [.ref l1, .ref f2, .int 0]) := by rw [← hG]; exact upd_same
    have s2 : Same H1 H2 := by rw [← hG]; exact Same.upd_new hp2
    clear hG hp2
    walk_at "rd"
    intro l2 hp3
    generalize hG : upd H2 l2 _ = H3
    have e3 : H3 l2 = some (.lst (([14] : List Int).map V.int)) := by rw [← hG]; exact upd_same
    have s3 : Same H2 H3 := by rw [← hG]; exact Same.upd_new hp3
    clear hG hp3
    walk_at "rd"
    intro t2 hp4
    generalize hG : upd H3 t2 _ = H4
    have e4 : H4 t2 = some (.tup [.ref l2, .ref f3, .int 1]) := by rw [← hG]; exact upd_same
    have s4 : Same H3 H4 := by rw [← hG]; exact Same.upd_new hp4
    clear hG hp4
    walk_at "rd"
    intro l3 hp5
    generalize hG : upd H4 l3 _ = H5
    have e5 : H5 l3 = some (.lst (([15] : List Int).map V.int)) := by rw [← hG]; exact upd_same
    have s5 : Same H4 H5 := by rw [← hG]; exact Same.upd_new hp5
    clear hG hp5
    walk_at "rd"
    intro t3 hp6
    generalize hG : upd H5 t3 _ = H6
    have e6 : H6 t3 = some (.tup [.ref l3, .ref f4, .int 2]) := by rw [← hG]; exact upd_same
    have s6 : Same H5 H6 := by rw [← hG]; exact Same.upd_new hp6
    clear hG hp6
    walk_at "rd"
    intro g0 hp7
    generalize hG : upd H6 g0 _ = H7
    have e7 : H7 g0 = some (.lst [.ref t1, .ref t2, .ref t3]) := by rw [← hG]; exact upd_same
    have s7 : Same H6 H7 := by rw [← hG]; exact Same.upd_new hp7
    clear hG hp7
    have u6 := s7
    have u5 := s6.trans u6
    have u4 := s5.trans u5
    have u3 := s4.trans u4
    have u2 := s3.trans u3
    have u1 := s2.trans u2
    have ha7 := (s1.trans u1).seq ha
    have all7 : ∀ v ∈ [V.ref t1, V.ref t2, V.ref t3], ∃ (t l g : Addr) (ds : List Int) (c : Nat), v = .ref t ∧ H7 t = some (.tup [.ref l, .ref g, .int (c : Int)]) ∧ H7 l = some (.lst (ds.map V.int)) ∧ 0 < ds.length ∧ ds.length ≤ 14 ∧ c ≤ 2 ∧ Kind P w K mg base g ds c := by
      intro v hv
      simp only [List.mem_cons, List.not_mem_nil, or_false] at hv
      rcases hv with rfl | rfl | rfl
      · exact ⟨t1, l1, f2, _, 0, rfl, u2.at e2, u1.at e1, by decide, by decide, by decide, kR⟩
      · exact ⟨t2, l2, f3, _, 1, rfl, u4.at e4, u3.at e3, by decide, by decide, by decide, kK⟩
      · exact ⟨t3, l3, f4, _, 2, rfl, u6.at e6, u5.at e5, by decide, by decide, by decide, kC⟩
    clear kR kK kC e1 e2 e3 e4 e5 e6 s1 s2 s3 s4 s5 s6 s7 u1 u2 u3 u4 u5 u6 ha
    walk_at "rd"
    refine for_by (ov_list (xs := [V.ref t1, V.ref t2, V.ref t3])) (fun i σ H8 => ∃ v1 v2 v3 v4 v5 v6 v7 : Option V, σ = [some (.ref a), v1, v2, v3, v4, v5, v6, v7] ∧ Same H7 H8) ?_ ?_ ?_ ?_
    · exact ⟨_, _, _, _, _, _, _, rfl, Same.refl _⟩
    · rintro i σ H8 _ ⟨_, _, _, _, _, _, _, _, s8⟩
      exact SqL.of (s8.at e7)
    · rintro i v y σ H8' H8 hy ⟨v1, v2, v3, v4, v5, v6, v7, rfl, s8⟩ ⟨rfl, rfl⟩
      obtain ⟨t, l, g, ds, c, rfl, ht, hl, d0, d1, c2, G, ⟨fd', ps', GF, gk, gb⟩, ask⟩ := all7 _ (List.mem_of_getElem? hy)
      have ht8 := s8.at ht
      have hl8 := s8.at hl
      have ha8 := s8.seq ha7
      clear all7 ht hl e7
      walk_at "rd"
      refine for_by (ov_ints (ns := ds)) (fun i σ H9 => ∃ v4 v5 v6 v7 : Option V, σ = [some (.ref a), some (.ref l), some (.ref g), some (.int (c : Int)), v4, v5, v6, v7] ∧ Same H8 H9) ?_ ?_ ?_ ?_
      · exact ⟨_, _, _, _, rfl, Same.refl _⟩
      · rintro i σ H9 _ ⟨_, _, _, _, _, s9⟩
        exact SqL.of (s9.at hl8)
      · rintro i d y σ H9' H9 hy ⟨v4, v5, v6, v7, rfl, s9⟩ ⟨rfl, rfl⟩
        have hd := List.mem_of_getElem? hy
        have ha9 := s9.seq ha8
        walk_at "rd"
        refine r_callV ?_
        walk_at "rd"
        refine ⟨g, sp_things G, rfl, ⟨fd', ps', GF, gk, gb⟩, ?_⟩
        walk_at "rd"
        refine ⟨_, rfl, by omega, fun p ts H10 hp s10 h10 n0 n1 hG => ?_⟩
        walk_at "rd"
        refine comp_map (ov_list (xs := ts)) (fun _ => .bl true) (fun H' s' => SqL.of (s'.at h10)) (by omega) ?_ ?_
        · rintro i z x' H11 H12 R R' hi s11 ⟨rfl, rfl⟩ h1
          walk_at "rd"
          refine ⟨⟨rfl, rfl⟩, ?_⟩
          walk_at "rd"
          exact ⟨d, _, c, rfl, (ask d hd H10 _ (hG _ (List.mem_of_getElem? hi))).same s11, c2, fun H13 s13 => h1 _ s13⟩
        · intro D H11 hD s11 hd11
          walk_at "rd"
          refine r_allT (l := ts) (SqL.of hd11) (fun _ _ => rfl) ?_
          walk_at "rd"
          exact ⟨_, _, _, _, rfl, s9.trans (s10.trans s11)⟩
      rintro σ H9 ⟨v4, v5, v6, v7, rfl, s9⟩
      have ha9 := s9.seq ha8
      have hl9 := s9.at hl8
      walk_at "rd"
      refine for_by (ov_ints (ns := ns)) (fun i σ H10 => ∃ v4 v5 v6 v7 : Option V, σ = [some (.ref a), some (.ref l), some (.ref g), some (.int (c : Int)), v4, v5, v6, v7] ∧ Same H9 H10) ?_ ?_ ?_ ?_
      · exact ⟨_, _, _, _, rfl, Same.refl _⟩
      · rintro i σ H10 _ ⟨_, _, _, _, _, s10⟩
        exact s10.seq ha9
      · rintro i z y σ H10' H10 hy ⟨v4, v5, v6, v7, rfl, s10⟩ ⟨rfl, rfl⟩
        have hl10 := s10.at hl9
        walk_at "rd"
        refine r_callV ?_
        walk_at "rd"
        refine ⟨g, sp_things G, rfl, ⟨fd', ps', GF, gk, gb⟩, ?_⟩
        walk_at "rd"
        have big : (0 : Int) < 10 ^ Int.toNat 60 := by decide
        generalize (10 : Int) ^ Int.toNat 60 = B at big ⊢
        walk_at "rd"
        refine ⟨_, rfl, Int.emod_nonneg _ (by omega), fun p ts H11 hp s11 h11 n0 n1 hG => ?_⟩
        have hl11 := s11.at hl10
        walk_at "rd"
        have q0 : 0 ≤ z % (ds.length : Int) := Int.emod_nonneg _ (by omega)
        have q1 : z % (ds.length : Int) < (ds.length : Int) := Int.emod_lt_of_pos _ (by omega)
        refine r_ixI (SqL.of hl11) q0 q1 ?_
        walk_at "rd"
        refine r_lenL (SqL.of h11) ?_
        walk_at "rd"
        have w0 : 0 ≤ z / (ds.length : Int) % (ts.length : Int) := Int.emod_nonneg _ (by omega)
        have w1 : z / (ds.length : Int) % (ts.length : Int) < (ts.length : Int) := Int.emod_lt_of_pos _ (by omega)
        generalize z / (ds.length : Int) % (ts.length : Int) = j at w0 w1 ⊢
        obtain ⟨j, rfl⟩ : ∃ i : Nat, j = i := ⟨j.toNat, by omega⟩
        have jl : j < ts.length := by omega
        refine r_ixL (SqL.of h11) (atI_nat (List.getElem?_eq_getElem jl)) ?_
        walk_at "rd"
        refine ⟨_, _, c, rfl, ask _ (mem_getD (by omega)) H11 _ (hG _ (List.getElem_mem jl)), c2, fun H12 s12 => ?_⟩
        walk_at "rd"
        exact ⟨_, _, _, _, rfl, s10.trans (s11.trans s12)⟩
      rintro σ H10 ⟨v4, v5, v6, v7, rfl, s10⟩
      exact ⟨_, _, _, _, _, _, _, rfl, s8.trans (s9.trans s10)⟩
    rintro σ H8 ⟨v1, v2, v3, v4, v5, v6, v7, rfl, s8⟩
    clear all7 e7 ha7 s8
    walk_at "rd"
    intro m1 hp9
    generalize hG : upd H8 m1 _ = H9
    have e9 : H9 m1 = some (.lst (([1] : List Int).map V.int)) := by rw [← hG]; exact upd_same
    have s9 : Same H8 H9 := by rw [← hG]; exact Same.upd_new hp9
    clear hG hp9
    walk_at "rd"
    intro r1 hp10
    generalize hG : upd H9 r1 _ = H10
    have e10 : H10 r1 = some (.tup [.int 11, .ref m1]) := by rw [← hG]; exact upd_same
    have s10 : Same H9 H10 := by rw [← hG]; exact Same.upd_new hp10
    clear hG hp10
    walk_at "rd"
    intro m2 hp11
    generalize hG : upd H10 m2 _ = H11
    have e11 : H11 m2 = some (.lst (([1, 2, 3, 4, 5] : List Int).map V.int)) := by rw [← hG]; exact upd_same
    have s11 : Same H10 H11 := by rw [← hG]; exact Same.upd_new hp11
    clear hG hp11
    walk_at "rd"
    intro r2 hp12
    generalize hG : upd H11 r2 _ = H12
    have e12 : H12 r2 = some (.tup [.int 11, .ref m2]) := by rw [← hG]; exact upd_same
    have s12 : Same H11 H12 := by rw [← hG]; exact Same.upd_new hp12
    clear hG hp12
    walk_at "rd"
    intro m3 hp13
    generalize hG : upd H12 m3 _ = H13
    have e13 : H13 m3 = some (.lst (([] : List Int).map V.int)) := by rw [← hG]; exact upd_same
    have s13 : Same H12 H13 := by rw [← hG]; exact Same.upd_new hp13
    clear hG hp13
    walk_at "rd"
    intro r3 hp14
    generalize hG : upd H13 r3 _ = H14
    have e14 : H14 r3 = some (.tup [.int 12, .ref m3]) := by rw [← hG]; exact upd_same
    have s14 : Same H13 H14 := by rw [← hG]; exact Same.upd_new hp14
    clear hG hp14
    walk_at "rd"
    intro m4 hp15
    generalize hG : upd H14 m4 _ = H15
    have e15 : H15 m4 = some (.lst (([1] : List Int).map V.int)) := by rw [← hG]; exact upd_same
    have s15 : Same H14 H15 := by rw [← hG]; exact Same.upd_new hp15
    clear hG hp15
    walk_at "rd"
    intro r4 hp16
    generalize hG : upd H15 r4 _ = H16
    have e16 : H16 r4 = some (.tup [.int 12, .ref m4]) := by rw [← hG]; exact upd_same
    have s16 : Same H15 H16 := by rw [← hG]; exact Same.upd_new hp16
    clear hG hp16
    walk_at "rd"
    intro m5 hp17
    generalize hG : upd H16 m5 _ = H17
    have e17 : H17 m5 = some (.lst (([1, 2, 3] : List Int).map V.int)) := by rw [← hG]; exact upd_same
    have s17 : Same H16 H17 := by rw [← hG]; exact Same.upd_new hp17
    clear hG hp17
    walk_at "rd"
    intro r5 hp18
    generalize hG : upd H17 r5 _ = H18
    have e18 : H18 r5 = some (.tup [.int 13, .ref m5]) := by rw [← hG]; exact upd_same
    have s18 : Same H17 H18 := by rw [← hG]; exact Same.upd_new hp18
    clear hG hp18
    walk_at "rd"
    intro g1 hp19
    generalize hG : upd H18 g1 _ = H19
    have e19 : H19 g1 = some (.lst [V.ref r1, V.ref r2, V.ref r3, V.ref r4, V.ref r5]) := by rw [← hG]; exact upd_same
    have s19 : Same H18 H19 := by rw [← hG]; exact Same.upd_new hp19
    clear hG hp19
    have u18 := s19
    have u17 := s18.trans u18
    have u16 := s17.trans u17
    have u15 := s16.trans u16
    have u14 := s15.trans u15
    have u13 := s14.trans u14
    have u12 := s13.trans u13
    have u11 := s12.trans u12
    have u10 := s11.trans u11
    have u9 := s10.trans u10
    have all8 : ∀ v ∈ [V.ref r1, V.ref r2, V.ref r3, V.ref r4, V.ref r5], ∃ (t m : Addr) (d : Int) (xs : List Int), v = .ref t ∧ H19 t = some (.tup [.int d, .ref m]) ∧ H19 m = some (.lst (xs.map V.int)) ∧ 11 ≤ d ∧ d ≤ 13 ∧ xs.length ≤ 100 ∧ (d = 11 → xs.length ≠ 4) := by
      intro v hv
      simp only [List.mem_cons, List.not_mem_nil, or_false] at hv
      rcases hv with rfl | rfl | rfl | rfl | rfl
      · exact ⟨r1, m1, 11, [1], rfl, u10.at e10, u9.at e9, by decide, by decide, by decide, by decide⟩
      · exact ⟨r2, m2, 11, [1, 2, 3, 4, 5], rfl, u12.at e12, u11.at e11, by decide, by decide, by decide, by decide⟩
      · exact ⟨r3, m3, 12, [], rfl, u14.at e14, u13.at e13, by decide, by decide, by decide, by decide⟩
      · exact ⟨r4, m4, 12, [1], rfl, u16.at e16, u15.at e15, by decide, by decide, by decide, by decide⟩
      · exact ⟨r5, m5, 13, [1, 2, 3], rfl, u18.at e18, u17.at e17, by decide, by decide, by decide, by decide⟩
    walk_at "rd"
    refine for_by (ov_list (xs := [V.ref r1, V.ref r2, V.ref r3, V.ref r4, V.ref r5])) (fun i σ Hn => ∃ v1 v2 v3 v4 v5 v6 v7 : Option V, σ = [some (.ref a), v1, v2, v3, v4, v5, v6, v7] ∧ Same H19 Hn) ?_ ?_ ?_ ?_
    · exact ⟨_, _, _, _, _, _, _, rfl, Same.refl _⟩
    · rintro i σ Hn _ ⟨_, _, _, _, _, _, _, _, sn⟩
      exact SqL.of (sn.at e19)
    · rintro i v y σ Hn' Hn hy ⟨v1, v2, v3, v4, v5, v6, v7, rfl, sn⟩ ⟨rfl, rfl⟩
      obtain ⟨t, m, d, xs, rfl, ht, hm, d0, d1, x0, x1⟩ := all8 _ (List.mem_of_getElem? hy)
      have htn := sn.at ht
      walk_at "rd"
      refine ⟨d, .ref m, 2, rfl, .inr (.inr (.inr ⟨rfl, d0, d1, m, xs, rfl, sn.at hm, x0, x1⟩)), by decide, fun Hm sm => ?_⟩
      walk_at "rd"
      exact ⟨_, _, _, _, _, _, _, rfl, sn.trans sm⟩
    rintro σ Hn ⟨v1, v2, v3, v4, v5, v6, v7, rfl, sn⟩
    walk_at "rd"
    exact k _
end

theorem all_mk {l : PySem.W.OpenLaw} {w : World} {K : PySem.W.Frag} {h : Heap} {mg : Str → Option Value} {fa : Addr} (X : K.In h) (G : h.Ns mainGlobals mg) (hfa : mg "law" = some (.ref fa))
    {f_is_whole : Addr} {od_is_whole an_is_whole : Option Addr} {sl_is_whole : Array (Option Value)} {oc_is_whole kV_is_whole dc_is_whole pm_is_whole cd_is_whole ct_is_whole : Value}
    {f_is_count : Addr} {od_is_count an_is_count : Option Addr} {sl_is_count : Array (Option Value)} {oc_is_count kV_is_count dc_is_count pm_is_count cd_is_count ct_is_count : Value}
    {f_is_row : Addr} {od_is_row an_is_row : Option Addr} {sl_is_row : Array (Option Value)} {oc_is_row kV_is_row dc_is_row pm_is_row cd_is_row ct_is_row : Value}
    {f_checked_row : Addr} {od_checked_row an_checked_row : Option Addr} {sl_checked_row : Array (Option Value)} {oc_checked_row kV_checked_row dc_checked_row pm_checked_row cd_checked_row ct_checked_row : Value}
    {f_left : Addr} {od_left an_left : Option Addr} {sl_left : Array (Option Value)} {oc_left kV_left dc_left pm_left cd_left ct_left : Value}
    {f_kin : Addr} {od_kin an_kin : Option Addr} {sl_kin : Array (Option Value)} {oc_kin kV_kin dc_kin pm_kin cd_kin ct_kin : Value}
    {f_longest : Addr} {od_longest an_longest : Option Addr} {sl_longest : Array (Option Value)} {oc_longest kV_longest dc_longest pm_longest cd_longest ct_longest : Value}
    {f_shortest : Addr} {od_shortest an_shortest : Option Addr} {sl_shortest : Array (Option Value)} {oc_shortest kV_shortest dc_shortest pm_shortest cd_shortest ct_shortest : Value}
    {f_ways : Addr} {od_ways an_ways : Option Addr} {sl_ways : Array (Option Value)} {oc_ways kV_ways dc_ways pm_ways cd_ways ct_ways : Value}
    {f_missing : Addr} {od_missing an_missing : Option Addr} {sl_missing : Array (Option Value)} {oc_missing kV_missing dc_missing pm_missing cd_missing ct_missing : Value}
    {f_least : Addr} {od_least an_least : Option Addr} {sl_least : Array (Option Value)} {oc_least kV_least dc_least pm_least cd_least ct_least : Value}
    {f_mixed : Addr} {od_mixed an_mixed : Option Addr} {sl_mixed : Array (Option Value)} {oc_mixed kV_mixed dc_mixed pm_mixed cd_mixed ct_mixed : Value}
    {f__law_mix : Addr} {od__law_mix an__law_mix : Option Addr} {sl__law_mix : Array (Option Value)} {oc__law_mix kV__law_mix dc__law_mix pm__law_mix cd__law_mix ct__law_mix : Value}
    {f__law_ask : Addr} {od__law_ask an__law_ask : Option Addr} {sl__law_ask : Array (Option Value)} {oc__law_ask kV__law_ask dc__law_ask pm__law_ask cd__law_ask ct__law_ask : Value}
    {f__law_due : Addr} {od__law_due an__law_due : Option Addr} {sl__law_due : Array (Option Value)} {oc__law_due kV__law_due dc__law_due pm__law_due cd__law_due ct__law_due : Value}
    {f__law_rows : Addr} {od__law_rows an__law_rows : Option Addr} {sl__law_rows : Array (Option Value)} {oc__law_rows kV__law_rows dc__law_rows pm__law_rows cd__law_rows ct__law_rows : Value}
    {f__law_kinds : Addr} {od__law_kinds an__law_kinds : Option Addr} {sl__law_kinds : Array (Option Value)} {oc__law_kinds kV__law_kinds dc__law_kinds pm__law_kinds cd__law_kinds ct__law_kinds : Value}
    {f__law_counts : Addr} {od__law_counts an__law_counts : Option Addr} {sl__law_counts : Array (Option Value)} {oc__law_counts kV__law_counts dc__law_counts pm__law_counts cd__law_counts ct__law_counts : Value}
    {f_law : Addr} {od_law an_law : Option Addr} {sl_law : Array (Option Value)} {oc_law kV_law dc_law pm_law cd_law ct_law : Value}
    {k_LeftError : Addr}
    {k_BadRow : Addr}
    {k_BadKinds : Addr}
    {k_BadMany : Addr}
    {k_Answer : Addr}
    {k_Left : Addr}
    {k_Short : Addr}
    {k_Longest : Addr}
    {k_Both : Addr}
    {k_Missing : Addr}
    {k_Mixed : Addr}
    {k_Unmixed : Addr}
    (aC_LeftError : PySem.W.nsIn K mainGlobals "LeftError" = some (some (.ref k_LeftError)))
    (aC_BadRow : PySem.W.nsIn K mainGlobals "BadRow" = some (some (.ref k_BadRow)))
    (aC_BadKinds : PySem.W.nsIn K mainGlobals "BadKinds" = some (some (.ref k_BadKinds)))
    (aC_BadMany : PySem.W.nsIn K mainGlobals "BadMany" = some (some (.ref k_BadMany)))
    (aC_Answer : PySem.W.nsIn K mainGlobals "Answer" = some (some (.ref k_Answer)))
    (aC_Left : PySem.W.nsIn K mainGlobals "Left" = some (some (.ref k_Left)))
    (aC_Short : PySem.W.nsIn K mainGlobals "Short" = some (some (.ref k_Short)))
    (aC_Longest : PySem.W.nsIn K mainGlobals "Longest" = some (some (.ref k_Longest)))
    (aC_Both : PySem.W.nsIn K mainGlobals "Both" = some (some (.ref k_Both)))
    (aC_Missing : PySem.W.nsIn K mainGlobals "Missing" = some (some (.ref k_Missing)))
    (aC_Mixed : PySem.W.nsIn K mainGlobals "Mixed" = some (some (.ref k_Mixed)))
    (aC_Unmixed : PySem.W.nsIn K mainGlobals "Unmixed" = some (some (.ref k_Unmixed)))
    (sn : PySem.W.specialIn K (.builtin "object.__class__") "__get__" = some (some (.builtin "getset_descriptor.__get__")))
    (st : PySem.W.takesIn K (.builtin "object.__class__") = some true)
    (x_LeftError : PySem.W.excIn K k_LeftError [.type "ValueError", .type "Exception", .type "BaseException", .type "object"] "ValueError.__new__" = true)
    (x_BadRow : PySem.W.excIn K k_BadRow [.type "ValueError", .type "Exception", .type "BaseException", .type "object"] "ValueError.__new__" = true)
    (x_BadKinds : PySem.W.excIn K k_BadKinds [.type "ValueError", .type "Exception", .type "BaseException", .type "object"] "ValueError.__new__" = true)
    (x_BadMany : PySem.W.excIn K k_BadMany [.type "ValueError", .type "Exception", .type "BaseException", .type "object"] "ValueError.__new__" = true)
    (xga_BadRow : PySem.W.findIn K (.ref k_BadRow) "__getattribute__" = some (some (.builtin "BaseException.__getattribute__")))
    (xgn_BadRow : PySem.W.findIn K (.ref k_BadRow) "__getattr__" = some none)
    (xha_BadRow : PySem.W.findIn K (.ref k_BadRow) "__class__" = some (some (.builtin "object.__class__")))
    (xhm_BadRow : PySem.W.mroIn K k_BadRow (.type "object") = some true)
    (xhb_BadRow : PySem.W.subIn K (.ref k_BadRow) (.type "BaseException") = some true)
    (z_BadRow : PySem.W.subIn K (.ref k_BadRow) (.ref k_LeftError) = some true)
    (i_BadRow_BadRow : PySem.W.kitOne K (.ref k_BadRow) (.ref k_BadRow) = some true)
    (i_BadRow_BadKinds : PySem.W.kitOne K (.ref k_BadRow) (.ref k_BadKinds) = some false)
    (i_BadRow_BadMany : PySem.W.kitOne K (.ref k_BadRow) (.ref k_BadMany) = some false)
    (v_BadRow : PySem.W.kitOne K (.ref k_BadRow) (.type "ValueError") = some true)
    (xga_BadKinds : PySem.W.findIn K (.ref k_BadKinds) "__getattribute__" = some (some (.builtin "BaseException.__getattribute__")))
    (xgn_BadKinds : PySem.W.findIn K (.ref k_BadKinds) "__getattr__" = some none)
    (xha_BadKinds : PySem.W.findIn K (.ref k_BadKinds) "__class__" = some (some (.builtin "object.__class__")))
    (xhm_BadKinds : PySem.W.mroIn K k_BadKinds (.type "object") = some true)
    (xhb_BadKinds : PySem.W.subIn K (.ref k_BadKinds) (.type "BaseException") = some true)
    (z_BadKinds : PySem.W.subIn K (.ref k_BadKinds) (.ref k_LeftError) = some true)
    (i_BadKinds_BadRow : PySem.W.kitOne K (.ref k_BadKinds) (.ref k_BadRow) = some false)
    (i_BadKinds_BadKinds : PySem.W.kitOne K (.ref k_BadKinds) (.ref k_BadKinds) = some true)
    (i_BadKinds_BadMany : PySem.W.kitOne K (.ref k_BadKinds) (.ref k_BadMany) = some false)
    (v_BadKinds : PySem.W.kitOne K (.ref k_BadKinds) (.type "ValueError") = some true)
    (xga_BadMany : PySem.W.findIn K (.ref k_BadMany) "__getattribute__" = some (some (.builtin "BaseException.__getattribute__")))
    (xgn_BadMany : PySem.W.findIn K (.ref k_BadMany) "__getattr__" = some none)
    (xha_BadMany : PySem.W.findIn K (.ref k_BadMany) "__class__" = some (some (.builtin "object.__class__")))
    (xhm_BadMany : PySem.W.mroIn K k_BadMany (.type "object") = some true)
    (xhb_BadMany : PySem.W.subIn K (.ref k_BadMany) (.type "BaseException") = some true)
    (z_BadMany : PySem.W.subIn K (.ref k_BadMany) (.ref k_LeftError) = some true)
    (i_BadMany_BadRow : PySem.W.kitOne K (.ref k_BadMany) (.ref k_BadRow) = some false)
    (i_BadMany_BadKinds : PySem.W.kitOne K (.ref k_BadMany) (.ref k_BadKinds) = some false)
    (i_BadMany_BadMany : PySem.W.kitOne K (.ref k_BadMany) (.ref k_BadMany) = some true)
    (v_BadMany : PySem.W.kitOne K (.ref k_BadMany) (.type "ValueError") = some true)
    (zn_ValueError : PySem.W.nsIn K mainGlobals "ValueError" = some none)
    (a_is_whole : PySem.W.nsIn K mainGlobals "is_whole" = some (some (.ref f_is_whole)))
    (l_is_whole : K.lookup f_is_whole = some ⟨oc_is_whole, od_is_whole, .func (PySem.W.fnOf "is_whole" "is_whole" (defArgs s_is_whole) (defBody s_is_whole) (defScope s_is_whole) .none kV_is_whole dc_is_whole pm_is_whole an_is_whole cd_is_whole ct_is_whole), sl_is_whole⟩)
    (c_is_whole : PySem.W.codeIn K cd_is_whole "is_whole" = true)
    (h_is_whole : PySem.W.keepIn K (.ref f_is_whole) = true)
    (a_is_count : PySem.W.nsIn K mainGlobals "is_count" = some (some (.ref f_is_count)))
    (l_is_count : K.lookup f_is_count = some ⟨oc_is_count, od_is_count, .func (PySem.W.fnOf "is_count" "is_count" (defArgs s_is_count) (defBody s_is_count) (defScope s_is_count) .none kV_is_count dc_is_count pm_is_count an_is_count cd_is_count ct_is_count), sl_is_count⟩)
    (c_is_count : PySem.W.codeIn K cd_is_count "is_count" = true)
    (h_is_count : PySem.W.keepIn K (.ref f_is_count) = true)
    (a_is_row : PySem.W.nsIn K mainGlobals "is_row" = some (some (.ref f_is_row)))
    (l_is_row : K.lookup f_is_row = some ⟨oc_is_row, od_is_row, .func (PySem.W.fnOf "is_row" "is_row" (defArgs s_is_row) (defBody s_is_row) (defScope s_is_row) .none kV_is_row dc_is_row pm_is_row an_is_row cd_is_row ct_is_row), sl_is_row⟩)
    (c_is_row : PySem.W.codeIn K cd_is_row "is_row" = true)
    (h_is_row : PySem.W.keepIn K (.ref f_is_row) = true)
    (a_checked_row : PySem.W.nsIn K mainGlobals "checked_row" = some (some (.ref f_checked_row)))
    (l_checked_row : K.lookup f_checked_row = some ⟨oc_checked_row, od_checked_row, .func (PySem.W.fnOf "checked_row" "checked_row" (defArgs s_checked_row) (defBody s_checked_row) (defScope s_checked_row) .none kV_checked_row dc_checked_row pm_checked_row an_checked_row cd_checked_row ct_checked_row), sl_checked_row⟩)
    (c_checked_row : PySem.W.codeIn K cd_checked_row "checked_row" = true)
    (h_checked_row : PySem.W.keepIn K (.ref f_checked_row) = true)
    (a_left : PySem.W.nsIn K mainGlobals "left" = some (some (.ref f_left)))
    (l_left : K.lookup f_left = some ⟨oc_left, od_left, .func (PySem.W.fnOf "left" "left" (defArgs s_left) (defBody s_left) (defScope s_left) .none kV_left dc_left pm_left an_left cd_left ct_left), sl_left⟩)
    (c_left : PySem.W.codeIn K cd_left "left" = true)
    (h_left : PySem.W.keepIn K (.ref f_left) = true)
    (a_kin : PySem.W.nsIn K mainGlobals "kin" = some (some (.ref f_kin)))
    (l_kin : K.lookup f_kin = some ⟨oc_kin, od_kin, .func (PySem.W.fnOf "kin" "kin" (defArgs s_kin) (defBody s_kin) (defScope s_kin) .none kV_kin dc_kin pm_kin an_kin cd_kin ct_kin), sl_kin⟩)
    (c_kin : PySem.W.codeIn K cd_kin "kin" = true)
    (h_kin : PySem.W.keepIn K (.ref f_kin) = true)
    (a_longest : PySem.W.nsIn K mainGlobals "longest" = some (some (.ref f_longest)))
    (l_longest : K.lookup f_longest = some ⟨oc_longest, od_longest, .func (PySem.W.fnOf "longest" "longest" (defArgs s_longest) (defBody s_longest) (defScope s_longest) .none kV_longest dc_longest pm_longest an_longest cd_longest ct_longest), sl_longest⟩)
    (c_longest : PySem.W.codeIn K cd_longest "longest" = true)
    (h_longest : PySem.W.keepIn K (.ref f_longest) = true)
    (a_shortest : PySem.W.nsIn K mainGlobals "shortest" = some (some (.ref f_shortest)))
    (l_shortest : K.lookup f_shortest = some ⟨oc_shortest, od_shortest, .func (PySem.W.fnOf "shortest" "shortest" (defArgs s_shortest) (defBody s_shortest) (defScope s_shortest) .none kV_shortest dc_shortest pm_shortest an_shortest cd_shortest ct_shortest), sl_shortest⟩)
    (c_shortest : PySem.W.codeIn K cd_shortest "shortest" = true)
    (h_shortest : PySem.W.keepIn K (.ref f_shortest) = true)
    (a_ways : PySem.W.nsIn K mainGlobals "ways" = some (some (.ref f_ways)))
    (l_ways : K.lookup f_ways = some ⟨oc_ways, od_ways, .func (PySem.W.fnOf "ways" "ways" (defArgs s_ways) (defBody s_ways) (defScope s_ways) .none kV_ways dc_ways pm_ways an_ways cd_ways ct_ways), sl_ways⟩)
    (c_ways : PySem.W.codeIn K cd_ways "ways" = true)
    (h_ways : PySem.W.keepIn K (.ref f_ways) = true)
    (a_missing : PySem.W.nsIn K mainGlobals "missing" = some (some (.ref f_missing)))
    (l_missing : K.lookup f_missing = some ⟨oc_missing, od_missing, .func (PySem.W.fnOf "missing" "missing" (defArgs s_missing) (defBody s_missing) (defScope s_missing) .none kV_missing dc_missing pm_missing an_missing cd_missing ct_missing), sl_missing⟩)
    (c_missing : PySem.W.codeIn K cd_missing "missing" = true)
    (h_missing : PySem.W.keepIn K (.ref f_missing) = true)
    (a_least : PySem.W.nsIn K mainGlobals "least" = some (some (.ref f_least)))
    (l_least : K.lookup f_least = some ⟨oc_least, od_least, .func (PySem.W.fnOf "least" "least" (defArgs s_least) (defBody s_least) (defScope s_least) .none kV_least dc_least pm_least an_least cd_least ct_least), sl_least⟩)
    (c_least : PySem.W.codeIn K cd_least "least" = true)
    (h_least : PySem.W.keepIn K (.ref f_least) = true)
    (a_mixed : PySem.W.nsIn K mainGlobals "mixed" = some (some (.ref f_mixed)))
    (l_mixed : K.lookup f_mixed = some ⟨oc_mixed, od_mixed, .func (PySem.W.fnOf "mixed" "mixed" (defArgs s_mixed) (defBody s_mixed) (defScope s_mixed) .none kV_mixed dc_mixed pm_mixed an_mixed cd_mixed ct_mixed), sl_mixed⟩)
    (c_mixed : PySem.W.codeIn K cd_mixed "mixed" = true)
    (h_mixed : PySem.W.keepIn K (.ref f_mixed) = true)
    (a__law_mix : PySem.W.nsIn K mainGlobals "_law_mix" = some (some (.ref f__law_mix)))
    (l__law_mix : K.lookup f__law_mix = some ⟨oc__law_mix, od__law_mix, .func (PySem.W.fnOf "_law_mix" "_law_mix" (defArgs s__law_mix) (defBody s__law_mix) (defScope s__law_mix) .none kV__law_mix dc__law_mix pm__law_mix an__law_mix cd__law_mix ct__law_mix), sl__law_mix⟩)
    (c__law_mix : PySem.W.codeIn K cd__law_mix "_law_mix" = true)
    (h__law_mix : PySem.W.keepIn K (.ref f__law_mix) = true)
    (a__law_ask : PySem.W.nsIn K mainGlobals "_law_ask" = some (some (.ref f__law_ask)))
    (l__law_ask : K.lookup f__law_ask = some ⟨oc__law_ask, od__law_ask, .func (PySem.W.fnOf "_law_ask" "_law_ask" (defArgs s__law_ask) (defBody s__law_ask) (defScope s__law_ask) .none kV__law_ask dc__law_ask pm__law_ask an__law_ask cd__law_ask ct__law_ask), sl__law_ask⟩)
    (c__law_ask : PySem.W.codeIn K cd__law_ask "_law_ask" = true)
    (h__law_ask : PySem.W.keepIn K (.ref f__law_ask) = true)
    (a__law_due : PySem.W.nsIn K mainGlobals "_law_due" = some (some (.ref f__law_due)))
    (l__law_due : K.lookup f__law_due = some ⟨oc__law_due, od__law_due, .func (PySem.W.fnOf "_law_due" "_law_due" (defArgs s__law_due) (defBody s__law_due) (defScope s__law_due) .none kV__law_due dc__law_due pm__law_due an__law_due cd__law_due ct__law_due), sl__law_due⟩)
    (c__law_due : PySem.W.codeIn K cd__law_due "_law_due" = true)
    (h__law_due : PySem.W.keepIn K (.ref f__law_due) = true)
    (a__law_rows : PySem.W.nsIn K mainGlobals "_law_rows" = some (some (.ref f__law_rows)))
    (l__law_rows : K.lookup f__law_rows = some ⟨oc__law_rows, od__law_rows, .func (PySem.W.fnOf "_law_rows" "_law_rows" (defArgs s__law_rows) (defBody s__law_rows) (defScope s__law_rows) .none kV__law_rows dc__law_rows pm__law_rows an__law_rows cd__law_rows ct__law_rows), sl__law_rows⟩)
    (c__law_rows : PySem.W.codeIn K cd__law_rows "_law_rows" = true)
    (h__law_rows : PySem.W.keepIn K (.ref f__law_rows) = true)
    (a__law_kinds : PySem.W.nsIn K mainGlobals "_law_kinds" = some (some (.ref f__law_kinds)))
    (l__law_kinds : K.lookup f__law_kinds = some ⟨oc__law_kinds, od__law_kinds, .func (PySem.W.fnOf "_law_kinds" "_law_kinds" (defArgs s__law_kinds) (defBody s__law_kinds) (defScope s__law_kinds) .none kV__law_kinds dc__law_kinds pm__law_kinds an__law_kinds cd__law_kinds ct__law_kinds), sl__law_kinds⟩)
    (c__law_kinds : PySem.W.codeIn K cd__law_kinds "_law_kinds" = true)
    (h__law_kinds : PySem.W.keepIn K (.ref f__law_kinds) = true)
    (a__law_counts : PySem.W.nsIn K mainGlobals "_law_counts" = some (some (.ref f__law_counts)))
    (l__law_counts : K.lookup f__law_counts = some ⟨oc__law_counts, od__law_counts, .func (PySem.W.fnOf "_law_counts" "_law_counts" (defArgs s__law_counts) (defBody s__law_counts) (defScope s__law_counts) .none kV__law_counts dc__law_counts pm__law_counts an__law_counts cd__law_counts ct__law_counts), sl__law_counts⟩)
    (c__law_counts : PySem.W.codeIn K cd__law_counts "_law_counts" = true)
    (h__law_counts : PySem.W.keepIn K (.ref f__law_counts) = true)
    (a_law : PySem.W.nsIn K mainGlobals "law" = some (some (.ref f_law)))
    (l_law : K.lookup f_law = some ⟨oc_law, od_law, .func (PySem.W.fnOf "law" "law" (defArgs s_law) (defBody s_law) (defScope s_law) .none kV_law dc_law pm_law an_law cd_law ct_law), sl_law⟩)
    (c_law : PySem.W.codeIn K cd_law "law" = true)
    (h_law : PySem.W.keepIn K (.ref f_law) = true)
    (z_len : PySem.W.nsIn K mainGlobals "len" = some none)
    (z_zip : PySem.W.nsIn K mainGlobals "zip" = some none)
    (z_enumerate : PySem.W.nsIn K mainGlobals "enumerate" = some none)
    (z_range : PySem.W.nsIn K mainGlobals "range" = some none)
    (z_list : PySem.W.nsIn K mainGlobals "list" = some none)
    (z_int : PySem.W.nsIn K mainGlobals "int" = some none)
    (z_bool : PySem.W.nsIn K mainGlobals "bool" = some none)
    (z_tuple : PySem.W.nsIn K mainGlobals "tuple" = some none)
    (z_set : PySem.W.nsIn K mainGlobals "set" = some none)
    (z_all : PySem.W.nsIn K mainGlobals "all" = some none)
    (z_any : PySem.W.nsIn K mainGlobals "any" = some none)
    (z_sum : PySem.W.nsIn K mainGlobals "sum" = some none)
    (z_min : PySem.W.nsIn K mainGlobals "min" = some none)
    (z_max : PySem.W.nsIn K mainGlobals "max" = some none)
    (z_sorted : PySem.W.nsIn K mainGlobals "sorted" = some none)
    (z_isinstance : PySem.W.nsIn K mainGlobals "isinstance" = some none)
    (z_dict : PySem.W.nsIn K mainGlobals "dict" = some none)
    : ∃ fd : FuncData, (∀ (s : Shared) (v : Value), BindsTo s fd ⟨[v], []⟩ [(P_law.headD "", v)]) ∧ ∀ base : Heap, K.In base → base.Ns mainGlobals mg → FnOk l.prog w K mg base CX0 8 fa fd P_law (sp_law K) := by
  have e := hfa.symm.trans (PySem.W.mg_of X G a_law)
  cases e
  have T : Blt mg := ⟨PySem.W.mg_none_of X G z_len, PySem.W.mg_none_of X G z_zip, PySem.W.mg_none_of X G z_enumerate, PySem.W.mg_none_of X G z_range, PySem.W.mg_none_of X G z_list, PySem.W.mg_none_of X G z_int, PySem.W.mg_none_of X G z_bool, PySem.W.mg_none_of X G z_tuple, PySem.W.mg_none_of X G z_set, PySem.W.mg_none_of X G z_all, PySem.W.mg_none_of X G z_any, PySem.W.mg_none_of X G z_sum, PySem.W.mg_none_of X G z_min, PySem.W.mg_none_of X G z_max, PySem.W.mg_none_of X G z_sorted, PySem.W.mg_none_of X G z_isinstance, PySem.W.mg_none_of X G z_dict⟩
  have g_LeftError : mg "LeftError" = some (.ref k_LeftError) := PySem.W.mg_of X G aC_LeftError
  have g_BadRow : mg "BadRow" = some (.ref k_BadRow) := PySem.W.mg_of X G aC_BadRow
  have g_BadKinds : mg "BadKinds" = some (.ref k_BadKinds) := PySem.W.mg_of X G aC_BadKinds
  have g_BadMany : mg "BadMany" = some (.ref k_BadMany) := PySem.W.mg_of X G aC_BadMany
  have g_Answer : mg "Answer" = some (.ref k_Answer) := PySem.W.mg_of X G aC_Answer
  have g_Left : mg "Left" = some (.ref k_Left) := PySem.W.mg_of X G aC_Left
  have g_Short : mg "Short" = some (.ref k_Short) := PySem.W.mg_of X G aC_Short
  have g_Longest : mg "Longest" = some (.ref k_Longest) := PySem.W.mg_of X G aC_Longest
  have g_Both : mg "Both" = some (.ref k_Both) := PySem.W.mg_of X G aC_Both
  have g_Missing : mg "Missing" = some (.ref k_Missing) := PySem.W.mg_of X G aC_Missing
  have g_Mixed : mg "Mixed" = some (.ref k_Mixed) := PySem.W.mg_of X G aC_Mixed
  have g_Unmixed : mg "Unmixed" = some (.ref k_Unmixed) := PySem.W.mg_of X G aC_Unmixed
  have y_BadRow : ExcI K k_BadRow := ⟨x_BadRow, xga_BadRow, xgn_BadRow, xha_BadRow, sn, st, xhm_BadRow, xhb_BadRow⟩
  have y_BadKinds : ExcI K k_BadKinds := ⟨x_BadKinds, xga_BadKinds, xgn_BadKinds, xha_BadKinds, sn, st, xhm_BadKinds, xhb_BadKinds⟩
  have y_BadMany : ExcI K k_BadMany := ⟨x_BadMany, xga_BadMany, xgn_BadMany, xha_BadMany, sn, st, xhm_BadMany, xhb_BadMany⟩
  have z_ValueError : mg "ValueError" = none := PySem.W.mg_none_of X G zn_ValueError
  have F_is_whole := fun_mk (st := s_is_whole) l_is_whole c_is_whole h_is_whole
  have b_is_whole := F_is_whole.binds (ps := P_is_whole) fun _ _ _ _ _ _ us hl => match us, hl with | [_], _ => rfl
  have C_is_whole : Cal K mg "is_whole" f_is_whole _ P_is_whole := ⟨PySem.W.mg_of X G a_is_whole, h_is_whole, b_is_whole⟩
  have F_is_count := fun_mk (st := s_is_count) l_is_count c_is_count h_is_count
  have b_is_count := F_is_count.binds (ps := P_is_count) fun _ _ _ _ _ _ us hl => match us, hl with | [_, _], _ => rfl
  have C_is_count : Cal K mg "is_count" f_is_count _ P_is_count := ⟨PySem.W.mg_of X G a_is_count, h_is_count, b_is_count⟩
  have F_is_row := fun_mk (st := s_is_row) l_is_row c_is_row h_is_row
  have b_is_row := F_is_row.binds (ps := P_is_row) fun _ _ _ _ _ _ us hl => match us, hl with | [_], _ => rfl
  have C_is_row : Cal K mg "is_row" f_is_row _ P_is_row := ⟨PySem.W.mg_of X G a_is_row, h_is_row, b_is_row⟩
  have F_checked_row := fun_mk (st := s_checked_row) l_checked_row c_checked_row h_checked_row
  have b_checked_row := F_checked_row.binds (ps := P_checked_row) fun _ _ _ _ _ _ us hl => match us, hl with | [_], _ => rfl
  have C_checked_row : Cal K mg "checked_row" f_checked_row _ P_checked_row := ⟨PySem.W.mg_of X G a_checked_row, h_checked_row, b_checked_row⟩
  have F_left := fun_mk (st := s_left) l_left c_left h_left
  have b_left := F_left.binds (ps := P_left) fun _ _ _ _ _ _ us hl => match us, hl with | [_, _], _ => rfl
  have C_left : Cal K mg "left" f_left _ P_left := ⟨PySem.W.mg_of X G a_left, h_left, b_left⟩
  have F_kin := fun_mk (st := s_kin) l_kin c_kin h_kin
  have b_kin := F_kin.binds (ps := P_kin) fun _ _ _ _ _ _ us hl => match us, hl with | [_], _ => rfl
  have C_kin : Cal K mg "kin" f_kin _ P_kin := ⟨PySem.W.mg_of X G a_kin, h_kin, b_kin⟩
  have F_longest := fun_mk (st := s_longest) l_longest c_longest h_longest
  have b_longest := F_longest.binds (ps := P_longest) fun _ _ _ _ _ _ us hl => match us, hl with | [_, _], _ => rfl
  have C_longest : Cal K mg "longest" f_longest _ P_longest := ⟨PySem.W.mg_of X G a_longest, h_longest, b_longest⟩
  have F_shortest := fun_mk (st := s_shortest) l_shortest c_shortest h_shortest
  have b_shortest := F_shortest.binds (ps := P_shortest) fun _ _ _ _ _ _ us hl => match us, hl with | [_, _], _ => rfl
  have C_shortest : Cal K mg "shortest" f_shortest _ P_shortest := ⟨PySem.W.mg_of X G a_shortest, h_shortest, b_shortest⟩
  have F_ways := fun_mk (st := s_ways) l_ways c_ways h_ways
  have b_ways := F_ways.binds (ps := P_ways) fun _ _ _ _ _ _ us hl => match us, hl with | [_, _], _ => rfl
  have C_ways : Cal K mg "ways" f_ways _ P_ways := ⟨PySem.W.mg_of X G a_ways, h_ways, b_ways⟩
  have F_missing := fun_mk (st := s_missing) l_missing c_missing h_missing
  have b_missing := F_missing.binds (ps := P_missing) fun _ _ _ _ _ _ us hl => match us, hl with | [_, _], _ => rfl
  have C_missing : Cal K mg "missing" f_missing _ P_missing := ⟨PySem.W.mg_of X G a_missing, h_missing, b_missing⟩
  have F_least := fun_mk (st := s_least) l_least c_least h_least
  have b_least := F_least.binds (ps := P_least) fun _ _ _ _ _ _ us hl => match us, hl with | [_, _], _ => rfl
  have C_least : Cal K mg "least" f_least _ P_least := ⟨PySem.W.mg_of X G a_least, h_least, b_least⟩
  have F_mixed := fun_mk (st := s_mixed) l_mixed c_mixed h_mixed
  have b_mixed := F_mixed.binds (ps := P_mixed) fun _ _ _ _ _ _ us hl => match us, hl with | [_, _, _], _ => rfl
  have C_mixed : Cal K mg "mixed" f_mixed _ P_mixed := ⟨PySem.W.mg_of X G a_mixed, h_mixed, b_mixed⟩
  have F__law_mix := fun_mk (st := s__law_mix) l__law_mix c__law_mix h__law_mix
  have b__law_mix := F__law_mix.binds (ps := P__law_mix) fun _ _ _ _ _ _ us hl => match us, hl with | [_, _], _ => rfl
  have C__law_mix : Cal K mg "_law_mix" f__law_mix _ P__law_mix := ⟨PySem.W.mg_of X G a__law_mix, h__law_mix, b__law_mix⟩
  have F__law_ask := fun_mk (st := s__law_ask) l__law_ask c__law_ask h__law_ask
  have b__law_ask := F__law_ask.binds (ps := P__law_ask) fun _ _ _ _ _ _ us hl => match us, hl with | [_, _], _ => rfl
  have C__law_ask : Cal K mg "_law_ask" f__law_ask _ P__law_ask := ⟨PySem.W.mg_of X G a__law_ask, h__law_ask, b__law_ask⟩
  have F__law_due := fun_mk (st := s__law_due) l__law_due c__law_due h__law_due
  have b__law_due := F__law_due.binds (ps := P__law_due) fun _ _ _ _ _ _ us hl => match us, hl with | [_, _, _], _ => rfl
  have C__law_due : Cal K mg "_law_due" f__law_due _ P__law_due := ⟨PySem.W.mg_of X G a__law_due, h__law_due, b__law_due⟩
  have F__law_rows := fun_mk (st := s__law_rows) l__law_rows c__law_rows h__law_rows
  have b__law_rows := F__law_rows.binds (ps := P__law_rows) fun _ _ _ _ _ _ us hl => match us, hl with | [_], _ => rfl
  have C__law_rows : Cal K mg "_law_rows" f__law_rows _ P__law_rows := ⟨PySem.W.mg_of X G a__law_rows, h__law_rows, b__law_rows⟩
  have F__law_kinds := fun_mk (st := s__law_kinds) l__law_kinds c__law_kinds h__law_kinds
  have b__law_kinds := F__law_kinds.binds (ps := P__law_kinds) fun _ _ _ _ _ _ us hl => match us, hl with | [_], _ => rfl
  have C__law_kinds : Cal K mg "_law_kinds" f__law_kinds _ P__law_kinds := ⟨PySem.W.mg_of X G a__law_kinds, h__law_kinds, b__law_kinds⟩
  have F__law_counts := fun_mk (st := s__law_counts) l__law_counts c__law_counts h__law_counts
  have b__law_counts := F__law_counts.binds (ps := P__law_counts) fun _ _ _ _ _ _ us hl => match us, hl with | [_], _ => rfl
  have C__law_counts : Cal K mg "_law_counts" f__law_counts _ P__law_counts := ⟨PySem.W.mg_of X G a__law_counts, h__law_counts, b__law_counts⟩
  have F_law := fun_mk (st := s_law) l_law c_law h_law
  have b_law := F_law.binds (ps := P_law) fun _ _ _ _ _ _ us hl => match us, hl with | [_], _ => rfl
  refine ⟨PySem.W.fnOf "law" "law" (defArgs s_law) (defBody s_law) (defScope s_law) .none kV_law dc_law pm_law an_law cd_law ct_law, fun s v => .of_eq rfl, fun base _ _ => ?_⟩
  have G_is_whole := ok_is_whole (P := l.prog) (w := w) (base := base) (F := F_is_whole) (T := T)
  have G_is_count := ok_is_count (P := l.prog) (w := w) (base := base) (F := F_is_count) (T := T) (C_is_whole := C_is_whole) (G_is_whole := G_is_whole.mono (by decide))
  have G_is_row := ok_is_row (P := l.prog) (w := w) (base := base) (F := F_is_row) (T := T) (C_is_whole := C_is_whole) (G_is_whole := G_is_whole.mono (by decide))
  have G_checked_row := ok_checked_row (P := l.prog) (w := w) (base := base) (F := F_checked_row) (T := T) (C_is_row := C_is_row) (G_is_row := G_is_row.mono (by decide)) (x_BadRow := x_BadRow) (g_BadRow := g_BadRow)
  have G_left := ok_left (P := l.prog) (w := w) (base := base) (F := F_left) (T := T) (C_checked_row := C_checked_row) (G_checked_row := G_checked_row.mono (by decide))
  have G_kin := ok_kin (P := l.prog) (w := w) (base := base) (F := F_kin) (T := T) (C_checked_row := C_checked_row) (G_checked_row := G_checked_row.mono (by decide))
  have G_longest := ok_longest (P := l.prog) (w := w) (base := base) (F := F_longest) (T := T) (C_checked_row := C_checked_row) (G_checked_row := G_checked_row.mono (by decide))
  have G_shortest := ok_shortest (P := l.prog) (w := w) (base := base) (F := F_shortest) (T := T) (C_checked_row := C_checked_row) (G_checked_row := G_checked_row.mono (by decide))
  have G_ways := ok_ways (P := l.prog) (w := w) (base := base) (F := F_ways) (T := T) (C_checked_row := C_checked_row) (G_checked_row := G_checked_row.mono (by decide))
  have G_missing := ok_missing (P := l.prog) (w := w) (base := base) (F := F_missing) (T := T) (C_checked_row := C_checked_row) (G_checked_row := G_checked_row.mono (by decide)) (C_is_whole := C_is_whole) (G_is_whole := G_is_whole.mono (by decide)) (x_BadKinds := x_BadKinds) (g_BadKinds := g_BadKinds)
  have G_least := ok_least (P := l.prog) (w := w) (base := base) (F := F_least) (T := T) (C_checked_row := C_checked_row) (G_checked_row := G_checked_row.mono (by decide)) (C_is_count := C_is_count) (G_is_count := G_is_count.mono (by decide)) (x_BadMany := x_BadMany) (g_BadMany := g_BadMany)
  have G_mixed := ok_mixed (P := l.prog) (w := w) (base := base) (F := F_mixed) (T := T) (C_checked_row := C_checked_row) (G_checked_row := G_checked_row.mono (by decide)) (x_BadMany := x_BadMany) (g_BadMany := g_BadMany)
  have G__law_mix := ok__law_mix (P := l.prog) (w := w) (base := base) (F := F__law_mix) (T := T) (C_mixed := C_mixed) (G_mixed := G_mixed.mono (by decide))
  have G__law_ask := ok__law_ask (P := l.prog) (w := w) (base := base) (F := F__law_ask) (T := T) (C_left := C_left) (G_left := G_left.mono (by decide)) (C_longest := C_longest) (G_longest := G_longest.mono (by decide)) (C_shortest := C_shortest) (G_shortest := G_shortest.mono (by decide)) (C_ways := C_ways) (G_ways := G_ways.mono (by decide)) (C_kin := C_kin) (G_kin := G_kin.mono (by decide)) (C_missing := C_missing) (G_missing := G_missing.mono (by decide)) (C_least := C_least) (G_least := G_least.mono (by decide)) (C_mixed := C_mixed) (G_mixed := G_mixed.mono (by decide)) (C__law_mix := C__law_mix) (G__law_mix := G__law_mix.mono (by decide))
  have G__law_due := ok__law_due (P := l.prog) (w := w) (base := base) (F := F__law_due) (T := T) (C__law_ask := C__law_ask) (G__law_ask := G__law_ask.mono (by decide)) (g_LeftError := g_LeftError) (g_BadRow := g_BadRow) (g_BadKinds := g_BadKinds) (g_BadMany := g_BadMany) (z_ValueError := z_ValueError) (x_LeftError := x_LeftError) (y_BadRow := y_BadRow) (y_BadKinds := y_BadKinds) (y_BadMany := y_BadMany) (z_BadRow := z_BadRow) (z_BadKinds := z_BadKinds) (z_BadMany := z_BadMany) (i_BadRow_BadRow := i_BadRow_BadRow) (i_BadRow_BadKinds := i_BadRow_BadKinds) (i_BadRow_BadMany := i_BadRow_BadMany) (i_BadKinds_BadRow := i_BadKinds_BadRow) (i_BadKinds_BadKinds := i_BadKinds_BadKinds) (i_BadKinds_BadMany := i_BadKinds_BadMany) (i_BadMany_BadRow := i_BadMany_BadRow) (i_BadMany_BadKinds := i_BadMany_BadKinds) (i_BadMany_BadMany := i_BadMany_BadMany) (v_BadRow := v_BadRow) (v_BadKinds := v_BadKinds) (v_BadMany := v_BadMany)
  have G__law_rows := ok__law_rows (P := l.prog) (w := w) (base := base) (F := F__law_rows) (T := T)
  have G__law_kinds := ok__law_kinds (P := l.prog) (w := w) (base := base) (F := F__law_kinds) (T := T)
  have G__law_counts := ok__law_counts (P := l.prog) (w := w) (base := base) (F := F__law_counts) (T := T)
  exact ok_law (P := l.prog) (w := w) (base := base) (F := F_law) (T := T) (C__law_due := C__law_due) (G__law_due := G__law_due.mono (by decide)) (C__law_rows := C__law_rows) (G__law_rows := G__law_rows.mono (by decide)) (C__law_kinds := C__law_kinds) (G__law_kinds := G__law_kinds.mono (by decide)) (C__law_counts := C__law_counts) (G__law_counts := G__law_counts.mono (by decide))
theorem walk {l : PySem.W.OpenLaw} {q : Program} {loose : List Str} {XP : (Str → Option Value) → Heap → Prop} {YP : World → Heap → Prop} {d : DefRec} {K : Params → PySem.W.Frag} (hn : l.most = some 63) (hdf : d.params.defaults = [])
    (hY : ∀ (w : World) (h : Heap), YP w h → (K w.params).In h)
    (F : ∀ (w : World) (mg : Str → Option Value) (fa : Addr) (h : Heap), (K w.params).In h → h.Ns mainGlobals mg → mg d.name = some (.ref fa) →
      ∃ fd : FuncData, (∀ (s : Shared) (u : Value), BindsTo s fd ⟨[u], []⟩ [(P_law.headD "", u)]) ∧ ∀ base : Heap, (K w.params).In base → base.Ns mainGlobals mg → FnOk l.prog w (K w.params) mg base CX0 8 fa fd P_law (sp_law (K w.params))) :
    PySem.W.WalkO q loose XP YP l.row.toRowW d [] (fun f vs => PySem.call f vs) :=
  L2.walk_of (n := 63) (k := 8) (x := P_law.headD "") (CX := fun _ => CX0) (sp := fun w => sp_law (K w.params)) hn (by decide) hdf ⟨rfl, by decide, by decide⟩ hY F (fun _ _ a ns hl _ hS => ⟨a, ns, rfl, hS, hl, fun _ => rfl⟩) fun _ _ _ _ _ z => z
end My
open PySem PySem.W PyProof.Rows
theorem PySem.W.Fast.tw17545407315881421116 : True := trivial
theorem PySem.W.Fast.tw5505702598946004571 : True := trivial
theorem PySem.W.Fast.tw4425064025898530371 : True := trivial
theorem PySem.W.Fast.tw3831685311637156498 : True := trivial
theorem PySem.W.Fast.tw9683011228269212253 : True := trivial
theorem PySem.W.Fast.tw5809723038265743876 : True := trivial
theorem PySem.W.Fast.tw7159323060907550326 : True := trivial
theorem PySem.W.Fast.tw630618064309652966 : True := trivial
theorem PySem.W.Fast.tw15747862496753406582 : True := trivial
theorem PySem.W.Fast.tw1367486263045640165 : True := trivial
theorem PySem.W.Fast.tw18423238133296185732 : True := trivial
theorem PySem.W.Fast.tw1811026347765032146 : True := trivial
theorem PySem.W.Fast.tw14131758970113831649 : True := trivial
theorem PySem.W.Fast.tw17887728389489690655 : True := trivial
theorem PySem.W.Fast.tw9383272397337026743 : True := trivial
set_option maxRecDepth 100000 in
set_option maxHeartbeats 0 in
theorem PySem.Challenge.cw_leftin_k08_refused_holds : PySem.Challenge.rw_leftin_k08_refused.Holds := by
  w_on; o_law; k_head; (case hw => w_witness2)
  k_fill
  refine My.walk (l := PySem.Challenge.rw_leftin_k08_refused) rfl rfl (fun w h Y => PySem.W.kIn_of Y) ?F
  case F =>
    intro w mg fa h KX G hmg
    refine' My.all_mk KX G hmg ?aC_LeftError ?aC_BadRow ?aC_BadKinds ?aC_BadMany ?aC_Answer ?aC_Left ?aC_Short ?aC_Longest ?aC_Both ?aC_Missing ?aC_Mixed ?aC_Unmixed ?sn ?st ?x_LeftError ?x_BadRow ?x_BadKinds ?x_BadMany ?xga_BadRow ?xgn_BadRow ?xha_BadRow ?xhm_BadRow ?xhb_BadRow ?z_BadRow ?i_BadRow_BadRow ?i_BadRow_BadKinds ?i_BadRow_BadMany ?v_BadRow ?xga_BadKinds ?xgn_BadKinds ?xha_BadKinds ?xhm_BadKinds ?xhb_BadKinds ?z_BadKinds ?i_BadKinds_BadRow ?i_BadKinds_BadKinds ?i_BadKinds_BadMany ?v_BadKinds ?xga_BadMany ?xgn_BadMany ?xha_BadMany ?xhm_BadMany ?xhb_BadMany ?z_BadMany ?i_BadMany_BadRow ?i_BadMany_BadKinds ?i_BadMany_BadMany ?v_BadMany ?zn_ValueError ?a_is_whole ?l_is_whole ?c_is_whole ?h_is_whole ?a_is_count ?l_is_count ?c_is_count ?h_is_count ?a_is_row ?l_is_row ?c_is_row ?h_is_row ?a_checked_row ?l_checked_row ?c_checked_row ?h_checked_row ?a_left ?l_left ?c_left ?h_left ?a_kin ?l_kin ?c_kin ?h_kin ?a_longest ?l_longest ?c_longest ?h_longest ?a_shortest ?l_shortest ?c_shortest ?h_shortest ?a_ways ?l_ways ?c_ways ?h_ways ?a_missing ?l_missing ?c_missing ?h_missing ?a_least ?l_least ?c_least ?h_least ?a_mixed ?l_mixed ?c_mixed ?h_mixed ?a__law_mix ?l__law_mix ?c__law_mix ?h__law_mix ?a__law_ask ?l__law_ask ?c__law_ask ?h__law_ask ?a__law_due ?l__law_due ?c__law_due ?h__law_due ?a__law_rows ?l__law_rows ?c__law_rows ?h__law_rows ?a__law_kinds ?l__law_kinds ?c__law_kinds ?h__law_kinds ?a__law_counts ?l__law_counts ?c__law_counts ?h__law_counts ?a_law ?l_law ?c_law ?h_law ?z_len ?z_zip ?z_enumerate ?z_range ?z_list ?z_int ?z_bool ?z_tuple ?z_set ?z_all ?z_any ?z_sum ?z_min ?z_max ?z_sorted ?z_isinstance ?z_dict
    (case aC_LeftError => k_is)
    (case aC_BadRow => k_is)
    (case aC_BadKinds => k_is)
    (case aC_BadMany => k_is)
    (case aC_Answer => k_is)
    (case aC_Left => k_is)
    (case aC_Short => k_is)
    (case aC_Longest => k_is)
    (case aC_Both => k_is)
    (case aC_Missing => k_is)
    (case aC_Mixed => k_is)
    (case aC_Unmixed => k_is)
    (case sn => k_is)
    (case st => k_is)
    (case x_LeftError => kernel_rfl)
    (case x_BadRow => kernel_rfl)
    (case x_BadKinds => kernel_rfl)
    (case x_BadMany => kernel_rfl)
    (case xga_BadRow => k_is)
    (case xgn_BadRow => k_is)
    (case xha_BadRow => k_is)
    (case xhm_BadRow => k_is)
    (case xhb_BadRow => k_is)
    (case z_BadRow => k_is)
    (case i_BadRow_BadRow => kit_is)
    (case i_BadRow_BadKinds => kit_is)
    (case i_BadRow_BadMany => kit_is)
    (case v_BadRow => kit_is)
    (case xga_BadKinds => k_is)
    (case xgn_BadKinds => k_is)
    (case xha_BadKinds => k_is)
    (case xhm_BadKinds => k_is)
    (case xhb_BadKinds => k_is)
    (case z_BadKinds => k_is)
    (case i_BadKinds_BadRow => kit_is)
    (case i_BadKinds_BadKinds => kit_is)
    (case i_BadKinds_BadMany => kit_is)
    (case v_BadKinds => kit_is)
    (case xga_BadMany => k_is)
    (case xgn_BadMany => k_is)
    (case xha_BadMany => k_is)
    (case xhm_BadMany => k_is)
    (case xhb_BadMany => k_is)
    (case z_BadMany => k_is)
    (case i_BadMany_BadRow => kit_is)
    (case i_BadMany_BadKinds => kit_is)
    (case i_BadMany_BadMany => kit_is)
    (case v_BadMany => kit_is)
    (case zn_ValueError => k_is)
    (case a_is_whole => k_is)
    (case l_is_whole => k_is)
    (case c_is_whole => k_is)
    (case h_is_whole => k_is)
    (case a_is_count => k_is)
    (case l_is_count => k_is)
    (case c_is_count => k_is)
    (case h_is_count => k_is)
    (case a_is_row => k_is)
    (case l_is_row => k_is)
    (case c_is_row => k_is)
    (case h_is_row => k_is)
    (case a_checked_row => k_is)
    (case l_checked_row => k_is)
    (case c_checked_row => k_is)
    (case h_checked_row => k_is)
    (case a_left => k_is)
    (case l_left => k_is)
    (case c_left => k_is)
    (case h_left => k_is)
    (case a_kin => k_is)
    (case l_kin => k_is)
    (case c_kin => k_is)
    (case h_kin => k_is)
    (case a_longest => k_is)
    (case l_longest => k_is)
    (case c_longest => k_is)
    (case h_longest => k_is)
    (case a_shortest => k_is)
    (case l_shortest => k_is)
    (case c_shortest => k_is)
    (case h_shortest => k_is)
    (case a_ways => k_is)
    (case l_ways => k_is)
    (case c_ways => k_is)
    (case h_ways => k_is)
    (case a_missing => k_is)
    (case l_missing => k_is)
    (case c_missing => k_is)
    (case h_missing => k_is)
    (case a_least => k_is)
    (case l_least => k_is)
    (case c_least => k_is)
    (case h_least => k_is)
    (case a_mixed => k_is)
    (case l_mixed => k_is)
    (case c_mixed => k_is)
    (case h_mixed => k_is)
    (case a__law_mix => k_is)
    (case l__law_mix => k_is)
    (case c__law_mix => k_is)
    (case h__law_mix => k_is)
    (case a__law_ask => k_is)
    (case l__law_ask => k_is)
    (case c__law_ask => k_is)
    (case h__law_ask => k_is)
    (case a__law_due => k_is)
    (case l__law_due => k_is)
    (case c__law_due => k_is)
    (case h__law_due => k_is)
    (case a__law_rows => k_is)
    (case l__law_rows => k_is)
    (case c__law_rows => k_is)
    (case h__law_rows => k_is)
    (case a__law_kinds => k_is)
    (case l__law_kinds => k_is)
    (case c__law_kinds => k_is)
    (case h__law_kinds => k_is)
    (case a__law_counts => k_is)
    (case l__law_counts => k_is)
    (case c__law_counts => k_is)
    (case h__law_counts => k_is)
    (case a_law => k_is)
    (case l_law => k_is)
    (case c_law => k_is)
    (case h_law => k_is)
    (case z_len => k_is)
    (case z_zip => k_is)
    (case z_enumerate => k_is)
    (case z_range => k_is)
    (case z_list => k_is)
    (case z_int => k_is)
    (case z_bool => k_is)
    (case z_tuple => k_is)
    (case z_set => k_is)
    (case z_all => k_is)
    (case z_any => k_is)
    (case z_sum => k_is)
    (case z_min => k_is)
    (case z_max => k_is)
    (case z_sorted => k_is)
    (case z_isinstance => k_is)
    (case z_dict => k_is)
