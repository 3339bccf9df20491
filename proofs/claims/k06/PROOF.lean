import PyProof.Rows.All
import Wide.All
import OpenK.AllK
import Wide.FinOn
import Lean
import PyProof.EqAt
import PyProof.EqKinds
import PyProof.TupleCall
import PyProof.NeKinds
import PyProof.ListRange
import OpenK.KOwn
import KE.KTryMore
import KE.KSorted
import KE.KSort
import PyProof.Rows.SortWalk
import PyProof.SeqI3
import PyProof.Rows.SumAny
import PyProof.Rows.SeqMore2
import KE.KListMore
import PyProof.Rows.Range3
import PyProof.Cells
import KE.KTabLook
import PyProof.SliceStr2
import PyProof.StrBlockI
import PyProof.Rows.FStr
import PyProof.Rows.StrNews2
import PyProof.ListStr
import PyProof.Rows.StrStep
import PyProof.Rows.StrJoinStr
import PyProof.StrLawsTight
import PyProof.StrLawsChain
import PyProof.StrLawsFirst
import PyProof.StrLawsIn
import PyProof.StrLawsIdx
import PyProof.StrLawsNeg
import PySem.Challenge.RW_braidcomb_k06_texts_refused
set_option Elab.async false
set_option linter.all false
set_option maxRecDepth 100000
/-! THE HAND LAYER, for ints, bools, texts, own classes, LISTS and tuples (index, slices, in, append, pop ..), calls, loops. Paste it whole ahead of your own text; what your proof does not reach may be deleted. -/
namespace L2
open PySem PySem.Spec PyProof.Rows

abbrev Key := Sum Int Str
def keyIs : Key → Value → Bool
  | .inl k, v => Value.isInt k v
  | .inr x, v => Value.isStrOf x v
def keyH (w : World) : Key → Int
  | .inl k => hashInt k
  | .inr x => hashStr w x
theorem keyIs_shape : ∀ {k : Key} {v : Value}, keyIs k v = true → (∃ i t, k = Sum.inl i ∧ v = Value.int i t) ∨ (∃ x t, k = Sum.inr x ∧ v = Value.str x t)
  | .inl i, v, h => by
    obtain ⟨t, e⟩ := Value.isInt_shape (k := i) (v := v) h
    exact .inl ⟨i, t, rfl, e⟩
  | .inr x, v, h => by
    obtain ⟨t, e⟩ := Value.isStrOf_shape (x := x) (v := v) h
    exact .inr ⟨x, t, rfl, e⟩
theorem key_ll (a b : Int) : decide ((Sum.inl a : Key) = Sum.inl b) = (a == b) := by
  by_cases e : a = b
  · subst e; simp
  · have h : ¬ (Sum.inl a : Key) = Sum.inl b := fun q => e (Sum.inl.inj q)
    rw [decide_eq_false h]
    exact (beq_eq_false_iff_ne.mpr e).symm
theorem key_rr (a b : Str) : decide ((Sum.inr a : Key) = Sum.inr b) = decide (a = b) := by
  by_cases e : a = b
  · subst e; simp
  · have h : ¬ (Sum.inr a : Key) = Sum.inr b := fun q => e (Sum.inr.inj q)
    rw [decide_eq_false h, decide_eq_false e]
theorem key_lr (a : Int) (b : Str) : decide ((Sum.inl a : Key) = Sum.inr b) = false := decide_eq_false (fun q => nomatch q)
theorem key_rl (a : Str) (b : Int) : decide ((Sum.inr a : Key) = Sum.inl b) = false := decide_eq_false (fun q => nomatch q)

def mixKind (prog : Program) (w : World) : PySem.KeyKind prog w Key where
  is := keyIs
  hash := keyH w
  inj := fun v a b ha hb => by
    rcases keyIs_shape ha with ⟨i, t, rfl, rfl⟩ | ⟨x, t, rfl, rfl⟩
    · rcases keyIs_shape hb with ⟨j, u, rfl, e⟩ | ⟨y, u, rfl, e⟩
      · injection e with e1 _; rw [e1]
      · exact nomatch e
    · rcases keyIs_shape hb with ⟨j, u, rfl, e⟩ | ⟨y, u, rfl, e⟩
      · exact nomatch e
      · injection e with e1 _; rw [e1]
  byValue := fun k v h => by
    rcases keyIs_shape h with ⟨i, t, rfl, rfl⟩ | ⟨x, t, rfl, rfl⟩ <;> rfl
  pyHash := fun hv h => by
    rcases keyIs_shape hv with ⟨i, t, rfl, rfl⟩ | ⟨x, t, rfl, rfl⟩
    · exact wpAny_pyHash_int h
    · exact wpAny_pyHash_str h
  eqBool := fun hu hv h => by
    rcases keyIs_shape hu with ⟨i, t, rfl, rfl⟩ | ⟨x, t, rfl, rfl⟩
    · rcases keyIs_shape hv with ⟨j, u, rfl, rfl⟩ | ⟨y, u, rfl, rfl⟩
      · rw [key_ll] at h; exact wpAny_eqBool_int h
      · rw [key_lr] at h; exact SeqAt.EqAt.int_str i t y u _ _ _ _ h
    · rcases keyIs_shape hv with ⟨j, u, rfl, rfl⟩ | ⟨y, u, rfl, rfl⟩
      · rw [key_rl] at h; exact SeqAt.EqAt.str_int x t j u _ _ _ _ h
      · rw [key_rr] at h; exact wpAny_eqBool_str h
  «strs» := fun k x t v h => by
    rcases keyIs_shape h with ⟨i, u, rfl, e⟩ | ⟨y, u, rfl, e⟩
    · exact nomatch e
    · injection e with e1 _
      subst e1
      cases v <;> rfl

end L2

namespace L2
open PySem PySem.Spec PyProof.Rows

inductive V where
  | non | bl (b : Bool) | int (i : Int) | str (x : Str) | byt (b : Array UInt8) | flt (b : UInt64) | ref (a : Addr) | ty (n : String)
  deriving DecidableEq

def RelV : V → Value → Prop
  | .non, u => u = Value.none
  | .bl b, u => u = Value.bool b
  | .int i, u => ∃ t, u = Value.int i t
  | .str x, u => ∃ t, u = Value.str x t
  | .byt b, u => ∃ t, u = Value.bytes b t
  | .flt b, u => ∃ t, u = Value.float b t
  | .ref a, u => u = Value.ref a
  | .ty n, u => u = Value.type n

abbrev Vals : List V → List Value → Prop := Paired RelV
theorem Vals.length {xs : List V} {us : List Value} (r : Vals xs us) : xs.length = us.length := Paired.length r
theorem Vals.get : ∀ {xs : List V} {us : List Value} {i : Nat} {x : V}, Vals xs us → xs[i]? = some x → ∃ u, us[i]? = some u ∧ RelV x u
  | _, _, _, _, .nil, e => by simp at e
  | _, _, 0, _, .cons r _, e => by simp at e; subst e; exact ⟨_, rfl, r⟩
  | _, _, i + 1, x, .cons _ t, e => by
    obtain ⟨u, h1, h2⟩ := Vals.get (i := i) (x := x) t (by simpa using e)
    exact ⟨u, by simpa using h1, h2⟩
theorem Vals.set {x : V} {u : Value} (r : RelV x u) : ∀ {xs : List V} {us : List Value} (i : Nat), Vals xs us → Vals (xs.set i x) (us.set i u)
  | _, _, _, .nil => .nil
  | _, _, 0, .cons _ t => .cons r t
  | _, _, i + 1, .cons q t => .cons q (Vals.set r i t)
theorem Vals.append : ∀ {xs ys : List V} {us ws : List Value}, Vals xs us → Vals ys ws → Vals (xs ++ ys) (us ++ ws)
  | _, _, _, _, .nil, s => s
  | _, _, _, _, .cons r t, s => .cons r (Vals.append t s)
theorem Vals.take : ∀ {xs : List V} {us : List Value} (n : Nat), Vals xs us → Vals (xs.take n) (us.take n)
  | _, _, 0, _ => .nil
  | _, _, _ + 1, .nil => .nil
  | _, _, n + 1, .cons r t => .cons r (Vals.take n t)
theorem Vals.drop : ∀ {xs : List V} {us : List Value} (n : Nat), Vals xs us → Vals (xs.drop n) (us.drop n)
  | _, _, 0, r => r
  | _, _, _ + 1, .nil => .nil
  | _, _, n + 1, .cons _ t => Vals.drop n t
def RelO : Option V → Option Value → Prop
  | some v, some u => RelV v u
  | none, none => True
  | _, _ => False
def KV {κ : Type} : List (κ × V) → List (κ × Value) → Prop := Paired fun (p : κ × V) (q : κ × Value) => p.1 = q.1 ∧ RelV p.2 q.2

def kV : Key → V
  | .inl i => .int i
  | .inr x => .str x

inductive HO where
  /-- a list -/
  | lst (xs : List V)
  /-- a tuple (never changes) -/
  | tup (xs : List V)
  /-- a dict whose keys are ints and texts; one whose keys are tuples of ints and texts (the empty one is both) -/
  | dK (kvs : List (Key × V)) | dT (kvs : List (List Key × V))
  /-- a set of ints: its members, its size -/
  | set (S : Int → Bool) (n : Nat)
  /-- an instance of the class at C, its dict at dx, its attributes -/
  | ins (C dx : Addr) (fs : List (Str × V))
  /-- the dict of the instance at x -/
  | own (x : Addr)
  /-- the dict of an exception -/
  | xd (fs : List (Str × V))
  /-- a bound method, f of x -/
  | met (f x : Addr)
  /-- a range object lo, lo + 1, .. below hi -/
  | rng (lo hi : Int)
  /-- a thing that is known to the object (the script; a dict while a loop walks it): read, never written while it is so -/
  | frz (o : Obj) (u : HO)
  /-- a code object's table -/
  | tbl (ps : Array Value)
  /-- any other thing, by what is true of its one object (a def of one's own: SetO a S n := HO.ext fun h => ..) -/
  | ext (φ : Heap → Prop)

abbrev Hp := Addr → Option HO
def upd (H : Hp) (a : Addr) (o : HO) : Hp := fun b => if b = a then some o else H b
theorem upd_same {H : Hp} {a : Addr} {o : HO} : upd H a o a = some o := by unfold upd; rw [if_pos rfl]
theorem upd_ne {H : Hp} {a b : Addr} {o : HO} (h : b ≠ a) : upd H a o b = H b := by unfold upd; rw [if_neg h]
theorem ne_of {H : Hp} {a b : Addr} {o u : HO} (h : H a = some o) (h' : H b = some u) (d : o ≠ u) : a ≠ b := by
  intro e; subst e; rw [h] at h'; exact d (Option.some.inj h')
theorem ne_of_none {H : Hp} {a b : Addr} {o : HO} (h : H a = some o) (h' : H b = none) : a ≠ b := by
  intro e; subst e; rw [h] at h'; cases h'

section
variable (P : Program) (w : World)
def ObjOk (H : Hp) (h : Heap) (a : Addr) : HO → Prop
  | .lst xs => xs.length ≤ sizeLine ∧ ∃ (its : List Value) (n : Nat), Vals xs its ∧ h.get? a = some { cls := .type "list", data := .seq its.toArray n }
  | .tup xs => xs.length ≤ sizeLine ∧ ∃ its : List Value, Vals xs its ∧ IsTup h a its.toArray
  | .dK kvs => kvs.length ≤ sizeLine ∧ (a == sysModules) = false ∧ ∃ vs, KV kvs vs ∧ h.DictOf (mixKind P w) a vs
  | .dT kvs => kvs.length ≤ sizeLine ∧ (a == sysModules) = false ∧ ∃ xs : List (List Key × Addr × Value),
      Paired (fun (p : List Key × V) (q : List Key × Addr × Value) => p.1 = q.1 ∧ H q.2.1 = some (.tup (p.1.map kV)) ∧ RelV p.2 q.2.2) kvs xs ∧
      ∃ o es ep, h.get? a = some o ∧ o.ExactDict ∧ o.data = .dict es ep ∧ es.toList = xs.map (entryOfKey (tupleKind (mixKind P w))) ∧ (xs.map (·.1)).Nodup
  | .set S n => h.SetOf (intKind P w) a S n
  | .ins C dx fs => H dx = some (.own a) ∧ fs.length ≤ 1000 ∧ dx ≠ a ∧ h.get? a = some (PySem.W.instObj C dx) ∧
      ∃ mA, h.Ns1 dx mA ∧ (∀ f, RelO (fs.lookup f) (mA f)) ∧ PySem.Within mA (fs.map (·.1))
  | .own _ => ∃ o, h.get? a = some o
  | .xd fs => ∃ mA, h.Ns1 a mA ∧ ∀ f, RelO (fs.lookup f) (mA f)
  | .rng lo hi => ∃ t u v, h.get? a = some { cls := .type "range", data := .fields #[.int lo t, .int hi u, .int 1 v] }
  | .frz o u => h.get? a = some o ∧ ObjOk H h a u
  | .tbl ps => h.get? a = some { cls := .none, data := .fields ps }
  | .met f x => h.get? a = some (PySem.W.methodObj (.ref f) (.ref x))
  | .ext φ => φ h ∧ (∃ o, h.get? a = some o) ∧ ∀ h1 h2 : Heap, φ h1 → (∀ o, h1.get? a = some o → h2.get? a = some o) → φ h2
def HOk (H : Hp) (h : Heap) : Prop := ∀ a o, H a = some o → ObjOk P w H h a o
end

section
variable {P : Program} {w : World} {H H' : Hp} {h h' : Heap} {a : Addr} {o : HO}
theorem ObjOk.lt (x : ObjOk P w H h a o) : a < h.objs.size := by
  cases o with
  | lst xs => obtain ⟨_, _, _, _, e⟩ := x; exact Heap.lt_size e
  | tup xs => obtain ⟨_, _, _, p⟩ := x; exact p.lt
  | dK kvs => obtain ⟨_, _, _, _, o, _, _, e, _⟩ := x; exact Heap.lt_size e
  | dT kvs => obtain ⟨_, _, _, _, o, _, _, e, _⟩ := x; exact Heap.lt_size e
  | set S n => obtain ⟨o, _, _, _, e, _⟩ := x; exact Heap.lt_size e
  | ins C dx fs => obtain ⟨_, _, _, e, _⟩ := x; exact Heap.lt_size e
  | own y => obtain ⟨_, e⟩ := x; exact Heap.lt_size e
  | xd fs => obtain ⟨_, ⟨_, _, _, e, _⟩, _⟩ := x; exact Heap.lt_size e
  | rng lo hi => obtain ⟨_, _, _, e⟩ := x; exact Heap.lt_size e
  | frz ob u => obtain ⟨e, _⟩ := x; exact Heap.lt_size e
  | tbl ps => exact Heap.lt_size (show h.get? a = some _ from x)
  | met f y => exact Heap.lt_size (show h.get? a = some _ from x)
  | ext φ => obtain ⟨_, ⟨_, e⟩, _⟩ := x; exact Heap.lt_size e
theorem Paired.mapP {α β : Type} {F G : α → β → Prop} : ∀ {l₁ : List α} {l₂ : List β}, Paired F l₁ l₂ → (∀ a b, F a b → G a b) → Paired G l₁ l₂
  | _, _, .nil, _ => .nil
  | _, _, .cons r t, f => .cons (f _ _ r) (Paired.mapP t f)
theorem ObjOk.stay (x : ObjOk P w H h a o) (k : ∀ b u, (b = a ∨ H b = some (.own a)) → h.get? b = some u → h'.get? b = some u)
    (ho : ∀ b, H b = some (.own a) → H' b = some (.own a)) (ht : ∀ b xs, H b = some (.tup xs) → H' b = some (.tup xs)) : ObjOk P w H' h' a o := by
  induction o with
  | lst xs => obtain ⟨z, its, n, r, e⟩ := x; exact ⟨z, its, n, r, k _ _ (.inl rfl) e⟩
  | tup xs => obtain ⟨z, its, r, ob, e, c⟩ := x; exact ⟨z, its, r, ob, k _ _ (.inl rfl) e, c⟩
  | dK kvs => obtain ⟨z, y, vs, r, ob, es, ep, e, c⟩ := x; exact ⟨z, y, vs, r, ob, es, ep, k _ _ (.inl rfl) e, c⟩
  | dT kvs =>
    obtain ⟨z, y, xs, r, ob, es, ep, e, c⟩ := x
    exact ⟨z, y, xs, Paired.mapP r fun p q z => ⟨z.1, ht _ _ z.2.1, z.2.2⟩, ob, es, ep, k _ _ (.inl rfl) e, c⟩
  | set S n => obtain ⟨ob, es, ep, t, e, c⟩ := x; exact ⟨ob, es, ep, t, k _ _ (.inl rfl) e, c⟩
  | ins C dx fs =>
    obtain ⟨d, z, ne, e, mA, ⟨od, es, ep, e2, c⟩, r⟩ := x
    exact ⟨ho _ d, z, ne, k _ _ (.inl rfl) e, mA, ⟨od, es, ep, k _ _ (.inr d) e2, c⟩, r⟩
  | own y => obtain ⟨ob, e⟩ := x; exact ⟨ob, k _ _ (.inl rfl) e⟩
  | xd fs => obtain ⟨mA, ⟨od, es, ep, e, c⟩, r⟩ := x; exact ⟨mA, ⟨od, es, ep, k _ _ (.inl rfl) e, c⟩, r⟩
  | rng lo hi => obtain ⟨t, u, v, e⟩ := x; exact ⟨t, u, v, k _ _ (.inl rfl) e⟩
  | frz ob u ih => obtain ⟨e, q⟩ := x; exact ⟨k _ _ (.inl rfl) e, ih q⟩
  | tbl ps =>
    have e : h.get? a = some { cls := .none, data := .fields ps } := x
    show h'.get? a = some { cls := .none, data := .fields ps }
    exact k a _ (.inl rfl) e
  | met f y =>
    have e : h.get? a = some (PySem.W.methodObj (.ref f) (.ref y)) := x
    show h'.get? a = some (PySem.W.methodObj (.ref f) (.ref y))
    exact k a _ (.inl rfl) e
  | ext φ => obtain ⟨p, ⟨o, e⟩, st⟩ := x; exact ⟨st _ _ p fun o q => k _ _ (.inl rfl) q, ⟨o, k _ _ (.inl rfl) e⟩, st⟩
theorem HOk.lt (x : HOk P w H h) (e : H a = some o) : a < h.objs.size := (x a o e).lt
theorem HOk.fresh (x : HOk P w H h) (e : h.objs.size ≤ a) : H a = none := by
  cases q : H a with
  | none => rfl
  | some u => exact absurd (Nat.lt_of_lt_of_le (x.lt q) e) (Nat.lt_irrefl _)
theorem HOk.kept (x : HOk P w H h) (k : ∀ b u, h.get? b = some u → h'.get? b = some u) : HOk P w H h' := fun a o e =>
  (x a o e).stay (fun b u _ q => k b u q) (fun _ q => q) fun _ _ q => q
theorem HOk.laid (x : HOk P w H h) (k : ∀ b u, h.get? b = some u → h'.get? b = some u) (hp : h.objs.size ≤ a) (new : ObjOk P w (upd H a o) h' a o) : HOk P w (upd H a o) h' := fun b u e => by
  have hn := x.fresh hp
  by_cases hb : b = a
  · subst hb; rw [upd_same] at e; cases e; exact new
  · rw [upd_ne hb] at e
    exact (x b u e).stay (fun c v _ q => k c v q) (fun c q => by rw [upd_ne (ne_of_none q hn)]; exact q) fun c xs q => by rw [upd_ne (ne_of_none q hn)]; exact q
end

def Rd (H : Hp) (a : Addr) (u : HO) : Prop := H a = some u ∨ ∃ o, H a = some (.frz o u)
theorem Rd.of {H : Hp} {a : Addr} {u : HO} (h : H a = some u) : Rd H a u := .inl h
theorem Rd.ok {P : Program} {w : World} {H : Hp} {h : Heap} {a : Addr} {u : HO} (r : Rd H a u) (x : HOk P w H h) : ObjOk P w H h a u := by
  rcases r with r | ⟨o, r⟩
  · exact x a u r
  · obtain ⟨_, q⟩ := x a _ r
    exact q
def Mut : Option HO → Prop
  | some (.lst _) => True
  | some (.dK _) => True
  | some (.dT _) => True
  | some (.set _ _) => True
  | some (.ins _ _ _) => True
  | some (.ext _) => True
  | _ => False
section
variable {P : Program} {w : World} {H : Hp} {h h' : Heap} {x e : Addr} {o' : HO}
theorem HOk.write (ok : HOk P w H h) (mu : Mut (H x)) (he : e = x ∨ H e = some (.own x)) (k : ∀ b u, b ≠ e → h.get? b = some u → h'.get? b = some u) (heo : ∃ u, h'.get? e = some u)
    (new : ObjOk P w (upd H x o') h' x o') : HOk P w (upd H x o') h' := fun b u q => by
  have nown : ∀ c y, H c = some (.own y) → c ≠ x := fun c y r z => by subst z; rw [r] at mu; exact mu
  have ntup : ∀ c xs, H c = some (.tup xs) → c ≠ x := fun c xs r z => by subst z; rw [r] at mu; exact mu
  by_cases hb : b = x
  · subst hb; rw [upd_same] at q; cases q; exact new
  · rw [upd_ne hb] at q
    by_cases hbe : b = e
    · have q' : H b = some (.own x) := by
        rcases he with z | z
        · exact absurd (hbe.trans z) hb
        · rw [hbe]; exact z
      rw [q] at q'; cases q'
      obtain ⟨v, hv⟩ := heo
      exact ⟨v, by rw [hbe]; exact hv⟩
    · refine (ok b u q).stay (fun c v hc r => k c v ?_ r) (fun c r => by rw [upd_ne (nown c b r)]; exact r) fun c xs r => by rw [upd_ne (ntup c xs r)]; exact r
      rcases hc with rfl | hc
      · exact hbe
      · rintro rfl
        rcases he with z | z
        · exact nown c b hc z
        · rw [hc] at z; cases z; exact hb rfl
end

/-! ### kept unless tracked; of the frames at fs (the callers') the slots may change (an exception that passes writes there); of the records at ex (iterators) nothing is said -/
structure Un (fs ex : List Addr) (H H' : Hp) (h h' : Heap) : Prop where
  keep : ∀ b o, h.get? b = some o → H b = none → b ∉ fs → b ∉ ex → h'.get? b = some o
  slot : ∀ b o, h.get? b = some o → H b = none → b ∈ fs → b ∉ ex → ∃ sl, h'.get? b = some { o with slots := sl }
  free : ∀ b o, h.get? b = some o → H b = none → b ∉ ex → H' b = none
  there : ∀ b o, h.get? b = some o → b ∉ ex → ∃ o', h'.get? b = some o'
  tups : ∀ b xs, H b = some (.tup xs) → H' b = some (.tup xs)
  frzs : ∀ b o u, H b = some (.frz o u) → H' b = some (.frz o u)
  tbls : ∀ b ps, H b = some (.tbl ps) → ∃ more, H' b = some (.tbl (ps ++ more))
section
variable {fs fs' ex ex' : List Addr} {H H1 H2 : Hp} {h h1 h2 h' : Heap} {a x e : Addr} {o : HO}
theorem Un.any (u : Un fs ex H H1 h h1) {b : Addr} {ob : Obj} (q : h.get? b = some ob) (n : H b = none) (hx : b ∉ ex) : ∃ sl, h1.get? b = some { ob with slots := sl } := by
  by_cases hb : b ∈ fs
  · exact u.slot b ob q n hb hx
  · exact ⟨ob.slots, u.keep b ob q n hb hx⟩
theorem Un.trans (a : Un fs ex H H1 h h1) (b : Un fs ex H1 H2 h1 h2) : Un fs ex H H2 h h2 where
  keep := fun c ob q n hc hx => b.keep c ob (a.keep c ob q n hc hx) (a.free c ob q n hx) hc hx
  slot := fun c ob q n hc hx => by
    obtain ⟨sl, e1⟩ := a.slot c ob q n hc hx
    obtain ⟨sl', e2⟩ := b.slot c _ e1 (a.free c ob q n hx) hc hx
    exact ⟨sl', e2⟩
  free := fun c ob q n hx => by
    obtain ⟨o', e1⟩ := a.there c ob q hx
    exact b.free c o' e1 (a.free c ob q n hx) hx
  there := fun c ob q hx => by
    obtain ⟨o', e1⟩ := a.there c ob q hx
    exact b.there c o' e1 hx
  tups := fun c xs q => b.tups c xs (a.tups c xs q)
  frzs := fun c ob xs q => b.frzs c ob xs (a.frzs c ob xs q)
  tbls := fun c ps q => by
    obtain ⟨m1, e1⟩ := a.tbls c ps q
    obtain ⟨m2, e2⟩ := b.tbls c _ e1
    exact ⟨m1 ++ m2, by rw [e2, Array.append_assoc]⟩
theorem Un.kept (k : ∀ b u, h.get? b = some u → h'.get? b = some u) : Un fs ex H H h h' :=
  ⟨fun b ob q _ _ _ => k b ob q, fun b ob q _ _ _ => ⟨ob.slots, k b ob q⟩, fun _ _ _ n _ => n, fun b ob q _ => ⟨ob, k b ob q⟩, fun _ _ q => q, fun _ _ _ q => q, fun _ ps q => ⟨#[], by rw [q]; simp⟩⟩
theorem Un.refl : Un fs ex H H h h := Un.kept fun _ _ q => q
theorem Un.laid (k : ∀ b u, h.get? b = some u → h'.get? b = some u) (hp : h.objs.size ≤ a) (hn : H a = none) : Un fs ex H (upd H a o) h h' where
  keep := fun b u q _ _ _ => k b u q
  slot := fun b u q _ _ _ => ⟨u.slots, k b u q⟩
  free := fun b u q n _ => by rw [upd_ne (Nat.ne_of_lt (Nat.lt_of_lt_of_le (Heap.lt_size q) hp))]; exact n
  there := fun b u q _ => ⟨u, k b u q⟩
  tups := fun b xs q => by rw [upd_ne (ne_of_none q hn)]; exact q
  frzs := fun b u xs q => by rw [upd_ne (ne_of_none q hn)]; exact q
  tbls := fun b ps q => ⟨#[], by rw [upd_ne (ne_of_none q hn), q]; simp⟩
theorem Un.write (mu : Mut (H x)) (he : e = x ∨ H e = some (.own x)) (k : ∀ b u, b ≠ e → h.get? b = some u → h'.get? b = some u) (heo : ∃ u, h'.get? e = some u) : Un fs ex H (upd H x o) h h' := by
  have hx : ∀ b, H b = none → b ≠ x := fun b n z => by subst z; rw [n] at mu; exact mu
  have hb : ∀ b, H b = none → b ≠ e := fun b n z => by
    subst z
    rcases he with r | r
    · exact hx b n r
    · rw [n] at r; cases r
  have hm : ∀ b u, H b = some u → ¬ Mut (some u) → b ≠ x := fun b u q nm z => by subst z; rw [q] at mu; exact nm mu
  refine ⟨fun b u q n _ _ => k b u (hb b n) q, fun b u q n _ _ => ⟨u.slots, k b u (hb b n) q⟩, fun b u q n _ => by rw [upd_ne (hx b n)]; exact n, fun b u q _ => ?_,
    fun b xs q => by rw [upd_ne (hm b _ q fun z => z)]; exact q, fun b u xs q => by rw [upd_ne (hm b _ q fun z => z)]; exact q, fun b ps q => ⟨#[], by rw [upd_ne (hm b _ q fun z => z), q]; simp⟩⟩
  by_cases hbe : b = e
  · subst hbe; exact heo
  · exact ⟨u, k b u hbe q⟩
theorem Un.mono (u : Un fs ex H H1 h h1) (hs : ∀ b ∈ fs, b ∈ fs') (hx : ∀ b ∈ ex, b ∈ ex') : Un fs' ex' H H1 h h1 :=
  ⟨fun b ob q n hb he => u.keep b ob q n (fun z => hb (hs b z)) fun z => he (hx b z), fun _ _ q n _ he => u.any q n fun z => he (hx _ z), fun b ob q n he => u.free b ob q n fun z => he (hx b z), fun b ob q he => u.there b ob q fun z => he (hx b z), u.tups, u.frzs, u.tbls⟩
end

/-! ### the heap without what is tracked -/
def trk (h : Heap) (H : Hp) : List Addr := (List.range h.objs.size).filter fun a => (H a).isSome
def hidT (h : Heap) (H : Hp) : Heap := PySem.W.hideAll h (trk h H)
theorem hidT_size (h : Heap) (H : Hp) : (hidT h H).objs.size = h.objs.size := PySem.W.hideAll_size _ _
theorem hidT_get {h : Heap} {H : Hp} {b : Addr} {o : Obj} (e : h.get? b = some o) (n : H b = none) : (hidT h H).get? b = some o :=
  PySem.W.hideAll_get _ e fun hm => by
    have q : (H b).isSome = true := (List.mem_filter.mp hm).2
    rw [n] at q; simp at q
theorem of_hidT {h : Heap} {H : Hp} {b : Addr} {o : Obj} (e : (hidT h H).get? b = some o) : h.get? b = some o ∧ H b = none := by
  have e' : h.get? b = some o := PySem.W.of_hideAll (trk h H) e
  refine ⟨e', ?_⟩
  cases q : H b with
  | none => rfl
  | some x =>
    have hm : b ∈ trk h H := List.mem_filter.mpr ⟨List.mem_range.mpr (Heap.lt_size e'), by simp [q]⟩
    have z : (hidT h H).get? b = none := PySem.W.hideAll_none (trk h H) hm
    rw [z] at e; cases e

/-! ### OpenK's ledger, filled with every new object but one -/
def allNews (g h : Heap) (L : Addr) : List (Addr × Obj) := (List.range h.objs.size).filterMap fun a => if a = L ∨ (g.get? a).isSome = true then none else (h.get? a).map fun o => (a, o)
def rest (g h : Heap) (L d : Addr) : List (Addr × Obj) := (allNews g h L).filter fun p => decide (p.1 ≠ d)
end L2

namespace L2
open PySem PySem.Spec PyProof.Rows

structure Mod (K : PySem.W.Frag) (mg : Str → Option Value) (base : Heap) : Prop where
  kin : K.In base
  glob : base.Ns mainGlobals mg
  blt : ∃ mb, base.Ns builtinsNs mb ∧ ∀ x : Str, x ≠ "__name__" → mb x = bootBuiltins x
  nolimit : base.NoLimit

structure Cx where
  prog : Program
  w : World
  K : PySem.W.Frag
  mg : Str → Option Value
  base : Heap
  A : Around
  N : List Str
  s₀ : Shared
  H₀ : Hp
  env : Env
  outer : List Env
  stack : List Env
  ex : List Addr
  fn : Str → Bool
  calm : Bool
  pn : List (Addr × Obj)
  xe : Value → Shared → Prop
def frs (l : List Env) : List Addr := l.filterMap (·.frame)
abbrev Cx.fs (X : Cx) : List Addr := frs X.outer

def Vis (sc : Scope) (x : Str) : Prop := sc.names.lookup x = some .local ∨ sc.names.lookup x = some .cell ∨ sc.names.lookup x = some .free
def Loc (sc : Scope) (x : Str) : Prop := sc.names.lookup x = some .local ∨ sc.names.lookup x = some .cell
def Look (env : Env) (h : Heap) (m : Str → Option Value) (x : Str) (u : Value) : Prop :=
  (env.kindOf x = some .local ∧ m x = some u) ∨ ((env.kindOf x = some .cell ∨ env.kindOf x = some .free) ∧ ∃ c, env.cells.lookup x = some c ∧ h.IsCell c (some u))

structure Cx.Ok (X : Cx) : Prop where
  mod : Mod X.K X.mg X.base
  kind : X.env.scope.kind = .function
  glob : X.env.globals = mainGlobals
  blt : X.env.builtins = builtinsNs
  above : X.s₀.heap.objs.size ≤ X.env.locals
  inj : ∀ x y c, X.env.cells.lookup x = some c → X.env.cells.lookup y = some c → x = y
  has : ∀ x, (X.env.kindOf x = some .cell ∨ X.env.kindOf x = some .free) → ∃ c, X.env.cells.lookup x = some c
  cab : ∀ x c, X.fn x = true → X.env.cells.lookup x = some c → X.s₀.heap.objs.size ≤ c
  hd : X.calm = true → X.A.handled = none
  frames : X.A.frames = some X.stack
  stk : X.stack = X.outer ∨ (X.stack = X.env :: X.outer ∧ X.env.frame = some X.env.locals)
  exf : ∀ b ∈ X.ex, b ≠ X.env.locals ∧ ∀ x c, X.env.cells.lookup x = some c → c ≠ b
  bs : ∀ b o, X.base.get? b = some o → X.s₀.heap.get? b = some o ∧ X.H₀ b = none
  bsz : X.base.objs.size ≤ X.s₀.heap.objs.size
  noex : ∀ b o, X.base.get? b = some o → b ∉ X.ex
  exfs : ∀ b ∈ X.ex, b ∉ X.fs
  funs : X.s₀.heap.FunFrames X.base X.outer
  frf : ∀ b ∈ X.fs, X.H₀ b = none

structure Inv (X : Cx) (pins : List (Addr × Obj)) (σ : List (Option V)) (H : Hp) (s : Shared) : Prop where
  ok : X.Ok
  os : s.os = X.s₀.os
  bare : AllBare s.gens
  base : Un X.fs X.ex X.H₀ H X.s₀.heap s.heap
  loc : ∃ m, s.heap.Ns X.env.locals m ∧ ∀ (i : Nat) (x : Str) (v : V), X.N[i]? = some x → σ[i]? = some (some v) → Vis X.env.scope x → ∃ u, RelV v u ∧ Look X.env s.heap m x u
  cell : ∀ x c, X.env.cells.lookup x = some c → ∃ v, s.heap.IsCell c v
  free : H X.env.locals = none
  freeC : ∀ x c, X.env.cells.lookup x = some c → H c = none
  pin : ∀ p ∈ X.pn ++ pins, s.heap.get? p.1 = some p.2 ∧ H p.1 = none ∧ p.1 ≠ X.env.locals ∧ p.1 ∉ X.fs ∧ ∀ v, p.2.data ≠ .cell v
  hok : HOk X.prog X.w H s.heap
  len : σ.length = X.N.length

section
variable {X : Cx} {pins : List (Addr × Obj)} {σ : List (Option V)} {H H' : Hp} {s : Shared} {h' : Heap}

theorem Cx.Ok.nofr (ok : X.Ok) {b : Addr} {o : Obj} (e : X.base.get? b = some o) : b ∉ X.fs := fun hb => by
  have := (ok.funs.mem hb).1
  rw [e] at this; cases this
theorem Inv.bs (I : Inv X pins σ H s) : ∀ b o, X.base.get? b = some o → s.heap.get? b = some o ∧ H b = none := fun b o e =>
  ⟨I.base.keep b o (I.ok.bs b o e).1 (I.ok.bs b o e).2 (I.ok.nofr e) (I.ok.noex b o e), I.base.free b o (I.ok.bs b o e).1 (I.ok.bs b o e).2 (I.ok.noex b o e)⟩
theorem Inv.bk (I : Inv X pins σ H s) : ∀ b o, X.base.get? b = some o → s.heap.get? b = some o := fun b o e => (I.bs b o e).1
theorem Inv.mod (I : Inv X pins σ H s) : Mod X.K X.mg X.base := I.ok.mod
theorem Inv.kIn (I : Inv X pins σ H s) : X.K.In s.heap := I.ok.mod.kin.keeps I.bk
theorem Inv.nolimit (I : Inv X pins σ H s) : s.heap.NoLimit := I.ok.mod.nolimit.keeps I.bk
theorem Inv.fr (I : Inv X pins σ H s) : ∃ m, Fr X.base X.env.locals s.heap m :=
  let ⟨m, hn, _⟩ := I.loc
  ⟨m, hn, I.bk, Nat.le_trans I.ok.bsz I.ok.above⟩
theorem Inv.lt (I : Inv X pins σ H s) : X.env.locals < s.heap.objs.size := let ⟨_, hn, _⟩ := I.loc; hn.lt
theorem Inv.sz (I : Inv X pins σ H s) : X.s₀.heap.objs.size ≤ s.heap.objs.size := Nat.le_trans I.ok.above (Nat.le_of_lt I.lt)
theorem Inv.nofs (I : Inv X pins σ H s) {a : Addr} (h : s.heap.objs.size ≤ a) : a ∉ X.fs := fun hb => by
  obtain ⟨_, o, ho, _⟩ := I.ok.funs.mem hb
  exact absurd (Nat.lt_of_lt_of_le (Heap.lt_size ho) (Nat.le_trans I.sz h)) (Nat.lt_irrefl _)
theorem Inv.cne (I : Inv X pins σ H s) : ∀ x c, X.env.cells.lookup x = some c → c ≠ X.env.locals := fun x c e z => by
  obtain ⟨v, o, ho, hd⟩ := I.cell x c e
  obtain ⟨m, ⟨o', es, ep, ho', hd', _⟩, _⟩ := I.loc
  rw [z, ho'] at ho; cases ho; rw [hd'] at hd; cases hd
theorem Inv.funs (I : Inv X pins σ H s) : s.heap.FunFrames X.base X.outer := by
  have all : ∀ (l : List Env), (∀ b ∈ frs l, b ∈ X.fs) → X.s₀.heap.FunFrames X.base l → s.heap.FunFrames X.base l := by
    intro l
    induction l with
    | nil => intro _ _; trivial
    | cons env r ih =>
      intro hs hl
      obtain ⟨hk, ⟨L, o, hf, hn, ho, hd⟩, hr⟩ := hl
      have hL : L ∈ X.fs := hs L (by unfold frs; rw [List.filterMap_cons, hf]; exact List.mem_cons_self)
      obtain ⟨sl, e⟩ := I.base.slot L o ho (I.ok.frf L hL) hL fun z => I.ok.exfs L z hL
      exact ⟨hk, ⟨L, _, hf, hn, e, hd⟩, ih (fun b hb => hs b (by unfold frs; rw [List.filterMap_cons, hf]; exact List.mem_cons_of_mem _ hb)) hr⟩
  exact all X.outer (fun _ hb => hb) I.ok.funs

theorem Inv.stack (I : Inv X pins σ H s) : s.heap.FunFrames X.base X.stack := by
  rcases I.ok.stk with e | ⟨e, hf⟩
  · rw [e]; exact I.funs
  · rw [e]
    obtain ⟨m, hn, _⟩ := I.loc
    refine .cons (by rw [I.ok.kind]; decide) hf hn ?_ I.funs
    exact Heap.get?_none_of_le (Nat.le_trans I.ok.bsz I.ok.above)
theorem Inv.stkSub (I : Inv X pins σ H s) : ∀ b ∈ frs X.stack, b ∈ X.env.locals :: X.fs := fun b hb => by
  rcases I.ok.stk with e | ⟨e, hf⟩
  · rw [e] at hb; exact List.mem_cons_of_mem _ hb
  · rw [e] at hb
    unfold frs at hb
    rw [List.filterMap_cons, hf] at hb
    exact hb
theorem Inv.stkFree (I : Inv X pins σ H s) : ∀ b ∈ frs X.stack, H b = none := fun b hb => by
  rcases List.mem_cons.mp (I.stkSub b hb) with e | hb
  · rw [e]; exact I.free
  · obtain ⟨_, o, ho, _⟩ := I.ok.funs.mem hb
    exact I.base.free b o ho (I.ok.frf b hb) fun z => I.ok.exfs b z hb

theorem Inv.step {g' : Array GenState} {t' : Nat} {d' : Drawn} {ch : List Addr} (I : Inv X pins σ H s)
    (hch : ∀ b ∈ ch, (b ∈ X.ex ∨ X.s₀.heap.objs.size ≤ b) ∧ b ≠ X.env.locals ∧ (∀ x c, X.env.cells.lookup x = some c → c ≠ b) ∧ ∀ p ∈ X.pn ++ pins, p.1 ≠ b)
    (keep : ∀ b o, b ≠ X.env.locals → b ∉ X.fs → b ∉ ch → s.heap.get? b = some o → H b = none → h'.get? b = some o)
    (slot : ∀ b o, b ≠ X.env.locals → b ∈ X.fs → b ∉ ch → s.heap.get? b = some o → H b = none → ∃ sl, h'.get? b = some { o with slots := sl }) (free : ∀ b o, b ∉ ch → s.heap.get? b = some o → H b = none → H' b = none)
    (there : ∀ b o, b ∉ ch → s.heap.get? b = some o → ∃ o', h'.get? b = some o')
    (tups : ∀ b xs, H b = some (.tup xs) → H' b = some (.tup xs)) (frzs : ∀ b o u, H b = some (.frz o u) → H' b = some (.frz o u)) (tbls : ∀ b ps, H b = some (.tbl ps) → ∃ more, H' b = some (.tbl (ps ++ more)))
    (ns : ∀ m, s.heap.Ns X.env.locals m → h'.Ns X.env.locals m) (hok : HOk X.prog X.w H' h') (hg : AllBare g') :
    Inv X pins σ H' { s with heap := h', gens := g', drawn := d', toks := t' } := by
  have neL : ∀ b o, X.s₀.heap.get? b = some o → b ≠ X.env.locals := fun b o e => Nat.ne_of_lt (Nat.lt_of_lt_of_le (Heap.lt_size e) I.ok.above)
  have neC : ∀ b o, X.s₀.heap.get? b = some o → b ∉ X.ex → b ∉ ch := fun b o e hx hb => by
    rcases (hch b hb).1 with z | z
    · exact hx z
    · exact absurd (Nat.lt_of_lt_of_le (Heap.lt_size e) z) (Nat.lt_irrefl _)
  have cellK : ∀ x c, X.env.cells.lookup x = some c → ∀ v, s.heap.IsCell c v → h'.IsCell c v := fun x c e v ⟨o, ho, hd⟩ => by
    have nch : c ∉ ch := fun z => (hch c z).2.2.1 x c e rfl
    by_cases hc : c ∈ X.fs
    · obtain ⟨sl, q⟩ := slot c o (I.cne x c e) hc nch ho (I.freeC x c e)
      exact ⟨_, q, hd⟩
    · exact ⟨o, keep c o (I.cne x c e) hc nch ho (I.freeC x c e), hd⟩
  refine ⟨I.ok, I.os, hg, ⟨fun b o e n hb hx => ?_, fun b o e n hb hx => ?_, fun b o e n hx => ?_, fun b o e hx => ?_, fun b xs e => tups b xs (I.base.tups b xs e), fun b o xs e => frzs b o xs (I.base.frzs b o xs e), fun b ps e => ?_⟩, ?_, fun x c e => ?_, ?_, fun x c e => ?_, fun p hp => ?_, hok, I.len⟩
  · exact keep b o (neL b o e) hb (neC b o e hx) (I.base.keep b o e n hb hx) (I.base.free b o e n hx)
  · obtain ⟨sl, e1⟩ := I.base.slot b o e n hb hx
    obtain ⟨sl', e2⟩ := slot b _ (neL b o e) hb (neC b o e hx) e1 (I.base.free b o e n hx)
    exact ⟨sl', e2⟩
  · obtain ⟨o', e1⟩ := I.base.there b o e hx
    exact free b o' (neC b o e hx) e1 (I.base.free b o e n hx)
  · obtain ⟨o', e1⟩ := I.base.there b o e hx
    exact there b o' (neC b o e hx) e1
  · obtain ⟨m1, e1⟩ := I.base.tbls b ps e
    obtain ⟨m2, e2⟩ := tbls b _ e1
    exact ⟨m1 ++ m2, by rw [e2, Array.append_assoc]⟩
  · obtain ⟨m, hn, hl⟩ := I.loc
    refine ⟨m, ns m hn, fun i x v e1 e2 e3 => ?_⟩
    obtain ⟨u, r, l⟩ := hl i x v e1 e2 e3
    refine ⟨u, r, ?_⟩
    rcases l with l | ⟨k, c, e, z⟩
    · exact .inl l
    · exact .inr ⟨k, c, e, cellK x c e _ z⟩
  · obtain ⟨v, z⟩ := I.cell x c e
    exact ⟨v, cellK x c e v z⟩
  · obtain ⟨m, ⟨o, _, _, ho, _⟩, _⟩ := I.loc
    exact free _ o (fun z => (hch _ z).2.1 rfl) ho I.free
  · obtain ⟨v, o, ho, hd⟩ := I.cell x c e
    exact free c o (fun z => (hch c z).2.2.1 x c e rfl) ho (I.freeC x c e)
  · obtain ⟨e, n, ne, nf, d⟩ := I.pin p hp
    have nch : p.1 ∉ ch := fun z => (hch p.1 z).2.2.2 p hp rfl
    exact ⟨keep p.1 p.2 ne nf nch e n, free p.1 p.2 nch e n, ne, nf, d⟩
theorem Inv.un {t' : Nat} (I : Inv X pins σ H s) (u : Un X.fs [] H H' s.heap h') (hok : HOk X.prog X.w H' h') : Inv X pins σ H' { s with heap := h', toks := t' } := by
  obtain ⟨m, ⟨o, es, ep, ho, r⟩, _⟩ := id I.loc
  obtain ⟨sl, hL⟩ := u.any ho I.free (by simp)
  exact I.step (g' := s.gens) (d' := s.drawn) (ch := []) (fun _ z => nomatch z) (fun b o _ hb _ e n => u.keep b o e n hb (by simp)) (fun b o _ hb _ e n => u.slot b o e n hb (by simp)) (fun b o _ e n => u.free b o e n (by simp)) (fun b o _ e => u.there b o e (by simp)) u.tups u.frzs u.tbls (fun m' hm => by
    obtain ⟨o', es', ep', ho', r'⟩ := hm
    rw [ho] at ho'; cases ho'
    exact ⟨_, es', ep', hL, r'⟩) hok I.bare
theorem Inv.call {g' : Array GenState} {t' : Nat} {d' : Drawn} {ch : List Addr} (I : Inv X pins σ H s) (u : Un (frs X.stack) ch H H' s.heap h') (hok : HOk X.prog X.w H' h') (hg : AllBare g')
    (hch : ∀ b ∈ ch, (b ∈ X.ex ∨ X.s₀.heap.objs.size ≤ b) ∧ b ≠ X.env.locals ∧ (∀ x c, X.env.cells.lookup x = some c → c ≠ b) ∧ ∀ p ∈ X.pn ++ pins, p.1 ≠ b) :
    Inv X pins σ H' { s with heap := h', gens := g', drawn := d', toks := t' } := by
  obtain ⟨m, ⟨o, es, ep, ho, r⟩, _⟩ := id I.loc
  obtain ⟨sl, hL⟩ := u.any ho I.free fun z => (hch _ z).2.1 rfl
  exact I.step (ch := ch) hch (fun b o hL hb hc e n => u.keep b o e n (fun z => (List.mem_cons.mp (I.stkSub b z)).elim hL hb) hc) (fun b o _ _ hc e n => u.any e n hc) (fun b o hc e n => u.free b o e n hc) (fun b o hc e => u.there b o e hc) u.tups u.frzs u.tbls (fun m' hm => by
    obtain ⟨o', es', ep', ho', r'⟩ := hm
    rw [ho] at ho'; cases ho'
    exact ⟨_, es', ep', hL, r'⟩) hok hg
theorem Inv.turned {t' : Nat} {it : Addr} (I : Inv X pins σ H s) (k : ∀ b o, b ≠ it → s.heap.get? b = some o → h'.get? b = some o) (hn : H it = none) (hL : it ≠ X.env.locals)
    (h1 : it ∈ X.ex ∨ X.s₀.heap.objs.size ≤ it) (h2 : ∀ x c, X.env.cells.lookup x = some c → c ≠ it) (h3 : ∀ p ∈ X.pn ++ pins, p.1 ≠ it) : Inv X pins σ H { s with heap := h', toks := t' } := by
  have nit : ∀ b u, H b = some u → b ≠ it := fun b u e z => by rw [z, hn] at e; cases e
  refine I.step (g' := s.gens) (d' := s.drawn) (ch := [it]) (fun b hb => ?_) (fun b o _ _ hc e _ => k b o (fun z => hc (by simp [z])) e) (fun b o _ _ hc e _ => ⟨o.slots, k b o (fun z => hc (by simp [z])) e⟩) (fun _ _ _ _ n => n)
    (fun b o hc e => ⟨o, k b o (fun z => hc (by simp [z])) e⟩) (fun _ _ e => e) (fun _ _ _ e => e) (fun b ps e => ⟨#[], by rw [e]; simp⟩) (fun m hm => ?_) (fun b u e => ?_) I.bare
  · have e : b = it := by simpa using hb
    subst e
    exact ⟨h1, hL, h2, h3⟩
  · obtain ⟨o, es, ep, ho, r⟩ := hm
    exact ⟨o, es, ep, k _ o (Ne.symm hL) ho, r⟩
  · refine (I.hok b u e).stay (fun c v hc q => k c v ?_ q) (fun _ q => q) fun _ _ q => q
    rcases hc with z | z
    · rw [z]; exact nit b u e
    · exact nit c _ z
theorem Inv.tok (I : Inv X pins σ H s) (t : Nat) : Inv X pins σ H { s with toks := t } := I.un (h' := s.heap) (t' := t) Un.refl I.hok
theorem Inv.kept {t' : Nat} (I : Inv X pins σ H s) (k : ∀ b u, s.heap.get? b = some u → h'.get? b = some u) : Inv X pins σ H { s with heap := h', toks := t' } := I.un (Un.kept k) (I.hok.kept k)
theorem Inv.laid {a : Addr} {o : HO} {t' : Nat} (I : Inv X pins σ H s) (k : ∀ b u, s.heap.get? b = some u → h'.get? b = some u) (hp : s.heap.objs.size ≤ a) (new : ObjOk X.prog X.w (upd H a o) h' a o) :
    Inv X pins σ (upd H a o) { s with heap := h', toks := t' } := I.un (Un.laid k hp (I.hok.fresh hp)) (I.hok.laid k hp new)
theorem Inv.write {x e : Addr} {o : HO} {t' : Nat} (I : Inv X pins σ H s) (mu : Mut (H x)) (he : e = x ∨ H e = some (.own x)) (k : ∀ b u, b ≠ e → s.heap.get? b = some u → h'.get? b = some u) (heo : ∃ u, h'.get? e = some u)
    (new : ObjOk X.prog X.w (upd H x o) h' x o) : Inv X pins σ (upd H x o) { s with heap := h', toks := t' } := I.un (Un.write mu he k heo) (I.hok.write mu he k heo new)
theorem Inv.weak {σ' : List (Option V)} (I : Inv X pins σ H s) (hl : σ'.length = σ.length) (w : ∀ (i : Nat) v, σ'[i]? = some (some v) → σ[i]? = some (some v)) : Inv X pins σ' H s :=
  ⟨I.ok, I.os, I.bare, I.base, let ⟨m, hn, hl'⟩ := I.loc; ⟨m, hn, fun i x v e1 e2 e3 => hl' i x v e1 (w i v e2) e3⟩, I.cell, I.free, I.freeC, I.pin, I.hok, hl.trans I.len⟩
theorem Inv.pins_of {pins' : List (Addr × Obj)} (I : Inv X pins σ H s) (h : ∀ p ∈ pins', s.heap.get? p.1 = some p.2 ∧ H p.1 = none ∧ p.1 ≠ X.env.locals ∧ p.1 ∉ X.fs ∧ ∀ v, p.2.data ≠ .cell v) : Inv X pins' σ H s :=
  ⟨I.ok, I.os, I.bare, I.base, I.loc, I.cell, I.free, I.freeC, fun p hp => (List.mem_append.mp hp).elim (fun z => I.pin p (List.mem_append_left _ z)) (h p), I.hok, I.len⟩

theorem nodup_ix {N : List Str} (hN : N.Nodup) {i j : Nat} {x : Str} (a : N[i]? = some x) (b : N[j]? = some x) : i = j := by
  obtain ⟨h1, e1⟩ := List.getElem?_eq_some_iff.mp a
  obtain ⟨h2, e2⟩ := List.getElem?_eq_some_iff.mp b
  exact (List.getElem_inj hN).mp (e1.trans e2.symm)

theorem store_ok2 {M : Model} {A : Around} {E : Value → Shared → Prop} {i : Nat} {x : Str} {v : V} {u : Value} {Q : Unit → Shared → Prop} (I : Inv X pins σ H s) (hN : X.N.Nodup) (hi : X.N[i]? = some x) (hx : Loc X.env.scope x) (r : RelV v u)
    (h : ∀ s', Inv X pins (σ.set i (some v)) H s' → (∃ a, Heap.SameBut a s.heap s'.heap ∧ (a = X.env.locals ∨ X.env.cells.lookup x = some a)) → Q () s') (hf : X.fn x = true ∨ X.env.scope.names.lookup x = some .local := by first | exact .inl rfl | exact .inr rfl | assumption) : wpAny M A (storeName X.env x u) Q E s := by
  obtain ⟨m, hn, hl⟩ := id I.loc
  have hcls : (X.env.scope.kind == .class || (X.env.scope.kind == .module && X.env.locals != X.env.globals)) = false := by rw [I.ok.kind]; rfl
  have hiσ : i < σ.length := by rw [I.len]; exact (List.getElem?_eq_some_iff.mp hi).1
  have cne := I.cne
  have tracked : ∀ {a : Addr} {h' : Heap}, (∃ o, s.heap.get? a = some o ∧ H a = none) → Heap.SameBut a s.heap h' → HOk X.prog X.w H h' := fun {a h'} ha hs b ob e => by
    obtain ⟨_, _, hfree⟩ := ha
    refine (I.hok b ob e).stay (fun c w' hc q => (hs.2 c ?_).trans q) (fun _ q => q) fun _ _ q => q
    rintro rfl
    rcases hc with rfl | hc
    · rw [hfree] at e; cases e
    · rw [hfree] at hc; cases hc
  rcases hx with hk | hk
  · refine wpAny_storeName_local hk hn (fun h' hn' hs => ?_) hcls
    obtain ⟨oL, _, _, hoL, _⟩ := id hn
    refine h _ ⟨I.ok, I.os, I.bare, ⟨fun b o e n hb hx => ?_, fun b o e n hb hx => ?_, I.base.free, fun b o e hx => ?_, I.base.tups, I.base.frzs, I.base.tbls⟩, ⟨_, hn', fun j y v' e1 e2 e3 => ?_⟩, fun y c e => ?_, I.free, I.freeC, fun p hp => ?_, tracked ⟨oL, hoL, I.free⟩ hs, by simpa using I.len⟩ ⟨_, hs, .inl rfl⟩
    · exact (hs.2 b (Nat.ne_of_lt (Nat.lt_of_lt_of_le (Heap.lt_size e) I.ok.above))).trans (I.base.keep b o e n hb hx)
    · obtain ⟨sl, e1⟩ := I.base.slot b o e n hb hx
      exact ⟨sl, (hs.2 b (Nat.ne_of_lt (Nat.lt_of_lt_of_le (Heap.lt_size e) I.ok.above))).trans e1⟩
    · obtain ⟨o', e1⟩ := I.base.there b o e hx
      exact ⟨o', (hs.2 b (Nat.ne_of_lt (Nat.lt_of_lt_of_le (Heap.lt_size e) I.ok.above))).trans e1⟩
    · by_cases hj : j = i
      · subst hj
        rw [hi] at e1; cases e1
        rw [List.getElem?_set_self hiσ] at e2
        cases e2
        exact ⟨u, r, .inl ⟨hk, by simp⟩⟩
      · rw [List.getElem?_set_ne (Ne.symm hj)] at e2
        obtain ⟨u', r', q⟩ := hl j y v' e1 e2 e3
        refine ⟨u', r', ?_⟩
        rcases q with ⟨k, e⟩ | ⟨k, c, e, z⟩
        · refine .inl ⟨k, ?_⟩
          have : y ≠ x := fun e => hj (nodup_ix hN e1 (e ▸ hi))
          simp [this, e]
        · exact .inr ⟨k, c, e, z.sameBut hs (cne y c e)⟩
    · obtain ⟨w', z⟩ := I.cell y c e
      exact ⟨w', z.sameBut hs (cne y c e)⟩
    · obtain ⟨e, n, ne, nf, d⟩ := I.pin p hp
      exact ⟨(hs.2 p.1 ne).trans e, n, ne, nf, d⟩
  · have hfn : X.fn x = true := by
      rcases hf with z | z
      · exact z
      · rw [z] at hk; cases hk
    obtain ⟨c, hc⟩ := I.ok.has x (.inl hk)
    obtain ⟨w', z⟩ := I.cell x c hc
    refine wpAny_storeName_cell I.ok.kind hk hc z (fun h' hc' hs => ?_)
    obtain ⟨oc, hoc, hocd⟩ := id z
    refine h { s with heap := h' } ⟨I.ok, I.os, I.bare, ⟨fun b o e n hb hx => ?_, fun b o e n hb hx => ?_, I.base.free, fun b o e hx => ?_, I.base.tups, I.base.frzs, I.base.tbls⟩, ⟨m, hn.sameBut hs (Ne.symm (cne x c hc)), fun j y v' e1 e2 e3 => ?_⟩, fun y c' e => ?_, I.free, I.freeC, fun p hp => ?_, tracked ⟨oc, hoc, I.freeC x c hc⟩ hs, by simpa using I.len⟩ ⟨c, hs, .inr hc⟩
    · exact (hs.2 b (Nat.ne_of_lt (Nat.lt_of_lt_of_le (Heap.lt_size e) (I.ok.cab x c hfn hc)))).trans (I.base.keep b o e n hb hx)
    · obtain ⟨sl, e1⟩ := I.base.slot b o e n hb hx
      exact ⟨sl, (hs.2 b (Nat.ne_of_lt (Nat.lt_of_lt_of_le (Heap.lt_size e) (I.ok.cab x c hfn hc)))).trans e1⟩
    · obtain ⟨o', e1⟩ := I.base.there b o e hx
      exact ⟨o', (hs.2 b (Nat.ne_of_lt (Nat.lt_of_lt_of_le (Heap.lt_size e) (I.ok.cab x c hfn hc)))).trans e1⟩
    · by_cases hj : j = i
      · subst hj
        rw [hi] at e1; cases e1
        rw [List.getElem?_set_self hiσ] at e2
        cases e2
        exact ⟨u, r, .inr ⟨.inl hk, c, hc, hc'⟩⟩
      · rw [List.getElem?_set_ne (Ne.symm hj)] at e2
        obtain ⟨u', r', q⟩ := hl j y v' e1 e2 e3
        refine ⟨u', r', ?_⟩
        rcases q with q | ⟨k, c', e, z'⟩
        · exact .inl q
        · refine .inr ⟨k, c', e, z'.sameBut hs ?_⟩
          rintro rfl
          exact hj (nodup_ix hN e1 (I.ok.inj _ _ _ e hc ▸ hi))
    · by_cases hcc : c' = c
      · subst hcc; exact ⟨_, hc'⟩
      · obtain ⟨w2, z2⟩ := I.cell y c' e
        exact ⟨w2, z2.sameBut hs hcc⟩
    · obtain ⟨e, n, ne, nf, d⟩ := I.pin p hp
      refine ⟨(hs.2 p.1 ?_).trans e, n, ne, nf, d⟩
      intro q
      rw [q, hoc] at e
      have q' : oc = p.2 := Option.some.inj e
      exact d w' (by rw [← q']; exact hocd)
theorem store_ok {M : Model} {A : Around} {E : Value → Shared → Prop} {i : Nat} {x : Str} {v : V} {u : Value} {Q : Unit → Shared → Prop} (I : Inv X pins σ H s) (hN : X.N.Nodup) (hi : X.N[i]? = some x) (hx : Loc X.env.scope x) (r : RelV v u)
    (h : ∀ s', Inv X pins (σ.set i (some v)) H s' → Q () s') (hf : X.fn x = true ∨ X.env.scope.names.lookup x = some .local := by first | exact .inl rfl | exact .inr rfl | assumption) : wpAny M A (storeName X.env x u) Q E s :=
  store_ok2 I hN hi hx r (fun s' I' _ => h s' I') hf
theorem Inv.call' {s' : Shared} {ch : List Addr} (I : Inv X pins σ H s) (ho : s'.os = s.os) (u : Un (frs X.stack) ch H H' s.heap s'.heap) (hok : HOk X.prog X.w H' s'.heap) (hg : AllBare s'.gens)
    (hch : ∀ b ∈ ch, (b ∈ X.ex ∨ X.s₀.heap.objs.size ≤ b) ∧ b ≠ X.env.locals ∧ (∀ x c, X.env.cells.lookup x = some c → c ≠ b) ∧ ∀ p ∈ X.pn ++ pins, p.1 ≠ b) : Inv X pins σ H' s' := by
  obtain ⟨h', g', d', t', o'⟩ := s'
  have e : o' = s.os := ho
  subst e
  exact I.call (g' := g') (t' := t') (d' := d') u hok hg hch
end

/-! ### the judgements -/
abbrev XK := Value → Option Addr → Hp → Prop
abbrev St := List (Option V)
abbrev VK := V → Hp → Prop
abbrev TE := St → Hp → VK → Prop
abbrev TT := St → Hp → (Bool → Hp → Prop) → Prop
abbrev TA := St → Hp → (List V → Hp → Prop) → Prop
structure Ends where
  nx : St → Hp → Prop
  rt : VK
  bk : St → Hp → Prop := fun _ _ => False
  ct : St → Hp → Prop := fun _ _ => False
abbrev TS := Ends → St → Hp → Prop

def EP (X : Cx) (pins : List (Addr × Obj)) (σ : St) (Q : VK) (u : Value) (s' : Shared) : Prop := ∃ v H', Inv X pins σ H' s' ∧ RelV v u ∧ Q v H'
def TP (X : Cx) (pins : List (Addr × Obj)) (σ : St) (Q : Bool → Hp → Prop) (b : Bool) (s' : Shared) : Prop := ∃ H', Inv X pins σ H' s' ∧ Q b H'
def AP (X : Cx) (pins : List (Addr × Obj)) (σ : St) (Q : List V → Hp → Prop) (us : List Value) (s' : Shared) : Prop := ∃ vs H', Inv X pins σ H' s' ∧ Vals vs us ∧ Q vs H'
def SP (X : Cx) (pins : List (Addr × Obj)) (D : Ends) (f : Flow) (s' : Shared) : Prop :=
  match f with
  | .next => ∃ σ' H', Inv X pins σ' H' s' ∧ D.nx σ' H'
  | .brk => ∃ σ' H', Inv X pins σ' H' s' ∧ D.bk σ' H'
  | .cont => ∃ σ' H', Inv X pins σ' H' s' ∧ D.ct σ' H'
  | .ret u => ∃ v σ' H', Inv X pins σ' H' s' ∧ RelV v u ∧ D.rt v H'

def PE (X : Cx) (e : Expr) (t : TE) : Prop :=
  ∀ (pins : List (Addr × Obj)) (s : Shared) (σ : St) (H : Hp) (Q : VK), Inv X pins σ H s → t σ H Q → wpAny (model X.prog X.w) X.A (eval e X.env) (EP X pins σ Q) X.xe s
def PT (X : Cx) (e : Expr) (t : TT) : Prop :=
  ∀ (pins : List (Addr × Obj)) (s : Shared) (σ : St) (H : Hp) (Q : Bool → Hp → Prop), Inv X pins σ H s → t σ H Q → wpAny (model X.prog X.w) X.A (isTrue e X.env (eval e X.env)) (TP X pins σ Q) X.xe s
def PW (X : Cx) (e : Expr) (t : TT) : Prop :=
  ∀ (whole : Sem Value) (pins : List (Addr × Obj)) (s : Shared) (σ : St) (H : Hp) (Q : Bool → Hp → Prop), Inv X pins σ H s → t σ H Q → wpAny (model X.prog X.w) X.A (isTrue e X.env whole) (TP X pins σ Q) X.xe s
theorem PW.pt {X : Cx} {e : Expr} {t : TT} (h : PW X e t) : PT X e t := h _
def PA (X : Cx) (es : List Expr) (t : TA) : Prop :=
  ∀ (pos : Pos) (pins : List (Addr × Obj)) (s : Shared) (σ : St) (H : Hp) (Q : List V → Hp → Prop), Inv X pins σ H s → t σ H Q → wpAny (model X.prog X.w) X.A (spliced (backTo pos (starEach es X.env))) (AP X pins σ Q) X.xe s
def PS (X : Cx) (st : Stmt) (t : TS) : Prop :=
  ∀ (pins : List (Addr × Obj)) (s : Shared) (σ : St) (H : Hp) (D : Ends), Inv X pins σ H s → t D σ H → wpAny (model X.prog X.w) X.A (exec st X.env) (SP X pins D) X.xe s
def PSs (X : Cx) (st : List Stmt) (t : TS) : Prop :=
  ∀ (pins : List (Addr × Obj)) (s : Shared) (σ : St) (H : Hp) (D : Ends), Inv X pins σ H s → t D σ H → wpAny (model X.prog X.w) X.A (execs st X.env) (SP X pins D) X.xe s
theorem thn {α : Type} {t : Sem α} {Q Q' : α → Shared → Prop} {M : Model} {A : Around} {E : Value → Shared → Prop} {s : Shared} (h : wpAny M A t Q E s) (hQ : ∀ a s, Q a s → Q' a s) : wpAny M A t Q' E s := wpAny_mono h hQ fun _ _ x => x
end L2

namespace L2
open PySem PySem.Spec PyProof.Rows
section
variable {X : Cx}

/-! ### names and constants -/
def tVar (i : Nat) : TE := fun σ H Q => ∃ v, σ[i]? = some (some v) ∧ Q v H
def tC (v : V) : TE := fun _ H Q => Q v H
theorem pe_var {i : Nat} {x : Str} {pos : Pos} (hN : X.N[i]? = some x) (hv : Vis X.env.scope x) (hd : (x == ("__debug__" : Str)) = false := by decide) (hcd : (x == ("__classdict__" : Str)) = false := by decide) : PE X (.Name x pos) (tVar i) := by
  intro pins s σ H Q I h
  obtain ⟨v, e, h⟩ := h
  obtain ⟨m, hn, hl⟩ := I.loc
  obtain ⟨u, r, l⟩ := hl i x v hN e hv
  have fin : EP X pins σ Q u s := ⟨v, H, I, r, h⟩
  rcases l with ⟨hk, hm⟩ | ⟨hk, c, hc, hcell⟩
  · exact wpAny_Name (wpAny_loadName_local I.ok.kind hk hn hm fin) hd
  · rcases hk with hk | hk
    · exact wpAny_Name (wpAny_loadName_cell I.ok.kind hk hc hcell fin) hd
    · exact wpAny_Name (wpAny_loadName_free I.ok.kind hk hc hcell fin hcd) hd
theorem pe_int {i j pos} : PE X (.Constant (.int i) j pos) (tC (.int i)) := fun _ _ _ H _ I h => wpAny_Constant_int ⟨.int i, H, I.tok _, ⟨_, rfl⟩, h⟩
theorem pe_bl {b j pos} : PE X (.Constant (.bool b) j pos) (tC (.bl b)) := fun _ _ _ H _ I h => Constant_bool ⟨.bl b, H, I, rfl, h⟩
theorem pe_non {j pos} : PE X (.Constant .none j pos) (tC .non) := fun _ _ _ H _ I h => Constant_none ⟨.non, H, I, rfl, h⟩
theorem pe_str {x j pos} : PE X (.Constant (.str x) j pos) (tC (.str x)) := fun _ _ _ H _ I h => Calls.Constant_str ⟨.str x, H, I.tok _, ⟨_, rfl⟩, h⟩

def Gl (X : Cx) (x : Str) : Prop := X.env.kindOf x = some .globalImplicit
theorem ld_glob {E : Value → Shared → Prop} {pins : List (Addr × Obj)} {s : Shared} {σ : St} {H : Hp} {x : Str} {u : Value} {pos : Pos} {Q : Value → Shared → Prop} (I : Inv X pins σ H s) (hg : Gl X x) (hm : X.mg x = some u) (h : Q u s)
    (hd : (x == ("__debug__" : Str)) = false := by decide) : wpAny (model X.prog X.w) X.A (eval (.Name x pos) X.env) Q E s :=
  Calls.Name_function_global I.ok.kind hg (Calls.loadGlobal_global (by rw [I.ok.glob]; exact I.mod.glob.keeps I.bk) hm h) hd
theorem ld_blt {E : Value → Shared → Prop} {pins : List (Addr × Obj)} {s : Shared} {σ : St} {H : Hp} {x : Str} {u : Value} {pos : Pos} {Q : Value → Shared → Prop} (I : Inv X pins σ H s) (hg : Gl X x) (hm : X.mg x = none) (hv : bootBuiltins x = some u) (h : Q u s)
    (hn : x ≠ "__name__" := by decide) (hd : (x == ("__debug__" : Str)) = false := by decide) : wpAny (model X.prog X.w) X.A (eval (.Name x pos) X.env) Q E s := by
  obtain ⟨mb, h1, h2⟩ := I.mod.blt
  exact Calls.Name_function_global I.ok.kind hg (Calls.loadGlobal_builtin (by rw [I.ok.glob]; exact I.mod.glob.keeps I.bk) hm (by rw [I.ok.blt]; exact h1.keeps I.bk) ((h2 x hn).trans hv) h) hd
theorem pe_glob {x : Str} {v : V} {u : Value} {pos : Pos} (hg : Gl X x) (hm : X.mg x = some u) (r : RelV v u) (hd : (x == ("__debug__" : Str)) = false := by decide) : PE X (.Name x pos) (tC v) :=
  fun _ _ _ H _ I h => ld_glob I hg hm ⟨v, H, I, r, h⟩ hd
theorem pe_bltn {x : Str} {v : V} {u : Value} {pos : Pos} (hg : Gl X x) (hm : X.mg x = none) (hv : bootBuiltins x = some u) (r : RelV v u) (hn : x ≠ "__name__" := by decide) (hd : (x == ("__debug__" : Str)) = false := by decide) : PE X (.Name x pos) (tC v) :=
  fun _ _ _ H _ I h => ld_blt I hg hm hv ⟨v, H, I, r, h⟩ hn hd

/-! ### arithmetic -/
variable {a b : Expr} {ta tb : TE} {pos : Pos}
/-! ### comparisons -/
def tB (t : TE) : TT := fun σ H Q => t σ H fun x H1 => ∃ c, x = .bl c ∧ Q c H1
theorem pt_val {e : Expr} {t : TE} (h : PE X e t) (he : ∀ whole, isTrue e X.env whole = (do let v ← whole; standAt e.pos; holding [v] (truthy v)) := by intro _; rfl) : PT X e (tB t) := by
  intro pins s σ H Q I hw
  refine isTrue_plain (thn (h pins s σ H _ I hw) fun v s1 ⟨x, H1, I1, r1, q1⟩ => ?_) (he _)
  obtain ⟨d, rfl, q⟩ := q1
  cases r1
  exact wpAny_truthy_bool ⟨H1, I1, q⟩

/-! ### and, or, not -/
variable {tA tB' : TT} {rest : List Expr}
def tAnd (t u : TT) : TT := fun σ H Q => t σ H fun c H1 => if c = true then u σ H1 Q else Q false H1
def tOr (t u : TT) : TT := fun σ H Q => t σ H fun c H1 => if c = true then Q true H1 else u σ H1 Q
def tNot (t : TT) : TT := fun σ H Q => t σ H fun c H1 => Q (!c) H1
theorem pw_and1 (ha : PT X a tA) : PW X (.BoolOp .And [a] pos) tA := by
  intro wh pins s σ H Q I h
  refine isTrue_and (thn (ha pins s σ H Q I h) fun c s1 e => ?_)
  cases c with
  | true => exact isTrue_and_nil e
  | false => exact e
theorem pw_or1 (ha : PT X a tA) : PW X (.BoolOp .Or [a] pos) tA := by
  intro wh pins s σ H Q I h
  refine isTrue_or (thn (ha pins s σ H Q I h) fun c s1 e => ?_)
  cases c with
  | false => exact isTrue_or_nil e
  | true => exact e
theorem pw_and (ha : PT X a tA) (hb : PW X (.BoolOp .And (b :: rest) pos) tB') : PW X (.BoolOp .And (a :: b :: rest) pos) (tAnd tA tB') := by
  intro wh pins s σ H Q I h
  refine isTrue_and (thn (ha pins s σ H _ I h) fun c s1 ⟨H1, I1, q1⟩ => ?_)
  cases c with
  | true => exact hb wh pins s1 σ H1 Q I1 q1
  | false => exact ⟨H1, I1, q1⟩
theorem pw_or (ha : PT X a tA) (hb : PW X (.BoolOp .Or (b :: rest) pos) tB') : PW X (.BoolOp .Or (a :: b :: rest) pos) (tOr tA tB') := by
  intro wh pins s σ H Q I h
  refine isTrue_or (thn (ha pins s σ H _ I h) fun c s1 ⟨H1, I1, q1⟩ => ?_)
  cases c with
  | true => exact ⟨H1, I1, q1⟩
  | false => exact hb wh pins s1 σ H1 Q I1 q1
theorem pt_not (ha : PT X a tA) : PT X (.UnaryOp .Not a pos) (tNot tA) := by
  intro pins s σ H Q I h
  exact isTrue_not (ha pins s σ H (fun c H1 => Q (!c) H1) I h)
def tAndV (ta tb : TE) : TE := fun σ H Q => ta σ H fun x H1 => ∃ c, x = .bl c ∧ if c = true then tb σ H1 Q else Q (.bl false) H1
def tNotV (ta : TE) : TE := fun σ H Q => ta σ H fun x H1 => ∃ c, x = .bl c ∧ Q (.bl (!c)) H1
theorem pe_one {op} {t : TE} (h : PE X a t) : PE X (.BoolOp op [a] pos) t := fun pins s σ H Q I hw => BoolOp_one (h pins s σ H Q I hw)
theorem pe_and (ha : PE X a ta) (hb : PE X (.BoolOp .And (b :: rest) pos) tb) : PE X (.BoolOp .And (a :: b :: rest) pos) (tAndV ta tb) := by
  intro pins s σ H Q I h
  refine BoolOp_and (thn (ha pins s σ H _ I h) fun v s1 ⟨x, H1, I1, r1, q1⟩ => ?_)
  obtain ⟨c, rfl, q1⟩ := q1
  cases r1
  refine wpAny_truthy_bool ?_
  cases c with
  | true => exact hb pins s1 σ H1 Q I1 q1
  | false => exact ⟨.bl false, H1, I1, rfl, q1⟩
theorem pe_not (ha : PE X a ta) : PE X (.UnaryOp .Not a pos) (tNotV ta) := by
  intro pins s σ H Q I h
  refine UnaryOp_ (thn (ha pins s σ H _ I h) fun v s1 ⟨x, H1, I1, r1, q1⟩ => ?_)
  obtain ⟨c, rfl, q1⟩ := q1
  cases r1
  exact not_of (wpAny_truthy_bool ⟨.bl (!c), H1, I1, rfl, q1⟩)
def tIf (t : TT) (ta tb : TE) : TE := fun σ H Q => t σ H fun c H1 => if c = true then ta σ H1 Q else tb σ H1 Q
theorem pe_ifExp {c : Expr} (hc : PT X c tA) (ha : PE X a ta) (hb : PE X b tb) : PE X (.IfExp c a b pos) (tIf tA ta tb) := by
  intro pins s σ H Q I h
  refine wpAny_IfExp (thn (hc pins s σ H _ I h) fun d s1 ⟨H1, I1, q1⟩ => ?_)
  cases d with
  | true => exact ha pins s1 σ H1 Q I1 q1
  | false => exact hb pins s1 σ H1 Q I1 q1
end
end L2

namespace L2
open PySem PySem.Spec PyProof.Rows

/-! ### a list, a tuple that is read: tracked, frozen, or an object of the module -/
def SqL (K : PySem.W.Frag) (H : Hp) (a : Addr) (xs : List V) : Prop :=
  Rd H a (.lst xs) ∨
    ∃ (o : Obj) (its : Array Value) (n : Nat), K.lookup a = some o ∧ o.cls = .type "list" ∧ o.dict = none ∧ o.data = .seq its n ∧ its.size ≤ sizeLine ∧ Vals xs its.toList
def SqT (K : PySem.W.Frag) (H : Hp) (a : Addr) (xs : List V) : Prop :=
  Rd H a (.tup xs) ∨
    ∃ (o : Obj) (its : Array Value) (n : Nat), K.lookup a = some o ∧ o.cls = .type "tuple" ∧ o.data = .seq its n ∧ its.size ≤ sizeLine ∧ Vals xs its.toList
def absV : Value → Option V
  | .none => some .non
  | .bool b => some (.bl b)
  | .int i _ => some (.int i)
  | .str x _ => some (.str x)
  | .bytes b _ => some (.byt b)
  | .float b _ => some (.flt b)
  | .ref a => some (.ref a)
  | .type n => some (.ty n)
  | _ => none
theorem RelV.abs {x : V} {u : Value} (r : RelV x u) : absV u = some x := by
  cases x with
  | non => cases r; rfl
  | bl _ => cases r; rfl
  | int _ => obtain ⟨t, rfl⟩ := r; rfl
  | str _ => obtain ⟨t, rfl⟩ := r; rfl
  | byt _ => obtain ⟨t, rfl⟩ := r; rfl
  | flt _ => obtain ⟨t, rfl⟩ := r; rfl
  | ref _ => cases r; rfl
  | ty _ => cases r; rfl
theorem RelV.inj {x y : V} {u : Value} (r : RelV x u) (q : RelV y u) : x = y := Option.some.inj (r.abs.symm.trans q.abs)
theorem Vals.inj : ∀ {xs ys : List V} {us : List Value}, Vals xs us → Vals ys us → xs = ys
  | _, _, _, .nil, .nil => rfl
  | _, _, _, .cons r t, .cons r' t' => by rw [r.inj r', Vals.inj t t']
section
variable {X : Cx} {pins : List (Addr × Obj)} {σ : St} {H : Hp} {s : Shared} {a : Addr} {xs ys : List V}
theorem SqL.of {K : PySem.W.Frag} (h : H a = some (.lst xs)) : SqL K H a xs := .inl (.inl h)
theorem SqT.of {K : PySem.W.Frag} (h : H a = some (.tup xs)) : SqT K H a xs := .inl (.inl h)
theorem Inv.list (I : Inv X pins σ H s) (h : SqL X.K H a xs) : ∃ its : List Value, Vals xs its ∧ PlainL s.heap a its.toArray ∧ xs.length ≤ sizeLine := by
  rcases h with h | ⟨o, its, n, hk, hc, hd, hs, hz, r⟩
  · obtain ⟨z, its, n, r, e⟩ := h.ok I.hok
    exact ⟨its, r, ⟨_, n, e, rfl, rfl, rfl⟩, z⟩
  · refine ⟨its.toList, r, ⟨o, n, I.kIn a o hk, hc, hd, by simpa using hs⟩, ?_⟩
    have e := r.length
    simp only [Array.length_toList] at e
    omega
theorem Inv.tuple (I : Inv X pins σ H s) (h : SqT X.K H a xs) : ∃ its : List Value, Vals xs its ∧ IsTup s.heap a its.toArray ∧ xs.length ≤ sizeLine := by
  rcases h with h | ⟨o, its, n, hk, hc, hs, hz, r⟩
  · obtain ⟨z, its, r, p⟩ := h.ok I.hok
    exact ⟨its, r, p, z⟩
  · refine ⟨its.toList, r, ⟨o, I.kIn a o hk, hc, n, by simpa using hs⟩, ?_⟩
    have e := r.length
    simp only [Array.length_toList] at e
    omega
theorem Inv.list_inj (I : Inv X pins σ H s) (h : SqL X.K H a xs) (h' : SqL X.K H a ys) : xs = ys := by
  obtain ⟨its, r, ⟨o, n, e, _, _, d⟩, _⟩ := I.list h
  obtain ⟨its', r', ⟨o', n', e', _, _, d'⟩, _⟩ := I.list h'
  rw [e] at e'; cases e'
  rw [d] at d'
  injection d' with d1 _
  have : its = its' := by simpa using congrArg Array.toList d1
  subst this
  exact r.inj r'
theorem Inv.tuple_inj (I : Inv X pins σ H s) (h : SqT X.K H a xs) (h' : SqT X.K H a ys) : xs = ys := by
  obtain ⟨its, r, ⟨o, e, _, n, d⟩, _⟩ := I.tuple h
  obtain ⟨its', r', ⟨o', e', _, n', d'⟩, _⟩ := I.tuple h'
  rw [e] at e'; cases e'
  rw [d] at d'
  injection d' with d1 _
  have : its = its' := by simpa using congrArg Array.toList d1
  subst this
  exact r.inj r'
end

/-! ### another wish about exceptions -/
abbrev Cx.wish (X : Cx) (E : Value → Shared → Prop) : Cx := { X with xe := E }
abbrev Cx.nox (X : Cx) : Cx := X.wish fun _ _ => False
theorem Cx.Ok.wish {X : Cx} (ok : X.Ok) (E : Value → Shared → Prop) : (X.wish E).Ok :=
  ⟨ok.mod, ok.kind, ok.glob, ok.blt, ok.above, ok.inj, ok.has, ok.cab, ok.hd, ok.frames, ok.stk, ok.exf, ok.bs, ok.bsz, ok.noex, ok.exfs, ok.funs, ok.frf⟩
theorem Cx.Ok.unwish {X : Cx} {E : Value → Shared → Prop} (ok : (X.wish E).Ok) : X.Ok :=
  ⟨ok.mod, ok.kind, ok.glob, ok.blt, ok.above, ok.inj, ok.has, ok.cab, ok.hd, ok.frames, ok.stk, ok.exf, ok.bs, ok.bsz, ok.noex, ok.exfs, ok.funs, ok.frf⟩
section
variable {X : Cx} {pins : List (Addr × Obj)} {σ : St} {H : Hp} {s : Shared} {E : Value → Shared → Prop}
theorem Inv.wish (I : Inv X pins σ H s) (E : Value → Shared → Prop) : Inv (X.wish E) pins σ H s := ⟨I.ok.wish E, I.os, I.bare, I.base, I.loc, I.cell, I.free, I.freeC, I.pin, I.hok, I.len⟩
theorem Inv.unwish (I : Inv (X.wish E) pins σ H s) : Inv X pins σ H s := ⟨I.ok.unwish, I.os, I.bare, I.base, I.loc, I.cell, I.free, I.freeC, I.pin, I.hok, I.len⟩
theorem SP.unwish {D : Ends} {f : Flow} {s' : Shared} (h : SP (X.wish E) pins D f s') : SP X pins D f s' := by
  cases f with
  | next => obtain ⟨σ', H', I, q⟩ := h; exact ⟨σ', H', I.unwish, q⟩
  | brk => obtain ⟨σ', H', I, q⟩ := h; exact ⟨σ', H', I.unwish, q⟩
  | cont => obtain ⟨σ', H', I, q⟩ := h; exact ⟨σ', H', I.unwish, q⟩
  | ret u => obtain ⟨v, σ', H', I, r, q⟩ := h; exact ⟨v, σ', H', I.unwish, r, q⟩
theorem PE.nox {e : Expr} {t : TE} (h : PE X.nox e t) : PE X e t := fun pins s σ H Q I hw =>
  wpAny_mono (h pins s σ H Q (I.wish _) hw) (fun _ _ ⟨v, H', I', r, q⟩ => ⟨v, H', I'.unwish, r, q⟩) fun _ _ z => False.elim z
theorem PT.nox {e : Expr} {t : TT} (h : PT X.nox e t) : PT X e t := fun pins s σ H Q I hw =>
  wpAny_mono (h pins s σ H Q (I.wish _) hw) (fun _ _ ⟨H', I', q⟩ => ⟨H', I'.unwish, q⟩) fun _ _ z => False.elim z
theorem PSs.nox {st : List Stmt} {t : TS} (h : PSs X.nox st t) : PSs X st t := fun pins s σ H D I hw =>
  wpAny_mono (h pins s σ H D (I.wish _) hw) (fun _ _ q => q.unwish) fun _ _ z => False.elim z
end

/-! ### blocks and small statements -/
section
variable {X : Cx} {st : Stmt} {rest : List Stmt} {t u : TS} {e : Expr} {te : TE} {pos : Pos}
def tNext : TS := fun D σ H => D.nx σ H
def tSeq (t u : TS) : TS := fun D σ H => t { D with nx := u D } σ H
theorem pss_nil : PSs X [] tNext := fun _ _ σ H _ I h => wpAny_execs_nil ⟨σ, H, I, h⟩
theorem pss_cons (h1 : PS X st t) (h2 : PSs X rest u) : PSs X (st :: rest) (tSeq t u) := by
  intro pins s σ H D I h
  refine wpAny_execs_cons (thn (h1 pins s σ H { D with nx := u D } I h) fun f s1 q => ?_)
  cases f with
  | next =>
    obtain ⟨σ', H', I', q⟩ := q
    exact h2 pins s1 σ' H' D I' q
  | ret v => exact q
  | brk => exact q
  | cont => exact q
theorem pss_one (h1 : PS X st t) : PSs X [st] t := by
  intro pins s σ H D I h
  refine wpAny_execs_cons (thn (h1 pins s σ H D I h) fun f s1 q => ?_)
  cases f with
  | next => exact wpAny_execs_nil q
  | ret v => exact q
  | brk => exact q
  | cont => exact q
theorem Inv.quiet {pins : List (Addr × Obj)} {σ : St} {H : Hp} {s : Shared} (I : Inv X pins σ H s) : interactive X.env = false := by simp [interactive, I.ok.kind]
def tDrop (te : TE) : TS := fun D σ H => te σ H fun _ H1 => D.nx σ H1
theorem ps_expr (he : PE X e te) (hs : swapsWith e none pos.line X.env = pure false := by rfl) : PS X (.Expr e pos) (tDrop te) := by
  intro pins s σ H D I h
  exact wpAny_Expr_any (thn (he pins s σ H _ I h) fun v s1 ⟨x, H1, I1, r1, q1⟩ => ⟨σ, H1, I1, q1⟩) I.quiet hs
def tRet (te : TE) : TS := fun D σ H => te σ H D.rt
theorem ps_ret (he : PE X e te) : PS X (.Return (some e) pos) (tRet te) := by
  intro pins s σ H D I h
  exact wpAny_Return_some (thn (he pins s σ H _ I h) fun v s1 ⟨x, H1, I1, r1, q1⟩ => ⟨x, σ, H1, I1, r1, q1⟩)
def tIfS (c : TT) (t u : TS) : TS := fun D σ H => c σ H fun b H1 => if b = true then t D σ H1 else u D σ H1
theorem ps_if {c : Expr} {a b : List Stmt} {tc : TT} (hc : PT X c tc) (ha : PSs X a t) (hb : PSs X b u) : PS X (.If c a b pos) (tIfS tc t u) := by
  intro pins s σ H D I h
  refine wpAny_If (thn (hc pins s σ H _ I h) fun d s1 ⟨H1, I1, q1⟩ => ?_)
  cases d with
  | true => exact ha pins s1 σ H1 D I1 q1
  | false => exact hb pins s1 σ H1 D I1 q1
end

/-! ### targets -/
abbrev TG := V → St → Hp → (St → Hp → Prop) → Prop
abbrev TGs := List V → St → Hp → (St → Hp → Prop) → Prop
def PG (X : Cx) (target : Expr) (t : TG) : Prop :=
  ∀ (pins : List (Addr × Obj)) (s : Shared) (σ : St) (H : Hp) (v : V) (u : Value) (Q : St → Hp → Prop), Inv X pins σ H s → RelV v u → t v σ H Q →
    wpAny (model X.prog X.w) X.A (assign target X.env u) (fun _ s' => ∃ σ' H', Inv X pins σ' H' s' ∧ Q σ' H') X.xe s
def PGs (X : Cx) (ts : List Expr) (t : TGs) : Prop :=
  ∀ (pins : List (Addr × Obj)) (s : Shared) (σ : St) (H : Hp) (vs : List V) (us : List Value) (Q : St → Hp → Prop), Inv X pins σ H s → Vals vs us → t vs σ H Q →
    wpAny (model X.prog X.w) X.A (assignInOrder ((assignEach ts X.env).map (·.2)) us) (fun _ s' => ∃ σ' H', Inv X pins σ' H' s' ∧ Q σ' H') X.xe s
section
variable {X : Cx} {pos : Pos}
def gName (i : Nat) : TG := fun v σ H Q => Q (σ.set i (some v)) H
theorem pg_name {i : Nat} {x : Str} (hN : X.N.Nodup) (hi : X.N[i]? = some x) (hx : Loc X.env.scope x) (hf : X.fn x = true ∨ X.env.scope.names.lookup x = some .local := by first | exact .inl rfl | exact .inr rfl | assumption) : PG X (.Name x pos) (gName i) := by
  intro pins s σ H v u Q I r h
  exact wpAny_assign_Name (store_ok I hN hi hx r (fun s' I' => ⟨_, H, I', h⟩) hf)
def gNil : TGs := fun vs σ H Q => vs = [] ∧ Q σ H
def gCons (t : TG) (u : TGs) : TGs := fun vs σ H Q => ∃ v r, vs = v :: r ∧ t v σ H fun σ' H' => u r σ' H' Q
theorem pgs_nil : PGs X [] gNil := by
  intro pins s σ H vs us Q I r h
  obtain ⟨e, h⟩ := h
  subst e
  cases r
  exact assignInOrder_nil ⟨σ, H, I, h⟩
theorem pgs_cons {e : Expr} {es : List Expr} {t : TG} {u : TGs} (h1 : PG X e t) (h2 : PGs X es u)
    (hs : (assignEach (e :: es) X.env).map (·.2) = assign e X.env :: (assignEach es X.env).map (·.2) := by rfl) : PGs X (e :: es) (gCons t u) := by
  intro pins s σ H vs us Q I r h
  obtain ⟨v, vr, e1, h⟩ := h
  subst e1
  cases r with
  | cons r rr =>
    rw [hs]
    refine assignInOrder_cons (thn (h1 pins s σ H _ _ _ I r h) fun _ s1 ⟨σ1, H1, I1, q1⟩ => ?_)
    exact h2 pins s1 σ1 H1 _ _ Q I1 rr q1
def gTup (K : PySem.W.Frag) (n : Nat) (t : TGs) : TG := fun v σ H Q => ∃ a xs, v = .ref a ∧ SqT K H a xs ∧ xs.length = n ∧ t xs σ H Q
theorem pg_tup {es : List Expr} {k : Nat} {t : TGs} {n : Nat} (hc : X.calm = true) (h : PGs X es t)
    (hn : (assignEach es X.env).length = n := by rfl) (hst : (assignEach es X.env).findIdx? (·.1) = none := by rfl) : PG X (.Tuple es k pos) (gTup X.K n t) := by
  intro pins s σ H v u Q I r hw
  obtain ⟨a, xs, e1, hq, hl, hw⟩ := hw
  subst e1
  cases r
  obtain ⟨its, rv, ht, hz⟩ := I.tuple hq
  refine assign_Tuple_tuple (I.ok.hd hc) ht (by simp [hn, ← hl, rv.length]) hst fun h' hx => ?_
  have I1 : Inv X pins σ H { s with heap := h' } := I.kept (t' := s.toks) fun b o e => hx b o (Nat.ne_of_lt (Heap.lt_size e)) e
  exact h pins _ σ H xs _ Q I1 (by simpa using rv) hw
def tAsg (te : TE) (g : TG) : TS := fun D σ H => te σ H fun x H1 => g x σ H1 D.nx
theorem ps_set {i : Nat} {x : Str} {e : Expr} {te : TE} {pos' : Pos} (hN : X.N.Nodup) (hi : X.N[i]? = some x) (hx : Loc X.env.scope x) (he : PE X e te) (hs : swapsWith e (some (.Name x pos')) pos.line X.env = pure false := by rfl) (hf : X.fn x = true ∨ X.env.scope.names.lookup x = some .local := by first | exact .inl rfl | exact .inr rfl | assumption) :
    PS X (.Assign [.Name x pos'] e pos) (tAsg te (gName i)) := by
  intro pins s σ H D I h
  refine wpAny_Assign_Name (thn (he pins s σ H _ I h) fun v s1 ⟨y, H1, I1, r1, q1⟩ => ?_) hs
  exact store_ok I1 hN hi hx r1 (fun s2 I2 => ⟨_, H1, I2, q1⟩) hf
end

/-! ### while -/
section
variable {X : Cx} {pos : Pos}
end

/-! ### what a loop or a comprehension walks -/
structure It where
  go : Nat → Hp → Prop
  yld : Nat → Hp → V → Hp → Prop
  stop : Nat → Hp → Prop
def FpOk (X : Cx) (pins : List (Addr × Obj)) (H : Hp) (b : Addr) : Prop :=
  H b = none ∧ b ≠ X.env.locals ∧ b ∉ X.fs ∧ (b ∈ X.ex ∨ X.s₀.heap.objs.size ≤ b) ∧ (∀ x c, X.env.cells.lookup x = some c → c ≠ b) ∧ ∀ p ∈ X.pn ++ pins, p.1 ≠ b
theorem Inv.fpOk {X : Cx} {pins : List (Addr × Obj)} {σ : St} {H H' : Hp} {s : Shared} {b : Addr} (I : Inv X pins σ H s) (hb : s.heap.objs.size ≤ b) (hn : H' b = none) : FpOk X pins H' b := by
  refine ⟨hn, Nat.ne_of_gt (Nat.lt_of_lt_of_le I.lt hb), I.nofs hb, .inr (Nat.le_trans I.sz hb), fun x c e z => ?_, fun p hp z => ?_⟩
  · obtain ⟨v, q⟩ := I.cell x c e
    exact absurd (Nat.lt_of_lt_of_le q.lt (by rw [z]; exact hb)) (Nat.lt_irrefl _)
  · exact absurd (Nat.lt_of_lt_of_le (Heap.lt_size (I.pin p hp).1) (by rw [z]; exact hb)) (Nat.lt_irrefl _)
structure Turn (P : Program) (w : World) (K : PySem.W.Frag) (tg : Expr) (J : It) (fp : List Addr) (it : Addr) (tn : Nat → Heap → Prop) : Prop where
  mem : it ∈ fp
  obj : ∀ i h, tn i h → ∀ b ∈ fp, ∃ o, h.get? b = some o ∧ ∀ v, o.data ≠ .cell v
  keep : ∀ i h h', tn i h → (∀ b ∈ fp, ∀ o, h.get? b = some o → h'.get? b = some o) → tn i h'
  item : ∀ (X : Cx), X.prog = P → X.w = w → X.K = K → X.calm = true → ∀ (i : Nat) (pins : List (Addr × Obj)) (s : Shared) (σ : St) (H : Hp) (E : Value → Shared → Prop), Inv X pins σ H s → (∀ b ∈ fp, FpOk X pins H b) → tn i s.heap → J.go i H →
    wpAny (model P w) X.A (pyNext (.ref it)) (fun r s1 => ∃ u, r = some u ∧
      wpAny (model P w) X.A (letOwnedTupleGo tg (.ref it) u) (fun _ s2 => ∃ x H', Inv X pins σ H' s2 ∧ RelV x u ∧ J.yld i H x H' ∧ tn (i + 1) s2.heap ∧ ∀ b ∈ fp, H' b = none) E s1) E s
  done : ∀ (X : Cx), X.prog = P → X.w = w → X.K = K → X.calm = true → ∀ (i : Nat) (pins : List (Addr × Obj)) (s : Shared) (σ : St) (H : Hp) (E : Value → Shared → Prop), Inv X pins σ H s → (∀ b ∈ fp, FpOk X pins H b) → tn i s.heap → J.stop i H →
    wpAny (model P w) X.A (pyNext (.ref it)) (fun r s1 => r = none ∧ Inv X pins σ H s1) E s
  self : ∀ (A : Around) (i : Nat) (s : Shared) (Q : Value → Shared → Prop) (E : Value → Shared → Prop), tn i s.heap → Q (.ref it) s → wpAny (model P w) A (pyIter (.ref it)) Q E s
abbrev TI := St → Hp → (It → Hp → Prop) → Prop
def PIE (X : Cx) (pins : List (Addr × Obj)) (σ : St) (tg : Expr) (R : It → Hp → Prop) (itv : Value) (s2 : Shared) : Prop :=
  ∃ (it : Addr) (fp : List Addr) (tn : Nat → Heap → Prop) (J : It) (H' : Hp), itv = .ref it ∧ Inv X pins σ H' s2 ∧ Turn X.prog X.w X.K tg J fp it tn ∧ tn 0 s2.heap ∧ (∀ b ∈ fp, FpOk X pins H' b) ∧ R J H'
def PI (X : Cx) (tg iter : Expr) (wi : TI) : Prop :=
  ∀ (pins : List (Addr × Obj)) (s : Shared) (σ : St) (H : Hp) (R : It → Hp → Prop), Inv X pins σ H s → wi σ H R →
    wpAny (model X.prog X.w) X.A (eval iter X.env) (fun v s1 => wpAny (model X.prog X.w) X.A (pyIter v) (PIE X pins σ tg R) X.xe s1) X.xe s

theorem go_of {M : Model} {A : Around} {E : Value → Shared → Prop} {s : Shared} {tg : Expr} {it : Addr} {u : Value} {o : Obj} {n : String} {vs : Array Value} {Q : Unit → Shared → Prop} (ho : s.heap.get? it = some o) (hc : o.cls = .type n) (hd : o.data = .fields vs)
    (hn : ["enumerate", "zip", "dict_itemiterator", "dict_reverseitemiterator", "odict_iterator", "itertools.zip_longest", "itertools.pairwise"].contains n = false) (hQ : Q () s) : wpAny M A (letOwnedTupleGo tg (.ref it) u) Q E s := by
  unfold letOwnedTupleGo
  cases tg <;> first
    | exact wpAny_pure hQ
    | (cases u <;> first
        | exact wpAny_pure hQ
        | (refine wpAny_bind (wpAny_load ho ?_)
           rw [hc, hd]
           show wpAny M A (if (["enumerate", "zip", "dict_itemiterator", "dict_reverseitemiterator", "odict_iterator", "itertools.zip_longest", "itertools.pairwise"].contains n && vs[0]? == some (rawInt _)) = true then _ else _) Q E s
           rw [if_neg (by intro h; rw [hn, Bool.false_and] at h; cases h)]
           exact wpAny_pure hQ))

def Itl (K : PySem.W.Frag) (a : Addr) : It :=
  ⟨fun i H => ∃ xs x, SqL K H a xs ∧ xs[i]? = some x, fun i H x H' => H' = H ∧ ∀ xs, SqL K H a xs → xs[i]? = some x, fun i H => ∃ xs, SqL K H a xs ∧ xs.length ≤ i⟩
theorem turn_list {P : Program} {w : World} {K : PySem.W.Frag} {tg : Expr} (a it : Addr) : Turn P w K tg (Itl K a) [it] it (fun i h => h.IsListIter it a i) where
  mem := by simp
  obj := fun i h st b hb => by
    have e : b = it := by simpa using hb
    subst e
    obtain ⟨o, e, c, d⟩ := st
    exact ⟨o, e, fun v z => by rw [d] at z; cases z⟩
  keep := fun i h h' st k => st.at fun o e => k it (by simp) o e
  item := by
    intro X hP hw hK hc i pins s σ H E I hf st hg
    subst hP hw hK
    obtain ⟨xs, x, hq, hx⟩ := hg
    obtain ⟨its, rv, p, hz⟩ := I.list hq
    obtain ⟨u, hu, ru⟩ := rv.get hx
    obtain ⟨f0, f1, f2, f3, f4, f5⟩ := hf it (by simp)
    refine wpAny_pyNext_list_item st p.isList (x := u) (by simpa using hu) fun h' st' sb => ?_
    have I1 : Inv X pins σ H { s with heap := h' } := I.turned (t' := s.toks) (fun b o hb e => (sb.2 b hb).trans e) f0 f1 f3 f4 f5
    obtain ⟨o, e, c, d⟩ := id st'
    exact ⟨u, rfl, go_of (s := { s with heap := h' }) e c d (by decide) ⟨x, H, I1, ru, ⟨rfl, fun ys hy => by rw [I.list_inj hy hq]; exact hx⟩, st', fun b hb => (hf b hb).1⟩⟩
  done := by
    intro X hP hw hK hc i pins s σ H E I hf st hg
    subst hP hw hK
    obtain ⟨xs, hq, hx⟩ := hg
    obtain ⟨its, rv, p, hz⟩ := I.list hq
    obtain ⟨f0, f1, f2, f3, f4, f5⟩ := hf it (by simp)
    have hl := rv.length
    exact wpAny_pyNext_list_end (I.ok.hd hc) st p.isList (by simp; omega) fun h' eb => ⟨rfl, I.turned (t' := s.toks) (fun b o hb e => eb b o hb e) f0 f1 f3 f4 f5⟩
  self := fun _ _ _ _ _ st h => wpAny_pyIter_listiter st h
end L2

namespace L2
open PySem PySem.Spec PyProof.Rows
section
variable {X : Cx} {tg : Expr}
def iList (K : PySem.W.Frag) (tl : TE) : TI := fun σ H R => tl σ H fun x H1 => ∃ a, x = .ref a ∧ (∃ xs, SqL K H1 a xs) ∧ R (Itl K a) H1
theorem pi_list {l : Expr} {tl : TE} (hl : PE X l tl) : PI X tg l (iList X.K tl) := by
  intro pins s σ H R I h
  refine thn (hl pins s σ H _ I h) fun v s1 ⟨x, H1, I1, r1, q1⟩ => ?_
  obtain ⟨a, e, ⟨xs, hq⟩, q⟩ := q1
  subst e
  cases r1
  obtain ⟨its, rv, p, hz⟩ := I1.list hq
  refine wpAny_pyIter_list p.isList ?_
  refine ⟨s1.heap.objs.size, [s1.heap.objs.size], _, _, H1, rfl, I1.kept (t' := s1.toks) fun b o e => Heap.get?_push_of_some _ e, turn_list a _, ⟨_, Heap.get?_push_size _ rfl, rfl, rfl⟩, fun b hb => ?_, q⟩
  have e : b = s1.heap.objs.size := by simpa using hb
  subst e
  exact I1.fpOk (Nat.le_refl _) (I1.hok.fresh (Nat.le_refl _))
/-! ### for -/
def tFor (wi : TI) (g : TG) (tb : TS) : TS := fun D σ H => wi σ H fun J H1 => ∃ W : Nat → Nat → St → Hp → Prop, (∃ m, W 0 m σ H1) ∧ ∀ i m σ H, W i m σ H →
  (J.stop i H ∧ D.nx σ H) ∨ (J.go i H ∧ ∃ N : St → Hp → Prop, (∀ σ' H', N σ' H' → ∃ m', m' < m ∧ W (i + 1) m' σ' H') ∧ ∀ x H', J.yld i H x H' → g x σ H' fun σ2 H2 => tb { D with nx := N, ct := N, bk := D.nx } σ2 H2)
def pinsAt (fp : List Addr) (h : Heap) : List (Addr × Obj) := fp.filterMap fun b => (h.get? b).map fun o => (b, o)
theorem mem_pinsAt {fp : List Addr} {h : Heap} {b : Addr} {o : Obj} (hb : b ∈ fp) (e : h.get? b = some o) : (b, o) ∈ pinsAt fp h := List.mem_filterMap.mpr ⟨b, hb, by rw [e]; rfl⟩
theorem of_pinsAt {fp : List Addr} {h : Heap} {p : Addr × Obj} (hp : p ∈ pinsAt fp h) : p.1 ∈ fp ∧ h.get? p.1 = some p.2 := by
  obtain ⟨b, hb, e⟩ := List.mem_filterMap.mp hp
  cases q : h.get? b with
  | none => rw [q] at e; cases e
  | some o =>
    rw [q] at e
    have e' : (b, o) = p := Option.some.inj e
    subst e'
    exact ⟨hb, q⟩
theorem Inv.pinned {pins : List (Addr × Obj)} {σ : St} {H : Hp} {s : Shared} {fp : List Addr} (I : Inv X pins σ H s) (hf : ∀ b ∈ fp, FpOk X pins H b) (ho : ∀ b ∈ fp, ∃ o, s.heap.get? b = some o ∧ ∀ v, o.data ≠ .cell v) : Inv X (pins ++ pinsAt fp s.heap) σ H s :=
  I.pins_of fun p hp => (List.mem_append.mp hp).elim (fun z => I.pin p (List.mem_append_right _ z)) fun z => by
    obtain ⟨hb, e⟩ := of_pinsAt z
    obtain ⟨f0, f1, f2, _⟩ := hf p.1 hb
    obtain ⟨o, e', d⟩ := ho p.1 hb
    rw [e] at e'; cases e'
    exact ⟨e, f0, f1, f2, d⟩
theorem Inv.unpinned {pins pl : List (Addr × Obj)} {σ : St} {H : Hp} {s : Shared} (I : Inv X (pins ++ pl) σ H s) : Inv X pins σ H s := I.pins_of fun p hp => I.pin p (List.mem_append_right _ (List.mem_append_left _ hp))
theorem ps_for {iter : Expr} {body : List Stmt} {wi : TI} {g : TG} {tb : TS} {pos : Pos} (hp : PassesOwn (model X.prog X.w) X.A X.env X.xe) (hc : X.calm = true) (hi : PI X tg iter wi) (hg : PG X tg g) (hb : PSs X body tb)
    (hs : ∀ x, foldedSetIterable iter X.env x = pure x := by intro _; rfl) : PS X (.For tg iter body [] pos) (tFor wi g tb) := by
  intro pins s σ H D I h
  refine wpAny_For (thn (hi pins s σ H _ I h) fun v s1 h1 => thn h1 fun itv s2 h2 => ?_) hs
  obtain ⟨it, fp, tn, J, H2, e, I2, T, st2, f2, W, ⟨m0, w0⟩, turn⟩ := h2
  subst e
  -- what stays true of the iterator's objects through the loop
  have stat : ∀ {H' : Hp}, (∀ b ∈ fp, H' b = none) → ∀ b ∈ fp, FpOk X pins H' b := fun hn b hb => ⟨hn b hb, (f2 b hb).2⟩
  refine codeAny_forLoop_any (fun n s' => ∃ i σ' H', Inv X pins σ' H' s' ∧ tn i s'.heap ∧ (∀ b ∈ fp, H' b = none) ∧ W i n σ' H') ?_ m0 ⟨0, σ, H2, I2, st2, fun b hb => (f2 b hb).1, w0⟩
  rintro n s3 ⟨i, σ3, H3, I3, st3, fr3, w3⟩
  rcases turn i n σ3 H3 w3 with ⟨stop, qn⟩ | ⟨go, N, hN, step⟩
  · refine wpAny_passesOwn hp (thn (T.done X rfl rfl rfl hc i pins s3 σ3 H3 X.xe I3 (stat fr3) st3 stop) fun r s4 ⟨hr, I4⟩ => ?_)
    subst hr
    exact wpAny_execs_nil ⟨σ3, H3, I4, qn⟩
  · refine wpAny_passesOwn hp (thn (T.item X rfl rfl rfl hc i pins s3 σ3 H3 X.xe I3 (stat fr3) st3 go) fun r s4 ⟨u, hr, h4⟩ => ?_)
    subst hr
    refine wpAny_passesOwn hp (thn h4 fun _ s5 ⟨x, H5, I5, r5, y5, st5, fr5⟩ => ?_)
    have I5' := I5.pinned (stat fr5) (T.obj _ _ st5)
    refine wpAny_passesOwn hp (thn (hg _ s5 σ3 H5 x u _ I5' r5 (step x H5 y5)) fun _ s6 ⟨σ6, H6, I6, q6⟩ => ?_)
    refine wpAny_passesOwn hp (thn (hb _ s6 σ6 H6 _ I6 q6) fun f s7 q7 => ?_)
    have again : ∀ {σ7 : St} {H7 : Hp}, Inv X (pins ++ pinsAt fp s5.heap) σ7 H7 s7 → N σ7 H7 → ∃ m, m < n ∧ ∃ i σ' H', Inv X pins σ' H' s7 ∧ tn i s7.heap ∧ (∀ b ∈ fp, H' b = none) ∧ W i m σ' H' := fun {σ7 H7} I7 n7 => by
      obtain ⟨m', hm, w7⟩ := hN σ7 H7 n7
      refine ⟨m', hm, i + 1, σ7, H7, I7.unpinned, T.keep _ _ _ st5 fun b hb o e => (I7.pin (b, o) (List.mem_append_right _ (List.mem_append_right _ (mem_pinsAt hb e)))).1, fun b hb => ?_, w7⟩
      obtain ⟨o, e, d⟩ := T.obj _ _ st5 b hb
      exact (I7.pin (b, o) (List.mem_append_right _ (List.mem_append_right _ (mem_pinsAt hb e)))).2.1
    cases f with
    | next => obtain ⟨σ7, H7, I7, n7⟩ := q7; exact again I7 n7
    | cont => obtain ⟨σ7, H7, I7, n7⟩ := q7; exact again I7 n7
    | brk => obtain ⟨σ7, H7, I7, q7⟩ := q7; exact ⟨σ7, H7, I7.unpinned, q7⟩
    | ret v => obtain ⟨x7, σ7, H7, I7, r7, q7⟩ := q7; exact ⟨x7, σ7, H7, I7.unpinned, r7, q7⟩
end

/-! ### the forms one uses -/
end L2

namespace L2
open PySem PySem.Spec PyProof.Rows

abbrev R2 := V → V → Hp → VK → Prop
def OpR (X : Cx) (f : Value → Value → Sem Value) (r : R2) : Prop :=
  ∀ (pins : List (Addr × Obj)) (s : Shared) (σ : St) (H : Hp) (x y : V) (v u : Value) (Q : VK), Inv X pins σ H s → RelV x v → RelV y u → r x y H Q →
    wpAny (model X.prog X.w) X.A (f v u) (EP X pins σ Q) X.xe s
def UnR (X : Cx) (f : Value → Sem Value) (r : V → Hp → VK → Prop) : Prop :=
  ∀ (pins : List (Addr × Obj)) (s : Shared) (σ : St) (H : Hp) (x : V) (v : Value) (Q : VK), Inv X pins σ H s → RelV x v → r x H Q →
    wpAny (model X.prog X.w) X.A (f v) (EP X pins σ Q) X.xe s
def CallR (X : Cx) (f : Value) (r : List V → Hp → VK → Prop) : Prop :=
  ∀ (pins : List (Addr × Obj)) (s : Shared) (σ : St) (H : Hp) (xs : List V) (us : List Value) (Q : VK), Inv X pins σ H s → Vals xs us → r xs H Q →
    wpAny (model X.prog X.w) X.A (call f us) (EP X pins σ Q) X.xe s
def tOp (r : R2) (ta tb : TE) : TE := fun σ H Q => ta σ H fun x H1 => tb σ H1 fun y H2 => r x y H2 Q
def tUn (r : V → Hp → VK → Prop) (ta : TE) : TE := fun σ H Q => ta σ H fun x H1 => r x H1 Q
def rI (C : Int → Int → Prop) (g : Int → Int → V) : R2 := fun x y H Q => ∃ i j, x = .int i ∧ y = .int j ∧ C i j ∧ Q (g i j) H
def rI0 (g : Int → Int → V) : R2 := fun x y H Q => ∃ i j, x = .int i ∧ y = .int j ∧ Q (g i j) H
def rU (g : Int → V) : V → Hp → VK → Prop := fun x H Q => ∃ i, x = .int i ∧ Q (g i) H

section
variable {X : Cx} {a b c : Expr} {ta tb tc : TE} {pos : Pos}

theorem binT (ha : PE X a ta) (hb : PE X b tb) {pins : List (Addr × Obj)} {s : Shared} {σ : St} {H : Hp} {R : V → V → Hp → Prop} (I : Inv X pins σ H s)
    (h : ta σ H fun x H1 => tb σ H1 fun y H2 => R x y H2) {Q : Value → Shared → Prop} {f : Value → Value → Sem Value}
    (hf : ∀ v u s2 x y H2, Inv X pins σ H2 s2 → RelV x v → RelV y u → R x y H2 → wpAny (model X.prog X.w) X.A (f v u) Q X.xe s2) :
    wpAny (model X.prog X.w) X.A (eval a X.env) (fun v s₁ => wpAny (model X.prog X.w) X.A (eval b X.env) (fun u s₂ => wpAny (model X.prog X.w) X.A (f v u) Q X.xe s₂) X.xe s₁) X.xe s := by
  refine thn (ha pins s σ H _ I h) fun v s1 ⟨x, H1, I1, r1, q1⟩ => ?_
  refine thn (hb pins s1 σ H1 _ I1 q1) fun u s2 ⟨y, H2, I2, r2, q2⟩ => ?_
  exact hf v u s2 x y H2 I2 r1 r2 q2

theorem pe_op {op : Operator} {r : R2} (ho : OpR X (binaryOp op) r) (ha : PE X a ta) (hb : PE X b tb) : PE X (.BinOp a op b pos) (tOp r ta tb) := by
  intro pins s σ H Q I h
  exact wpAny_BinOp (binT ha hb I h fun v u s2 x y H2 I2 rx ry q => ho pins s2 σ H2 x y v u Q I2 rx ry q)
theorem pe_un {op : UnaryOp} {r : V → Hp → VK → Prop} (ho : UnR X (unaryOp op) r) (ha : PE X a ta) : PE X (.UnaryOp op a pos) (tUn r ta) := by
  intro pins s σ H Q I h
  exact UnaryOp_ (thn (ha pins s σ H _ I h) fun v s1 ⟨x, H1, I1, r1, q1⟩ => ho pins s1 σ H1 x v Q I1 r1 q1)
/-! ### ints -/
theorem opI {f : Value → Value → Sem Value} {C : Int → Int → Prop} {g : Int → Int → Int}
    (rule : ∀ (i j : Int) (t u : Tok) (s : Shared) (Q : Value → Shared → Prop) (E : Value → Shared → Prop), C i j → Q (.int (g i j) s.toks) { s with toks := s.toks + 1 } → wpAny (model X.prog X.w) X.A (f (.int i t) (.int j u)) Q E s) :
    OpR X f (rI C fun i j => .int (g i j)) := by
  intro pins s σ H x y v u Q I rx ry h
  obtain ⟨i, j, rfl, rfl, hc, q⟩ := h
  obtain ⟨t, rfl⟩ := rx
  obtain ⟨t', rfl⟩ := ry
  exact rule i j t t' s _ _ hc ⟨.int (g i j), H, I.tok _, ⟨_, rfl⟩, q⟩
theorem opI0 {f : Value → Value → Sem Value} {g : Int → Int → Int}
    (rule : ∀ (i j : Int) (t u : Tok) (s : Shared) (Q : Value → Shared → Prop) (E : Value → Shared → Prop), Q (.int (g i j) s.toks) { s with toks := s.toks + 1 } → wpAny (model X.prog X.w) X.A (f (.int i t) (.int j u)) Q E s) :
    OpR X f (rI0 fun i j => .int (g i j)) := by
  intro pins s σ H x y v u Q I rx ry h
  obtain ⟨i, j, rfl, rfl, q⟩ := h
  obtain ⟨t, rfl⟩ := rx
  obtain ⟨t', rfl⟩ := ry
  exact rule i j t t' s _ _ ⟨.int (g i j), H, I.tok _, ⟨_, rfl⟩, q⟩
theorem opB0 {f : Value → Value → Sem Value} {g : Int → Int → Bool}
    (rule : ∀ (i j : Int) (t u : Tok) (s : Shared) (Q : Value → Shared → Prop) (E : Value → Shared → Prop), Q (.bool (g i j)) s → wpAny (model X.prog X.w) X.A (f (.int i t) (.int j u)) Q E s) :
    OpR X f (rI0 fun i j => .bl (g i j)) := by
  intro pins s σ H x y v u Q I rx ry h
  obtain ⟨i, j, rfl, rfl, q⟩ := h
  obtain ⟨t, rfl⟩ := rx
  obtain ⟨t', rfl⟩ := ry
  exact rule i j t t' s _ _ ⟨.bl (g i j), H, I, rfl, q⟩

def CDiv (i j : Int) : Prop := 0 < j ∧ j < 1073741824
def CPow (i j : Int) : Prop := 0 ≤ j ∧ j ≤ 1000000 ∧ i.natAbs < 2 ^ 64
def CMul (i j : Int) : Prop := (-(2 ^ 64) < i ∧ i < 2 ^ 64) ∨ (-(2 ^ 64) < j ∧ j < 2 ^ 64)
theorem CMul.ok {i j : Int} (h : CMul i j) : IntMulOk i j := by
  rcases h with ⟨h1, h2⟩ | ⟨h1, h2⟩
  · exact .of_left (intBits_le_64 h1 h2)
  · exact .of_right (intBits_le_64 h1 h2)
theorem op_add : OpR X (binaryOp .Add) (rI0 fun i j => .int (i + j)) := opI0 fun _ _ _ _ _ _ _ q => add_int q
theorem op_sub : OpR X (binaryOp .Sub) (rI0 fun i j => .int (i - j)) := opI0 fun _ _ _ _ _ _ _ q => sub_int q
theorem op_mul : OpR X (binaryOp .Mult) (rI CMul fun i j => .int (i * j)) := opI fun _ _ _ _ _ _ _ hc q => mul_int q hc.ok
theorem op_fdiv : OpR X (binaryOp .FloorDiv) (rI CDiv fun i j => .int (i / j)) := opI fun i j _ _ _ _ _ hc q => by
  have h1 : (0 : Int) < j := hc.1
  have h2 : j < 1073741824 := hc.2
  exact floordiv_int (by omega) (by rw [Int.fdiv_eq_ediv_of_nonneg i (by omega)]; exact q) (.inl (PyProof.noPylong_small (by omega)))
theorem op_mod : OpR X (binaryOp .Mod) (rI (fun _ j => 0 < j) fun i j => .int (i % j)) := opI fun i j _ _ _ _ _ hc q => by
  have h1 : (0 : Int) < j := hc
  exact mod_int' (by omega) (by rw [Int.fmod_eq_emod_of_nonneg i (by omega)]; exact q)
theorem op_pow : OpR X (binaryOp .Pow) (rI CPow fun i j => .int (i ^ j.toNat)) := opI fun _ _ _ _ _ _ _ hc q => pow_int_small hc.1 hc.2.1 hc.2.2 q
theorem unI {f : Value → Sem Value} {g : Int → Int}
    (rule : ∀ (i : Int) (t : Tok) (s : Shared) (Q : Value → Shared → Prop) (E : Value → Shared → Prop), Q (.int (g i) s.toks) { s with toks := s.toks + 1 } → wpAny (model X.prog X.w) X.A (f (.int i t)) Q E s) :
    UnR X f (rU fun i => .int (g i)) := by
  intro pins s σ H x v Q I rx h
  obtain ⟨i, rfl, q⟩ := h
  obtain ⟨t, rfl⟩ := rx
  exact rule i t s _ _ ⟨.int (g i), H, I.tok _, ⟨_, rfl⟩, q⟩
theorem un_neg : UnR X (unaryOp .USub) (rU fun i => .int (-i)) := unI fun _ _ _ _ _ q => neg_int q
/-! ### bools among ints: n += (a < b) -/
end

/-! ### comparisons -/
section
variable {X : Cx} {a b c : Expr} {ta tb tc : TE} {pos : Pos}
theorem op_lt : OpR X (compareOp .Lt) (rI0 fun i j => .bl (decide (i < j))) := opB0 fun _ _ _ _ _ _ _ q => lt_int q
theorem op_gt : OpR X (compareOp .Gt) (rI0 fun i j => .bl (decide (j < i))) := opB0 fun _ _ _ _ _ _ _ q => gt_int q
theorem OpR.or {f : Value → Value → Sem Value} {r r' : R2} (h : OpR X f r) (h' : OpR X f r') : OpR X f (fun x y H Q => r x y H Q ∨ r' x y H Q) := by
  intro pins s σ H x y v u Q I rx ry q
  rcases q with q | q
  · exact h pins s σ H x y v u Q I rx ry q
  · exact h' pins s σ H x y v u Q I rx ry q

theorem nomark (b : Expr) {op : CmpOp} (h : op ≠ .In := by decide) (h2 : op ≠ .NotIn := by decide) : behindInMarks op b = false := by
  have e1 : (op == CmpOp.In) = false := by cases op <;> first | rfl | exact absurd rfl h
  have e2 : (op == CmpOp.NotIn) = false := by cases op <;> first | rfl | exact absurd rfl h2
  cases b <;> simp [behindInMarks, e1, e2]
theorem pe_cmpR {op : CmpOp} {r : R2} (ho : OpR X (compareOp op) r) (ha : PE X a ta) (hb : PE X b tb) (hm : behindInMarks op b = false) : PE X (.Compare a [op] [b] pos) (tOp r ta tb) := by
  intro pins s σ H Q I h
  exact wpAny_Compare1 (binT ha hb I h fun v u s2 x y H2 I2 rx ry q => ho pins s2 σ H2 x y v u Q I2 rx ry q) hm
def tTest (t : TE) : TT := fun σ H Q => t σ H fun x H' => ∃ k, x = .bl k ∧ Q k H'
theorem pt_cmpR {op : CmpOp} {r : R2} (ho : OpR X (compareOp op) r) (ha : PE X a ta) (hb : PE X b tb) (hm : behindInMarks op b = false) : PT X (.Compare a [op] [b] pos) (tTest (tOp r ta tb)) := by
  intro pins s σ H Q I h
  refine wpAny_isTrue_Compare1 (thn (ha pins s σ H _ I h) fun v s1 ⟨x, H1, I1, r1, q1⟩ => thn (hb pins s1 σ H1 _ I1 q1) fun u s2 ⟨y, H2, I2, r2, q2⟩ =>
    thn (ho pins s2 σ H2 x y v u _ I2 r1 r2 q2) fun c s3 ⟨z, H3, I3, r3, k, e, q3⟩ => ?_) hm
  subst e
  cases r3
  exact wpAny_truthy_bool ⟨H3, I3, q3⟩
/-! ### truth -/
theorem line63 : (sizeLine : Nat) < 2 ^ 63 := by rw [sizeLine_eq]; decide
/-! ### strs and bytes -/
theorem op_add_str : OpR X (binaryOp .Add) (fun x y H Q => ∃ i j, x = .str i ∧ y = .str j ∧ i.length + j.length ≤ sizeLine ∧ Q (.str (i ++ j)) H) := by
  intro pins s σ H x y v u Q I rx ry h
  obtain ⟨i, j, rfl, rfl, hz, q⟩ := h
  obtain ⟨t, rfl⟩ := rx
  obtain ⟨t', rfl⟩ := ry
  exact add_str (fun t' tk => ⟨.str (i ++ j), H, I.tok _, ⟨_, rfl⟩, q⟩) hz
/-! ### scalar builtins, by CallR -/
theorem vals1 {x : V} {us : List Value} (r : Vals [x] us) : ∃ u, us = [u] ∧ RelV x u := by
  cases r with
  | cons r1 r2 => cases r2; exact ⟨_, rfl, r1⟩
theorem vals2 {x y : V} {us : List Value} (r : Vals [x, y] us) : ∃ u w', us = [u, w'] ∧ RelV x u ∧ RelV y w' := by
  cases r with
  | cons r1 r2 =>
    cases r2 with
    | cons r3 r4 => cases r4; exact ⟨_, _, rfl, r1, r3⟩
theorem call_abs : CallR X (.builtin "abs") (fun xs H Q => ∃ i, xs = [.int i] ∧ Q (.int (if i < 0 then -i else i)) H) := by
  intro pins s σ H xs us Q I r h
  obtain ⟨i, rfl, q⟩ := h
  obtain ⟨u, rfl, t, rfl⟩ := vals1 r
  exact call_abs_int fun u tk => ⟨.int (if i < 0 then -i else i), H, I.tok _, ⟨_, rfl⟩, q⟩
theorem call_max2 (hc : X.calm = true) : CallR X (.builtin "max") (fun xs H Q => ∃ i j, xs = [.int i, .int j] ∧ Q (.int (if j > i then j else i)) H) := by
  intro pins s σ H xs us Q I r h
  obtain ⟨i, j, rfl, q⟩ := h
  obtain ⟨u, w', rfl, ⟨t, rfl⟩, ⟨t', rfl⟩⟩ := vals2 r
  refine max_two_ints (I.ok.hd hc) fun h' tk k => ⟨_, H, I.kept k, ?_, q⟩
  by_cases hj : j > i
  · rw [if_pos hj, if_pos hj]; exact ⟨_, rfl⟩
  · rw [if_neg hj, if_neg hj]; exact ⟨_, rfl⟩
theorem call_str_int : CallR X (.type "str") (fun xs H Q => ∃ i, xs = [.int i] ∧ i.natAbs.log2 < 1920 ∧ Q (.str (toString i)) H) := by
  intro pins s σ H xs us Q I r h
  obtain ⟨i, rfl, hz, q⟩ := h
  obtain ⟨u, rfl, t, rfl⟩ := vals1 r
  exact PySem.P.str_of_int hz ⟨.str _, H, I.tok _, ⟨_, rfl⟩, q⟩
def LenV (K : PySem.W.Frag) (x : V) (H : Hp) (n : Nat) : Prop :=
  match x with
  | .str y => y.length ≤ sizeLine ∧ n = y.length
  | .byt y => y.size ≤ sizeLine ∧ n = y.size
  | .ref p => (∃ xs, SqL K H p xs ∧ n = xs.length) ∨ ∃ xs, SqT K H p xs ∧ n = xs.length
  | _ => False
theorem call_len : CallR X (.builtin "len") (fun xs H Q => ∃ x n, xs = [x] ∧ LenV X.K x H n ∧ Q (.int n) H) := by
  intro pins s σ H xs us Q I r h
  obtain ⟨x, n, rfl, e, q⟩ := h
  obtain ⟨u, rfl, rx⟩ := vals1 r
  have hl := line63
  have hs : sizeLine = 16777216 := sizeLine_eq
  cases x with
  | str y =>
    obtain ⟨t, rfl⟩ := rx
    obtain ⟨hy, e'⟩ : y.length ≤ sizeLine ∧ n = y.length := e
    subst e'
    exact len_str (by omega) ⟨.int _, H, I.tok _, ⟨_, rfl⟩, q⟩
  | byt y =>
    obtain ⟨t, rfl⟩ := rx
    obtain ⟨hy, e'⟩ : y.size ≤ sizeLine ∧ n = y.size := e
    subst e'
    exact PySem.W.len_bytes (by omega) ⟨.int _, H, I.tok _, ⟨_, rfl⟩, q⟩
  | ref p =>
    cases rx
    have e' : (∃ xs, SqL X.K H p xs ∧ n = xs.length) ∨ ∃ xs, SqT X.K H p xs ∧ n = xs.length := e
    rcases e' with ⟨xs, hx, e'⟩ | ⟨xs, hx, e'⟩
    · subst e'
      obtain ⟨its, r', pl, hz⟩ := I.list hx
      have hlen := r'.length
      exact Calls.call_len_list pl.isList (by simp only [List.size_toArray]; omega) ⟨.int xs.length, H, I.tok _, ⟨_, by simp only [List.size_toArray]; rw [hlen]⟩, q⟩
    · subst e'
      obtain ⟨its, r', pl, hz⟩ := I.tuple hx
      have hlen := r'.length
      exact len_tuple pl (by simp only [List.size_toArray]; omega) ⟨.int xs.length, H, I.tok _, ⟨_, by simp only [List.size_toArray]; rw [hlen]⟩, q⟩
  | _ => exact (show False from e).elim
end
end L2

namespace L2
open PySem PySem.Spec PyProof.Rows

/-! ### an instance, its attributes a map -/
structure ObjM (h : Heap) (x dx C : Addr) (mA : Str → Option Value) : Prop where
  obj : h.get? x = some (PySem.W.instObj C dx)
  ns : h.Ns1 dx mA
  ne : dx ≠ x

section
variable {prog : Program} {w : World} {A : Around} {E : Value → Shared → Prop} {s : Shared} {K : PySem.W.Frag} {x dx C f : Addr} {mA : Str → Option Value} {name : Str} {v : Value}

end

/-! ### the attributes as a list of pairs -/
section
variable {P : Program} {w : World} {H H' : Hp} {h h' : Heap} {a C dx : Addr} {fs fs' : List (Str × V)}
end

/-! ### what of the text a class must have -/
structure Cls (K : PySem.W.Frag) (C : Addr) : Prop where
  pg : PySem.W.plainGet K C Str.empty = true
  hd : PySem.W.hasDictIn K C = true
  po : PySem.W.plainOver K C = true
  sa : PySem.W.findIn K (.ref C) "__setattr__" = some (some (.builtin "object.__setattr__"))
theorem Cls.get {K : PySem.W.Frag} {C : Addr} (c : Cls K C) (f : Str) : PySem.W.plainGet K C f = true := c.pg
structure Con (K : PySem.W.Frag) (C : Addr) (f : Str) (v : V) (u : Value) : Prop where
  at_ : PySem.W.findIn K (.ref C) f = some (some u)
  rel : RelV v u
  get : PySem.W.specialIn K u "__get__" = some none
  cp : PySem.W.copiedNames.contains f = false
structure Meth (K : PySem.W.Frag) (C : Addr) (m : Str) (f : Addr) : Prop where
  at_ : PySem.W.findIn K (.ref C) m = some (some (.ref f))
  fn : PySem.W.isFn K (.ref f) = true
  kp : PySem.W.keepIn K (.ref f) = true

section
variable {X : Cx} {pins : List (Addr × Obj)} {σ : St} {H : Hp} {s : Shared} {a C dx : Addr} {fs : List (Str × V)} {f : Str} {v : V} {A : Around} {E : Value → Shared → Prop}

theorem Inv.made (I : Inv X pins σ H s) : Inv X pins σ (upd (upd H s.heap.objs.size (.own (s.heap.objs.size + 1))) (s.heap.objs.size + 1) (.ins C s.heap.objs.size []))
    { s with heap := (s.heap.push PySem.W.emptyDict).push (PySem.W.instObj C s.heap.objs.size) } := by
  have e1 : (s.heap.push PySem.W.emptyDict).get? s.heap.objs.size = some PySem.W.emptyDict := Heap.get?_push_size s.heap rfl
  have e2 : ((s.heap.push PySem.W.emptyDict).push (PySem.W.instObj C s.heap.objs.size)).get? (s.heap.objs.size + 1) = some (PySem.W.instObj C s.heap.objs.size) := by
    have := Heap.get?_push_size (s.heap.push PySem.W.emptyDict) (o := PySem.W.instObj C s.heap.objs.size) rfl
    rwa [Heap.size_push] at this
  have e3 : (s.heap.push PySem.W.emptyDict).Ns s.heap.objs.size (fun _ => none) := ⟨PySem.W.emptyDict, #[], _, e1, rfl, (fun e he => absurd he (by simp)), fun _ => rfl⟩
  have I1 := I.laid (a := s.heap.objs.size) (o := .own (s.heap.objs.size + 1)) (h' := s.heap.push PySem.W.emptyDict) (t' := s.toks) (fun b u q => Heap.get?_push_of_some _ q) (Nat.le_refl _) ⟨_, e1⟩
  refine I1.laid (a := s.heap.objs.size + 1) (o := .ins C s.heap.objs.size []) (t' := s.toks) (fun b u q => Heap.get?_push_of_some _ q) (Nat.le_of_eq (Heap.size_push _ _)) ?_
  have ne : s.heap.objs.size ≠ s.heap.objs.size + 1 := Nat.ne_of_lt (Nat.lt_succ_self _)
  refine ⟨by rw [upd_ne ne, upd_same], Nat.zero_le _, ne, e2, fun _ => none, (Heap.Ns1.of_empty e3).at fun o q => Heap.get?_push_of_some _ q, fun _ => True.intro, fun y hy => absurd rfl hy⟩

end

/-! ### readings and rules -/
section
variable {X : Cx} {o e value : Expr} {f : Str} {pos pos' tpos : Pos} {ta tv : TE}
end

/-! ### isinstance -/
section
variable {X : Cx} {pins : List (Addr × Obj)} {σ : St} {H : Hp} {s : Shared} {A : Around} {E : Value → Shared → Prop} {Q : Value → Shared → Prop} {c : Value} {b : Bool}
inductive TyOf (K : PySem.W.Frag) (H : Hp) : V → Value → Prop where
  | non : TyOf K H .non (.type "NoneType")
  | bl (x : Bool) : TyOf K H (.bl x) (.type "bool")
  | int (i : Int) : TyOf K H (.int i) (.type "int")
  | str (x : Str) : TyOf K H (.str x) (.type "str")
  | flt (x : UInt64) : TyOf K H (.flt x) (.type "float")
  | lst {a : Addr} {xs : List V} (e : H a = some (.lst xs)) : TyOf K H (.ref a) (.type "list")
  | frz {a : Addr} {o : Obj} {xs : List V} (e : H a = some (.frz o (.lst xs))) : TyOf K H (.ref a) (.type "list")
  | tup {a : Addr} {xs : List V} (e : H a = some (.tup xs)) : TyOf K H (.ref a) (.type "tuple")
  | dK {a : Addr} {kvs : List (Key × V)} (e : H a = some (.dK kvs)) : TyOf K H (.ref a) (.type "dict")
  | dT {a : Addr} {kvs : List (List Key × V)} (e : H a = some (.dT kvs)) : TyOf K H (.ref a) (.type "dict")
  | ins {a C dx : Addr} {fs : List (Str × V)} (e : H a = some (.ins C dx fs)) (cl : Cls K C) (ha : PySem.W.findIn K (.ref C) "__class__" = some (some (.builtin "object.__class__")))
      (hn : PySem.W.specialIn K (.builtin "object.__class__") "__get__" = some (some (.builtin "getset_descriptor.__get__"))) (htk : PySem.W.takesIn K (.builtin "object.__class__") = some true)
      (hm : PySem.W.mroIn K C (.type "object") = some true) : TyOf K H (.ref a) (.ref C)
end
end L2

namespace L2
open PySem PySem.Spec PyProof.Rows

/-! ### room -/
structure Room (k : Nat) (A : Around) : Prop where
  hd : A.handled = none
  dp : A.depth + 3 * k + 5 < recursionLimit
  un : A.units + 16 * k + 200 < cLine
theorem Room.mono {j k : Nat} {A : Around} (r : Room k A) (h : j ≤ k) : Room j A := ⟨r.hd, by have := r.dp; omega, by have := r.un; omega⟩
theorem Room.deeper {k : Nat} {A : Around} (r : Room (k + 1) A) (env : Env) : Room k (A.deeper env) :=
  ⟨r.hd, by have := r.dp; show A.depth + 1 + 3 * k + 5 < _; omega, by have := r.un; show A.units + 3 + 16 * k + 200 < _; omega⟩
theorem Room.in1 {k : Nat} {A : Around} (r : Room (k + 1) A) : Room k A.in1 :=
  ⟨r.hd, by have := r.dp; show A.depth + 3 * k + 5 < _; omega, by have := r.un; show A.units + 1 + 16 * k + 200 < _; omega⟩
theorem Room.depth {k : Nat} {A : Around} (r : Room k A) : A.depth < recursionLimit := by have := r.dp; omega
theorem Room.units {k : Nat} {A : Around} (r : Room k A) : A.units + 64 < cLine := by have := r.un; omega
/-! ### argument lists and displays -/
def tNil : TA := fun _ H Q => Q [] H
def tCons (ta : TE) (tr : TA) : TA := fun σ H Q => ta σ H fun x H1 => tr σ H1 fun xs H2 => Q (x :: xs) H2
section
variable {X : Cx} {e : Expr} {es : List Expr} {te : TE} {t : TA} {pos : Pos}
theorem pa_nil : PA X [] tNil := fun _ _ _ _ H Q I h => Calls.spliced_nil ⟨[], H, I, .nil, h⟩
theorem pa_cons (ha : PE X e te) (hr : PA X es t) (hs : starEach (e :: es) X.env = (false, eval e X.env) :: starEach es X.env := by rfl) : PA X (e :: es) (tCons te t) := by
  intro pos pins s σ H Q I h
  rw [hs]
  show wpAny _ _ (spliced ((false, eval e X.env) :: backTo pos (starEach es X.env))) _ _ s
  refine Calls.spliced_cons (thn (ha pins s σ H _ I h) fun u s1 ⟨x, H1, I1, r1, q1⟩ => ?_)
  exact thn (hr pos pins s1 σ H1 _ I1 q1) fun us s2 ⟨xs, H2, I2, r2, q2⟩ => ⟨x :: xs, H2, I2, .cons r1 r2, q2⟩

def tTup (t : TA) : TE := fun σ H Q => t σ H fun xs H1 => xs.length ≤ sizeLine ∧ ∀ p, H1 p = none → Q (.ref p) (upd H1 p (.tup xs))
def tLst (t : TA) : TE := fun σ H Q => t σ H fun xs H1 => xs.length ≤ sizeLine ∧ ∀ p, H1 p = none → Q (.ref p) (upd H1 p (.lst xs))
theorem pe_tup {x1} (h : PA X es t) : PE X (.Tuple es x1 pos) (tTup t) := by
  intro pins s σ H Q I hq
  refine wpAny_Tuple_spliced (thn (h pos pins s σ H _ I hq) fun us s1 ⟨xs, H1, I1, r, z, q⟩ => ⟨by rw [← r.length]; exact z, ?_⟩)
  have hf : H1 s1.heap.objs.size = none := I1.hok.fresh (Nat.le_refl _)
  refine ⟨.ref s1.heap.objs.size, upd H1 s1.heap.objs.size (.tup xs), I1.laid (t' := s1.toks) (fun b u e => Heap.get?_push_of_some _ e) (Nat.le_refl _) ?_, rfl, q _ hf⟩
  exact ⟨z, us, r, ⟨_, Heap.get?_push_size _ rfl, rfl, _, rfl⟩⟩
theorem pe_lst (h : PA X es t) : PE X (.List es pos) (tLst t) := by
  intro pins s σ H Q I hq
  refine wpAny_List_spliced (thn (h pos pins s σ H _ I hq) fun us s1 ⟨xs, H1, I1, r, z, q⟩ => ⟨by rw [← r.length]; exact z, ?_⟩)
  have hf : H1 s1.heap.objs.size = none := I1.hok.fresh (Nat.le_refl _)
  refine ⟨.ref s1.heap.objs.size, upd H1 s1.heap.objs.size (.lst xs), I1.laid (t' := s1.toks) (fun b u e => Heap.get?_push_of_some _ e) (Nat.le_refl _) ?_, rfl, q _ hf⟩
  exact ⟨z, us, 0, r, Heap.get?_push_size _ rfl⟩
end

/-! ### what a def promises -/
abbrev Sp := List V → Hp → VK → XK → Prop
abbrev CXT := List Env → Hp → Shared → XK → Value → Shared → Prop

structure Env0 (P : Program) (w : World) (K : PySem.W.Frag) (mg : Str → Option Value) (base : Heap) (A : Around) (outer : List Env) (s : Shared) (H : Hp) : Prop where
  frames : A.frames = some outer
  mod : Mod K mg base
  bs : ∀ b o, base.get? b = some o → s.heap.get? b = some o ∧ H b = none
  bsz : base.objs.size ≤ s.heap.objs.size
  funs : s.heap.FunFrames base outer
  frf : ∀ b ∈ frs outer, H b = none
  hok : HOk P w H s.heap
  bare : AllBare s.gens
def CE (outer : List Env) (P : Program) (w : World) (H : Hp) (s : Shared) (Q : VK) (u : Value) (s' : Shared) : Prop :=
  ∃ v H', s'.os = s.os ∧ AllBare s'.gens ∧ Un (frs outer) [] H H' s.heap s'.heap ∧ HOk P w H' s'.heap ∧ RelV v u ∧ Q v H'
def CR (CX : CXT) (outer : List Env) (P : Program) (w : World) (H : Hp) (s : Shared) (Q : VK) (E : XK) (r : Result) (s' : Shared) : Prop :=
  match r with
  | .ok (.ret u) => CE outer P w H s Q u s'
  | .ok _ => False
  | .error e => CX outer H s E e s'
structure FnOk (P : Program) (w : World) (K : PySem.W.Frag) (mg : Str → Option Value) (base : Heap) (CX : CXT) (k : Nat) (f : Addr) (fd : FuncData) (ps : List Str) (sp : Sp) : Prop where
  len : ∀ vs H Q E, sp vs H Q E → vs.length = ps.length
  run : ∀ (A : Around) (outer : List Env) (s : Shared) (H : Hp) (args : Args) (us : List Value) (vs : List V) (Q : VK) (E : XK), Room k A → Env0 P w K mg base A outer s H → BindsTo s fd args (ps.zip us) → Vals vs us → sp vs H Q E →
    codeAny (model P w) A (.call (.ref f) args) (CR CX outer P w H s Q E) s
theorem FnOk.mono {P : Program} {w : World} {K : PySem.W.Frag} {mg : Str → Option Value} {base : Heap} {CX : CXT} {j k : Nat} {f : Addr} {fd : FuncData} {ps : List Str} {sp : Sp} (F : FnOk P w K mg base CX j f fd ps sp) (h : j ≤ k) :
    FnOk P w K mg base CX k f fd ps sp := ⟨F.len, fun A outer s H args us vs Q E hr => F.run A outer s H args us vs Q E (hr.mono h)⟩
theorem FnOk.imp {P : Program} {w : World} {K : PySem.W.Frag} {mg : Str → Option Value} {base : Heap} {CX : CXT} {k : Nat} {f : Addr} {fd : FuncData} {ps : List Str} {sp sp' : Sp} (F : FnOk P w K mg base CX k f fd ps sp)
    (h : ∀ vs H Q E, sp' vs H Q E → sp vs H Q E) : FnOk P w K mg base CX k f fd ps sp' :=
  ⟨fun vs H Q E q => F.len vs H Q E (h _ _ _ _ q), fun A outer s H args us vs Q E hr he hb hv hs => F.run A outer s H args us vs Q E hr he hb hv (h _ _ _ _ hs)⟩

theorem Env0.in1 {P : Program} {w : World} {K : PySem.W.Frag} {mg : Str → Option Value} {base : Heap} {A : Around} {outer : List Env} {s : Shared} {H : Hp} (e : Env0 P w K mg base A outer s H) :
    Env0 P w K mg base A.in1 outer s H := ⟨e.frames, e.mod, e.bs, e.bsz, e.funs, e.frf, e.hok, e.bare⟩

section
variable {X : Cx} {pins : List (Addr × Obj)} {σ : St} {H : Hp} {s s' : Shared}
theorem Inv.env0 (I : Inv X pins σ H s) : Env0 X.prog X.w X.K X.mg X.base X.A X.stack s H :=
  ⟨I.ok.frames, I.ok.mod, I.bs, Nat.le_trans I.ok.bsz I.sz, I.stack, I.stkFree, I.hok, I.bare⟩
theorem Inv.after {Q : VK} {u : Value} (I : Inv X pins σ H s) (h : CE X.stack X.prog X.w H s Q u s') : EP X pins σ Q u s' := by
  obtain ⟨v, H', os, bare, un, hok, r, q⟩ := h
  obtain ⟨hh, g, d, t, os'⟩ := s'
  obtain rfl : os' = s.os := os
  exact ⟨v, H', I.call (h' := hh) (g' := g) (d' := d) (t' := t) (ch := []) un hok bare (fun b z => absurd z (by simp)), r, q⟩
end

/-! ### calls -/
def tCall (sp : Sp) (dvs : List V) (E : XK) (t : TA) : TE := fun σ H Q => t σ H fun vs H1 => sp (vs ++ dvs) H1 Q E
def Binds (K : PySem.W.Frag) (fd : FuncData) (ps : List Str) (ds : List Value) : Prop :=
  ∀ (s : Shared) (us : List Value), K.In s.heap → (us ++ ds).length = ps.length → BindsTo s fd ⟨us, []⟩ (ps.zip (us ++ ds))
theorem Binds.all {K : PySem.W.Frag} {fd : FuncData} {ps : List Str} (h : ∀ us : List Value, us.length = ps.length → bindArgs fd ⟨us, []⟩ = pure (ps.zip us)) : Binds K fd ps [] := fun s us _ hl => by
  rw [List.append_nil] at hl ⊢
  exact .of_eq (h us hl)

def Passes (CX : CXT) (X : Cx) (E : XK) : Prop := ∀ (pins : List (Addr × Obj)) (σ : St) (H : Hp) (s : Shared) (e : Value) (s' : Shared), Inv X pins σ H s → CX X.stack H s E e s' → X.xe e s'

section
variable {X : Cx} {CX : CXT} {k : Nat} {f C : Addr} {fd : FuncData} {ps : List Str} {sp : Sp} {dvs : List V} {ds : List Value} {E : XK} {x m : Str} {p pos apos : Pos} {e o : Expr} {es : List Expr} {ta : TE} {t : TA}

theorem run_fn {pins : List (Addr × Obj)} {σ : St} {H : Hp} {s : Shared} {Q : VK} {us : List Value} {vs : List V} (F : FnOk X.prog X.w X.K X.mg X.base CX k f fd ps sp) (hr : Room k X.A) (hb : Binds X.K fd ps ds) (hd : Vals dvs ds) (hx : Passes CX X E)
    (I : Inv X pins σ H s) (r : Vals vs us) (h : sp (vs ++ dvs) H Q E) : wpAny (model X.prog X.w) X.A (call (.ref f) us) (EP X pins σ Q) X.xe s := by
  have r2 : Vals (vs ++ dvs) (us ++ ds) := r.append hd
  have hl : (us ++ ds).length = ps.length := by rw [← r2.length]; exact F.len _ _ _ _ h
  refine wpAny_call (codeAny_mono (F.run X.A X.stack s H ⟨us, []⟩ (us ++ ds) (vs ++ dvs) Q E hr I.env0 (hb s us I.kIn hl) r2 h) fun r s' hq => ?_)
  cases r with
  | error e => exact hx pins σ H s e s' I hq
  | ok fl =>
    cases fl with
    | ret u => exact I.after hq
    | next => exact False.elim hq
    | brk => exact False.elim hq
    | cont => exact False.elim hq

theorem pe_call (F : FnOk X.prog X.w X.K X.mg X.base CX k f fd ps sp) (hr : Room k X.A) (hg : Gl X x) (hm : X.mg x = some (.ref f)) (hk : PySem.W.keepIn X.K (.ref f) = true) (hb : Binds X.K fd ps ds) (hd : Vals dvs ds) (hx : Passes CX X E)
    (ha : PA X (e :: es) t) (hdb : (x == ("__debug__" : Str)) = false := by decide) (he : starEach (e :: es) X.env = (false, eval e X.env) :: starEach es X.env := by rfl) (hpl : (backTo pos (starEach es X.env)).any (·.1) = false := by rfl) :
    PE X (.Call (.Name x p) (e :: es) [] pos) (tCall sp dvs E t) := by
  intro pins s σ H Q I h
  refine wpAny_Call_Name_kw (ld_glob I hg hm ?_ hdb)
  refine PySem.W.callWith_K (h₀ := X.base) I.ok.mod.kin hk (thn (ha pos pins s σ H _ I h) fun us s1 ⟨vs, H1, I1, r, q⟩ => ⟨I1.kIn, ?_⟩) he hpl
  exact run_fn F hr hb hd hx I1 r q
structure Mk (K : PySem.W.Frag) (C f : Addr) : Prop where
  makes : PySem.W.makesIn K C = true
  init : PySem.W.findIn K (.ref C) "__init__" = some (some (.ref f))
  fn : PySem.W.isFn K (.ref f) = true
  kp : PySem.W.keepIn K (.ref C) = true

end

/-! ### keywords -/
section
variable {X : Cx} {CX : CXT} {k : Nat} {f C : Addr} {fd : FuncData} {ps ks : List Str} {sp : Sp} {E : XK} {x m : Str} {p pos apos kpos : Pos} {e o : Expr} {es : List Expr} {kws : List Keyword} {te ta : TE} {t tk : TA} {nm : Option Str}
structure KBinds (K : PySem.W.Frag) (fd : FuncData) (ps ks : List Str) (g : List Value → List Value → List Value) (gV : List V → List V → List V) : Prop where
  to : ∀ (s : Shared) (us ws : List Value), K.In s.heap → (g us ws).length = ps.length → BindsTo s fd ⟨us, ks.zip ws⟩ (ps.zip (g us ws))
  rel : ∀ {vs : List V} {us : List Value} {zs : List V} {ws : List Value}, Vals vs us → Vals zs ws → Vals (gV vs zs) (g us ws)
variable {g : List Value → List Value → List Value} {gV : List V → List V → List V}
end

/-! ### a def's body keeps its promise -/
structure FnScope (N P : List Str) (sc : Scope) : Prop where
  kind : sc.kind = .function
  co : sc.isCoroutine = false
  gen : sc.isGenerator = false
  nd : N.Nodup
  pre : N.take P.length = P
  par : ∀ x ∈ P, sc.names.lookup x = some .local ∨ sc.names.lookup x = some .cell
  nofree : ∀ y ∈ sc.names, y.2 ≠ .free

theorem bindL_out {kindOf : Str → Option NameKind} {x : Str} : ∀ {binds : List (Str × Value)} {m : Str → Option Value}, (∀ v, (x, v) ∉ binds) → bindL kindOf binds m x = m x
  | [], _, _ => rfl
  | (n, v) :: r, m, h => by
    unfold bindL
    rw [bindL_out fun w hw => h w (List.mem_cons_of_mem _ hw)]
    split
    · have : x ≠ n := by rintro rfl; exact h v List.mem_cons_self
      simp [this]
    · rfl
theorem bindC_out {kindOf : Str → Option NameKind} {x : Str} : ∀ {binds : List (Str × Value)} {m : Str → Option Value}, (∀ v, (x, v) ∉ binds) → bindC kindOf binds m x = m x
  | [], _, _ => rfl
  | (n, v) :: r, m, h => by
    unfold bindC
    rw [bindC_out fun w hw => h w (List.mem_cons_of_mem _ hw)]
    split
    · rfl
    · have : x ≠ n := by rintro rfl; exact h v List.mem_cons_self
      simp [this]
theorem bindL_get {kindOf : Str → Option NameKind} {x : Str} {v : Value} : ∀ {P : List Str} {vs : List Value} {i : Nat} {m : Str → Option Value}, P.Nodup → P[i]? = some x → vs[i]? = some v → kindOf x = some .local →
    bindL kindOf (P.zip vs) m x = some v
  | [], _, _, _, _, h, _, _ => by simp at h
  | _ :: _, [], _, _, _, _, h, _ => by simp at h
  | p :: P, w :: vs, 0, m, nd, h1, h2, hk => by
    simp at h1 h2; subst h1; subst h2
    show bindL kindOf ((p, w) :: P.zip vs) m p = _
    unfold bindL
    rw [bindL_out fun v hv => (List.nodup_cons.mp nd).1 (List.of_mem_zip hv).1, if_pos hk]
    simp
  | p :: P, w :: vs, i + 1, m, nd, h1, h2, hk => by
    show bindL kindOf ((p, w) :: P.zip vs) m x = _
    unfold bindL
    exact bindL_get (i := i) (List.nodup_cons.mp nd).2 (by simpa using h1) (by simpa using h2) hk
theorem bindC_get {kindOf : Str → Option NameKind} {x : Str} {v : Value} : ∀ {P : List Str} {vs : List Value} {i : Nat} {m : Str → Option Value}, P.Nodup → P[i]? = some x → vs[i]? = some v → kindOf x ≠ some .local →
    bindC kindOf (P.zip vs) m x = some v
  | [], _, _, _, _, h, _, _ => by simp at h
  | _ :: _, [], _, _, _, _, h, _ => by simp at h
  | p :: P, w :: vs, 0, m, nd, h1, h2, hk => by
    simp at h1 h2; subst h1; subst h2
    show bindC kindOf ((p, w) :: P.zip vs) m p = _
    unfold bindC
    rw [bindC_out fun v hv => (List.nodup_cons.mp nd).1 (List.of_mem_zip hv).1, if_neg hk]
    simp
  | p :: P, w :: vs, i + 1, m, nd, h1, h2, hk => by
    show bindC kindOf ((p, w) :: P.zip vs) m x = _
    unfold bindC
    exact bindC_get (i := i) (List.nodup_cons.mp nd).2 (by simpa using h1) (by simpa using h2) hk

def start (N : List Str) (vs : List V) : St := vs.map some ++ List.replicate (N.length - vs.length) none

def cxOf (CX : CXT) (P : Program) (w : World) (K : PySem.W.Frag) (mg : Str → Option Value) (base : Heap) (N : List Str) (qual : Str) (scope : Scope) (f : Addr) (cd : Value) (A : Around) (outer : List Env) (s : Shared) (H : Hp) (E : XK) : Cx where
  prog := P
  w := w
  K := K
  mg := mg
  base := base
  A := A.deeper (envOfC qual scope s.heap.objs.size f cd)
  N := N
  s₀ := s
  H₀ := H
  env := envOfC qual scope s.heap.objs.size f cd
  outer := outer
  stack := envOfC qual scope s.heap.objs.size f cd :: outer
  ex := []
  calm := true
  fn := fun _ => true
  pn := []
  xe := fun e s' => wpAny (model P w) (A.deeper (envOfC qual scope s.heap.objs.size f cd)) (leaving (envOfC qual scope s.heap.objs.size f cd) e) (fun _ s'' => CX outer H s E e s'') (fun e' s'' => CX outer H s E e' s'') s'

theorem cell_has {sc : Scope} {n : Nat} {x : Str} (h : sc.names.lookup x = some .cell) : ∃ c, (cellsFrom n sc.names []).lookup x = some c := by
  have q := PySem.W.cellsFrom_some sc.names n [] (.inl h)
  exact Option.isSome_iff_exists.mp q

theorem inv_start {CX : CXT} {P : Program} {w : World} {K : PySem.W.Frag} {mg : Str → Option Value} {base : Heap} {N ps : List Str} {qual : Str} {scope : Scope} {f : Addr} {cd : Value} {A : Around} {outer : List Env} {s s1 : Shared} {H : Hp} {E : XK} {us : List Value} {vs : List V}
    (S : FnScope N ps scope) (hd : A.handled = none) (e0 : Env0 P w K mg base A outer s H) (hl : vs.length = ps.length) (r : Vals vs us)
    (x : InCallC s s.heap.objs.size (bindL (envOfC qual scope s.heap.objs.size f cd).kindOf (ps.zip us) fun _ => none) (cellsFrom (s.heap.objs.size + 1) scope.names []) (bindC (envOfC qual scope s.heap.objs.size f cd).kindOf (ps.zip us) fun _ => none) s1) :
    Inv (cxOf CX P w K mg base N qual scope f cd A outer s H E) [] (start N vs) H s1 := by
  have hpl : ps.length ≤ N.length := by have := congrArg List.length S.pre; rw [List.length_take] at this; omega
  obtain ⟨h1, tk, rfl, hk⟩ := x.done
  have noA : ∀ b : Addr, b ∉ (cxOf CX P w K mg base N qual scope f cd A outer s H E).ex := fun b z => absurd (show b ∈ ([] : List Addr) from z) (by simp)
  refine ⟨⟨e0.mod, S.kind, rfl, rfl, Nat.le_refl _, fun y z c h1 h2 => ?_, fun y hy => ?_, fun y c _ h => ?_, fun _ => hd, Around.frames_deeper e0.frames, .inr ⟨rfl, rfl⟩, fun b z => absurd z (noA b), e0.bs, e0.bsz, fun b _ _ => noA b, fun b z => absurd z (noA b), e0.funs, e0.frf⟩,
    rfl, e0.bare, Un.kept hk, ⟨_, x.toInCall.ns, fun i y v h1 h2 h3 => ?_⟩, fun y c h => ⟨_, x.cell y c h⟩, e0.hok.fresh (Nat.le_refl _), fun y c h => ?_, fun p hp => absurd (show p ∈ ([] : List (Addr × Obj)) from hp) (by simp), e0.hok.kept hk, ?_⟩
  · exact name_of_addr x.apart (PySem.mem_of_lookup h1) (PySem.mem_of_lookup h2)
  · have hy : scope.names.lookup y = some .cell ∨ scope.names.lookup y = some .free := hy
    rcases hy with hy | hy
    · exact cell_has hy
    · exact absurd rfl (S.nofree _ (PySem.mem_of_lookup hy))
  · exact Nat.le_of_lt (x.above y c (PySem.mem_of_lookup h))
  · have hi : i < vs.length := by
      unfold start at h2
      by_cases hi : i < vs.length
      · exact hi
      · rw [List.getElem?_append_right (by simpa using hi)] at h2
        rw [List.getElem?_replicate] at h2
        split at h2 <;> cases h2
    have ha : vs[i]? = some v := by
      unfold start at h2
      rw [List.getElem?_append_left (by simpa using hi), List.getElem?_map] at h2
      cases e : vs[i]? with
      | none => rw [e] at h2; cases h2
      | some a => rw [e] at h2; cases h2; rfl
    obtain ⟨u, hu, rv⟩ := r.get ha
    have hp : ps[i]? = some y := by
      rw [← S.pre, List.getElem?_take_of_lt (by omega)]; exact h1
    have ndP : ps.Nodup := by rw [← S.pre]; exact S.nd.sublist (List.take_sublist _ _)
    refine ⟨u, rv, ?_⟩
    rcases S.par y (List.mem_of_getElem? hp) with k | k
    · exact .inl ⟨k, bindL_get ndP hp hu k⟩
    · obtain ⟨c, e⟩ := cell_has (n := s.heap.objs.size + 1) k
      refine .inr ⟨.inl k, c, e, ?_⟩
      have q := x.cell y c e
      rw [bindC_get ndP hp hu (by show scope.names.lookup y ≠ _; rw [k]; decide)] at q
      exact q
  · exact e0.hok.fresh (Nat.le_of_lt (x.above y c (PySem.mem_of_lookup h)))
  · unfold start
    show _ = N.length
    rw [List.length_append, List.length_map, List.length_replicate]
    omega

theorem fn_of {CX : CXT} {P : Program} {w : World} {K : PySem.W.Frag} {mg : Str → Option Value} {base : Heap} {k : Nat} {f : Addr} {name qual : Str} {params : Arguments} {body : List Stmt} {scope : Scope} {dV kV doc pm cdv ct oc : Value} {an od : Option Addr}
    {osl : Array (Option Value)} {N ps : List Str} {sp : Sp} (lk : K.lookup f = some ⟨oc, od, .func (PySem.W.fnOf name qual params body scope dV kV doc pm an cdv ct), osl⟩) (hcd : PySem.W.codeIn K cdv qual = true) (S : FnScope N ps scope)
    (len : ∀ vs H Q E, sp vs H Q E → vs.length = ps.length)
    (hbody : ∀ (A : Around) (outer : List Env) (s : Shared) (H : Hp) (vs : List V) (Q : VK) (E : XK), Room k (A.deeper (envOfC qual scope s.heap.objs.size f cdv)) → sp vs H Q E →
      ∃ t, PSs (cxOf CX P w K mg base N qual scope f cdv A outer s H E) body t ∧ t { nx := fun _ H' => Q .non H', rt := Q } (start N vs) H) :
    FnOk P w K mg base CX (k + 1) f (PySem.W.fnOf name qual params body scope dV kV doc pm an cdv ct) ps sp := by
  refine ⟨len, fun A outer s H args us vs Q E hr e0 hb r hsp => ?_⟩
  have hl := len _ _ _ _ hsp
  have KX : K.In s.heap := e0.mod.kin.keeps fun b o e => (e0.bs b o e).1
  have lim : s.heap.NoLimit := e0.mod.nolimit.keeps fun b o e => (e0.bs b o e).1
  have hkind : ∀ y ∈ ps.zip us, scope.names.lookup y.1 = some .local ∨ (scope.names.lookup y.1 = some .cell ∧ ((cellsFrom (s.heap.objs.size + 1) scope.names []).lookup y.1).isSome = true) := fun ⟨n, v⟩ hy => by
    rcases S.par n (List.of_mem_zip hy).1 with q | q
    · exact .inl q
    · exact .inr ⟨q, PySem.W.cellsFrom_some _ _ _ (.inl q)⟩
  refine codeAny_call_function hr.depth (KX _ _ lk) rfl S.co S.gen rfl (PySem.W.codeRec_of KX hcd) (hb _ _ _ _ ?_)
  refine wpAny_newFunctionEnv_cells S.kind hkind fun env he s1 x => ?_
  subst he
  refine ⟨lim.keeps x.toInCall.keep, codeAny_func ?_⟩
  obtain ⟨t, ht, hq⟩ := hbody A outer s H vs Q E (hr.deeper _) hsp
  have I : Inv (cxOf CX P w K mg base N qual scope f cdv A outer s H E) [] (start N vs) H s1 := inv_start S hr.hd e0 hl r x
  refine wpAny_mono (ht [] s1 (start N vs) H _ I hq) (fun fl s' hs => ?_) fun e s' hs => hs
  have fin : ∀ {σ' : St} {H' : Hp} {v : V} {u : Value}, Inv (cxOf CX P w K mg base N qual scope f cdv A outer s H E) [] σ' H' s' → RelV v u → Q v H' → CE outer P w H s Q u s' :=
    fun {σ' H' v u} J rv q => ⟨v, H', J.os, J.bare, J.base, J.hok, rv, q⟩
  cases fl with
  | ret u =>
    obtain ⟨v, σ', H', J, rv, q⟩ := hs
    exact fin J rv q
  | next =>
    obtain ⟨σ', H', J, q⟩ := hs
    exact fin (v := V.non) (u := Value.none) J rfl q
  | brk =>
    obtain ⟨_, _, _, q⟩ := hs
    exact False.elim q
  | cont =>
    obtain ⟨_, _, _, q⟩ := hs
    exact False.elim q
end L2

namespace L2
open PySem PySem.Spec PyProof.Rows
section
variable {X : Cx} {x : Str} {p pos : Pos} {e : Expr} {es : List Expr} {t : TA} {id T : String} {r : List V → Hp → VK → Prop}

def tCB (r : List V → Hp → VK → Prop) (t : TA) : TE := fun σ H Q => t σ H fun vs H1 => r vs H1 Q
theorem pe_callB (hc : CallR X (.builtin id) r) (hg : Gl X x) (hm : X.mg x = none) (hv : bootBuiltins x = some (.builtin id)) (ha : PA X (e :: es) t) (hn : x ≠ "__name__" := by decide) (hdb : (x == ("__debug__" : Str)) = false := by decide)
    (he : starEach (e :: es) X.env = (false, eval e X.env) :: starEach es X.env := by rfl) (hpl : (backTo pos (starEach es X.env)).any (·.1) = false := by rfl) : PE X (.Call (.Name x p) (e :: es) [] pos) (tCB r t) := by
  intro pins s σ H Q I h
  refine wpAny_Call_Name_kw (ld_blt I hg hm hv ?_ hn hdb)
  exact PyProof.Rows.callWith_builtin1 (thn (ha pos pins s σ H _ I h) fun us s1 ⟨vs, H1, I1, r1, q1⟩ => hc pins s1 σ H1 vs us Q I1 r1 q1) he hpl
theorem pe_callTy (hc : CallR X (.type T) r) (hg : Gl X x) (hm : X.mg x = none) (hv : bootBuiltins x = some (.type T)) (ha : PA X (e :: es) t) (hn : x ≠ "__name__" := by decide) (hdb : (x == ("__debug__" : Str)) = false := by decide)
    (he : starEach (e :: es) X.env = (false, eval e X.env) :: starEach es X.env := by rfl) (hpl : (backTo pos (starEach es X.env)).any (·.1) = false := by rfl) : PE X (.Call (.Name x p) (e :: es) [] pos) (tCB r t) := by
  intro pins s σ H Q I h
  refine wpAny_Call_Name_kw (ld_blt I hg hm hv ?_ hn hdb)
  exact PyProof.Rows.callWith_type1 (thn (ha pos pins s σ H _ I h) fun us s1 ⟨vs, H1, I1, r1, q1⟩ => hc pins s1 σ H1 vs us Q I1 r1 q1) he hpl
end
end L2

namespace HT
open PySem PyProof.Rows

section
open PySem.SeqAt
open PySem.AutoSeq1 (wpAny_loadPart')
open PySem.MeetsSeq PySem.MeetsSeq2 PySem.MeetsSeq3

end

section
variable {prog : Program} {w : World} {A : Around} {E : Value → Shared → Prop} {s : Shared}

/-! ### t[a:b], not the whole -/
def sIx (n d : Nat) : Option Int → Nat
  | none => d
  | some v => if v < 0 then (v + (n : Int)).toNat else min v.toNat n
theorem sIx_none (n d : Nat) : sIx n d none = d := rfl
theorem sIx_nat (n d k : Nat) : sIx n d (some (k : Int)) = min k n := by
  show (if (k : Int) < 0 then ((k : Int) + (n : Int)).toNat else min (k : Int).toNat n) = min k n
  rw [if_neg (by omega), Int.toNat_natCast]
end
end HT

namespace L2
open PySem PySem.Spec PyProof.Rows

/-! ### the parts of a slice -/
abbrev TO := St → Hp → (Option Int → Hp → Prop) → Prop
def PO (X : Cx) (e : Option Expr) (t : TO) : Prop :=
  ∀ (pins : List (Addr × Obj)) (s : Shared) (σ : St) (H : Hp) (Q : Option Int → Hp → Prop), Inv X pins σ H s → t σ H Q →
    wpAny (model X.prog X.w) X.A (evalPart e X.env) (fun u s' => ∃ o H', Inv X pins σ H' s' ∧ IsPart u o ∧ Q o H') X.xe s
def tNoPart : TO := fun _ H Q => Q none H
def tPart (t : TE) : TO := fun σ H Q => t σ H fun x H1 => ∃ i, x = .int i ∧ Q (some i) H1

theorem intsAre_of {ns : List Int} : ∀ {us : List Value}, Vals (ns.map V.int) us → IntsAre us ns := by
  induction ns with
  | nil => intro us r; rw [List.map_nil] at r; cases r; exact .nil
  | cons n ns ih =>
    intro us r
    rw [List.map_cons] at r
    cases r with
    | cons r1 r2 =>
      obtain ⟨t, e⟩ := r1
      subst e
      exact .cons n t (ih r2)

section
variable {X : Cx} {e : Expr} {te : TE} {lo hi : Option Expr} {tl th : TO} {pos p2 : Pos}

theorem po_none : PO X none tNoPart := by
  intro pins s σ H Q I h
  rw [evalPart_none]
  exact wpAny_pure ⟨none, H, I, .none, h⟩
theorem po_some (h : PE X e te) : PO X (some e) (tPart te) := by
  intro pins s σ H Q I hw
  rw [evalPart_some]
  refine thn (h pins s σ H _ I hw) fun u s1 ⟨x, H1, I1, r1, q1⟩ => ?_
  obtain ⟨i, rfl, q⟩ := q1
  obtain ⟨t, rfl⟩ := r1
  exact ⟨some i, H1, I1, .int i t, q⟩

def SlR (X : Cx) (r : V → Option Int → Option Int → Hp → VK → Prop) : Prop :=
  ∀ (pins : List (Addr × Obj)) (s : Shared) (σ : St) (H : Hp) (x : V) (v vl vu : Value) (lo hi : Option Int) (sl : Addr) (Q : VK), Inv X pins σ H s → RelV x v → s.heap.IsSliceOf sl vl vu .none → IsPart vl lo → IsPart vu hi → r x lo hi H Q →
    ∃ T id, typeLookup (.type T) "__getitem__" = pure (some (.builtin id)) ∧ s.TypeIs v T ∧ wpAny (model X.prog X.w) X.A (getItem v (.ref sl)) (EP X pins σ Q) X.xe s
theorem SlR.or {r r' : V → Option Int → Option Int → Hp → VK → Prop} (h : SlR X r) (h' : SlR X r') : SlR X (fun x lo hi H Q => r x lo hi H Q ∨ r' x lo hi H Q) := by
  intro pins s σ H x v vl vu lo hi sl Q I rx hs pl pu q
  rcases q with q | q
  · exact h pins s σ H x v vl vu lo hi sl Q I rx hs pl pu q
  · exact h' pins s σ H x v vl vu lo hi sl Q I rx hs pl pu q
def tSl (r : V → Option Int → Option Int → Hp → VK → Prop) (te : TE) (tl th : TO) : TE := fun σ H Q => te σ H fun x H1 => tl σ H1 fun l H2 => th σ H2 fun u H3 => r x l u H3 Q
theorem pe_slice {r : V → Option Int → Option Int → Hp → VK → Prop} (hr : SlR X r) (he : PE X e te) (hl : PO X lo tl) (hu : PO X hi th) : PE X (.Subscript e (.Slice lo hi none p2) pos) (tSl r te tl th) := by
  intro pins s σ H Q I h
  refine Subscript_ (thn (he pins s σ H _ I h) fun v s1 ⟨x, H1, I1, r1, q1⟩ => ?_)
  refine wpAny_Slice (thn (hl pins s1 σ H1 _ I1 q1) fun vl s2 ⟨l, H2, I2, pl, q2⟩ => thn (hu pins s2 σ H2 _ I2 q2) fun vu s3 ⟨u, H3, I3, pu, q3⟩ => ?_)
  rw [evalPart_none]
  refine wpAny_pure ?_
  have I4 : Inv X pins σ H3 { s3 with heap := s3.heap.push { cls := .type "slice", data := .fields #[vl, vu, .none] } } := I3.kept (t' := s3.toks) fun b ob q => Heap.get?_push_of_some _ q
  obtain ⟨T, id, hT, ht, hg⟩ := hr pins { s3 with heap := s3.heap.push { cls := .type "slice", data := .fields #[vl, vu, .none] } } σ H3 x v vl vu l u s3.heap.objs.size Q I4 r1 (Heap.IsSliceOf.new ..) pl pu q3
  show wpAny (model X.prog X.w) X.A (subscriptTail e (.Slice lo hi none p2) v (.ref s3.heap.objs.size)) (EP X pins σ Q) X.xe { s3 with heap := s3.heap.push { cls := .type "slice", data := .fields #[vl, vu, .none] } }
  exact tail_any (ops := [.ref s3.heap.objs.size, v]) ht hT hg (by with_unfolding_all rfl)

def cutV (xs : List V) (lo hi : Option Int) : List V := (xs.drop (HT.sIx xs.length 0 lo)).take (HT.sIx xs.length xs.length hi - HT.sIx xs.length 0 lo)
theorem cutV_length (xs : List V) (lo hi : Option Int) : (cutV xs lo hi).length ≤ xs.length := by
  unfold cutV
  rw [List.length_take, List.length_drop]
  omega
/-! ### t < u, t + u -/
end
end L2

namespace L2
open PySem PySem.Spec PyProof.Rows

/-! ### places -/
def ixN (n : Nat) (i : Int) : Option Nat := if 0 ≤ i then (if i < n then some i.toNat else none) else if -(n : Int) ≤ i then some (i + n).toNat else none
def atI {α : Type} (xs : List α) (i : Int) : Option α := (ixN xs.length i).bind fun j => xs[j]?
theorem ixN_seq {n : Nat} {i : Int} {j : Nat} (h : ixN n i = some j) : seqIndex? i n = some j ∧ j < n ∧ -(n : Int) ≤ i ∧ i < n := by
  unfold ixN at h
  by_cases h0 : 0 ≤ i
  · rw [if_pos h0] at h
    by_cases h1 : i < n
    · rw [if_pos h1] at h
      have e : i.toNat = j := Option.some.inj h
      exact ⟨by rw [seqIndex_of h0 h1, e], by omega, by omega, h1⟩
    · rw [if_neg h1] at h; cases h
  · rw [if_neg h0] at h
    by_cases h1 : -(n : Int) ≤ i
    · rw [if_pos h1] at h
      have e : (i + n).toNat = j := Option.some.inj h
      exact ⟨by rw [seqIndex_neg (by omega) h1, e], by omega, h1, by omega⟩
    · rw [if_neg h1] at h; cases h
theorem atI_get {α : Type} {xs : List α} {i : Int} {v : α} (h : atI xs i = some v) : ∃ j, seqIndex? i xs.length = some j ∧ xs[j]? = some v ∧ j < xs.length ∧ -(xs.length : Int) ≤ i ∧ i < xs.length := by
  unfold atI at h
  cases e : ixN xs.length i with
  | none => rw [e] at h; cases h
  | some j =>
    rw [e] at h
    obtain ⟨h1, h2, h3, h4⟩ := ixN_seq e
    exact ⟨j, h1, h, h2, h3, h4⟩
/-! ### what may be subscripted -/
def PlainIx (b : Expr) : Prop := ∀ o i, subscripted b false o i = operate [o, i] (getItem o i)
def IxR (X : Cx) (r : R2) : Prop :=
  ∀ (value slice : Expr) (pins : List (Addr × Obj)) (s : Shared) (σ : St) (H : Hp) (x y : V) (v u : Value) (Q : VK), Inv X pins σ H s → RelV x v → RelV y u → r x y H Q →
    subscripted slice false v u = operate [v, u] (getItem v u) → wpAny (model X.prog X.w) X.A (subscriptTail value slice v u) (EP X pins σ Q) X.xe s
def MtR (X : Cx) (id : String) (r : V → List V → Hp → VK → Prop) : Prop :=
  ∀ (pins : List (Addr × Obj)) (s : Shared) (σ : St) (H : Hp) (x : V) (xs : List V) (v : Value) (us : List Value) (Q : VK), Inv X pins σ H s → RelV x v → Vals xs us → r x xs H Q →
    wpAny (model X.prog X.w) X.A (call (.builtin id) (v :: us)) (EP X pins σ Q) X.xe s
section
variable {X : Cx} {a b : Expr} {ta tb : TE} {pos : Pos}
theorem IxR.or {r r' : R2} (h : IxR X r) (h' : IxR X r') : IxR X (fun x y H Q => r x y H Q ∨ r' x y H Q) := by
  intro value slice pins s σ H x y v u Q I rx ry q hs
  rcases q with q | q
  · exact h value slice pins s σ H x y v u Q I rx ry q hs
  · exact h' value slice pins s σ H x y v u Q I rx ry q hs
theorem MtR.or {id : String} {r r' : V → List V → Hp → VK → Prop} (h : MtR X id r) (h' : MtR X id r') : MtR X id (fun x xs H Q => r x xs H Q ∨ r' x xs H Q) := by
  intro pins s σ H x xs v us Q I rx rs q
  rcases q with q | q
  · exact h pins s σ H x xs v us Q I rx rs q
  · exact h' pins s σ H x xs v us Q I rx rs q
theorem pe_ix {r : R2} (hr : IxR X r) (ha : PE X a ta) (hb : PE X b tb) (hs : PlainIx b) : PE X (.Subscript a b pos) (tOp r ta tb) := by
  intro pins s σ H Q I h
  exact Subscript_ (binT ha hb I h fun v u s2 x y H2 I2 rx ry q => hr a b pins s2 σ H2 x y v u Q I2 rx ry q (hs _ _))

def rIxL (K : PySem.W.Frag) : R2 := fun x y H Q => ∃ p xs i v, x = .ref p ∧ y = .int i ∧ SqL K H p xs ∧ atI xs i = some v ∧ Q v H
def rIxT (K : PySem.W.Frag) : R2 := fun x y H Q => ∃ p xs i v, x = .ref p ∧ y = .int i ∧ SqT K H p xs ∧ atI xs i = some v ∧ Q v H
def rIxS : R2 := fun x y H Q => ∃ z i c, x = .str z ∧ y = .int i ∧ z.length ≤ sizeLine ∧ atI z.cps.toList i = some c ∧ Q (.str ⟨#[c]⟩) H
theorem ix_list : IxR X (rIxL X.K) := by
  intro value slice pins s σ H x y v u Q I rx ry h hs
  obtain ⟨p, xs, i, z, rfl, rfl, hq, he, q⟩ := h
  cases rx
  obtain ⟨t, rfl⟩ := ry
  obtain ⟨its, r, pl, hz⟩ := I.list hq
  obtain ⟨j, h1, h2, h3, h4, h5⟩ := atI_get he
  obtain ⟨w, ew, rw'⟩ := r.get h2
  have hl := r.length
  have hn := line63
  have fin : EP X pins σ Q w s := ⟨z, H, I, rw', q⟩
  by_cases h0 : 0 ≤ i
  · have hj : i.toNat = j := by
      rw [seqIndex_of h0 h5] at h1
      exact Option.some.inj h1
    exact item_listR pl.isList h0 (by omega) (by rw [hj]; simpa using ew) fin hs
  · have hj : (i + (its.toArray.size : Int)).toNat = j := by
      rw [seqIndex_neg (by omega) h4] at h1
      rw [List.size_toArray, ← hl]
      exact Option.some.inj h1
    exact subscriptTail_builtinR (x := w) pl.isList.typeIs slot_list_getitem.lookup
      (wpAny_getItem_list_neg (Q := fun r s' => r = w ∧ EP X pins σ Q r s') pl.isList (by omega) (by rw [List.size_toArray] <;> omega) (by omega) (by rw [hj]; simpa using ew) ⟨rfl, fin⟩) hs
theorem ix_tup : IxR X (rIxT X.K) := by
  intro value slice pins s σ H x y v u Q I rx ry h hs
  obtain ⟨p, xs, i, z, rfl, rfl, hq, he, q⟩ := h
  cases rx
  obtain ⟨t, rfl⟩ := ry
  obtain ⟨its, r, pl, hz⟩ := I.tuple hq
  obtain ⟨j, h1, h2, h3, h4, h5⟩ := atI_get he
  obtain ⟨w, ew, rw'⟩ := r.get h2
  have hl := r.length
  have hn := line63
  have fin : EP X pins σ Q w s := ⟨z, H, I, rw', q⟩
  exact subscriptTail_builtinR (x := w) pl.typeIs slot_tuple_getitem.lookup
    (getItem_tuple (j := j) (Q := fun r s' => r = w ∧ EP X pins σ Q r s') pl (by omega) (by omega) (by rw [List.size_toArray, ← hl]; exact h1) (by simpa using ew) ⟨rfl, fin⟩) hs
theorem ix_str : IxR X rIxS := by
  intro value slice pins s σ H x y v u Q I rx ry h hs
  obtain ⟨z, i, c, rfl, rfl, hz, he, q⟩ := h
  obtain ⟨t, rfl⟩ := rx
  obtain ⟨t', rfl⟩ := ry
  obtain ⟨j, h1, h2, h3, h4, h5⟩ := atI_get he
  have hl : z.cps.toList.length = z.length := by simp [Str.length]
  rw [hl] at h1 h4 h5
  have hn := line63
  exact tail_any (typeIs_str s z t) slot_str_getitem.lookup (getItem_str (c := c) (by
    have e1 : decide (i < -(2 ^ 63 : Int)) = false := decide_eq_false (by omega)
    have e2 : decide (i ≥ 2 ^ 63) = false := decide_eq_false (by omega)
    rw [e1, e2, Bool.or_false]) (by rw [h1]; simpa using h2) ⟨.str ⟨#[c]⟩, H, I.tok _, ⟨_, rfl⟩, q⟩) hs
def rIx (K : PySem.W.Frag) : R2 := fun x y H Q => rIxL K x y H Q ∨ rIxT K x y H Q ∨ rIxS x y H Q
theorem ix_seq : IxR X (rIx X.K) := ix_list.or (ix_tup.or ix_str)

/-! ### xs[i] = v, any sign -/
theorem Inv.lst {pins : List (Addr × Obj)} {σ : St} {H : Hp} {s : Shared} {p : Addr} {xs : List V} (I : Inv X pins σ H s) (h : H p = some (.lst xs)) :
    ∃ (its : List Value) (n : Nat), Vals xs its ∧ s.heap.get? p = some { cls := .type "list", data := .seq its.toArray n } ∧ xs.length ≤ sizeLine := by
  obtain ⟨z, its, n, r, e⟩ := I.hok p _ h
  exact ⟨its, n, r, e, z⟩
/-! ### slices -/
theorem slice_bounds (lo hi : Option Int) (n : Nat) : (sliceBounds lo hi none n).1 = ((HT.sIx n 0 lo : Nat) : Int) ∧ (sliceBounds lo hi none n).2.1 = ((HT.sIx n n hi : Nat) : Int) ∧ (sliceBounds lo hi none n).2.2 = 1 := by
  refine ⟨?_, ?_, rfl⟩
  · cases lo with
    | none => simp [sliceBounds, HT.sIx]
    | some i =>
      simp only [sliceBounds, HT.sIx, Option.getD_none, show (1 : Int) > 0 by decide, if_true]
      by_cases h : i < 0
      · simp only [h, if_true] <;> omega
      · simp only [h, if_false] <;> omega
  · cases hi with
    | none => simp [sliceBounds, HT.sIx]
    | some i =>
      simp only [sliceBounds, HT.sIx, Option.getD_none, show (1 : Int) > 0 by decide, if_true]
      by_cases h : i < 0
      · simp only [h, if_true] <;> omega
      · simp only [h, if_false] <;> omega
theorem slicePick_cut (its : List Value) (lo hi : Option Int) : slicePick its.toArray lo hi none = ((its.drop (HT.sIx its.length 0 lo)).take (HT.sIx its.length its.length hi - HT.sIx its.length 0 lo)).toArray := by
  obtain ⟨h1, h2, h3⟩ := slice_bounds lo hi its.toArray.size
  unfold slicePick
  rw [h1, h2, h3]
  simp only [sliceRange_one, pick_run, List.size_toArray] <;> rfl
def rSlL (K : PySem.W.Frag) : V → Option Int → Option Int → Hp → VK → Prop := fun x lo hi H Q => ∃ a xs, x = .ref a ∧ SqL K H a xs ∧ ∀ p, H p = none → Q (.ref p) (upd H p (.lst (cutV xs lo hi)))
theorem sl_list : SlR X (rSlL X.K) := by
  intro pins s σ H x v vl vu lo hi sl Q I rx hs pl pu h
  obtain ⟨a, xs, rfl, hx, q⟩ := h
  cases rx
  obtain ⟨its, r, ht, hz⟩ := I.list hx
  have hlen := r.length
  refine ⟨"list", _, slot_list_getitem.lookup, ht.isList.typeIs, ?_⟩
  refine wpAny_getItem_list_slice ht.isList hs pl pu .none (by simp) ?_ (by rw [List.size_toArray] <;> omega)
  rw [slicePick_cut, ← hlen]
  refine ⟨.ref s.heap.objs.size, _, I.laid (t' := s.toks) (o := .lst (cutV xs lo hi)) (fun b ob q => Heap.get?_push_of_some _ q) (Nat.le_refl _) ?_, rfl, q _ (I.hok.fresh (Nat.le_refl _))⟩
  exact ⟨Nat.le_trans (cutV_length xs lo hi) hz, _, 0, (r.drop (HT.sIx xs.length 0 lo)).take (HT.sIx xs.length xs.length hi - HT.sIx xs.length 0 lo), Heap.get?_push_size _ rfl⟩

/-! ### in, not in: flat items -/
/-! ### len, list(x), tuple(x) of any list or tuple that is read -/
theorem CallR.or {f : Value} {r r' : List V → Hp → VK → Prop} (h : CallR X f r) (h' : CallR X f r') : CallR X f (fun xs H Q => r xs H Q ∨ r' xs H Q) := by
  intro pins s σ H xs us Q I rs q
  rcases q with q | q
  · exact h pins s σ H xs us Q I rs q
  · exact h' pins s σ H xs us Q I rs q
/-! ### the call of a builtin's method: o.m(..) -/
def tyV (K : PySem.W.Frag) (T : String) (x : V) (H : Hp) : Prop := match x with
  | .str _ => T = "str"
  | .int _ => T = "int"
  | .ref p => (T = "list" ∧ ∃ xs, SqL K H p xs) ∨ (T = "tuple" ∧ ∃ o, K.lookup p = some o ∧ o.cls = .type "tuple" ∧ o.dict = none) ∨
      (T = "dict" ∧ ((∃ kvs, H p = some (.dK kvs)) ∨ ∃ kvs, H p = some (.dT kvs))) ∨ (T = "set" ∧ ∃ S n, H p = some (.set S n))
  | _ => False
theorem tyV_is {pins : List (Addr × Obj)} {σ : St} {H : Hp} {s : Shared} {T : String} {x : V} {v : Value} (I : Inv X pins σ H s) (r : RelV x v) (ty : tyV X.K T x H) :
    s.TypeIs v T ∧ ∀ a, v = .ref a → ∃ ob, s.heap.get? a = some ob ∧ ob.dict = none := by
  cases x with
  | str z =>
    obtain ⟨t, rfl⟩ := r
    cases (show T = "str" from ty)
    exact ⟨typeIs_str s z t, fun _ e => nomatch e⟩
  | int i =>
    obtain ⟨t, rfl⟩ := r
    cases (show T = "int" from ty)
    exact ⟨typeIs_int s i t, fun _ e => nomatch e⟩
  | ref p =>
    cases r
    rcases ty with ⟨rfl, xs, hq⟩ | ⟨rfl, o, hk, hc, hd⟩ | ⟨rfl, hk⟩ | ⟨rfl, S, n, hk⟩
    · obtain ⟨its, _, pl, _⟩ := I.list hq
      refine ⟨pl.isList.typeIs, fun a e => ?_⟩
      cases e
      obtain ⟨o, n, e, c, hd, _⟩ := pl
      exact ⟨o, e, hd⟩
    · refine ⟨⟨o, I.kIn p o hk, hc⟩, fun a e => ?_⟩
      cases e
      exact ⟨o, I.kIn _ o hk, hd⟩
    · have z : ∃ o, s.heap.get? p = some o ∧ o.ExactDict := by
        rcases hk with ⟨kvs, hk⟩ | ⟨kvs, hk⟩
        · obtain ⟨_, _, _, _, o, _, _, e, ex, _⟩ := I.hok p _ hk
          exact ⟨o, e, ex⟩
        · obtain ⟨_, _, _, _, o, _, _, e, ex, _⟩ := I.hok p _ hk
          exact ⟨o, e, ex⟩
      obtain ⟨o, e, ex⟩ := z
      refine ⟨⟨o, e, ex.1⟩, fun a e2 => ?_⟩
      cases e2
      exact ⟨o, e, ex.2.1⟩
    · obtain ⟨o, _, _, _, e, ex, _⟩ := I.hok p _ hk
      refine ⟨⟨o, e, ex.1⟩, fun a e2 => ?_⟩
      cases e2
      exact ⟨o, e, ex.2.1⟩
  | _ => exact False.elim ty
def tBM (K : PySem.W.Frag) (T : String) (r : V → List V → Hp → VK → Prop) (to : TE) (t : TA) : TE := fun σ H Q => to σ H fun x H1 => tyV K T x H1 ∧ t σ H1 fun xs H2 => r x xs H2 Q
variable {o e : Expr} {es : List Expr} {to : TE} {t : TA} {name : Str} {apos cpos : Pos} {T id : String} {r : V → List V → Hp → VK → Prop}
theorem pe_bm (pa : PlainAttrs T) (slot : Slot T name id) (hty : typeOf (.builtin id) = pure (.type "method_descriptor")) (hm : MtR X id r) (ho : PE X o to) (ha : PA X (e :: es) t)
    (hbase : attributeBase o name X.env (eval o X.env) = eval o X.env := by rfl)
    (hfew : ((backTo cpos (starEach (e :: es) X.env)).all (fun x => !x.1) && (backToKw cpos (keywordEach [] X.env)).all (fun x => x.1.isSome)
      && decide ((e :: es).length + ([] : List Keyword).length + (if ([] : List Keyword).isEmpty then 0 else 1) < 30)) = true := by rfl)
    (hline : (apos.endLine == cpos.line) = true := by rfl) (hs : starEach (e :: es) X.env = (false, eval e X.env) :: starEach es X.env := by rfl) (hplain : (backTo cpos (starEach es X.env)).any (·.1) = false := by rfl) :
    PE X (.Call (.Attribute o name apos) (e :: es) [] cpos) (tBM X.K T r to t) := by
  intro pins s σ H Q I h
  refine wpAny_Call_method_late hbase hfew hline rfl (thn (ho pins s σ H _ I h) fun v s1 ⟨x, H1, I1, r1, ty, q1⟩ => ?_)
  obtain ⟨h1, h2⟩ := tyV_is I1 r1 ty
  refine ⟨T, id, pa, slot, hty, h1, h2, ?_⟩
  have hA := ha cpos pins s1 σ H1 _ I1 q1
  rw [hs] at hA ⊢
  refine Calls.callWith_builtin (by show (false || (backTo cpos (starEach es X.env)).any (·.1)) = false; rw [hplain] <;> rfl) (Calls.evalArgs_plain ?_)
  exact thn hA fun us s2 ⟨vs, H2, I2, r2, q2⟩ => hm pins s2 σ H2 x vs v us Q I2 r1 r2 q2
/- xs.append(e), list.index on a module's tuple .. are MtR facts of 06m -/
end
end L2

namespace L2
open PySem PySem.Spec PyProof.Rows

def MtM (X : Cx) (id : String) (r : V → List V → Hp → VK → Prop) : Prop :=
  ∀ (pins : List (Addr × Obj)) (s : Shared) (σ : St) (H : Hp) (x : V) (xs : List V) (v : Value) (us : List Value) (Q : VK), Inv X pins σ H s → RelV x v → Vals xs us → r x xs H Q →
    wpAny (model X.prog X.w) X.A (call (.builtin id) (v :: us)) (EP X pins σ Q) X.xe s

/-! ### lists of values -/
theorem Vals.one : ∀ {x : V} {us : List Value}, Vals [x] us → ∃ u, us = [u] ∧ RelV x u
  | _, _, .cons r .nil => ⟨_, rfl, r⟩
theorem Vals.two : ∀ {x y : V} {us : List Value}, Vals [x, y] us → ∃ u v, us = [u, v] ∧ RelV x u ∧ RelV y v
  | _, _, _, .cons r (.cons q .nil) => ⟨_, _, rfl, r, q⟩
theorem Vals.zero : ∀ {us : List Value}, Vals [] us → us = []
  | _, .nil => rfl
theorem Vals.dropLast {xs : List V} {us : List Value} (h : Vals xs us) : Vals xs.dropLast us.dropLast := by
  induction h with
  | nil => exact .nil
  | cons r t ih =>
    cases t with
    | nil => exact .nil
    | cons q t' => exact .cons r ih
theorem Vals.reverse {xs : List V} {us : List Value} (h : Vals xs us) : Vals xs.reverse us.reverse := by
  induction h with
  | nil => exact .nil
  | cons r t ih => rw [List.reverse_cons, List.reverse_cons]; exact Vals.append ih (.cons r .nil)
section
variable {X : Cx} {pins : List (Addr × Obj)} {σ : St} {H : Hp} {s : Shared} {l b : Addr} {xs ys zs : List V}

/-! ### the two steps: a tracked list is rewritten, a new list is laid -/
theorem Inv.lset {its its' : List Value} {n : Nat} {f : Array Value → Array Value} {t' : Nat} (I : Inv X pins σ H s) (hH : H l = some (.lst xs))
    (e : s.heap.get? l = some { cls := .type "list", data := .seq its.toArray n }) (hf : f its.toArray = its'.toArray) (hv : Vals ys its') (hz : ys.length ≤ sizeLine) :
    Inv X pins σ (upd H l (.lst ys)) { s with heap := s.heap.update l (Obj.mapSeq f), toks := t' } := by
  have q := PySem.IsL.update e f
  rw [hf] at q
  refine I.write (x := l) (e := l) (by rw [hH]; exact trivial) (.inl rfl) (fun b' u hb hu => (Heap.get?_update_other s.heap (Obj.mapSeq f) (Ne.symm hb)).trans hu) ⟨_, q⟩ ?_
  exact ⟨hz, its', _, hv, q⟩
theorem Inv.lnew {its : List Value} {t' : Nat} (I : Inv X pins σ H s) (hv : Vals ys its) (hz : ys.length ≤ sizeLine) :
    Inv X pins σ (upd H s.heap.objs.size (.lst ys)) { s with heap := s.heap.push { cls := .type "list", data := .seq its.toArray }, toks := t' } :=
  I.laid (fun _ _ q => Heap.get?_push_of_some _ q) (Nat.le_refl _) ⟨hz, its, 0, hv, Heap.get?_push_size _ rfl⟩
theorem Inv.fresh (I : Inv X pins σ H s) : H s.heap.objs.size = none := I.hok.fresh (Nat.le_refl _)
theorem Inv.lstM (I : Inv X pins σ H s) (hH : H l = some (.lst xs)) : xs.length ≤ sizeLine ∧ ∃ (its : List Value) (n : Nat), Vals xs its ∧ xs.length = its.length ∧ s.heap.get? l = some { cls := .type "list", data := .seq its.toArray n } := by
  obtain ⟨z, its, n, r, e⟩ := I.hok l _ hH
  exact ⟨z, its, n, r, r.length, e⟩

end

section
variable {X : Cx}

/-! ### methods -/
def rAppend : V → List V → Hp → VK → Prop := fun x vs H Q => ∃ l xs y, x = .ref l ∧ vs = [y] ∧ H l = some (.lst xs) ∧ xs.length < sizeLine ∧ Q .non (upd H l (.lst (xs ++ [y])))
theorem mt_append : MtM X "list.append" rAppend := by
  intro pins s σ H x vs v us Q I rx rv h
  obtain ⟨l, xs, y, rfl, rfl, hH, hz, q⟩ := h
  cases rx
  obtain ⟨u, rfl, ru⟩ := rv.one
  obtain ⟨z, its, n, r, hl, e⟩ := I.lstM hH
  refine call_meets F.slot_list_append ⟨_, e, rfl⟩ F.entry_list_append (F.args_list_append_2 _ _) (PySem.list_append l its.toArray n u (by rw [List.size_toArray]; omega)) ⟨e, ?_⟩
  refine ⟨.non, _, I.lset (its' := its ++ [u]) hH e (by simp) (r.append (.cons ru .nil)) ?_, rfl, q⟩
  rw [List.length_append, List.length_singleton]
  omega

/-! ### list + list, list += list, list * int -/
/-! ### del xs[i] -/
end

/-! ### xs[a:b] = ys -/
section
variable {prog : Program} {w : World} {A : Around} {E : Value → Shared → Prop} {s : Shared}
set_option maxRecDepth 100000 in
end

section
variable {X : Cx}
end
end L2

namespace Att
open PySem PySem.W PySem.Calls PyProof.Rows

/-! ### the script -/
theorem ints_of_wellAll {P : Params} {h : Heap} : ∀ (ns : List Int) (vs : List Value), WellAll P h vs (ns.map WData.int) → IntsAre vs ns := by
  intro ns
  induction ns with
  | nil =>
    intro vs w
    rw [List.map_nil] at w
    cases w
    exact .nil
  | cons n ns ih =>
    intro vs w
    rw [List.map_cons] at w
    cases w with
    | cons a b =>
      cases a
      exact .cons _ _ (ih _ b)

theorem script_of {l : OpenLaw} {n : Nat} (hn : l.most = some n) {P : Params} {h : Heap} {args : List WData} {vals : List Value}
    (hpre : l.row.toRowW.claim.pre args = true) (hwl : WellAll P h vals args) :
    ∃ a vs ns, vals = [Value.ref a] ∧ args = [WData.list (ns.map WData.int)] ∧ h.get? a = some { cls := .type "list", data := .seq vs.toArray } ∧ IntsAre vs ns ∧ ns.length ≤ n := by
  have hsh : WShape.hasAll [] args [.list .int] = true := (pre_splitW hpre).1
  have hc : l.pre.holds [] { args := args } = true := (pre_splitW hpre).2
  obtain ⟨d, r, rfl, h1, h2⟩ := hasAllW_cons hsh
  obtain rfl := hasAllW_nil h2
  obtain ⟨xs, rfl, h3⟩ := hasW_list h1
  obtain ⟨ns, rfl⟩ := items_int h3
  have hlen : ns.length ≤ n := by
    unfold OpenLaw.pre at hc
    have h4 : (WTm.not (.lt (.lit (.int (n : Int))) (.len (.arg 0)))).holds [] { args := [.list (ns.map .int)] } = true := by
      have h4 := (holds_andW hc).1
      rw [hn] at h4
      exact h4
    have h5 := condW_of h4 (w_not (w_lt w_lit (w_len_list (w_arg rfl))))
    rw [List.length_map] at h5
    refine Nat.le_of_not_lt fun q => ?_
    have q' : (n : Int) < ((ns.length : Nat) : Int) := by omega
    first
      | (rw [decide_eq_true q'] at h5; exact absurd h5 (by decide))
      | (simp at h5; omega)
  cases hwl with
  | cons w1 w2 =>
    cases w2
    cases w1 with
    | list ho hall => exact ⟨_, _, ns, rfl, rfl, ho, ints_of_wellAll ns _ hall, hlen⟩

theorem post_true (l : OpenLaw) (args : List WData) : l.row.toRowW.claim.post args (.bool true) args = true :=
  postW_of (r := l.row.toRowW) (X := (true == true))
    (show WShape.has [] (.bool true) .bool = true by first | rfl | decide | simp [WShape.has, WShape.arms, WShape.armsAll])
    (show (WTm.eq .res (.lit (.bool true))).value [] { args := args, res := some (.bool true), after := args } = some (.bool (true == true)) from w_eq_bool (w_res rfl) w_lit) rfl

/-! ### the attachment: holds_open's last premise (the goal 'hc' behind k_head) from a wpAny of the law's body -/
theorem attach_call {l : OpenLaw} {n : Nat} {q : Program} {loose : List Str} {XP : (Str → Option Value) → Heap → Prop} {YP : World → Heap → Prop} {d : DefRec}
    (hn : l.most = some n) (hdf : d.params.defaults = [])
    (call : ∀ (w : World) (s₀ s₁ : Shared) (mg mb : Str → Option Value) (fa : Addr) (o : Obj) (pm cd doc : Value) (a : Addr) (vs : List Value) (ns : List Int),
      Ground q loose [] XP w s₀ mg mb s₁.heap → YP w s₁.heap →
      s₁.heap.get? fa = some o → o.data = .func (docDef d.name d.params d.body d.scope pm cd doc) → s₁.heap.CodeRec cd d.name → mg d.name = some (.ref fa) →
      s₁.heap.get? a = some { cls := .type "list", data := .seq vs.toArray } → IntsAre vs ns → ns.length ≤ n → s₁.gens = #[] →
      codeAny (model l.prog w) callerA (.call (.ref fa) ⟨[.ref a], []⟩) (fun r s' => r = .ok (.ret (.bool true)) ∧ OldK s₁.heap s'.heap ∧ s'.os = s₁.os ∧ AllBare s'.gens) s₁) :
    WalkO q loose XP YP l.row.toRowW d [] (fun f vs => PySem.call f vs) := by
  intro w s₀ s₁ mg mb G Y fa o pm cd doc dV kV ho hd hcd hD hmg hg args vals as hpre hlay hrd hwl hlo
  obtain rfl : dV = .none := Dflts.none hD hdf
  obtain rfl : kV = .none := Dflts.noKw hD
  obtain ⟨a, vs, ns, rfl, rfl, hobj, hints, hlen⟩ := script_of hn hpre hwl
  refine enter_call (codeAny_mono (call w s₀ s₁ mg mb fa o pm cd doc a vs ns G Y ho (fd_plain hd) hcd hmg hobj hints hlen hg) fun r s' hq => ?_)
  obtain ⟨rfl, h2, h3, h4⟩ := hq
  exact ⟨.inl ⟨.bool true, .bool true, [], rfl, fun _ => rfl, .bool true, post_true l _, fun _ => ⟨List.Pairwise.nil, fun _ hm => (nomatch hm)⟩⟩, h2, h3, h4⟩

/-! ### rules over ANY heap (no ledger) from facts about the written part K: the library's own take a ledger (News) for what they write -/
section
variable {prog : Program} {w : World} {A : Around} {E : Value → Shared → Prop} {s : Shared} {K : Frag}

/-! the whole heap as the ledger: makes every rule that writes through a ledger a rule over any heap -/
def ledger (h : Heap) (L d : Addr) : List (Addr × Obj) := (List.range h.objs.size).filterMap fun a => if a = L ∨ a = d then none else (h.get? a).map fun o => (a, o)
end
end Att

namespace L2
open PySem PySem.Spec PyProof.Rows

theorem vals_ints : ∀ {vs : List Value} {ns : List Int}, IntsAre vs ns → Vals (ns.map V.int) vs
  | _, _, .nil => .nil
  | _, _, .cons n t h => .cons ⟨t, rfl⟩ (vals_ints h)

def Only (H : Hp) : Prop := ∀ b, H b = none ∨ ∃ o xs, H b = some (.frz o (.lst xs))

theorem law_call {P : Program} {w : World} {K : PySem.W.Frag} {mg mb : Str → Option Value} {CX : CXT} {k : Nat} {fa a : Addr} {fd : FuncData} {x : Str} {sp : Sp} {s₁ : Shared} {vs : List Value} {ns : List Int}
    (KX : K.In s₁.heap) (hns : s₁.heap.Ns mainGlobals mg) (hb : s₁.heap.Ns builtinsNs mb) (hbb : ∀ x : Str, x ≠ "__name__" → mb x = bootBuiltins x) (hlim : s₁.heap.NoLimit) (hg : s₁.gens = #[])
    (ha : s₁.heap.get? a = some { cls := .type "list", data := .seq vs.toArray }) (hi : IntsAre vs ns) (hl : ns.length ≤ sizeLine) (hr : Room k callerA)
    (F : ∀ base : Heap, K.In base → base.Ns mainGlobals mg → FnOk P w K mg base CX k fa fd [x] sp) (hbind : ∀ (s : Shared) (u : Value), BindsTo s fd ⟨[u], []⟩ [(x, u)])
    (hsp : ∀ H : Hp, Only H → SqL K H a (ns.map V.int) → sp [.ref a] H (fun v _ => v = .bl true) fun _ _ _ => False)
    (hCX : ∀ H e s', CX [] H s₁ (fun _ _ _ => False) e s' → False) :
    codeAny (model P w) callerA (.call (.ref fa) ⟨[.ref a], []⟩) (fun r s' => r = .ok (.ret (.bool true)) ∧ OldK s₁.heap s'.heap ∧ s'.os = s₁.os ∧ AllBare s'.gens) s₁ := by
  have rv := vals_ints hi
  have lenV := hi.length
  -- from an abstract heap in which nothing but the script may be tracked
  have core : ∀ H : Hp, Only H → SqL K H a (ns.map V.int) → HOk P w H s₁.heap → (∀ b, H b ≠ none → b = a) → (H a ≠ none → K.lookup a = none) →
      codeAny (model P w) callerA (.call (.ref fa) ⟨[.ref a], []⟩) (fun r s' => r = .ok (.ret (.bool true)) ∧ OldK s₁.heap s'.heap ∧ s'.os = s₁.os ∧ AllBare s'.gens) s₁ := by
    intro H hO hS hok hA hK
    have base_of : ∀ {b : Addr} {o : Obj}, s₁.heap.get? b = some o → H b = none → (hidT s₁.heap H).get? b = some o := fun e n => hidT_get e n
    have noA : ∀ {b : Addr} {o : Obj} {es : Array DictEntry} {ep : Nat}, s₁.heap.get? b = some o → o.data = .dict es ep → H b = none := fun {b o es ep} e d => by
      cases q : H b with
      | none => rfl
      | some u =>
        have e' : b = a := hA b (by rw [q]; simp)
        subst e'
        rw [ha] at e; cases e
        have d' : Data.seq vs.toArray _ = Data.dict es ep := d
        cases d'
    have nsK : ∀ {b : Addr} {m : Str → Option Value}, s₁.heap.Ns b m → (hidT s₁.heap H).Ns b m := fun {b m} ⟨o, es, ep, e, d, r⟩ => ⟨o, es, ep, base_of e (noA e d), d, r⟩
    have hKb : K.In (hidT s₁.heap H) := fun b o e => base_of (KX b o e) (by
      cases q : H b with
      | none => rfl
      | some u =>
        have e' : b = a := hA b (by rw [q]; simp)
        subst e'
        rw [hK (by rw [q]; simp)] at e; cases e)
    have hM : Mod K mg (hidT s₁.heap H) := ⟨hKb, nsK hns, ⟨mb, nsK hb, hbb⟩, let ⟨mc, h1, h2⟩ := hlim; ⟨mc, nsK h1, h2⟩⟩
    have e0 : Env0 P w K mg (hidT s₁.heap H) callerA [] s₁ H := ⟨rfl, hM, fun b o e => of_hidT e, Nat.le_of_eq (hidT_size _ _), trivial, fun b hb => absurd (show b ∈ ([] : List Addr) from hb) (by simp), hok, .of_eq hg⟩
    refine codeAny_mono ((F _ hKb (nsK hns)).run callerA [] s₁ H ⟨[.ref a], []⟩ [.ref a] [.ref a] _ _ hr e0 (hbind s₁ (.ref a)) (.cons rfl .nil) (hsp H hO hS)) fun r s' h => ?_
    cases r with
    | error e => exact (hCX H e s' h).elim
    | ok fl =>
      cases fl with
      | next => exact False.elim h
      | brk => exact False.elim h
      | cont => exact False.elim h
      | ret u =>
        obtain ⟨v, H', os, bare, un, hok', r', q⟩ := h
        have q' : v = .bl true := q
        subst q'
        obtain rfl : u = Value.bool true := r'
        refine ⟨rfl, OldK.of_keep fun b o e => ?_, os, bare⟩
        cases q : H b with
        | none => exact un.keep b o e q (by intro z; exact absurd (show b ∈ ([] : List Addr) from z) (by simp)) (by simp)
        | some u =>
          rcases hO b with z | ⟨ob, xs, z⟩
          · rw [q] at z; cases z
          · have z2 := un.frzs b ob _ z
            obtain ⟨e1, _⟩ := hok b _ z
            obtain ⟨e2, _⟩ := hok' b _ z2
            rw [e] at e1; cases e1
            exact e2
  cases hk : K.lookup a with
  | some o =>
    -- the script is one of the module's own objects
    have e := KX a o hk
    rw [ha] at e
    cases e
    refine core (fun _ => none) (fun _ => .inl rfl) (.inr ⟨_, vs.toArray, _, hk, rfl, rfl, rfl, by rw [List.size_toArray, lenV]; exact hl, by simpa using rv⟩) (fun b u z => by have z' : (none : Option HO) = some u := z; cases z') (fun b z => absurd rfl z) fun z => absurd rfl z
  | none =>
    refine core (fun b => if b = a then some (.frz { cls := .type "list", data := .seq vs.toArray } (.lst (ns.map V.int))) else none) (fun b => ?_) (.inl (.inr ⟨{ cls := .type "list", data := .seq vs.toArray }, if_pos rfl⟩)) (fun b u z => ?_) (fun b z => ?_) fun _ => hk
    · by_cases hb : b = a
      · exact .inr ⟨_, _, if_pos hb⟩
      · exact .inl (if_neg hb)
    · by_cases hb : b = a
      · have z' := (if_pos hb).symm.trans z
        cases z'
        subst hb
        exact ⟨ha, by rw [List.length_map]; exact hl, vs, _, rv, ha⟩
      · have z' := (if_neg hb).symm.trans z
        cases z'
    · by_cases hb : b = a
      · exact hb
      · exact absurd (if_neg hb) z
end L2

namespace L2
open PySem PySem.Spec PyProof.Rows

abbrev KOf {K : PySem.W.Frag} {h : Heap} (_ : K.In h) : PySem.W.Frag := K

theorem walk_of {l : PySem.W.OpenLaw} {n k : Nat} {q : Program} {loose : List Str} {XP : (Str → Option Value) → Heap → Prop} {YP : World → Heap → Prop} {d : DefRec} {K : Params → PySem.W.Frag} {CX : World → CXT} {sp : World → Sp} {x : Str}
    (hn : l.most = some n) (hn2 : n ≤ sizeLine) (hdf : d.params.defaults = []) (hr : Room k callerA)
    (hY : ∀ (w : World) (h : Heap), YP w h → (K w.params).In h)
    (F : ∀ (w : World) (mg : Str → Option Value) (fa : Addr) (h : Heap), (K w.params).In h → h.Ns mainGlobals mg → mg d.name = some (.ref fa) →
      ∃ fd : FuncData, (∀ (s : Shared) (u : Value), BindsTo s fd ⟨[u], []⟩ [(x, u)]) ∧
        ∀ base : Heap, (K w.params).In base → base.Ns mainGlobals mg → FnOk l.prog w (K w.params) mg base (CX w) k fa fd [x] (sp w))
    (hsp : ∀ (w : World) (H : Hp) (a : Addr) (ns : List Int), ns.length ≤ n → Only H → SqL (K w.params) H a (ns.map V.int) → sp w [.ref a] H (fun v _ => v = .bl true) fun _ _ _ => False)
    (hCX : ∀ (w : World) (H : Hp) (s : Shared) (e : Value) (s' : Shared), CX w [] H s (fun _ _ _ => False) e s' → False) :
    PySem.W.WalkO q loose XP YP l.row.toRowW d [] (fun f vs => PySem.call f vs) := by
  refine Att.attach_call hn hdf fun w s₀ s₁ mg mb fa o pm cd doc a vs ns G Y ho hd hcd hmg hobj hints hlen hg => ?_
  have KX := hY w _ Y
  obtain ⟨fd, hb, hF⟩ := F w mg fa _ KX G.T.g hmg
  exact law_call KX G.T.g G.T.b G.T.builtins G.T.nolimit hg hobj hints (Nat.le_trans hlen hn2) hr hF hb (fun H hO hS => hsp w H a ns hlen hO hS) fun H e s' => hCX w H s₁ e s'
end L2

/- THE LAST THEOREM (shape; LID, My.* are yours):
   My.Adr: a structure of the addresses that your layer names (classes, functions); My.Txt K t: a structure (Prop) of the equations over K;
   My.txt_mk : {K} {implicit addresses ..} (e1 : nsIn K mainGlobals "law" = some (some (.ref f))) (e2 : K.lookup f = some ⟨oc, od, .func (fnOf "law" "law" params body scope dV kV doc pm an cdv ct), sl⟩) (e3 : codeIn K cdv "law" = true) .. : ∃ t, My.Txt K t

set_option maxRecDepth 100000 in
set_option maxHeartbeats 0 in
theorem PySem.Challenge.cw_LID_holds : PySem.Challenge.rw_LID.Holds := by
  w_on; o_law; k_head; (case hw => w_witness2)
  k_fill
  refine L2.walk_of (l := PySem.Challenge.rw_LID) (n := 63) (k := 40) (x := "script") (CX := fun w => ..) (sp := fun _ => My.sp_law) rfl (by decide) rfl ⟨rfl, by decide, by decide⟩ (fun w h Y => PySem.W.kIn_of Y) ?F ?S ?C
  case F =>
    intro w mg fa h KX G hmg
    have T : ∃ t, My.Txt (L2.KOf KX) t := by
      dsimp only [L2.KOf]                          -- K must stand as «<heap const> w.params» for k_is
      refine' My.txt_mk ?e1 ?e2 ?e3 ..
      (case e1 => PySem.W.k_is)                    -- in the order: a name -> its address -> its object -> its parts
      (case e2 => PySem.W.k_is)
      ..
    obtain ⟨t, T⟩ := T
    have e0 := hmg.symm.trans (PySem.W.mg_of KX G T.law)
    cases e0                                       -- fa is the law's own address
    exact ⟨_, fun s u => .of_eq rfl, fun base kb nb => My.law_fn T kb nb⟩     -- if «.of_eq rfl» comes too early: refine' ⟨_, ?b, fun base kb nb => My.law_fn T kb nb⟩; exact fun s u => .of_eq rfl
  case S => exact fun w H a ns hl hO hS => ..
  case C => exact ..
(the tactic k_is has no namespace: write k_is) -/

/-! SHORT WORDS over the layer: a def of the text, its body, what a loop and a test want. -/
namespace L2
open PySem PySem.Spec PyProof.Rows

/-! ### the text by places -/
def defArgs (s : Stmt) : Arguments := match s with
  | .FunctionDef _ a _ _ _ _ _ _ _ _ => a
  | _ => { posonlyargs := [], args := [], vararg := none, kwonlyargs := [], kw_defaults := [], kwarg := none, defaults := [] }
def defBody (s : Stmt) : List Stmt := match s with
  | .FunctionDef _ _ b _ _ _ _ _ _ _ => b
  | _ => []
def defScope (s : Stmt) : Scope := match s with
  | .FunctionDef _ _ _ _ _ _ sc _ _ _ => sc
  | _ => { kind := .function, names := [], isGenerator := false, isCoroutine := false }

/-! ### no exception leaves a def -/
abbrev CX0 : CXT := fun _ _ _ _ _ _ => False
/-! ### a def (or method) of the text as it stands behind the top -/
structure Fun (K : PySem.W.Frag) (x qual : Str) (st : Stmt) (f : Addr) (fd : FuncData) : Prop where
  ex : ∃ (oc : Value) (od : Option Addr) (kV doc pm : Value) (an : Option Addr) (cdv ct : Value) (osl : Array (Option Value)),
    fd = PySem.W.fnOf x qual (defArgs st) (defBody st) (defScope st) .none kV doc pm an cdv ct ∧ K.lookup f = some ⟨oc, od, .func fd, osl⟩ ∧ PySem.W.codeIn K cdv qual = true
  kp : PySem.W.keepIn K (.ref f) = true
section
variable {P : Program} {w : World} {K : PySem.W.Frag} {mg : Str → Option Value} {base : Heap}
theorem Fun.ok {x qual : Str} {st : Stmt} {f : Addr} {fd : FuncData} {N ps : List Str} {k : Nat} {sp : Sp} (F : Fun K x qual st f fd) (S : FnScope N ps (defScope st)) (len : ∀ vs H Q E, sp vs H Q E → vs.length = ps.length)
    (hbody : ∀ (cdv : Value) (A : Around) (outer : List Env) (s : Shared) (H : Hp) (vs : List V) (Q : VK) (E : XK), Room k (A.deeper (envOfC qual (defScope st) s.heap.objs.size f cdv)) → sp vs H Q E →
      ∃ t, PSs (cxOf CX0 P w K mg base N qual (defScope st) f cdv A outer s H E).nox (defBody st) t ∧ t { nx := fun _ H' => Q .non H', rt := Q } (start N vs) H) : FnOk P w K mg base CX0 (k + 1) f fd ps sp := by
  obtain ⟨oc, od, kV, doc, pm, an, cdv, ct, osl, rfl, lk, hcd⟩ := F.ex
  refine fn_of lk hcd S len fun A outer s H vs Q E hr hsp => ?_
  obtain ⟨t, h, q⟩ := hbody cdv A outer s H vs Q E hr hsp
  exact ⟨t, h.nox, q⟩
theorem Fun.binds {x qual : Str} {st : Stmt} {f : Addr} {fd : FuncData} {ps : List Str} (F : Fun K x qual st f fd)
    (h : ∀ (kV doc pm : Value) (an : Option Addr) (cdv ct : Value) (us : List Value), us.length = ps.length → bindArgs (PySem.W.fnOf x qual (defArgs st) (defBody st) (defScope st) .none kV doc pm an cdv ct) ⟨us, []⟩ = pure (ps.zip us)) : Binds K fd ps [] := by
  obtain ⟨oc, od, kV, doc, pm, an, cdv, ct, osl, rfl, lk, hcd⟩ := F.ex
  exact .all (h kV doc pm an cdv ct)
theorem fun_mk {x qual : Str} {st : Stmt} {f : Addr} {oc : Value} {od an : Option Addr} {osl : Array (Option Value)} {kV doc pm cdv ct : Value} (l : K.lookup f = some ⟨oc, od, .func (PySem.W.fnOf x qual (defArgs st) (defBody st) (defScope st) .none kV doc pm an cdv ct), osl⟩)
    (c : PySem.W.codeIn K cdv qual = true) (k : PySem.W.keepIn K (.ref f) = true) : Fun K x qual st f (PySem.W.fnOf x qual (defArgs st) (defBody st) (defScope st) .none kV doc pm an cdv ct) := ⟨⟨oc, od, kV, doc, pm, an, cdv, ct, osl, rfl, l, c⟩, k⟩
end
theorem small1000 {n : Nat} (h : n ≤ 1000) : n < sizeLine := Nat.lt_of_le_of_lt h (by decide)

/-! ### expressions in short: the name that stands in the i-th slot -/
section
variable {X : Cx}
end

/-! ### tests -/
/-! ### heaps -/
def Same (H H' : Hp) : Prop := ∀ b o, H b = some o → H' b = some o
theorem Same.refl (H : Hp) : Same H H := fun _ _ h => h
theorem Same.trans {H H1 H2 : Hp} (a : Same H H1) (b : Same H1 H2) : Same H H2 := fun c o h => b c o (a c o h)
theorem Same.free {H H' : Hp} (e : Same H H') {l : Addr} (h : H' l = Option.none) : H l = Option.none := by
  cases q : H l with
  | none => rfl
  | some o =>
    rw [e l o q] at h
    cases h
theorem Same.seq {K : PySem.W.Frag} {H H' : Hp} {a : Addr} {xs : List V} (e : Same H H') (h : SqL K H a xs) : SqL K H' a xs := by
  rcases h with (h | ⟨o, h⟩) | h
  · exact .inl (.inl (e _ _ h))
  · exact .inl (.inr ⟨o, e _ _ h⟩)
  · exact .inr h

end L2
set_option maxHeartbeats 4000000
namespace L2
open PySem PySem.Spec PyProof.Rows

/-! ### lists of pairs as tables -/
section
variable {κ : Type} [DecidableEq κ]
def valV (kvs : List (κ × V)) (k : κ) : Option V := (kvs.find? fun kv => decide (kv.1 = k)).map (·.2)
def putK (kvs : List (κ × V)) (k : κ) (v : V) : List (κ × V) :=
  if (kvs.any fun kv => decide (kv.1 = k)) = true then kvs.map (fun kv => if kv.1 = k then (kv.1, v) else kv) else kvs ++ [(k, v)]
def dropK (kvs : List (κ × V)) (k : κ) : List (κ × V) := kvs.filter fun kv => decide (kv.1 ≠ k)

theorem valV_pos {p : κ × V} {r : List (κ × V)} {k : κ} (e : p.1 = k) : valV (p :: r) k = some p.2 := by simp [valV, List.find?_cons, e]
theorem valV_neg {p : κ × V} {r : List (κ × V)} {k : κ} (e : ¬ p.1 = k) : valV (p :: r) k = valV r k := by simp [valV, List.find?_cons, e]
theorem valV_any (k : κ) : ∀ kvs : List (κ × V), (kvs.any fun kv => decide (kv.1 = k)) = (valV kvs k).isSome
  | [] => rfl
  | p :: r => by
    rw [List.any_cons]
    by_cases e : p.1 = k
    · simp only [valV_pos e, decide_eq_true e, Bool.true_or, Option.isSome_some]
    · rw [valV_neg e, decide_eq_false e, Bool.false_or]; exact valV_any k r
theorem RelO.isSome_eq {o : Option V} {u : Option Value} (r : RelO o u) : o.isSome = u.isSome := by
  cases o with
  | none => cases u with
    | none => rfl
    | some _ => exact (show False from r).elim
  | some _ => cases u with
    | none => exact (show False from r).elim
    | some _ => rfl
theorem RelO.getD {o : Option V} {u : Option Value} {d : V} {d' : Value} (r : RelO o u) (rd : RelV d d') : RelV (o.getD d) (u.getD d') := by
  cases o with
  | none => cases u with
    | none => exact rd
    | some _ => exact (show False from r).elim
  | some _ => cases u with
    | none => exact (show False from r).elim
    | some _ => exact r

theorem KV.val {kvs : List (κ × V)} {vs : List (κ × Value)} (r : KV kvs vs) (k : κ) : RelO (valV kvs k) (valueAt vs k) := by
  unfold KV at r
  induction r with
  | nil => exact True.intro
  | @cons p q ps qs h t ih =>
    obtain ⟨h1, h2⟩ := h
    by_cases e : p.1 = k
    · have e' : q.1 = k := h1.symm.trans e
      have b : valueAt (q :: qs) k = some q.2 := by simp [valueAt, List.find?_cons, e']
      rw [valV_pos e, b]; exact h2
    · have e' : ¬ q.1 = k := fun z => e (h1.trans z)
      have b : valueAt (q :: qs) k = valueAt qs k := by simp [valueAt, List.find?_cons, e']
      rw [valV_neg e, b]; exact ih
theorem KV.any {kvs : List (κ × V)} {vs : List (κ × Value)} (r : KV kvs vs) (k : κ) : (kvs.any fun kv => decide (kv.1 = k)) = vs.any fun kv => decide (kv.1 = k) := by
  unfold KV at r
  induction r with
  | nil => rfl
  | cons h t ih => rw [List.any_cons, List.any_cons, ih, h.1]
theorem KV.repl {kvs : List (κ × V)} {vs : List (κ × Value)} (r : KV kvs vs) (k : κ) {y : V} {u : Value} (ry : RelV y u) :
    KV (kvs.map fun kv => if kv.1 = k then (kv.1, y) else kv) (vs.map fun kv => if kv.1 = k then (kv.1, u) else kv) := by
  unfold KV at r ⊢
  induction r with
  | nil => exact .nil
  | @cons p q ps qs h t ih =>
    rw [List.map_cons, List.map_cons]
    refine .cons ?_ ih
    obtain ⟨h1, h2⟩ := h
    by_cases e : p.1 = k
    · rw [if_pos e, if_pos (h1.symm.trans e)]; exact ⟨h1, ry⟩
    · rw [if_neg e, if_neg (fun z => e (h1.trans z))]; exact ⟨h1, h2⟩
theorem KV.put {kvs : List (κ × V)} {vs : List (κ × Value)} (r : KV kvs vs) (k : κ) {y : V} {u : Value} (ry : RelV y u) : KV (putK kvs k y) (stored vs k u) := by
  unfold putK stored
  rw [r.any k]
  by_cases e : (vs.any fun kv => decide (kv.1 = k)) = true
  · rw [if_pos e, if_pos e]; exact r.repl k ry
  · rw [if_neg e, if_neg e]; exact Paired.snoc r ⟨rfl, ry⟩
theorem KV.drop {kvs : List (κ × V)} {vs : List (κ × Value)} (r : KV kvs vs) (k : κ) : KV (dropK kvs k) (without vs k) := by
  unfold KV at r ⊢
  unfold dropK without
  induction r with
  | nil => exact .nil
  | @cons p q ps qs h t ih =>
    obtain ⟨h1, h2⟩ := h
    rw [List.filter_cons, List.filter_cons]
    by_cases e : p.1 = k
    · have a : ¬ decide (p.1 ≠ k) = true := by simp [e]
      have b : ¬ decide (q.1 ≠ k) = true := by simp [h1.symm.trans e]
      rw [if_neg a, if_neg b]; exact ih
    · have e' : ¬ q.1 = k := fun z => e (h1.trans z)
      have a : decide (p.1 ≠ k) = true := by simp [e]
      have b : decide (q.1 ≠ k) = true := by simp [e']
      rw [if_pos a, if_pos b]; exact .cons ⟨h1, h2⟩ ih
theorem KV.keys {kvs : List (κ × V)} {vs : List (κ × Value)} (r : KV kvs vs) : kvs.map (·.1) = vs.map (·.1) := by
  unfold KV at r
  induction r with
  | nil => rfl
  | cons h t ih => rw [List.map_cons, List.map_cons, ih, h.1]
theorem KV.length {kvs : List (κ × V)} {vs : List (κ × Value)} (r : KV kvs vs) : kvs.length = vs.length := Paired.length r
end


/-! ### a tracked dict, its keys ints and texts or tuples of these -/
abbrev KT (H : Hp) : List (List Key × V) → List (List Key × Addr × Value) → Prop := Paired fun p q => p.1 = q.1 ∧ H q.2.1 = some (.tup (p.1.map kV)) ∧ RelV p.2 q.2.2
theorem KT.val {H : Hp} {kvs : List (List Key × V)} {xs : List (List Key × Addr × Value)} (r : KT H kvs xs) (k : List Key) : RelO (valV kvs k) ((atKey xs k).map (·.2)) := by
  induction r with
  | nil => exact True.intro
  | @cons p q ps qs h t ih =>
    obtain ⟨h1, _, h2⟩ := h
    by_cases e : p.1 = k
    · have e' : q.1 = k := h1.symm.trans e
      have b : atKey (q :: qs) k = some q.2 := by simp [atKey, List.find?_cons, e']
      rw [valV_pos e, b]; exact h2
    · have e' : ¬ q.1 = k := fun z => e (h1.trans z)
      have b : atKey (q :: qs) k = atKey qs k := by simp [atKey, List.find?_cons, e']
      rw [valV_neg e, b]; exact ih
theorem KT.repl {H : Hp} {kvs : List (List Key × V)} {xs : List (List Key × Addr × Value)} (r : KT H kvs xs) (k : List Key) {y : V} {u : Value} (ry : RelV y u) :
    KT H (kvs.map fun kv => if kv.1 = k then (kv.1, y) else kv) (xs.map (putAt k u)) := by
  induction r with
  | nil => exact .nil
  | @cons p q ps qs h t ih =>
    rw [List.map_cons, List.map_cons]
    refine .cons ?_ ih
    obtain ⟨h1, h2, h3⟩ := h
    unfold putAt
    by_cases e : p.1 = k
    · rw [if_pos e, if_pos (h1.symm.trans e)]; exact ⟨h1, h2, ry⟩
    · rw [if_neg e, if_neg (fun z => e (h1.trans z))]; exact ⟨h1, h2, h3⟩
theorem KT.put {H : Hp} {kvs : List (List Key × V)} {xs : List (List Key × Addr × Value)} (r : KT H kvs xs) (k : List Key) {b : Addr} {y : V} {u : Value} (hb : H b = some (.tup (k.map kV))) (ry : RelV y u) :
    KT H (putK kvs k y) (storedH xs k b u) := by
  have e : (kvs.any fun kv => decide (kv.1 = k)) = (atKey xs k).isSome := by
    rw [valV_any, (r.val k).isSome_eq, Option.isSome_map]
  unfold putK storedH
  rw [e]
  by_cases q : (atKey xs k).isSome = true
  · rw [if_pos q, if_pos q]; exact r.repl k ry
  · rw [if_neg q, if_neg q]; exact Paired.snoc r ⟨rfl, hb, ry⟩
theorem KT.keeps {H H' : Hp} {kvs : List (List Key × V)} {xs : List (List Key × Addr × Value)} (r : KT H kvs xs) (ht : ∀ b ys, H b = some (.tup ys) → H' b = some (.tup ys)) : KT H' kvs xs :=
  Paired.mapP r fun _ _ z => ⟨z.1, ht _ _ z.2.1, z.2.2⟩

section
variable {P : Program} {w : World} {H : Hp} {h : Heap} {a : Addr}
end

def DGet (H : Hp) (a : Addr) (y : V) (r : Option V) : Prop :=
  (∃ kvs k, Rd H a (.dK kvs) ∧ y = kV k ∧ r = valV kvs k) ∨ ∃ kvs k b, Rd H a (.dT kvs) ∧ y = .ref b ∧ H b = some (.tup (k.map kV)) ∧ r = valV kvs k
def DPut (H : Hp) (a : Addr) (y v : V) (H' : Hp) : Prop :=
  (∃ kvs k, H a = some (.dK kvs) ∧ y = kV k ∧ kvs.length < sizeLine ∧ H' = upd H a (.dK (putK kvs k v))) ∨
  ∃ kvs k b, H a = some (.dT kvs) ∧ y = .ref b ∧ H b = some (.tup (k.map kV)) ∧ kvs.length < sizeLine ∧ H' = upd H a (.dT (putK kvs k v))
theorem DGet.k {H : Hp} {a : Addr} {kvs : List (Key × V)} {k : Key} (e : H a = some (.dK kvs)) : DGet H a (kV k) (valV kvs k) := .inl ⟨kvs, k, .inl e, rfl, rfl⟩
theorem DGet.t {H : Hp} {a b : Addr} {kvs : List (List Key × V)} {k : List Key} (e : H a = some (.dT kvs)) (eb : H b = some (.tup (k.map kV))) : DGet H a (.ref b) (valV kvs k) := .inr ⟨kvs, k, b, .inl e, rfl, eb, rfl⟩
theorem DPut.k {H : Hp} {a : Addr} {kvs : List (Key × V)} {k : Key} {v : V} (e : H a = some (.dK kvs)) (hl : kvs.length < sizeLine) : DPut H a (kV k) v (upd H a (.dK (putK kvs k v))) := .inl ⟨kvs, k, e, rfl, hl, rfl⟩
theorem DPut.t {H : Hp} {a b : Addr} {kvs : List (List Key × V)} {k : List Key} {v : V} (e : H a = some (.dT kvs)) (eb : H b = some (.tup (k.map kV))) (hl : kvs.length < sizeLine) :
    DPut H a (.ref b) v (upd H a (.dT (putK kvs k v))) := .inr ⟨kvs, k, b, e, rfl, eb, hl, rfl⟩


section
variable {X : Cx} {pins : List (Addr × Obj)} {σ : St} {H : Hp} {s : Shared} {a : Addr} {y v : V} {u r : Value} {o : Option V} {A : Around} {E : Value → Shared → Prop}

theorem Inv.big (I : Inv X pins σ H s) : sysModules < s.heap.objs.size := by
  have h : mainGlobals < s.heap.objs.size := (I.mod.glob.keeps I.bk).lt
  exact Nat.lt_trans (by decide) h

end

section
variable {X : Cx} {pins : List (Addr × Obj)} {σ : St} {H : Hp} {s : Shared} {a : Addr} {kvs : List (Key × V)} {k : Key} {u : Value} {A : Around} {E : Value → Shared → Prop}
end


/-! ### readings and rules -/
section
variable {X : Cx} {o i e value : Expr} {pos pos' tpos : Pos} {td ty tv : TE}
end


/-! ### displays -/
section
variable {X : Cx} {pos : Pos}
end

end L2

/-! DATA: what a value is worth as a tree; expressions and statements read as plain functions over such trees -/
namespace DL
open PySem PySem.Spec PyProof.Rows L2

abbrev St := L2.St
inductive D where
  | non | bl (b : Bool) | int (i : Int) | str (x : Str) | lst (xs : List D) | tup (xs : List D) | exc (n : Str) | fn (n : Str)
  deriving Inhabited

inductive R (α : Type) where
  | ok (a : α) | err (c : Str) | bad
def R.bind {α β : Type} (r : R α) (f : α → R β) : R β := match r with
  | .ok a => f a
  | .err c => .err c
  | .bad => .bad
def R.of {α : Type} : Option α → R α
  | some a => .ok a
  | none => .bad
theorem R.ok_bind {α β : Type} (a : α) (f : α → R β) : (R.ok a).bind f = f a := rfl
theorem R.err_bind {α β : Type} (c : Str) (f : α → R β) : (R.err c : R α).bind f = .err c := rfl
theorem R.of_some {α : Type} (a : α) : R.of (some a) = .ok a := rfl
def Good {α : Type} (E : Str → Hp → Prop) (H₀ : Hp) (r : R α) (post : α → Prop) : Prop := match r with
  | .ok a => post a
  | .err c => ∀ H', Same H₀ H' → E c H'
  | .bad => False
theorem Good.bind {α β : Type} {E : Str → Hp → Prop} {H₀ : Hp} {r : R α} {k : α → R β} {post : β → Prop} (h : Good E H₀ (r.bind k) post) : Good E H₀ r (fun a => Good E H₀ (k a) post) := by
  cases r with
  | ok a => exact h
  | err c => exact h
  | bad => exact h
theorem Good.mono {α : Type} {E : Str → Hp → Prop} {H₀ : Hp} {r : R α} {p q : α → Prop} (h : Good E H₀ r p) (w : ∀ a, r = .ok a → p a → q a) : Good E H₀ r q := by
  cases r with
  | ok a => exact w a rfl h
  | err c => exact h
  | bad => exact h
theorem Good.of_bind {α β : Type} {E : Str → Hp → Prop} {H₀ : Hp} {r : R α} {k : α → R β} {p : α → Prop} {q : β → Prop} (h : Good E H₀ r p) (w : ∀ a, r = .ok a → p a → Good E H₀ (k a) q) : Good E H₀ (r.bind k) q := by
  cases r with
  | ok a => exact w a rfl h
  | err c => exact h
  | bad => exact h
theorem Good.of {α : Type} {E : Str → Hp → Prop} {H₀ : Hp} {o : Option α} {p : α → Prop} (h : Good E H₀ (R.of o) p) : ∃ a, o = some a ∧ p a := by
  cases o with
  | none => exact False.elim h
  | some a => exact ⟨a, rfl, h⟩

/-! ### lists and tuples of the module -/
def KL (K : PySem.W.Frag) (a : Addr) (xs : List V) : Prop := ∃ (o : Obj) (its : Array Value) (n : Nat), K.lookup a = some o ∧ o.cls = .type "list" ∧ o.dict = none ∧ o.data = .seq its n ∧ its.size ≤ sizeLine ∧ Vals xs its.toList
def KT (K : PySem.W.Frag) (a : Addr) (xs : List V) : Prop := ∃ (o : Obj) (its : Array Value) (n : Nat), K.lookup a = some o ∧ o.cls = .type "tuple" ∧ o.data = .seq its n ∧ its.size ≤ sizeLine ∧ Vals xs its.toList
def LsAt (K : PySem.W.Frag) (P : Addr → Prop) (H : Hp) (a : Addr) (vs : List V) : Prop := (P a ∧ Rd H a (.lst vs)) ∨ KL K a vs
def TpAt (K : PySem.W.Frag) (P : Addr → Prop) (H : Hp) (a : Addr) (vs : List V) : Prop := (P a ∧ Rd H a (.tup vs)) ∨ KT K a vs
theorem LsAt.sq {K : PySem.W.Frag} {P : Addr → Prop} {H : Hp} {a : Addr} {vs : List V} (h : LsAt K P H a vs) : SqL K H a vs := h.elim (fun z => .inl z.2) .inr
theorem TpAt.sq {K : PySem.W.Frag} {P : Addr → Prop} {H : Hp} {a : Addr} {vs : List V} (h : TpAt K P H a vs) : SqT K H a vs := h.elim (fun z => .inl z.2) .inr
theorem LsAt.any {K : PySem.W.Frag} {H : Hp} {a : Addr} {vs : List V} (h : SqL K H a vs) : LsAt K (fun _ => True) H a vs := h.elim (fun z => .inl ⟨trivial, z⟩) .inr

def excP (a C : Addr) : Heap → Prop := fun h => ∃ vs, h.get? a = some { cls := .ref C, data := .fields vs }
def Is (K : PySem.W.Frag) (P : Addr → Prop) (H : Hp) : D → V → Prop
  | .non, v => v = .non
  | .bl b, v => v = .bl b
  | .int i, v => v = .int i
  | .str x, v => v = .str x
  | .lst ds, v => ∃ a vs, v = .ref a ∧ LsAt K P H a vs ∧ IsL ds vs
  | .tup ds, v => ∃ a vs, v = .ref a ∧ TpAt K P H a vs ∧ IsL ds vs
  | .exc n, v => ∃ a C, v = .ref a ∧ P a ∧ PySem.W.nsIn K mainGlobals n = some (some (.ref C)) ∧ H a = some (.ext (excP a C))
  | .fn n, v => ∃ a, v = .ref a ∧ PySem.W.nsIn K mainGlobals n = some (some (.ref a))
where
  IsL : List D → List V → Prop
  | [], vs => vs = []
  | d :: ds, vs => ∃ v r, vs = v :: r ∧ Is K P H d v ∧ IsL ds r
abbrev IsL (K : PySem.W.Frag) (P : Addr → Prop) (H : Hp) : List D → List V → Prop := Is.IsL K P H

section
variable {K : PySem.W.Frag} {P P' : Addr → Prop} {H H' : Hp}
structure Ext (P P' : Addr → Prop) (H H' : Hp) : Prop where
  p : ∀ a o, P a → H a = some o → P' a
  h : ∀ a o, P a → H a = some o → H' a = some o
theorem Ext.rd (e : Ext P P' H H') {a : Addr} {u : HO} (p : P a) (r : Rd H a u) : P' a ∧ Rd H' a u := by
  rcases r with r | ⟨o, r⟩
  · exact ⟨e.p a _ p r, .inl (e.h a _ p r)⟩
  · exact ⟨e.p a _ p r, .inr ⟨o, e.h a _ p r⟩⟩
theorem LsAt.ext (e : Ext P P' H H') {a : Addr} {vs : List V} (h : LsAt K P H a vs) : LsAt K P' H' a vs := h.elim (fun z => .inl (e.rd z.1 z.2)) .inr
theorem TpAt.ext (e : Ext P P' H H') {a : Addr} {vs : List V} (h : TpAt K P H a vs) : TpAt K P' H' a vs := h.elim (fun z => .inl (e.rd z.1 z.2)) .inr
mutual
theorem Is.ext (e : Ext P P' H H') : ∀ (d : D) (v : V), Is K P H d v → Is K P' H' d v
  | .non, _, h => h
  | .bl _, _, h => h
  | .int _, _, h => h
  | .str _, _, h => h
  | .lst ds, _, ⟨a, vs, e1, l, q⟩ => ⟨a, vs, e1, l.ext e, IsL.ext e ds vs q⟩
  | .tup ds, _, ⟨a, vs, e1, l, q⟩ => ⟨a, vs, e1, l.ext e, IsL.ext e ds vs q⟩
  | .exc n, _, ⟨a, C, e1, p, c, q⟩ => ⟨a, C, e1, e.p a _ p q, c, e.h a _ p q⟩
  | .fn _, _, h => h
theorem IsL.ext (e : Ext P P' H H') : ∀ (ds : List D) (vs : List V), IsL K P H ds vs → IsL K P' H' ds vs
  | [], _, h => h
  | d :: ds, _, ⟨v, r, e1, p, q⟩ => ⟨v, r, e1, Is.ext e d v p, IsL.ext e ds r q⟩
end
theorem Ext.same (s : Same H H') : Ext P P H H' := ⟨fun _ _ p _ => p, fun a o _ h => s a o h⟩
theorem Is.same (s : Same H H') {d : D} {v : V} (h : Is K P H d v) : Is K P H' d v := Is.ext (.same s) d v h
theorem IsL.same (s : Same H H') {d : List D} {v : List V} (h : IsL K P H d v) : IsL K P H' d v := IsL.ext (.same s) d v h
theorem Is.weak {d : D} {v : V} (h : Is K P H d v) : Is K (fun _ => True) H d v := Is.ext ⟨fun _ _ _ _ => trivial, fun _ _ _ q => q⟩ d v h
theorem IsL.weak {d : List D} {v : List V} (h : IsL K P H d v) : IsL K (fun _ => True) H d v := IsL.ext ⟨fun _ _ _ _ => trivial, fun _ _ _ q => q⟩ d v h

def toV : D → Option V
  | .non => some .non
  | .bl b => some (.bl b)
  | .int i => some (.int i)
  | .str x => some (.str x)
  | _ => none
theorem Is.sc {d : D} {z : V} (h : toV d = some z) : Is K P H d z := by
  cases d with
  | non => cases h; rfl
  | bl b => cases h; rfl
  | int b => cases h; rfl
  | str b => cases h; rfl
  | lst b => cases h
  | exc _ => cases h
  | fn _ => cases h
  | tup b => cases h
theorem Is.of_sc {d : D} {z v : V} (h : toV d = some z) (i : Is K P H d v) : v = z := by
  cases d with
  | non => cases h; exact i
  | bl b => cases h; exact i
  | int b => cases h; exact i
  | str b => cases h; exact i
  | lst b => cases h
  | exc _ => cases h
  | fn _ => cases h
  | tup b => cases h
theorem IsL.length : ∀ {ds : List D} {vs : List V}, IsL K P H ds vs → vs.length = ds.length
  | [], _, h => by subst h; rfl
  | d :: ds, _, ⟨v, r, e, _, q⟩ => by subst e; simp [IsL.length q]
theorem IsL.get : ∀ {ds : List D} {vs : List V} {i : Nat} {d : D}, IsL K P H ds vs → ds[i]? = some d → ∃ v, vs[i]? = some v ∧ Is K P H d v
  | [], _, _, _, _, e => by simp at e
  | d :: ds, _, 0, _, ⟨v, r, e, p, q⟩, e2 => by subst e; simp at e2; subst e2; exact ⟨v, rfl, p⟩
  | d :: ds, _, i + 1, _, ⟨v, r, e, p, q⟩, e2 => by
    subst e
    obtain ⟨v', h1, h2⟩ := IsL.get (i := i) q (by simpa using e2)
    exact ⟨v', by simpa using h1, h2⟩
theorem IsL.app : ∀ {ds es : List D} {vs ws : List V}, IsL K P H ds vs → IsL K P H es ws → IsL K P H (ds ++ es) (vs ++ ws)
  | [], _, _, _, h, q => by
    have h' : _ = [] := h
    subst h'; exact q
  | d :: ds, _, _, _, ⟨v, r, e, p, q⟩, q2 => by subst e; exact ⟨v, _, rfl, p, IsL.app q q2⟩
theorem IsL.one {d : D} {v : V} (h : Is K P H d v) : IsL K P H [d] [v] := ⟨v, [], rfl, h, rfl⟩
theorem IsL.nil : IsL K P H [] [] := rfl
theorem IsL.cons {d : D} {v : V} {ds : List D} {vs : List V} (h : Is K P H d v) (q : IsL K P H ds vs) : IsL K P H (d :: ds) (v :: vs) := ⟨v, vs, rfl, h, q⟩
theorem IsL.drop : ∀ {ds : List D} {vs : List V} (n : Nat), IsL K P H ds vs → IsL K P H (ds.drop n) (vs.drop n)
  | _, _, 0, h => h
  | [], _, n + 1, h => by
    have h' : _ = [] := h
    subst h'; exact rfl
  | d :: ds, _, n + 1, ⟨v, r, e, p, q⟩ => by subst e; exact IsL.drop n q
theorem IsL.take : ∀ {ds : List D} {vs : List V} (n : Nat), IsL K P H ds vs → IsL K P H (ds.take n) (vs.take n)
  | _, _, 0, _ => rfl
  | [], _, n + 1, h => by
    have h' : _ = [] := h
    subst h'; exact rfl
  | d :: ds, _, n + 1, ⟨v, r, e, p, q⟩ => by subst e; exact ⟨v, _, rfl, p, IsL.take n q⟩
theorem IsL.set : ∀ {ds : List D} {vs : List V} {d : D} {v : V} (i : Nat), IsL K P H ds vs → Is K P H d v → IsL K P H (ds.set i d) (vs.set i v)
  | [], _, _, _, _, h, _ => by
    have h' : _ = [] := h
    subst h'; exact rfl
  | d :: ds, _, _, _, 0, ⟨v, r, e, p, q⟩, h => by subst e; exact ⟨_, _, rfl, h, q⟩
  | d :: ds, _, _, _, i + 1, ⟨v, r, e, p, q⟩, h => by subst e; exact ⟨v, _, rfl, p, IsL.set i q h⟩
end

/-! ### slots -/
inductive Ct where
  | ls (nss : List (List Int)) | tp (nss : List (List Int)) | dk (ks : List Int) | tq (n : Int) (ns : List Int)
instance : Coe (List (List Int)) Ct := ⟨Ct.ls⟩
inductive Sl where
  | no | val (d : D) | own (xs : List D) | raw (v : V) | deep (c : Ct)
abbrev DE := List Sl
structure Gh where
  P₀ : Addr → Prop
  H₀ : Hp
def Gh.P (g : Gh) (os : List Addr) (a : Addr) : Prop := (g.P₀ a ∨ g.H₀ a = none) ∧ a ∉ os
structure DpG (hd : List V → HO) (H : Hp) (os : List Addr) (a : Addr) (as : List Addr) (nss : List (List Int)) : Prop where
  ma : a ∈ os
  ha : H a = some (hd (as.map V.ref))
  len : as.length = nss.length
  nd : (a :: as).Nodup
  it : ∀ (k : Nat) (b : Addr) (ns : List Int), as[k]? = some b → nss[k]? = some ns → b ∈ os ∧ H b = some (.lst (ns.map V.int))
theorem DpG.mem {hd : List V → HO} {H : Hp} {os : List Addr} {a : Addr} {as : List Addr} {nss : List (List Int)} (d : DpG hd H os a as nss) : ∀ x ∈ a :: as, x ∈ os ∧ ∃ o, H x = some o := fun x hx => by
  rcases List.mem_cons.mp hx with rfl | hx
  · exact ⟨d.ma, _, d.ha⟩
  · obtain ⟨k, hk, rfl⟩ := List.getElem_of_mem hx
    have hk' : k < nss.length := by rw [← d.len]; exact hk
    have q := d.it k _ _ (List.getElem?_eq_getElem hk) (List.getElem?_eq_getElem hk')
    exact ⟨q.1, _, q.2⟩
theorem DpG.to {hd : List V → HO} {H H' : Hp} {os os' : List Addr} {a : Addr} {as : List Addr} {nss : List (List Int)} (d : DpG hd H os a as nss) (h : ∀ x ∈ a :: as, x ∈ os' ∧ H' x = H x) : DpG hd H' os' a as nss :=
  ⟨(h a (by simp)).1, by rw [(h a (by simp)).2]; exact d.ha, d.len, d.nd, fun k b ns e1 e2 => by
    have q := d.it k b ns e1 e2
    have hb := h b (List.mem_cons_of_mem _ (List.mem_of_getElem? e1))
    exact ⟨hb.1, by rw [hb.2]; exact q.2⟩⟩
def kvT (ks : List Int) : List (Key × V) := ks.map fun k => (Sum.inl k, V.bl true)
abbrev Dp (H : Hp) (os : List Addr) (a : Addr) (as : List Addr) (c : Ct) : Prop := match c with
  | .ls nss => DpG HO.lst H os a as nss
  | .tp nss => DpG HO.tup H os a as nss
  | .dk ks => a ∈ os ∧ as = [] ∧ H a = some (.dK (kvT ks))
  | .tq n ns => ∃ b, as = [b] ∧ a ∈ os ∧ b ∈ os ∧ a ≠ b ∧ H a = some (.tup [.int n, .ref b]) ∧ H b = some (.lst (ns.map V.int))
theorem Dp.mem {H : Hp} {os : List Addr} {a : Addr} {as : List Addr} {c : Ct} (d : Dp H os a as c) : ∀ x ∈ a :: as, x ∈ os ∧ ∃ o, H x = some o := by
  cases c with
  | ls nss => exact DpG.mem d
  | tp nss => exact DpG.mem d
  | dk ks =>
    obtain ⟨h1, rfl, h2⟩ := d
    intro x hx
    rcases List.mem_cons.mp hx with rfl | hx
    · exact ⟨h1, _, h2⟩
    · cases hx
  | tq n ns =>
    obtain ⟨b, rfl, h1, h2, h3, h4, h5⟩ := d
    intro x hx
    rcases List.mem_cons.mp hx with rfl | hx
    · exact ⟨h1, _, h4⟩
    · rcases List.mem_cons.mp hx with rfl | hx
      · exact ⟨h2, _, h5⟩
      · cases hx
theorem Dp.to {H H' : Hp} {os os' : List Addr} {a : Addr} {as : List Addr} {c : Ct} (d : Dp H os a as c) (h : ∀ x ∈ a :: as, x ∈ os' ∧ H' x = H x) : Dp H' os' a as c := by
  cases c with
  | ls nss => exact DpG.to d h
  | tp nss => exact DpG.to d h
  | dk ks =>
    obtain ⟨h1, rfl, h2⟩ := d
    exact ⟨(h a (by simp)).1, rfl, by rw [(h a (by simp)).2]; exact h2⟩
  | tq n ns =>
    obtain ⟨b, rfl, h1, h2, h3, h4, h5⟩ := d
    exact ⟨b, rfl, (h a (by simp)).1, (h b (by simp)).1, h3, by rw [(h a (by simp)).2]; exact h4, by rw [(h b (by simp)).2]; exact h5⟩
theorem Dp.ma {H : Hp} {os : List Addr} {a : Addr} {as : List Addr} {nss : List (List Int)} (d : Dp H os a as (.ls nss)) : a ∈ os := DpG.ma d
theorem Dp.ha {H : Hp} {os : List Addr} {a : Addr} {as : List Addr} {nss : List (List Int)} (d : Dp H os a as (.ls nss)) : H a = some (.lst (as.map V.ref)) := DpG.ha d
theorem Dp.len {H : Hp} {os : List Addr} {a : Addr} {as : List Addr} {nss : List (List Int)} (d : Dp H os a as (.ls nss)) : as.length = nss.length := DpG.len d
theorem Dp.nd {H : Hp} {os : List Addr} {a : Addr} {as : List Addr} {nss : List (List Int)} (d : Dp H os a as (.ls nss)) : (a :: as).Nodup := DpG.nd d
theorem Dp.it {H : Hp} {os : List Addr} {a : Addr} {as : List Addr} {nss : List (List Int)} (d : Dp H os a as (.ls nss)) : ∀ (k : Nat) (b : Addr) (ns : List Int), as[k]? = some b → nss[k]? = some ns → b ∈ os ∧ H b = some (.lst (ns.map V.int)) := DpG.it d
structure Dps (A : Nat → List Addr) (env : DE) (σ : St) (H : Hp) (os : List Addr) : Prop where
  dp : ∀ (i : Nat) (nss : Ct), env[i]? = some (.deep nss) → ∃ a as, A i = a :: as ∧ σ[i]? = some (some (.ref a)) ∧ Dp H os a as nss
  ow : ∀ (i : Nat) (nss : Ct) (j : Nat) (xs : List D) (b : Addr), env[i]? = some (.deep nss) → env[j]? = some (.own xs) → σ[j]? = some (some (.ref b)) → b ∉ A i
  dj : ∀ (i j : Nat) (nss mss : Ct), i ≠ j → env[i]? = some (.deep nss) → env[j]? = some (.deep mss) → ∀ x ∈ A i, x ∉ A j
theorem Dps.mem {A : Nat → List Addr} {env : DE} {σ : St} {H : Hp} {os : List Addr} (d : Dps A env σ H os) {i : Nat} {nss : Ct} (e : env[i]? = some (.deep nss)) : ∀ x ∈ A i, x ∈ os ∧ ∃ o, H x = some o := fun x hx => by
  obtain ⟨a, as, h1, _, h3⟩ := d.dp i nss e
  rw [h1] at hx
  exact h3.mem x hx
theorem Dps.to {A : Nat → List Addr} {env env' : DE} {σ σ' : St} {H H' : Hp} {os os' : List Addr} (d : Dps A env σ H os)
    (hd : ∀ (j : Nat) (nss : Ct), env'[j]? = some (.deep nss) → env[j]? = some (.deep nss) ∧ σ'[j]? = σ[j]?)
    (ho : ∀ (j : Nat) (xs : List D) (b : Addr), env'[j]? = some (.own xs) → σ'[j]? = some (some (.ref b)) → (∃ ys, env[j]? = some (.own ys) ∧ σ[j]? = some (some (.ref b))) ∨ b ∉ os)
    (hH : ∀ (i : Nat) (nss : Ct), env[i]? = some (.deep nss) → ∀ x ∈ A i, x ∈ os' ∧ H' x = H x) : Dps A env' σ' H' os' where
  dp i nss e := by
    obtain ⟨e', q⟩ := hd i nss e
    obtain ⟨a, as, h1, h2, h3⟩ := d.dp i nss e'
    exact ⟨a, as, h1, by rw [q]; exact h2, h3.to fun x hx => hH i nss e' x (by rw [h1]; exact hx)⟩
  ow i nss j xs b e1 e2 e3 := by
    obtain ⟨e1', _⟩ := hd i nss e1
    rcases ho j xs b e2 e3 with ⟨ys, q1, q2⟩ | q
    · exact d.ow i nss j ys b e1' q1 q2
    · exact fun z => q (d.mem e1' b z).1
  dj i j nss mss hij e1 e2 := d.dj i j nss mss hij (hd i nss e1).1 (hd j mss e2).1
def Deep (env : DE) (σ : St) (H : Hp) (os : List Addr) : Prop := ∃ A, Dps A env σ H os
theorem Deep.none {env : DE} {σ : St} {H : Hp} {os : List Addr} (h : ∀ (i : Nat) (nss : Ct), env[i]? ≠ some (.deep nss)) : Deep env σ H os :=
  ⟨fun _ => [], fun i nss e => (h i nss e).elim, fun i nss _ _ _ e => (h i nss e).elim, fun i _ nss _ _ e => (h i nss e).elim⟩
structure Rel (K : PySem.W.Frag) (g : Gh) (env : DE) (σ : St) (H : Hp) (os : List Addr) : Prop where
  len : σ.length = env.length
  ext : Same g.H₀ H
  val : ∀ (i : Nat) (d : D), env[i]? = some (.val d) → ∃ v, σ[i]? = some (some v) ∧ Is K (g.P os) H d v
  own : ∀ (i : Nat) (xs : List D), env[i]? = some (.own xs) → ∃ a vs, σ[i]? = some (some (.ref a)) ∧ a ∈ os ∧ H a = some (.lst vs) ∧ IsL K (g.P os) H xs vs
  inj : ∀ (i j : Nat) (xs ys : List D) (a : Addr), env[i]? = some (.own xs) → env[j]? = some (.own ys) → σ[i]? = some (some (.ref a)) → σ[j]? = some (some (.ref a)) → i = j
  new : ∀ a ∈ os, g.H₀ a = none ∧ ∃ o, H a = some o
  raw : ∀ (i : Nat) (v : V), env[i]? = some (.raw v) → σ[i]? = some (some v)
  dps : Deep env σ H os
section
variable {K : PySem.W.Frag} {g : Gh} {env : DE} {σ : St} {H H' : Hp} {os : List Addr}
theorem Rel.same (r : Rel K g env σ H os) (s : Same H H') : Rel K g env σ H' os :=
  ⟨r.len, r.ext.trans s, fun i d e => let ⟨v, h1, h2⟩ := r.val i d e; ⟨v, h1, h2.same s⟩,
    fun i xs e => let ⟨a, vs, h1, h2, h3, h4⟩ := r.own i xs e; ⟨a, vs, h1, h2, s a _ h3, h4.same s⟩, r.inj, fun a ha => ⟨(r.new a ha).1, let ⟨o, h⟩ := (r.new a ha).2; ⟨o, s a o h⟩⟩, r.raw, by
    obtain ⟨A, d⟩ := r.dps
    exact ⟨A, d.to (fun j nss e => ⟨e, rfl⟩) (fun j xs b e q => .inl ⟨xs, e, q⟩) fun i nss e x hx => by
      obtain ⟨q1, o, q2⟩ := d.mem e x hx
      exact ⟨q1, by rw [s x o q2, q2]⟩⟩⟩
theorem Rel.fresh (r : Rel K g env σ H os) {a : Addr} (h : H a = none) : g.P os a := by
  refine ⟨.inr (r.ext.free h), fun hm => ?_⟩
  obtain ⟨o, e⟩ := (r.new a hm).2
  rw [h] at e; cases e
theorem same_new {p : Addr} (h : H p = none) (o : HO) : Same H (upd H p o) := fun b u q => by rw [upd_ne (ne_of_none q h)]; exact q
theorem Rel.set (r : Rel K g env σ H os) (i : Nat) {d : D} {v : V} (h : Is K (g.P os) H d v) : Rel K g (env.set i (.val d)) (σ.set i (some v)) H os := by
  refine ⟨by simp [r.len], r.ext, fun j d' e => ?_, fun j xs e => ?_, fun j k xs ys a e1 e2 e3 e4 => ?_, r.new, fun j w e => ?_, ?_⟩
  · by_cases hj : i = j
    · subst hj
      have hi : i < env.length := by
        have := (List.getElem?_eq_some_iff.mp e).1
        simpa using this
      rw [List.getElem?_set_self hi] at e
      cases e
      exact ⟨v, by rw [List.getElem?_set_self (by rw [r.len]; exact hi)], h⟩
    · rw [List.getElem?_set_ne hj] at e
      obtain ⟨v', h1, h2⟩ := r.val j d' e
      exact ⟨v', by rw [List.getElem?_set_ne hj]; exact h1, h2⟩
  · by_cases hj : i = j
    · subst hj
      have hi : i < env.length := by
        have := (List.getElem?_eq_some_iff.mp e).1
        simpa using this
      rw [List.getElem?_set_self hi] at e
      cases e
    · rw [List.getElem?_set_ne hj] at e
      obtain ⟨a, vs, h1, h2⟩ := r.own j xs e
      exact ⟨a, vs, by rw [List.getElem?_set_ne hj]; exact h1, h2⟩
  · have f : ∀ (j : Nat) (xs : List D), (env.set i (Sl.val d))[j]? = some (.own xs) → i ≠ j := fun j xs e hj => by
      subst hj
      have hi : i < env.length := by
        have := (List.getElem?_eq_some_iff.mp e).1
        simpa using this
      rw [List.getElem?_set_self hi] at e
      cases e
    have hj := f j xs e1
    have hk := f k ys e2
    rw [List.getElem?_set_ne hj] at e1 e3
    rw [List.getElem?_set_ne hk] at e2 e4
    exact r.inj j k xs ys a e1 e2 e3 e4
  · by_cases hj : i = j
    · subst hj
      have hi : i < env.length := by
        have := (List.getElem?_eq_some_iff.mp e).1
        simpa using this
      rw [List.getElem?_set_self hi] at e
      cases e
    · rw [List.getElem?_set_ne hj] at e ⊢
      exact r.raw j w e
  · obtain ⟨A, dd⟩ := r.dps
    have f : ∀ (j : Nat) (sl : Sl), (env.set i (Sl.val d))[j]? = some sl → (∀ d', sl ≠ .val d') → i ≠ j ∧ env[j]? = some sl := fun j sl q hn => by
      by_cases hj : i = j
      · subst hj
        have hi : i < env.length := by
          have := (List.getElem?_eq_some_iff.mp q).1
          simpa using this
        rw [List.getElem?_set_self hi] at q
        exact (hn d (Option.some.inj q).symm).elim
      · rw [List.getElem?_set_ne hj] at q
        exact ⟨hj, q⟩
    refine ⟨A, dd.to (fun j nss q => ?_) (fun j xs b q z => ?_) fun j nss q x hx => ⟨(dd.mem q x hx).1, rfl⟩⟩
    · obtain ⟨hj, q⟩ := f j _ q (fun _ z => nomatch z)
      exact ⟨q, by rw [List.getElem?_set_ne hj]⟩
    · obtain ⟨hj, q⟩ := f j _ q (fun _ z => nomatch z)
      rw [List.getElem?_set_ne hj] at z
      exact .inl ⟨xs, q, z⟩
theorem Rel.apart (r : Rel K g env σ H os) {a : Addr} (s : Same H H') (hn : H a = none) : Ext (g.P os) (g.P (a :: os)) H H' :=
  ⟨fun b o p e => ⟨p.1, fun hm => by
    rcases List.mem_cons.mp hm with z | z
    · rw [z, hn] at e; cases e
    · exact p.2 z⟩, fun b o _ e => s b o e⟩
theorem get_set_eq {α : Type} {l : List α} {i : Nat} {x y : α} (e : (l.set i x)[i]? = some y) : y = x := by
  have hi : i < l.length := by
    have := (List.getElem?_eq_some_iff.mp e).1
    simpa using this
  rw [List.getElem?_set_self hi] at e
  cases e; rfl
theorem lt_of_set {α : Type} {l : List α} {i j : Nat} {x y : α} (e : (l.set i x)[j]? = some y) : j < l.length := by
  have := (List.getElem?_eq_some_iff.mp e).1
  simpa using this
theorem Rel.setF (r : Rel K g env σ H os) (s : Same H H') (i : Nat) {xs : List D} {vs : List V} {a : Addr} (hn : H a = none) (hH : H' a = some (.lst vs)) (h : IsL K (g.P (a :: os)) H' xs vs) :
    Rel K g (env.set i (.own xs)) (σ.set i (some (.ref a))) H' (a :: os) := by
  have ap := r.apart s hn
  have old : ∀ (j : Nat) (ys : List D), env[j]? = some (.own ys) → σ[j]? = some (some (.ref a)) → False := fun j ys e q => by
    obtain ⟨b, ws, h1, h2, h3, _⟩ := r.own j ys e
    rw [q] at h1
    cases h1
    rw [hn] at h3; cases h3
  refine ⟨by simp [r.len], r.ext.trans s, fun j d' e => ?_, fun j ys e => ?_, fun j k ys zs b e1 e2 e3 e4 => ?_, fun b hb => ?_, fun j w e => ?_, ?_⟩
  · by_cases hj : i = j
    · subst hj
      exact nomatch get_set_eq e
    · rw [List.getElem?_set_ne hj] at e
      obtain ⟨v, h1, h2⟩ := r.val j d' e
      exact ⟨v, by rw [List.getElem?_set_ne hj]; exact h1, Is.ext ap _ _ h2⟩
  · by_cases hj : i = j
    · subst hj
      have hi := lt_of_set e
      have e' := get_set_eq e
      cases e'
      exact ⟨a, vs, by rw [List.getElem?_set_self (by rw [r.len]; exact hi)], by simp, hH, h⟩
    · rw [List.getElem?_set_ne hj] at e
      obtain ⟨b, ws, h1, h2, h3, h4⟩ := r.own j ys e
      exact ⟨b, ws, by rw [List.getElem?_set_ne hj]; exact h1, List.mem_cons_of_mem _ h2, s _ _ h3, IsL.ext ap _ _ h4⟩
  · by_cases hj : i = j
    · subst hj
      by_cases hk : i = k
      · exact hk
      · have e3' := get_set_eq e3
        cases e3'
        rw [List.getElem?_set_ne hk] at e2 e4
        exact (old k zs e2 e4).elim
    · by_cases hk : i = k
      · subst hk
        have e4' := get_set_eq e4
        cases e4'
        rw [List.getElem?_set_ne hj] at e1 e3
        exact (old j ys e1 e3).elim
      · rw [List.getElem?_set_ne hj] at e1 e3
        rw [List.getElem?_set_ne hk] at e2 e4
        exact r.inj j k ys zs b e1 e2 e3 e4
  · rcases List.mem_cons.mp hb with rfl | hb
    · exact ⟨r.ext.free hn, _, hH⟩
    · obtain ⟨h1, o, h2⟩ := r.new b hb
      exact ⟨h1, o, s _ _ h2⟩
  · by_cases hj : i = j
    · subst hj
      exact nomatch get_set_eq e
    · rw [List.getElem?_set_ne hj] at e ⊢
      exact r.raw j w e
  · obtain ⟨A, dd⟩ := r.dps
    have f : ∀ (j : Nat) (sl : Sl), (env.set i (Sl.own xs))[j]? = some sl → i ≠ j → env[j]? = some sl := fun j sl q hj => by
      rwa [List.getElem?_set_ne hj] at q
    refine ⟨A, dd.to (fun j nss q => ?_) (fun j ys b q z => ?_) fun j nss q x hx => ?_⟩
    · by_cases hj : i = j
      · subst hj
        exact nomatch get_set_eq q
      · exact ⟨f j _ q hj, by rw [List.getElem?_set_ne hj]⟩
    · by_cases hj : i = j
      · subst hj
        have z' := get_set_eq z
        cases z'
        exact .inr fun hm => by
          obtain ⟨o, ho⟩ := (r.new a hm).2
          rw [hn] at ho
          cases ho
      · rw [List.getElem?_set_ne hj] at z
        exact .inl ⟨ys, f j _ q hj, z⟩
    · obtain ⟨q1, o, q2⟩ := dd.mem q x hx
      exact ⟨List.mem_cons_of_mem _ q1, by rw [s x o q2, q2]⟩
theorem Rel.freeze' (r : Rel K g env σ H os) {i : Nat} {xs : List D} (e : env[i]? = some (.own xs)) : ∃ os', Rel K g (env.set i (.val (.lst xs))) σ H os' ∧ ∀ a ∈ os', a ∈ os := by
  obtain ⟨a, vs, h1, h2, h3, h4⟩ := r.own i xs e
  have ex : Ext (g.P os) (g.P (os.filter (· ≠ a))) H H := ⟨fun b o p _ => ⟨p.1, fun z => p.2 (List.mem_filter.mp z).1⟩, fun _ _ _ q => q⟩
  refine ⟨os.filter (· ≠ a), ⟨by simp [r.len], r.ext, fun j d' e' => ?_, fun j ys e' => ?_, fun j k ys zs b e1 e2 e3 e4 => ?_, fun b hb => r.new b (List.mem_filter.mp hb).1, fun j w e' => ?_, ?_⟩, fun b hb => (List.mem_filter.mp hb).1⟩
  · by_cases hj : i = j
    · subst hj
      have e2 := get_set_eq e'
      cases e2
      exact ⟨.ref a, h1, a, vs, rfl, .inl ⟨⟨.inr (r.new a h2).1, fun z => by simpa using (List.mem_filter.mp z).2⟩, .inl h3⟩, IsL.ext ex _ _ h4⟩
    · rw [List.getElem?_set_ne hj] at e'
      obtain ⟨v, q1, q2⟩ := r.val j d' e'
      exact ⟨v, q1, Is.ext ex _ _ q2⟩
  · by_cases hj : i = j
    · subst hj
      exact nomatch get_set_eq e'
    · rw [List.getElem?_set_ne hj] at e'
      obtain ⟨b, ws, q1, q2, q3, q4⟩ := r.own j ys e'
      have hb : b ≠ a := fun z => by
        subst z
        exact hj (r.inj i j xs ys b e e' h1 q1)
      exact ⟨b, ws, q1, List.mem_filter.mpr ⟨q2, by simpa using hb⟩, q3, IsL.ext ex _ _ q4⟩
  · have f : ∀ (j : Nat) (ys : List D), (env.set i (Sl.val (.lst xs)))[j]? = some (.own ys) → env[j]? = some (.own ys) := fun j ys q => by
      by_cases hj : i = j
      · subst hj; exact nomatch get_set_eq q
      · rw [List.getElem?_set_ne hj] at q; exact q
    exact r.inj j k ys zs b (f j ys e1) (f k zs e2) e3 e4
  · by_cases hj : i = j
    · subst hj; exact nomatch get_set_eq e'
    · rw [List.getElem?_set_ne hj] at e'
      exact r.raw j w e'
  · obtain ⟨A, dd⟩ := r.dps
    refine ⟨A, dd.to (fun j nss q => ?_) (fun j ys b q z => ?_) fun j nss q x hx => ⟨List.mem_filter.mpr ⟨(dd.mem q x hx).1, ?_⟩, rfl⟩⟩
    · by_cases hj : i = j
      · subst hj
        exact nomatch get_set_eq q
      · rw [List.getElem?_set_ne hj] at q
        exact ⟨q, rfl⟩
    · by_cases hj : i = j
      · subst hj
        exact nomatch get_set_eq q
      · rw [List.getElem?_set_ne hj] at q
        exact .inl ⟨ys, q, z⟩
    · have : x ≠ a := fun z => dd.ow j nss i xs a q e h1 (z ▸ hx)
      simpa using this
end

/-! ### the readings -/
section
variable (K : PySem.W.Frag) (E : Str → Hp → Prop)
def tD (f : DE → R D) : TE := fun σ H Q => ∃ g env os, Rel K g env σ H os ∧ Good E g.H₀ (f env) fun d => ∀ v H', Same H H' → Is K (g.P os) H' d v → Q v H'
def tB (f : DE → R D) : TE := fun σ H Q => ∃ g env os, Rel K g env σ H os ∧ Good E g.H₀ (f env) fun d => ∀ v H', Same H H' → Is K (fun _ => True) H' d v → Q v H'
def tF (f : DE → R (List D)) : TE := fun σ H Q => ∃ g env os, Rel K g env σ H os ∧ Good E g.H₀ (f env) fun xs => ∀ a vs H', Same H H' → H a = none → H' a = some (.lst vs) → IsL K (g.P (a :: os)) H' xs vs → Q (.ref a) H'
def tL (f : DE → R (List D)) : TE := fun σ H Q => ∃ g env os, Rel K g env σ H os ∧ Good E g.H₀ (f env) fun xs => ∀ a vs H', Same H H' → SqL K H' a vs → IsL K (g.P os) H' xs vs → Q (.ref a) H'
def tT (f : DE → R Bool) : TT := fun σ H Q => ∃ g env os, Rel K g env σ H os ∧ Good E g.H₀ (f env) fun b => ∀ H', Same H H' → Q b H'
def tAr (f : DE → R (List D)) : TA := fun σ H Q => ∃ g env os, Rel K g env σ H os ∧ Good E g.H₀ (f env) fun ds => ∀ vs H', Same H H' → IsL K (g.P os) H' ds vs → Q vs H'
def tArB (f : DE → R (List D)) : TA := fun σ H Q => ∃ g env os, Rel K g env σ H os ∧ Good E g.H₀ (f env) fun ds => ∀ vs H', Same H H' → IsL K (fun _ => True) H' ds vs → Q vs H'
end
inductive Out where
  | nx (e : DE) | bk (e : DE) | ct (e : DE) | rt (d : D) | rtF (xs : List D) | rtT (nss : List (List Int)) | rtP (nss : List (List Int)) | rtQ (q : Int × List Int)
structure Stp (H : Hp) (os : List Addr) (H' : Hp) (os' : List Addr) : Prop where
  own : ∀ a ∈ os', a ∈ os ∨ H a = none
  grow : ∀ a, H' a = none → H a = none
  keep : ∀ a o, a ∉ os → H a = some o → H' a = some o
theorem Stp.refl (H : Hp) (os : List Addr) : Stp H os H os := ⟨fun _ h => .inl h, fun _ h => h, fun _ _ _ h => h⟩
theorem Stp.same {H H' : Hp} (s : Same H H') (os : List Addr) : Stp H os H' os := ⟨fun _ h => .inl h, fun _ h => s.free h, fun _ _ _ h => s _ _ h⟩
theorem Stp.trans {H H1 H2 : Hp} {os os1 os2 : List Addr} (a : Stp H os H1 os1) (b : Stp H1 os1 H2 os2) : Stp H os H2 os2 where
  own := fun x h => (b.own x h).elim (fun z => a.own x z) fun z => .inr (a.grow x z)
  grow := fun x h => a.grow x (b.grow x h)
  keep := fun x o hn h => b.keep x o (fun z => (a.own x z).elim hn fun q => by rw [h] at q; cases q) (a.keep x o hn h)
theorem Stp.ext {g : Gh} {H H' : Hp} {os os' : List Addr} (s : Stp H os H' os') : Ext (g.P os) (g.P os') H H' :=
  ⟨fun a o p h => ⟨p.1, fun z => (s.own a z).elim p.2 fun q => by rw [h] at q; cases q⟩, fun a o p h => s.keep a o p.2 h⟩
structure NewG (hd : List V → HO) (H₀ H : Hp) (a : Addr) (as : List Addr) (nss : List (List Int)) : Prop where
  fr : ∀ b ∈ a :: as, H₀ b = none
  nd : (a :: as).Nodup
  len : as.length = nss.length
  ha : H a = some (hd (as.map V.ref))
  it : ∀ (k : Nat) (b : Addr) (ns : List Int), as[k]? = some b → nss[k]? = some ns → H b = some (.lst (ns.map V.int))
theorem NewG.back {hd : List V → HO} {H₀ H1 H : Hp} {a : Addr} {as : List Addr} {nss : List (List Int)} (d : NewG hd H1 H a as nss) (s : Same H₀ H1) : NewG hd H₀ H a as nss := ⟨fun b hb => s.free (d.fr b hb), d.nd, d.len, d.ha, d.it⟩
abbrev NewD := NewG HO.lst
abbrev NewP := NewG HO.tup
structure NewQ (H₀ H : Hp) (a b : Addr) (q : Int × List Int) : Prop where
  fa : H₀ a = none
  fb : H₀ b = none
  ne : a ≠ b
  ha : H a = some (.tup [.int q.1, .ref b])
  hb : H b = some (.lst (q.2.map V.int))
theorem NewQ.back {H₀ H1 H : Hp} {a b : Addr} {q : Int × List Int} (d : NewQ H1 H a b q) (s : Same H₀ H1) : NewQ H₀ H a b q := ⟨s.free d.fa, s.free d.fb, d.ne, d.ha, d.hb⟩
def PostO (K : PySem.W.Frag) (g : Gh) (H : Hp) (os : List Addr) (De : Ends) : Out → Prop
  | .nx e => ∀ σ' H' os', Rel K g e σ' H' os' → Stp H os H' os' → De.nx σ' H'
  | .bk e => ∀ σ' H' os', Rel K g e σ' H' os' → Stp H os H' os' → De.bk σ' H'
  | .ct e => ∀ σ' H' os', Rel K g e σ' H' os' → Stp H os H' os' → De.ct σ' H'
  | .rt d => ∀ v H', Same g.H₀ H' → Is K (g.P []) H' d v → De.rt v H'
  | .rtF xs => ∀ a vs H', Same g.H₀ H' → g.H₀ a = none → H' a = some (.lst vs) → IsL K (g.P [a]) H' xs vs → De.rt (.ref a) H'
  | .rtP nss => ∀ (a : Addr) (as : List Addr) (H' : Hp), Same g.H₀ H' → NewP g.H₀ H' a as nss → De.rt (.ref a) H'
  | .rtQ q => ∀ (a b : Addr) (H' : Hp), Same g.H₀ H' → NewQ g.H₀ H' a b q → De.rt (.ref a) H'
  | .rtT nss => ∀ (a : Addr) (as : List Addr) (H' : Hp), Same g.H₀ H' → NewD g.H₀ H' a as nss → De.rt (.ref a) H'
theorem PostO.step {K : PySem.W.Frag} {g : Gh} {H H1 : Hp} {os os1 : List Addr} {De : Ends} (s : Stp H os H1 os1) : ∀ {o : Out}, PostO K g H os De o → PostO K g H1 os1 De o
  | .nx e, h => fun σ' H' os' r z => h σ' H' os' r (s.trans z)
  | .bk e, h => fun σ' H' os' r z => h σ' H' os' r (s.trans z)
  | .ct e, h => fun σ' H' os' r z => h σ' H' os' r (s.trans z)
  | .rt d, h => h
  | .rtF xs, h => h
  | .rtP xs, h => h
  | .rtQ xs, h => h
  | .rtT xs, h => h
def tS (K : PySem.W.Frag) (E : Str → Hp → Prop) (f : DE → R Out) : TS := fun De σ H => ∃ g env os, Rel K g env σ H os ∧ Good E g.H₀ (f env) (PostO K g H os De)
end DL

namespace DL
open PySem PySem.Spec PyProof.Rows L2
section
variable {X : Cx} {E : Str → Hp → Prop} {pos : Pos}
theorem imp {e : Expr} {t t' : TE} (h : PE X e t) (w : ∀ σ H Q, t' σ H Q → t σ H Q) : PE X e t' := fun pins s σ H Q I q => h pins s σ H Q I (w σ H Q q)
theorem impT {e : Expr} {t t' : TT} (h : PT X e t) (w : ∀ σ H Q, t' σ H Q → t σ H Q) : PT X e t' := fun pins s σ H Q I q => h pins s σ H Q I (w σ H Q q)
theorem impW {e : Expr} {t t' : TT} (h : PW X e t) (w : ∀ σ H Q, t' σ H Q → t σ H Q) : PW X e t' := fun wh pins s σ H Q I q => h wh pins s σ H Q I (w σ H Q q)
theorem impA {e : List Expr} {t t' : TA} (h : PA X e t) (w : ∀ σ H Q, t' σ H Q → t σ H Q) : PA X e t' := fun pos pins s σ H Q I q => h pos pins s σ H Q I (w σ H Q q)
theorem impS {e : Stmt} {t t' : TS} (h : PS X e t) (w : ∀ De σ H, t' De σ H → t De σ H) : PS X e t' := fun pins s σ H Q I q => h pins s σ H Q I (w Q σ H q)
theorem impSs {e : List Stmt} {t t' : TS} (h : PSs X e t) (w : ∀ De σ H, t' De σ H → t De σ H) : PSs X e t' := fun pins s σ H Q I q => h pins s σ H Q I (w Q σ H q)

/-! ### names and constants -/
def slV (i : Nat) (env : DE) : R D := match env[i]? with
  | some (.val d) => .ok d
  | _ => .bad
def slB (i : Nat) (env : DE) : R D := match env[i]? with
  | some (.val d) => .ok d
  | some (.own xs) => .ok (.lst xs)
  | some (.deep (.ls nss)) => .ok (.lst (nss.map fun ns => .lst (ns.map .int)))
  | some (.deep (.tp nss)) => .ok (.tup (nss.map fun ns => .lst (ns.map .int)))
  | some (.deep (.tq n ns)) => .ok (.tup [.int n, .lst (ns.map .int)])
  | _ => .bad
theorem isl_ints {K : PySem.W.Frag} {P : Addr → Prop} {H : Hp} : ∀ (ns : List Int), IsL K P H (ns.map D.int) (ns.map V.int)
  | [] => rfl
  | n :: ns => ⟨_, _, rfl, rfl, isl_ints ns⟩
theorem isl_deep {K : PySem.W.Frag} {H : Hp} {os : List Addr} : ∀ {as : List Addr} {nss : List (List Int)}, as.length = nss.length → (∀ (k : Nat) (b : Addr) (ns : List Int), as[k]? = some b → nss[k]? = some ns → b ∈ os ∧ H b = some (.lst (ns.map V.int))) → IsL K (fun _ => True) H (nss.map fun ns => .lst (ns.map D.int)) (as.map V.ref)
  | [], [], _, _ => rfl
  | [], _ :: _, h, _ => by simp at h
  | _ :: _, [], h, _ => by simp at h
  | a :: as, ns :: nss, h, hi => ⟨_, _, rfl, ⟨a, _, rfl, .inl ⟨trivial, .inl (hi 0 a ns rfl rfl).2⟩, isl_ints ns⟩, isl_deep (by simpa using h) fun k b ms e1 e2 => hi (k + 1) b ms e1 e2⟩
def slL (i : Nat) (env : DE) : R (List D) := match env[i]? with
  | some (.val (.lst xs)) => .ok xs
  | some (.own xs) => .ok xs
  | _ => .bad
theorem nD (i : Nat) {x : Str} (hN : X.N[i]? = some x := by rfl) (hv : Vis X.env.scope x := by first | exact Or.inl rfl | exact Or.inr (Or.inl rfl) | exact Or.inr (Or.inr rfl)) (hd : (x == ("__debug__" : Str)) = false := by decide)
    (hcd : (x == ("__classdict__" : Str)) = false := by decide) : PE X (.Name x pos) (tD X.K E (slV i)) := imp (pe_var hN hv hd hcd) fun σ H Q ⟨g, env, os, r, m⟩ => by
  unfold slV at m
  cases e : env[i]? with
  | none => rw [e] at m; exact m.elim
  | some sl =>
    cases sl with
    | no => rw [e] at m; exact m.elim
    | raw _ => rw [e] at m; exact m.elim
    | deep _ => rw [e] at m; exact m.elim
    | own xs => rw [e] at m; exact m.elim
    | val d =>
      rw [e] at m
      obtain ⟨v, h1, h2⟩ := r.val i d e
      exact ⟨v, h1, m v H (Same.refl H) h2⟩
theorem nB (i : Nat) {x : Str} (hN : X.N[i]? = some x := by rfl) (hv : Vis X.env.scope x := by first | exact Or.inl rfl | exact Or.inr (Or.inl rfl) | exact Or.inr (Or.inr rfl)) (hd : (x == ("__debug__" : Str)) = false := by decide)
    (hcd : (x == ("__classdict__" : Str)) = false := by decide) : PE X (.Name x pos) (tB X.K E (slB i)) := imp (pe_var hN hv hd hcd) fun σ H Q ⟨g, env, os, r, m⟩ => by
  unfold slB at m
  cases e : env[i]? with
  | none => rw [e] at m; exact m.elim
  | some sl =>
    cases sl with
    | no => rw [e] at m; exact m.elim
    | raw _ => rw [e] at m; exact m.elim
    | own xs =>
      rw [e] at m
      obtain ⟨a, vs, h1, _, h3, h4⟩ := r.own i xs e
      exact ⟨.ref a, h1, m _ H (Same.refl H) ⟨a, vs, rfl, .inl ⟨trivial, .inl h3⟩, h4.weak⟩⟩
    | deep c =>
      obtain ⟨A, dd⟩ := r.dps
      obtain ⟨a, as, _, h1, h3⟩ := dd.dp i c e
      cases c with
      | ls nss =>
        rw [e] at m
        exact ⟨.ref a, h1, m _ H (Same.refl H) ⟨a, _, rfl, .inl ⟨trivial, .inl h3.ha⟩, isl_deep h3.len h3.it⟩⟩
      | tp nss =>
        rw [e] at m
        have h4 : DpG HO.tup H os a as nss := h3
        exact ⟨.ref a, h1, m _ H (Same.refl H) ⟨a, _, rfl, .inl ⟨trivial, .inl h4.ha⟩, isl_deep h4.len h4.it⟩⟩
      | dk ks => rw [e] at m; exact m.elim
      | tq n ns =>
        rw [e] at m
        obtain ⟨b, _, _, _, _, h4, h5⟩ := h3
        exact ⟨.ref a, h1, m _ H (Same.refl H) ⟨a, _, rfl, .inl ⟨trivial, .inl h4⟩, ⟨_, _, rfl, rfl, ⟨_, _, rfl, ⟨b, _, rfl, .inl ⟨trivial, .inl h5⟩, isl_ints ns⟩, rfl⟩⟩⟩⟩
    | val d =>
      rw [e] at m
      obtain ⟨v, h1, h2⟩ := r.val i d e
      exact ⟨v, h1, m v H (Same.refl H) h2.weak⟩
theorem nL (i : Nat) {x : Str} (hN : X.N[i]? = some x := by rfl) (hv : Vis X.env.scope x := by first | exact Or.inl rfl | exact Or.inr (Or.inl rfl) | exact Or.inr (Or.inr rfl)) (hd : (x == ("__debug__" : Str)) = false := by decide)
    (hcd : (x == ("__classdict__" : Str)) = false := by decide) : PE X (.Name x pos) (tL X.K E (slL i)) := imp (pe_var hN hv hd hcd) fun σ H Q ⟨g, env, os, r, m⟩ => by
  unfold slL at m
  cases e : env[i]? with
  | none => rw [e] at m; exact m.elim
  | some sl =>
    cases sl with
    | no => rw [e] at m; exact m.elim
    | raw _ => rw [e] at m; exact m.elim
    | deep _ => rw [e] at m; exact m.elim
    | own xs =>
      rw [e] at m
      obtain ⟨a, vs, h1, _, h3, h4⟩ := r.own i xs e
      exact ⟨.ref a, h1, m _ _ H (Same.refl H) (SqL.of h3) h4⟩
    | val d =>
      cases d with
      | lst xs =>
        rw [e] at m
        obtain ⟨v, h1, a, vs, rfl, h3, h4⟩ := r.val i _ e
        exact ⟨_, h1, m _ _ H (Same.refl H) h3.sq h4⟩
      | non => rw [e] at m; exact m.elim
      | bl _ => rw [e] at m; exact m.elim
      | int _ => rw [e] at m; exact m.elim
      | str _ => rw [e] at m; exact m.elim
      | exc _ => rw [e] at m; exact m.elim
      | fn _ => rw [e] at m; exact m.elim
      | tup _ => rw [e] at m; exact m.elim
theorem cI {i j} : PE X (.Constant (.int i) j pos) (tD X.K E fun _ => .ok (.int i)) := imp pe_int fun σ H Q ⟨g, env, os, r, m⟩ => m _ H (Same.refl H) rfl
theorem cBl {i j} : PE X (.Constant (.bool i) j pos) (tD X.K E fun _ => .ok (.bl i)) := imp pe_bl fun σ H Q ⟨g, env, os, r, m⟩ => m _ H (Same.refl H) rfl
theorem cN {j} : PE X (.Constant .none j pos) (tD X.K E fun _ => .ok .non) := imp pe_non fun σ H Q ⟨g, env, os, r, m⟩ => m _ H (Same.refl H) rfl
theorem cS {i j} : PE X (.Constant (.str i) j pos) (tD X.K E fun _ => .ok (.str i)) := imp pe_str fun σ H Q ⟨g, env, os, r, m⟩ => m _ H (Same.refl H) rfl
theorem PE.toB {e : Expr} {f : DE → R D} (h : PE X e (tD X.K E f)) : PE X e (tB X.K E f) := imp h fun σ H Q ⟨g, env, os, r, m⟩ => ⟨g, env, os, r, m.mono fun d _ q v H' s i => q v H' s i.weak⟩
theorem PE.FtoD {e : Expr} {f : DE → R (List D)} (h : PE X e (tF X.K E f)) : PE X e (tD X.K E fun env => (f env).bind fun xs => .ok (.lst xs)) := imp h fun σ H Q ⟨g, env, os, r, m⟩ => ⟨g, env, os, r, m.bind.mono fun d _ q a vs H' s hn hH i => by
  refine q _ H' s ⟨a, vs, rfl, .inl ⟨r.fresh hn, .inl hH⟩, IsL.ext ⟨fun b o p _ => ⟨p.1, fun z => p.2 (List.mem_cons_of_mem _ z)⟩, fun _ _ _ q => q⟩ _ _ i⟩⟩
theorem PE.FtoL {e : Expr} {f : DE → R (List D)} (h : PE X e (tF X.K E f)) : PE X e (tL X.K E f) := imp h fun σ H Q ⟨g, env, os, r, m⟩ => ⟨g, env, os, r, m.mono fun d _ q a vs H' s hn hH i =>
  q _ vs H' s (SqL.of hH) (IsL.ext ⟨fun b o p _ => ⟨p.1, fun z => p.2 (List.mem_cons_of_mem _ z)⟩, fun _ _ _ q => q⟩ _ _ i)⟩
def asL : D → R (List D)
  | .lst xs => .ok xs
  | _ => .bad
theorem PE.DtoL {e : Expr} {f : DE → R D} (h : PE X e (tD X.K E f)) : PE X e (tL X.K E fun env => (f env).bind asL) := imp h fun σ H Q ⟨g, env, os, r, m⟩ => ⟨g, env, os, r, m.bind.mono fun d _ q v H' s i => by
  cases d with
  | lst xs =>
    obtain ⟨a, vs, rfl, h3, h4⟩ := i
    exact q a vs H' s h3.sq h4
  | non => exact q.elim
  | bl _ => exact q.elim
  | int _ => exact q.elim
  | str _ => exact q.elim
  | exc _ => exact q.elim
  | fn _ => exact q.elim
  | tup _ => exact q.elim⟩

/-! ### operations on scalars -/
abbrev Tr : Addr → Prop := fun _ => True
def Ker2 (X : Cx) (r : R2) (k : D → D → Option D) : Prop := ∀ x y d, k x y = some d → ∃ z, toV d = some z ∧ ∀ H v w (Q : VK), Is X.K Tr H x v → Is X.K Tr H y w → Q z H → r v w H Q
theorem oBin {op : Operator} {r : R2} {a b : Expr} {fa fb : DE → R D} {k : D → D → Option D} (ho : OpR X (binaryOp op) r) (hk : Ker2 X r k) (ha : PE X a (tB X.K E fa)) (hb : PE X b (tB X.K E fb)) :
    PE X (.BinOp a op b pos) (tD X.K E fun env => (fa env).bind fun x => (fb env).bind fun y => R.of (k x y)) :=
  imp (pe_op ho ha hb) fun σ H Q ⟨g, env, os, r, m⟩ => ⟨g, env, os, r, m.bind.mono fun x _ m1 v H1 s1 i1 => ⟨g, env, os, r.same s1, m1.bind.mono fun y _ m2 w H2 s2 i2 => by
    obtain ⟨d, e, q⟩ := m2.of
    obtain ⟨z, hz, hk⟩ := hk x y d e
    exact hk H2 v w Q (i1.same s2) i2 (q z H2 (s1.trans s2) (Is.sc hz))⟩⟩
theorem oCmp {op : CmpOp} {r : R2} {a b : Expr} {fa fb : DE → R D} {k : D → D → Option D} (ho : OpR X (compareOp op) r) (hk : Ker2 X r k) (ha : PE X a (tB X.K E fa)) (hb : PE X b (tB X.K E fb)) (hm : behindInMarks op b = false) :
    PE X (.Compare a [op] [b] pos) (tD X.K E fun env => (fa env).bind fun x => (fb env).bind fun y => R.of (k x y)) :=
  imp (pe_cmpR ho ha hb hm) fun σ H Q ⟨g, env, os, r, m⟩ => ⟨g, env, os, r, m.bind.mono fun x _ m1 v H1 s1 i1 => ⟨g, env, os, r.same s1, m1.bind.mono fun y _ m2 w H2 s2 i2 => by
    obtain ⟨d, e, q⟩ := m2.of
    obtain ⟨z, hz, hk⟩ := hk x y d e
    exact hk H2 v w Q (i1.same s2) i2 (q z H2 (s1.trans s2) (Is.sc hz))⟩⟩
def asB : D → R Bool
  | .bl b => .ok b
  | _ => .bad
theorem oCmpT {op : CmpOp} {r : R2} {a b : Expr} {fa fb : DE → R D} {k : D → D → Option D} (ho : OpR X (compareOp op) r) (hk : Ker2 X r k) (ha : PE X a (tB X.K E fa)) (hb : PE X b (tB X.K E fb)) (hm : behindInMarks op b = false) :
    PT X (.Compare a [op] [b] pos) (tT X.K E fun env => (fa env).bind fun x => (fb env).bind fun y => (R.of (k x y)).bind asB) :=
  impT (pt_cmpR ho ha hb hm) fun σ H Q ⟨g, env, os, r, m⟩ => ⟨g, env, os, r, m.bind.mono fun x _ m1 v H1 s1 i1 => ⟨g, env, os, r.same s1, m1.bind.mono fun y _ m2 w H2 s2 i2 => by
    obtain ⟨d, e, q⟩ := m2.bind.of
    obtain ⟨z, hz, hk⟩ := hk x y d e
    refine hk H2 v w _ (i1.same s2) i2 ?_
    cases d with
    | bl b =>
      cases hz
      exact ⟨b, rfl, q H2 (s1.trans s2)⟩
    | non => exact q.elim
    | lst _ => exact q.elim
    | int _ => exact q.elim
    | str _ => exact q.elim
    | exc _ => exact q.elim
    | fn _ => exact q.elim
    | tup _ => exact q.elim⟩⟩
def Ker1 (X : Cx) (r : V → Hp → VK → Prop) (k : D → Option D) : Prop := ∀ x d, k x = some d → ∃ z, toV d = some z ∧ ∀ H v (Q : VK), Is X.K Tr H x v → Q z H → r v H Q
theorem oUn {op : UnaryOp} {r : V → Hp → VK → Prop} {a : Expr} {fa : DE → R D} {k : D → Option D} (ho : UnR X (unaryOp op) r) (hk : Ker1 X r k) (ha : PE X a (tB X.K E fa)) :
    PE X (.UnaryOp op a pos) (tD X.K E fun env => (fa env).bind fun x => R.of (k x)) :=
  imp (pe_un ho ha) fun σ H Q ⟨g, env, os, r, m⟩ => ⟨g, env, os, r, m.bind.mono fun x _ m1 v H1 s1 i1 => by
    obtain ⟨d, e, q⟩ := m1.of
    obtain ⟨z, hz, hk⟩ := hk x d e
    exact hk H1 v Q i1 (q z H1 s1 (Is.sc hz))⟩

/-! the kernels -/
def kSub : D → D → Option D
  | .int i, .int j => some (.int (i - j))
  | _, _ => none
noncomputable def kMul : D → D → Option D
  | .int i, .int j => @ite _ ((-(2 ^ 64) < i ∧ i < 2 ^ 64) ∨ (-(2 ^ 64) < j ∧ j < 2 ^ 64)) (Classical.propDecidable _) (some (.int (i * j))) (none)
  | _, _ => none
noncomputable def kDiv : D → D → Option D
  | .int i, .int j => @ite _ (0 < j ∧ j < 1073741824) (Classical.propDecidable _) (some (.int (i / j))) (none)
  | _, _ => none
noncomputable def kMod : D → D → Option D
  | .int i, .int j => @ite _ (0 < j) (Classical.propDecidable _) (some (.int (i % j))) (none)
  | _, _ => none
noncomputable def kPow : D → D → Option D
  | .int i, .int j => @ite _ (0 ≤ j ∧ j ≤ 1000000 ∧ i.natAbs < 2 ^ 64) (Classical.propDecidable _) (some (.int (i ^ j.toNat))) (none)
  | _, _ => none
def kNeg : D → Option D
  | .int i => some (.int (-i))
  | _ => none
def kLt : D → D → Option D
  | .int i, .int j => some (.bl (decide (i < j)))
  | _, _ => none
def kLe : D → D → Option D
  | .int i, .int j => some (.bl (decide (i ≤ j)))
  | _, _ => none
def kGt : D → D → Option D
  | .int i, .int j => some (.bl (decide (j < i)))
  | _, _ => none
def kGe : D → D → Option D
  | .int i, .int j => some (.bl (decide (j ≤ i)))
  | _, _ => none
theorem ker_int0 {g : Int → Int → V} {h : Int → Int → D} {k : D → D → Option D} (hg : ∀ i j, toV (h i j) = some (g i j)) (hk : ∀ x y d, k x y = some d → ∃ i j, x = .int i ∧ y = .int j ∧ d = h i j) : Ker2 X (rI0 g) k := fun x y d e => by
  obtain ⟨i, j, rfl, rfl, rfl⟩ := hk x y d e
  refine ⟨g i j, hg i j, fun H v w Q h1 h2 q => ⟨i, j, h1, h2, q⟩⟩
theorem ker_int {C : Int → Int → Prop} {g : Int → Int → V} {h : Int → Int → D} {k : D → D → Option D} (hg : ∀ i j, toV (h i j) = some (g i j)) (hk : ∀ x y d, k x y = some d → ∃ i j, x = .int i ∧ y = .int j ∧ C i j ∧ d = h i j) : Ker2 X (rI C g) k := fun x y d e => by
  obtain ⟨i, j, rfl, rfl, c, rfl⟩ := hk x y d e
  refine ⟨g i j, hg i j, fun H v w Q h1 h2 q => ⟨i, j, h1, h2, c, q⟩⟩
theorem ker_sub : Ker2 X (rI0 fun i j => .int (i - j)) kSub := ker_int0 (h := fun i j => .int (i - j)) (fun _ _ => rfl) fun x y d e => by
  unfold kSub at e
  split at e <;> cases e
  exact ⟨_, _, rfl, rfl, rfl⟩
theorem ker_lt : Ker2 X (rI0 fun i j => .bl (decide (i < j))) kLt := ker_int0 (h := fun i j => .bl (decide (i < j))) (fun _ _ => rfl) fun x y d e => by
  unfold kLt at e
  split at e <;> cases e
  exact ⟨_, _, rfl, rfl, rfl⟩
theorem ker_gt : Ker2 X (rI0 fun i j => .bl (decide (j < i))) kGt := ker_int0 (h := fun i j => .bl (decide (j < i))) (fun _ _ => rfl) fun x y d e => by
  unfold kGt at e
  split at e <;> cases e
  exact ⟨_, _, rfl, rfl, rfl⟩
theorem ker_mul : Ker2 X (rI CMul fun i j => .int (i * j)) kMul := ker_int (h := fun i j => .int (i * j)) (fun _ _ => rfl) fun x y d e => by
  unfold kMul at e
  split at e
  · split at e
    · rename_i i j c
      cases e
      exact ⟨i, j, rfl, rfl, c, rfl⟩
    · cases e
  · cases e
theorem ker_div : Ker2 X (rI CDiv fun i j => .int (i / j)) kDiv := ker_int (h := fun i j => .int (i / j)) (fun _ _ => rfl) fun x y d e => by
  unfold kDiv at e
  split at e
  · split at e
    · rename_i i j c
      cases e
      exact ⟨i, j, rfl, rfl, c, rfl⟩
    · cases e
  · cases e
theorem ker_mod : Ker2 X (rI (fun _ j => 0 < j) fun i j => .int (i % j)) kMod := ker_int (h := fun i j => .int (i % j)) (fun _ _ => rfl) fun x y d e => by
  unfold kMod at e
  split at e
  · split at e
    · rename_i i j c
      cases e
      exact ⟨i, j, rfl, rfl, c, rfl⟩
    · cases e
  · cases e
theorem ker_pow : Ker2 X (rI CPow fun i j => .int (i ^ j.toNat)) kPow := ker_int (h := fun i j => .int (i ^ j.toNat)) (fun _ _ => rfl) fun x y d e => by
  unfold kPow at e
  split at e
  · split at e
    · rename_i i j c
      cases e
      exact ⟨i, j, rfl, rfl, c, rfl⟩
    · cases e
  · cases e
theorem ker_neg : Ker1 X (rU fun i => .int (-i)) kNeg := fun x d e => by
  unfold kNeg at e
  split at e <;> cases e
  exact ⟨_, rfl, fun H v Q h1 q => ⟨_, h1, q⟩⟩
/-! ### tests: and, or, not -/
theorem tNotD {a : Expr} {f : DE → R Bool} (h : PT X a (tT X.K E f)) : PT X (.UnaryOp .Not a pos) (tT X.K E fun env => (f env).bind fun b => .ok (!b)) :=
  impT (pt_not h) fun σ H Q ⟨g, env, os, r, m⟩ => ⟨g, env, os, r, m.bind.mono fun b _ q H' s => q H' s⟩
theorem tAnd1 {a : Expr} {f : DE → R Bool} (h : PT X a (tT X.K E f)) : PW X (.BoolOp .And [a] pos) (tT X.K E f) := pw_and1 h
theorem tOr1 {a : Expr} {f : DE → R Bool} (h : PT X a (tT X.K E f)) : PW X (.BoolOp .Or [a] pos) (tT X.K E f) := pw_or1 h
theorem tAndD {a b : Expr} {rest : List Expr} {f k : DE → R Bool} (h : PT X a (tT X.K E f)) (h2 : PW X (.BoolOp .And (b :: rest) pos) (tT X.K E k)) : PW X (.BoolOp .And (a :: b :: rest) pos) (tT X.K E fun env => (f env).bind fun t => if t = true then k env else .ok false) :=
  impW (pw_and h h2) fun σ H Q ⟨g, env, os, r, m⟩ => ⟨g, env, os, r, m.bind.mono fun t _ q H' s => by
    cases t with
    | true => exact ⟨g, env, os, r.same s, Good.mono (show Good E g.H₀ (k env) _ from q) fun b _ q2 H2 s2 => q2 H2 (s.trans s2)⟩
    | false => exact q H' s⟩
theorem tOrD {a b : Expr} {rest : List Expr} {f k : DE → R Bool} (h : PT X a (tT X.K E f)) (h2 : PW X (.BoolOp .Or (b :: rest) pos) (tT X.K E k)) : PW X (.BoolOp .Or (a :: b :: rest) pos) (tT X.K E fun env => (f env).bind fun t => if t = true then .ok true else k env) :=
  impW (pw_or h h2) fun σ H Q ⟨g, env, os, r, m⟩ => ⟨g, env, os, r, m.bind.mono fun t _ q H' s => by
    cases t with
    | false => exact ⟨g, env, os, r.same s, Good.mono (show Good E g.H₀ (k env) _ from q) fun b _ q2 H2 s2 => q2 H2 (s.trans s2)⟩
    | true => exact q H' s⟩
theorem tVal {e : Expr} {f : DE → R D} (h : PE X e (tB X.K E f)) (he : ∀ whole, isTrue e X.env whole = (do let v ← whole; standAt e.pos; holding [v] (truthy v)) := by intro _; rfl) : PT X e (tT X.K E fun env => (f env).bind asB) :=
  impT (pt_val h he) fun σ H Q ⟨g, env, os, r, m⟩ => ⟨g, env, os, r, m.bind.mono fun d _ q v H' s i => by
    cases d with
    | bl b => exact ⟨b, i, q H' s⟩
    | non => exact q.elim
    | lst _ => exact q.elim
    | int _ => exact q.elim
    | str _ => exact q.elim
    | exc _ => exact q.elim
    | fn _ => exact q.elim
    | tup _ => exact q.elim⟩
/-! .. as values -/
theorem vOne {op} {a : Expr} {f : DE → R D} (h : PE X a (tD X.K E f)) : PE X (.BoolOp op [a] pos) (tD X.K E f) := pe_one h
theorem vAnd {a b : Expr} {rest : List Expr} {f k : DE → R D} (h : PE X a (tB X.K E f)) (h2 : PE X (.BoolOp .And (b :: rest) pos) (tD X.K E k)) : PE X (.BoolOp .And (a :: b :: rest) pos) (tD X.K E fun env => (f env).bind fun x => (asB x).bind fun t => if t = true then k env else .ok (.bl false)) :=
  imp (pe_and h h2) fun σ H Q ⟨g, env, os, r, m⟩ => ⟨g, env, os, r, m.bind.mono fun d _ q v H' s i => by
    cases d with
    | bl b =>
      refine ⟨b, i, ?_⟩
      cases b with
      | true =>
        rw [if_pos rfl]
        exact ⟨g, env, os, r.same s, Good.mono (show Good E g.H₀ (k env) _ from q) fun b _ q2 v2 H2 s2 i2 => q2 v2 H2 (s.trans s2) i2⟩
      | false =>
        rw [if_neg Bool.false_ne_true]
        exact q _ H' s rfl
    | non => exact q.elim
    | lst _ => exact q.elim
    | int _ => exact q.elim
    | str _ => exact q.elim
    | exc _ => exact q.elim
    | fn _ => exact q.elim
    | tup _ => exact q.elim⟩
theorem vNot {a : Expr} {f : DE → R D} (h : PE X a (tB X.K E f)) : PE X (.UnaryOp .Not a pos) (tD X.K E fun env => (f env).bind fun x => (asB x).bind fun t => .ok (.bl (!t))) :=
  imp (pe_not h) fun σ H Q ⟨g, env, os, r, m⟩ => ⟨g, env, os, r, m.bind.mono fun d _ q v H' s i => by
    cases d with
    | bl b => exact ⟨b, i, q _ H' s rfl⟩
    | non => exact q.elim
    | lst _ => exact q.elim
    | int _ => exact q.elim
    | str _ => exact q.elim
    | exc _ => exact q.elim
    | fn _ => exact q.elim
    | tup _ => exact q.elim⟩
theorem vIf {c a b : Expr} {fc : DE → R Bool} {fa fb : DE → R D} (hc : PT X c (tT X.K E fc)) (ha : PE X a (tD X.K E fa)) (hb : PE X b (tD X.K E fb)) : PE X (.IfExp c a b pos) (tD X.K E fun env => (fc env).bind fun t => if t = true then fa env else fb env) :=
  imp (pe_ifExp hc ha hb) fun σ H Q ⟨g, env, os, r, m⟩ => ⟨g, env, os, r, m.bind.mono fun t _ q H' s => by
    cases t with
    | true =>
      rw [if_pos rfl]
      exact ⟨g, env, os, r.same s, Good.mono (show Good E g.H₀ (fa env) _ from q) fun b _ q2 v2 H2 s2 i2 => q2 v2 H2 (s.trans s2) i2⟩
    | false =>
      rw [if_neg Bool.false_ne_true]
      exact ⟨g, env, os, r.same s, Good.mono (show Good E g.H₀ (fb env) _ from q) fun b _ q2 v2 H2 s2 i2 => q2 v2 H2 (s.trans s2) i2⟩⟩

/-! ### arguments, displays -/
theorem aNil : PA X [] (tAr X.K E fun _ => .ok []) := impA pa_nil fun σ H Q ⟨g, env, os, r, m⟩ => m [] H (Same.refl H) rfl
theorem aNilB : PA X [] (tArB X.K E fun _ => .ok []) := impA pa_nil fun σ H Q ⟨g, env, os, r, m⟩ => m [] H (Same.refl H) rfl
theorem aCons {e : Expr} {es : List Expr} {f : DE → R D} {k : DE → R (List D)} (ha : PE X e (tD X.K E f)) (hr : PA X es (tAr X.K E k)) (hs : starEach (e :: es) X.env = (false, eval e X.env) :: starEach es X.env := by rfl) :
    PA X (e :: es) (tAr X.K E fun env => (f env).bind fun x => (k env).bind fun xs => .ok (x :: xs)) :=
  impA (pa_cons ha hr hs) fun σ H Q ⟨g, env, os, r, m⟩ => ⟨g, env, os, r, m.bind.mono fun x _ m1 v H1 s1 i1 => ⟨g, env, os, r.same s1, m1.bind.mono fun xs _ m2 vs H2 s2 i2 => m2 (v :: vs) H2 (s1.trans s2) (.cons (i1.same s2) i2)⟩⟩
theorem aConsB {e : Expr} {es : List Expr} {f : DE → R D} {k : DE → R (List D)} (ha : PE X e (tB X.K E f)) (hr : PA X es (tArB X.K E k)) (hs : starEach (e :: es) X.env = (false, eval e X.env) :: starEach es X.env := by rfl) :
    PA X (e :: es) (tArB X.K E fun env => (f env).bind fun x => (k env).bind fun xs => .ok (x :: xs)) :=
  impA (pa_cons ha hr hs) fun σ H Q ⟨g, env, os, r, m⟩ => ⟨g, env, os, r, m.bind.mono fun x _ m1 v H1 s1 i1 => ⟨g, env, os, r.same s1, m1.bind.mono fun xs _ m2 vs H2 s2 i2 => m2 (v :: vs) H2 (s1.trans s2) (.cons (i1.same s2) i2)⟩⟩
noncomputable def fit {α : Type} (xs : List α) : R (List α) := @ite _ (xs.length ≤ sizeLine) (Classical.propDecidable _) (.ok xs) (.bad)
theorem Good.fit {α : Type} {H₀ : Hp} {xs : List α} {p : List α → Prop} (h : Good E H₀ (fit xs) p) : xs.length ≤ sizeLine ∧ p xs := by
  unfold DL.fit at h
  split at h
  · rename_i c
    exact ⟨c, h⟩
  · exact h.elim
theorem newL {K : PySem.W.Frag} {g : Gh} {env : DE} {σ : St} {H H1 : Hp} {os : List Addr} {ds : List D} {vs : List V} {p : Addr} (r : Rel K g env σ H os) (s1 : Same H H1) (hp : H1 p = none) (i : IsL K (g.P os) H1 ds vs) :
    Same H (upd H1 p (.lst vs)) ∧ H p = none ∧ upd H1 p (.lst vs) p = some (.lst vs) ∧ IsL K (g.P (p :: os)) (upd H1 p (.lst vs)) ds vs :=
  ⟨s1.trans (same_new hp _), s1.free hp, upd_same, IsL.ext ((r.same s1).apart (same_new hp _) hp) _ _ i⟩
theorem dLst {es : List Expr} {f : DE → R (List D)} (h : PA X es (tAr X.K E f)) : PE X (.List es pos) (tF X.K E fun env => (f env).bind fit) :=
  imp (pe_lst h) fun σ H Q ⟨g, env, os, r, m⟩ => ⟨g, env, os, r, m.bind.mono fun ds _ m1 vs H1 s1 i1 => by
    obtain ⟨z, q⟩ := m1.fit
    refine ⟨by rw [i1.length]; exact z, fun p hp => ?_⟩
    obtain ⟨a1, a2, a3, a4⟩ := newL r s1 hp i1
    exact q p vs _ a1 a2 a3 a4⟩
theorem dTup {es : List Expr} {x1} {f : DE → R (List D)} (h : PA X es (tAr X.K E f)) : PE X (.Tuple es x1 pos) (tD X.K E fun env => ((f env).bind fit).bind fun ds => .ok (.tup ds)) :=
  imp (pe_tup h) fun σ H Q ⟨g, env, os, r, m⟩ => ⟨g, env, os, r, m.bind.bind.mono fun ds _ m1 vs H1 s1 i1 => by
    obtain ⟨z, q⟩ := m1.fit
    refine ⟨by rw [i1.length]; exact z, fun p hp => ?_⟩
    exact q _ _ (s1.trans (same_new hp _)) ⟨p, vs, rfl, .inl ⟨(r.same s1).fresh hp, .inl upd_same⟩, i1.same (same_new hp _)⟩⟩
end
end DL

namespace DL
open PySem PySem.Spec PyProof.Rows L2
section
variable {X : Cx} {E : Str → Hp → Prop} {pos : Pos}

/-! ### lists: +, slices, places, len, list(..) -/
def rCat2 (K : PySem.W.Frag) : R2 := fun x y H Q => ∃ l b xs zs, x = .ref l ∧ y = .ref b ∧ SqL K H l xs ∧ SqL K H b zs ∧ xs.length + zs.length ≤ sizeLine ∧ ∀ p, H p = none → Q (.ref p) (upd H p (.lst (xs ++ zs)))
theorem op_cat2 : OpR X (binaryOp .Add) (rCat2 X.K) := by
  intro pins s σ H x y v u Q I rx ry h
  obtain ⟨l, b, xs, zs, rfl, rfl, hH, hB, hz, q⟩ := h
  cases rx
  cases ry
  obtain ⟨its, r, p1, z1⟩ := I.list hH
  obtain ⟨its2, r2, p2, z2⟩ := I.list hB
  have hl := r.length
  have hl2 := r2.length
  obtain ⟨o1, n1, e1, c1, d1, t1⟩ := p1
  obtain ⟨o2, n2, e2, c2, d2, t2⟩ := p2
  obtain ⟨oc, od, oda, osl⟩ := o1
  obtain ⟨oc2, od2, oda2, osl2⟩ := o2
  have c1' : oc = _ := c1
  have d1' : od = _ := d1
  have t1' : oda = _ := t1
  have c2' : oc2 = _ := c2
  have d2' : od2 = _ := d2
  have t2' : oda2 = _ := t2
  subst c1' d1' t1' c2' d2' t2'
  have ea : its.toArray ++ its2.toArray = (its ++ its2).toArray := by simp
  refine concat_meets ⟨_, e1, rfl⟩ ⟨_, e2, rfl⟩ noFill_list_add seq_list_add PySem.F.slot_list_add PySem.F.entry_list_add (PySem.F.args_list_add_2 _ _) (list_addW l b its.toArray its2.toArray n1 n2 none none osl osl2 (by rw [List.size_toArray, List.size_toArray]; omega)) ⟨e1, e2, ?_⟩
  rw [ea]
  exact ⟨.ref _, _, I.lnew (t' := s.toks) (r.append r2) (by rw [List.length_append]; omega), rfl, q _ I.fresh⟩
theorem lCat {a b : Expr} {fa fb : DE → R (List D)} (ha : PE X a (tL X.K E fa)) (hb : PE X b (tL X.K E fb)) : PE X (.BinOp a .Add b pos) (tF X.K E fun env => (fa env).bind fun x => (fb env).bind fun y => fit (x ++ y)) :=
  imp (pe_op op_cat2 ha hb) fun σ H Q ⟨g, env, os, r, m⟩ => ⟨g, env, os, r, m.bind.mono fun x _ m1 a1 v1 H1 s1 q1 i1 => ⟨g, env, os, r.same s1, m1.bind.mono fun y _ m2 a2 v2 H2 s2 q2 i2 => by
    obtain ⟨z, q⟩ := m2.fit
    rw [List.length_append] at z
    refine ⟨a1, a2, v1, v2, rfl, rfl, s2.seq q1, q2, by rw [i1.length, i2.length]; exact z, fun p hp => ?_⟩
    obtain ⟨b1, b2, b3, b4⟩ := newL r (s1.trans s2) hp ((i1.same s2).app i2)
    exact q p _ _ b1 b2 b3 b4⟩⟩
/-! slices -/
def tO (K : PySem.W.Frag) (E : Str → Hp → Prop) (f : DE → R (Option Int)) : TO := fun σ H Q => ∃ g env os, Rel K g env σ H os ∧ Good E g.H₀ (f env) fun o => ∀ H', Same H H' → Q o H'
theorem impO {e : Option Expr} {t t' : TO} (h : L2.PO X e t) (w : ∀ σ H Q, t' σ H Q → t σ H Q) : L2.PO X e t' := fun pins s σ H Q I q => h pins s σ H Q I (w σ H Q q)
theorem oNo : L2.PO X none (tO X.K E fun _ => .ok none) := impO po_none fun σ H Q ⟨g, env, os, r, m⟩ => m H (Same.refl H)
def asI : D → R (Option Int)
  | .int i => .ok (some i)
  | _ => .bad
theorem oYes {e : Expr} {f : DE → R D} (h : PE X e (tB X.K E f)) : L2.PO X (some e) (tO X.K E fun env => (f env).bind asI) := impO (po_some h) fun σ H Q ⟨g, env, os, r, m⟩ => ⟨g, env, os, r, m.bind.mono fun d _ q v H' s i => by
  cases d with
  | int k => exact ⟨k, i, q H' s⟩
  | non => exact q.elim
  | bl _ => exact q.elim
  | lst _ => exact q.elim
  | str _ => exact q.elim
  | exc _ => exact q.elim
  | fn _ => exact q.elim
  | tup _ => exact q.elim⟩
def cut {α : Type} (xs : List α) (lo hi : Option Int) : List α := (xs.drop (HT.sIx xs.length 0 lo)).take (HT.sIx xs.length xs.length hi - HT.sIx xs.length 0 lo)
theorem IsL.cut {K : PySem.W.Frag} {P : Addr → Prop} {H : Hp} {ds : List D} {vs : List V} (h : IsL K P H ds vs) (lo hi : Option Int) : IsL K P H (DL.cut ds lo hi) (cutV vs lo hi) := by
  unfold DL.cut cutV
  rw [h.length]
  exact (h.drop _).take _
theorem lSlice {e : Expr} {lo hi : Option Expr} {f : DE → R (List D)} {fl fh : DE → R (Option Int)} {p2 : Pos} (he : PE X e (tL X.K E f)) (hl : L2.PO X lo (tO X.K E fl)) (hh : L2.PO X hi (tO X.K E fh)) :
    PE X (.Subscript e (.Slice lo hi none p2) pos) (tF X.K E fun env => (f env).bind fun x => (fl env).bind fun l => (fh env).bind fun h => .ok (cut x l h)) :=
  imp (pe_slice sl_list he hl hh) fun σ H Q ⟨g, env, os, r, m⟩ => ⟨g, env, os, r, m.bind.mono fun x _ m1 a1 v1 H1 s1 q1 i1 => ⟨g, env, os, r.same s1, m1.bind.mono fun l _ m2 H2 s2 => ⟨g, env, os, r.same (s1.trans s2), m2.bind.mono fun h _ m3 H3 s3 => by
    refine ⟨a1, v1, rfl, s3.seq (s2.seq q1), fun p hp => ?_⟩
    obtain ⟨b1, b2, b3, b4⟩ := newL r (s1.trans (s2.trans s3)) hp (((i1.same s2).same s3).cut l h)
    exact m3 p _ _ b1 b2 b3 b4⟩⟩⟩
/-! places -/
theorem IsL.atI {K : PySem.W.Frag} {P : Addr → Prop} {H : Hp} {ds : List D} {vs : List V} {i : Int} {d : D} (h : IsL K P H ds vs) (e : L2.atI ds i = some d) : ∃ v, L2.atI vs i = some v ∧ Is K P H d v := by
  unfold L2.atI at e ⊢
  rw [h.length]
  cases q : ixN ds.length i with
  | none => rw [q] at e; cases e
  | some j =>
    rw [q] at e
    exact h.get e
def ixD : D → D → R D
  | .lst xs, .int i => R.of (atI xs i)
  | .tup xs, .int i => R.of (atI xs i)
  | _, _ => .bad
theorem dIx {a b : Expr} {fa fb : DE → R D} (ha : PE X a (tD X.K E fa)) (hb : PE X b (tB X.K E fb)) (hs : PlainIx b := by exact fun _ _ => rfl) : PE X (.Subscript a b pos) (tD X.K E fun env => (fa env).bind fun x => (fb env).bind fun y => ixD x y) :=
  imp (pe_ix ix_seq ha hb hs) fun σ H Q ⟨g, env, os, r, m⟩ => ⟨g, env, os, r, m.bind.mono fun x _ m1 v H1 s1 i1 => ⟨g, env, os, r.same s1, m1.bind.mono fun y _ m2 w H2 s2 i2 => by
    unfold ixD at m2
    split at m2
    · rename_i xs i _ _
      obtain ⟨d, e, q⟩ := m2.of
      have i1' := i1.same s2
      obtain ⟨a, vs, rfl, h1, h2⟩ := i1'
      obtain ⟨z, e2, h3⟩ := IsL.atI h2 e
      exact .inl ⟨a, vs, i, z, rfl, i2, h1.sq, e2, q z H2 (s1.trans s2) h3⟩
    · rename_i xs i _ _
      obtain ⟨d, e, q⟩ := m2.of
      have i1' := i1.same s2
      obtain ⟨a, vs, rfl, h1, h2⟩ := i1'
      obtain ⟨z, e2, h3⟩ := IsL.atI h2 e
      exact .inr (.inl ⟨a, vs, i, z, rfl, i2, h1.sq, e2, q z H2 (s1.trans s2) h3⟩)
    · exact m2.elim⟩⟩
def ixL (xs : List D) : D → R D
  | .int i => R.of (atI xs i)
  | _ => .bad
theorem lIx {a b : Expr} {fa : DE → R (List D)} {fb : DE → R D} (ha : PE X a (tL X.K E fa)) (hb : PE X b (tB X.K E fb)) (hs : PlainIx b := by exact fun _ _ => rfl) : PE X (.Subscript a b pos) (tD X.K E fun env => (fa env).bind fun x => (fb env).bind fun y => ixL x y) :=
  imp (pe_ix ix_list ha hb hs) fun σ H Q ⟨g, env, os, r, m⟩ => ⟨g, env, os, r, m.bind.mono fun x _ m1 a1 v1 H1 s1 q1 i1 => ⟨g, env, os, r.same s1, m1.bind.mono fun y _ m2 w H2 s2 i2 => by
    unfold ixL at m2
    split at m2
    · rename_i i _
      obtain ⟨d, e, q⟩ := m2.of
      obtain ⟨z, e2, h3⟩ := (i1.same s2).atI e
      exact ⟨a1, v1, i, z, rfl, i2, s2.seq q1, e2, q z H2 (s1.trans s2) h3⟩
    · exact m2.elim⟩⟩
/-! ### built-in functions: scalars out -/
def KerC (X : Cx) (r : List V → Hp → VK → Prop) (k : List D → Option D) : Prop := ∀ ds d, k ds = some d → ∃ z, toV d = some z ∧ ∀ H vs (Q : VK), IsL X.K Tr H ds vs → Q z H → r vs H Q
theorem oCall {id : String} {x : Str} {p : Pos} {e : Expr} {es : List Expr} {f : DE → R (List D)} {r : List V → Hp → VK → Prop} {k : List D → Option D} (hc : CallR X (.builtin id) r) (hk : KerC X r k) (hm : X.mg x = none) (hv : bootBuiltins x = some (.builtin id)) (ha : PA X (e :: es) (tArB X.K E f))
    (hg : Gl X x := by rfl) (hn : x ≠ "__name__" := by decide) (hdb : (x == ("__debug__" : Str)) = false := by decide)
    (he : starEach (e :: es) X.env = (false, eval e X.env) :: starEach es X.env := by rfl) (hpl : (backTo pos (starEach es X.env)).any (·.1) = false := by rfl) : PE X (.Call (.Name x p) (e :: es) [] pos) (tD X.K E fun env => (f env).bind fun ds => R.of (k ds)) :=
  imp (pe_callB hc hg hm hv ha hn hdb he hpl) fun σ H Q ⟨g, env, os, r, m⟩ => ⟨g, env, os, r, m.bind.mono fun ds _ m1 vs H1 s1 i1 => by
    obtain ⟨d, e, q⟩ := m1.of
    obtain ⟨z, hz, hk⟩ := hk ds d e
    exact hk H1 vs Q i1 (q z H1 s1 (Is.sc hz))⟩
theorem oCallT {T : String} {x : Str} {p : Pos} {e : Expr} {es : List Expr} {f : DE → R (List D)} {r : List V → Hp → VK → Prop} {k : List D → Option D} (hc : CallR X (.type T) r) (hk : KerC X r k) (hm : X.mg x = none) (hv : bootBuiltins x = some (.type T)) (ha : PA X (e :: es) (tArB X.K E f))
    (hg : Gl X x := by rfl) (hn : x ≠ "__name__" := by decide) (hdb : (x == ("__debug__" : Str)) = false := by decide)
    (he : starEach (e :: es) X.env = (false, eval e X.env) :: starEach es X.env := by rfl) (hpl : (backTo pos (starEach es X.env)).any (·.1) = false := by rfl) : PE X (.Call (.Name x p) (e :: es) [] pos) (tD X.K E fun env => (f env).bind fun ds => R.of (k ds)) :=
  imp (pe_callTy hc hg hm hv ha hn hdb he hpl) fun σ H Q ⟨g, env, os, r, m⟩ => ⟨g, env, os, r, m.bind.mono fun ds _ m1 vs H1 s1 i1 => by
    obtain ⟨d, e, q⟩ := m1.of
    obtain ⟨z, hz, hk⟩ := hk ds d e
    exact hk H1 vs Q i1 (q z H1 s1 (Is.sc hz))⟩
theorem IsL.one' {K : PySem.W.Frag} {P : Addr → Prop} {H : Hp} {d : D} {vs : List V} (h : IsL K P H [d] vs) : ∃ v, vs = [v] ∧ Is K P H d v := by
  obtain ⟨v, r, rfl, p, q⟩ := h
  have q' : r = [] := q
  subst q'
  exact ⟨v, rfl, p⟩
theorem IsL.two' {K : PySem.W.Frag} {P : Addr → Prop} {H : Hp} {d d2 : D} {vs : List V} (h : IsL K P H [d, d2] vs) : ∃ v w, vs = [v, w] ∧ Is K P H d v ∧ Is K P H d2 w := by
  obtain ⟨v, r, rfl, p, q⟩ := h
  obtain ⟨w, rfl, p2⟩ := IsL.one' q
  exact ⟨v, w, rfl, p, p2⟩
noncomputable def kLen : List D → Option D
  | [.lst xs] => some (.int xs.length)
  | [.tup xs] => some (.int xs.length)
  | [.str x] => @ite _ (x.length ≤ sizeLine) (Classical.propDecidable _) (some (.int x.length)) (none)
  | _ => none
theorem ker_len : KerC X (fun xs H Q => ∃ x n, xs = [x] ∧ LenV X.K x H n ∧ Q (.int n) H) kLen := fun ds d e => by
  unfold kLen at e
  split at e
  · rename_i xs
    cases e
    refine ⟨_, rfl, fun H vs Q i q => ?_⟩
    obtain ⟨v, rfl, a, ws, rfl, h1, h2⟩ := IsL.one' i
    exact ⟨_, _, rfl, .inl ⟨ws, h1.sq, (IsL.length h2).symm⟩, q⟩
  · rename_i xs
    cases e
    refine ⟨_, rfl, fun H vs Q i q => ?_⟩
    obtain ⟨v, rfl, a, ws, rfl, h1, h2⟩ := IsL.one' i
    exact ⟨_, _, rfl, .inr ⟨ws, h1.sq, (IsL.length h2).symm⟩, q⟩
  · split at e
    · rename_i x c
      cases e
      refine ⟨_, rfl, fun H vs Q i q => ?_⟩
      obtain ⟨v, rfl, i2⟩ := IsL.one' i
      have i' : v = .str x := i2
      subst i'
      exact ⟨_, _, rfl, ⟨c, rfl⟩, q⟩
    · cases e
  · cases e
def kAbs : List D → Option D
  | [.int i] => some (.int (if i < 0 then -i else i))
  | _ => none
theorem ker_abs : KerC X (fun xs H Q => ∃ i, xs = [.int i] ∧ Q (.int (if i < 0 then -i else i)) H) kAbs := fun ds d e => by
  unfold kAbs at e
  split at e
  · rename_i i
    cases e
    refine ⟨_, rfl, fun H vs Q h q => ?_⟩
    obtain ⟨v, rfl, h1⟩ := IsL.one' h
    have h' : v = .int i := h1
    subst h'
    exact ⟨i, rfl, q⟩
  · cases e
def kMax2 : List D → Option D
  | [.int i, .int j] => some (.int (if j > i then j else i))
  | _ => none
theorem ker_max2 : KerC X (fun xs H Q => ∃ i j, xs = [.int i, .int j] ∧ Q (.int (if j > i then j else i)) H) kMax2 := fun ds d e => by
  unfold kMax2 at e
  split at e
  · rename_i i j
    cases e
    refine ⟨_, rfl, fun H vs Q h q => ?_⟩
    obtain ⟨v, w, rfl, h1, h2⟩ := IsL.two' h
    have h' : v = .int i := h1
    have h2' : w = .int j := h2
    subst h' h2'
    exact ⟨i, j, rfl, q⟩
  · cases e
/-! ### calls of the text's own defs -/
def spD (K : PySem.W.Frag) (xc : Str → Value) (m : List D → R D) : Sp := fun vs H Q E => ∃ P ds, IsL K P H ds vs ∧ (match m ds with
  | .ok d => ∀ v H', Same H H' → Is K (fun a => P a ∨ H a = none) H' d v → Q v H'
  | .err c => ∀ H', Same H H' → E (xc c) none H'
  | .bad => False)
def spF (K : PySem.W.Frag) (xc : Str → Value) (m : List D → R (List D)) : Sp := fun vs H Q E => ∃ P ds, IsL K P H ds vs ∧ (match m ds with
  | .ok xs => ∀ a ws H', Same H H' → H a = none → H' a = some (.lst ws) → IsL K (fun b => (P b ∨ H b = none) ∧ b ≠ a) H' xs ws → Q (.ref a) H'
  | .err c => ∀ H', Same H H' → E (xc c) none H'
  | .bad => False)
def EX (xc : Str → Value) (E : Str → Hp → Prop) : XK := fun c _ H' => ∃ n, c = xc n ∧ E n H'
theorem passN {E : XK} : Passes CX0 X E := fun _ _ _ _ _ _ _ h => h.elim
variable {CX : CXT} {k : Nat} {fa : Addr} {fd : FuncData} {ps : List Str} {xc : Str → Value} {x : Str} {p : Pos} {e : Expr} {es : List Expr} {f : DE → R (List D)}
theorem fD {m : List D → R D} (F : FnOk X.prog X.w X.K X.mg X.base CX k fa fd ps (spD X.K xc m)) (hm : X.mg x = some (.ref fa)) (hk : PySem.W.keepIn X.K (.ref fa) = true) (hb : Binds X.K fd ps []) (hr : Room k X.A) (hx : Passes CX X (EX xc E))
    (ha : PA X (e :: es) (tAr X.K E f)) (hg : Gl X x := by rfl) (hdb : (x == ("__debug__" : Str)) = false := by decide) (he : starEach (e :: es) X.env = (false, eval e X.env) :: starEach es X.env := by rfl) (hpl : (backTo pos (starEach es X.env)).any (·.1) = false := by rfl) :
    PE X (.Call (.Name x p) (e :: es) [] pos) (tD X.K E fun env => (f env).bind m) :=
  imp (pe_call F hr hg hm hk hb .nil hx ha hdb he hpl) fun σ H Q ⟨g, env, os, r, q⟩ => ⟨g, env, os, r, q.bind.mono fun ds _ q1 vs H1 s1 i1 => by
    show spD X.K xc m (vs ++ []) H1 Q _
    rw [List.append_nil]
    refine ⟨g.P os, ds, i1, ?_⟩
    cases em : m ds with
    | ok d =>
      rw [em] at q1
      intro v H' s' i'
      exact q1 v H' (s1.trans s') (Is.ext ⟨fun a o pa _ => pa.elim (fun z => z) fun z => (r.same s1).fresh z, fun _ _ _ z => z⟩ _ _ i')
    | err c =>
      rw [em] at q1
      intro H' s'
      exact ⟨c, rfl, q1 H' (r.ext.trans (s1.trans s'))⟩
    | bad => rw [em] at q1; exact q1⟩
theorem fB {m : List D → R D} (F : FnOk X.prog X.w X.K X.mg X.base CX k fa fd ps (spD X.K xc m)) (hsc : ∀ ds d, m ds = .ok d → ∃ z, toV d = some z) (hm : X.mg x = some (.ref fa)) (hk : PySem.W.keepIn X.K (.ref fa) = true) (hb : Binds X.K fd ps []) (hr : Room k X.A) (hx : Passes CX X (EX xc E))
    (ha : PA X (e :: es) (tArB X.K E f)) (hg : Gl X x := by rfl) (hdb : (x == ("__debug__" : Str)) = false := by decide) (he : starEach (e :: es) X.env = (false, eval e X.env) :: starEach es X.env := by rfl) (hpl : (backTo pos (starEach es X.env)).any (·.1) = false := by rfl) :
    PE X (.Call (.Name x p) (e :: es) [] pos) (tD X.K E fun env => (f env).bind m) :=
  imp (pe_call F hr hg hm hk hb .nil hx ha hdb he hpl) fun σ H Q ⟨g, env, os, r, q⟩ => ⟨g, env, os, r, q.bind.mono fun ds _ q1 vs H1 s1 i1 => by
    show spD X.K xc m (vs ++ []) H1 Q _
    rw [List.append_nil]
    refine ⟨Tr, ds, i1, ?_⟩
    cases em : m ds with
    | ok d =>
      rw [em] at q1
      intro v H' s' i'
      obtain ⟨z, hz⟩ := hsc ds d em
      have e2 := Is.of_sc hz i'
      subst e2
      exact q1 _ H' (s1.trans s') (Is.sc hz)
    | err c =>
      rw [em] at q1
      intro H' s'
      exact ⟨c, rfl, q1 H' (r.ext.trans (s1.trans s'))⟩
    | bad => rw [em] at q1; exact q1⟩
theorem fF {m : List D → R (List D)} (F : FnOk X.prog X.w X.K X.mg X.base CX k fa fd ps (spF X.K xc m)) (hm : X.mg x = some (.ref fa)) (hk : PySem.W.keepIn X.K (.ref fa) = true) (hb : Binds X.K fd ps []) (hr : Room k X.A) (hx : Passes CX X (EX xc E))
    (ha : PA X (e :: es) (tAr X.K E f)) (hg : Gl X x := by rfl) (hdb : (x == ("__debug__" : Str)) = false := by decide) (he : starEach (e :: es) X.env = (false, eval e X.env) :: starEach es X.env := by rfl) (hpl : (backTo pos (starEach es X.env)).any (·.1) = false := by rfl) :
    PE X (.Call (.Name x p) (e :: es) [] pos) (tF X.K E fun env => (f env).bind m) :=
  imp (pe_call F hr hg hm hk hb .nil hx ha hdb he hpl) fun σ H Q ⟨g, env, os, r, q⟩ => ⟨g, env, os, r, q.bind.mono fun ds _ q1 vs H1 s1 i1 => by
    show spF X.K xc m (vs ++ []) H1 Q _
    rw [List.append_nil]
    refine ⟨g.P os, ds, i1, ?_⟩
    cases em : m ds with
    | ok d =>
      rw [em] at q1
      intro a ws H' s' hn hH i'
      exact q1 a ws H' (s1.trans s') (s1.free hn) hH (IsL.ext ⟨fun b o pb _ => by
        have z : g.P os b := pb.1.elim (fun z => z) fun z => (r.same s1).fresh z
        exact ⟨z.1, fun hm => (List.mem_cons.mp hm).elim pb.2 z.2⟩, fun _ _ _ z => z⟩ _ _ i')
    | err c =>
      rw [em] at q1
      intro H' s'
      exact ⟨c, rfl, q1 H' (r.ext.trans (s1.trans s'))⟩
    | bad => rw [em] at q1; exact q1⟩
end
end DL

namespace DL
open PySem PySem.Spec PyProof.Rows L2
/-! ### statements -/
def seqO (r : R Out) (k : DE → R Out) : R Out := r.bind fun o => match o with
  | .nx e => k e
  | o => .ok o
def forD (b : D → DE → R Out) : List D → DE → R Out
  | [], e => .ok (.nx e)
  | x :: xs, e => (b x e).bind fun o => match o with
    | .nx e' => forD b xs e'
    | .ct e' => forD b xs e'
    | .bk e' => .ok (.nx e')
    | .rt d => .ok (.rt d)
    | .rtF ys => .ok (.rtF ys)
    | .rtP ys => .ok (.rtP ys)
    | .rtQ ys => .ok (.rtQ ys)
    | .rtT ys => .ok (.rtT ys)
section
variable {X : Cx} {E : Str → Hp → Prop} {pos : Pos}
theorem sNil : PSs X [] (tS X.K E fun e => .ok (.nx e)) := impSs pss_nil fun De σ H ⟨g, env, os, r, m⟩ => m σ H os r (.refl H os)
theorem sCons {st : Stmt} {rest : List Stmt} {f k : DE → R Out} (h1 : PS X st (tS X.K E f)) (h2 : PSs X rest (tS X.K E k)) : PSs X (st :: rest) (tS X.K E fun e => seqO (f e) k) :=
  impSs (pss_cons h1 h2) fun De σ H ⟨g, env, os, r, m⟩ => ⟨g, env, os, r, (show Good E g.H₀ ((f env).bind _) _ from m).bind.mono fun o _ q => by
    cases o with
    | nx e' => exact fun σ' H' os' r' z => ⟨g, e', os', r', Good.mono (show Good E g.H₀ (k e') _ from q) fun o _ q => PostO.step z q⟩
    | bk e' => exact q
    | ct e' => exact q
    | rt d => exact q
    | rtF xs => exact q
    | rtP xs => exact q
    | rtQ xs => exact q
    | rtT xs => exact q⟩
theorem sOne {st : Stmt} {f : DE → R Out} (h1 : PS X st (tS X.K E f)) : PSs X [st] (tS X.K E f) := pss_one h1
theorem sExpr {e : Expr} {f : DE → R D} (he : PE X e (tB X.K E f)) (hs : swapsWith e none pos.line X.env = pure false := by rfl) : PS X (.Expr e pos) (tS X.K E fun env => (f env).bind fun _ => .ok (.nx env)) :=
  impS (ps_expr he hs) fun De σ H ⟨g, env, os, r, m⟩ => ⟨g, env, os, r, m.bind.mono fun d _ q v H' s i => q σ H' os (r.same s) (.same s os)⟩
theorem P_nil {g : Gh} {os : List Addr} {K : PySem.W.Frag} {H : Hp} {d : D} {v : V} (h : Is K (g.P os) H d v) : Is K (g.P []) H d v := Is.ext ⟨fun _ _ p _ => ⟨p.1, by simp⟩, fun _ _ _ q => q⟩ _ _ h
theorem sRet {e : Expr} {f : DE → R D} (he : PE X e (tD X.K E f)) : PS X (.Return (some e) pos) (tS X.K E fun env => (f env).bind fun d => .ok (.rt d)) :=
  impS (ps_ret he) fun De σ H ⟨g, env, os, r, m⟩ => ⟨g, env, os, r, m.bind.mono fun d _ q v H' s i => q v H' (r.ext.trans s) (P_nil i)⟩
theorem sRetF {e : Expr} {f : DE → R (List D)} (he : PE X e (tF X.K E f)) : PS X (.Return (some e) pos) (tS X.K E fun env => (f env).bind fun d => .ok (.rtF d)) :=
  impS (ps_ret he) fun De σ H ⟨g, env, os, r, m⟩ => ⟨g, env, os, r, m.bind.mono fun xs _ q a vs H' s hn hH i =>
    q a vs H' (r.ext.trans s) (r.ext.free hn) hH (IsL.ext ⟨fun b o p _ => ⟨p.1, fun z => p.2 (by simp at z; simp [z])⟩, fun _ _ _ q => q⟩ _ _ i)⟩
def ownAt (i : Nat) (env : DE) : R (List D) := match env[i]? with
  | some (.own xs) => .ok xs
  | _ => .bad
theorem Good.own {H₀ : Hp} {i : Nat} {env : DE} {p : List D → Prop} (h : Good E H₀ (ownAt i env) p) : ∃ xs, env[i]? = some (.own xs) ∧ p xs := by
  unfold ownAt at h
  split at h
  · rename_i xs e
    exact ⟨xs, e, h⟩
  · exact h.elim
theorem sIf {c : Expr} {a b : List Stmt} {fc : DE → R Bool} {fa fb : DE → R Out} (hc : PT X c (tT X.K E fc)) (ha : PSs X a (tS X.K E fa)) (hb : PSs X b (tS X.K E fb)) : PS X (.If c a b pos) (tS X.K E fun env => (fc env).bind fun t => if t = true then fa env else fb env) :=
  impS (ps_if hc ha hb) fun De σ H ⟨g, env, os, r, m⟩ => ⟨g, env, os, r, m.bind.mono fun t _ q H' s => by
    cases t with
    | true =>
      rw [if_pos rfl]
      exact ⟨g, env, os, r.same s, Good.mono (show Good E g.H₀ (fa env) _ from q) fun o _ q2 => PostO.step (.same s os) q2⟩
    | false =>
      rw [if_neg Bool.false_ne_true]
      exact ⟨g, env, os, r.same s, Good.mono (show Good E g.H₀ (fb env) _ from q) fun o _ q2 => PostO.step (.same s os) q2⟩⟩
theorem sSet (i : Nat) {x : Str} {e : Expr} {f : DE → R D} {pos' : Pos} (he : PE X e (tD X.K E f)) (hN : X.N.Nodup) (hi : X.N[i]? = some x := by rfl) (hx : Loc X.env.scope x := by first | exact Or.inl rfl | exact Or.inr rfl) (hs : swapsWith e (some (.Name x pos')) pos.line X.env = pure false := by rfl)
    (hf : X.fn x = true ∨ X.env.scope.names.lookup x = some .local := by first | exact .inl rfl | exact .inr rfl | assumption) : PS X (.Assign [.Name x pos'] e pos) (tS X.K E fun env => (f env).bind fun d => .ok (.nx (env.set i (.val d)))) :=
  impS (ps_set hN hi hx he hs hf) fun De σ H ⟨g, env, os, r, m⟩ => ⟨g, env, os, r, m.bind.mono fun d _ q v H' s h => q _ H' os ((r.same s).set i h) (.same s os)⟩
theorem Stp.new {H H' : Hp} {os : List Addr} {a : Addr} (s : Same H H') (hn : H a = none) : Stp H os H' (a :: os) :=
  ⟨fun b hb => (List.mem_cons.mp hb).elim (fun z => .inr (by rw [z]; exact hn)) .inl, fun _ h => s.free h, fun _ _ _ h => s _ _ h⟩
def frz (i : Nat) (env : DE) : DE := match env[i]? with
  | some (.own xs) => env.set i (.val (.lst xs))
  | _ => env
/-! ### loops -/
def Yl (K : PySem.W.Frag) (P : Addr → Prop) (J : It) (H : Hp) (xs : List D) : Prop :=
  ∀ (i : Nat) (H' : Hp) (P' : Addr → Prop), Ext P P' H H' → (∀ d, xs[i]? = some d → J.go i H' ∧ ∀ x H'', J.yld i H' x H'' → Same H' H'' ∧ Is K (fun a => P' a ∨ H' a = none) H'' d x) ∧ (xs.length = i → J.stop i H')
def tI (K : PySem.W.Frag) (E : Str → Hp → Prop) (f : DE → R (List D)) : TI := fun σ H Rr => ∃ g env os, Rel K g env σ H os ∧ Good E g.H₀ (f env) fun xs => ∀ J H1, Same H H1 → Yl K (g.P os) J H1 xs → Rr J H1
theorem impI {tg e : Expr} {t t' : TI} (h : PI X tg e t) (w : ∀ σ H Q, t' σ H Q → t σ H Q) : PI X tg e t' := fun pins s σ H Q I q => h pins s σ H Q I (w σ H Q q)
def Yls (K : PySem.W.Frag) (P : Addr → Prop) (J : It) (H : Hp) (xs : List D) : Prop :=
  ∀ (i : Nat) (H' : Hp) (P' : Addr → Prop), Same H H' → Ext P P' H H' → (∀ d, xs[i]? = some d → J.go i H' ∧ ∀ x H'', J.yld i H' x H'' → Same H' H'' ∧ Is K (fun a => P' a ∨ H' a = none) H'' d x) ∧ (xs.length = i → J.stop i H')
def tIS (K : PySem.W.Frag) (E : Str → Hp → Prop) (f : DE → R (List D)) : TI := fun σ H Rr => ∃ g env os, Rel K g env σ H os ∧ Good E g.H₀ (f env) fun xs => ∀ J H1, Same H H1 → Yls K (g.P os) J H1 xs → Rr J H1
theorem toIS {tg e : Expr} {f : DE → R (List D)} (h : PI X tg e (tI X.K E f)) : PI X tg e (tIS X.K E f) := impI h fun σ H Q ⟨g, env, os, r, m⟩ => ⟨g, env, os, r, m.mono fun xs _ q J H1 s1 yl => q J H1 s1 fun i H' P' _ ex => yl i H' P' ex⟩
theorem iL {tg e : Expr} {f : DE → R D} (he : PE X e (tD X.K E f)) : PI X tg e (tI X.K E fun env => (f env).bind asL) :=
  impI (pi_list he) fun σ H Q ⟨g, env, os, r, m⟩ => ⟨g, env, os, r, m.bind.mono fun d _ q v H' s i => by
    cases d with
    | lst xs =>
      obtain ⟨a, vs, rfl, h1, h2⟩ := i
      refine ⟨a, rfl, ⟨vs, h1.sq⟩, q _ H' s fun j H2 P' ex => ⟨fun d hd => ?_, fun hj => ?_⟩⟩
      · obtain ⟨x, hx, hi⟩ := (IsL.ext ex _ _ h2).get hd
        refine ⟨⟨vs, x, (h1.ext ex).sq, hx⟩, fun y H3 hy => ?_⟩
        obtain ⟨rfl, hy⟩ := hy
        have e2 := hy vs (h1.ext ex).sq
        rw [hx] at e2
        cases e2
        exact ⟨Same.refl _, Is.ext ⟨fun _ _ p _ => .inl p, fun _ _ _ z => z⟩ _ _ hi⟩
      · exact ⟨vs, (h1.ext ex).sq, by rw [IsL.length h2]; exact Nat.le_of_eq hj⟩
    | non => exact q.elim
    | bl _ => exact q.elim
    | int _ => exact q.elim
    | str _ => exact q.elim
    | exc _ => exact q.elim
    | fn _ => exact q.elim
    | tup _ => exact q.elim⟩
/-! targets -/
def tG (K : PySem.W.Frag) (E : Str → Hp → Prop) (b : D → DE → R DE) : TG := fun v σ H Q => ∃ g env os d, Rel K g env σ H os ∧ Is K (g.P os) H d v ∧ Good E g.H₀ (b d env) fun e' => ∀ σ', Rel K g e' σ' H os → Q σ' H
def tGs (K : PySem.W.Frag) (E : Str → Hp → Prop) (b : List D → DE → R DE) : TGs := fun vs σ H Q => ∃ g env os ds, Rel K g env σ H os ∧ IsL K (g.P os) H ds vs ∧ Good E g.H₀ (b ds env) fun e' => ∀ σ', Rel K g e' σ' H os → Q σ' H
theorem impG {e : Expr} {t t' : TG} (h : PG X e t) (w : ∀ v σ H Q, t' v σ H Q → t v σ H Q) : PG X e t' := fun pins s σ H v u Q I r q => h pins s σ H v u Q I r (w v σ H Q q)
theorem impGs {e : List Expr} {t t' : TGs} (h : PGs X e t) (w : ∀ v σ H Q, t' v σ H Q → t v σ H Q) : PGs X e t' := fun pins s σ H v u Q I r q => h pins s σ H v u Q I r (w v σ H Q q)
theorem gN (i : Nat) {x : Str} (hN : X.N.Nodup) (hi : X.N[i]? = some x := by rfl) (hx : Loc X.env.scope x := by first | exact Or.inl rfl | exact Or.inr rfl) (hf : X.fn x = true ∨ X.env.scope.names.lookup x = some .local := by first | exact .inl rfl | exact .inr rfl | assumption) :
    PG X (.Name x pos) (tG X.K E fun d env => .ok (env.set i (.val d))) := impG (pg_name hN hi hx hf) fun v σ H Q ⟨g, env, os, d, r, h, m⟩ => m _ (r.set i h)
theorem gsNil : PGs X [] (tGs X.K E fun ds env => match ds with
    | [] => .ok env
    | _ => .bad) := impGs pgs_nil fun vs σ H Q ⟨g, env, os, ds, r, h, m⟩ => by
  cases ds with
  | nil => exact ⟨h, m σ r⟩
  | cons _ _ => exact m.elim
theorem gsCons {e : Expr} {es : List Expr} {b : D → DE → R DE} {k : List D → DE → R DE} (h1 : PG X e (tG X.K E b)) (h2 : PGs X es (tGs X.K E k)) (hs : (assignEach (e :: es) X.env).map (·.2) = assign e X.env :: (assignEach es X.env).map (·.2) := by rfl) :
    PGs X (e :: es) (tGs X.K E fun ds env => match ds with
      | d :: r => (b d env).bind fun e' => k r e'
      | _ => .bad) := impGs (pgs_cons h1 h2 hs) fun vs σ H Q ⟨g, env, os, ds, r, h, m⟩ => by
  cases ds with
  | nil => exact m.elim
  | cons d rest =>
    obtain ⟨v, vr, rfl, p, q⟩ := h
    have m' : Good E g.H₀ ((b d env).bind fun e' => k rest e') _ := m
    exact ⟨v, vr, rfl, g, env, os, d, r, p, m'.bind.mono fun e' _ m2 σ' r' => ⟨g, e', os, rest, r', q, m2⟩⟩
theorem gT {es : List Expr} {kk : Nat} {b : List D → DE → R DE} {n : Nat} (hc : X.calm = true) (h : PGs X es (tGs X.K E b)) (hn : (assignEach es X.env).length = n := by rfl) (hst : (assignEach es X.env).findIdx? (·.1) = none := by rfl) :
    PG X (.Tuple es kk pos) (tG X.K E fun d env => match d with
      | .tup ds => if ds.length = n then b ds env else .bad
      | _ => .bad) := impG (pg_tup hc h hn hst) fun v σ H Q ⟨g, env, os, d, r, h, m⟩ => by
  cases d with
  | tup ds =>
    obtain ⟨a, vs, rfl, h1, h2⟩ := h
    have m' : Good E g.H₀ (if ds.length = n then b ds env else .bad) _ := m
    split at m'
    · rename_i c
      exact ⟨a, vs, rfl, h1.sq, by rw [IsL.length h2]; exact c, g, env, os, ds, r, h2, m'⟩
    · exact m'.elim
  | non => exact m.elim
  | bl _ => exact m.elim
  | int _ => exact m.elim
  | str _ => exact m.elim
  | lst _ => exact m.elim
  | exc _ => exact m.elim
  | fn _ => exact m.elim
theorem sFor {tg iter : Expr} {body : List Stmt} {f : DE → R (List D)} {b : D → DE → R DE} {k : DE → R Out} (hp : PassesOwn (model X.prog X.w) X.A X.env X.xe) (hc : X.calm = true) (hi : PI X tg iter (tI X.K E f)) (hg : PG X tg (tG X.K E b)) (hb : PSs X body (tS X.K E k))
    (hs : ∀ x, foldedSetIterable iter X.env x = pure x := by intro _; rfl) : PS X (.For tg iter body [] pos) (tS X.K E fun env => (f env).bind fun xs => forD (fun d e => (b d e).bind k) xs env) :=
  impS (ps_for hp hc hi hg hb hs) fun De σ H ⟨g, env, os, r, m⟩ => ⟨g, env, os, r, m.bind.mono fun xs _ m1 J H1 s1 yl => by
    refine ⟨fun i n σ' H' => n = xs.length - i ∧ i ≤ xs.length ∧ ∃ env' os', Rel X.K g env' σ' H' os' ∧ Stp H1 os H' os' ∧ Good E g.H₀ (forD (fun d e => (b d e).bind k) (xs.drop i) env') (PostO X.K g H' os' De),
      ⟨xs.length, by simp, Nat.zero_le _, env, os, r.same s1, .refl _ _, by rw [List.drop_zero]; exact m1.mono fun o _ q => PostO.step (.same s1 os) q⟩, ?_⟩
    rintro i n σ' H' ⟨rfl, hi, env', os', r', st, m2⟩
    obtain ⟨y1, y2⟩ := yl i H' (g.P os') st.ext
    by_cases hlt : i < xs.length
    · have hx : xs[i]? = some xs[i] := List.getElem?_eq_getElem hlt
      obtain ⟨go, y3⟩ := y1 _ hx
      rw [List.drop_eq_getElem_cons hlt] at m2
      refine .inr ⟨go, fun σ2 H2 => ∃ env2 os2, Rel X.K g env2 σ2 H2 os2 ∧ Stp H1 os H2 os2 ∧ Good E g.H₀ (forD (fun d e => (b d e).bind k) (xs.drop (i + 1)) env2) (PostO X.K g H2 os2 De), fun σ2 H2 ⟨e2, o2, r2, t2, g2⟩ => ⟨xs.length - (i + 1), by omega, rfl, hlt, e2, o2, r2, t2, g2⟩, fun x H2 hy => ?_⟩
      obtain ⟨s2, hx2⟩ := y3 x H2 hy
      have r2 := r'.same s2
      have ix : Is X.K (g.P os') H2 xs[i] x := Is.ext ⟨fun a o p _ => p.elim (fun z => z) fun z => r'.fresh z, fun _ _ _ z => z⟩ _ _ hx2
      have m3 : Good E g.H₀ (((b xs[i] env').bind k).bind _) _ := m2
      refine ⟨g, env', os', xs[i], r2, ix, m3.bind.bind.mono fun e3 _ m4 σ3 r3 => ⟨g, e3, os', r3, Good.mono m4 fun o _ q => ?_⟩⟩
      have st2 := st.trans (Stp.same s2 os')
      cases o with
      | nx e4 => exact fun σ4 H4 os4 r4 z => ⟨e4, os4, r4, st2.trans z, Good.mono (show Good E g.H₀ (forD _ _ e4) _ from q) fun o _ q => PostO.step ((Stp.same s2 os').trans z) q⟩
      | ct e4 => exact fun σ4 H4 os4 r4 z => ⟨e4, os4, r4, st2.trans z, Good.mono (show Good E g.H₀ (forD _ _ e4) _ from q) fun o _ q => PostO.step ((Stp.same s2 os').trans z) q⟩
      | bk e4 => exact fun σ4 H4 os4 r4 z => (show PostO X.K g H' os' De (.nx e4) from q) σ4 H4 os4 r4 ((Stp.same s2 os').trans z)
      | rt d => exact q
      | rtF ys => exact q
      | rtP ys => exact q
      | rtQ ys => exact q
      | rtT ys => exact q
    · have e : i = xs.length := by omega
      subst e
      rw [List.drop_length] at m2
      exact .inl ⟨y2 rfl, (show PostO X.K g H' os' De (.nx env') from m2) σ' H' os' r' (.refl _ _)⟩⟩
end

/-! ### a def -/
def initE (n : Nat) (ds : List D) : DE := ds.map .val ++ List.replicate (n - ds.length) .no
theorem rel_start {K : PySem.W.Frag} {N : List Str} {P : Addr → Prop} {H : Hp} {ds : List D} {vs : List V} (h : IsL K P H ds vs) : Rel K ⟨P, H⟩ (initE N.length ds) (L2.start N vs) H [] := by
  have hl := h.length
  refine ⟨by simp [initE, L2.start, hl], Same.refl H, fun i d e => ?_, fun i xs e => ?_, fun i j xs ys a e => ?_, (fun a ha => nomatch ha), fun i v e => ?_, Deep.none fun i v e => ?_⟩
  · unfold initE at e
    by_cases hi : i < ds.length
    · rw [List.getElem?_append_left (by simpa using hi), List.getElem?_map, List.getElem?_eq_getElem hi] at e
      have e' : Sl.val ds[i] = Sl.val d := Option.some.inj e
      cases e'
      obtain ⟨v, h1, h2⟩ := h.get (List.getElem?_eq_getElem hi)
      refine ⟨v, ?_, Is.ext ⟨fun a o p _ => ⟨.inl p, by simp⟩, fun _ _ _ z => z⟩ _ _ h2⟩
      unfold L2.start
      rw [List.getElem?_append_left (by simp; omega), List.getElem?_map, h1] <;> rfl
    · rw [List.getElem?_append_right (by simp; omega)] at e
      have := List.getElem?_replicate (n := N.length - ds.length) (a := Sl.no) (i := i - (ds.map Sl.val).length)
      rw [this] at e
      split at e <;> cases e
  · exfalso
    unfold initE at e
    by_cases hi : i < ds.length
    · rw [List.getElem?_append_left (by simpa using hi), List.getElem?_map, List.getElem?_eq_getElem hi] at e
      cases e
    · rw [List.getElem?_append_right (by simp; omega)] at e
      have := List.getElem?_replicate (n := N.length - ds.length) (a := Sl.no) (i := i - (ds.map Sl.val).length)
      rw [this] at e
      split at e <;> cases e
  · exfalso
    unfold initE at e
    by_cases hi : i < ds.length
    · rw [List.getElem?_append_left (by simpa using hi), List.getElem?_map, List.getElem?_eq_getElem hi] at e
      cases e
    · rw [List.getElem?_append_right (by simp; omega)] at e
      have := List.getElem?_replicate (n := N.length - ds.length) (a := Sl.no) (i := i - (ds.map Sl.val).length)
      rw [this] at e
      split at e <;> cases e
  · exfalso
    unfold initE at e
    by_cases hi : i < ds.length
    · rw [List.getElem?_append_left (by simpa using hi), List.getElem?_map, List.getElem?_eq_getElem hi] at e
      cases e
    · rw [List.getElem?_append_right (by simp; omega)] at e
      have := List.getElem?_replicate (n := N.length - ds.length) (a := Sl.no) (i := i - (ds.map Sl.val).length)
      rw [this] at e
      split at e <;> cases e
  · exfalso
    unfold initE at e
    by_cases hi : i < ds.length
    · rw [List.getElem?_append_left (by simpa using hi), List.getElem?_map, List.getElem?_eq_getElem hi] at e
      cases e
    · rw [List.getElem?_append_right (by simp; omega)] at e
      have := List.getElem?_replicate (n := N.length - ds.length) (a := Sl.no) (i := i - (ds.map Sl.val).length)
      rw [this] at e
      split at e <;> cases e
def valO : Out → R D
  | .rt d => .ok d
  | .rtF xs => .ok (.lst xs)
  | .nx _ => .ok .non
  | _ => .bad
def lstO : Out → R (List D)
  | .rtF xs => .ok xs
  | _ => .bad
abbrev EN : Str → Hp → Prop := fun _ _ => False
section
variable {P : Program} {w : World} {K : PySem.W.Frag} {mg : Str → Option Value} {base : Heap}
theorem Is.P0 {Q : Addr → Prop} {H H' : Hp} {d : D} {v : V} (h : Is K ((⟨Q, H⟩ : Gh).P []) H' d v) : Is K (fun a => Q a ∨ H a = none) H' d v := Is.ext ⟨fun _ _ p _ => p.1, fun _ _ _ z => z⟩ _ _ h
theorem defD {x qual : Str} {st : Stmt} {f : Addr} {fd : FuncData} {N ps : List Str} {k : Nat} {xc : Str → Value} {m : List D → R D} {b : DE → R Out} (F : Fun K x qual st f fd) (S : FnScope N ps (defScope st))
    (hm : ∀ ds d, m ds = .ok d → ds.length = ps.length ∧ (b (initE N.length ds)).bind valO = .ok d) (hne : ∀ ds c, m ds ≠ .err c)
    (hb : ∀ (cdv : Value) (A : Around) (outer : List Env) (s : Shared) (H : Hp) (E : XK), Room k (A.deeper (envOfC qual (defScope st) s.heap.objs.size f cdv)) → PSs (cxOf CX0 P w K mg base N qual (defScope st) f cdv A outer s H E).nox (defBody st) (tS K EN b)) :
    FnOk P w K mg base CX0 (k + 1) f fd ps (spD K xc m) := by
  refine F.ok S (fun vs H Q E h => ?_) (fun cdv A outer s H vs Q E hr h => ?_)
  · obtain ⟨Pa, ds, i, h⟩ := h
    cases e : m ds with
    | ok d => rw [i.length]; exact (hm ds d e).1
    | err c => exact (hne ds c e).elim
    | bad => rw [e] at h; exact h.elim
  · obtain ⟨Pa, ds, i, h⟩ := h
    refine ⟨_, hb cdv A outer s H E hr, ⟨⟨Pa, H⟩, initE N.length ds, [], rel_start i, ?_⟩⟩
    cases e : m ds with
    | err c => exact (hne ds c e).elim
    | bad => rw [e] at h; exact h.elim
    | ok d =>
      rw [e] at h
      obtain ⟨_, q⟩ := hm ds d e
      cases eb : b (initE N.length ds) with
      | bad => rw [eb] at q; cases q
      | err c => rw [eb] at q; cases q
      | ok o =>
        rw [eb] at q
        cases o with
        | rt d' =>
          cases q
          exact fun v H' s' i' => h v H' s' i'.P0
        | rtF xs =>
          cases q
          intro a vs' H' s' hn hH i'
          exact h _ H' s' ⟨a, vs', rfl, .inl ⟨.inr hn, .inl hH⟩, IsL.ext ⟨fun b o p _ => p.1, fun _ _ _ z => z⟩ _ _ i'⟩
        | nx e' =>
          cases q
          exact fun σ' H' os' r' _ => h _ H' r'.ext rfl
        | rtP _ => cases q
        | rtQ _ => cases q
        | rtT _ => cases q
        | bk _ => cases q
        | ct _ => cases q
theorem defF {x qual : Str} {st : Stmt} {f : Addr} {fd : FuncData} {N ps : List Str} {k : Nat} {xc : Str → Value} {m : List D → R (List D)} {b : DE → R Out} (F : Fun K x qual st f fd) (S : FnScope N ps (defScope st))
    (hm : ∀ ds d, m ds = .ok d → ds.length = ps.length ∧ (b (initE N.length ds)).bind lstO = .ok d) (hne : ∀ ds c, m ds ≠ .err c)
    (hb : ∀ (cdv : Value) (A : Around) (outer : List Env) (s : Shared) (H : Hp) (E : XK), Room k (A.deeper (envOfC qual (defScope st) s.heap.objs.size f cdv)) → PSs (cxOf CX0 P w K mg base N qual (defScope st) f cdv A outer s H E).nox (defBody st) (tS K EN b)) :
    FnOk P w K mg base CX0 (k + 1) f fd ps (spF K xc m) := by
  refine F.ok S (fun vs H Q E h => ?_) (fun cdv A outer s H vs Q E hr h => ?_)
  · obtain ⟨Pa, ds, i, h⟩ := h
    cases e : m ds with
    | ok d => rw [i.length]; exact (hm ds d e).1
    | err c => exact (hne ds c e).elim
    | bad => rw [e] at h; exact h.elim
  · obtain ⟨Pa, ds, i, h⟩ := h
    refine ⟨_, hb cdv A outer s H E hr, ⟨⟨Pa, H⟩, initE N.length ds, [], rel_start i, ?_⟩⟩
    cases e : m ds with
    | err c => exact (hne ds c e).elim
    | bad => rw [e] at h; exact h.elim
    | ok d =>
      rw [e] at h
      obtain ⟨_, q⟩ := hm ds d e
      cases eb : b (initE N.length ds) with
      | bad => rw [eb] at q; cases q
      | err c => rw [eb] at q; cases q
      | ok o =>
        rw [eb] at q
        cases o with
        | rt d' => cases q
        | rtF xs =>
          cases q
          intro a vs' H' s' hn hH i'
          exact h a vs' H' s' hn hH (IsL.ext ⟨fun b o p _ => ⟨p.1, fun z => p.2 (by simp [z])⟩, fun _ _ _ z => z⟩ _ _ i')
        | nx e' => cases q
        | rtP _ => cases q
        | rtQ _ => cases q
        | rtT _ => cases q
        | bk _ => cases q
        | ct _ => cases q
end
end DL

namespace DL
open PySem PySem.Spec PyProof.Rows L2
/-! ### comprehensions -/
def clL (cells : List (Str × Addr)) : List (Str × NameKind) → List (Str × Addr) → List (Str × Addr)
  | [], acc => acc
  | (n, k) :: r, acc => if (k == NameKind.free) = true then clL cells r ((n, (cells.lookup n).getD 0) :: acc) else clL cells r acc
theorem closureFor_eq {scope : Scope} {env : Env} (h : ∀ y ∈ scope.names, y.2 = .free → ∃ c, env.cells.lookup y.1 = some c) : closureFor scope env = pure (clL env.cells scope.names []) := by
  have gen : ∀ (l : List (Str × NameKind)) (acc : List (Str × Addr)), (∀ y ∈ l, y.2 = .free → ∃ c, env.cells.lookup y.1 = some c) →
      (forIn l acc fun (x : Str × NameKind) (r : List (Str × Addr)) => (if (x.2 == NameKind.free) = true then (do let a ← cellOf env x.1; pure (ForInStep.yield ((x.1, a) :: r))) else pure (ForInStep.yield r) : Sem (ForInStep (List (Str × Addr))))) = pure (clL env.cells l acc) := by
    intro l
    induction l with
    | nil => intro acc _; rfl
    | cons y r ih =>
      intro acc hy
      obtain ⟨n, k⟩ := y
      rw [List.forIn_cons]
      have hr : ∀ y ∈ r, y.2 = .free → ∃ c, env.cells.lookup y.1 = some c := fun y h => hy y (List.mem_cons_of_mem _ h)
      by_cases hk : (k == NameKind.free) = true
      · obtain ⟨c, hc⟩ := hy (n, k) List.mem_cons_self (by simpa using hk)
        have hc' : env.cells.lookup n = some c := hc
        simp only [hk, if_true, clL, cellOf, hc', Option.getD_some]
        exact ih _ hr
      · simp only [hk, clL]
        exact ih _ hr
  show ((forIn scope.names ([] : List (Str × Addr)) fun (x : Str × NameKind) (r : List (Str × Addr)) => (if (x.2 == NameKind.free) = true then (do let a ← cellOf env x.1; pure (ForInStep.yield ((x.1, a) :: r))) else pure (ForInStep.yield r) : Sem (ForInStep (List (Str × Addr))))) >>= fun s => pure s) = _
  rw [gen scope.names [] h]
  rfl
theorem clL_lookup {cells : List (Str × Addr)} {x : Str} : ∀ (l : List (Str × NameKind)) (acc : List (Str × Addr)), (∀ y ∈ l, y.2 = .free → ∃ c, cells.lookup y.1 = some c) → (∀ c, acc.lookup x = some c → cells.lookup x = some c) →
    ∀ c, (clL cells l acc).lookup x = some c → cells.lookup x = some c
  | [], acc, _, h, c, e => h c e
  | (n, k) :: r, acc, hy, h, c, e => by
    unfold clL at e
    have hr : ∀ y ∈ r, y.2 = .free → ∃ c, cells.lookup y.1 = some c := fun y h => hy y (List.mem_cons_of_mem _ h)
    split at e
    · rename_i hk
      refine clL_lookup r _ hr (fun c' e' => ?_) c e
      rw [List.lookup_cons] at e'
      obtain ⟨c0, hc0⟩ := hy (n, k) List.mem_cons_self (by simpa using hk)
      have hc0' : cells.lookup n = some c0 := hc0
      cases hx : x == n with
      | true =>
        rw [hx] at e'
        have ex : x = n := by simpa using hx
        rw [hc0'] at e'
        cases e'
        rw [ex]; exact hc0'
      | false =>
        rw [hx] at e'
        exact h c' e'
    · exact clL_lookup r _ hr h c e
theorem clL_has {cells : List (Str × Addr)} {x : Str} : ∀ (l : List (Str × NameKind)) (acc : List (Str × Addr)), ((∃ c, acc.lookup x = some c) ∨ (x, NameKind.free) ∈ l) → ∃ c, (clL cells l acc).lookup x = some c
  | [], acc, h => h.elim (fun z => z) fun z => nomatch z
  | (n, k) :: r, acc, h => by
    unfold clL
    split
    · rename_i hk
      refine clL_has r _ ?_
      by_cases hx : x = n
      · exact .inl ⟨_, by rw [List.lookup_cons, beq_iff_eq.mpr hx]⟩
      · rcases h with ⟨c, h⟩ | h
        · refine .inl ⟨c, ?_⟩
          rw [List.lookup_cons, beq_eq_false_iff_ne.mpr hx]; exact h
        · rcases List.mem_cons.mp h with z | z
          · cases z; exact absurd rfl hx
          · exact .inr z
    · rename_i hk
      refine clL_has r _ ?_
      rcases h with h | h
      · exact .inl h
      · rcases List.mem_cons.mp h with z | z
        · cases z; exact absurd (by simp) hk
        · exact .inr z
def cpCx (X : Cx) (scope : Scope) (N : List Str) (s : Shared) (H : Hp) (fp : List Addr) (C : Addr) (pl : List (Addr × Obj)) : Cx where
  prog := X.prog
  w := X.w
  K := X.K
  mg := X.mg
  base := X.base
  A := X.A
  N := N
  s₀ := s
  H₀ := H
  env := compEnvC scope (clL X.env.cells scope.names []) C X.env
  outer := X.stack
  stack := X.stack
  ex := fp
  fn := fun _ => false
  calm := X.calm
  pn := pl
  xe := fun _ _ => False
structure CpScope (X : Cx) (scope : Scope) (N : List Str) (nt : Nat) (caps : List Nat) : Prop where
  kind : scope.kind = .function
  cell : ∀ y ∈ scope.names, y.2 ≠ .cell
  names : ∀ y ∈ scope.names, y.2 = .local → scope.names.lookup y.1 = some .local
  free : ∀ y ∈ scope.names, y.2 = .free → X.env.kindOf y.1 = some .cell ∨ X.env.kindOf y.1 = some .free
  len : N.length = nt + caps.length
  nd : N.Nodup
  caps : ∀ (j i : Nat), caps[j]? = some i → ∃ x, N[nt + j]? = some x ∧ X.N[i]? = some x ∧ scope.names.lookup x = some .free ∧ Vis X.env.scope x
theorem relabel_names_kind {scope : Scope} {env : Env} {x : Str} {k : NameKind} (h : (relabel scope env).names.lookup x = some k) : ∃ k', scope.names.lookup x = some k' ∧ (k = k' ∨ (k' = .free ∧ k = .cell)) := by
  unfold relabel at h
  dsimp only at h
  generalize scope.names = l at h
  induction l with
  | nil => cases h
  | cons y r ih =>
    obtain ⟨n, kk⟩ := y
    rw [List.map_cons] at h
    by_cases hc : (kk == NameKind.free && env.scope.kind == .function && env.kindOf n == some .cell) = true
    · simp only [hc, if_true] at h
      rw [List.lookup_cons] at h ⊢
      cases hx : x == n with
      | true =>
        rw [hx] at h
        cases h
        simp only [Bool.and_eq_true] at hc
        exact ⟨kk, rfl, .inr ⟨by simpa using hc.1.1, rfl⟩⟩
      | false =>
        rw [hx] at h
        exact ih h
    · simp only [hc, Bool.false_eq_true, if_false] at h
      rw [List.lookup_cons] at h ⊢
      cases hx : x == n with
      | true =>
        rw [hx] at h
        exact ⟨kk, rfl, .inl (Option.some.inj h).symm⟩
      | false =>
        rw [hx] at h
        exact ih h
theorem mem_of_lookup {α : Type} {l : List (Str × α)} {x : Str} {k : α} (h : l.lookup x = some k) : (x, k) ∈ l := by
  induction l with
  | nil => cases h
  | cons y r ih =>
    obtain ⟨n, kk⟩ := y
    rw [List.lookup_cons] at h
    cases hx : x == n with
    | true =>
      rw [hx] at h
      cases h
      have ex : x = n := by simpa using hx
      rw [ex]; exact List.mem_cons_self
    | false =>
      rw [hx] at h
      exact List.mem_cons_of_mem _ (ih h)
section
variable {X : Cx} {scope : Scope} {N : List Str} {nt : Nat} {caps : List Nat} {pins : List (Addr × Obj)} {σ : St} {H : Hp} {s : Shared}
theorem CpScope.cells (S : CpScope X scope N nt caps) (I : Inv X pins σ H s) : ∀ y ∈ scope.names, y.2 = .free → ∃ c, X.env.cells.lookup y.1 = some c := fun y hy hf => I.ok.has y.1 (S.free y hy hf)
theorem CpScope.lk (S : CpScope X scope N nt caps) (I : Inv X pins σ H s) {x : Str} {c : Addr} (h : (clL X.env.cells scope.names []).lookup x = some c) : X.env.cells.lookup x = some c :=
  clL_lookup scope.names [] (S.cells I) (fun c e => by cases e) c h
theorem CpScope.start (S : CpScope X scope N nt caps) (I : Inv X pins σ H s) {fp : List Addr} (hf : ∀ b ∈ fp, FpOk X pins H b) {C : Addr} {h' : Heap} {m : Str → Option Value} {t' : Nat} (hC : s.heap.objs.size ≤ C) (hn : h'.Ns C m) (k : ∀ b o, s.heap.get? b = some o → h'.get? b = some o)
    (hpin : ∀ b ∈ fp, ∃ o, s.heap.get? b = some o)
    {vs : List V} (hv : vs.length = caps.length) (hvs : ∀ (j i : Nat) (v : V), caps[j]? = some i → vs[j]? = some v → σ[i]? = some (some v)) (σ' : St) (hσ : σ' = List.replicate nt none ++ vs.map some) :
    Inv (cpCx X scope N s H fp C (X.pn ++ pins)) [] σ' H { s with heap := h', toks := t' } := by
  subst hσ
  have hH : ∀ b, s.heap.objs.size ≤ b → H b = none := fun b hb => I.hok.fresh hb
  have lk := fun {x c} (h : (clL X.env.cells scope.names []).lookup x = some c) => S.lk I h
  have ok : (cpCx X scope N s H fp C (X.pn ++ pins)).Ok := {
    mod := I.ok.mod
    kind := S.kind
    glob := I.ok.glob
    blt := I.ok.blt
    above := hC
    inj := fun x y c h1 h2 => I.ok.inj x y c (lk h1) (lk h2)
    has := fun x h => by
      have h' : (relabel scope X.env).names.lookup x = some .cell ∨ (relabel scope X.env).names.lookup x = some .free := h
      have hfree : scope.names.lookup x = some .free := by
        rcases h' with h' | h'
        · obtain ⟨k', e, q⟩ := relabel_names_kind h'
          rcases q with rfl | ⟨rfl, _⟩
          · exact absurd rfl (S.cell _ (mem_of_lookup e))
          · exact e
        · obtain ⟨k', e, q⟩ := relabel_names_kind h'
          rcases q with rfl | ⟨rfl, q⟩
          · exact e
          · exact e
      exact clL_has scope.names [] (.inr (mem_of_lookup hfree))
    cab := fun x c h => nomatch h
    hd := I.ok.hd
    frames := I.ok.frames
    stk := .inl rfl
    exf := fun b hb => by
      obtain ⟨o, e⟩ := hpin b hb
      exact ⟨fun z => absurd (Nat.lt_of_lt_of_le (Heap.lt_size e) (by rw [z]; exact hC)) (Nat.lt_irrefl _), fun x c h => (hf b hb).2.2.2.2.1 x c (lk h)⟩
    bs := I.bs
    bsz := Nat.le_trans I.ok.bsz I.sz
    noex := fun b o e hb => by
      rcases (hf b hb).2.2.2.1 with z | z
      · exact I.ok.noex b o e z
      · exact absurd (Nat.lt_of_lt_of_le (Heap.lt_size e) (Nat.le_trans I.ok.bsz z)) (Nat.lt_irrefl _)
    exfs := fun b hb z => by
      rcases List.mem_cons.mp (I.stkSub b z) with q | q
      · exact (hf b hb).2.1 q
      · exact (hf b hb).2.2.1 q
    funs := I.stack
    frf := I.stkFree }
  refine ⟨ok, rfl, I.bare, Un.kept k, ⟨m, hn, fun i x v e1 e2 e3 => ?_⟩, fun x c e => ?_, hH C hC, fun x c e => I.freeC x c (lk e), fun p hp => ?_, I.hok.kept k, ?_⟩
  · have hi : nt ≤ i := by
      refine Nat.le_of_not_lt fun z => ?_
      rw [List.getElem?_append_left (by simpa using z), List.getElem?_replicate] at e2
      split at e2 <;> cases e2
    rw [List.getElem?_append_right (by simpa using hi), List.getElem?_map] at e2
    have e2' : (vs[i - nt]?).map some = some (some v) := by simpa using e2
    cases q : vs[i - nt]? with
    | none => rw [q] at e2'; cases e2'
    | some v' =>
      rw [q] at e2'
      cases e2'
      have hj : i - nt < caps.length := by rw [← hv]; exact (List.getElem?_eq_some_iff.mp q).1
      obtain ⟨x', h1, h2, h3, h4⟩ := S.caps (i - nt) caps[i - nt] (List.getElem?_eq_getElem hj)
      have ex : x' = x := by
        have e1' : N[i]? = some x := e1
        rw [show nt + (i - nt) = i by omega, e1'] at h1
        exact (Option.some.inj h1).symm
      subst ex
      have hs := hvs (i - nt) _ v (List.getElem?_eq_getElem hj) q
      obtain ⟨m0, hn0, hl0⟩ := I.loc
      obtain ⟨u, r, l⟩ := hl0 _ x' v h2 hs h4
      refine ⟨u, r, ?_⟩
      have hkx := S.free _ (mem_of_lookup h3) rfl
      rcases l with ⟨k1, _⟩ | ⟨k1, c, hc, hcell⟩
      · have k1' : X.env.kindOf x' = some .local := k1
        rcases hkx with z | z
        · have z' : X.env.kindOf x' = some .cell := z
          rw [k1'] at z'; cases z'
        · have z' : X.env.kindOf x' = some .free := z
          rw [k1'] at z'; cases z'
      · obtain ⟨c', hc'⟩ := clL_has (cells := X.env.cells) (x := x') scope.names [] (.inr (mem_of_lookup h3))
        have := lk hc'
        rw [hc] at this
        cases this
        refine .inr ⟨?_, c, hc', let ⟨o, ho, hd⟩ := hcell; ⟨o, k _ o ho, hd⟩⟩
        rcases e3 with z | z | z
        · exfalso
          obtain ⟨k', e, q⟩ := relabel_names_kind (show (relabel scope X.env).names.lookup x' = some .local from z)
          rcases q with rfl | ⟨_, q⟩
          · rw [h3] at e; cases e
          · cases q
        · exact .inl z
        · exact .inr z
  · obtain ⟨v, z⟩ := I.cell x c (lk e)
    exact ⟨v, let ⟨o, ho, hd⟩ := z; ⟨o, k _ o ho, hd⟩⟩
  · have hp' : p ∈ X.pn ++ pins := by simpa [cpCx] using hp
    obtain ⟨e, n, ne, nf, d⟩ := I.pin p hp'
    refine ⟨k _ _ e, n, fun z => absurd (Nat.lt_of_lt_of_le (Heap.lt_size e) (by rw [z]; exact hC)) (Nat.lt_irrefl _), fun z => ?_, d⟩
    rcases List.mem_cons.mp (I.stkSub _ z) with q | q
    · exact ne q
    · exact nf q
  · show (List.replicate nt none ++ vs.map some).length = N.length
    rw [S.len]; simp [hv]
end

/-! the loop -/
section
variable {prog : Program} {w : World} {A : Around} {E : Value → Shared → Prop} {R : Result → Shared → Prop} {s : Shared}
theorem compLoop_go {elt target iter : Expr} {ifs : List Expr} {scope : Scope} {pos : Pos} {it acc : Value} {env : Env} (I : Nat → Shared → Prop)
    (turn : ∀ n s, I n s → wpAny (model prog w) A (pyNext it) (fun r s₁ => match r with
      | none => R (.ok .next) s₁
      | some v => wpAny (model prog w) A (letOwnedTupleGo target it v) (fun _ s₁' => wpAny (model prog w) A (assign target env v) (fun _ s₂ =>
          wpAny (model prog w) A (forIn ifs true fun c r => if r = true then do let ok ← isTrue c env (eval c env); pure (ForInStep.yield ok) else pure (ForInStep.yield r)) (fun ok s₃ =>
            if ok = true then wpAny (model prog w) A (eval elt env) (fun x s₄ =>
              wpAny (model prog w) A (call (.builtin "list.append") [acc, x]) (fun _ s₅ => ∃ m, m < n ∧ I m s₅) (fun _ _ => False) s₄) (fun _ _ => False) s₃
            else ∃ m, m < n ∧ I m s₃) (fun _ _ => False) s₂) (fun _ _ => False) s₁') (fun _ _ => False) s₁) (fun _ _ => False) s)
    (n : Nat) (h : I n s) :
    codeAny (model prog w) A (.compLoop (.ListComp elt [⟨target, iter, ifs, 0⟩] scope pos) 0 it acc env) R s := by
  refine codeAny_loop rfl I (fun n s hI => ?_) n h
  show wpAny _ A ((compTurn (.ListComp elt [⟨target, iter, ifs, 0⟩] scope pos) 0 it acc env).onRaise (fun x => do noteFrame x env; theTreesLotGoes x)) _ _ s
  refine wpAny_noted ?_
  rw [compTurn_list]
  refine wpAny_bind (wpAny_standAt (wpAny_bind (wpAny_mono (turn n s hI) (fun r s₁ h₁ => ?_) fun _ _ h' => h'.elim)))
  cases r with
  | none => exact wpAny_pure h₁
  | some v =>
    refine wpAny_bind (wpAny_mono h₁ (fun _ s₁' h₁' => ?_) fun _ _ h' => h'.elim)
    refine wpAny_bind (wpAny_mono h₁' (fun _ s₂ h₂ => wpAny_bind (wpAny_mono h₂ (fun ok s₃ h₃ => ?_) fun _ _ h' => h'.elim)) fun _ _ h' => h'.elim)
    cases ok with
    | false => exact wpAny_pure ⟨rfl, h₃⟩
    | true =>
      exact wpAny_bind (wpAny_bind (wpAny_mono h₃ (fun x s₄ h₄ => wpAny_bind (wpAny_mono h₄ (fun _ s₅ h₅ => wpAny_pure (wpAny_pure ⟨rfl, h₅⟩)) fun _ _ h' => h'.elim)) fun _ _ h' => h'.elim))
end
def PTs (X : Cx) (ifs : List Expr) (t : TT) : Prop :=
  ∀ (pins : List (Addr × Obj)) (s : Shared) (σ : St) (H : Hp) (Q : Bool → Hp → Prop), Inv X pins σ H s → t σ H Q →
    wpAny (model X.prog X.w) X.A (forIn ifs true fun c r => if r = true then do let ok ← isTrue c X.env (eval c X.env); pure (ForInStep.yield ok) else pure (ForInStep.yield r)) (TP X pins σ Q) X.xe s
theorem ts0 {X : Cx} {E : Str → Hp → Prop} : PTs X [] (tT X.K E fun _ => .ok true) := fun pins s σ H Q I ⟨g, env, os, r, m⟩ => wpAny_tests_nil ⟨H, I, m H (Same.refl H)⟩
theorem ts1 {X : Cx} {E : Str → Hp → Prop} {c : Expr} {f : DE → R Bool} (h : PT X c (tT X.K E f)) : PTs X [c] (tT X.K E f) := fun pins s σ H Q I q => wpAny_tests_one (h pins s σ H Q I q)
def compD (b : D → DE → R DE) (ct : DE → R Bool) (fe : DE → R D) (e₀ : DE) : List D → R (List D)
  | [] => .ok []
  | x :: xs => (b x e₀).bind fun e => (ct e).bind fun t => if t = true then (fe e).bind fun d => (compD b ct fe e₀ xs).bind fun ds => .ok (d :: ds) else compD b ct fe e₀ xs
def capt (env : DE) : List Nat → R (List D)
  | [] => .ok []
  | i :: r => (slV i env).bind fun d => (capt env r).bind fun ds => .ok (d :: ds)
theorem Good.capt {K : PySem.W.Frag} {E : Str → Hp → Prop} {H₀ H : Hp} {g : Gh} {σ : St} {os : List Addr} {env : DE} (r : Rel K g env σ H os) : ∀ {caps : List Nat} {p : List D → Prop}, Good E H₀ (capt env caps) p →
    ∃ ds vs, p ds ∧ vs.length = caps.length ∧ ds.length = caps.length ∧ IsL K (g.P os) H ds vs ∧ ∀ (j i : Nat) (v : V), caps[j]? = some i → vs[j]? = some v → σ[i]? = some (some v)
  | [], p, h => ⟨[], [], h, rfl, rfl, rfl, fun j i v e => by simp at e⟩
  | i :: rest, p, h => by
    have h1 := h.bind
    unfold slV at h1
    split at h1
    · rename_i d e
      have h2 : Good E H₀ ((DL.capt env rest).bind fun ds => .ok (d :: ds)) p := h1
      obtain ⟨ds, vs, q1, q2, q3, q4, q5⟩ := Good.capt r h2.bind
      obtain ⟨v, s1, s2⟩ := r.val i d e
      refine ⟨d :: ds, v :: vs, q1, by simp [q2], by simp [q3], .cons s2 q4, fun j i' v' e1 e2 => ?_⟩
      cases j with
      | zero => simp at e1 e2; subst e1 e2; exact s1
      | succ j => exact q5 j i' v' (by simpa using e1) (by simpa using e2)
    · exact h1.elim
def cpE (nt : Nat) (ds : List D) : DE := List.replicate nt Sl.no ++ ds.map .val
theorem cpE_get {nt : Nat} {ds : List D} {i : Nat} {d : D} (h : (cpE nt ds)[i]? = some (.val d)) : nt ≤ i ∧ ds[i - nt]? = some d := by
  unfold cpE at h
  have hi : nt ≤ i := by
    refine Nat.le_of_not_lt fun z => ?_
    rw [List.getElem?_append_left (by simpa using z), List.getElem?_replicate] at h
    split at h <;> cases h
  rw [List.getElem?_append_right (by simpa using hi), List.getElem?_map] at h
  refine ⟨hi, ?_⟩
  simp only [List.length_replicate] at h
  cases q : ds[i - nt]? with
  | none => rw [q] at h; cases h
  | some d' => rw [q] at h; cases h; rfl
theorem cpE_own {nt : Nat} {ds : List D} {i : Nat} {xs : List D} (h : (cpE nt ds)[i]? = some (.own xs)) : False := by
  unfold cpE at h
  by_cases hi : i < nt
  · rw [List.getElem?_append_left (by simpa using hi), List.getElem?_replicate] at h
    split at h <;> cases h
  · rw [List.getElem?_append_right (by simp; omega), List.getElem?_map] at h
    cases q : ds[i - (List.replicate nt Sl.no).length]? with
    | none => rw [q] at h; cases h
    | some d' => rw [q] at h; cases h
theorem cpE_deep {nt : Nat} {ds : List D} {i : Nat} {w : Ct} (h : (cpE nt ds)[i]? = some (.deep w)) : False := by
  unfold cpE at h
  by_cases hi : i < nt
  · rw [List.getElem?_append_left (by simpa using hi), List.getElem?_replicate] at h
    split at h <;> cases h
  · rw [List.getElem?_append_right (by simp; omega), List.getElem?_map] at h
    cases q : ds[i - (List.replicate nt Sl.no).length]? with
    | none => rw [q] at h; cases h
    | some d' => rw [q] at h; cases h
theorem cpE_raw {nt : Nat} {ds : List D} {i : Nat} {w : V} (h : (cpE nt ds)[i]? = some (.raw w)) : False := by
  unfold cpE at h
  by_cases hi : i < nt
  · rw [List.getElem?_append_left (by simpa using hi), List.getElem?_replicate] at h
    split at h <;> cases h
  · rw [List.getElem?_append_right (by simp; omega), List.getElem?_map] at h
    cases q : ds[i - (List.replicate nt Sl.no).length]? with
    | none => rw [q] at h; cases h
    | some d' => rw [q] at h; cases h
section
variable {X : Cx} {pins : List (Addr × Obj)} {σ : St} {H : Hp} {s : Shared} {h' : Heap}
theorem turnL {fp : List Addr} {t' : Nat} (I : Inv X pins σ H s) (hf : ∀ b ∈ fp, FpOk X pins H b) (k : ∀ b u, b ∉ fp → s.heap.get? b = some u → h'.get? b = some u) : Inv X pins σ H { s with heap := h', toks := t' } := by
  have nfp : ∀ b u, H b = some u → b ∉ fp := fun b u e z => by rw [(hf b z).1] at e; cases e
  refine I.step (g' := s.gens) (d' := s.drawn) (ch := fp) (fun b hb => ⟨(hf b hb).2.2.2.1, (hf b hb).2.1, (hf b hb).2.2.2.2.1, (hf b hb).2.2.2.2.2⟩) (fun b u _ _ hc e _ => k b u hc e) (fun b u _ _ hc e _ => ⟨u.slots, k b u hc e⟩)
    (fun b u _ e n => n) (fun b u hc e => ⟨u, k b u hc e⟩) (fun b xs e => e) (fun b u xs e => e) (fun b ps e => ⟨#[], by rw [e]; simp⟩) (fun m hm => ?_) (fun b u e => ?_) I.bare
  · obtain ⟨ob, es, ep, ho, r⟩ := hm
    exact ⟨ob, es, ep, k _ ob (fun z => (hf _ z).2.1 rfl) ho, r⟩
  · refine (I.hok b u e).stay (fun c v hc q => k c v ?_ q) (fun c q => q) fun c xs q => q
    rcases hc with z | z
    · rw [z]; exact nfp b u e
    · exact nfp c _ z
end
end DL

namespace DL
open PySem PySem.Spec PyProof.Rows L2
def R.ne {α : Type} : R α → R α
  | .ok a => .ok a
  | _ => .bad
theorem R.ne_ok {α : Type} (a : α) : (R.ok a).ne = .ok a := rfl
theorem R.bind_ok {α β : Type} {r : R α} {k : α → R β} {y : β} (h : r.bind k = .ok y) : ∃ a, r = .ok a ∧ k a = .ok y := by
  cases r with
  | ok a => exact ⟨a, rfl, h⟩
  | err c => cases h
  | bad => cases h
theorem good_ok {α : Type} {E : Str → Hp → Prop} {H₀ : Hp} {r : R α} {a : α} {p : α → Prop} (e : r = .ok a) (h : p a) : Good E H₀ r p := by rw [e]; exact h
section
variable {X : Cx} {E : Str → Hp → Prop} {pos : Pos} {scope : Scope} {N : List Str} {nt : Nat} {caps : List Nat}
theorem rel_cpE {K : PySem.W.Frag} {g : Gh} {e : DE} {σ : St} {H H' : Hp} {a : Addr} {ds : List D} {ts : DE} (r : Rel K g e σ H [a]) (he : e = ts ++ ds.map .val) (hl : ts.length = nt) (x : Ext (g.P [a]) (g.P [a]) H H') (s : Same g.H₀ H') (hn : ∃ o, H' a = some o) :
    Rel K g (cpE nt ds) σ H' [a] := by
  subst he
  refine ⟨by rw [r.len]; simp [cpE, hl], s, fun i d e => ?_, fun i xs e => (cpE_own e).elim, fun i j xs ys b e => (cpE_own e).elim, fun b hb => ?_, fun i w e => (cpE_raw e).elim, Deep.none fun i w e => cpE_deep e⟩
  · obtain ⟨h1, h2⟩ := cpE_get e
    obtain ⟨v, q1, q2⟩ := r.val i d (by rw [List.getElem?_append_right (by omega), hl, List.getElem?_map, h2]; rfl)
    exact ⟨v, q1, Is.ext x _ _ q2⟩
  · have e : b = a := by simpa using hb
    subst e
    exact ⟨(r.new b hb).1, hn⟩
def CEnd (X : Cx) (pins : List (Addr × Obj)) (σ : St) (g : Gh) (os : List Addr) (H : Hp) (use : Option (Value → Sem Unit)) (Qv : Value → Shared → Prop) (ys : List D) : Prop :=
  ∀ (Dd C : Addr) (acc : List V) (Hx : Hp) (s6 : Shared), Inv X pins σ Hx s6 → (∃ m, s6.heap.Ns C m) → FpOk X pins Hx C → Same H Hx → H Dd = none → Hx Dd = some (.lst acc) → IsL X.K (g.P (Dd :: os)) Hx ys acc →
    compPost (model X.prog X.w) X.A X.xe use Qv (.ref Dd) C (.ok .next) s6
theorem compRun {elt tg iter : Expr} {ifs : List Expr} {fi : DE → R (List D)} {b : D → DE → R DE} {ct : DE → R Bool} {fe : DE → R D} (S : CpScope X scope N nt caps) (hcalm : X.calm = true) (hi : PI X tg iter (tIS X.K E fi))
    (hb1 : ∀ ds d e, b d (cpE nt ds) = .ok e → ∃ ts, e = ts ++ ds.map .val ∧ ts.length = nt)
    (hg : ∀ s H fp C pl, PG (cpCx X scope N s H fp C pl) tg (tG X.K EN b)) (ht : ∀ s H fp C pl, PTs (cpCx X scope N s H fp C pl) ifs (tT X.K EN ct)) (he : ∀ s H fp C pl, PE (cpCx X scope N s H fp C pl) elt (tD X.K EN fe))
    (hs : ∀ x, foldedSetIterable iter X.env x = pure x) {use : Option (Value → Sem Unit)} {Qv : Value → Shared → Prop} {pins : List (Addr × Obj)} {s : Shared} {σ : St} {H : Hp} {env : DE} {os : List Addr} {g : Gh} (I : Inv X pins σ H s) (r : Rel X.K g env σ H os)
    (m : Good E g.H₀ ((fi env).bind fun xs => (capt env caps).bind fun ds => (compD b ct fe (cpE nt ds) xs).ne.bind fit) (CEnd X pins σ g os H use Qv)) {ps : Pos} :
    wpAny (model X.prog X.w) X.A (comprehension (.ListComp elt [⟨tg, iter, ifs, 0⟩] scope pos) scope X.env ps (newList []) false (eval iter X.env) use) Qv X.xe s := by
  refine wpAny_comprehension_free (use := use) rfl hs (closureFor_eq (S.cells I)) S.kind S.names ?_
  refine thn (hi pins s σ H (fun J H1 => ∃ xs, Same H H1 ∧ Yls X.K (g.P os) J H1 xs ∧ Good E g.H₀ ((capt env caps).bind fun ds => (compD b ct fe (cpE nt ds) xs).ne.bind fit) _) I ⟨g, env, os, r, m.bind.mono fun xs _ m1 J H1 s1 yl => ⟨xs, s1, yl, m1⟩⟩) fun v s1 h1 => thn h1 fun itv s2 h2 => ?_
  obtain ⟨it, fp, tn, J, H2, rfl, I2, T, st2, f2, xs, s12, yl, m1⟩ := h2
  have r2 := r.same s12
  obtain ⟨ds, vs, m2, hvl, hdl, hds, hvs⟩ := m1.bind.capt r2
  cases ec : compD b ct fe (cpE nt ds) xs with
  | bad => rw [ec] at m2; exact m2.elim
  | err c => rw [ec] at m2; exact m2.elim
  | ok ys =>
  rw [ec] at m2
  obtain ⟨hz, q⟩ := (show Good E g.H₀ (fit ys) _ from m2).fit
  refine wpAny_newObj_type (wpAny_newFunctionEnv S.cell (by intro y hy; simp at hy) (fun h₁ hns₁ hsb₁ => ?_) S.kind)
  dsimp only at hns₁ hsb₁ ⊢
  -- the list that grows stands at Dd, the block's names at C
  have hDn : H2 s2.heap.objs.size = none := I2.hok.fresh (Nat.le_refl _)
  have I3 : Inv X pins σ (upd H2 s2.heap.objs.size (.lst [])) { s2 with heap := s2.heap.push { cls := .type "list", dict := none, data := .seq ([] : List Value).toArray } } :=
    I2.laid (t' := s2.toks) (fun b u e => Heap.get?_push_of_some _ e) (Nat.le_refl _) ⟨Nat.zero_le _, [], 0, .nil, Heap.get?_push_size _ rfl⟩
  generalize hs3 : ({ s2 with heap := s2.heap.push { cls := .type "list", dict := none, data := .seq ([] : List Value).toArray } } : Shared) = s3 at I3
  have hh3 : s3.heap = s2.heap.push { cls := .type "list", dict := none, data := .seq ([] : List Value).toArray } := by rw [← hs3]
  rw [← hh3] at hns₁ hsb₁ ⊢
  generalize hDd : s2.heap.objs.size = Dd at *
  have k3 : ∀ b o, s3.heap.get? b = some o → h₁.get? b = some o := fun b o e => hsb₁.extBut b o (Nat.ne_of_lt (Heap.lt_size e)) (Heap.get?_push_of_some _ e)
  have hfpo : ∀ b ∈ fp, ∃ o, s2.heap.get? b = some o := fun b hb => let ⟨o, e, _⟩ := T.obj 0 _ st2 b hb; ⟨o, e⟩
  have hfp3 : ∀ b ∈ fp, ∃ o, s3.heap.get? b = some o := fun b hb => let ⟨o, e⟩ := hfpo b hb; ⟨o, by rw [hh3]; exact Heap.get?_push_of_some _ e⟩
  have hfD : ∀ b ∈ fp, b ≠ Dd := fun b hb => let ⟨o, e⟩ := hfpo b hb; by rw [← hDd]; exact Nat.ne_of_lt (Heap.lt_size e)
  have f3 : ∀ b ∈ fp, FpOk X pins (upd H2 Dd (.lst [])) b := fun b hb => ⟨by rw [upd_ne (hfD b hb)]; exact (f2 b hb).1, (f2 b hb).2⟩
  have sD : Same H2 (upd H2 Dd (.lst [])) := same_new hDn _
  have I4 := S.start (t' := s2.toks + ([] : List (Str × Value)).length) I3 f3 (Nat.le_refl _) hns₁ k3 hfp3 hvl (fun j i v e1 e2 => hvs j i v e1 e2) _ rfl
  generalize hX : cpCx X scope N s3 (upd H2 Dd (.lst [])) fp s3.heap.objs.size (X.pn ++ pins) = X' at I4
  have hg' := hg s3 (upd H2 Dd (.lst [])) fp s3.heap.objs.size (X.pn ++ pins)
  have ht' := ht s3 (upd H2 Dd (.lst [])) fp s3.heap.objs.size (X.pn ++ pins)
  have he' := he s3 (upd H2 Dd (.lst [])) fp s3.heap.objs.size (X.pn ++ pins)
  rw [hX] at hg' ht' he'
  have eK : X'.K = X.K := by rw [← hX]; rfl
  have eP : X'.prog = X.prog := by rw [← hX]; rfl
  have eW : X'.w = X.w := by rw [← hX]; rfl
  have eA : X'.A = X.A := by rw [← hX]; rfl
  have eE : X'.xe = fun _ _ => False := by rw [← hX]; rfl
  have eC : X'.calm = true := by rw [← hX]; exact hcalm
  have eL : X'.env.locals = s3.heap.objs.size := by rw [← hX]; rfl
  have eS : X'.s₀ = s3 := by rw [← hX]; rfl
  have eX : X'.ex = fp := by rw [← hX]; rfl
  have eF : X'.fs = frs X.stack := by rw [← hX]; rfl
  have eN : X'.pn = X.pn ++ pins := by rw [← hX]; rfl
  have eH : X'.H₀ = upd H2 Dd (.lst []) := by rw [← hX]; rfl
  have eV : X'.env = compEnvC scope (clL X.env.cells scope.names []) s3.heap.objs.size X.env := by rw [← hX]; rfl
  -- the iterator's objects through the block
  have fpX : ∀ {Hx : Hp}, (∀ b ∈ fp, Hx b = none) → ∀ b ∈ fp, FpOk X' [] Hx b := fun {Hx} hn b hb => by
    obtain ⟨_, c1, c2, c3, c4, c5⟩ := f3 b hb
    have q := I4.ok.exf b (by rw [eX]; exact hb)
    refine ⟨hn b hb, q.1, I4.ok.exfs b (by rw [eX]; exact hb), .inl (by rw [eX]; exact hb), q.2, fun p hp => ?_⟩
    rw [eN, List.append_nil] at hp
    exact c5 p hp
  let g' : Gh := ⟨g.P os, H2⟩
  have exP : ∀ {Hx : Hp}, Same H2 Hx → Ext (g.P os) (g'.P [Dd]) H2 Hx := fun sx => ⟨fun a o p e => ⟨.inl p, fun z => by
    have z' : a = Dd := by simpa using z
    rw [z', hDn] at e; cases e⟩, fun a o _ e => sx a o e⟩
  have rel0 : Rel X.K g' (cpE nt ds) (List.replicate nt none ++ vs.map some) (upd H2 Dd (.lst [])) [Dd] := by
    refine ⟨by simp [cpE, hvl, hdl], sD, fun i d e => ?_, fun i xs e => (cpE_own e).elim, fun i j xs ys b e => (cpE_own e).elim, fun b hb => ?_, fun i w e => (cpE_raw e).elim, Deep.none fun i w e => cpE_deep e⟩
    · obtain ⟨h1, h2⟩ := cpE_get e
      obtain ⟨v, q1, q2⟩ := hds.get h2
      refine ⟨v, ?_, Is.ext (exP sD) _ _ q2⟩
      rw [List.getElem?_append_right (by simpa using h1), List.getElem?_map, List.length_replicate, q1] <;> rfl
    · have e : b = Dd := by simpa using hb
      subst e
      exact ⟨hDn, _, upd_same⟩
  have loop : ∀ s4 : Shared, Inv X' [] (List.replicate nt none ++ vs.map some) (upd H2 Dd (.lst [])) s4 → tn 0 s4.heap →
      codeAny (model X.prog X.w) X.A (.compLoop (.ListComp elt [⟨tg, iter, ifs, 0⟩] scope pos) 0 (.ref it) (.ref Dd) (compEnvC scope (clL X.env.cells scope.names []) s3.heap.objs.size X.env))
        (compPost (model X.prog X.w) X.A X.xe use Qv (.ref Dd) s3.heap.objs.size) s4 := by
    intro s4 J4 st4
    refine compLoop_go (fun n s' => ∃ i acc as rest Hx σ', n = xs.length - i ∧ i ≤ xs.length ∧ Inv X' [] σ' Hx s' ∧ tn i s'.heap ∧ (∀ b ∈ fp, Hx b = none) ∧ Hx Dd = some (.lst acc) ∧ IsL X.K (g'.P [Dd]) Hx as acc ∧
      compD b ct fe (cpE nt ds) (xs.drop i) = .ok rest ∧ as ++ rest = ys ∧ Rel X.K g' (cpE nt ds) σ' Hx [Dd]) ?_ xs.length
      ⟨0, [], [], ys, _, _, by simp, Nat.zero_le _, J4, st4, fun b hb => (f3 b hb).1, upd_same, rfl, by rw [List.drop_zero]; exact ec, rfl, rel0⟩
    rintro n s5 ⟨i, acc, as, rest, Hx, σ5, rfl, hi5, J5, st5, fr5, hD5, ia5, c5, e5, r5⟩
    obtain ⟨y1, y2⟩ := yl i Hx (g'.P [Dd]) r5.ext (exP r5.ext)
    by_cases hlt : i < xs.length
    · have hx : xs[i]? = some xs[i] := List.getElem?_eq_getElem hlt
      obtain ⟨go, y3⟩ := y1 _ hx
      rw [List.drop_eq_getElem_cons hlt] at c5
      obtain ⟨e1, hb5, c6⟩ := R.bind_ok (show (b xs[i] (cpE nt ds)).bind _ = .ok rest from c5)
      obtain ⟨t, ht5, c7⟩ := R.bind_ok c6
      have TI := T.item X' eP eW eK eC i [] s5 σ5 Hx (fun _ _ => False) J5 (fpX fr5) st5 go
      rw [eA] at TI
      refine thn TI fun r s6 h6 => ?_
      obtain ⟨u, rfl, h6⟩ := h6
      refine thn h6 fun _ s7 h7 => ?_
      obtain ⟨x, H7, J7, rx, hy, st7, fr7⟩ := h7
      obtain ⟨s57, hix⟩ := y3 x H7 hy
      have ix : Is X.K (g'.P [Dd]) H7 xs[i] x := Is.ext ⟨fun a o p _ => p.elim (fun z => z) fun z => r5.fresh z, fun _ _ _ z => z⟩ _ _ hix
      have J7' := J7.pinned (fpX fr7) (T.obj _ _ st7)
      have TG := hg' _ s7 σ5 H7 x u (fun σ8 H8 => ∃ e8, b xs[i] (cpE nt ds) = .ok e8 ∧ Rel X.K g' e8 σ8 H8 [Dd] ∧ H8 = H7) J7' rx ⟨g', cpE nt ds, [Dd], xs[i], r5.same s57, ix, good_ok hb5 fun σ8 r8 => ⟨e1, hb5, r8, rfl⟩⟩
      rw [eP, eW, eA, eE, eV] at TG
      refine thn TG fun _ s8 h8 => ?_
      obtain ⟨σ8, H8, J8, e8, hb8, r8, hH8⟩ := h8
      rw [hH8] at J8 r8
      rw [hb5] at hb8
      cases hb8
      have TT := ht' _ s8 σ8 H7 (fun t' H9 => t' = t ∧ Same H7 H9) J8 ⟨g', e1, [Dd], r8, good_ok ht5 fun H9 s9 => ⟨rfl, s9⟩⟩
      rw [eP, eW, eA, eE, eV] at TT
      refine thn TT fun ok s9 h9 => ?_
      obtain ⟨H9, J9, rfl, s79⟩ := h9
      obtain ⟨ts, hts, htl⟩ := hb1 ds _ _ hb5
      have keepT : ∀ {σx : St} {Hy : Hp} {sx : Shared}, Inv X' ([] ++ pinsAt fp s7.heap) σx Hy sx → tn (i + 1) sx.heap ∧ ∀ b ∈ fp, Hy b = none := fun {σx Hy sx} Jx =>
        ⟨T.keep _ _ _ st7 fun b hb o e => (Jx.pin (b, o) (List.mem_append_right _ (List.mem_append_right _ (mem_pinsAt hb e)))).1, fun b hb => by
          obtain ⟨o, e, d⟩ := T.obj _ _ st7 b hb
          exact (Jx.pin (b, o) (List.mem_append_right _ (List.mem_append_right _ (mem_pinsAt hb e)))).2.1⟩
      cases ok with
      | false =>
        rw [if_neg Bool.false_ne_true]
        have c8 : compD b ct fe (cpE nt ds) (xs.drop (i + 1)) = .ok rest := c7
        obtain ⟨k1, k2⟩ := keepT J9
        exact ⟨xs.length - (i + 1), by omega, i + 1, acc, as, rest, H9, σ8, rfl, hlt, J9.unpinned, k1, k2, s79 _ _ (s57 _ _ hD5), (ia5.same s57).same s79, c8, e5,
          rel_cpE r8 hts htl (.same s79) (r8.ext.trans s79) ⟨_, s79 _ _ (s57 _ _ hD5)⟩⟩
      | true =>
        rw [if_pos rfl]
        obtain ⟨d, he5, c8⟩ := R.bind_ok (show (fe e1).bind _ = .ok rest from c7)
        obtain ⟨rest', hr5, c9⟩ := R.bind_ok c8
        have c9' : rest = d :: rest' := by cases c9; rfl
        subst c9'
        have TE := he' _ s9 σ8 H9 (fun v H10 => Same H9 H10 ∧ Is X.K (g'.P [Dd]) H10 d v) J9 ⟨g', e1, [Dd], r8.same s79, good_ok he5 fun v H10 s10 i10 => ⟨s10, i10⟩⟩
        rw [eP, eW, eA, eE, eV] at TE
        refine thn TE fun y s10 h10 => ?_
        obtain ⟨v, H10, J10, rv, s910, iv⟩ := h10
        have hD10 : H10 Dd = some (.lst acc) := s910 _ _ (s79 _ _ (s57 _ _ hD5))
        have ia10 : IsL X.K (g'.P [Dd]) H10 as acc := ((ia5.same s57).same s79).same s910
        have TM := mt_append (X := X') _ s10 σ8 H10 (.ref Dd) [v] (.ref Dd) [y] (fun _ H11 => H11 = upd H10 Dd (.lst (acc ++ [v]))) J10 rfl (.cons rv .nil) ⟨Dd, acc, v, rfl, rfl, hD10, by
          rw [ia10.length]
          have : (as ++ d :: rest').length ≤ sizeLine := by rw [e5]; exact hz
          rw [List.length_append, List.length_cons] at this
          omega, rfl⟩
        rw [eP, eW, eA, eE] at TM
        refine thn TM fun _ s11 h11 => ?_
        obtain ⟨v', H11, J11, _, rfl⟩ := h11
        obtain ⟨k1, k2⟩ := keepT J11
        have exD : Ext (g'.P [Dd]) (g'.P [Dd]) H10 (upd H10 Dd (.lst (acc ++ [v]))) := ⟨fun _ _ p _ => p, fun a o p e => by rw [upd_ne (fun z => p.2 (by simp [z]))]; exact e⟩
        have s10' : Same H2 H10 := (r8.ext.trans s79).trans s910
        refine ⟨xs.length - (i + 1), by omega, i + 1, acc ++ [v], as ++ [d], rest', _, σ8, rfl, hlt, J11.unpinned, k1, k2, upd_same, IsL.ext exD _ _ (ia10.app (.one iv)), hr5, by rw [List.append_assoc]; exact e5, ?_⟩
        exact rel_cpE (r8.same (s79.trans s910)) hts htl exD (fun a o e => by rw [upd_ne (ne_of_none (show H2 a = some o from e) hDn)]; exact s10' a o e) ⟨_, upd_same⟩
    · have e : i = xs.length := by omega
      subst e
      rw [List.drop_length] at c5
      have c5' : rest = [] := by cases c5; rfl
      subst c5'
      rw [List.append_nil] at e5
      subst e5
      have TD := T.done X' eP eW eK eC xs.length [] s5 σ5 Hx (fun _ _ => False) J5 (fpX fr5) st5 (y2 rfl)
      rw [eA] at TD
      refine thn TD fun r s6 h6 => ?_
      obtain ⟨rfl, J6⟩ := h6
      obtain ⟨m6, hn6, _⟩ := J6.loc
      rw [eL] at hn6
      have un6 : Un (frs X.stack) fp (upd H2 Dd (.lst [])) Hx s3.heap s6.heap := by
        have u := J6.base
        rw [eF, eX, eH, eS] at u
        exact u
      have hxC : Hx s3.heap.objs.size = none := by have := J6.free; rw [eL] at this; exact this
      have hok6 : HOk X.prog X.w Hx s6.heap := by
        have z := J6.hok
        rw [eP, eW] at z
        exact z
      have os6 : s6.os = s3.os := by have := J6.os; rw [eS] at this; exact this
      have I6 : Inv X pins σ Hx s6 := I3.call' (s' := s6) os6 un6 hok6 J6.bare fun b hb => by
        obtain ⟨_, c1, c2, c3, c4, c5⟩ := f3 b hb
        exact ⟨c3, c1, c4, c5⟩
      have fC : FpOk X pins Hx s3.heap.objs.size := ⟨hxC, (I3.fpOk (Nat.le_refl _) (I3.hok.fresh (Nat.le_refl _))).2⟩
      refine q Dd s3.heap.objs.size acc Hx s6 I6 ⟨m6, hn6⟩ fC (s12.trans r5.ext) (s12.free hDn) hD5 (IsL.ext ⟨fun a o p _ => ?_, fun _ _ _ z => z⟩ _ _ ia5)
      have z : g.P os a := p.1.elim (fun z => z) fun z => r2.fresh z
      exact ⟨z.1, fun hm => (List.mem_cons.mp hm).elim (fun z => p.2 (by simp [z])) z.2⟩
  have st4 : tn 0 h₁ := T.keep _ _ _ st2 fun b hb o e => k3 b o (by rw [hh3]; exact Heap.get?_push_of_some _ e)
  have eG : ({ heap := h₁, gens := s3.gens, drawn := s3.drawn, toks := s2.toks + ([] : List (Str × Value)).length, os := s3.os } : Shared) = { heap := h₁, gens := s2.gens, drawn := s2.drawn, toks := s2.toks + ([] : List (Str × Value)).length, os := s2.os } := by rw [← hs3]
  rw [eG] at I4
  exact codeAny_compStart_list (loop _ I4 st4) (T.self _ 0 _ _ _ st4 (loop _ I4 st4))
variable {elt tg iter : Expr} {ifs : List Expr} {fi : DE → R (List D)} {b : D → DE → R DE} {ct : DE → R Bool} {fe : DE → R D}
theorem lComp (S : CpScope X scope N nt caps) (hcalm : X.calm = true) (hi : PI X tg iter (tIS X.K E fi))
    (hb1 : ∀ ds d e, b d (cpE nt ds) = .ok e → ∃ ts, e = ts ++ ds.map .val ∧ ts.length = nt)
    (hg : ∀ s H fp C pl, PG (cpCx X scope N s H fp C pl) tg (tG X.K EN b)) (ht : ∀ s H fp C pl, PTs (cpCx X scope N s H fp C pl) ifs (tT X.K EN ct)) (he : ∀ s H fp C pl, PE (cpCx X scope N s H fp C pl) elt (tD X.K EN fe))
    (hs : ∀ x, foldedSetIterable iter X.env x = pure x := by intro _; rfl) :
    PE X (.ListComp elt [⟨tg, iter, ifs, 0⟩] scope pos) (tF X.K E fun env => (fi env).bind fun xs => (capt env caps).bind fun ds => (compD b ct fe (cpE nt ds) xs).ne.bind fit) := by
  intro pins s σ H Q I h
  obtain ⟨g, env, os, r, m⟩ := h
  rw [eval_ListComp]
  refine compRun S hcalm hi hb1 hg ht he hs I r (m.mono fun ys _ q Dd C acc Hx s6 I6 hn fC sm hD hx ia => ?_)
  obtain ⟨m6, hn6⟩ := hn
  refine ⟨m6, hn6, fun h7 hs7 => ⟨.ref Dd, Hx, turnL (fp := [C]) (t' := s6.toks) I6 (fun b hb => by
    have z : b = C := by simpa using hb
    rw [z]; exact fC) (fun b u hb e => (hs7.2 b (fun z => hb (by simp [z]))).trans e), rfl, q Dd acc Hx sm hD hx ia⟩⟩
theorem sSetC (i : Nat) {x : Str} {pos' p : Pos} (S : CpScope X scope N nt caps) (hcalm : X.calm = true) (hi : PI X tg iter (tIS X.K E fi))
    (hb1 : ∀ ds d e, b d (cpE nt ds) = .ok e → ∃ ts, e = ts ++ ds.map .val ∧ ts.length = nt)
    (hg : ∀ s H fp C pl, PG (cpCx X scope N s H fp C pl) tg (tG X.K EN b)) (ht : ∀ s H fp C pl, PTs (cpCx X scope N s H fp C pl) ifs (tT X.K EN ct)) (he : ∀ s H fp C pl, PE (cpCx X scope N s H fp C pl) elt (tD X.K EN fe)) (hN : X.N.Nodup)
    (hs : ∀ x, foldedSetIterable iter X.env x = pure x := by intro _; rfl) (hii : X.N[i]? = some x := by rfl) (hx : Loc X.env.scope x := by first | exact Or.inl rfl | exact Or.inr rfl)
    (hf : X.fn x = true ∨ X.env.scope.names.lookup x = some .local := by first | exact .inl rfl | exact .inr rfl | assumption)
    (hsw : swapsWith (.ListComp elt [⟨tg, iter, ifs, 0⟩] scope p) (some (.Name x pos')) pos.line X.env = pure true := by rfl) :
    PS X (.Assign [.Name x pos'] (.ListComp elt [⟨tg, iter, ifs, 0⟩] scope p) pos) (tS X.K E fun env => ((fi env).bind fun xs => (capt env caps).bind fun ds => (compD b ct fe (cpE nt ds) xs).ne.bind fit).bind fun ys => .ok (.nx (env.set i (.own ys)))) := by
  intro pins s σ H De I h
  obtain ⟨g, env, os, r, m⟩ := h
  rw [exec_Assign_Name_used _ _ _ _ hsw, arm_evalThenUse_ListComp]
  refine wpAny_bind (wpAny_standAt (wpAny_bind (wpAny_bind ?_)))
  refine compRun (use := some (assign (.Name x pos') X.env)) S hcalm hi hb1 hg ht he hs I r (m.bind.mono fun ys _ q Dd C acc Hx s6 I6 hn fC sm hD hx' ia => ?_)
  obtain ⟨m6, o6, es6, ep6, ho6, hd6, hk6⟩ := hn
  have fC' : ∀ b ∈ [C], FpOk X pins Hx b := fun b hb => by
    have z : b = C := by simpa using hb
    rw [z]; exact fC
  have J6 := I6.pinned fC' fun b hb => by
    have z : b = C := by simpa using hb
    subst z
    exact ⟨o6, ho6, fun v z => by rw [hd6] at z; cases z⟩
  have TG := pg_name (pos := pos') hN hii hx hf _ s6 σ Hx (.ref Dd) (.ref Dd) (fun σ7 H7 => σ7 = σ.set i (some (.ref Dd)) ∧ H7 = Hx) J6 rfl ⟨rfl, rfl⟩
  refine thn TG fun _ s7 h7 => ?_
  obtain ⟨σ7, H7, J7, rfl, rfl⟩ := h7
  have e7 : s7.heap.get? C = some o6 := (J7.pin (C, o6) (List.mem_append_right _ (List.mem_append_right _ (mem_pinsAt (by simp) ho6)))).1
  refine ⟨m6, ⟨o6, es6, ep6, e7, hd6, hk6⟩, fun h8 hs8 => wpAny_pure (wpAny_pure ?_)⟩
  refine ⟨_, H7, turnL (fp := [C]) (t' := s7.toks) J7.unpinned fC' (fun b u hb e => (hs8.2 b (fun z => hb (by simp [z]))).trans e), ?_⟩
  exact q _ H7 (Dd :: os) (r.setF sm i hD hx' ia) (.new sm hD)
end
end DL

namespace DL
open PySem PySem.Spec PyProof.Rows L2
/-! ### enumerate, zip, reversed -/
section
variable {X : Cx} {pins : List (Addr × Obj)} {σ : St} {H : Hp} {s : Shared} {h' : Heap}
theorem turnNew {fp : List Addr} {t : Addr} {o : HO} {t' : Nat} (I : Inv X pins σ H s) (hf : ∀ b ∈ fp, FpOk X pins H b) (k : ∀ b u, b ∉ fp → s.heap.get? b = some u → h'.get? b = some u) (hex : ∀ b ∈ fp, ∀ u, s.heap.get? b = some u → ∃ u', h'.get? b = some u') (ht : s.heap.objs.size ≤ t)
    (new : ObjOk X.prog X.w (upd H t o) h' t o) : Inv X pins σ (upd H t o) { s with heap := h', toks := t' } := by
  have hn : H t = none := I.hok.fresh ht
  have nfp : ∀ b u, H b = some u → b ∉ fp := fun b u e z => by rw [(hf b z).1] at e; cases e
  refine I.step (g' := s.gens) (d' := s.drawn) (ch := fp) (fun b hb => ⟨(hf b hb).2.2.2.1, (hf b hb).2.1, (hf b hb).2.2.2.2.1, (hf b hb).2.2.2.2.2⟩) (fun b u _ _ hc e _ => k b u hc e) (fun b u _ _ hc e _ => ⟨u.slots, k b u hc e⟩)
    (fun b u _ e n => by rw [upd_ne (Nat.ne_of_lt (Nat.lt_of_lt_of_le (Heap.lt_size e) ht))]; exact n) (fun b u hc e => ⟨u, k b u hc e⟩)
    (fun b xs e => by rw [upd_ne (ne_of_none e hn)]; exact e) (fun b u xs e => by rw [upd_ne (ne_of_none e hn)]; exact e) (fun b ps e => ⟨#[], by rw [upd_ne (ne_of_none e hn), e]; simp⟩)
    (fun m hm => ?_) (fun b u e => ?_) I.bare
  · obtain ⟨ob, es, ep, ho, r⟩ := hm
    exact ⟨ob, es, ep, k _ ob (fun z => (hf _ z).2.1 rfl) ho, r⟩
  · by_cases hb : b = t
    · subst hb; rw [upd_same] at e; cases e; exact new
    · rw [upd_ne hb] at e
      refine (I.hok b u e).stay (fun c v hc q => k c v ?_ q) (fun c q => by rw [upd_ne (ne_of_none q hn)]; exact q) fun c xs q => by rw [upd_ne (ne_of_none q hn)]; exact q
      rcases hc with z | z
      · rw [z]; exact nfp b u e
      · exact nfp c _ z
end
def Ite (K : PySem.W.Frag) (l : Addr) : It :=
  ⟨fun i H => ∃ xs x, SqL K H l xs ∧ xs[i]? = some x, fun i H x H' => ∃ t y, H t = none ∧ H' = upd H t (.tup [.int (i : Nat), y]) ∧ x = .ref t ∧ ∀ xs, SqL K H l xs → xs[i]? = some y, fun i H => ∃ xs, SqL K H l xs ∧ xs.length ≤ i⟩
theorem turn_enum {P : Program} {w : World} {K : PySem.W.Frag} {elts : List Expr} {kk : Nat} {pp : Pos} (l e it : Addr) (hei : e ≠ it) :
    Turn P w K (.Tuple elts kk pp) (Ite K l) [e, it] e (fun i h => (∃ old, IsEnum h e it (i : Nat) old) ∧ h.IsListIter it l i) where
  mem := by simp
  obj := fun i h st b hb => by
    obtain ⟨⟨old, he⟩, o, e2, c, d⟩ := st
    rcases List.mem_cons.mp hb with rfl | hb
    · exact ⟨_, he, fun v z => by cases z⟩
    · have z : b = it := by simpa using hb
      subst z
      exact ⟨o, e2, fun v z => by rw [d] at z; cases z⟩
  keep := fun i h h' st k => by
    obtain ⟨⟨old, he⟩, hit⟩ := st
    exact ⟨⟨old, k e (by simp) _ he⟩, hit.at fun o q => k it (by simp) o q⟩
  item := by
    intro X hP hw hK hc i pins s σ H E I hf st hg
    subst hP hw hK
    obtain ⟨xs, x, hq, hx⟩ := hg
    obtain ⟨its, rv, p, hz⟩ := I.list hq
    obtain ⟨u, hu, ru⟩ := rv.get hx
    obtain ⟨⟨old, he⟩, hit⟩ := st
    refine wpAny_pyNext_enum_item he hit p.isList (x := u) (by simpa using hu) hei fun h' ho hit' hT hsz hk => ?_
    refine ⟨_, rfl, wpAny_letOwnedTupleGo_enum ho fun h'' he'' hs'' => ?_⟩
    have hlt : e < s.heap.objs.size := Heap.lt_size he
    have hlt2 : it < s.heap.objs.size := by obtain ⟨_, z, _⟩ := hit; exact Heap.lt_size z
    have kk : ∀ b o, b ∉ [e, it] → s.heap.get? b = some o → h''.get? b = some o := fun b o hb q => by
      have h1 : b ≠ e := fun z => hb (by simp [z])
      have h2 : b ≠ it := fun z => hb (by simp [z])
      exact (hs''.2 b h1).trans (hk b o h1 h2 q)
    have hT'' : h''.get? s.heap.objs.size = some { cls := .type "tuple", data := .seq #[.int i s.toks, u] } := (hs''.2 _ (Nat.ne_of_gt hlt)).trans hT
    have hn : H s.heap.objs.size = none := I.hok.fresh (Nat.le_refl _)
    refine ⟨.ref s.heap.objs.size, upd H s.heap.objs.size (.tup [.int (i : Nat), x]), ?_, rfl, ⟨_, x, hn, rfl, rfl, fun ys hy => by rw [I.list_inj hy hq]; exact hx⟩, ⟨⟨u, by simpa using he''⟩, hit'.at fun o q => (hs''.2 it hei.symm).trans q⟩, fun b hb => ?_⟩
    · refine turnNew (s := s) I hf kk (fun b hb u hu => ?_) (Nat.le_refl _) ⟨(by show 2 ≤ sizeLine; decide), [.int i s.toks, u], .cons ⟨_, rfl⟩ (.cons ru .nil), ⟨_, hT'', rfl, _, rfl⟩⟩
      rcases List.mem_cons.mp hb with rfl | hb
      · exact ⟨_, he''⟩
      · have z : b = it := by simpa using hb
        subst z
        obtain ⟨o, q, _⟩ := hit'
        exact ⟨o, (hs''.2 b hei.symm).trans q⟩
    · rw [upd_ne]
      · exact (hf b hb).1
      · rcases List.mem_cons.mp hb with rfl | hb
        · exact Nat.ne_of_lt hlt
        · have z : b = it := by simpa using hb
          subst z
          exact Nat.ne_of_lt hlt2
  done := by
    intro X hP hw hK hc i pins s σ H E I hf st hg
    subst hP hw hK
    obtain ⟨xs, hq, hx⟩ := hg
    obtain ⟨its, rv, p, hz⟩ := I.list hq
    obtain ⟨⟨old, he⟩, hit⟩ := st
    have hl := rv.length
    refine wpAny_pyNext_enum_end (I.ok.hd hc) he hit p.isList (by simp; omega) fun h' eb => ⟨rfl, ?_⟩
    exact turnL (fp := [e, it]) (t' := s.toks) I hf fun b o hb q => eb b o (fun z => hb (by simp [z])) q
  self := fun _ _ _ _ _ st h => by
    obtain ⟨⟨old, he⟩, _⟩ := st
    exact wpAny_pyIter_enum he h
section
variable {X : Cx} {E : Str → Hp → Prop} {pos : Pos}
def enumL (xs : List D) : List D := xs.zipIdx.map fun p => .tup [.int (p.2 : Nat), p.1]
theorem enumL_get {xs : List D} {i : Nat} {d : D} (h : (enumL xs)[i]? = some d) : ∃ x, xs[i]? = some x ∧ d = .tup [.int (i : Nat), x] := by
  unfold enumL at h
  rw [List.getElem?_map, List.getElem?_zipIdx] at h
  cases q : xs[i]? with
  | none => rw [q] at h; cases h
  | some x =>
    rw [q] at h
    refine ⟨x, rfl, ?_⟩
    have h' : some (D.tup [.int ((0 + i : Nat) : Int), x]) = some d := h
    rw [Nat.zero_add] at h'
    exact (Option.some.inj h').symm
theorem iE {a : Expr} {elts : List Expr} {kk : Nat} {pp p : Pos} {f : DE → R D} (hm : X.mg "enumerate" = none) (ha : PE X a (tD X.K E f)) (hg : Gl X "enumerate" := by rfl) (hs : starEach [a] X.env = [(false, eval a X.env)] := by rfl) :
    PI X (.Tuple elts kk pp) (.Call (.Name "enumerate" p) [a] [] pos) (tI X.K E fun env => (f env).bind fun d => (asL d).bind fun xs => .ok (enumL xs)) := by
  intro pins s σ H Rr I h
  obtain ⟨g, env, os, r, m⟩ := h
  have hpa : PA X [a] (tAr X.K E fun env => (f env).bind fun x => (R.ok []).bind fun xs => .ok (x :: xs)) := aCons ha aNil hs
  refine Call_ (ld_blt I hg hm boot_enumerate (PyProof.Rows.callWith_type1 (thn (hpa pos pins s σ H (fun vs H1 => Same H H1 ∧ ∃ d, f env = .ok d ∧ ∃ v, vs = [v] ∧ Is X.K (g.P os) H1 d v ∧ Good E g.H₀ ((asL d).bind fun xs => .ok (enumL xs)) (fun xs => ∀ J H1, Same H H1 → Yl X.K (g.P os) J H1 xs → Rr J H1)) I
    ⟨g, env, os, r, ?_⟩) fun us s1 ⟨vs, H1, I1, r1, q1⟩ => ?_) hs rfl))
  · exact Good.of_bind m.bind (fun d e q => by
      show Good E g.H₀ (R.ok [d]) _
      exact fun vs H' s' i' => by
        obtain ⟨v, rfl, iv⟩ := IsL.one' i'
        exact ⟨s', d, e, v, rfl, iv, q⟩)
  · obtain ⟨s1', d, _, v, rfl, iv, q⟩ := q1
    cases d with
    | lst xs =>
      obtain ⟨l, ws, rfl, h1, h2⟩ := iv
      obtain ⟨u, rfl, ru⟩ := vals1 r1
      cases ru
      obtain ⟨its, rv, pl, hz⟩ := I1.list h1.sq
      refine call_enumerate_list pl.isList fun h' he hit hsz hk => ?_
      refine wpAny_pyIter_enum he ?_
      have I2 : Inv X pins σ H1 { s1 with heap := h' } := I1.kept (t' := s1.toks) hk
      have f1 : ∀ b ∈ [s1.heap.objs.size + 1, s1.heap.objs.size], FpOk X pins H1 b := fun b hb => by
        have hb' : s1.heap.objs.size ≤ b := by
          simp only [List.mem_cons, List.not_mem_nil, or_false] at hb
          rcases hb with rfl | rfl <;> omega
        exact I1.fpOk hb' (I1.hok.fresh hb')
      refine ⟨s1.heap.objs.size + 1, [s1.heap.objs.size + 1, s1.heap.objs.size], _, Ite X.K l, H1, rfl, I2, turn_enum l _ _ (Nat.ne_of_gt (Nat.lt_succ_self _)), ⟨⟨_, he⟩, hit⟩, f1, ?_⟩
      refine (show ∀ J H1, Same H H1 → Yl X.K (g.P os) J H1 (enumL xs) → Rr J H1 from q) _ H1 s1' fun i H' P' ex => ⟨fun d hd => ?_, fun hi => ?_⟩
      · obtain ⟨x, hx, rfl⟩ := enumL_get hd
        obtain ⟨y, hy, iy⟩ := (IsL.ext ex _ _ h2).get hx
        refine ⟨⟨ws, y, (h1.ext ex).sq, hy⟩, fun z H2 hyl => ?_⟩
        obtain ⟨t, y', ht, rfl, rfl, hall⟩ := hyl
        have e2 := hall ws (h1.ext ex).sq
        rw [hy] at e2
        cases e2
        refine ⟨same_new ht _, t, _, rfl, .inl ⟨.inr ht, .inl upd_same⟩, IsL.cons rfl (IsL.one (Is.ext ⟨fun _ _ p _ => .inl p, fun a o _ e => same_new ht _ a o e⟩ _ _ iy))⟩
      · refine ⟨ws, (h1.ext ex).sq, ?_⟩
        rw [IsL.length h2]
        refine Nat.le_of_eq ?_
        have : (enumL xs).length = xs.length := by simp [enumL]
        omega
    | non => exact q.elim
    | bl _ => exact q.elim
    | int _ => exact q.elim
    | str _ => exact q.elim
    | exc _ => exact q.elim
    | fn _ => exact q.elim
    | tup _ => exact q.elim
end
end DL

namespace DL
open PySem PySem.Spec PyProof.Rows L2
/-! ### isinstance with a built-in type -/
def tyN : D → String
  | .non => "NoneType"
  | .bl _ => "bool"
  | .int _ => "int"
  | .str _ => "str"
  | .lst _ => "list"
  | .tup _ => "tuple"
  | .exc _ => "tuple"
  | .fn _ => "tuple"
def subT (t T : String) : Bool := t == T || (t == "bool" && T == "int")
section
variable {X : Cx} {E : Str → Hp → Prop} {pos : Pos}
def isi (T : String) (d : D) : R D := match d with
  | .exc _ => .bad
  | .fn _ => .bad
  | d => .ok (.bl (subT (tyN d) T))
theorem bt_isinstance : bootBuiltins "isinstance" = some (.builtin "isinstance") := by decide +kernel
theorem bt_str : bootBuiltins "str" = some (.type "str") := by decide +kernel
theorem bt_len : bootBuiltins "len" = some (.builtin "len") := by decide +kernel
theorem bt_abs : bootBuiltins "abs" = some (.builtin "abs") := by decide +kernel
theorem bt_max : bootBuiltins "max" = some (.builtin "max") := by decide +kernel
/-! ### all(a list of bools) -/
def bools : List D → Option (List Bool)
  | [] => some []
  | .bl b :: r => (bools r).map (b :: ·)
  | _ :: _ => none
end
end DL

namespace DL
open PySem PySem.Spec PyProof.Rows L2
/-! ### == of trees -/
def eqA : D → D → Option Bool
  | .non, .non => some true
  | .bl a, .bl b => some (a == b)
  | .int a, .int b => some (a == b)
  | .str a, .str b => some (a == b)
  | .bl a, .int b => some ((if a then 1 else 0) == b)
  | .int a, .bl b => some (a == (if b then 1 else 0))
  | .non, .bl _ => some false
  | .non, .int _ => some false
  | .non, .str _ => some false
  | .bl _, .non => some false
  | .bl _, .str _ => some false
  | .int _, .non => some false
  | .int _, .str _ => some false
  | .str _, .non => some false
  | .str _, .bl _ => some false
  | .str _, .int _ => some false
  | _, _ => none
def zipB (f : D → D → Option Bool) : List D → List D → Option Bool
  | x :: xs, y :: ys => (f x y).bind fun b => (zipB f xs ys).map (b && ·)
  | _, _ => some true
def eqF : Nat → D → D → Option Bool
  | 0, x, y => eqA x y
  | n + 1, x, y => match x, y with
    | .lst xs, .lst ys => if xs.length = ys.length then zipB (eqF n) xs ys else some false
    | .tup xs, .tup ys => (zipB (eqF n) xs ys).map (· && xs.length == ys.length)
    | x, y => eqA x y
def eqJ (f : D → D → Option Bool) (xs ys : List D) (j : Nat) : Bool := ((xs[j]?).bind fun x => (ys[j]?).bind fun y => f x y).getD false
theorem range_all_succ (n : Nat) (e : Nat → Bool) : (List.range (n + 1)).all e = (e 0 && (List.range n).all fun j => e (j + 1)) := by
  rw [List.range_succ_eq_map, List.all_cons, List.all_map]
  rfl
theorem zipB_spec {f : D → D → Option Bool} : ∀ {xs ys : List D} {b : Bool}, zipB f xs ys = some b → (∀ (j : Nat) (x y : D), xs[j]? = some x → ys[j]? = some y → f x y = some (eqJ f xs ys j)) ∧ b = (List.range (min xs.length ys.length)).all (eqJ f xs ys)
  | [], ys, b, h => by
    have h' : some true = some b := by cases ys <;> exact h
    cases h'
    exact ⟨fun j x y e => by simp at e, by simp⟩
  | x :: xs, [], b, h => by
    cases h
    exact ⟨fun j x y _ e => by simp at e, by simp⟩
  | x :: xs, y :: ys, b, h => by
    unfold zipB at h
    cases e1 : f x y with
    | none => rw [e1] at h; cases h
    | some c =>
      cases e2 : zipB f xs ys with
      | none => rw [e1, e2] at h; cases h
      | some d =>
        rw [e1, e2] at h
        have h' : (c && d) = b := Option.some.inj h
        obtain ⟨q1, q2⟩ := zipB_spec e2
        refine ⟨fun j x' y' h1 h2 => ?_, ?_⟩
        · cases j with
          | zero =>
            simp at h1 h2
            subst h1 h2
            show f x y = some (((some x).bind fun x => (some y).bind fun y => f x y).getD false)
            simp [e1]
          | succ j => exact q1 j x' y' (by simpa using h1) (by simpa using h2)
        · have e3 : min (x :: xs).length (y :: ys).length = min xs.length ys.length + 1 := by simp [Nat.succ_min_succ]
          rw [e3, range_all_succ, ← h', q2]
          have e4 : eqJ f (x :: xs) (y :: ys) 0 = c := by
            show (((some x).bind fun x => (some y).bind fun y => f x y).getD false) = c
            simp [e1]
          rw [e4]; rfl
section
variable {X : Cx} {pins : List (Addr × Obj)} {σ : St} {H : Hp} {s : Shared}
theorem eqA_at {A : Around} {P : Addr → Prop} {x y : D} {v w : V} {u u' : Value} {b : Bool} (hx : Is X.K P H x v) (hy : Is X.K P H y w) (rv : RelV v u) (rw' : RelV w u') (e : eqA x y = some b) : SeqAt.EqAt A s u u' b ∧ SeqAt.RcAt A s u u' b ∧ SeqAt.RcNeAt A s u u' (!b) := by
  unfold eqA at e
  split at e <;> first | cases e | skip
  · cases hx; cases hy; cases rv; cases rw'; exact ⟨.same _, .none_none, .none_none⟩
  · cases hx; cases hy; cases rv; cases rw'; exact ⟨.bool_bool _ _, .bool_bool _ _, .bool_bool _ _⟩
  · cases hx; cases hy; obtain ⟨t, rfl⟩ := rv; obtain ⟨t', rfl⟩ := rw'; exact ⟨.int_int _ _ _ _, .int_int _ _ _ _, .int_int _ _ _ _⟩
  · cases hx; cases hy; obtain ⟨t, rfl⟩ := rv; obtain ⟨t', rfl⟩ := rw'; exact ⟨.str_str _ _ _ _, .str_str _ _ _ _, .str_str _ _ _ _⟩
  · cases hx; cases hy; cases rv; obtain ⟨t', rfl⟩ := rw'; exact ⟨.bool_int _ _ _, .bool_int _ _ _, .bool_int _ _ _⟩
  · cases hx; cases hy; obtain ⟨t, rfl⟩ := rv; cases rw'; exact ⟨.int_bool _ _ _, .int_bool _ _ _, .int_bool _ _ _⟩
  · cases hx; cases hy; cases rv; cases rw'; exact ⟨.none_bool _, .none_bool _, .none_bool _⟩
  · cases hx; cases hy; cases rv; obtain ⟨t', rfl⟩ := rw'; exact ⟨.none_int _ _, .none_int _ _, .none_int _ _⟩
  · cases hx; cases hy; cases rv; obtain ⟨t', rfl⟩ := rw'; exact ⟨.none_str _ _, .none_str _ _, .none_str _ _⟩
  · cases hx; cases hy; cases rv; cases rw'; exact ⟨.bool_none _, .bool_none _, .bool_none _⟩
  · cases hx; cases hy; cases rv; obtain ⟨t', rfl⟩ := rw'; exact ⟨.bool_str _ _ _, .bool_str _ _ _, .bool_str _ _ _⟩
  · cases hx; cases hy; obtain ⟨t, rfl⟩ := rv; cases rw'; exact ⟨.int_none _ _, .int_none _ _, .int_none _ _⟩
  · cases hx; cases hy; obtain ⟨t, rfl⟩ := rv; obtain ⟨t', rfl⟩ := rw'; exact ⟨.int_str _ _ _ _, .int_str _ _ _ _, .int_str _ _ _ _⟩
  · cases hx; cases hy; obtain ⟨t, rfl⟩ := rv; cases rw'; exact ⟨.str_none _ _, .str_none _ _, .str_none _ _⟩
  · cases hx; cases hy; obtain ⟨t, rfl⟩ := rv; cases rw'; exact ⟨.str_bool _ _ _, .str_bool _ _ _, .str_bool _ _ _⟩
  · cases hx; cases hy; obtain ⟨t, rfl⟩ := rv; obtain ⟨t', rfl⟩ := rw'; exact ⟨.str_int _ _ _ _, .str_int _ _ _ _, .str_int _ _ _ _⟩
theorem eqA_refl {P : Addr → Prop} {x y : D} {v : V} {b : Bool} (hx : Is X.K P H x v) (hy : Is X.K P H y v) (e : eqA x y = some b) : b = true := by
  unfold eqA at e
  split at e <;> first | cases e | skip
  all_goals cases hx
  all_goals cases hy
  all_goals simp
theorem zip_refl {P : Addr → Prop} {f : D → D → Option Bool} : ∀ {xs ys : List D} {vs : List V} {b : Bool}, (∀ x y v b, Is X.K P H x v → Is X.K P H y v → f x y = some b → b = true) → IsL X.K P H xs vs → IsL X.K P H ys vs → zipB f xs ys = some b → b = true ∧ xs.length = ys.length
  | [], ys, vs, b, _, hx, hy, e => by
    have e' : vs = [] := hx
    subst e'
    have := IsL.length hy
    cases ys with
    | nil => cases e; exact ⟨rfl, rfl⟩
    | cons _ _ => simp at this
  | x :: xs, [], vs, b, _, hx, hy, e => by
    have := IsL.length hx
    have e' : vs = [] := hy
    subst e'
    simp at this
  | x :: xs, y :: ys, vs, b, hf, ⟨v, r, e1, p1, q1⟩, ⟨v', r', e2, p2, q2⟩, e => by
    subst e1
    cases e2
    unfold zipB at e
    cases h1 : f x y with
    | none => rw [h1] at e; cases e
    | some c =>
      cases h2 : zipB f xs ys with
      | none => rw [h1, h2] at e; cases e
      | some d =>
        rw [h1, h2] at e
        have e' : (c && d) = b := Option.some.inj e
        obtain ⟨z1, z2⟩ := zip_refl hf q1 q2 h2
        have z3 := hf x y v c p1 p2 h1
        subst z1 z3 e'
        exact ⟨rfl, by simp [z2]⟩
theorem eqF_refl (I : Inv X pins σ H s) {P : Addr → Prop} : ∀ (n : Nat) (x y : D) (v : V) (b : Bool), Is X.K P H x v → Is X.K P H y v → eqF n x y = some b → b = true
  | 0, x, y, v, b, hx, hy, e => eqA_refl hx hy e
  | n + 1, x, y, v, b, hx, hy, e => by
    unfold eqF at e
    split at e
    · rename_i xs ys
      obtain ⟨a, vs, rfl, h1, h2⟩ := hx
      obtain ⟨a', vs', ea, h3, h4⟩ := hy
      cases ea
      have ev := I.list_inj h1.sq h3.sq
      subst ev
      split at e
      · exact (zip_refl (eqF_refl I n) h2 h4 e).1
      · rename_i c
        exact absurd ((IsL.length h2).symm.trans (IsL.length h4)) c
    · rename_i xs ys
      obtain ⟨a, vs, rfl, h1, h2⟩ := hx
      obtain ⟨a', vs', ea, h3, h4⟩ := hy
      cases ea
      have ev := I.tuple_inj h1.sq h3.sq
      subst ev
      cases ez : zipB (eqF n) xs ys with
      | none => rw [ez] at e; cases e
      | some c =>
        rw [ez] at e
        obtain ⟨z1, z2⟩ := zip_refl (eqF_refl I n) h2 h4 ez
        subst z1
        have e' : (true && (xs.length == ys.length)) = b := Option.some.inj e
        rw [← e', z2]; simp
    · exact eqA_refl hx hy e
theorem in1_units (A : Around) : A.in1.units = A.units + 1 := rfl
theorem eq_at (I : Inv X pins σ H s) {P : Addr → Prop} : ∀ (n : Nat) (A : Around) (x y : D) (v w : V) (u u' : Value) (b : Bool), A.units + n < cLine → Is X.K P H x v → Is X.K P H y w → RelV v u → RelV w u' → eqF n x y = some b → SeqAt.EqAt A s u u' b ∧ SeqAt.RcAt A s u u' b ∧ SeqAt.RcNeAt A s u u' (!b)
  | 0, A, x, y, v, w, u, u', b, hu, hx, hy, rv, rw', e => eqA_at hx hy rv rw' e
  | n + 1, A, x, y, v, w, u, u', b, hu, hx, hy, rv, rw', e => by
    have e0 := e
    unfold eqF at e
    have hu1 : A.in1.units + n < cLine := by rw [in1_units]; omega
    have hu0 : A.units < cLine := by omega
    split at e
    · rename_i xs ys
      have hx0 := hx
      have hy0 := hy
      obtain ⟨a, vs, rfl, h1, h2⟩ := hx
      obtain ⟨a', vs', rfl, h3, h4⟩ := hy
      cases rv
      cases rw'
      obtain ⟨its, rvs, pl, hz⟩ := I.list h1.sq
      obtain ⟨its', rvs', pl', hz'⟩ := I.list h3.sq
      have l1 := rvs.length
      have l2 := rvs'.length
      have l3 : vs.length = xs.length := IsL.length h2
      have l4 : vs'.length = ys.length := IsL.length h4
      have main : SeqAt.RcAt A s (.ref a) (.ref a') b ∧ SeqAt.RcNeAt A s (.ref a) (.ref a') (!b) := by
        split at e
        · rename_i c
          obtain ⟨q1, q2⟩ := zipB_spec e
          have hsz : its.toArray.size = its'.toArray.size := by simp; omega
          have hmin : min xs.length ys.length = its.toArray.size := by simp; omega
          rw [hmin] at q2
          subst q2
          have he : ∀ j (g1 : j < its.toArray.size) (g2 : j < its'.toArray.size), SeqAt.EqAt A.in1 s its.toArray[j] its'.toArray[j] (eqJ (eqF n) xs ys j) := fun j g1 g2 => by
            have j1 : j < xs.length := by simp at g1; omega
            have j2 : j < ys.length := by simp at g2; omega
            have f := q1 j _ _ (List.getElem?_eq_getElem j1) (List.getElem?_eq_getElem j2)
            obtain ⟨v1, hv1, iv1⟩ := IsL.get h2 (List.getElem?_eq_getElem j1)
            obtain ⟨v2, hv2, iv2⟩ := IsL.get h4 (List.getElem?_eq_getElem j2)
            obtain ⟨u1, hu1', ru1⟩ := rvs.get hv1
            obtain ⟨u2, hu2', ru2⟩ := rvs'.get hv2
            have E1 : its.toArray[j] = u1 := by
              have := List.getElem?_eq_some_iff.mp hu1'
              obtain ⟨_, h⟩ := this
              simpa using h
            have E2 : its'.toArray[j] = u2 := by
              have := List.getElem?_eq_some_iff.mp hu2'
              obtain ⟨_, h⟩ := this
              simpa using h
            rw [E1, E2]
            exact (eq_at I n A.in1 _ _ _ _ _ _ _ hu1 iv1 iv2 ru1 ru2 f).1
          exact ⟨SeqAt.RcAt.lists pl.isList pl'.isList hsz hu0 he, SeqAt.RcNeAt.lists pl.isList pl'.isList hsz hu0 he⟩
        · rename_i c
          cases e
          have hsz : (its.toArray.size != its'.toArray.size) = true := by simp; omega
          exact ⟨SeqAt.RcAt.lists_lengths pl.isList pl'.isList hsz hu0, SeqAt.RcNeAt.lists_lengths pl.isList pl'.isList hsz hu0⟩
      refine ⟨?_, main⟩
      by_cases ha : a = a'
      · subst ha
        have := eqF_refl I (n + 1) _ _ _ _ hx0 hy0 e0
        subst this
        exact .same _
      · exact .of_refs ha main.1
    · rename_i xs ys
      have hx0 := hx
      have hy0 := hy
      obtain ⟨a, vs, rfl, h1, h2⟩ := hx
      obtain ⟨a', vs', rfl, h3, h4⟩ := hy
      cases rv
      cases rw'
      obtain ⟨its, rvs, pl, hz⟩ := I.tuple h1.sq
      obtain ⟨its', rvs', pl', hz'⟩ := I.tuple h3.sq
      have l1 := rvs.length
      have l2 := rvs'.length
      have l3 : vs.length = xs.length := IsL.length h2
      have l4 : vs'.length = ys.length := IsL.length h4
      have main : SeqAt.RcAt A s (.ref a) (.ref a') b ∧ SeqAt.RcNeAt A s (.ref a) (.ref a') (!b) := by
        cases ez : zipB (eqF n) xs ys with
        | none => rw [ez] at e; cases e
        | some c =>
          rw [ez] at e
          obtain ⟨q1, q2⟩ := zipB_spec ez
          have s1 : xs.length = its.toArray.size := by simp; omega
          have s2 : ys.length = its'.toArray.size := by simp; omega
          have e' : (c && (xs.length == ys.length)) = b := Option.some.inj e
          rw [q2] at e'
          have he : ∀ j (g1 : j < its.toArray.size) (g2 : j < its'.toArray.size), SeqAt.EqAt A.in1 s its.toArray[j] its'.toArray[j] (eqJ (eqF n) xs ys j) := fun j g1 g2 => by
            have j1 : j < xs.length := by simp at g1; omega
            have j2 : j < ys.length := by simp at g2; omega
            have f := q1 j _ _ (List.getElem?_eq_getElem j1) (List.getElem?_eq_getElem j2)
            obtain ⟨v1, hv1, iv1⟩ := IsL.get h2 (List.getElem?_eq_getElem j1)
            obtain ⟨v2, hv2, iv2⟩ := IsL.get h4 (List.getElem?_eq_getElem j2)
            obtain ⟨u1, hu1', ru1⟩ := rvs.get hv1
            obtain ⟨u2, hu2', ru2⟩ := rvs'.get hv2
            have E1 : its.toArray[j] = u1 := by
              have := List.getElem?_eq_some_iff.mp hu1'
              obtain ⟨_, h⟩ := this
              simpa using h
            have E2 : its'.toArray[j] = u2 := by
              have := List.getElem?_eq_some_iff.mp hu2'
              obtain ⟨_, h⟩ := this
              simpa using h
            rw [E1, E2]
            exact (eq_at I n A.in1 _ _ _ _ _ _ _ hu1 iv1 iv2 ru1 ru2 f).1
          subst e'
          have R1 := SeqAt.RcAt.tuples (A := A) (e := eqJ (eqF n) xs ys) pl pl' hu0 he
          have R2 := SeqAt.RcNeAt.tuples (A := A) (e := eqJ (eqF n) xs ys) pl pl' hu0 he
          rw [← s1, ← s2] at R1 R2
          exact ⟨R1, R2⟩
      refine ⟨?_, main⟩
      by_cases ha : a = a'
      · subst ha
        have := eqF_refl I (n + 1) _ _ _ _ hx0 hy0 e0
        subst this
        exact .same _
      · exact .of_refs ha main.1
    · exact eqA_at hx hy rv rw' e
end
section
variable {X : Cx} {E : Str → Hp → Prop} {pos : Pos}
def rEqD (K : PySem.W.Frag) (ne : Bool) : R2 := fun v w H Q => ∃ x y b, Is K Tr H x v ∧ Is K Tr H y w ∧ eqF 6 x y = some b ∧ Q (.bl (if ne = true then !b else b)) H
theorem op_eqD (hu : X.A.units + 6 < cLine) : OpR X (compareOp .Eq) (rEqD X.K false) := by
  intro pins s σ H v w u u' Q I rx ry h
  obtain ⟨x, y, b, hx, hy, e, q⟩ := h
  exact (eq_at I 6 X.A x y v w u u' b hu hx hy rx ry e).2.1 X.prog X.w _ _ ⟨.bl b, H, I, rfl, q⟩
theorem op_neD (hu : X.A.units + 6 < cLine) : OpR X (compareOp .NotEq) (rEqD X.K true) := by
  intro pins s σ H v w u u' Q I rx ry h
  obtain ⟨x, y, b, hx, hy, e, q⟩ := h
  exact (eq_at I 6 X.A x y v w u u' b hu hx hy rx ry e).2.2 X.prog X.w _ _ ⟨.bl (!b), H, I, rfl, q⟩
def kEq (x y : D) : Option D := (eqF 6 x y).map .bl
def kNe (x y : D) : Option D := (eqF 6 x y).map fun b => .bl (!b)
theorem ker_eqD : Ker2 X (rEqD X.K false) kEq := fun x y d e => by
  unfold kEq at e
  cases h : eqF 6 x y with
  | none => rw [h] at e; cases e
  | some b =>
    rw [h] at e; cases e
    exact ⟨_, rfl, fun H v w Q i1 i2 q => ⟨x, y, b, i1, i2, h, q⟩⟩
theorem ker_neD : Ker2 X (rEqD X.K true) kNe := fun x y d e => by
  unfold kNe at e
  cases h : eqF 6 x y with
  | none => rw [h] at e; cases e
  | some b =>
    rw [h] at e; cases e
    exact ⟨_, rfl, fun H v w Q i1 i2 q => ⟨x, y, b, i1, i2, h, q⟩⟩
theorem Room.u6 {k : Nat} {A : Around} (r : Room k A) : A.units + 6 < cLine := by have := r.un; omega
end
end DL

namespace DL
open PySem PySem.Spec PyProof.Rows L2
/-! ### targets of a comprehension -/
def Kp (nt : Nat) (b : D → DE → R DE) : Prop := ∀ (d : D) (r ts e' : DE), ts.length = nt → b d (ts ++ r) = .ok e' → ∃ ts', e' = ts' ++ r ∧ ts'.length = nt
theorem kpN {nt : Nat} (i : Nat) (hi : i < nt := by decide) : Kp nt fun d env => .ok (env.set i (.val d)) := fun d r ts e' hl h => by
  cases h
  exact ⟨ts.set i (.val d), by rw [List.set_append_left _ _ (by omega)], by simp [hl]⟩
theorem Kp.ok {nt : Nat} {b : D → DE → R DE} (h : Kp nt b) : ∀ ds d e, b d (cpE nt ds) = .ok e → ∃ ts, e = ts ++ ds.map Sl.val ∧ ts.length = nt := fun ds d e q => h d _ _ e (by simp) q
/-! ### a def's facts together -/
structure Df (K : PySem.W.Frag) (mg : Str → Option Value) (x : Str) (st : Stmt) (ps : List Str) (f : Addr) (fd : FuncData) : Prop where
  F : Fun K x x st f fd
  b : Binds K fd ps []
  m : mg x = some (.ref f)
  ns : PySem.W.nsIn K mainGlobals x = some (some (.ref f))
abbrev xc0 : Str → Value := fun _ => .none
section
variable {X : Cx} {E : Str → Hp → Prop} {pos : Pos} {k : Nat} {fa : Addr} {fd : FuncData} {st : Stmt} {ps : List Str} {x : Str} {p : Pos} {e : Expr} {es : List Expr} {f : DE → R (List D)}
theorem fD1 {m : List D → R D} (d : Df X.K X.mg x st ps fa fd) (F : FnOk X.prog X.w X.K X.mg X.base CX0 k fa fd ps (spD X.K xc0 m)) (hr : Room k X.A)
    (ha : PA X (e :: es) (tAr X.K E f)) (hg : Gl X x := by rfl) (hdb : (x == ("__debug__" : Str)) = false := by decide) (he : starEach (e :: es) X.env = (false, eval e X.env) :: starEach es X.env := by rfl) (hpl : (backTo pos (starEach es X.env)).any (·.1) = false := by rfl) :
    PE X (.Call (.Name x p) (e :: es) [] pos) (tD X.K E fun env => (f env).bind m) := fD F d.m d.F.kp d.b hr passN ha hg hdb he hpl
def ScD (m : List D → R D) : Prop := ∀ ds d, m ds = .ok d → ∃ z, toV d = some z
def ScL (m : List D → R (List D)) : Prop := ∀ ds xs, m ds = .ok xs → ∀ d ∈ xs, ∃ z, toV d = some z
theorem fB1 {m : List D → R D} (hsc : ScD m) (d : Df X.K X.mg x st ps fa fd) (F : FnOk X.prog X.w X.K X.mg X.base CX0 k fa fd ps (spD X.K xc0 m)) (hr : Room k X.A)
    (ha : PA X (e :: es) (tArB X.K E f)) (hg : Gl X x := by rfl) (hdb : (x == ("__debug__" : Str)) = false := by decide) (he : starEach (e :: es) X.env = (false, eval e X.env) :: starEach es X.env := by rfl) (hpl : (backTo pos (starEach es X.env)).any (·.1) = false := by rfl) :
    PE X (.Call (.Name x p) (e :: es) [] pos) (tD X.K E fun env => (f env).bind m) := fB F hsc d.m d.F.kp d.b hr passN ha hg hdb he hpl
theorem fF1 {m : List D → R (List D)} (d : Df X.K X.mg x st ps fa fd) (F : FnOk X.prog X.w X.K X.mg X.base CX0 k fa fd ps (spF X.K xc0 m)) (hr : Room k X.A)
    (ha : PA X (e :: es) (tAr X.K E f)) (hg : Gl X x := by rfl) (hdb : (x == ("__debug__" : Str)) = false := by decide) (he : starEach (e :: es) X.env = (false, eval e X.env) :: starEach es X.env := by rfl) (hpl : (backTo pos (starEach es X.env)).any (·.1) = false := by rfl) :
    PE X (.Call (.Name x p) (e :: es) [] pos) (tF X.K E fun env => (f env).bind m) := fF F d.m d.F.kp d.b hr passN ha hg hdb he hpl
end
abbrev Ok (P : Program) (w : World) (K : PySem.W.Frag) (mg : Str → Option Value) (base : Heap) (k : Nat) (f : Addr) (fd : FuncData) (ps : List Str) (m : List D → R D) : Prop := FnOk P w K mg base CX0 k f fd ps (spD K xc0 m)
abbrev OkF (P : Program) (w : World) (K : PySem.W.Frag) (mg : Str → Option Value) (base : Heap) (k : Nat) (f : Addr) (fd : FuncData) (ps : List Str) (m : List D → R (List D)) : Prop := FnOk P w K mg base CX0 k f fd ps (spF K xc0 m)
section
variable {P : Program} {w : World} {K : PySem.W.Frag} {mg : Str → Option Value} {base : Heap}
theorem mkD {x : Str} {st : Stmt} {f : Addr} {fd : FuncData} {N ps : List Str} {k : Nat} {m : List D → R D} {b : DE → R Out} (S : FnScope N ps (defScope st)) (d : Df K mg x st ps f fd)
    (hb : ∀ (cdv : Value) (A : Around) (outer : List Env) (s : Shared) (H : Hp) (E : XK), Room k (A.deeper (envOfC x (defScope st) s.heap.objs.size f cdv)) → PSs (cxOf CX0 P w K mg base N x (defScope st) f cdv A outer s H E).nox (defBody st) (tS K EN b))
    (hm : ∀ ds d, m ds = .ok d → ds.length = ps.length ∧ (b (initE N.length ds)).bind valO = .ok d) (hne : ∀ ds c, m ds ≠ .err c) :
    Ok P w K mg base (k + 1) f fd ps m := defD d.F S hm hne hb
theorem mkF {x : Str} {st : Stmt} {f : Addr} {fd : FuncData} {N ps : List Str} {k : Nat} {m : List D → R (List D)} {b : DE → R Out} (S : FnScope N ps (defScope st)) (d : Df K mg x st ps f fd)
    (hb : ∀ (cdv : Value) (A : Around) (outer : List Env) (s : Shared) (H : Hp) (E : XK), Room k (A.deeper (envOfC x (defScope st) s.heap.objs.size f cdv)) → PSs (cxOf CX0 P w K mg base N x (defScope st) f cdv A outer s H E).nox (defBody st) (tS K EN b))
    (hm : ∀ ds d, m ds = .ok d → ds.length = ps.length ∧ (b (initE N.length ds)).bind lstO = .ok d) (hne : ∀ ds c, m ds ≠ .err c) :
    OkF P w K mg base (k + 1) f fd ps m := defF d.F S hm hne hb
theorem Ok.mono {f : Addr} {fd : FuncData} {ps : List Str} {j k : Nat} {sp : Sp} (h : FnOk P w K mg base CX0 j f fd ps sp) (hl : j ≤ k) : FnOk P w K mg base CX0 k f fd ps sp := by
  obtain ⟨h1, h2⟩ := h
  exact ⟨h1, fun A outer s H args us vs Q E hr => h2 A outer s H args us vs Q E (hr.mono hl)⟩
end
/-! ### more rules -/
section
variable {X : Cx} {E : Str → Hp → Prop} {pos : Pos}
end
end DL

namespace DL
open PySem PySem.Spec PyProof.Rows L2
/-! ### int addition alone; a comprehension's scope; freezing behind a statement -/
def kAddI : D → D → Option D
  | .int i, .int j => some (.int (i + j))
  | _, _ => none
theorem ker_addI {X : Cx} : Ker2 X (rI0 fun i j => .int (i + j)) kAddI := ker_int0 (h := fun i j => .int (i + j)) (fun _ _ => rfl) fun x y d e => by
  unfold kAddI at e
  split at e <;> cases e
  exact ⟨_, _, rfl, rfl, rfl⟩
def cpChk (osc sc : Scope) (XN N : List Str) (nt : Nat) (caps : List Nat) : Bool :=
  sc.kind == .function && sc.names.all (fun y => y.2 != .cell && (y.2 != .local || sc.names.lookup y.1 == some .local) && (y.2 != .free || osc.names.lookup y.1 == some .cell || osc.names.lookup y.1 == some .free)) &&
  N.length == nt + caps.length && decide N.Nodup && (List.range caps.length).all fun j => match caps[j]?, N[nt + j]? with
    | some i, some x => XN[i]? == some x && sc.names.lookup x == some .free && (osc.names.lookup x == some .local || osc.names.lookup x == some .cell || osc.names.lookup x == some .free)
    | _, _ => false
theorem cpS {X : Cx} {sc : Scope} {N : List Str} {nt : Nat} {caps : List Nat} (osc : Scope) (XN : List Str) (h : cpChk osc sc XN N nt caps = true) (hsc : X.env.scope = osc := by rfl) (hN : X.N = XN := by rfl) : CpScope X sc N nt caps := by
  subst hsc hN
  unfold cpChk at h
  simp only [Bool.and_eq_true, List.all_eq_true, Bool.or_eq_true, decide_eq_true_eq, beq_iff_eq, bne_iff_ne, ne_eq] at h
  obtain ⟨⟨⟨⟨h1, h2⟩, h3⟩, h4⟩, h5⟩ := h
  refine ⟨by simpa using h1, fun y hy => (h2 y hy).1.1, fun y hy e => ?_, fun y hy e => ?_, h3, h4, fun j i e => ?_⟩
  · rcases (h2 y hy).1.2 with q | q
    · exact absurd e q
    · exact q
  · rcases (h2 y hy).2 with (q | q) | q
    · exact absurd e q
    · exact .inl q
    · exact .inr q
  · have hj : j < caps.length := (List.getElem?_eq_some_iff.mp e).1
    have q := h5 j (by simpa using hj)
    rw [e] at q
    cases hx : N[nt + j]? with
    | none => rw [hx] at q; exact absurd q (by simp)
    | some x =>
      rw [hx] at q
      simp only [Bool.and_eq_true, Bool.or_eq_true, beq_iff_eq] at q
      obtain ⟨⟨q1, q2⟩, q3⟩ := q
      refine ⟨x, rfl, q1, q2, ?_⟩
      rcases q3 with (q3 | q3) | q3
      · exact .inl q3
      · exact .inr (.inl q3)
      · exact .inr (.inr q3)
def frzO (i : Nat) : Out → R Out
  | .nx e => .ok (.nx (frz i e))
  | o => .ok o
theorem sFrzA {X : Cx} {E : Str → Hp → Prop} (i : Nat) {st : Stmt} {f : DE → R Out} (h : PS X st (tS X.K E f)) : PS X st (tS X.K E fun env => (f env).bind (frzO i)) := impS h fun De σ H ⟨g, env, os, r, m⟩ =>
  ⟨g, env, os, r, m.bind.mono fun o _ q => by
    cases o with
    | nx e =>
      intro σ' H' os' r' z
      have q' : PostO X.K g H os De (.nx (frz i e)) := q
      unfold frz at q'
      split at q'
      · rename_i xs he
        obtain ⟨os2, r2, hs⟩ := r'.freeze' he
        exact q' σ' H' os2 r2 (z.trans ⟨fun a ha => .inl (hs a ha), fun _ h => h, fun _ _ _ h => h⟩)
      · exact q' σ' H' os' r' z
    | bk e => exact q
    | ct e => exact q
    | rt d => exact q
    | rtF xs => exact q
    | rtP xs => exact q
    | rtQ xs => exact q
    | rtT xs => exact q⟩
/-! ### values of the kernels -/
theorem kAddI_i (i j : Int) : kAddI (.int i) (.int j) = some (.int (i + j)) := rfl
theorem kSub_i (i j : Int) : kSub (.int i) (.int j) = some (.int (i - j)) := rfl
theorem kNeg_i (i : Int) : kNeg (.int i) = some (.int (-i)) := rfl
theorem kLt_i (i j : Int) : kLt (.int i) (.int j) = some (.bl (decide (i < j))) := rfl
theorem kLe_i (i j : Int) : kLe (.int i) (.int j) = some (.bl (decide (i ≤ j))) := rfl
theorem kGt_i (i j : Int) : kGt (.int i) (.int j) = some (.bl (decide (j < i))) := rfl
theorem kGe_i (i j : Int) : kGe (.int i) (.int j) = some (.bl (decide (j ≤ i))) := rfl
theorem kEq_i (i j : Int) : kEq (.int i) (.int j) = some (.bl (i == j)) := rfl
theorem kNe_i (i j : Int) : kNe (.int i) (.int j) = some (.bl (!(i == j))) := rfl
theorem kEq_s (i j : Str) : kEq (.str i) (.str j) = some (.bl (i == j)) := rfl
theorem kNe_s (i j : Str) : kNe (.str i) (.str j) = some (.bl (!(i == j))) := rfl
theorem kMul_i (i j : Int) (h : (-(2 ^ 64) < i ∧ i < 2 ^ 64) ∨ (-(2 ^ 64) < j ∧ j < 2 ^ 64)) : kMul (.int i) (.int j) = some (.int (i * j)) := if_pos h
theorem kDiv_i (i j : Int) (h : 0 < j ∧ j < 1073741824) : kDiv (.int i) (.int j) = some (.int (i / j)) := if_pos h
theorem kMod_i (i j : Int) (h : 0 < j) : kMod (.int i) (.int j) = some (.int (i % j)) := if_pos h
theorem kPow_i (i j : Int) (h : 0 ≤ j ∧ j ≤ 1000000 ∧ i.natAbs < 2 ^ 64) : kPow (.int i) (.int j) = some (.int (i ^ j.toNat)) := if_pos h
theorem ten9 : (10 : Int) ^ (9 : Nat) = 1000000000 := by
  rw [show (10 : Int) = ((10 : Nat) : Int) from rfl, ← Int.natCast_pow]
  rfl
theorem ten9' : (10 : Int) ^ (9 : Int).toNat = 1000000000 := ten9
theorem kPow_109 : kPow (.int 10) (.int 9) = some (.int 1000000000) := (kPow_i 10 9 (by decide)).trans (by rw [ten9'])
theorem kAbs_i (i : Int) : kAbs [.int i] = some (.int (if i < 0 then -i else i)) := rfl
theorem kMax2_i (i j : Int) : kMax2 [.int i, .int j] = some (.int (if j > i then j else i)) := rfl
theorem kLen_l (xs : List D) : kLen [.lst xs] = some (.int xs.length) := rfl
theorem kLen_t (xs : List D) : kLen [.tup xs] = some (.int xs.length) := rfl
theorem asB_b (b : Bool) : asB (.bl b) = .ok b := rfl
theorem asL_l (xs : List D) : asL (.lst xs) = .ok xs := rfl
theorem asI_i (i : Int) : asI (.int i) = .ok (some i) := rfl
theorem ixL_i (xs : List D) (i : Int) : ixL xs (.int i) = R.of (atI xs i) := rfl
theorem ixD_l (xs : List D) (i : Int) : ixD (.lst xs) (.int i) = R.of (atI xs i) := rfl
theorem ixD_t (xs : List D) (i : Int) : ixD (.tup xs) (.int i) = R.of (atI xs i) := rfl
theorem fit_ok {α : Type} {xs : List α} (h : xs.length ≤ sizeLine) : fit xs = .ok xs := if_pos h
theorem big {n : Nat} (h : n ≤ 1000000) : n ≤ sizeLine := Nat.le_trans h (by decide)
theorem fit0 {α : Type} : fit ([] : List α) = .ok [] := fit_ok (big (by simp))
theorem fit1 {α : Type} (a : α) : fit [a] = .ok [a] := fit_ok (big (by simp))
theorem fit2 {α : Type} (a b : α) : fit [a, b] = .ok [a, b] := fit_ok (big (by simp))
theorem fit3 {α : Type} (a b c : α) : fit [a, b, c] = .ok [a, b, c] := fit_ok (big (by simp))
theorem fit4 {α : Type} (a b c d : α) : fit [a, b, c, d] = .ok [a, b, c, d] := fit_ok (big (by simp))
/-! ### loops -/
theorem seqO_nx (e : DE) (k : DE → R Out) : seqO (.ok (.nx e)) k = k e := rfl
theorem seqO_rt (d : D) (k : DE → R Out) : seqO (.ok (.rt d)) k = .ok (.rt d) := rfl
theorem seqO_rtF (d : List D) (k : DE → R Out) : seqO (.ok (.rtF d)) k = .ok (.rtF d) := rfl
theorem frzO_nx (i : Nat) (e : DE) : frzO i (.nx e) = .ok (.nx (frz i e)) := rfl
theorem for_at {S : Type} {b : D → DE → R Out} (J : Nat → S → Prop) (Ev : S → DE) : ∀ (xs : List D) (i : Nat) (s : S), J i s → (∀ (j : Nat) (s : S) (x : D), J (i + j) s → xs[j]? = some x → ∃ s', b x (Ev s) = .ok (.nx (Ev s')) ∧ J (i + j + 1) s') → ∃ s', forD b xs (Ev s) = .ok (.nx (Ev s')) ∧ J (i + xs.length) s'
  | [], i, s, hI, h => ⟨s, rfl, hI⟩
  | x :: xs, i, s, hI, h => by
    obtain ⟨s1, h1, h2⟩ := h 0 s x hI rfl
    obtain ⟨s2, h3, h4⟩ := for_at J Ev xs (i + 1) s1 (by simpa using h2) fun j s y hs hy => by
      have e : i + 1 + j = i + (j + 1) := by omega
      rw [e] at hs ⊢
      exact h (j + 1) s y hs (by simpa using hy)
    refine ⟨s2, ?_, by rw [List.length_cons]; have e : i + (xs.length + 1) = i + 1 + xs.length := by omega
                       rw [e]; exact h4⟩
    unfold forD
    rw [h1]
    exact h3
theorem compD_map {b : D → DE → R DE} {ct : DE → R Bool} {fe : DE → R D} {e₀ : DE} (g : D → D) : ∀ (xs : List D), (∀ x ∈ xs, ∃ e, b x e₀ = .ok e ∧ ct e = .ok true ∧ fe e = .ok (g x)) → compD b ct fe e₀ xs = .ok (xs.map g)
  | [], _ => rfl
  | x :: xs, h => by
    obtain ⟨e, h1, h2, h3⟩ := h x (by simp)
    have ih := compD_map g xs fun y hy => h y (by simp [hy])
    unfold compD
    rw [h1, R.ok_bind, h2, R.ok_bind, if_pos rfl, h3, R.ok_bind, ih]
    rfl
/-! ### lists of ints -/
def ofI (ns : List Int) : List D := ns.map .int
theorem ofI_len (ns : List Int) : (ofI ns).length = ns.length := List.length_map _
def toI : List D → Option (List Int)
  | [] => some []
  | .int i :: r => (toI r).map (i :: ·)
  | _ :: _ => none
theorem toI_of (ns : List Int) : toI (ofI ns) = some ns := by
  induction ns with
  | nil => rfl
  | cons x r ih => show (toI (ofI r)).map (x :: ·) = _; rw [ih]; rfl
theorem of_toI : ∀ {xs : List D} {ns : List Int}, toI xs = some ns → xs = ofI ns
  | [], ns, h => by cases h; rfl
  | .int i :: r, ns, h => by
    unfold toI at h
    cases e : toI r with
    | none => rw [e] at h; cases h
    | some ms => rw [e] at h; cases h; rw [of_toI e]; rfl
  | .non :: r, _, h => by cases h
  | .bl _ :: r, _, h => by cases h
  | .str _ :: r, _, h => by cases h
  | .lst _ :: r, _, h => by cases h
  | .tup _ :: r, _, h => by cases h
theorem zipB_ints (n : Nat) : ∀ (a b : List Int), a.length = b.length → zipB (eqF n) (ofI a) (ofI b) = some (decide (a = b))
  | [], [], _ => rfl
  | [], _ :: _, h => by simp at h
  | _ :: _, [], h => by simp at h
  | x :: a, y :: b, h => by
    have ih := zipB_ints n a b (by simpa using h)
    show (eqF n (.int x) (.int y)).bind _ = _
    have e : eqF n (.int x) (.int y) = some (x == y) := by cases n <;> rfl
    rw [e]
    show (zipB (eqF n) (ofI a) (ofI b)).map ((x == y) && ·) = _
    rw [ih]
    show some ((x == y) && decide (a = b)) = some (decide (x :: a = y :: b))
    congr 1
    rw [Bool.eq_iff_iff]
    simp
theorem eqF_ints (n : Nat) (a b : List Int) : eqF (n + 1) (.lst (ofI a)) (.lst (ofI b)) = some (decide (a = b)) := by
  show (if (ofI a).length = (ofI b).length then zipB (eqF n) (ofI a) (ofI b) else some false) = _
  split
  · rename_i h
    exact zipB_ints n a b (by simpa [ofI_len] using h)
  · rename_i h
    congr 1
    symm
    rw [decide_eq_false_iff_not]
    rintro rfl
    exact h rfl
theorem atI_ofI (ns : List Int) (i : Int) : atI (ofI ns) i = (atI ns i).map .int := by
  unfold L2.atI
  rw [ofI_len]
  cases ixN ns.length i with
  | none => rfl
  | some j => exact List.getElem?_map
theorem cut_ofI (ns : List Int) (lo hi : Option Int) : cut (ofI ns) lo hi = ofI (cut ns lo hi) := by
  unfold cut
  rw [ofI_len]
  simp only [ofI, List.map_take, List.map_drop]
end DL

namespace DL
open PySem PySem.Spec PyProof.Rows L2
/-! ### readings with names -/
def bN (i : Nat) (d : D) (env : DE) : R DE := .ok (env.set i (.val d))
def bNil : List D → DE → R DE
  | [], env => .ok env
  | _ :: _, _ => .bad
def bCons (b : D → DE → R DE) (k : List D → DE → R DE) : List D → DE → R DE
  | d :: r, env => (b d env).bind fun e' => k r e'
  | [], _ => .bad
def bT (n : Nat) (b : List D → DE → R DE) : D → DE → R DE
  | .tup ds, env => if ds.length = n then b ds env else .bad
  | _, _ => .bad
section
variable {X : Cx} {E : Str → Hp → Prop} {pos : Pos}
theorem gN2 (i : Nat) {x : Str} (hN : X.N.Nodup) (hi : X.N[i]? = some x := by rfl) (hx : Loc X.env.scope x := by first | exact Or.inl rfl | exact Or.inr rfl) (hf : X.fn x = true ∨ X.env.scope.names.lookup x = some .local := by first | exact .inl rfl | exact .inr rfl | assumption) :
    PG X (.Name x pos) (tG X.K E (bN i)) := gN i hN hi hx hf
theorem gsNil2 : PGs X [] (tGs X.K E bNil) := by
  have e : bNil = fun ds env => match ds with
    | [] => .ok env
    | _ => .bad := by funext ds env; cases ds <;> rfl
  rw [e]; exact gsNil
theorem gsCons2 {e : Expr} {es : List Expr} {b : D → DE → R DE} {k : List D → DE → R DE} (h1 : PG X e (tG X.K E b)) (h2 : PGs X es (tGs X.K E k)) (hs : (assignEach (e :: es) X.env).map (·.2) = assign e X.env :: (assignEach es X.env).map (·.2) := by rfl) :
    PGs X (e :: es) (tGs X.K E (bCons b k)) := by
  have e' : bCons b k = fun ds env => match ds with
      | d :: r => (b d env).bind fun e' => k r e'
      | _ => .bad := by funext ds env; cases ds <;> rfl
  rw [e']; exact gsCons h1 h2 hs
theorem gT2 {es : List Expr} {kk : Nat} {b : List D → DE → R DE} (n : Nat) (hc : X.calm = true) (h : PGs X es (tGs X.K E b)) (hn : (assignEach es X.env).length = n := by rfl) (hst : (assignEach es X.env).findIdx? (·.1) = none := by rfl) :
    PG X (.Tuple es kk pos) (tG X.K E (bT n b)) := by
  have e' : bT n b = fun d env => match d with
      | .tup ds => if ds.length = n then b ds env else .bad
      | _ => .bad := by funext d env; cases d <;> rfl
  rw [e']; exact gT hc h hn hst
theorem kpN2 {nt : Nat} (i : Nat) (hi : i < nt := by decide) : Kp nt (bN i) := kpN i hi
end
/-! ### a def's answer from its body's reading -/
def scO (d : D) : R D := match toV d with
  | some _ => .ok d
  | none => .bad
theorem scO_ok {x d : D} (h : scO x = .ok d) : x = d ∧ ∃ z, toV d = some z := by
  unfold scO at h
  cases e : toV x with
  | none => rw [e] at h; cases h
  | some z => rw [e] at h; cases h; exact ⟨rfl, z, e⟩
def scL : List D → R (List D)
  | [] => .ok []
  | x :: r => (scO x).bind fun y => (scL r).bind fun ys => .ok (y :: ys)
theorem scL_ok : ∀ {xs ys : List D}, scL xs = .ok ys → xs = ys ∧ ∀ d ∈ ys, ∃ z, toV d = some z
  | [], ys, h => by cases h; exact ⟨rfl, fun d hd => nomatch hd⟩
  | x :: r, ys, h => by
    unfold scL at h
    obtain ⟨y, h1, h2⟩ := R.bind_ok h
    obtain ⟨zs, h3, h4⟩ := R.bind_ok h2
    cases h4
    obtain ⟨rfl, hz⟩ := scO_ok h1
    obtain ⟨rfl, hs⟩ := scL_ok h3
    exact ⟨rfl, fun d hd => (List.mem_cons.mp hd).elim (fun e => by rw [e]; exact hz) (hs d)⟩
theorem scO_i (i : Int) : scO (.int i) = .ok (.int i) := rfl
theorem scO_b (i : Bool) : scO (.bl i) = .ok (.bl i) := rfl
theorem scO_s (i : Str) : scO (.str i) = .ok (.str i) := rfl
theorem scO_n : scO .non = .ok .non := rfl
theorem scL_i (ns : List Int) : scL (ofI ns) = .ok (ofI ns) := by
  induction ns with
  | nil => rfl
  | cons x r ih => show (scO (.int x)).bind (fun y => (scL (ofI r)).bind fun ys => .ok (y :: ys)) = _; rw [ih]; rfl
def mD (n N : Nat) (b : DE → R Out) (ds : List D) : R D := if ds.length = n then ((b (initE N ds)).bind valO).ne else .bad
def mS (n N : Nat) (b : DE → R Out) (ds : List D) : R D := if ds.length = n then (((b (initE N ds)).bind valO).bind scO).ne else .bad
def mF (n N : Nat) (b : DE → R Out) (ds : List D) : R (List D) := if ds.length = n then ((b (initE N ds)).bind lstO).ne else .bad
def mFS (n N : Nat) (b : DE → R Out) (ds : List D) : R (List D) := if ds.length = n then (((b (initE N ds)).bind lstO).bind scL).ne else .bad
theorem R.ne_of {α : Type} {r : R α} {a : α} (h : r.ne = .ok a) : r = .ok a := by
  cases r with
  | ok b => exact h
  | err c => cases h
  | bad => cases h
theorem R.ne_ne {α : Type} {r : R α} {c : Str} : r.ne ≠ .err c := by
  cases r <;> intro h <;> cases h
theorem scd {n N : Nat} {b : DE → R Out} : ScD (mS n N b) := fun ds d h => by
  unfold mS at h
  split at h
  · obtain ⟨x, _, h2⟩ := R.bind_ok (R.ne_of h)
    exact (scO_ok h2).2
  · cases h
section
variable {P : Program} {w : World} {K : PySem.W.Frag} {mg : Str → Option Value} {base : Heap}
variable {x : Str} {st : Stmt} {f : Addr} {fd : FuncData} {N ps : List Str} {k : Nat} {b : DE → R Out} 
theorem okD (S : FnScope N ps (defScope st)) (d : Df K mg x st ps f fd)
    (hb : ∀ (cdv : Value) (A : Around) (outer : List Env) (s : Shared) (H : Hp) (E : XK), Room k (A.deeper (envOfC x (defScope st) s.heap.objs.size f cdv)) → PSs (cxOf CX0 P w K mg base N x (defScope st) f cdv A outer s H E).nox (defBody st) (tS K EN b)) :
    Ok P w K mg base (k + 1) f fd ps (mD ps.length N.length b) := mkD S d hb (fun ds e h => by
  unfold mD at h
  split at h
  · rename_i c
    exact ⟨c, R.ne_of h⟩
  · cases h) fun ds c h => by
  unfold mD at h
  split at h
  · exact R.ne_ne h
  · cases h
theorem okS (S : FnScope N ps (defScope st)) (d : Df K mg x st ps f fd)
    (hb : ∀ (cdv : Value) (A : Around) (outer : List Env) (s : Shared) (H : Hp) (E : XK), Room k (A.deeper (envOfC x (defScope st) s.heap.objs.size f cdv)) → PSs (cxOf CX0 P w K mg base N x (defScope st) f cdv A outer s H E).nox (defBody st) (tS K EN b)) :
    Ok P w K mg base (k + 1) f fd ps (mS ps.length N.length b) := mkD S d hb (fun ds e h => by
  unfold mS at h
  split at h
  · rename_i c
    obtain ⟨y, h1, h2⟩ := R.bind_ok (R.ne_of h)
    obtain ⟨rfl, _⟩ := scO_ok h2
    exact ⟨c, h1⟩
  · cases h) fun ds c h => by
  unfold mS at h
  split at h
  · exact R.ne_ne h
  · cases h
theorem okFS (S : FnScope N ps (defScope st)) (d : Df K mg x st ps f fd)
    (hb : ∀ (cdv : Value) (A : Around) (outer : List Env) (s : Shared) (H : Hp) (E : XK), Room k (A.deeper (envOfC x (defScope st) s.heap.objs.size f cdv)) → PSs (cxOf CX0 P w K mg base N x (defScope st) f cdv A outer s H E).nox (defBody st) (tS K EN b)) :
    OkF P w K mg base (k + 1) f fd ps (mFS ps.length N.length b) := mkF S d hb (fun ds e h => by
  unfold mFS at h
  split at h
  · rename_i c
    obtain ⟨y, h1, h2⟩ := R.bind_ok (R.ne_of h)
    obtain ⟨rfl, _⟩ := scL_ok h2
    exact ⟨c, h1⟩
  · cases h) fun ds c h => by
  unfold mFS at h
  split at h
  · exact R.ne_ne h
  · cases h
end
/-! ### slots -/
section
variable {d : D} {xs : List D} {r : DE} {a : Sl} {i : Nat}
theorem slV_0 : slV 0 (.val d :: r) = .ok d := rfl
theorem slV_s : slV (i + 1) (a :: r) = slV i r := rfl
theorem slB_0 : slB 0 (.val d :: r) = .ok d := rfl
theorem slB_0o : slB 0 (.own xs :: r) = .ok (.lst xs) := rfl
theorem slB_s : slB (i + 1) (a :: r) = slB i r := rfl
theorem slL_0 : slL 0 (.val (.lst xs) :: r) = .ok xs := rfl
theorem slL_0o : slL 0 (.own xs :: r) = .ok xs := rfl
theorem slL_s : slL (i + 1) (a :: r) = slL i r := rfl
theorem own_0 : ownAt 0 (.own xs :: r) = .ok xs := rfl
theorem own_s : ownAt (i + 1) (a :: r) = ownAt i r := rfl
theorem frz_0 : frz 0 (.own xs :: r) = .val (.lst xs) :: r := rfl
theorem frz_s : frz (i + 1) (a :: r) = a :: frz i r := by
  unfold frz
  rw [List.getElem?_cons_succ]
  cases e : r[i]? with
  | none => rfl
  | some sl => cases sl <;> rfl
end
theorem bT2 (i j : Nat) (a b : D) (env : DE) : bT 2 (bCons (bN i) (bCons (bN j) bNil)) (.tup [a, b]) env = .ok ((env.set i (.val a)).set j (.val b)) := rfl
theorem bN_ok (i : Nat) (a : D) (env : DE) : bN i a env = .ok (env.set i (.val a)) := rfl
theorem fit_ofI {ns : List Int} (h : ns.length ≤ 1000000) : fit (ofI ns) = .ok (ofI ns) := fit_ok (by rw [ofI_len]; exact big h)
theorem ofI_app (a b : List Int) : ofI a ++ ofI b = ofI (a ++ b) := (List.map_append ..).symm
theorem sIx_none (n d : Nat) : HT.sIx n d none = d := rfl
theorem sIx_nat (n d : Nat) (i : Int) (h : 0 ≤ i) : HT.sIx n d (some i) = min i.toNat n := by
  unfold HT.sIx
  dsimp only
  split <;> omega
theorem cut_to {α : Type} (xs : List α) (m : Int) (h : 0 ≤ m) : cut xs none (some m) = xs.take m.toNat := by
  unfold cut
  rw [sIx_none, sIx_nat _ _ _ h, List.drop_zero, Nat.sub_zero]
  rcases Nat.le_total m.toNat xs.length with q | q
  · rw [Nat.min_eq_left q]
  · rw [Nat.min_eq_right q, List.take_length, List.take_of_length_le q]
theorem cut_from {α : Type} (xs : List α) (m : Int) (h : 0 ≤ m) : cut xs (some m) none = xs.drop m.toNat := by
  unfold cut
  rw [sIx_none, sIx_nat _ _ _ h]
  rcases Nat.le_total m.toNat xs.length with q | q
  · rw [Nat.min_eq_left q, List.take_of_length_le (by rw [List.length_drop]; exact Nat.le_refl _)]
  · rw [Nat.min_eq_right q, Nat.sub_self, List.take_zero, List.drop_eq_nil_of_le q]
theorem cut_of {α : Type} (xs : List α) (a b : Int) (h : 0 ≤ a) (h2 : 0 ≤ b) : cut xs (some a) (some b) = (xs.drop a.toNat).take (b.toNat - a.toNat) := by
  unfold cut
  rw [sIx_nat _ _ _ h, sIx_nat _ _ _ h2]
  rcases Nat.le_total a.toNat xs.length with q | q
  · rw [Nat.min_eq_left q]
    rcases Nat.le_total b.toNat xs.length with q2 | q2
    · rw [Nat.min_eq_left q2]
    · rw [Nat.min_eq_right q2, List.take_of_length_le (by rw [List.length_drop]; exact Nat.le_refl _), List.take_of_length_le (by rw [List.length_drop]; omega)]
  · rw [Nat.min_eq_right q, List.drop_eq_nil_of_le (Nat.le_refl _), List.drop_eq_nil_of_le q, List.take_nil, List.take_nil]
theorem enumL_ofI {cells : List Int} {j : Nat} {x : D} (h : (enumL (ofI cells))[j]? = some x) : ∃ c, cells[j]? = some c ∧ x = .tup [.int (j : Nat), .int c] := by
  obtain ⟨d, hd, rfl⟩ := enumL_get h
  unfold ofI at hd
  rw [List.getElem?_map] at hd
  cases q : cells[j]? with
  | none => rw [q] at hd; cases hd
  | some c => rw [q] at hd; cases hd; exact ⟨c, rfl, rfl⟩
theorem enumL_len (xs : List D) : (enumL xs).length = xs.length := by simp [enumL]
theorem atI_pos {α : Type} {xs : List α} {j : Int} (h : 0 ≤ j) : atI xs j = xs[j.toNat]? := by
  unfold L2.atI L2.ixN
  rw [if_pos h]
  split
  · rfl
  · rename_i c
    symm
    show _ = none
    rw [List.getElem?_eq_none_iff]
    omega
theorem isi_i (T : String) (i : Int) : isi T (.int i) = .ok (.bl (subT (tyN (.int i)) T)) := rfl
theorem isi_b (T : String) (i : Bool) : isi T (.bl i) = .ok (.bl (subT (tyN (.bl i)) T)) := rfl
theorem isi_s (T : String) (i : Str) : isi T (.str i) = .ok (.bl (subT (tyN (.str i)) T)) := rfl
theorem isi_n (T : String) : isi T .non = .ok (.bl (subT (tyN .non) T)) := rfl
theorem isi_l (T : String) (i : List D) : isi T (.lst i) = .ok (.bl (subT (tyN (.lst i)) T)) := rfl
theorem isi_t (T : String) (i : List D) : isi T (.tup i) = .ok (.bl (subT (tyN (.tup i)) T)) := rfl
theorem q1 : type_of% @List.length_cons := @List.length_cons
theorem q2 : type_of% @List.length_nil := @List.length_nil
theorem q3 : type_of% @List.map_cons := @List.map_cons
theorem q4 : type_of% @List.map_nil := @List.map_nil
theorem q5 : type_of% @List.cons_append := @List.cons_append
theorem q6 : type_of% @List.nil_append := @List.nil_append
theorem q7 : type_of% @List.replicate_zero := @List.replicate_zero
theorem q8 : type_of% @List.replicate_succ := @List.replicate_succ
theorem q9 : type_of% @if_true := @if_true
theorem q10 : type_of% @ite_true := @ite_true
theorem q11 : type_of% @Bool.false_eq_true := @Bool.false_eq_true
theorem q12 : type_of% @Bool.true_eq_false := @Bool.true_eq_false
theorem q13 : type_of% @slV_0 := @slV_0
theorem q14 : type_of% @slV_s := @slV_s
theorem q15 : type_of% @slB_0 := @slB_0
theorem q16 : type_of% @slB_0o := @slB_0o
theorem q17 : type_of% @slB_s := @slB_s
theorem q18 : type_of% @slL_0 := @slL_0
theorem q19 : type_of% @slL_0o := @slL_0o
theorem q20 : type_of% @slL_s := @slL_s
theorem q21 : type_of% @own_0 := @own_0
theorem q22 : type_of% @own_s := @own_s
theorem q23 : type_of% @frz_0 := @frz_0
theorem q24 : type_of% @frz_s := @frz_s
theorem q25 : type_of% @List.set_cons_zero := @List.set_cons_zero
theorem q26 : type_of% @List.set_cons_succ := @List.set_cons_succ
theorem q27 : type_of% @R.ok_bind := @R.ok_bind
theorem q28 : type_of% @R.of_some := @R.of_some
theorem q29 : type_of% @R.ne_ok := @R.ne_ok
theorem q30 : type_of% @asB_b := @asB_b
theorem q31 : type_of% @asL_l := @asL_l
theorem q32 : type_of% @asI_i := @asI_i
theorem q33 : type_of% @kAddI_i := @kAddI_i
theorem q34 : type_of% @kSub_i := @kSub_i
theorem q35 : type_of% @kNeg_i := @kNeg_i
theorem q36 : type_of% @kLt_i := @kLt_i
theorem q37 : type_of% @kLe_i := @kLe_i
theorem q38 : type_of% @kGt_i := @kGt_i
theorem q39 : type_of% @kGe_i := @kGe_i
theorem q40 : type_of% @kEq_i := @kEq_i
theorem q41 : type_of% @kNe_i := @kNe_i
theorem q42 : type_of% @kEq_s := @kEq_s
theorem q43 : type_of% @kNe_s := @kNe_s
theorem q44 : type_of% @kAbs_i := @kAbs_i
theorem q45 : type_of% @kMax2_i := @kMax2_i
theorem q46 : type_of% @kLen_l := @kLen_l
theorem q47 : type_of% @kLen_t := @kLen_t
theorem q48 : type_of% @ixL_i := @ixL_i
theorem q49 : type_of% @ixD_l := @ixD_l
theorem q50 : type_of% @ixD_t := @ixD_t
theorem q51 : type_of% @fit0 := @fit0
theorem q52 : type_of% @fit1 := @fit1
theorem q53 : type_of% @fit2 := @fit2
theorem q54 : type_of% @fit3 := @fit3
theorem q55 : type_of% @fit4 := @fit4
theorem q56 : type_of% @seqO_nx := @seqO_nx
theorem q57 : type_of% @seqO_rt := @seqO_rt
theorem q58 : type_of% @seqO_rtF := @seqO_rtF
theorem q59 : type_of% @scO_i := @scO_i
theorem q60 : type_of% @scO_b := @scO_b
theorem q61 : type_of% @scO_s := @scO_s
theorem q62 : type_of% @scO_n := @scO_n
theorem q63 : type_of% @frzO_nx := @frzO_nx
theorem q64 : type_of% @isi_i := @isi_i
theorem q65 : type_of% @isi_b := @isi_b
theorem q66 : type_of% @isi_s := @isi_s
theorem q67 : type_of% @isi_n := @isi_n
theorem q68 : type_of% @isi_l := @isi_l
theorem q69 : type_of% @isi_t := @isi_t
end DL
namespace DL
open PySem PySem.Spec PyProof.Rows L2
section
variable {X : Cx} {E : Str → Hp → Prop} {pos : Pos}
end
end DL

namespace DL
open PySem PySem.Spec PyProof.Rows L2
/-! ### list(reversed(xs)) -/
section
variable {prog : Program} {w : World} {A : Around} {E : Value → Shared → Prop} {s : Shared}
end
section
variable {X : Cx} {E : Str → Hp → Prop} {pos : Pos}
end
end DL

namespace DL
open PySem PySem.Spec PyProof.Rows L2
/-! ### {True: a, False: b}[i] -/
section
variable {X : Cx} {E : Str → Hp → Prop} {pos : Pos}
end
end DL

/-! ### an exception of an own class: how it lies in the heap while it flies -/
namespace DL
open PySem PySem.Spec PyProof.Rows L2
def Kep (fs xs : List Addr) (h h' : Heap) : Prop := ∀ b o, h.get? b = some o → b ∉ xs → (b ∉ fs → h'.get? b = some o) ∧ ∃ sl, h'.get? b = some { o with slots := sl }
theorem Kep.trans {fs xs ys zs : List Addr} {h h1 h2 : Heap} (a : Kep fs xs h h1) (b : Kep fs ys h1 h2) (s1 : ∀ c ∈ xs, c ∈ zs) (s2 : ∀ c ∈ ys, c ∈ zs) : Kep fs zs h h2 := fun c o e hn => by
  obtain ⟨p1, sl, p2⟩ := a c o e fun z => hn (s1 c z)
  obtain ⟨q1, sl2, q2⟩ := b c _ p2 fun z => hn (s2 c z)
  refine ⟨fun hf => ?_, sl2, q2⟩
  exact (b c o (p1 hf) fun z => hn (s2 c z)).1 hf
theorem Kep.of_eq {fs xs : List Addr} {h h' : Heap} (k : ∀ b o, h.get? b = some o → b ∉ xs → h'.get? b = some o) : Kep fs xs h h' := fun b o e hn => ⟨fun _ => k b o e hn, o.slots, k b o e hn⟩
structure Exc (h : Heap) (e T C : Addr) (fl : Value) : Prop where
  at_ : ∃ vs, h.get? e = some { cls := .ref C, data := .fields vs } ∧ vs[1]? = some (.ref T)
  ne : T ≠ e
  tb : ∃ oT ts, h.get? T = some oT ∧ oT.data = .fields ts ∧ ts[3]? = some fl
section
variable {M : Model} {A : Around} {E : Value → Shared → Prop} {s : Shared} {base : Heap} {env : Env} {outer : List Env} {L e T C : Addr} {Q : Unit → Shared → Prop}
theorem exc_set {fl : Value} (x : Exc s.heap e T C fl) (hQ : ∀ h', Exc h' e T C .none → Kep [] [T] s.heap h' → Q () { s with heap := h' }) : wpAny M A (setFlight (.ref e) none) Q E s := by
  obtain ⟨⟨vs, x1, x2⟩, x3, oT, ts, x4, x5, x6⟩ := x
  have y3 : 3 < ts.size := (Array.getElem?_eq_some_iff.mp x6).1
  unfold setFlight
  refine wpAny_bind (wpAny_field x1 rfl x2 ?_)
  rw [if_pos (show (Value.ref T != Value.none) = true from rfl)]
  refine wpAny_setField x4 x5 y3 (hQ _ ?_ (.of_eq fun b o q hn => ?_))
  · refine ⟨⟨vs, ?_, x2⟩, x3, _, _, Heap.get?_update_self _ x4 (Obj.isFreed_of_fields (Obj.data_mapFields x5 _)), Obj.data_mapFields x5 _, by simp [y3]⟩
    rw [Heap.get?_update_other _ _ x3]
    exact x1
  · rw [Heap.get?_update_other _ _ (fun z => hn (by simp [z]))]
    exact q
theorem exc_entry {head : Value} {vs : Array Value} {nx : Bool} (hfr : A.frames = some (env :: outer)) (hl : s.heap.FunFrames base (env :: outer)) (hf : env.frame = some L)
    (he : s.heap.get? e = some { cls := .ref C, data := .fields vs }) (hz : 1 < vs.size)
    (hQ : ∀ h' T', s.heap.get? T' = none → Exc h' e T' C (rawInt L) → Kep ((env :: outer).filterMap (·.frame)) [e] s.heap h' → Q () { s with heap := h' }) :
    wpAny M A (do let fo ← frameOf env; let pl ← entryPlaceOf L nx; let en ← EntryCells.newEntry head fo .none (rawInt L) .none pl; setField (.ref e) 1 en) Q E s := by
  have out : e ∉ (env :: outer).filterMap (·.frame) := fun z => by
    obtain ⟨_, o, q, nf⟩ := hl.mem z
    rw [he] at q; cases q
    exact nf vs rfl
  refine wpAny_bind (wpAny_frameOf_fun hfr hl hf fun hA sA => wpAny_bind (wpAny_entryPlaceOf fun pl ip => ?_))
  unfold EntryCells.newEntry newFields
  refine wpAny_bind (wpAny_newObj_type ?_ (ip.sizeOk5 _ _ _ _ _))
  have eA : hA.get? e = some { cls := .ref C, data := .fields vs } := (sA.2.1 e out).trans he
  have eB := Heap.get?_push_of_some (h := hA) { cls := .type "traceback", dict := none, data := .fields ([head, .ref L, .none, rawInt L, .none] ++ (if pl.isEmpty then List.replicate 6 Value.none else pl)).toArray } eA
  have nT : hA.objs.size ≠ e := Nat.ne_of_gt (Heap.lt_size eA)
  refine wpAny_setField eB rfl hz (hQ _ hA.objs.size (Heap.get?_none_of_le (Nat.le_of_eq sA.1.symm)) ⟨⟨vs.setIfInBounds 1 (.ref hA.objs.size), ?_, by simp [hz]⟩, nT, ?_⟩ fun b o q hn => ?_)
  · rw [Heap.get?_update_self _ eB rfl]
    rfl
  · refine ⟨_, _, (Heap.get?_update_other _ _ (Ne.symm nT)).trans (Heap.get?_push_size hA rfl), rfl, ?_⟩
    simp
  · have hb : e ≠ b := fun z => hn (by simp [z])
    obtain ⟨sl, q2⟩ := sA.2.2 b o q
    refine ⟨fun nf => ?_, sl, ?_⟩
    · rw [Heap.get?_update_other _ _ hb]
      exact Heap.get?_push_of_some _ ((sA.2.1 b nf).trans q)
    · rw [Heap.get?_update_other _ _ hb]
      exact Heap.get?_push_of_some _ q2
theorem exc_note1 {vs : Array Value} (hfr : A.frames = some (env :: outer)) (hl : s.heap.FunFrames base (env :: outer)) (hf : env.frame = some L)
    (he : s.heap.get? e = some { cls := .ref C, data := .fields vs }) (h1 : vs[1]? = some .none)
    (hQ : ∀ h' T', s.heap.get? T' = none → Exc h' e T' C (rawInt L) → Kep ((env :: outer).filterMap (·.frame)) [e] s.heap h' → Q () { s with heap := h' }) : wpAny M A (noteFrame (.ref e) env) Q E s := by
  unfold noteFrame
  simp only [hf]
  refine wpAny_bind (wpAny_field he rfl h1 ?_)
  rw [if_neg (by decide)]
  exact exc_entry hfr hl hf he (Array.getElem?_eq_some_iff.mp h1).1 hQ
theorem exc_note (hfr : A.frames = some (env :: outer)) (hl : s.heap.FunFrames base (env :: outer)) (hf : env.frame = some L) (x : Exc s.heap e T C .none)
    (hQ : ∀ h' T', s.heap.get? T' = none → Exc h' e T' C (rawInt L) → Kep ((env :: outer).filterMap (·.frame)) [e, T] s.heap h' → Q () { s with heap := h' }) : wpAny M A (noteFrame (.ref e) env) Q E s := by
  obtain ⟨⟨vs, x1, x2⟩, x3, oT, ts, x4, x5, x6⟩ := x
  unfold noteFrame
  simp only [hf]
  refine wpAny_bind (wpAny_field x1 rfl x2 ?_)
  rw [if_pos (show (Value.ref T != Value.none) = true from rfl)]
  refine wpAny_bind (wpAny_field x4 x5 x6 ?_)
  rw [if_neg (show ¬ ((Value.none == rawInt L) = true) from fun z => by simp [rawInt] at z)]
  refine wpAny_bind (wpAny_setField x4 x5 (Array.getElem?_eq_some_iff.mp x6).1 ?_)
  have oth : ∀ b, b ≠ T → (s.heap.update T (Obj.mapFields (·.setIfInBounds 3 Value.none))).get? b = s.heap.get? b := fun b z => Heap.get?_update_other _ _ (Ne.symm z)
  have hl2 : (s.heap.update T (Obj.mapFields (·.setIfInBounds 3 Value.none))).FunFrames base (env :: outer) := hl.of_keeps fun b o q nf => ⟨o, (oth b fun z => by rw [z, x4] at q; cases q; exact nf ts x5).trans q, rfl⟩
  refine exc_entry (s := { s with heap := s.heap.update T (Obj.mapFields (·.setIfInBounds 3 Value.none)) }) hfr hl2 hf ((oth e (Ne.symm x3)).trans x1) (Array.getElem?_eq_some_iff.mp x2).1 fun h' T' n1 n2 n3 => hQ h' T' ?_ n2 ?_
  · by_cases z : T' = T
    · have n1' : (s.heap.update T (Obj.mapFields (·.setIfInBounds 3 Value.none))).get? T' = none := n1
      rw [z, Heap.get?_update_self _ x4 (Obj.isFreed_of_fields (Obj.data_mapFields x5 _))] at n1'
      cases n1'
    · exact (oth T' z).symm.trans n1
  · refine Kep.trans (xs := [T]) (ys := [e]) (.of_eq fun b o q hn => (oth b fun z => hn (by simp [z])).trans q) n3 ?_ ?_
    · intro c hc; simp at hc; simp [hc]
    · intro c hc; simp at hc; simp [hc]
theorem exc_again (hf : env.frame = some L) (x : Exc s.heap e T C (rawInt L)) (hQ : Q () s) : wpAny M A (noteFrame (.ref e) env) Q E s := by
  obtain ⟨⟨vs, x1, x2⟩, x3, oT, ts, x4, x5, x6⟩ := x
  unfold noteFrame
  simp only [hf]
  refine wpAny_bind (wpAny_field x1 rfl x2 ?_)
  rw [if_pos (show (Value.ref T != Value.none) = true from rfl)]
  refine wpAny_bind (wpAny_field x4 x5 x6 ?_)
  rw [if_pos (show (rawInt L == rawInt L) = true from by simp)]
  exact wpAny_pure hQ
end
end DL
namespace DL
open PySem PySem.Spec PyProof.Rows L2
section
variable {P : Program} {w : World} {H H' : Hp} {h h1 h2 : Heap} {fs fs' xs : List Addr}
theorem obj_ex {a : Addr} {o : HO} (x : ObjOk P w H h a o) : ∃ ob, h.get? a = some ob := by
  cases o with
  | lst xs => obtain ⟨_, _, _, _, e⟩ := x; exact ⟨_, e⟩
  | tup xs => obtain ⟨_, _, _, p⟩ := x; obtain ⟨o, e, _⟩ := p; exact ⟨_, e⟩
  | dK kvs => obtain ⟨_, _, _, _, o, _, _, e, _⟩ := x; exact ⟨_, e⟩
  | dT kvs => obtain ⟨_, _, _, _, o, _, _, e, _⟩ := x; exact ⟨_, e⟩
  | set S n => obtain ⟨o, _, _, _, e, _⟩ := x; exact ⟨_, e⟩
  | ins C dx fs => obtain ⟨_, _, _, e, _⟩ := x; exact ⟨_, e⟩
  | own y => exact x
  | xd fs => obtain ⟨_, ⟨_, _, _, e, _⟩, _⟩ := x; exact ⟨_, e⟩
  | rng lo hi => obtain ⟨_, _, _, e⟩ := x; exact ⟨_, e⟩
  | frz ob u => obtain ⟨e, _⟩ := x; exact ⟨_, e⟩
  | tbl ps => exact ⟨_, (show h.get? a = some _ from x)⟩
  | met f y => exact ⟨_, (show h.get? a = some _ from x)⟩
  | ext φ => exact x.2.1
theorem free_of_none (x : HOk P w H h) {a : Addr} (e : h.get? a = none) : H a = none := by
  cases q : H a with
  | none => rfl
  | some o =>
    obtain ⟨ob, z⟩ := obj_ex (x a o q)
    rw [e] at z; cases z
theorem un_kep (u : Un fs [] H H' h h1) (k : Kep fs' xs h1 h2) (hx : ∀ b ∈ xs, h.get? b = none) (hf : ∀ b ∈ fs', b ∈ fs ∨ h.get? b = none) : Un fs [] H H' h h2 where
  keep := fun b o e n hb hc => (k b o (u.keep b o e n hb hc) fun z => by rw [hx b z] at e; cases e).1 fun z => (hf b z).elim hb fun q => by rw [q] at e; cases e
  slot := fun b o e n hb hc => by
    obtain ⟨sl, q⟩ := u.slot b o e n hb hc
    obtain ⟨_, sl2, q2⟩ := k b _ q fun z => by rw [hx b z] at e; cases e
    exact ⟨sl2, q2⟩
  free := u.free
  there := fun b o e hc => by
    obtain ⟨o', q⟩ := u.there b o e hc
    obtain ⟨_, sl2, q2⟩ := k b _ q fun z => by rw [hx b z] at e; cases e
    exact ⟨_, q2⟩
  tups := u.tups
  frzs := u.frzs
  tbls := u.tbls
theorem hok_kep (x : HOk P w H h1) (k : Kep fs xs h1 h2) (hx : ∀ b ∈ xs, H b = none) (hf : ∀ b ∈ fs, H b = none) : HOk P w H h2 := fun a o e => by
  have no : ∀ b u, H b = some u → b ∉ xs ∧ b ∉ fs := fun b u q => ⟨fun z => (by rw [hx b z] at q; cases q), fun z => (by rw [hf b z] at q; cases q)⟩
  refine (x a o e).stay (fun b u hb q => ?_) (fun _ q => q) fun _ _ q => q
  have nb : b ∉ xs ∧ b ∉ fs := by
    rcases hb with z | z
    · rw [z]; exact no a o e
    · exact no b _ z
  exact (k b u q nb.1).1 nb.2
def CXF (P : Program) (w : World) : CXT := fun outer H s E ev s' => ∃ e T C H', ev = .ref e ∧ Exc s'.heap e T C .none ∧ s.heap.get? e = none ∧ s.heap.get? T = none ∧ H' e = none ∧ H' T = none ∧ s'.os = s.os ∧ AllBare s'.gens ∧
  Un (frs outer) [] H H' s.heap s'.heap ∧ HOk P w H' s'.heap ∧ E (.ref C) none H'
end
section
variable {P : Program} {w : World} {K : PySem.W.Frag} {mg : Str → Option Value} {base : Heap} {N : List Str} {qual : Str} {scope : Scope} {f : Addr} {cd : Value} {A : Around} {outer : List Env} {s : Shared} {H : Hp} {E : XK}
theorem none_there {fs : List Addr} {H H' : Hp} {h h' : Heap} (u : Un fs [] H H' h h') {b : Addr} (e : h'.get? b = none) : h.get? b = none := by
  cases q : h.get? b with
  | none => rfl
  | some o =>
    obtain ⟨o', z⟩ := u.there b o q (by simp)
    rw [e] at z; cases z
theorem fly_on {pins : List (Addr × Obj)} {σ : St} {H1 H2 : Hp} {s1 s2 : Shared} {e C : Addr} (I : Inv (cxOf (CXF P w) P w K mg base N qual scope f cd A outer s H E) pins σ H1 s1)
    (n1 : s1.heap.get? e = none) (h2e : H2 e = none) (ho : s2.os = s1.os) (hb : AllBare s2.gens) (un : Un (frs (envOfC qual scope s.heap.objs.size f cd :: outer)) [] H1 H2 s1.heap s2.heap) (hok : HOk P w H2 s2.heap) (hE : E (.ref C) none H2)
    {h' : Heap} {T' : Addr} (xs : List Addr) (hxs : ∀ b ∈ xs, s1.heap.get? b = none) (hxh : ∀ b ∈ xs, H2 b = none) (k : Kep ((envOfC qual scope s.heap.objs.size f cd :: outer).filterMap (·.frame)) xs s2.heap h') (hT : s1.heap.get? T' = none) (hTh : H2 T' = none) (hx : Exc h' e T' C .none) :
    CXF P w outer H s E (.ref e) { s2 with heap := h' } := by
  have I2 : Inv (cxOf (CXF P w) P w K mg base N qual scope f cd A outer s H E) pins σ H2 s2 := I.call' ho un hok hb (fun b z => nomatch z)
  have fr : ∀ b ∈ (envOfC qual scope s.heap.objs.size f cd :: outer).filterMap (·.frame), b ∈ frs outer ∨ s.heap.get? b = none := fun b hb => by
    rcases List.mem_cons.mp (I2.stkSub b hb) with z | z
    · refine .inr ?_
      have hn : (s.heap.get? b) = none := by
        rw [z]
        exact Heap.get?_none_of_le (Nat.le_refl _)
      exact hn
    · exact .inl z
  have hu := I2.base
  have nn : ∀ b, s1.heap.get? b = none → s.heap.get? b = none := fun b q => none_there I.base q
  refine ⟨e, T', C, H2, rfl, hx, nn e n1, nn T' hT, h2e, hTh, I2.os, hb, un_kep hu k (fun b hb => nn b (hxs b hb)) fr, hok_kep hok k hxh (fun b hb => I2.stkFree b hb), hE⟩
theorem passX {xc : Str → Value} : Passes (CXF P w) (cxOf (CXF P w) P w K mg base N qual scope f cd A outer s H E) (EX xc fun n H' => E (xc n) none H') := by
  intro pins σ H1 s1 ev s2 I h
  obtain ⟨e, T, C, H2, rfl, x, n1, n2, n3, n4, os, bare, un, hok, n, hc, hE⟩ := h
  have I2 : Inv (cxOf (CXF P w) P w K mg base N qual scope f cd A outer s H E) pins σ H2 s2 := I.call' os un hok bare (fun b z => nomatch z)
  show wpAny _ _ (leaving _ (.ref e)) _ _ s2
  unfold leaving
  refine wpAny_bind (exc_note (L := s.heap.objs.size) I.ok.frames I2.stack rfl x fun h' T' t1 t2 t3 => exc_set t2 fun h'' u1 u2 => ?_)
  have t1' : s1.heap.get? T' = none := none_there un t1
  refine fly_on (s2 := s2) I n1 n3 os bare un hok (by rw [hc]; exact hE) [e, T, T'] ?_ ?_ (t3.trans (ys := [T']) (fun b o q hn => ?_) ?_ ?_) t1' (free_of_none hok t1) u1
  · intro b hb
    simp at hb
    rcases hb with rfl | rfl | rfl
    · exact n1
    · exact n2
    · exact t1'
  · intro b hb
    simp at hb
    rcases hb with rfl | rfl | rfl
    · exact n3
    · exact n4
    · exact free_of_none hok t1
  · exact ⟨fun _ => (u2 b o q hn).1 (by simp), (u2 b o q hn).2⟩
  · intro c hc; simp at hc; rcases hc with rfl | rfl <;> simp
  · intro c hc; simp at hc; simp [hc]
theorem raised {pins : List (Addr × Obj)} {σ : St} {H1 : Hp} {s1 : Shared} {e C : Addr} {h1 : Heap} {args : List Value} (I : Inv (cxOf (CXF P w) P w K mg base N qual scope f cd A outer s H E) pins σ H1 s1)
    (mx : Heap.MadeExcOf s1.heap h1 e (.ref C) args) (hE : E (.ref C) none H1) : (cxOf (CXF P w) P w K mg base N qual scope f cd A outer s H E).xe (.ref e) { s1 with heap := h1 } := by
  obtain ⟨t, q1, q2, q3⟩ := mx.there
  have I2 := I.kept (t' := s1.toks) mx.keeps
  show wpAny _ _ (leaving _ (.ref e)) _ _ _
  unfold leaving
  refine wpAny_bind (exc_note1 (L := s.heap.objs.size) I.ok.frames I2.stack rfl q1 rfl fun h' T' t1 t2 t3 => exc_set t2 fun h'' u1 u2 => ?_)
  have kn : ∀ b, h1.get? b = none → s1.heap.get? b = none := fun b q => by
    cases z : s1.heap.get? b with
    | none => rfl
    | some o => rw [mx.keeps b o z] at q; cases q
  have t1' : s1.heap.get? T' = none := kn T' t1
  have fe : H1 e = none := free_of_none I.hok mx.new
  refine fly_on (s2 := { s1 with heap := h1 }) I mx.new fe rfl I.bare (Un.kept mx.keeps) I2.hok hE [e, T'] ?_ ?_ (t3.trans (ys := [T']) (fun b o q hn => ?_) ?_ ?_) t1' (free_of_none I2.hok t1) u1
  · intro b hb
    simp at hb
    rcases hb with rfl | rfl
    · exact mx.new
    · exact t1'
  · intro b hb
    simp at hb
    rcases hb with rfl | rfl
    · exact fe
    · exact free_of_none I2.hok t1
  · exact ⟨fun _ => (u2 b o q hn).1 (by simp), (u2 b o q hn).2⟩
  · intro c hc; simp at hc; simp [hc]
  · intro c hc; simp at hc; simp [hc]
end
end DL

/-! ### raise, defs that raise, try -/
namespace DL
open PySem PySem.Spec PyProof.Rows L2
def xcK (K : PySem.W.Frag) (n : Str) : Value := match PySem.W.nsIn K mainGlobals n with
  | some (some v) => v
  | _ => .none
theorem xcK_of {K : PySem.W.Frag} {n : Str} {v : Value} (h : PySem.W.nsIn K mainGlobals n = some (some v)) : xcK K n = v := by
  unfold xcK; rw [h]
abbrev bmV : List Value := [.type "ValueError", .type "Exception", .type "BaseException", .type "object"]
theorem exc_of_in {K : PySem.W.Frag} {h : Heap} {C : Addr} {bmB : List Value} {newId : String} (X : K.In h) (q : PySem.W.excIn K C bmB newId = true) : ∃ nm qn N bs bm hdct sn sub ab col dd k0 k1 k2 k3 k5, ∃ mN : Str → Option Value,
    h.get? C = some (excClassObj nm qn C N bs bm hdct sn sub ab col dd k0 k1 k2 k3 k5 newId) ∧ h.Ns N mN ∧ mN "__init__" = none ∧ OwnTail h bmB bm := by
  unfold PySem.W.excIn at q
  split at q
  · rename_i dd cd sl lk
    split at q
    · rename_i C2 tl a0 a1 a2 a3 nw a5 em es
      simp only [Bool.and_eq_true, beq_iff_eq, Bool.not_eq_true'] at q
      obtain ⟨⟨⟨⟨⟨e1, e2⟩, e3⟩, e4⟩, e5⟩, e6⟩ := q
      subst e1 e2
      cases cd
      dsimp only at em e3 e5 e6
      subst em e3
      have z : sl = #[a0, a1, a2, a3, some (.builtin nw), a5] := by
        cases sl
        simp only at es
        rw [es]
      subst z
      exact ⟨_, _, _, _, tl, _, _, _, _, _, dd, a0, a1, a2, a3, a5, _, X _ _ lk, .of_isNs (PySem.W.isNs_of_in X e5), PySem.W.nsMap_none_of_in X e5 e6, PySem.W.tail_of_in X e4⟩
    · cases q
  · cases q
structure Xc (K : PySem.W.Frag) (mg : Str → Option Value) (x : Str) (C : Addr) : Prop where
  m : mg x = some (.ref C)
  n : PySem.W.nsIn K mainGlobals x = some (some (.ref C))
  i : PySem.W.excIn K C bmV "ValueError.__new__" = true
section
variable {P : Program} {w : World} {K : PySem.W.Frag} {mg : Str → Option Value} {base : Heap} {N : List Str} {qual : Str} {scope : Scope} {f : Addr} {cd : Value} {A : Around} {outer : List Env} {s : Shared} {H : Hp} {E : XK}
abbrev EW (K : PySem.W.Frag) (E : XK) : Str → Hp → Prop := fun n H' => E (xcK K n) none H'
theorem OwnTail.base' {h : Heap} {bm : List Value} (T : OwnTail h bmV bm) : bm.contains (.type "BaseException") = true := T.hasType (by decide +kernel)
theorem sRaise {x : Str} {C : Addr} {msg : Str} {j} {p np cpos pos : Pos} (xc : Xc K mg x C) (hh : A.handled = none) (hg : Gl (cxOf (CXF P w) P w K mg base N qual scope f cd A outer s H E) x := by rfl) (hdb : (x == ("__debug__" : Str)) = false := by decide)
    (hp : (backTo cpos (starEach [.Constant (.str msg) j p] (cxOf (CXF P w) P w K mg base N qual scope f cd A outer s H E).env)).any (·.1) = false := by rfl)
    (hst : starEach [.Constant (.str msg) j p] (cxOf (CXF P w) P w K mg base N qual scope f cd A outer s H E).env = [(false, eval (.Constant (.str msg) j p) (cxOf (CXF P w) P w K mg base N qual scope f cd A outer s H E).env)] := by rfl) :
    PS (cxOf (CXF P w) P w K mg base N qual scope f cd A outer s H E) (.Raise (some (.Call (.Name x np) [.Constant (.str msg) j p] [] cpos)) none pos) (tS K (EW K E) fun _ => .err x) := by
  intro pins s1 σ H1 De I ⟨g, env, os, r, m⟩
  have hE : E (xcK K x) none H1 := m H1 r.ext
  rw [xcK_of xc.n] at hE
  have hA : (PA (cxOf (CXF P w) P w K mg base N qual scope f cd A outer s H E) [.Constant (.str msg) j p] (tCons (tC (.str msg)) tNil)) := pa_cons pe_str pa_nil hst
  obtain ⟨nm, qn, N', bs, bm, hdct, sn, sub, ab, col, dd, k0, k1, k2, k3, k5, mN, c1, c2, c3, c4⟩ := exc_of_in I.ok.mod.kin xc.i
  refine wpAny_Raise_call_subT (C := C) (nm := nm) (q := qn) (N := N') (bs := bs) (bm := bm) (hdct := hdct) (sn := sn) (sub := sub) (ab := ab) (col := col) (dd := dd) (k0 := k0) (k1 := k1) (k2 := k2) (k3 := k3) (k5 := k5) (mN := mN) PySem.F.excBase_ValueError (OwnTail.base' c4) hh hp c3 (ld_glob I hg xc.m ⟨rfl, ?_⟩ hdb)
  have hA2 := hA cpos pins s1 σ H1 (fun vs H2 => vs = [.str msg] ∧ H2 = H1) I ⟨rfl, rfl⟩
  rw [hst] at hA2 ⊢
  refine Calls.evalArgs_plain (thn hA2 fun us s2 ⟨vs, H2, I2, r2, e1, e2⟩ => ?_)
  subst e1 e2
  have hk := I2.bk
  refine ⟨rfl, ?_, hk _ _ c1, c2.keeps hk, c4.keeps hk, fun h' e mx => raised I2 mx hE⟩
  rw [← r2.length]
  show 1 ≤ sizeLine
  decide
end
/-! ### a def that may raise -/
def mDX (n N : Nat) (b : DE → R Out) (ds : List D) : R D := if ds.length = n then (b (initE N ds)).bind valO else .bad
def mSX (n N : Nat) (b : DE → R Out) (ds : List D) : R D := if ds.length = n then ((b (initE N ds)).bind valO).bind scO else .bad
def mFSX (n N : Nat) (b : DE → R Out) (ds : List D) : R (List D) := if ds.length = n then ((b (initE N ds)).bind lstO).bind scL else .bad
abbrev OkX (P : Program) (w : World) (K : PySem.W.Frag) (mg : Str → Option Value) (base : Heap) (k : Nat) (f : Addr) (fd : FuncData) (ps : List Str) (m : List D → R D) : Prop := FnOk P w K mg base (CXF P w) k f fd ps (spD K (xcK K) m)
abbrev OkFX (P : Program) (w : World) (K : PySem.W.Frag) (mg : Str → Option Value) (base : Heap) (k : Nat) (f : Addr) (fd : FuncData) (ps : List Str) (m : List D → R (List D)) : Prop := FnOk P w K mg base (CXF P w) k f fd ps (spF K (xcK K) m)
section
variable {P : Program} {w : World} {K : PySem.W.Frag} {mg : Str → Option Value} {base : Heap}
variable {x : Str} {st : Stmt} {f : Addr} {fd : FuncData} {N ps : List Str} {k : Nat} {b : DE → R Out}
theorem defDX {m : List D → R D} (F : Fun K x x st f fd) (S : FnScope N ps (defScope st))
    (hm : ∀ ds, m ds ≠ .bad → ds.length = ps.length ∧ ((∃ d, m ds = .ok d ∧ (b (initE N.length ds)).bind valO = .ok d) ∨ ∃ c, m ds = .err c ∧ b (initE N.length ds) = .err c))
    (hb : ∀ (cdv : Value) (A : Around) (outer : List Env) (s : Shared) (H : Hp) (E : XK), Room k (A.deeper (envOfC x (defScope st) s.heap.objs.size f cdv)) → PSs (cxOf (CXF P w) P w K mg base N x (defScope st) f cdv A outer s H E) (defBody st) (tS K (EW K E) b)) :
    OkX P w K mg base (k + 1) f fd ps m := by
  obtain ⟨oc, od, kV, doc, pm, an, cdv, ct, osl, rfl, lk, hcd⟩ := F.ex
  refine fn_of lk hcd S (fun vs H Q E h => ?_) fun A outer s H vs Q E hr h => ?_
  · obtain ⟨Pa, ds, i, h⟩ := h
    have := (hm ds fun z => by rw [z] at h; exact h).1
    rw [i.length]; exact this
  · obtain ⟨Pa, ds, i, h⟩ := h
    refine ⟨_, hb cdv A outer s H E hr, ⟨⟨Pa, H⟩, initE N.length ds, [], rel_start i, ?_⟩⟩
    obtain ⟨_, ⟨d, e, q⟩ | ⟨c, e, q⟩⟩ := hm ds fun z => by rw [z] at h; exact h
    · rw [e] at h
      cases eb : b (initE N.length ds) with
      | bad => rw [eb] at q; cases q
      | err c => rw [eb] at q; cases q
      | ok o =>
        rw [eb] at q
        cases o with
        | rt d' =>
          cases q
          exact fun v H' s' i' => h v H' s' i'.P0
        | rtF xs =>
          cases q
          intro a vs' H' s' hn hH i'
          exact h _ H' s' ⟨a, vs', rfl, .inl ⟨.inr hn, .inl hH⟩, IsL.ext ⟨fun b o p _ => p.1, fun _ _ _ z => z⟩ _ _ i'⟩
        | nx e' =>
          cases q
          exact fun σ' H' os' r' _ => h _ H' r'.ext rfl
        | rtP _ => cases q
        | rtQ _ => cases q
        | rtT _ => cases q
        | bk _ => cases q
        | ct _ => cases q
    · rw [e] at h
      rw [q]
      exact h
theorem defFX {m : List D → R (List D)} (F : Fun K x x st f fd) (S : FnScope N ps (defScope st))
    (hm : ∀ ds, m ds ≠ .bad → ds.length = ps.length ∧ ((∃ d, m ds = .ok d ∧ (b (initE N.length ds)).bind lstO = .ok d) ∨ ∃ c, m ds = .err c ∧ b (initE N.length ds) = .err c))
    (hb : ∀ (cdv : Value) (A : Around) (outer : List Env) (s : Shared) (H : Hp) (E : XK), Room k (A.deeper (envOfC x (defScope st) s.heap.objs.size f cdv)) → PSs (cxOf (CXF P w) P w K mg base N x (defScope st) f cdv A outer s H E) (defBody st) (tS K (EW K E) b)) :
    OkFX P w K mg base (k + 1) f fd ps m := by
  obtain ⟨oc, od, kV, doc, pm, an, cdv, ct, osl, rfl, lk, hcd⟩ := F.ex
  refine fn_of lk hcd S (fun vs H Q E h => ?_) fun A outer s H vs Q E hr h => ?_
  · obtain ⟨Pa, ds, i, h⟩ := h
    have := (hm ds fun z => by rw [z] at h; exact h).1
    rw [i.length]; exact this
  · obtain ⟨Pa, ds, i, h⟩ := h
    refine ⟨_, hb cdv A outer s H E hr, ⟨⟨Pa, H⟩, initE N.length ds, [], rel_start i, ?_⟩⟩
    obtain ⟨_, ⟨d, e, q⟩ | ⟨c, e, q⟩⟩ := hm ds fun z => by rw [z] at h; exact h
    · rw [e] at h
      cases eb : b (initE N.length ds) with
      | bad => rw [eb] at q; cases q
      | err c => rw [eb] at q; cases q
      | ok o =>
        rw [eb] at q
        cases o with
        | rt d' => cases q
        | rtF xs =>
          cases q
          intro a vs' H' s' hn hH i'
          exact h a vs' H' s' hn hH (IsL.ext ⟨fun b o p _ => ⟨p.1, fun z => p.2 (by simp [z])⟩, fun _ _ _ z => z⟩ _ _ i')
        | nx e' => cases q
        | rtP _ => cases q
        | rtQ _ => cases q
        | rtT _ => cases q
        | bk _ => cases q
        | ct _ => cases q
    · rw [e] at h
      rw [q]
      exact h
theorem bind_err {α β : Type} {r : R α} {k : α → R β} {c : Str} (hk : ∀ a c, k a ≠ .err c) (h : r.bind k = .err c) : r = .err c := by
  cases r with
  | ok a => exact (hk a c h).elim
  | err c' => cases h; rfl
  | bad => cases h
theorem valO_ne (o : Out) (c : Str) : valO o ≠ .err c := by
  intro z; cases o <;> cases z
theorem lstO_ne (o : Out) (c : Str) : lstO o ≠ .err c := by
  intro z; cases o <;> cases z
theorem scO_ne (d : D) (c : Str) : scO d ≠ .err c := by
  unfold scO; intro z
  split at z <;> cases z
theorem scL_ne : ∀ (xs : List D) (c : Str), scL xs ≠ .err c
  | [], c => fun z => nomatch z
  | x :: xs, c => fun z => by
    have z' : (scO x).bind (fun y => (scL xs).bind fun ys => .ok (y :: ys)) = .err c := z
    cases e : scO x with
    | ok y =>
      rw [e] at z'
      have z2 : (scL xs).bind (fun ys => .ok (y :: ys)) = .err c := z'
      cases e2 : scL xs with
      | ok ys => rw [e2] at z2; cases z2
      | err c' => exact scL_ne xs c' e2
      | bad => rw [e2] at z2; cases z2
    | err c' => exact scO_ne x c' e
    | bad => rw [e] at z'; cases z'
variable (S : FnScope N ps (defScope st)) (d : Df K mg x st ps f fd)
    (hb : ∀ (cdv : Value) (A : Around) (outer : List Env) (s : Shared) (H : Hp) (E : XK), Room k (A.deeper (envOfC x (defScope st) s.heap.objs.size f cdv)) → PSs (cxOf (CXF P w) P w K mg base N x (defScope st) f cdv A outer s H E) (defBody st) (tS K (EW K E) b))
include S d hb
theorem okDX : OkX P w K mg base (k + 1) f fd ps (mDX ps.length N.length b) := defDX d.F S (fun ds h => by
  unfold mDX at h ⊢
  split
  · rename_i c
    rw [if_pos c] at h
    refine ⟨c, ?_⟩
    cases e : (b (initE N.length ds)).bind valO with
    | ok d => exact .inl ⟨d, rfl, rfl⟩
    | err c => exact .inr ⟨c, rfl, bind_err valO_ne e⟩
    | bad => exact (h e).elim
  · rename_i c
    exact (h (if_neg c)).elim) hb
theorem okSX : OkX P w K mg base (k + 1) f fd ps (mSX ps.length N.length b) := defDX d.F S (fun ds h => by
  unfold mSX at h ⊢
  split
  · rename_i c
    rw [if_pos c] at h
    refine ⟨c, ?_⟩
    cases e : (b (initE N.length ds)).bind valO with
    | ok d =>
      rw [e] at h
      cases e2 : scO d with
      | ok y =>
        obtain ⟨rfl, _⟩ := scO_ok e2
        exact .inl ⟨d, e2, rfl⟩
      | err c => exact (scO_ne d c e2).elim
      | bad => exact (h e2).elim
    | err c => exact .inr ⟨c, rfl, bind_err valO_ne e⟩
    | bad => rw [e] at h; exact (h rfl).elim
  · rename_i c
    exact (h (if_neg c)).elim) hb
theorem okFSX : OkFX P w K mg base (k + 1) f fd ps (mFSX ps.length N.length b) := defFX d.F S (fun ds h => by
  unfold mFSX at h ⊢
  split
  · rename_i c
    rw [if_pos c] at h
    refine ⟨c, ?_⟩
    cases e : (b (initE N.length ds)).bind lstO with
    | ok d =>
      rw [e] at h
      cases e2 : scL d with
      | ok y =>
        obtain ⟨rfl, _⟩ := scL_ok e2
        exact .inl ⟨d, e2, rfl⟩
      | err c => exact (scL_ne d c e2).elim
      | bad => exact (h e2).elim
    | err c => exact .inr ⟨c, rfl, bind_err lstO_ne e⟩
    | bad => rw [e] at h; exact (h rfl).elim
  · rename_i c
    exact (h (if_neg c)).elim) hb
end
section
variable {P : Program} {w : World} {K : PySem.W.Frag} {mg : Str → Option Value} {base : Heap} {f : Addr} {fd : FuncData} {ps : List Str} {k : Nat}
theorem FnOk.calm {sp sp' : Sp} (F : FnOk P w K mg base (CXF P w) k f fd ps sp) (h : ∀ vs H Q E, sp' vs H Q E → sp vs H Q fun _ _ _ => False) : FnOk P w K mg base CX0 k f fd ps sp' :=
  ⟨fun vs H Q E q => F.len vs H Q _ (h vs H Q E q), fun A outer s H args us vs Q E hr he hb hv hs => codeAny_mono (F.run A outer s H args us vs Q _ hr he hb hv (h vs H Q E hs)) fun r s' hq => by
    cases r with
    | ok fl => cases fl <;> exact hq
    | error e =>
      obtain ⟨_, _, _, _, _, _, _, _, _, _, _, _, _, _, z⟩ := hq
      exact z.elim⟩
theorem OkX.calm {m : List D → R D} (F : OkX P w K mg base k f fd ps m) : Ok P w K mg base k f fd ps (fun ds => (m ds).ne) := FnOk.calm F fun vs H Q E h => by
  obtain ⟨Pa, ds, i, h⟩ := h
  refine ⟨Pa, ds, i, ?_⟩
  cases e : m ds with
  | ok d => simp only [e, R.ne] at h; exact h
  | err c => simp only [e, R.ne] at h
  | bad => simp only [e, R.ne] at h
theorem OkFX.calm {m : List D → R (List D)} (F : OkFX P w K mg base k f fd ps m) : OkF P w K mg base k f fd ps (fun ds => (m ds).ne) := FnOk.calm F fun vs H Q E h => by
  obtain ⟨Pa, ds, i, h⟩ := h
  refine ⟨Pa, ds, i, ?_⟩
  cases e : m ds with
  | ok d => simp only [e, R.ne] at h; exact h
  | err c => simp only [e, R.ne] at h
  | bad => simp only [e, R.ne] at h
end
end DL

/-! ### calls that may raise, within a def that may raise; try -/
namespace DL
open PySem PySem.Spec PyProof.Rows L2
section
variable {P : Program} {w : World} {K : PySem.W.Frag} {mg : Str → Option Value} {base : Heap} {N : List Str} {qual : Str} {scope : Scope} {f : Addr} {cd : Value} {A : Around} {outer : List Env} {s : Shared} {H : Hp} {E : XK}
variable {k : Nat} {fa : Addr} {fd : FuncData} {st : Stmt} {ps : List Str} {x : Str} {p pos : Pos} {e : Expr} {es : List Expr} {fr : DE → R (List D)}
theorem fBX {m : List D → R D} (hsc : ScD m) (d : Df K mg x st ps fa fd) (F : OkX P w K mg base k fa fd ps m) (hr : Room k (A.deeper (envOfC qual scope s.heap.objs.size f cd)))
    (ha : PA (cxOf (CXF P w) P w K mg base N qual scope f cd A outer s H E) (e :: es) (tArB K (EW K E) fr)) (hg : Gl (cxOf (CXF P w) P w K mg base N qual scope f cd A outer s H E) x := by rfl) (hdb : (x == ("__debug__" : Str)) = false := by decide) (he : starEach (e :: es) (cxOf (CXF P w) P w K mg base N qual scope f cd A outer s H E).env = (false, eval e (cxOf (CXF P w) P w K mg base N qual scope f cd A outer s H E).env) :: starEach es (cxOf (CXF P w) P w K mg base N qual scope f cd A outer s H E).env := by rfl) (hpl : (backTo pos (starEach es (cxOf (CXF P w) P w K mg base N qual scope f cd A outer s H E).env)).any (·.1) = false := by rfl) :
    PE (cxOf (CXF P w) P w K mg base N qual scope f cd A outer s H E) (.Call (.Name x p) (e :: es) [] pos) (tD K (EW K E) fun env => (fr env).bind m) := fB (X := (cxOf (CXF P w) P w K mg base N qual scope f cd A outer s H E)) F hsc d.m d.F.kp d.b hr passX ha hg hdb he hpl
theorem fFX {m : List D → R (List D)} (d : Df K mg x st ps fa fd) (F : OkFX P w K mg base k fa fd ps m) (hr : Room k (A.deeper (envOfC qual scope s.heap.objs.size f cd)))
    (ha : PA (cxOf (CXF P w) P w K mg base N qual scope f cd A outer s H E) (e :: es) (tAr K (EW K E) fr)) (hg : Gl (cxOf (CXF P w) P w K mg base N qual scope f cd A outer s H E) x := by rfl) (hdb : (x == ("__debug__" : Str)) = false := by decide) (he : starEach (e :: es) (cxOf (CXF P w) P w K mg base N qual scope f cd A outer s H E).env = (false, eval e (cxOf (CXF P w) P w K mg base N qual scope f cd A outer s H E).env) :: starEach es (cxOf (CXF P w) P w K mg base N qual scope f cd A outer s H E).env := by rfl) (hpl : (backTo pos (starEach es (cxOf (CXF P w) P w K mg base N qual scope f cd A outer s H E).env)).any (·.1) = false := by rfl) :
    PE (cxOf (CXF P w) P w K mg base N qual scope f cd A outer s H E) (.Call (.Name x p) (e :: es) [] pos) (tF K (EW K E) fun env => (fr env).bind m) := fF (X := (cxOf (CXF P w) P w K mg base N qual scope f cd A outer s H E)) F d.m d.F.kp d.b hr passX ha hg hdb he hpl
theorem scdX {n N : Nat} {b : DE → R Out} : ScD (mSX n N b) := fun ds d h => by
  unfold mSX at h
  split at h
  · obtain ⟨x, _, h2⟩ := R.bind_ok h
    exact (scO_ok h2).2
  · cases h
theorem ScD.ne {m : List D → R D} (h : ScD m) : ScD (fun ds => (m ds).ne) := fun ds d e => h ds d (R.ne_of e)
theorem ScL.ne {m : List D → R (List D)} (h : ScL m) : ScL (fun ds => (m ds).ne) := fun ds d e => h ds d (R.ne_of e)
theorem ownX : PassesOwn (model (cxOf (CXF P w) P w K mg base N qual scope f cd A outer s H E).prog (cxOf (CXF P w) P w K mg base N qual scope f cd A outer s H E).w) (cxOf (CXF P w) P w K mg base N qual scope f cd A outer s H E).A (cxOf (CXF P w) P w K mg base N qual scope f cd A outer s H E).env (cxOf (CXF P w) P w K mg base N qual scope f cd A outer s H E).xe := PassesOwn.leaving
end
/-! ### the body of a try: one call, its slots as they were when it raises -/
def PB (X : Cx) (body : List Stmt) (f : DE → R Out) : Prop := ∀ pins s σ H De g env os, Inv X pins σ H s → Rel X.K g env σ H os → f env ≠ .bad → (∀ o, f env = .ok o → PostO X.K g H os De o) →
  wpAny (model X.prog X.w) X.A (execs body X.env) (SP X pins De) (fun ev s' => ∃ n H0 s0, f env = .err n ∧ Inv X pins σ H0 s0 ∧ CXF X.prog X.w X.stack H0 s0 (fun c _ H' => c = xcK X.K n ∧ Same H H') ev s') s
section
variable {X : Cx} {k : Nat} {fa : Addr} {fd : FuncData} {st : Stmt} {ps : List Str} {x : Str} {p pos cpos : Pos} {e : Expr} {es : List Expr} {fr : DE → R (List D)}
theorem run_x {pins : List (Addr × Obj)} {σ : St} {H : Hp} {s : Shared} {Q : VK} {E : XK} {us : List Value} {vs : List V} {sp : Sp} (F : FnOk X.prog X.w X.K X.mg X.base (CXF X.prog X.w) k fa fd ps sp) (hr : Room k X.A) (hb : Binds X.K fd ps [])
    (I : Inv X pins σ H s) (r : Vals vs us) (h : sp vs H Q E) : wpAny (model X.prog X.w) X.A (call (.ref fa) us) (EP X pins σ Q) (fun ev s' => CXF X.prog X.w X.stack H s E ev s') s := by
  have hl : us.length = ps.length := by rw [← r.length]; exact F.len _ _ _ _ h
  have hb2 := hb s us I.kIn (by rw [List.append_nil]; exact hl)
  rw [List.append_nil] at hb2
  refine wpAny_call (codeAny_mono (F.run X.A X.stack s H ⟨us, []⟩ us vs Q E hr I.env0 hb2 r h) fun r s' hq => ?_)
  cases r with
  | error e => exact hq
  | ok fl =>
    cases fl with
    | ret u => exact I.after hq
    | next => exact False.elim hq
    | brk => exact False.elim hq
    | cont => exact False.elim hq
theorem pbCall {m : List D → R D} (d : Df X.K X.mg x st ps fa fd) (F : OkX X.prog X.w X.K X.mg X.base k fa fd ps m) (hr : Room k X.A)
    (ha : PA X.nox (e :: es) (tArB X.K EN fr)) (hg : Gl X x := by rfl) (hdb : (x == ("__debug__" : Str)) = false := by decide) (he : starEach (e :: es) X.env = (false, eval e X.env) :: starEach es X.env := by rfl) (hpl : (backTo cpos (starEach es X.env)).any (·.1) = false := by rfl)
    (hs : swapsWith (.Call (.Name x p) (e :: es) [] cpos) none pos.line X.env = pure false := by rfl) :
    PB X [.Expr (.Call (.Name x p) (e :: es) [] cpos) pos] (fun env => (fr env).ne.bind fun ds => (m ds).bind fun _ => .ok (.nx env)) := by
  intro pins s σ H De g env os I r nb hok
  dsimp only at nb hok ⊢
  cases q : fr env with
  | err c => rw [q] at nb; exact (nb rfl).elim
  | bad => rw [q] at nb; exact (nb rfl).elim
  | ok ds =>
    rw [q] at nb hok
    simp only [R.ne, R.ok_bind] at nb hok ⊢
    refine wpAny_execs_cons (thn (Q := fun fl s1 => fl = .next ∧ ∃ H1 v, m ds = .ok v ∧ Inv X pins σ H1 s1 ∧ Same H H1) ?_ fun fl s1 q1 => ?_)
    · refine wpAny_Expr_any ?_ I.quiet hs
      refine wpAny_Call_Name_kw (ld_glob I hg d.m ?_ hdb)
      refine PySem.W.callWith_K (h₀ := X.base) I.ok.mod.kin d.F.kp ?_ he hpl
      refine wpAny_mono (ha cpos pins s σ H (fun vs H1 => Same H H1 ∧ IsL X.K (fun _ => True) H1 ds vs) (I.wish _) ⟨g, env, os, r, good_ok q fun vs H1 s1 i1 => ⟨s1, i1⟩⟩) (fun us s1 ⟨vs, H1, I1, r1, s01, i1⟩ => ⟨I1.kIn, ?_⟩) fun _ _ z => False.elim z
      have I1' : Inv X pins σ H1 s1 := I1.unwish
      cases em : m ds with
      | bad => rw [em] at nb; exact (nb rfl).elim
      | ok v =>
        refine wpAny_mono (run_x (Q := fun _ H2 => Same H1 H2) (E := fun _ _ _ => False) F hr d.b I1' r1 ⟨_, ds, i1, ?_⟩) (fun u s2 ⟨z, H2, I2, _, s12⟩ => ⟨rfl, H2, v, rfl, I2, s01.trans s12⟩) fun ev s2 hq => ?_
        · rw [em]; exact fun _ _ s' _ => s'
        · obtain ⟨_, _, _, _, _, _, _, _, _, _, _, _, _, _, z⟩ := hq
          exact z.elim
      | err n =>
        refine wpAny_mono (run_x (Q := fun _ _ => False) (E := fun c _ H' => c = xcK X.K n ∧ Same H H') F hr d.b I1' r1 ⟨_, ds, i1, ?_⟩) (fun u s2 ⟨z, H2, I2, _, f⟩ => f.elim) fun ev s2 hq => ?_
        · rw [em]; exact fun H' s' => ⟨rfl, s01.trans s'⟩
        · exact ⟨n, H1, s1, rfl, I1', hq⟩
    · obtain ⟨rfl, H1, v, em, I1, s1⟩ := q1
      refine wpAny_execs_nil ⟨σ, H1, I1, ?_⟩
      exact (hok (.nx env) (by rw [em]; rfl)) σ H1 os (r.same s1) (.same s1 os)
end
end DL

/-! ### try .. except C as x -/
namespace DL
open PySem PySem.Spec PyProof.Rows L2
abbrev hdl (X : Cx) (e : Addr) : Cx := { X with A := X.A.mark (some (.ref e)), calm := false, xe := fun _ _ => False }
section
variable {X : Cx} {pins : List (Addr × Obj)} {σ : St} {H H1 : Hp} {s s1 : Shared} {e : Addr}
theorem Inv.hdl (I : Inv X pins σ H s) (e : Addr) : Inv (DL.hdl X e) pins σ H s :=
  ⟨⟨I.ok.mod, I.ok.kind, I.ok.glob, I.ok.blt, I.ok.above, I.ok.inj, I.ok.has, I.ok.cab, (fun z => by cases z), I.ok.frames, I.ok.stk, I.ok.exf, I.ok.bs, I.ok.bsz, I.ok.noex, I.ok.exfs, I.ok.funs, I.ok.frf⟩, I.os, I.bare, I.base, I.loc, I.cell, I.free, I.freeC, I.pin, I.hok, I.len⟩
theorem Inv.unhdl (hc : X.calm = true → X.A.handled = none) (I : Inv (DL.hdl X e) pins σ H s) : Inv X pins σ H s :=
  ⟨⟨I.ok.mod, I.ok.kind, I.ok.glob, I.ok.blt, I.ok.above, I.ok.inj, I.ok.has, I.ok.cab, hc, I.ok.frames, I.ok.stk, I.ok.exf, I.ok.bs, I.ok.bsz, I.ok.noex, I.ok.exfs, I.ok.funs, I.ok.frf⟩, I.os, I.bare, I.base, I.loc, I.cell, I.free, I.freeC, I.pin, I.hok, I.len⟩
theorem hok_track {P : Program} {w : World} {h : Heap} {o : HO} (x : HOk P w H h) (he : H e = none) (ok : ObjOk P w (upd H e o) h e o) : HOk P w (upd H e o) h := fun a u q => by
  by_cases z : a = e
  · subst z
    rw [upd_same] at q
    cases q
    exact ok
  · rw [upd_ne z] at q
    have nb : ∀ b v, H b = some v → upd H e o b = some v := fun b v q2 => by rw [upd_ne (fun z2 => by rw [z2, he] at q2; cases q2)]; exact q2
    exact (x a u q).stay (fun _ _ _ q => q) (fun b q2 => nb b _ q2) fun b xs q2 => nb b _ q2
theorem Inv.track {o : HO} (hex : X.ex = []) (I1 : Inv X pins σ H1 s1) (I : Inv X pins σ H s) (ne : s1.heap.get? e = none) (he : H e = none) (ok : ObjOk X.prog X.w (upd H e o) s.heap e o) : Inv X pins σ (upd H e o) s := by
  have n0 : X.s₀.heap.get? e = none := by
    have b := I1.base
    rw [hex] at b
    exact none_there b ne
  have nx : ∀ b u, s1.heap.get? b = some u → b ≠ e := fun b u q z => by rw [z, ne] at q; cases q
  have hb : ∀ b v, H b = some v → upd H e o b = some v := fun b v q2 => by rw [upd_ne (fun z2 => by rw [z2, he] at q2; cases q2)]; exact q2
  refine ⟨I.ok, I.os, I.bare, ⟨I.base.keep, I.base.slot, fun b u q n hx => ?_, I.base.there, fun b xs q => hb b _ (I.base.tups b xs q), fun b u v q => hb b _ (I.base.frzs b u v q), fun b ps q => ?_⟩, I.loc, I.cell, ?_, fun x c q => ?_, fun p hp => ?_, hok_track I.hok he ok, I.len⟩
  · rw [upd_ne (fun z => by rw [z, n0] at q; cases q)]
    exact I.base.free b u q n hx
  · obtain ⟨more, z⟩ := I.base.tbls b ps q
    exact ⟨more, hb b _ z⟩
  · obtain ⟨m, ⟨u, _, _, hu, _⟩, _⟩ := I1.loc
    rw [upd_ne (nx _ u hu)]
    exact I.free
  · obtain ⟨v, u, hu, _⟩ := I1.cell x c q
    rw [upd_ne (nx _ u hu)]
    exact I.freeC x c q
  · obtain ⟨a1, a2, a3⟩ := I.pin p hp
    obtain ⟨b1, _⟩ := I1.pin p hp
    exact ⟨a1, by rw [upd_ne (nx _ _ b1)]; exact a2, a3⟩
theorem name_off {M : Model} {A : Around} {E : Value → Shared → Prop} {i : Nat} {x : Str} {pos : Pos} {Q : Unit → Shared → Prop} (I : Inv X pins σ H s) (hN : X.N.Nodup) (hi : X.N[i]? = some x) (hk : X.env.scope.names.lookup x = some .local)
    (h : ∀ s', Inv X pins (σ.set i none) H s' → Q () s') : wpAny M A (do bindName X.env x .none; unbindBehindTheSuite X.env x pos) Q E s := by
  obtain ⟨m, hn, hl⟩ := id I.loc
  have hcls : (X.env.scope.kind == .class || (X.env.scope.kind == .module && X.env.locals != X.env.globals)) = false := by rw [I.ok.kind]; rfl
  have hiσ : i < σ.length := by rw [I.len]; exact (List.getElem?_eq_some_iff.mp hi).1
  obtain ⟨oL, _, _, hoL, _⟩ := id hn
  have lo : ∀ b u, X.s₀.heap.get? b = some u → b ≠ X.env.locals := fun b u q => Nat.ne_of_lt (Nat.lt_of_lt_of_le (Heap.lt_size q) I.ok.above)
  refine wpAny_nameGoes_keeps hk hn hcls fun h' v hn' hs => h _ ⟨I.ok, I.os, I.bare, ⟨fun b o q n hb hx => ?_, fun b o q n hb hx => ?_, I.base.free, fun b o q hx => ?_, I.base.tups, I.base.frzs, I.base.tbls⟩, ⟨_, hn', fun j y v' e1 e2 e3 => ?_⟩, fun y c q => ?_, I.free, I.freeC, fun p hp => ?_, fun b ob q => ?_, by simpa using I.len⟩
  · exact (hs.2 b (lo b o q)).trans (I.base.keep b o q n hb hx)
  · obtain ⟨sl, q1⟩ := I.base.slot b o q n hb hx
    exact ⟨sl, (hs.2 b (lo b o q)).trans q1⟩
  · obtain ⟨o', q1⟩ := I.base.there b o q hx
    exact ⟨o', (hs.2 b (lo b o q)).trans q1⟩
  · by_cases hj : j = i
    · subst hj
      rw [List.getElem?_set_self hiσ] at e2
      cases e2
    · rw [List.getElem?_set_ne (Ne.symm hj)] at e2
      obtain ⟨u', r', q⟩ := hl j y v' e1 e2 e3
      refine ⟨u', r', ?_⟩
      rcases q with ⟨k, q⟩ | ⟨k, c, q, z⟩
      · refine .inl ⟨k, ?_⟩
        have ny : y ≠ x := fun z => hj (nodup_ix hN e1 (z ▸ hi))
        simp [ny, q]
      · exact .inr ⟨k, c, q, z.sameBut hs (I.cne y c q)⟩
  · obtain ⟨w', z⟩ := I.cell y c q
    exact ⟨w', z.sameBut hs (I.cne y c q)⟩
  · obtain ⟨q, n, ne, nf, d⟩ := I.pin p hp
    exact ⟨(hs.2 p.1 ne).trans q, n, ne, nf, d⟩
  · refine (I.hok b ob q).stay (fun c w' hc z => (hs.2 c ?_).trans z) (fun _ z => z) fun _ _ z => z
    rintro rfl
    rcases hc with z | z
    · rw [← z, I.free] at q; cases q
    · rw [I.free] at z; cases z
end
theorem Rel.drop {K : PySem.W.Frag} {g : Gh} {env : DE} {σ : St} {H : Hp} {os : List Addr} (r : Rel K g env σ H os) (i : Nat) : Rel K g (env.set i .no) (σ.set i none) H os := by
  have f : ∀ (j : Nat) (sl : Sl), (env.set i Sl.no)[j]? = some sl → sl ≠ .no → i ≠ j ∧ env[j]? = some sl := fun j sl q hn => by
    by_cases hj : i = j
    · subst hj
      exact (hn (get_set_eq q)).elim
    · rw [List.getElem?_set_ne hj] at q
      exact ⟨hj, q⟩
  refine ⟨by simp [r.len], r.ext, fun j d q => ?_, fun j xs q => ?_, fun j k xs ys a q1 q2 q3 q4 => ?_, r.new, fun j v q => ?_, ?_⟩
  · obtain ⟨hj, q⟩ := f j _ q (fun z => nomatch z)
    obtain ⟨v, h1, h2⟩ := r.val j d q
    exact ⟨v, by rw [List.getElem?_set_ne hj]; exact h1, h2⟩
  · obtain ⟨hj, q⟩ := f j _ q (fun z => nomatch z)
    obtain ⟨a, vs, h1, h2⟩ := r.own j xs q
    exact ⟨a, vs, by rw [List.getElem?_set_ne hj]; exact h1, h2⟩
  · obtain ⟨hj, q1⟩ := f j _ q1 (fun z => nomatch z)
    obtain ⟨hk, q2⟩ := f k _ q2 (fun z => nomatch z)
    rw [List.getElem?_set_ne hj] at q3
    rw [List.getElem?_set_ne hk] at q4
    exact r.inj j k xs ys a q1 q2 q3 q4
  · obtain ⟨hj, q⟩ := f j _ q (fun z => nomatch z)
    rw [List.getElem?_set_ne hj]
    exact r.raw j v q
  · obtain ⟨A, dd⟩ := r.dps
    refine ⟨A, dd.to (fun j nss q => ?_) (fun j xs b q z => ?_) fun j nss q x hx => ⟨(dd.mem q x hx).1, rfl⟩⟩
    · obtain ⟨hj, q⟩ := f j _ q (fun z => nomatch z)
      exact ⟨q, by rw [List.getElem?_set_ne hj]⟩
    · obtain ⟨hj, q⟩ := f j _ q (fun z => nomatch z)
      rw [List.getElem?_set_ne hj] at z
      exact .inl ⟨xs, q, z⟩
def unO (i : Nat) : Out → R Out
  | .nx e => .ok (.nx (e.set i .no))
  | _ => .bad
def tryD (i : Nat) (ms : List Str) (f fs : DE → R Out) (env : DE) : R Out := match f env with
  | .ok o => .ok o
  | .err n => if n ∈ ms then (fs (env.set i (.val (.exc n)))).ne.bind (unO i) else .bad
  | .bad => .bad
structure Cat (K : PySem.W.Frag) (mg : Str → Option Value) (c : Str) (ms : List Str) : Prop where
  ex : ∃ C, mg c = some (.ref C) ∧ ∀ n ∈ ms, ∃ D, PySem.W.nsIn K mainGlobals n = some (some (.ref D)) ∧ PySem.W.exmOne K (.ref D) (.ref C) = some true
section
variable {X : Cx} {E : Str → Hp → Prop}
theorem sTry (i : Nat) {ms : List Str} {body : List Stmt} {b₀ : Stmt} {suite : List Stmt} {c x : Str} {cp hpos pos : Pos} {f fs : DE → R Out} (ct : Cat X.K X.mg c ms) (hb : PB X body f) (hsu : ∀ e, PSs (hdl X e) (b₀ :: suite) (tS X.K EN fs)) (hN : X.N.Nodup)
    (hcalm : X.calm = true) (hex : X.ex = [] := by rfl) (hst : X.stack = X.env :: X.outer := by rfl) (hfr : X.env.frame = some X.env.locals := by rfl) (hi : X.N[i]? = some x := by rfl) (hk : X.env.scope.names.lookup x = some .local := by rfl) (hg : Gl X c := by rfl) (hdb : (c == ("__debug__" : Str)) = false := by decide) :
    PS X (.Try body [.ExceptHandler (some (.Name c cp)) (some x) (b₀ :: suite) hpos] [] [] pos) (tS X.K E (tryD i ms f fs)) := by
  intro pins s σ H De I ⟨g, env, os, r, m⟩
  obtain ⟨Cc, cm, cx⟩ := ct.ex
  have hnb : f env ≠ .bad := fun z => by unfold tryD at m; rw [z] at m; exact m
  refine wpAny_Try_except (wpAny_mono (hb pins s σ H De g env os I r hnb fun o q => by unfold tryD at m; rw [q] at m; exact m) (fun fl s1 q => ?_) fun ev s1 q => ?_)
  · cases fl with
    | next => exact wpAny_execs_nil q
    | ret v => exact q
    | brk => exact q
    | cont => exact q
  · obtain ⟨n, H0, s0, ef, I0, e, T, C, H', rfl, x1, n1, n2, n3, n4, ho, bare, un, hok, hc, sm⟩ := q
    unfold tryD at m
    rw [ef] at m
    dsimp only at m
    split at m
    · rename_i hms
      obtain ⟨Dn, dn, dx⟩ := cx n hms
      have eC : C = Dn := by rw [xcK_of dn] at hc; exact Value.ref.inj hc
      subst eC
      have I1 : Inv X pins σ H' s1 := I0.call' ho un hok bare (fun b z => nomatch z)
      have frF : ∀ b ∈ (X.env :: X.outer).filterMap (·.frame), H' b = none := fun b hb => I1.stkFree b (by rw [hst]; exact hb)
      have fl1 := I1.stack
      rw [hst] at fl1
      refine exc_note (L := X.env.locals) (by rw [I.ok.frames, hst]) fl1 hfr x1 fun h2 T2 t1 t2 t3 => exc_set t2 fun h3 u1 u2 => ?_
      have T0 : s0.heap.get? T2 = none := none_there un t1
      have TH : H' T2 = none := free_of_none hok t1
      have kk : Kep ((X.env :: X.outer).filterMap (·.frame)) [e, T, T2] s1.heap h3 := t3.trans (ys := [T2]) (fun b o q hn => ⟨fun _ => (u2 b o q hn).1 (by simp), (u2 b o q hn).2⟩) (by intro c hc; simp at hc; rcases hc with rfl | rfl <;> simp) (by intro c hc; simp at hc; simp [hc])
      have xs0 : ∀ b ∈ [e, T, T2], s0.heap.get? b = none := by
        intro b hb
        simp at hb
        rcases hb with rfl | rfl | rfl
        · exact n1
        · exact n2
        · exact T0
      have xsH : ∀ b ∈ [e, T, T2], H' b = none := by
        intro b hb
        simp at hb
        rcases hb with rfl | rfl | rfl
        · exact n3
        · exact n4
        · exact TH
      have fsub : ∀ b ∈ (X.env :: X.outer).filterMap (·.frame), b ∈ frs X.stack ∨ s0.heap.get? b = none := fun b hb => .inl (by rw [hst]; exact hb)
      have un3 := un_kep un kk xs0 fsub
      have hok3 := hok_kep hok kk xsH frF
      have I3 : Inv X pins σ H' { s1 with heap := h3 } := I0.call' (s' := { s1 with heap := h3 }) ho un3 hok3 bare (fun b z => nomatch z)
      have nby : (Value.ref e) ≠ byPass := by intro q; cases q
      refine wpAny_handleBy_cons (codeAny_handlers_test (ld_glob (Inv.hdl I3 e) hg cm ?_ hdb)) nby
      obtain ⟨vs, a1, a2⟩ := u1.at_
      have lt : PySem.W.Looks (model X.prog X.w) h3 (typeOf (.ref e)) (.ref C) := (PySem.W.Looks.ld a1).andThen .now
      refine (PySem.W.exm_one I3.kIn lt dx).here ?_
      show codeAny _ _ _ _ _
      refine codeAny_handlers_suite_as (exc_set u1 fun h4 w1 w2 => ?_)
      have k4 : Kep ((X.env :: X.outer).filterMap (·.frame)) [e, T, T2] s1.heap h4 := kk.trans (ys := [T2]) (fun b o q hn => ⟨fun _ => (w2 b o q hn).1 (by simp), (w2 b o q hn).2⟩) (fun _ z => z) (by intro c hc; simp at hc; simp [hc])
      have I4 : Inv X pins σ H' { s1 with heap := h4 } := I0.call' (s' := { s1 with heap := h4 }) ho (un_kep un k4 xs0 fsub) (hok_kep hok k4 xsH frF) bare (fun b z => nomatch z)
      have okE : ObjOk X.prog X.w (upd H' e (.ext (excP e C))) h4 e (.ext (excP e C)) := by
        obtain ⟨vs4, b1, b2⟩ := w1.at_
        exact ⟨⟨vs4, b1⟩, ⟨_, b1⟩, fun ha hb ⟨v, q⟩ k => ⟨v, k _ q⟩⟩
      have I5 := Inv.track hex I0 I4 n1 n3 okE
      have r5 : Rel X.K g env σ (upd H' e (.ext (excP e C))) os := (r.same sm).same (same_new n3 _)
      have pe : g.P os e := (r.same sm).fresh n3
      have r6 := r5.set i (d := .exc n) (v := .ref e) ⟨e, C, rfl, pe, dn, upd_same⟩
      refine store_ok (v := .ref e) I5 hN hi (.inl hk) rfl (fun s5 I6 => ?_) (.inr hk)
      have sm5 : Same H (upd H' e (.ext (excP e C))) := sm.trans (same_new n3 _)
      refine wpAny_mono (hsu e pins s5 _ _ ⟨fun σ' Hn => ∀ s', Inv X pins (σ'.set i none) Hn s' → SP X pins De .next s', fun _ _ => False, fun _ _ => False, fun _ _ => False⟩ (Inv.hdl I6 e) ⟨g, _, os, r6, ?_⟩) (fun fl s6 q => ?_) fun _ _ z => False.elim z
      · have m' : Good E g.H₀ ((fs (env.set i (.val (.exc n)))).ne.bind (unO i)) _ := m
        cases q : fs (env.set i (.val (.exc n))) with
        | err c2 => rw [q] at m'; exact m'.elim
        | bad => rw [q] at m'; exact m'.elim
        | ok o =>
          rw [q] at m'
          cases o with
          | nx e2 =>
            have m2 : PostO X.K g H os De (.nx (e2.set i .no)) := m'
            exact fun σ' Hn os' r' st s' I' => ⟨_, Hn, I', m2 _ Hn os' (r'.drop i) ((Stp.same sm5 os).trans st)⟩
          | bk _ => exact m'.elim
          | ct _ => exact m'.elim
          | rt _ => exact m'.elim
          | rtF _ => exact m'.elim
          | rtP _ => exact m'.elim
          | rtQ _ => exact m'.elim
          | rtT _ => exact m'.elim
      · cases fl with
        | next =>
          obtain ⟨σ', Hn, I7, q⟩ := q
          exact name_off (Inv.unhdl I.ok.hd I7) hN hi hk q
        | ret v => obtain ⟨_, _, _, _, _, z⟩ := q; exact z.elim
        | brk => obtain ⟨_, _, _, z⟩ := q; exact z.elim
        | cont => obtain ⟨_, _, _, z⟩ := q; exact z.elim
    · exact m.elim
end
end DL

/-! ### isinstance of an exception of an own class -/
namespace DL
open PySem PySem.Spec PyProof.Rows L2
structure XcK (K : PySem.W.Frag) (D : Addr) : Prop where
  cl : (PySem.W.clsIn K D).isSome = true
  ga : PySem.W.findIn K (.ref D) "__getattribute__" = some (some (.builtin "BaseException.__getattribute__"))
  gh : PySem.W.findIn K (.ref D) "__getattr__" = some none
  ca : PySem.W.findIn K (.ref D) "__class__" = some (some (.builtin "object.__class__"))
  sp : PySem.W.specialIn K (.builtin "object.__class__") "__get__" = some (some (.builtin "getset_descriptor.__get__"))
  tk : PySem.W.takesIn K (.builtin "object.__class__") = some true
  mo : PySem.W.mroIn K D (.type "object") = some true
  mb : PySem.W.subIn K (.ref D) (.type "BaseException") = some true
def ExcAt (x D : Addr) (h : Heap) : Prop := ∃ vs, h.get? x = some { cls := .ref D, data := .fields vs }
section
variable {K : PySem.W.Frag} {x D : Addr}
theorem exc_inst {h : Heap} {vs : Array Value} (q : h.get? x = some { cls := .ref D, data := .fields vs }) : PySem.W.InstAt h x { cls := .ref D, data := .fields vs } D none := ⟨q, rfl, rfl, trivial⟩
theorem exc_find (c : XcK K D) : PySem.W.findObj K D none "__class__" = some (.bind (.builtin "getset_descriptor.__get__") (.builtin "object.__class__")) := by
  obtain ⟨cd, hc⟩ := Option.isSome_iff_exists.mp c.cl
  unfold PySem.W.findObj
  rw [hc, Option.bind_some, c.ca, Option.bind_some]
  simp [c.sp, c.tk]
theorem exc_class {prog : Program} {w : World} {A : Around} {E : Value → Shared → Prop} {Q : Option Value → Shared → Prop} {s : Shared} (c : XcK K D) (X : K.In s.heap) (hx : ExcAt x D s.heap) (hq : Q (some (.ref D)) { s with toks := s.toks + 1 }) :
    wpAny (model prog w) A (getAttr? (.ref x) "__class__") Q E s := by
  obtain ⟨vs, hx⟩ := hx
  have J := exc_inst hx
  obtain ⟨hp, gg, dd, tt, oo⟩ := s
  have l0 := J.type (M := model prog w)
  have l1 := PySem.W.looks_findIn (M := model prog w) X c.ga
  have l2 := PySem.W.looks_findIn (M := model prog w) X c.gh
  have l3 := PySem.W.looks_find (M := model prog w) X J (exc_find c)
  have l4 : PySem.W.Looks (model prog w) hp (isInstance (.ref x) (.type "BaseException")) true := l0.andThen (PySem.W.looks_subIn X c.mb)
  have bs := PySem.F.excAttr_ValueError.ga.bind (.ref x)
  unfold getAttr? getAttrBy? getAttrBy
  refine wpAny_bind (wpAny_mkText (wpAny_bind (wpAny_attempt (wpAny_holding (wpAny_bind (l0.at (wpAny_bind (l1.at ?_))))))))
  have g0 : (onTheHeap (Value.ref D) && Value.builtin "BaseException.__getattribute__" == Value.builtin "object.__getattribute__") = false := by
    have z : (Value.builtin "BaseException.__getattribute__" == Value.builtin "object.__getattribute__") = false := by decide +kernel
    rw [z]; rfl
  dsimp only
  rw [if_neg (by rw [g0]; exact Bool.false_ne_true)]
  unfold getAttrByItsOwn hookBefore
  rw [if_pos (show onTheHeap (Value.ref D) = true from rfl)]
  refine wpAny_bind (l2.at (wpAny_bind (wpAny_attempt (wpAny_holding ?_))))
  unfold callGetattribute boundAndCalled
  simp only [Bool.false_and, Bool.false_eq_true, if_false]
  rw [bs]
  refine wpAny_bind (wpAny_pure ?_)
  have hk : builtinKind "BaseException.__getattribute__" = some .slot := by decide +kernel
  have hsplit : splitId "BaseException.__getattribute__" = some ("BaseException", "__getattribute__") := by decide +kernel
  refine wpAny_call (codeAny_call_builtin PySem.F.excAttr_ValueError.ga.plain PySem.F.entry_bexc_ga ?_)
  have ha := PySem.F.args_bexc_ga (.ref x) (.str "__class__" tt)
  show wpAny _ _ (checkBuiltinCall "BaseException.__getattribute__" ⟨[.ref x, .str "__class__" tt], []⟩) _ _ _
  simp only [checkBuiltinCall, hk, hsplit]
  refine wpAny_bind (l4.at ?_)
  rw [if_neg (by decide)]
  refine wpAny_of_eq ha ?_
  have l5 : PySem.W.Looks (model prog w) hp (typeOf (.ref x)) (.ref D) := l0
  refine wpAny_bind (wpAny_pure (wpAny_bind (wpAny_pure (wpAny_bind (l5.at (wpAny_bind (l3.at ?_)))))))
  show wpAny _ _ (holding [Value.builtin "object.__class__"] (call (.builtin "getset_descriptor.__get__") [.builtin "object.__class__", .ref x, .ref D]) >>= ret) _ _ _
  refine wpAny_bind (wpAny_holding (wpAny_call (PySem.W.class_get X J c.mo (wpAny_pure ?_))))
  refine PySem.W.handed_on rfl (wpAny_pure ?_)
  exact hq
theorem kitx_exc (c : XcK K D) : PySem.W.KitX K (.ref x) (.ref D) (ExcAt x D) where
  ty := fun _ _ _ ⟨_, q⟩ => (exc_inst q).type
  it := fun _ _ X _ => by
    obtain ⟨cd, hc⟩ := Option.isSome_iff_exists.mp c.cl
    unfold PySem.W.clsIn at hc
    split at hc
    · rename_i lk
      intro A' Q' E' s' k q
      unfold isType loadHead
      exact wpAny_bind (wpAny_loadPart (k _ _ (X _ _ lk)) (wpAny_pure q))
    · cases hc
  ne := fun h tp dd its n sl X htp => by
    obtain ⟨cd, hc⟩ := Option.isSome_iff_exists.mp c.cl
    refine Bool.eq_false_iff.mpr fun q => ?_
    have e2 : D = tp := Value.ref.inj (beq_iff_eq.mp q)
    subst e2
    unfold PySem.W.clsIn at hc
    split at hc
    · rename_i lk
      have z := (X _ _ lk).symm.trans htp
      cases z
    · cases hc
  ca := fun X hx q => exc_class c X hx q
end
def subX (c n : Str) : Bool := n == c || c == "BraidError" || c == "ValueError"
def isX (ms cs : List Str) : D → R D
  | .non => .ok (.bl false)
  | .exc n => if n ∈ ms then .ok (.bl (cs.any (subX · n))) else .bad
  | _ => .bad
structure Isx (K : PySem.W.Frag) (ms : List Str) (c : Str) (v : Value) : Prop where
  no : PySem.W.kitOne K (.type "NoneType") v = some false
  ex : ∀ n ∈ ms, ∃ D, PySem.W.nsIn K mainGlobals n = some (some (.ref D)) ∧ XcK K D ∧ PySem.W.kitOne K (.ref D) v = some (subX c n)
section
variable {X : Cx} {pins : List (Addr × Obj)} {σ : St} {H : Hp} {s : Shared} {A : Around} {E : Value → Shared → Prop} {Q : Value → Shared → Prop}
theorem exc_at {P : Addr → Prop} {n : Str} {v : V} {u : Value} {D : Addr} (I : Inv X pins σ H s) (i : Is X.K P H (.exc n) v) (ru : RelV v u) (hn : PySem.W.nsIn X.K mainGlobals n = some (some (.ref D))) : ∃ a, u = .ref a ∧ ExcAt a D s.heap := by
  obtain ⟨a, C, rfl, _, c, q⟩ := i
  rw [c] at hn
  cases hn
  obtain ⟨z, _⟩ := I.hok a _ q
  exact ⟨a, ru, z⟩
theorem isx_ok {P : Addr → Prop} {ms : List Str} {c : Str} {v : V} {u cv : Value} {d b : D} (F : Isx X.K ms c cv) (I : Inv X pins σ H s) (i : Is X.K P H d v) (ru : RelV v u) (e : isX ms [c] d = .ok b) (h : ∀ tk t, b = .bl t → Q (.bool t) { s with toks := tk }) :
    wpAny (model X.prog X.w) A (call (.builtin "isinstance") [u, cv]) Q E s := by
  cases d with
  | non =>
    have e1 : D.bl false = b := R.ok.inj e
    cases i
    cases (show u = Value.none from ru)
    exact PySem.W.kia_one PySem.W.kitx_none I.kIn True.intro F.no (fun z => nomatch z) fun tk => h tk false e1.symm
  | exc n =>
    have e' : (if n ∈ ms then R.ok (D.bl ([c].any (subX · n))) else R.bad) = R.ok b := e
    split at e'
    · rename_i hm
      have e1 := R.ok.inj e'
      simp only [List.any_cons, List.any_nil, Bool.or_false] at e1
      obtain ⟨D, hn, xk, kk⟩ := F.ex n hm
      obtain ⟨a, rfl, ea⟩ := exc_at I i ru hn
      exact PySem.W.kia_one (kitx_exc xk) I.kIn ea kk (fun z => nomatch z) fun tk => h tk _ e1.symm
    · cases e'
  | bl _ => cases e
  | int _ => cases e
  | str _ => cases e
  | lst _ => cases e
  | tup _ => cases e
  | fn _ => cases e
end
end DL

namespace DL
open PySem PySem.Spec PyProof.Rows L2
/-! ### the facts of own classes, as tests over the fragment -/
def xcB (K : PySem.W.Frag) (D : Addr) : Bool := (PySem.W.clsIn K D).isSome && PySem.W.findIn K (.ref D) "__getattribute__" == some (some (.builtin "BaseException.__getattribute__")) && PySem.W.findIn K (.ref D) "__getattr__" == some none
  && PySem.W.findIn K (.ref D) "__class__" == some (some (.builtin "object.__class__")) && PySem.W.specialIn K (.builtin "object.__class__") "__get__" == some (some (.builtin "getset_descriptor.__get__")) && PySem.W.takesIn K (.builtin "object.__class__") == some true
  && PySem.W.mroIn K D (.type "object") == some true && PySem.W.subIn K (.ref D) (.type "BaseException") == some true && PySem.W.excIn K D bmV "ValueError.__new__"
theorem xcB_ok {K : PySem.W.Frag} {D : Addr} (h : xcB K D = true) : XcK K D ∧ PySem.W.excIn K D bmV "ValueError.__new__" = true := by
  unfold xcB at h
  simp only [Bool.and_eq_true, beq_iff_eq] at h
  obtain ⟨⟨⟨⟨⟨⟨⟨⟨h1, h2⟩, h3⟩, h4⟩, h5⟩, h6⟩, h7⟩, h8⟩, h9⟩ := h
  exact ⟨⟨h1, h2, h3, h4, h5, h6, h7, h8⟩, h9⟩
theorem isX_or (ms cs : List Str) (d : D) : isX ms cs d = .bad ∨ ∃ t, isX ms cs d = .ok (.bl t) := by
  cases d with
  | non => exact .inr ⟨false, rfl⟩
  | exc n =>
    show (if n ∈ ms then R.ok (D.bl (cs.any (subX · n))) else R.bad) = _ ∨ ∃ t, (if n ∈ ms then R.ok (D.bl (cs.any (subX · n))) else R.bad) = _
    split
    · exact .inr ⟨_, rfl⟩
    · exact .inl rfl
  | bl _ => exact .inl rfl
  | int _ => exact .inl rfl
  | str _ => exact .inl rfl
  | lst _ => exact .inl rfl
  | tup _ => exact .inl rfl
  | fn _ => exact .inl rfl
structure IsxT (K : PySem.W.Frag) (ms cs : List Str) (Cs : List Addr) : Prop where
  no : PySem.W.kitAny K (.type "NoneType") (Cs.map Value.ref) = some false
  ex : ∀ n ∈ ms, ∃ D, PySem.W.nsIn K mainGlobals n = some (some (.ref D)) ∧ XcK K D ∧ PySem.W.kitAny K (.ref D) (Cs.map Value.ref) = some (cs.any (subX · n))
section
variable {X : Cx} {E : Str → Hp → Prop} {pos : Pos}
theorem oIsx {ms : List Str} {c : Str} {C : Addr} {p p2 : Pos} {a : Expr} {f : DE → R D} (F : Isx X.K ms c (.ref C)) (hmc : X.mg c = some (.ref C)) (hm : X.mg "isinstance" = none) (ha : PE X a (tB X.K E f)) (hg : Gl X "isinstance" := by rfl) (hgt : Gl X c := by rfl) (hdb : (c == ("__debug__" : Str)) = false := by decide)
    (hs : starEach [a, .Name c p2] X.env = (false, eval a X.env) :: starEach [.Name c p2] X.env := by rfl) (hpl : (backTo pos (starEach [.Name c p2] X.env)).any (·.1) = false := by rfl) (hs2 : starEach [.Name c p2] X.env = (false, eval (.Name c p2) X.env) :: starEach [] X.env := by rfl) :
    PE X (.Call (.Name "isinstance" p) [a, .Name c p2] [] pos) (tD X.K E fun env => (f env).bind (isX ms [c])) := by
  have hty : PE X (.Name c p2) (tC (.ref C)) := pe_glob hgt hmc rfl hdb
  refine imp (pe_callB (r := fun xs H Q => ∃ d v t, xs = [v, .ref C] ∧ isX ms [c] d = .ok (.bl t) ∧ Is X.K Tr H d v ∧ Q (.bl t) H) ?_ hg hm bt_isinstance (pa_cons ha (pa_cons hty pa_nil hs2) hs) (by decide) (by decide) hs hpl) fun σ H Q ⟨g, env, os, r, m⟩ => ⟨g, env, os, r, m.bind.mono fun d _ q v H' s i => ?_⟩
  · intro pins s σ H xs us Q I r h
    obtain ⟨d, v, t, rfl, e, hd, q⟩ := h
    obtain ⟨u, w, rfl, ru, rw'⟩ := vals2 r
    have ew : w = .ref C := rw'
    subst ew
    exact isx_ok F I hd ru e fun tk t' et => by
      cases et
      exact ⟨.bl _, H, I.tok _, rfl, q⟩
  · rcases isX_or ms [c] d with e | ⟨t, e⟩
    · rw [e] at q; exact q.elim
    · rw [e] at q
      exact ⟨d, v, t, rfl, e, i, q _ H' s rfl⟩
theorem oIsxB {ms : List Str} {T : String} {x : Str} {p p2 : Pos} {a : Expr} {f : DE → R D} (F : Isx X.K ms x (.type T)) (hv : bootBuiltins x = some (.type T)) (hmt : X.mg x = none) (hm : X.mg "isinstance" = none) (ha : PE X a (tB X.K E f)) (hg : Gl X "isinstance" := by rfl) (hgt : Gl X x := by rfl)
    (hn : x ≠ "__name__" := by decide) (hdb : (x == ("__debug__" : Str)) = false := by decide)
    (hs : starEach [a, .Name x p2] X.env = (false, eval a X.env) :: starEach [.Name x p2] X.env := by rfl) (hpl : (backTo pos (starEach [.Name x p2] X.env)).any (·.1) = false := by rfl) (hs2 : starEach [.Name x p2] X.env = (false, eval (.Name x p2) X.env) :: starEach [] X.env := by rfl) :
    PE X (.Call (.Name "isinstance" p) [a, .Name x p2] [] pos) (tD X.K E fun env => (f env).bind (isX ms [x])) := by
  have hty : PE X (.Name x p2) (tC (.ty T)) := pe_bltn hgt hmt hv rfl hn hdb
  refine imp (pe_callB (r := fun xs H Q => ∃ d v t, xs = [v, .ty T] ∧ isX ms [x] d = .ok (.bl t) ∧ Is X.K Tr H d v ∧ Q (.bl t) H) ?_ hg hm bt_isinstance (pa_cons ha (pa_cons hty pa_nil hs2) hs) (by decide) (by decide) hs hpl) fun σ H Q ⟨g, env, os, r, m⟩ => ⟨g, env, os, r, m.bind.mono fun d _ q v H' s i => ?_⟩
  · intro pins s σ H xs us Q I r h
    obtain ⟨d, v, t, rfl, e, hd, q⟩ := h
    obtain ⟨u, w, rfl, ru, rw'⟩ := vals2 r
    have ew : w = .type T := rw'
    subst ew
    exact isx_ok F I hd ru e fun tk t' et => by
      cases et
      exact ⟨.bl _, H, I.tok _, rfl, q⟩
  · rcases isX_or ms [x] d with e | ⟨t, e⟩
    · rw [e] at q; exact q.elim
    · rw [e] at q
      exact ⟨d, v, t, rfl, e, i, q _ H' s rfl⟩
def tGl (Cs : List Addr) : TA := fun _ H Q => Q (Cs.map V.ref) H
theorem gaN : PA X [] (tGl []) := impA pa_nil fun σ H Q q => q
theorem gaC {c : Str} {C : Addr} {p : Pos} {es : List Expr} {Cs : List Addr} (hmc : X.mg c = some (.ref C)) (hr : PA X es (tGl Cs)) (hg : Gl X c := by rfl) (hdb : (c == ("__debug__" : Str)) = false := by decide) (hs : starEach (.Name c p :: es) X.env = (false, eval (.Name c p) X.env) :: starEach es X.env := by rfl) :
    PA X (.Name c p :: es) (tGl (C :: Cs)) := impA (pa_cons (pe_glob hg hmc (v := .ref C) rfl hdb) hr hs) fun σ H Q q => q
theorem oIsxT {ms cs : List Str} {Cs : List Addr} {p tp : Pos} {x1} {a : Expr} {es : List Expr} {f : DE → R D} (F : IsxT X.K ms cs Cs) (hm : X.mg "isinstance" = none) (ha : PE X a (tB X.K E f)) (ht : PA X es (tGl Cs)) (hl : Cs.length ≤ 1000 := by simp only [List.length_cons, List.length_nil]; decide) (hg : Gl X "isinstance" := by rfl)
    (hs : starEach [a, .Tuple es x1 tp] X.env = (false, eval a X.env) :: starEach [.Tuple es x1 tp] X.env := by rfl) (hpl : (backTo pos (starEach [.Tuple es x1 tp] X.env)).any (·.1) = false := by rfl) (hs2 : starEach [.Tuple es x1 tp] X.env = (false, eval (.Tuple es x1 tp) X.env) :: starEach [] X.env := by rfl) :
    PE X (.Call (.Name "isinstance" p) [a, .Tuple es x1 tp] [] pos) (tD X.K E fun env => (f env).bind (isX ms cs)) := by
  refine imp (pe_callB (r := fun xs H Q => ∃ d v t b, xs = [v, .ref t] ∧ H t = some (.tup (Cs.map V.ref)) ∧ isX ms cs d = .ok (.bl b) ∧ Is X.K Tr H d v ∧ Q (.bl b) H) ?_ hg hm bt_isinstance (pa_cons ha (pa_cons (pe_tup ht) pa_nil hs2) hs) (by decide) (by decide) hs hpl) fun σ H Q ⟨g, env, os, r, m⟩ => ⟨g, env, os, r, m.bind.mono fun d _ q v H' s i => ?_⟩
  · intro pins s σ H xs us Q I r h
    obtain ⟨d, v, t, b, rfl, hT, e, hd, q⟩ := h
    obtain ⟨u, w, rfl, ru, rw'⟩ := vals2 r
    have ew : w = .ref t := rw'
    subst ew
    obtain ⟨_, its, rv, o, h1, h2, n, h3⟩ := (show ObjOk X.prog X.w H s.heap t (.tup _) from I.hok t _ hT)
    have ei : its = Cs.map Value.ref := by
      clear F hl hT h3
      generalize Cs = Cs at rv
      induction Cs generalizing its with
      | nil => cases rv; rfl
      | cons c r ih =>
        cases rv with
        | cons x y =>
          have x' : _ = Value.ref c := x
          rw [x', ih _ y]; rfl
    subst ei
    have ho : s.heap.get? t = some ⟨.type "tuple", o.dict, .seq (Cs.map Value.ref).toArray n, o.slots⟩ := by
      rw [h1]
      cases o
      simp only at h2 h3
      subst h2 h3
      rfl
    cases d with
    | non =>
      have e1 : D.bl false = .bl b := R.ok.inj e
      cases e1
      cases hd
      cases (show u = Value.none from ru)
      exact PySem.W.kia_tup PySem.W.kitx_none I.kIn True.intro ho F.no (fun z => nomatch z) fun tk => ⟨.bl _, H, I.tok _, rfl, q⟩
    | exc n =>
      have e' : (if n ∈ ms then R.ok (D.bl (cs.any (subX · n))) else R.bad) = R.ok (.bl b) := e
      split at e'
      · rename_i hm
        have e1 := R.ok.inj e'
        cases e1
        obtain ⟨D, hn, xk, kk⟩ := F.ex n hm
        obtain ⟨a, rfl, ea⟩ := exc_at I hd ru hn
        exact PySem.W.kia_tup (kitx_exc xk) I.kIn ea ho kk (fun z => nomatch z) fun tk => ⟨.bl _, H, I.tok _, rfl, q⟩
      · cases e'
    | bl _ => cases e
    | int _ => cases e
    | str _ => cases e
    | lst _ => cases e
    | tup _ => cases e
    | fn _ => cases e
  · refine ⟨by rw [List.length_map]; exact Nat.le_of_lt (small1000 hl), fun t ht2 => ?_⟩
    rcases isX_or ms cs d with e | ⟨b, e⟩
    · rw [e] at q; exact q.elim
    · rw [e] at q
      exact ⟨d, v, t, b, rfl, upd_same, e, i.same (same_new ht2 _), q _ _ (s.trans (same_new ht2 _)) rfl⟩
/-! ### is True, is not True; None too -/
theorem glI {x : Str} {i : Int} {t : Tok} (hm : X.mg x = some (.int i t)) (hg : Gl X x := by rfl) (hdb : (x == ("__debug__" : Str)) = false := by decide) : PE X (.Name x pos) (tD X.K E fun _ => .ok (.int i)) :=
  imp (pe_glob hg hm (v := .int i) ⟨t, rfl⟩ hdb) fun σ H Q ⟨g, env, os, r, m⟩ => m _ H (Same.refl H) rfl
end
end DL

namespace DL
open PySem PySem.Spec PyProof.Rows L2
section
variable {X : Cx} {E : Str → Hp → Prop} {pos : Pos}
end
end DL

/-! ### sum, max, min, sorted, index, insert: lists of ints -/
namespace DL
open PySem PySem.Spec PyProof.Rows L2
theorem isl_ofI {K : PySem.W.Frag} {P : Addr → Prop} {H : Hp} : ∀ {ns : List Int} {vs : List V}, IsL K P H (ofI ns) vs → vs = ns.map V.int
  | [], _, h => h
  | n :: ns, _, ⟨v, r, e, p, q⟩ => by
    have p' : v = .int n := p
    rw [e, p', isl_ofI q]; rfl
def kMaxL (xs : List D) : Option D := (toI xs).bind fun ns => (ns.max?).map .int
theorem bt_ValueError : bootBuiltins "ValueError" = some (.type "ValueError") := by decide +kernel
section
variable {X : Cx} {E : Str → Hp → Prop} {pos : Pos}
theorem oMaxL {p : Pos} {a : Expr} {f : DE → R (List D)} (hc : X.calm = true) (hm : X.mg "max" = none) (ha : PE X a (tL X.K E f)) (hg : Gl X "max" := by rfl)
    (he : starEach [a] X.env = (false, eval a X.env) :: starEach [] X.env := by rfl) (hpl : (backTo pos (starEach [] X.env)).any (·.1) = false := by rfl) : PE X (.Call (.Name "max" p) [a] [] pos) (tD X.K E fun env => (f env).bind fun xs => R.of (kMaxL xs)) := by
  refine imp (pe_callB (r := fun xs H Q => ∃ (l : Addr) (ns : List Int) (k : Int), xs = [.ref l] ∧ SqL X.K H l (ns.map V.int) ∧ ns.max? = some k ∧ Q (.int k) H) ?_ hg hm bt_max (pa_cons ha pa_nil he) (by decide) (by decide) he hpl) fun σ H Q ⟨g, env, os, r, m⟩ => ⟨g, env, os, r, m.bind.mono fun xs _ q l vs H' s hl i => ?_⟩
  · intro pins s σ H xs us Q I r h
    obtain ⟨l, ns, k, rfl, hl, hk, q⟩ := h
    obtain ⟨u, rfl, ru⟩ := vals1 r
    have e : u = .ref l := ru
    subst e
    obtain ⟨its, rv, pl, hz⟩ := I.list hl
    have ia := intsAre_of rv
    obtain ⟨ys, hx⟩ := ia.allInts.items
    have hl' : s.heap.IsList l (intItems ys) := hx ▸ pl.isList
    have hh : X.A.handled = none := I.ok.hd hc
    have e1 : ns = ys.toList.map (·.1) := by
      rw [← nums_intItems, ← hx]
      exact (show numsOf its.toArray.toList = ns from ia.numsOf).symm
    have hne : 0 < ys.size := by
      have hl2 := congrArg List.length e1
      simp at hl2
      cases ns with
      | nil => cases hk
      | cons _ _ => simp at hl2; omega
    refine PySem.max_intList hh hl' hne fun v h' tk hv hkp => ?_
    obtain ⟨t, rfl⟩ := intItems_at hv
    obtain ⟨h1, h2⟩ := argBest_gt (numAt ys) (ys.size - 1)
    have mem : ∀ j, j < ys.size → numAt ys j ∈ ns := fun j hj => by rw [numAt_eq, e1]; exact getD_mem (by rw [List.length_map, Array.length_toList]; exact hj)
    have bst : ∀ b ∈ ns, b ≤ numAt ys (argBest (fun i j => decide (numAt ys i > numAt ys j)) (ys.size - 1)) := fun b hb => by
      rw [e1] at hb
      obtain ⟨j, hj, rfl⟩ := mem_getD hb
      rw [List.length_map, Array.length_toList] at hj
      rw [← numAt_eq]; exact h2 j (by omega)
    have ek : numAt ys (argBest (fun i j => decide (numAt ys i > numAt ys j)) (ys.size - 1)) = k := by
      have m1 := mem (argBest (fun i j => decide (numAt ys i > numAt ys j)) (ys.size - 1)) (by omega)
      have hk2 := hk
      rw [List.max?_eq_some_iff] at hk2
      have a1 := hk2.2 _ m1
      have a2 := bst k hk2.1
      omega
    rw [ek]
    exact ⟨.int _, H, I.kept (s := s) (t' := tk) hkp, ⟨_, rfl⟩, q⟩
  · obtain ⟨d, e, q2⟩ := q.of
    unfold kMaxL at e
    cases z : toI xs with
    | none => rw [z] at e; cases e
    | some ns =>
      rw [z] at e
      have ex := of_toI z
      subst ex
      have ev := isl_ofI i
      subst ev
      cases z2 : ns.max? with
      | none => simp [z2] at e
      | some k =>
        simp [z2] at e
        subst e
        exact ⟨l, ns, k, rfl, hl, z2, q2 _ H' s rfl⟩
end
end DL

/-! ### insert; range with a step -/
namespace DL
open PySem PySem.Spec PyProof.Rows L2
section
variable {X : Cx} {E : Str → Hp → Prop} {pos : Pos}
end
end DL

namespace DL
open PySem PySem.Spec PyProof.Rows L2
/-! ### range(a, b, c) -/
section
variable {X : Cx} {E : Str → Hp → Prop} {pos : Pos} {tg : Expr}
end
end DL

namespace DL
open PySem PySem.Spec PyProof.Rows L2
/-! ### comprehensions whose targets are captured by an inner one -/
theorem cellsFrom_app : ∀ (names : List (Str × NameKind)) (n : Nat) (acc : List (Str × Addr)), cellsFrom n names acc = cellsFrom n names [] ++ acc
  | [], n, acc => rfl
  | (x, k) :: r, n, acc => by
    unfold cellsFrom
    split
    · rw [cellsFrom_app r (n + 1) ((x, n) :: acc), cellsFrom_app r (n + 1) [(x, n)], List.append_assoc]
      rfl
    · exact cellsFrom_app r n acc
theorem cellsFrom_name : ∀ (names : List (Str × NameKind)) (n : Nat) {x : Str} {c : Addr}, (x, c) ∈ cellsFrom n names [] → (x, NameKind.cell) ∈ names
  | [], n, x, c, h => by cases h
  | (y, k) :: r, n, x, c, h => by
    unfold cellsFrom at h
    split at h
    · rename_i hk
      rw [cellsFrom_app] at h
      rcases List.mem_append.mp h with z | z
      · exact List.mem_cons_of_mem _ (cellsFrom_name r (n + 1) z)
      · rw [List.mem_singleton] at z
        cases z
        have : k = .cell := by simpa using hk
        rw [this]
        exact List.mem_cons_self
    · exact List.mem_cons_of_mem _ (cellsFrom_name r n h)
theorem lk_app {α : Type} {a b : List (Str × α)} {x : Str} {c : α} (h : (a ++ b).lookup x = some c) : a.lookup x = some c ∨ (a.lookup x = none ∧ b.lookup x = some c) := by
  rw [List.lookup_append] at h
  cases q : a.lookup x with
  | some d => rw [q] at h; exact .inl h
  | none => rw [q] at h; exact .inr ⟨rfl, h⟩
def cl2 (X : Cx) (scope : Scope) (C : Addr) : List (Str × Addr) := cellsFrom (C + 1) scope.names (clL X.env.cells scope.names [])
def cpCx2 (X : Cx) (scope : Scope) (N : List Str) (s : Shared) (H : Hp) (fp : List Addr) (C : Addr) (pl : List (Addr × Obj)) : Cx where
  prog := X.prog
  w := X.w
  K := X.K
  mg := X.mg
  base := X.base
  A := X.A
  N := N
  s₀ := s
  H₀ := H
  env := compEnvC scope (cl2 X scope C) C X.env
  outer := X.stack
  stack := X.stack
  ex := fp
  fn := fun x => scope.names.lookup x == some NameKind.cell
  calm := X.calm
  pn := pl
  xe := fun _ _ => False
structure CpScope2 (X : Cx) (scope : Scope) (N : List Str) (nt : Nat) (caps : List Nat) : Prop where
  kind : scope.kind = .function
  apart : ∀ x, scope.names.lookup x = some .free → (x, NameKind.cell) ∉ scope.names
  names : ∀ y ∈ scope.names, y.2 = .local → scope.names.lookup y.1 = some .local
  free : ∀ y ∈ scope.names, y.2 = .free → X.env.kindOf y.1 = some .cell ∨ X.env.kindOf y.1 = some .free
  len : N.length = nt + caps.length
  nd : N.Nodup
  caps : ∀ (j i : Nat), caps[j]? = some i → ∃ x, N[nt + j]? = some x ∧ X.N[i]? = some x ∧ scope.names.lookup x = some .free ∧ Vis X.env.scope x
section
variable {X : Cx} {scope : Scope} {N : List Str} {nt : Nat} {caps : List Nat} {pins : List (Addr × Obj)} {σ : St} {H : Hp} {s : Shared}
theorem CpScope2.cells (S : CpScope2 X scope N nt caps) (I : Inv X pins σ H s) : ∀ y ∈ scope.names, y.2 = .free → ∃ c, X.env.cells.lookup y.1 = some c := fun y hy hf => I.ok.has y.1 (S.free y hy hf)
theorem CpScope2.lk (S : CpScope2 X scope N nt caps) (I : Inv X pins σ H s) {x : Str} {c : Addr} (h : (clL X.env.cells scope.names []).lookup x = some c) : X.env.cells.lookup x = some c :=
  clL_lookup scope.names [] (S.cells I) (fun c e => by cases e) c h
theorem CpScope2.lk2 (S : CpScope2 X scope N nt caps) (I : Inv X pins σ H s) {C : Addr} (hC : s.heap.objs.size = C) {x : Str} {c : Addr} (h : (cl2 X scope C).lookup x = some c) :
    ((cellsFrom (C + 1) scope.names []).lookup x = some c ∧ C < c ∧ (pushCells (s.heap.push { cls := .type "dict", data := .dict #[] }) scope.names).IsCell c none) ∨ ((cellsFrom (C + 1) scope.names []).lookup x = none ∧ X.env.cells.lookup x = some c ∧ c < C) := by
  unfold cl2 at h
  rw [cellsFrom_app] at h
  have ok := cellsFrom_ok scope.names (s.heap.push { cls := .type "dict", data := .dict #[] }) (C + 1) [] ⟨fun _ _ hm => (nomatch hm), List.Pairwise.nil⟩ (by rw [Heap.size_push]; omega)
  rw [Heap.size_push, hC] at ok
  rcases lk_app h with z | ⟨z1, z⟩
  · have q := ok.empty x c (PySem.mem_of_lookup z)
    exact .inl ⟨z, q.2, q.1⟩
  · have q := S.lk I z
    refine .inr ⟨z1, q, ?_⟩
    obtain ⟨v, hv⟩ := I.cell x c q
    exact hC ▸ hv.lt
theorem CpScope2.newC (S : CpScope2 X scope N nt caps) {C : Addr} {x y : Str} {c : Addr} (h1 : (cellsFrom (C + 1) scope.names []).lookup x = some c) (h2 : (cellsFrom (C + 1) scope.names []).lookup y = some c) {h : Heap} (hC : h.objs.size = C + 1) : x = y := by
  have ok := cellsFrom_ok scope.names h (C + 1) [] ⟨fun _ _ hm => (nomatch hm), List.Pairwise.nil⟩ (by omega)
  rw [hC] at ok
  exact name_of_addr ok.apart (PySem.mem_of_lookup h1) (PySem.mem_of_lookup h2)
theorem CpScope2.start (S : CpScope2 X scope N nt caps) (I : Inv X pins σ H s) {fp : List Addr} (hf : ∀ b ∈ fp, FpOk X pins H b) {C : Addr} (hC : s.heap.objs.size = C)
    (hpin : ∀ b ∈ fp, ∃ o, s.heap.get? b = some o)
    {vs : List V} (hv : vs.length = caps.length) (hvs : ∀ (j i : Nat) (v : V), caps[j]? = some i → vs[j]? = some v → σ[i]? = some (some v)) (σ' : St) (hσ : σ' = List.replicate nt none ++ vs.map some) :
    Inv (cpCx2 X scope N s H fp C (X.pn ++ pins)) [] σ' H { s with heap := pushCells (s.heap.push { cls := .type "dict", data := .dict #[] }) scope.names } := by
  subst hσ
  have hH : ∀ b, s.heap.objs.size ≤ b → H b = none := fun b hb => I.hok.fresh hb
  have lk2 := fun {x c} (h : (cl2 X scope C).lookup x = some c) => S.lk2 I hC h
  have k : ∀ b o, s.heap.get? b = some o → (pushCells (s.heap.push { cls := .type "dict", data := .dict #[] }) scope.names).get? b = some o := fun b o e => pushCells_keeps _ _ b o (Heap.get?_push_of_some _ e)
  have hn : (pushCells (s.heap.push { cls := .type "dict", data := .dict #[] }) scope.names).Ns C (fun _ => none) := by
    rw [← hC]
    exact (Heap.Ns.new s.heap (.type "dict")).keeps (pushCells_keeps _ _)
  have ok : (cpCx2 X scope N s H fp C (X.pn ++ pins)).Ok := {
    mod := I.ok.mod
    kind := S.kind
    glob := I.ok.glob
    blt := I.ok.blt
    above := Nat.le_of_eq hC
    inj := fun x y c h1 h2 => by
      rcases lk2 h1 with ⟨a1, a2, _⟩ | ⟨_, a1, a2⟩ <;> rcases lk2 h2 with ⟨b1, b2, _⟩ | ⟨_, b1, b2⟩
      · exact S.newC a1 b1 (h := s.heap.push { cls := .type "dict", data := .dict #[] }) (by rw [Heap.size_push, hC])
      · exact absurd (Nat.lt_trans a2 b2) (Nat.lt_irrefl _)
      · exact absurd (Nat.lt_trans a2 b2) (Nat.lt_irrefl _)
      · exact I.ok.inj x y c a1 b1
    has := fun x h => by
      have h' : (relabel scope X.env).names.lookup x = some .cell ∨ (relabel scope X.env).names.lookup x = some .free := h
      have hk : scope.names.lookup x = some .free ∨ scope.names.lookup x = some .cell := by
        rcases h' with h' | h'
        · obtain ⟨k', e, q⟩ := relabel_names_kind h'
          rcases q with rfl | ⟨rfl, _⟩
          · exact .inr e
          · exact .inl e
        · obtain ⟨k', e, q⟩ := relabel_names_kind h'
          rcases q with rfl | ⟨rfl, q⟩
          · exact .inl e
          · exact .inl e
      show ∃ c, (cellsFrom (C + 1) scope.names (clL X.env.cells scope.names [])).lookup x = some c
      rw [cellsFrom_app, List.lookup_append]
      rcases hk with hk | hk
      · obtain ⟨c, hc⟩ := clL_has (cells := X.env.cells) (x := x) scope.names [] (.inr (mem_of_lookup hk))
        cases q : (cellsFrom (C + 1) scope.names []).lookup x with
        | some d => exact ⟨d, rfl⟩
        | none => exact ⟨c, hc⟩
      · have q := PySem.W.cellsFrom_some scope.names (C + 1) [] (.inl hk)
        obtain ⟨d, hd⟩ := Option.isSome_iff_exists.mp q
        rw [hd]
        exact ⟨d, rfl⟩
    cab := fun x c hx h => by
      have hk : scope.names.lookup x = some .cell := by
        have : (scope.names.lookup x == some NameKind.cell) = true := hx
        simpa using this
      rcases lk2 h with ⟨_, a2, _⟩ | ⟨a0, _, _⟩
      · show s.heap.objs.size ≤ c
        rw [hC]
        exact Nat.le_of_lt a2
      · have q := PySem.W.cellsFrom_some scope.names (C + 1) [] (.inl hk)
        obtain ⟨d, hd⟩ := Option.isSome_iff_exists.mp q
        rw [hd] at a0
        cases a0
    hd := I.ok.hd
    frames := I.ok.frames
    stk := .inl rfl
    exf := fun b hb => by
      obtain ⟨o, e⟩ := hpin b hb
      have hlt := Heap.lt_size e
      refine ⟨fun z => absurd (z ▸ hlt) (by show ¬ C < _; rw [hC]; exact Nat.lt_irrefl _), fun x c h z => ?_⟩
      rcases lk2 h with ⟨_, a2, _⟩ | ⟨_, a1, _⟩
      · rw [z] at a2
        exact absurd (Nat.lt_trans a2 (hC ▸ hlt)) (Nat.lt_irrefl _)
      · exact (hf b hb).2.2.2.2.1 x c a1 z
    bs := I.bs
    bsz := Nat.le_trans I.ok.bsz I.sz
    noex := fun b o e hb => by
      rcases (hf b hb).2.2.2.1 with z | z
      · exact I.ok.noex b o e z
      · exact absurd (Nat.lt_of_lt_of_le (Heap.lt_size e) (Nat.le_trans I.ok.bsz z)) (Nat.lt_irrefl _)
    exfs := fun b hb z => by
      rcases List.mem_cons.mp (I.stkSub b z) with q | q
      · exact (hf b hb).2.1 q
      · exact (hf b hb).2.2.1 q
    funs := I.stack
    frf := I.stkFree }
  refine ⟨ok, rfl, I.bare, Un.kept k, ⟨_, hn, fun i x v e1 e2 e3 => ?_⟩, fun x c e => ?_, hH C (Nat.le_of_eq hC), fun x c e => ?_, fun p hp => ?_, I.hok.kept k, ?_⟩
  · have hi : nt ≤ i := by
      refine Nat.le_of_not_lt fun z => ?_
      rw [List.getElem?_append_left (by simpa using z), List.getElem?_replicate] at e2
      split at e2 <;> cases e2
    rw [List.getElem?_append_right (by simpa using hi), List.getElem?_map] at e2
    have e2' : (vs[i - nt]?).map some = some (some v) := by simpa using e2
    cases q : vs[i - nt]? with
    | none => rw [q] at e2'; cases e2'
    | some v' =>
      rw [q] at e2'
      cases e2'
      have hj : i - nt < caps.length := by rw [← hv]; exact (List.getElem?_eq_some_iff.mp q).1
      obtain ⟨x', h1, h2, h3, h4⟩ := S.caps (i - nt) caps[i - nt] (List.getElem?_eq_getElem hj)
      have ex : x' = x := by
        have e1' : N[i]? = some x := e1
        rw [show nt + (i - nt) = i by omega, e1'] at h1
        exact (Option.some.inj h1).symm
      subst ex
      have hs := hvs (i - nt) _ v (List.getElem?_eq_getElem hj) q
      obtain ⟨m0, hn0, hl0⟩ := I.loc
      obtain ⟨u, r, l⟩ := hl0 _ x' v h2 hs h4
      refine ⟨u, r, ?_⟩
      have hkx := S.free _ (mem_of_lookup h3) rfl
      rcases l with ⟨k1, _⟩ | ⟨k1, c, hc, hcell⟩
      · have k1' : X.env.kindOf x' = some .local := k1
        rcases hkx with z | z
        · have z' : X.env.kindOf x' = some .cell := z
          rw [k1'] at z'; cases z'
        · have z' : X.env.kindOf x' = some .free := z
          rw [k1'] at z'; cases z'
      · obtain ⟨c', hc'⟩ := ok.has x' (by
          rcases e3 with z | z | z
          · exfalso
            obtain ⟨k', e, q⟩ := relabel_names_kind (show (relabel scope X.env).names.lookup x' = some .local from z)
            rcases q with rfl | ⟨_, q⟩
            · rw [h3] at e; cases e
            · cases q
          · exact .inl z
          · exact .inr z)
        have hc2 : X.env.cells.lookup x' = some c' := by
          rcases lk2 hc' with ⟨a1, _, _⟩ | ⟨_, a1, _⟩
          · exact absurd (cellsFrom_name _ _ (PySem.mem_of_lookup a1)) (S.apart x' h3)
          · exact a1
        rw [hc] at hc2
        cases hc2
        refine .inr ⟨?_, c, hc', let ⟨o, ho, hd⟩ := hcell; ⟨o, k _ o ho, hd⟩⟩
        rcases e3 with z | z | z
        · exfalso
          obtain ⟨k', e, q⟩ := relabel_names_kind (show (relabel scope X.env).names.lookup x' = some .local from z)
          rcases q with rfl | ⟨_, q⟩
          · rw [h3] at e; cases e
          · cases q
        · exact .inl z
        · exact .inr z
  · rcases lk2 e with ⟨_, _, a3⟩ | ⟨_, a1, _⟩
    · exact ⟨_, a3⟩
    · obtain ⟨v, z⟩ := I.cell x c a1
      exact ⟨v, let ⟨o, ho, hd⟩ := z; ⟨o, k _ o ho, hd⟩⟩
  · rcases lk2 e with ⟨_, a2, _⟩ | ⟨_, a1, _⟩
    · exact hH c (by rw [hC]; exact Nat.le_of_lt a2)
    · exact I.freeC x c a1
  · have hp' : p ∈ X.pn ++ pins := by simpa [cpCx2] using hp
    obtain ⟨e, n, ne, nf, d⟩ := I.pin p hp'
    refine ⟨k _ _ e, n, fun z => absurd (Heap.lt_size e) (by rw [z]; show ¬ C < _; rw [hC]; exact Nat.lt_irrefl _), fun z => ?_, d⟩
    rcases List.mem_cons.mp (I.stkSub _ z) with q | q
    · exact ne q
    · exact nf q
  · show (List.replicate nt none ++ vs.map some).length = N.length
    rw [S.len]; simp [hv]
end
section
variable {X : Cx} {E : Str → Hp → Prop} {pos : Pos} {scope : Scope} {N : List Str} {nt : Nat} {caps : List Nat}
variable {elt tg iter : Expr} {ifs : List Expr} {fi : DE → R (List D)} {b : D → DE → R DE} {ct : DE → R Bool} {fe : DE → R D}
end

end DL

namespace DL
open PySem PySem.Spec PyProof.Rows L2
/-! ### a list of lists of ints that nobody else has -/
section
variable {K : PySem.W.Frag} {g : Gh} {env : DE} {σ : St} {H H' : Hp} {os : List Addr}
theorem get_set_ne' {α : Type} {l : List α} {i j : Nat} {x y : α} (e : (l.set i x)[j]? = some y) (h : y ≠ x) : i ≠ j ∧ l[j]? = some y := by
  by_cases hj : i = j
  · subst hj
    exact (h (get_set_eq e)).elim
  · rw [List.getElem?_set_ne hj] at e
    exact ⟨hj, e⟩
theorem Rel.off (r : Rel K g env σ H os) (i : Nat) (x : Option V) : Rel K g (env.set i .no) (σ.set i x) H os := by
  have f : ∀ (j : Nat) (sl : Sl), (env.set i Sl.no)[j]? = some sl → sl ≠ .no → i ≠ j ∧ env[j]? = some sl := fun j sl q hn => get_set_ne' q hn
  refine ⟨by simp [r.len], r.ext, fun j d q => ?_, fun j xs q => ?_, fun j k xs ys a q1 q2 q3 q4 => ?_, r.new, fun j v q => ?_, ?_⟩
  · obtain ⟨hj, q⟩ := f j _ q (fun z => nomatch z)
    obtain ⟨v, h1, h2⟩ := r.val j d q
    exact ⟨v, by rw [List.getElem?_set_ne hj]; exact h1, h2⟩
  · obtain ⟨hj, q⟩ := f j _ q (fun z => nomatch z)
    obtain ⟨a, vs, h1, h2⟩ := r.own j xs q
    exact ⟨a, vs, by rw [List.getElem?_set_ne hj]; exact h1, h2⟩
  · obtain ⟨hj, q1⟩ := f j _ q1 (fun z => nomatch z)
    obtain ⟨hk, q2⟩ := f k _ q2 (fun z => nomatch z)
    rw [List.getElem?_set_ne hj] at q3
    rw [List.getElem?_set_ne hk] at q4
    exact r.inj j k xs ys a q1 q2 q3 q4
  · obtain ⟨hj, q⟩ := f j _ q (fun z => nomatch z)
    rw [List.getElem?_set_ne hj]
    exact r.raw j v q
  · obtain ⟨A, dd⟩ := r.dps
    refine ⟨A, dd.to (fun j nss q => ?_) (fun j xs b q z => ?_) fun j nss q x hx => ⟨(dd.mem q x hx).1, rfl⟩⟩
    · obtain ⟨hj, q⟩ := f j _ q (fun z => nomatch z)
      exact ⟨q, by rw [List.getElem?_set_ne hj]⟩
    · obtain ⟨hj, q⟩ := f j _ q (fun z => nomatch z)
      rw [List.getElem?_set_ne hj] at z
      exact .inl ⟨xs, q, z⟩
end

section
variable {X : Cx} {E : Str → Hp → Prop} {pos : Pos}
end
end DL

namespace DL
open PySem PySem.Spec PyProof.Rows L2
/-! ### a def that gives a new list of new lists of ints -/
section
variable {P : Program} {w : World} {K : PySem.W.Frag} {mg : Str → Option Value} {base : Heap}
end
section
variable {X : Cx} {E : Str → Hp → Prop} {pos : Pos}
def deepAt (i : Nat) (env : DE) : R (List (List Int)) := match env[i]? with
  | some (.deep (.ls nss)) => .ok nss
  | _ => .bad
theorem Good.deep {H₀ : Hp} {i : Nat} {env : DE} {p : List (List Int) → Prop} (h : Good E H₀ (deepAt i env) p) : ∃ nss : List (List Int), env[i]? = some (.deep nss) ∧ p nss := by
  unfold deepAt at h
  split at h
  · rename_i nss e
    exact ⟨nss, e, h⟩
  · exact h.elim
end
end DL

namespace DL
open PySem PySem.Spec PyProof.Rows L2
section
variable {X : Cx} {E : Str → Hp → Prop} {pos : Pos}
end
end DL

namespace DL
open PySem PySem.Spec PyProof.Rows L2
section
variable {K : PySem.W.Frag} {g : Gh} {env : DE} {σ : St} {H H' : Hp} {os : List Addr}
end
section
variable {X : Cx} {E : Str → Hp → Prop} {pos : Pos}
end
end DL

namespace DL
open PySem PySem.Spec PyProof.Rows L2
/-! ### x = [.. for ..], each item a new list of ints -/
section
variable {X : Cx} {E : Str → Hp → Prop} {pos : Pos} {scope : Scope} {N : List Str} {nt : Nat} {caps : List Nat}
variable {elt tg iter : Expr} {ifs : List Expr} {fi : DE → R (List D)} {b : D → DE → R DE} {ct : DE → R Bool} {fe : DE → R (List D)}
end
end DL

namespace DL
open PySem PySem.Spec PyProof.Rows L2
section
variable {X : Cx} {E : Str → Hp → Prop} {pos : Pos}
end
end DL

namespace DL
open PySem PySem.Spec PyProof.Rows L2
section
variable {K : PySem.W.Frag} {g : Gh} {env : DE} {σ : St} {H H1 : Hp} {os : List Addr}
end
section
variable {X : Cx} {E : Str → Hp → Prop} {pos : Pos}
end
end DL

namespace DL
open PySem PySem.Spec PyProof.Rows L2
/-! ### defs handed in as arguments -/
section
variable {X : Cx} {E : Str → Hp → Prop} {pos : Pos} {k : Nat} {fa : Addr} {fd : FuncData} {st : Stmt} {ps : List Str} {x : Str} {p : Pos} {e : Expr} {es : List Expr} {f : DE → R (List D)}
abbrev FTab := List (Str × (List D → R (List D)))
def FnR (X : Cx) (n : Str) (m : List D → R (List D)) : Prop := ∃ st ps fa fd k, Df X.K X.mg n st ps fa fd ∧ FnOk X.prog X.w X.K X.mg X.base CX0 k fa fd ps (spF X.K xc0 m) ∧ Room k X.A
def FnT (X : Cx) (tab : FTab) : Prop := ∀ n m, tab.lookup n = some m → FnR X n m
theorem FnT.nil : FnT X [] := fun n m h => nomatch h
theorem FnT.cons {m : List D → R (List D)} {tab : FTab} (d : Df X.K X.mg x st ps fa fd) (F : FnOk X.prog X.w X.K X.mg X.base CX0 k fa fd ps (spF X.K xc0 m)) (hr : Room k X.A) (h : FnT X tab) : FnT X ((x, m) :: tab) := fun n m' q => by
  rw [List.lookup_cons] at q
  split at q
  · rename_i z
    have e : n = x := eq_of_beq z
    cases q
    subst e
    exact ⟨_, _, _, _, _, d, F, hr⟩
  · exact h n m' q
end
end DL

namespace DL
open PySem PySem.Spec PyProof.Rows L2
section
variable {X : Cx} {E : Str → Hp → Prop} {pos : Pos}
/-! ### int(..) of a bool or an int -/
end
end DL

namespace DL
open PySem PySem.Spec PyProof.Rows L2
/-! ### more bodies of a try: x = f(..), and one of two such by a test -/
section
variable {X : Cx} {k : Nat} {fa : Addr} {fd : FuncData} {st : Stmt} {ps : List Str} {x y : Str} {p pos cpos pos' : Pos} {e : Expr} {es : List Expr} {fr : DE → R (List D)}
end
end DL

namespace DL
open PySem PySem.Spec PyProof.Rows L2
/-! ### a dict of ints to True that nobody else has -/
section
variable {K : PySem.W.Frag} {g : Gh} {env : DE} {σ : St} {H H' : Hp} {os : List Addr}
end
def asInt : D → R Int
  | .int i => .ok i
  | _ => .bad
section
variable {X : Cx} {E : Str → Hp → Prop} {pos : Pos}
theorem Good.int {H₀ : Hp} {d : D} {p : Int → Prop} (h : Good E H₀ (asInt d) p) : ∃ i : Int, d = .int i ∧ p i := by
  unfold asInt at h
  split at h
  · rename_i i
    exact ⟨i, rfl, h⟩
  · exact h.elim
end
end DL

namespace DL
open PySem PySem.Spec PyProof.Rows L2
section
variable {K : PySem.W.Frag} {g : Gh} {env : DE} {σ : St} {H : Hp} {os : List Addr}
end
section
variable {X : Cx} {E : Str → Hp → Prop} {pos : Pos}
end
end DL

namespace DL
open PySem PySem.Spec PyProof.Rows L2
/-! ### a def that gives a tuple of new lists of ints -/
section
variable {P : Program} {w : World} {K : PySem.W.Frag} {mg : Str → Option Value} {base : Heap}
end
section
variable {X : Cx} {E : Str → Hp → Prop} {pos : Pos}
end
section
variable {K : PySem.W.Frag} {g : Gh} {env : DE} {σ : St} {H H' : Hp} {os : List Addr}
end
section
variable {X : Cx} {E : Str → Hp → Prop} {pos : Pos}
end
end DL

namespace DL
open PySem PySem.Spec PyProof.Rows L2
/-! ### texts: module constants, +, * with an int, join, strip -/
section
variable {X : Cx} {E : Str → Hp → Prop} {pos : Pos}
noncomputable def kAddS (x y : D) : Option D := match x, y with
  | .str i, .str j => @ite _ (i.length + j.length ≤ sizeLine) (Classical.propDecidable _) (some (.str (i ++ j))) none
  | _, _ => none
theorem ker_addS : Ker2 X (fun x y H Q => ∃ i j, x = .str i ∧ y = .str j ∧ i.length + j.length ≤ sizeLine ∧ Q (.str (i ++ j)) H) kAddS := fun x y d e => by
  unfold kAddS at e
  split at e
  · rename_i i j
    split at e
    · rename_i c
      cases e
      refine ⟨_, rfl, fun H v w Q h1 h2 hq => ?_⟩
      have h1' : v = .str i := h1
      have h2' : w = .str j := h2
      subst h1' h2'
      exact ⟨i, j, rfl, rfl, c, hq⟩
    · cases e
  · cases e
def toS : List D → Option (List Str)
  | [] => some []
  | .str x :: r => (toS r).map (x :: ·)
  | _ :: _ => none
theorem of_toS : ∀ {xs : List D} {ys : List Str}, toS xs = some ys → xs = ys.map D.str
  | [], ys, h => by cases h; rfl
  | d :: r, ys, h => by
    cases d with
    | str x =>
      unfold toS at h
      cases e : toS r with
      | none => rw [e] at h; cases h
      | some zs => rw [e] at h; cases h; rw [of_toS e]; rfl
    | non => cases h
    | bl _ => cases h
    | int _ => cases h
    | lst _ => cases h
    | tup _ => cases h
    | exc _ => cases h
    | fn _ => cases h
theorem toS_of (ys : List Str) : toS (ys.map D.str) = some ys := by
  induction ys with
  | nil => rfl
  | cons y ys ih =>
    show (toS (ys.map D.str)).map (y :: ·) = _
    rw [ih]
    rfl
theorem isl_strs {K : PySem.W.Frag} {P : Addr → Prop} {H : Hp} : ∀ {ys : List Str} {vs : List V}, IsL K P H (ys.map D.str) vs → vs = ys.map V.str
  | [], _, h => h
  | y :: ys, _, ⟨v, r, e, p, q⟩ => by
    have p' : v = .str y := p
    rw [e, p', isl_strs q]
    rfl
theorem strs_are : ∀ {ys : List Str} {us : List Value}, Vals (ys.map V.str) us → StrsAre us ys
  | [], _, .nil => .nil
  | y :: ys, _, .cons r t => by
    obtain ⟨tk, rfl⟩ := r
    exact .cons y tk (strs_are t)
def rJoin (K : PySem.W.Frag) (x : V) (xs : List V) (H : Hp) (Q : VK) : Prop := ∃ sep l ys, x = .str sep ∧ xs = [.ref l] ∧ SqL K H l (List.map V.str ys) ∧ (List.map (fun y => Str.length y) ys).sum + ys.length * sep.length ≤ 16777216 ∧ Q (.str (Txt.join sep ys)) H
theorem mt_join : MtR X "str.join" (rJoin X.K) := by
  intro pins s σ H x xs v us Q I rx rxs h
  obtain ⟨sep, l, ys, rfl, rfl, hq, hz, q⟩ := h
  obtain ⟨t, rfl⟩ := rx
  obtain ⟨u, rfl, ru⟩ := vals1 rxs
  have e : u = .ref l := ru
  subst e
  obtain ⟨its, rv, pl, _⟩ := I.list hq
  exact join_list pl.isList (by simpa using strs_are rv) hz fun t' k => ⟨.str _, H, I.tok _, ⟨_, rfl⟩, q⟩
def asStr : D → R Str
  | .str i => .ok i
  | _ => .bad
theorem Good.str {H₀ : Hp} {d : D} {p : Str → Prop} (h : Good E H₀ (asStr d) p) : ∃ i : Str, d = .str i ∧ p i := by
  unfold asStr at h
  split at h
  · rename_i i
    exact ⟨i, rfl, h⟩
  · exact h.elim
noncomputable def kJoin (sep : Str) (xs : List D) : Option D := (toS xs).bind fun ys => @ite _ ((List.map (fun y => Str.length y) ys).sum + ys.length * sep.length ≤ 16777216) (Classical.propDecidable _) (some (.str (Txt.join sep ys))) none
theorem oJoin {o e : Expr} {apos cpos : Pos} {fo : DE → R D} {f : DE → R (List D)} (ho : PE X o (tB X.K E fo)) (he : PE X e (tL X.K E f))
    (hbase : attributeBase o "join" X.env (eval o X.env) = eval o X.env := by rfl)
    (hfew : ((backTo cpos (starEach [e] X.env)).all (fun x => !x.1) && (backToKw cpos (keywordEach [] X.env)).all (fun x => x.1.isSome)
      && decide ([e].length + ([] : List Keyword).length + (if ([] : List Keyword).isEmpty then 0 else 1) < 30)) = true := by rfl)
    (hline : (apos.endLine == cpos.line) = true := by rfl) (hs : starEach [e] X.env = (false, eval e X.env) :: starEach [] X.env := by rfl) (hplain : (backTo cpos (starEach [] X.env)).any (·.1) = false := by rfl) :
    PE X (.Call (.Attribute o "join" apos) [e] [] cpos) (tD X.K E fun env => (fo env).bind fun s => (asStr s).bind fun sep => (f env).bind fun xs => R.of (kJoin sep xs)) :=
  imp (pe_bm PySem.F.plainAttrs_str PySem.F.slot_str_join PySem.F.type_str_join mt_join ho (pa_cons he pa_nil hs) hbase hfew hline hs hplain) fun σ H Q ⟨g, env, os, r, m⟩ => ⟨g, env, os, r, m.bind.mono fun s _ m1 v H1 s1 i1 => by
    obtain ⟨sep, rfl, m2⟩ := m1.bind.str
    have hv : v = .str sep := i1
    subst hv
    refine ⟨rfl, g, env, os, r.same s1, m2.bind.mono fun xs _ m3 a ws H2 s2 q2 i2 => ?_⟩
    obtain ⟨d, e1, m4⟩ := m3.of
    unfold kJoin at e1
    cases e2 : toS xs with
    | none => rw [e2] at e1; cases e1
    | some ys =>
      rw [e2] at e1
      have e1' : (@ite _ ((List.map (fun y => Str.length y) ys).sum + ys.length * sep.length ≤ 16777216) (Classical.propDecidable _) (some (D.str (Txt.join sep ys))) none) = some d := e1
      split at e1'
      · rename_i c
        cases e1'
        have e3 := of_toS e2
        subst e3
        have e4 := isl_strs i2
        subst e4
        exact ⟨sep, a, ys, rfl, rfl, q2, c, m4 _ H2 (s1.trans s2) rfl⟩
      · cases e1'⟩
def rStrip (x : V) (xs : List V) (H : Hp) (Q : VK) : Prop := ∃ i j, x = .str i ∧ xs = [.str j] ∧ i.length ≤ sizeLine ∧ Q (.str (Txt.stripChars i j)) H
theorem mt_strip : MtR X "str.strip" rStrip := by
  intro pins s σ H x xs v us Q I rx rxs h
  obtain ⟨i, j, rfl, rfl, hz, q⟩ := h
  obtain ⟨t, rfl⟩ := rx
  obtain ⟨u, rfl, ru⟩ := vals1 rxs
  obtain ⟨t2, rfl⟩ := ru
  exact SCL.stripChars (fun t' k _ => ⟨.str _, H, I.tok _, ⟨_, rfl⟩, q⟩) hz
noncomputable def kStrip (i : Str) (y : D) : Option D := match y with
  | .str j => @ite _ (i.length ≤ sizeLine) (Classical.propDecidable _) (some (.str (Txt.stripChars i j))) none
  | _ => none
theorem oStrip {o e : Expr} {apos cpos : Pos} {fo f : DE → R D} (ho : PE X o (tB X.K E fo)) (he : PE X e (tB X.K E f))
    (hbase : attributeBase o "strip" X.env (eval o X.env) = eval o X.env := by rfl)
    (hfew : ((backTo cpos (starEach [e] X.env)).all (fun x => !x.1) && (backToKw cpos (keywordEach [] X.env)).all (fun x => x.1.isSome)
      && decide ([e].length + ([] : List Keyword).length + (if ([] : List Keyword).isEmpty then 0 else 1) < 30)) = true := by rfl)
    (hline : (apos.endLine == cpos.line) = true := by rfl) (hs : starEach [e] X.env = (false, eval e X.env) :: starEach [] X.env := by rfl) (hplain : (backTo cpos (starEach [] X.env)).any (·.1) = false := by rfl) :
    PE X (.Call (.Attribute o "strip" apos) [e] [] cpos) (tD X.K E fun env => (fo env).bind fun s => (asStr s).bind fun i => (f env).bind fun y => R.of (kStrip i y)) :=
  imp (pe_bm PySem.F.plainAttrs_str PySem.F.slot_str_strip PySem.F.type_str_strip mt_strip ho (pa_cons he pa_nil hs) hbase hfew hline hs hplain) fun σ H Q ⟨g, env, os, r, m⟩ => ⟨g, env, os, r, m.bind.mono fun s _ m1 v H1 s1 i1 => by
    obtain ⟨i, rfl, m2⟩ := m1.bind.str
    have hv : v = .str i := i1
    subst hv
    refine ⟨rfl, g, env, os, r.same s1, m2.bind.mono fun y _ m3 w H2 s2 i2 => ?_⟩
    obtain ⟨d, e1, m4⟩ := m3.of
    unfold kStrip at e1
    split at e1
    · rename_i j _
      split at e1
      · rename_i c
        cases e1
        have hw : w = .str j := i2
        subst hw
        exact ⟨i, j, rfl, rfl, c, m4 _ H2 (s1.trans s2) rfl⟩
      · cases e1
    · cases e1⟩
end
end DL

namespace DL
open PySem PySem.Spec PyProof.Rows L2
/-! ### more texts: str(int), startswith, endswith -/
section
variable {X : Cx} {E : Str → Hp → Prop} {pos : Pos}
noncomputable def kStrI : List D → Option D
  | [.int i] => @ite _ (i.natAbs.log2 < 1920) (Classical.propDecidable _) (some (.str (toString i : String))) none
  | _ => none
theorem ker_strI : KerC X (fun xs H Q => ∃ i, xs = [V.int i] ∧ i.natAbs.log2 < 1920 ∧ Q (V.str (toString i : String)) H) kStrI := fun ds d e => by
  unfold kStrI at e
  split at e
  · rename_i i
    split at e
    · rename_i c
      cases e
      refine ⟨_, rfl, fun H vs Q h q => ?_⟩
      obtain ⟨v, rfl, h1⟩ := IsL.one' h
      have h' : v = .int i := h1
      subst h'
      exact ⟨i, rfl, c, q⟩
    · cases e
  · cases e
def rStarts (x : V) (xs : List V) (H : Hp) (Q : VK) : Prop := ∃ i j, x = .str i ∧ xs = [.str j] ∧ Q (.bl (Txt.startswith i j)) H
theorem mt_starts : MtR X "str.startswith" rStarts := by
  intro pins s σ H x xs v us Q I rx rxs h
  obtain ⟨i, j, rfl, rfl, q⟩ := h
  obtain ⟨t, rfl⟩ := rx
  obtain ⟨u, rfl, ru⟩ := vals1 rxs
  obtain ⟨t2, rfl⟩ := ru
  exact SC.startswith ⟨.bl _, H, I, rfl, q⟩
theorem oStarts {o e : Expr} {apos cpos : Pos} {fo f : DE → R D} (ho : PE X o (tB X.K E fo)) (he : PE X e (tB X.K E f))
    (hbase : attributeBase o "startswith" X.env (eval o X.env) = eval o X.env := by rfl)
    (hfew : ((backTo cpos (starEach [e] X.env)).all (fun x => !x.1) && (backToKw cpos (keywordEach [] X.env)).all (fun x => x.1.isSome)
      && decide ([e].length + ([] : List Keyword).length + (if ([] : List Keyword).isEmpty then 0 else 1) < 30)) = true := by rfl)
    (hline : (apos.endLine == cpos.line) = true := by rfl) (hs : starEach [e] X.env = (false, eval e X.env) :: starEach [] X.env := by rfl) (hplain : (backTo cpos (starEach [] X.env)).any (·.1) = false := by rfl) :
    PE X (.Call (.Attribute o "startswith" apos) [e] [] cpos) (tD X.K E fun env => (fo env).bind fun s => (asStr s).bind fun i => (f env).bind fun y => (asStr y).bind fun j => .ok (.bl (Txt.startswith i j))) :=
  imp (pe_bm PySem.F.plainAttrs_str PySem.F.slot_str_startswith PySem.F.type_str_startswith mt_starts ho (pa_cons he pa_nil hs) hbase hfew hline hs hplain) fun σ H Q ⟨g, env, os, r, m⟩ => ⟨g, env, os, r, m.bind.mono fun s _ m1 v H1 s1 i1 => by
    obtain ⟨i, rfl, m2⟩ := m1.bind.str
    have hv : v = .str i := i1
    subst hv
    refine ⟨rfl, g, env, os, r.same s1, m2.bind.mono fun y _ m3 w H2 s2 i2 => ?_⟩
    obtain ⟨j, rfl, m4⟩ := m3.bind.str
    have hw : w = .str j := i2
    subst hw
    exact ⟨i, j, rfl, rfl, m4 _ H2 (s1.trans s2) rfl⟩⟩
end
end DL

namespace DL
open PySem PySem.Spec PyProof.Rows L2
/-! ### more texts: f-strings, slices, partition, split, a dict of the module's from texts to ints -/
section
variable {X : Cx} {E : Str → Hp → Prop} {pos : Pos}
theorem sl_str : SlR X (fun x lo hi H Q => ∃ z : Str, x = .str z ∧ z.length ≤ sizeLine ∧ Q (.str (Txt.slice z lo hi)) H) := by
  intro pins s σ H x v vl vu lo hi sl Q I rx hs pl pu ⟨z, e, hz, q⟩
  subst e
  obtain ⟨t, rfl⟩ := rx
  refine ⟨"str", _, PySem.F.slot_str_getitem.lookup, typeIs_str _ _ _, ?_⟩
  have key : ∀ (l u : Option (Int × Tok)), vl = partValue l → vu = partValue u → l.map (·.1) = lo → u.map (·.1) = hi → wpAny (model X.prog X.w) X.A (getItem (.str z t) (.ref sl)) (EP X pins σ Q) X.xe s := by
    intro l u e1 e2 e3 e4
    subst e1 e2
    refine wpAny_getItem_str_slice (l := l) (u := u) (st := none) hs rfl ?_
    subst e3 e4
    exact post_val_or_str ⟨Nat.le_trans (Txt.slice_le z _ _) hz, fun t' k => ⟨.str _, H, I.tok _, ⟨_, rfl⟩, q⟩⟩
  cases pl with
  | none => cases pu with
    | none => exact key none none rfl rfl rfl rfl
    | int j u => exact key none (some (j, u)) rfl rfl rfl rfl
  | int i t1 => cases pu with
    | none => exact key (some (i, t1)) none rfl rfl rfl rfl
    | int j u => exact key (some (i, t1)) (some (j, u)) rfl rfl rfl rfl
noncomputable def kSlS (x : D) (lo hi : Option Int) : Option D := match x with
  | .str z => @ite _ (z.length ≤ sizeLine) (Classical.propDecidable _) (some (.str (Txt.slice z lo hi))) none
  | _ => none
theorem oSlS {e : Expr} {lo hi : Option Expr} {f : DE → R D} {fl fh : DE → R (Option Int)} {p2 : Pos} (he : PE X e (tB X.K E f)) (hl : L2.PO X lo (tO X.K E fl)) (hh : L2.PO X hi (tO X.K E fh)) :
    PE X (.Subscript e (.Slice lo hi none p2) pos) (tD X.K E fun env => (f env).bind fun x => (fl env).bind fun l => (fh env).bind fun h => R.of (kSlS x l h)) :=
  imp (pe_slice sl_str he hl hh) fun σ H Q ⟨g, env, os, r, m⟩ => ⟨g, env, os, r, m.bind.mono fun x _ m1 v1 H1 s1 i1 => ⟨g, env, os, r.same s1, m1.bind.mono fun l _ m2 H2 s2 => ⟨g, env, os, r.same (s1.trans s2), m2.bind.mono fun h _ m3 H3 s3 => by
    obtain ⟨d, e1, m4⟩ := m3.of
    unfold kSlS at e1
    split at e1
    · rename_i z _
      split at e1
      · rename_i c
        cases e1
        exact ⟨z, i1, c, m4 _ H3 (s1.trans (s2.trans s3)) rfl⟩
      · cases e1
    · cases e1⟩⟩⟩
/-! partition, split -/
section
variable {prog : Program} {w : World} {A : Around} {Ex : Value → Shared → Prop} {s : Shared} {x y : Str} {t u : Tok} {Q : Value → Shared → Prop}
theorem part_raw (hy : (y.length == 0) = false) (hsz : x.length ≤ sizeLine)
    (h : ∀ ta tb tc k, Q (.ref s.heap.objs.size) { s with heap := s.heap.push { cls := .type "tuple", data := .seq [.str (Txt.partition x y).1 ta, .str (Txt.partition x y).2.1 tb, .str (Txt.partition x y).2.2 tc].toArray }, toks := k }) :
    wpAny (model prog w) A (call (.builtin "str.partition") [.str x t, .str y u]) Q Ex s := by
  refine call_meets PySem.F.slot_str_partition (typeIs_str _ _ _) PySem.F.entry_str_partition (PySem.F.args_str_partition_2 _ _) (meets_str_partition x y t u hy hsz) ?_
  have h' := h
  unfold Txt.partition at h'
  revert h'
  cases Builtin.Str.occurrences x y 0 x.length 1 with
  | nil => intro h'; exact h' _ _ _ _
  | cons i r => intro h'; exact h' _ _ _ _
theorem split_raw (hy : (y.length == 0) = false) (hsz : x.length + 2 ≤ sizeLine)
    (h : ∀ (l : List (Str × Tok)) k, l.map (·.1) = Txt.split x y → Q (.ref s.heap.objs.size) { s with heap := s.heap.push { cls := .type "list", data := .seq (strValues l).toArray }, toks := k }) :
    wpAny (model prog w) A (call (.builtin "str.split") [.str x t, .str y u]) Q Ex s := by
  have hn : (Builtin.Str.partsBetween x (Builtin.Str.occurrences x y 0 x.length (x.length + 1)) y.length).length ≤ sizeLine := by
    rw [length_partsBetween]
    exact Nat.le_trans (Nat.add_le_add_right (StrLaws.occ_length_le x y 0 x.length (x.length + 1)) 1) (by omega)
  cases h1 : (decide (x.length < y.length) || decide (Builtin.Str.strKind x < Builtin.Str.strKind y))
  · cases hf : (Builtin.Str.occurrences x y 0 x.length (x.length + 1)).isEmpty
    · refine call_meets PySem.F.slot_str_split (typeIs_str _ _ _) PySem.F.entry_str_split (PySem.F.args_str_split_2 _ _) (meets_str_split_sep x y t u h1 hy hf (by omega) hn) ?_
      show wants Q Ex _ { s with toks := _, heap := s.heap.push { cls := .type "list", data := .seq (strsFrom s.toks (Builtin.Str.partsBetween x (Builtin.Str.occurrences x y 0 x.length (x.length + 1)) y.length)).toArray } }
      rw [strsFrom_eq]
      exact h (numbered s.toks _) _ ((numbered_texts _ _).trans ((if_neg (ne_true_of_eq_false h1)).trans (if_neg (ne_true_of_eq_false hf))).symm)
    · exact call_meets PySem.F.slot_str_split (typeIs_str _ _ _) PySem.F.entry_str_split (PySem.F.args_str_split_2 _ _) (meets_str_split_not_found x y t u h1 hy hf)
        (h [(x, t)] s.toks ((if_neg (ne_true_of_eq_false h1)).trans (if_pos hf)).symm)
  · exact call_meets PySem.F.slot_str_split (typeIs_str _ _ _) PySem.F.entry_str_split (PySem.F.args_str_split_2 _ _) (meets_str_split_cannot_occur x y t u h1)
      (h [(x, t)] s.toks (if_pos h1).symm)
end
theorem vals_strs : ∀ (l : List (Str × Tok)), Vals ((l.map (·.1)).map V.str) (strValues l)
  | [] => .nil
  | p :: l => .cons ⟨p.2, rfl⟩ (vals_strs l)
def rPart (x : V) (xs : List V) (H : Hp) (Q : VK) : Prop := ∃ i j : Str, x = .str i ∧ xs = [.str j] ∧ (j.length == 0) = false ∧ i.length ≤ sizeLine ∧ ∀ p, H p = none → Q (.ref p) (upd H p (.tup [.str (Txt.partition i j).1, .str (Txt.partition i j).2.1, .str (Txt.partition i j).2.2]))
theorem mt_part : MtR X "str.partition" rPart := by
  intro pins s σ H x xs v us Q I rx rxs h
  obtain ⟨i, j, rfl, rfl, h1, h2, q⟩ := h
  obtain ⟨t, rfl⟩ := rx
  obtain ⟨u, rfl, ru⟩ := vals1 rxs
  obtain ⟨t2, rfl⟩ := ru
  refine part_raw h1 h2 fun ta tb tc k => ?_
  have hf : H s.heap.objs.size = none := I.hok.fresh (Nat.le_refl _)
  exact ⟨.ref s.heap.objs.size, _, I.laid (o := .tup [.str (Txt.partition i j).1, .str (Txt.partition i j).2.1, .str (Txt.partition i j).2.2]) (t' := k) (fun b u e => Heap.get?_push_of_some _ e) (Nat.le_refl _) ⟨by (show 3 ≤ sizeLine); decide, _, .cons ⟨_, rfl⟩ (.cons ⟨_, rfl⟩ (.cons ⟨_, rfl⟩ .nil)), ⟨_, Heap.get?_push_size _ rfl, rfl, _, rfl⟩⟩, rfl, q _ hf⟩
def rSplit (x : V) (xs : List V) (H : Hp) (Q : VK) : Prop := ∃ i j : Str, x = .str i ∧ xs = [.str j] ∧ (j.length == 0) = false ∧ i.length + 2 ≤ sizeLine ∧ (Txt.split i j).length ≤ sizeLine ∧ ∀ p, H p = none → Q (.ref p) (upd H p (.lst ((Txt.split i j).map V.str)))
theorem mt_split : MtR X "str.split" rSplit := by
  intro pins s σ H x xs v us Q I rx rxs h
  obtain ⟨i, j, rfl, rfl, h1, h2, h3, q⟩ := h
  obtain ⟨t, rfl⟩ := rx
  obtain ⟨u, rfl, ru⟩ := vals1 rxs
  obtain ⟨t2, rfl⟩ := ru
  refine split_raw h1 h2 fun l k e => ?_
  have hf : H s.heap.objs.size = none := I.hok.fresh (Nat.le_refl _)
  rw [← e] at q h3
  exact ⟨.ref s.heap.objs.size, _, I.laid (o := .lst ((l.map (·.1)).map V.str)) (t' := k) (fun b u e => Heap.get?_push_of_some _ e) (Nat.le_refl _) ⟨by simpa using h3, strValues l, 0, vals_strs l, Heap.get?_push_size _ rfl⟩, rfl, q _ hf⟩
noncomputable def kPart (i j : Str) : Option D := @ite _ ((j.length == 0) = false ∧ i.length ≤ sizeLine) (Classical.propDecidable _) (some (.tup [.str (Txt.partition i j).1, .str (Txt.partition i j).2.1, .str (Txt.partition i j).2.2])) none
theorem oPart {o e : Expr} {apos cpos : Pos} {fo f : DE → R D} (ho : PE X o (tB X.K E fo)) (he : PE X e (tB X.K E f))
    (hbase : attributeBase o "partition" X.env (eval o X.env) = eval o X.env := by rfl)
    (hfew : ((backTo cpos (starEach [e] X.env)).all (fun x => !x.1) && (backToKw cpos (keywordEach [] X.env)).all (fun x => x.1.isSome)
      && decide ([e].length + ([] : List Keyword).length + (if ([] : List Keyword).isEmpty then 0 else 1) < 30)) = true := by rfl)
    (hline : (apos.endLine == cpos.line) = true := by rfl) (hs : starEach [e] X.env = (false, eval e X.env) :: starEach [] X.env := by rfl) (hplain : (backTo cpos (starEach [] X.env)).any (·.1) = false := by rfl) :
    PE X (.Call (.Attribute o "partition" apos) [e] [] cpos) (tD X.K E fun env => (fo env).bind fun s => (asStr s).bind fun i => (f env).bind fun y => (asStr y).bind fun j => R.of (kPart i j)) :=
  imp (pe_bm PySem.F.plainAttrs_str PySem.F.slot_str_partition PySem.F.type_str_partition mt_part ho (pa_cons he pa_nil hs) hbase hfew hline hs hplain) fun σ H Q ⟨g, env, os, r, m⟩ => ⟨g, env, os, r, m.bind.mono fun s _ m1 v H1 s1 i1 => by
    obtain ⟨i, rfl, m2⟩ := m1.bind.str
    have hv : v = .str i := i1
    subst hv
    refine ⟨rfl, g, env, os, r.same s1, m2.bind.mono fun y _ m3 w H2 s2 i2 => ?_⟩
    obtain ⟨j, rfl, m4⟩ := m3.bind.str
    have hw : w = .str j := i2
    subst hw
    obtain ⟨d, e1, m5⟩ := m4.of
    unfold kPart at e1
    split at e1
    · rename_i c
      cases e1
      refine ⟨i, j, rfl, rfl, c.1, c.2, fun p hp => ?_⟩
      have sm := s1.trans s2
      exact m5 _ _ (sm.trans (same_new hp _)) ⟨p, _, rfl, .inl ⟨(r.same sm).fresh hp, .inl upd_same⟩, ⟨_, _, rfl, rfl, ⟨_, _, rfl, rfl, ⟨_, _, rfl, rfl, rfl⟩⟩⟩⟩
    · cases e1⟩
noncomputable def kSplit (i j : Str) : Option (List D) := @ite _ ((j.length == 0) = false ∧ i.length + 2 ≤ sizeLine ∧ (Txt.split i j).length ≤ sizeLine) (Classical.propDecidable _) (some ((Txt.split i j).map D.str)) none
theorem isl_ofS {K : PySem.W.Frag} {P : Addr → Prop} {H : Hp} : ∀ (ys : List Str), IsL K P H (ys.map D.str) (ys.map V.str)
  | [] => rfl
  | y :: ys => ⟨_, _, rfl, rfl, isl_ofS ys⟩
theorem lSplit {o e : Expr} {apos cpos : Pos} {fo f : DE → R D} (ho : PE X o (tB X.K E fo)) (he : PE X e (tB X.K E f))
    (hbase : attributeBase o "split" X.env (eval o X.env) = eval o X.env := by rfl)
    (hfew : ((backTo cpos (starEach [e] X.env)).all (fun x => !x.1) && (backToKw cpos (keywordEach [] X.env)).all (fun x => x.1.isSome)
      && decide ([e].length + ([] : List Keyword).length + (if ([] : List Keyword).isEmpty then 0 else 1) < 30)) = true := by rfl)
    (hline : (apos.endLine == cpos.line) = true := by rfl) (hs : starEach [e] X.env = (false, eval e X.env) :: starEach [] X.env := by rfl) (hplain : (backTo cpos (starEach [] X.env)).any (·.1) = false := by rfl) :
    PE X (.Call (.Attribute o "split" apos) [e] [] cpos) (tF X.K E fun env => (fo env).bind fun s => (asStr s).bind fun i => (f env).bind fun y => (asStr y).bind fun j => R.of (kSplit i j)) :=
  imp (pe_bm PySem.F.plainAttrs_str PySem.F.slot_str_split PySem.F.type_str_split mt_split ho (pa_cons he pa_nil hs) hbase hfew hline hs hplain) fun σ H Q ⟨g, env, os, r, m⟩ => ⟨g, env, os, r, m.bind.mono fun s _ m1 v H1 s1 i1 => by
    obtain ⟨i, rfl, m2⟩ := m1.bind.str
    have hv : v = .str i := i1
    subst hv
    refine ⟨rfl, g, env, os, r.same s1, m2.bind.mono fun y _ m3 w H2 s2 i2 => ?_⟩
    obtain ⟨j, rfl, m4⟩ := m3.bind.str
    have hw : w = .str j := i2
    subst hw
    obtain ⟨d, e1, m5⟩ := m4.of
    unfold kSplit at e1
    split at e1
    · rename_i c
      cases e1
      refine ⟨i, j, rfl, rfl, c.1, c.2.1, c.2.2, fun p hp => ?_⟩
      obtain ⟨b1, b2, b3, b4⟩ := newL r (s1.trans s2) hp (isl_ofS (Txt.split i j))
      exact m5 p _ _ b1 b2 b3 b4
    · cases e1⟩
/-! a dict of the module's, from texts to ints -/
theorem datumAt_map {α β : Type} {f : α → β} (k : Str) : ∀ (T : List (Str × α)), KTD.datumAt k (T.map fun p => (p.1, f p.2)) = (KTD.datumAt k T).map f
  | [] => rfl
  | (x, a) :: T => by
    show (if decide (k = x) = true then some (f a) else KTD.datumAt k (T.map fun p => (p.1, f p.2))) = (if decide (k = x) = true then some a else KTD.datumAt k T).map f
    rw [datumAt_map k T]
    split <;> rfl
def figD (T : List (Str × Int)) : List (Str × PyData) := T.map fun p => (p.1, PyData.int p.2)
def FigIn (K : PySem.W.Frag) (a : Addr) (T : List (Str × Int)) : Prop := KTD.tabLook KTD.flatLooks (fun b => K.lookup b) a (figD T) = true
theorem FigIn.here {pins : List (Addr × Obj)} {σ : St} {H : Hp} {s : Shared} {a : Addr} {T : List (Str × Int)} (h : FigIn X.K a T) (I : Inv X pins σ H s) : KTD.Here X.base s.heap a ((figD T).map fun p => (p.1, KTD.Dat.flat p.2)) :=
  ⟨(KTD.tab_of_look (R := fun d v => PyProof.V.Flat v d) (fun d v => KTD.flat_of_looks) I.mod.kin h).text, I.bk⟩
theorem fig_at (T : List (Str × Int)) (k : Str) : KTD.datumAt k ((figD T).map fun p => (p.1, KTD.Dat.flat p.2)) = (KTD.datumAt k T).map fun i => KTD.Dat.flat (.int i) := by
  rw [datumAt_map, figD, datumAt_map]
  cases KTD.datumAt k T <;> rfl
theorem fig_keys (T : List (Str × Int)) (k : Str) : KTD.inKeys k ((figD T).map fun p => (p.1, KTD.Dat.flat p.2)) = (KTD.datumAt k T).isSome := by
  rw [← KTD.isSome_datumAt, fig_at]
  cases KTD.datumAt k T <;> rfl
theorem oFigGet {x : Str} {a : Addr} {T : List (Str × Int)} {e ed : Expr} {p apos cpos : Pos} {f fd : DE → R D} (hx : X.mg x = some (.ref a)) (hT : FigIn X.K a T) (he : PE X e (tB X.K E f)) (hed : PE X ed (tB X.K E fd)) (hg : Gl X x := by rfl) (hdb : (x == ("__debug__" : Str)) = false := by decide)
    (hbase : attributeBase (.Name x p) "get" X.env (eval (.Name x p) X.env) = eval (.Name x p) X.env := by rfl)
    (hfew : ((backTo cpos (starEach [e, ed] X.env)).all (fun x => !x.1) && (backToKw cpos (keywordEach [] X.env)).all (fun x => x.1.isSome)
      && decide ([e, ed].length + ([] : List Keyword).length + (if ([] : List Keyword).isEmpty then 0 else 1) < 30)) = true := by rfl)
    (hline : (apos.endLine == cpos.line) = true := by rfl) (hs : starEach [e, ed] X.env = (false, eval e X.env) :: starEach [ed] X.env := by rfl) (hs2 : starEach [ed] X.env = (false, eval ed X.env) :: starEach [] X.env := by rfl) (hplain : (backTo cpos (starEach [ed] X.env)).any (·.1) = false := by rfl) :
    PE X (.Call (.Attribute (.Name x p) "get" apos) [e, ed] [] cpos) (tD X.K E fun env => (f env).bind fun d => (asStr d).bind fun k => (fd env).bind fun d2 => (asInt d2).bind fun i => .ok (.int ((KTD.datumAt k T).getD i))) := by
  intro pins s σ H Q I ⟨g, env, os, r, m⟩
  refine wpAny_Call_method_late hbase hfew hline rfl (thn (pe_glob (v := .ref a) hg hx rfl hdb pins s σ H (fun v H1 => v = .ref a ∧ H1 = H) I ⟨rfl, rfl⟩) fun v s1 ⟨y, H1, I1, r1, e1, e2⟩ => ?_)
  subst e1 e2
  cases r1
  have T1 := hT.here I1
  refine ⟨"dict", "dict.get", PySem.F.plainAttrs_dict, PySem.F.slot_dict_get, PySem.F.type_dict_get, T1.typeIs, T1.noDict, ?_⟩
  have hA := (pa_cons he (pa_cons hed pa_nil hs2) hs : PA X [e, ed] _) cpos pins s1 σ H1 (fun vs H3 => ∃ k i, vs = [.str k, .int i] ∧ Q (.int ((KTD.datumAt k T).getD i)) H3) I1 ⟨g, env, os, r, m.bind.mono fun d _ m1 v2 H2 s2 i2 => by
    obtain ⟨k, rfl, m2⟩ := m1.bind.str
    have hv : v2 = .str k := i2
    subst hv
    refine ⟨g, env, os, r.same s2, m2.bind.mono fun d2 _ m3 w H3 s3 i3 => ?_⟩
    obtain ⟨i, rfl, m4⟩ := m3.bind.int
    have hw : w = .int i := i3
    subst hw
    exact ⟨k, i, rfl, m4 _ H3 (s2.trans s3) rfl⟩⟩
  · rw [hs] at hA ⊢
    refine Calls.callWith_builtin (by show (false || (backTo cpos (starEach [ed] X.env)).any (·.1)) = false; rw [hplain] <;> rfl) (Calls.evalArgs_plain ?_)
    refine thn hA fun us s2 ⟨vs, H2, I2, r2, k, i, e3, q2⟩ => ?_
    subst e3
    cases r2 with
    | cons ra rb =>
      cases rb with
      | cons rc rd =>
        cases rd
        obtain ⟨t1, rfl⟩ := ra
        obtain ⟨t2, rfl⟩ := rc
        have T2 := hT.here I2
        refine call_meetsIn PySem.F.slot_dict_get T2.typeIs PySem.F.entry_dict_get (PySem.F.args_dict_get_3 _ _ _) (KTD.meets_get2 (h₀ := X.base)) ⟨T2, fun d v ha hv => ?_, fun hn => ?_⟩
        · rw [fig_at] at ha
          cases hd : KTD.datumAt k T with
          | none => rw [hd] at ha; cases ha
          | some j =>
            rw [hd] at ha q2
            cases ha
            have hv' : PyProof.V.Flat v (.int j) := hv
            obtain ⟨t3, rfl⟩ := PyProof.V.Flat.int_inv hv'
            exact ⟨.int j, H2, I2.tok _, ⟨_, rfl⟩, q2⟩
        · rw [fig_at] at hn
          cases hd : KTD.datumAt k T with
          | some j => rw [hd] at hn; cases hn
          | none =>
            rw [hd] at q2
            exact ⟨.int i, H2, I2.tok _, ⟨_, rfl⟩, q2⟩
theorem subFig {prog : Program} {w : World} {A : Around} {Ex : Value → Shared → Prop} {s : Shared} {h₀ : Heap} {a : Addr} {k : Str} {tk : Tok} {T : List (Str × Int)} {i : Int} {value slice : Expr} {Q : Value → Shared → Prop} (T1 : KTD.Here h₀ s.heap a ((figD T).map fun p => (p.1, KTD.Dat.flat p.2))) (hk : KTD.datumAt k T = some i) (h : ∀ t, Q (.int i t) { s with toks := s.toks + 1 })
    (hs : subscripted slice false (.ref a) (.str k tk) = operate [.ref a, .str k tk] (getItem (.ref a) (.str k tk))) :
    wpAny (model prog w) A (subscriptTail value slice (.ref a) (.str k tk)) Q Ex s := by
  refine subscriptTail_builtin_flat T1.typeIs slot_dict_getitem.lookup ?_ hs
  unfold getItem
  (try with_reducible refine wpAny_holding ?_) <;> refine wpAny_bind (wpAny_sequenceKey T1.typeIs (by decide) ?_)
  refine wpAny_bind (wpAny_callSpecial?_slot (name := Str.ofString "__getitem__") T1.typeIs slot_dict_getitem
    (wpAny_call_entry slot_dict_getitem T1.typeIs entry_dict_getitem ?_ (args_dict_getitem _ _)))
  refine wpAny_bind (m := dictGet a (.str k tk)) (KTD.dictGet_text T1 (fun d v ha hv => ?_) fun hn => ?_)
  · rw [fig_at, hk] at ha
    cases ha
    have hv' : PyProof.V.Flat v (.int i) := hv
    obtain ⟨t3, rfl⟩ := PyProof.V.Flat.int_inv hv'
    exact wpAny_pure ⟨_, rfl, wpAny_pure ⟨fun b e => (nomatch e), h t3⟩⟩
  · rw [fig_at, hk] at hn
    cases hn
theorem op_figNot {a : Addr} {T : List (Str × Int)} (hT : FigIn X.K a T) : OpR X (compareOp .NotIn) (fun x y H Q => ∃ k : Str, x = .str k ∧ y = .ref a ∧ Q (.bl (!(KTD.datumAt k T).isSome)) H) := by
  intro pins s σ H x y v u Q I rx ry h
  obtain ⟨k, rfl, rfl, q⟩ := h
  obtain ⟨t, rfl⟩ := rx
  cases ry
  refine KTD.notin_text (hT.here I) ⟨.bl _, H, I.tok _, rfl, ?_⟩
  rw [fig_keys]
  exact q
theorem tFigNot {x : Str} {a : Addr} {T : List (Str × Int)} {e : Expr} {p : Pos} {f : DE → R D} (hx : X.mg x = some (.ref a)) (hT : FigIn X.K a T) (he : PE X e (tB X.K E f)) (hg : Gl X x := by rfl) (hdb : (x == ("__debug__" : Str)) = false := by decide) (hm : behindInMarks .NotIn (.Name x p) = false := by rfl) :
    PT X (.Compare e [.NotIn] [.Name x p] pos) (tT X.K E fun env => (f env).bind fun d => (asStr d).bind fun k => .ok (!(KTD.datumAt k T).isSome)) :=
  impT (pt_cmpR (op_figNot hT) he (pe_glob (v := .ref a) hg hx rfl hdb) hm) fun σ H Q ⟨g, env, os, r, m⟩ => ⟨g, env, os, r, m.bind.mono fun d _ m1 v H1 s1 i1 => by
    obtain ⟨k, rfl, m2⟩ := m1.bind.str
    have hv : v = .str k := i1
    subst hv
    exact ⟨k, rfl, rfl, _, rfl, m2 H1 s1⟩⟩
theorem ix_fig {a : Addr} {T : List (Str × Int)} (hT : FigIn X.K a T) : IxR X (fun x y H Q => ∃ (k : Str) (i : Int), x = .ref a ∧ y = .str k ∧ KTD.datumAt k T = some i ∧ Q (.int i) H) := by
  intro value slice pins s σ H x y v u Q I rx ry h hs
  obtain ⟨k, i, rfl, rfl, hk, q⟩ := h
  cases rx
  obtain ⟨t, rfl⟩ := ry
  have T1 := hT.here I
  exact subFig T1 hk (fun t => ⟨.int i, H, I.tok _, ⟨_, rfl⟩, q⟩) hs
def figAt (T : List (Str × Int)) (k : Str) : R D := match KTD.datumAt k T with
  | some i => .ok (.int i)
  | none => .bad
theorem oFigIx {x : Str} {a : Addr} {T : List (Str × Int)} {e : Expr} {p : Pos} {f : DE → R D} (hx : X.mg x = some (.ref a)) (hT : FigIn X.K a T) (he : PE X e (tB X.K E f)) (hg : Gl X x := by rfl) (hdb : (x == ("__debug__" : Str)) = false := by decide) (hs : PlainIx e := by exact fun _ _ => rfl) :
    PE X (.Subscript (.Name x p) e pos) (tD X.K E fun env => (f env).bind fun d => (asStr d).bind fun k => figAt T k) :=
  imp (pe_ix (ix_fig hT) (pe_glob (v := .ref a) hg hx rfl hdb) he hs) fun σ H Q ⟨g, env, os, r, m⟩ => ⟨g, env, os, r, m.bind.mono fun d _ m1 v H1 s1 i1 => by
    obtain ⟨k, rfl, m2⟩ := m1.bind.str
    have hv : v = .str k := i1
    subst hv
    unfold figAt at m2
    split at m2
    · rename_i i hk
      exact ⟨k, i, rfl, rfl, hk, m2 _ H1 s1 rfl⟩
    · exact m2.elim⟩
end
end DL

namespace DL
open PySem PySem.Spec PyProof.Rows L2
/-! ### a def that gives a tuple of an int and a new list of ints -/
section
variable {P : Program} {w : World} {K : PySem.W.Frag} {mg : Str → Option Value} {base : Heap}
end
section
variable {X : Cx} {E : Str → Hp → Prop} {pos : Pos}
end
section
variable {K : PySem.W.Frag} {g : Gh} {env : DE} {σ : St} {H H' : Hp} {os : List Addr}
end
section
variable {X : Cx} {E : Str → Hp → Prop} {pos : Pos}
def asOne : D → R Unit
  | .int 1 => .ok ()
  | _ => .bad
theorem Good.one {H₀ : Hp} {d : D} {p : Unit → Prop} (h : Good E H₀ (asOne d) p) : d = .int 1 ∧ p () := by
  unfold asOne at h
  split at h
  · exact ⟨rfl, h⟩
  · exact h.elim
end
end DL

namespace DL
open PySem PySem.Spec PyProof.Rows L2
/-! ### list(s), s[::2] -/
section
variable {X : Cx} {E : Str → Hp → Prop} {pos : Pos}
def asTwo : D → R Unit
  | .int 2 => .ok ()
  | _ => .bad
theorem Good.two {H₀ : Hp} {d : D} {p : Unit → Prop} (h : Good E H₀ (asTwo d) p) : d = .int 2 ∧ p () := by
  unfold asTwo at h
  split at h
  · exact ⟨rfl, h⟩
  · exact h.elim
end
end DL

namespace DL
open PySem PySem.Spec PyProof.Rows L2
/-! ### a text in a tuple of texts, a text joined, a text's sign -/
section
variable {X : Cx} {E : Str → Hp → Prop} {pos : Pos}
end
end DL

namespace DL
open PySem PySem.Spec PyProof.Rows L2
/-! ### an exception that leaves a comprehension -/
section
variable {M : Model} {A : Around} {E : Value → Shared → Prop} {s : Shared} {base : Heap} {env : Env} {outer : List Env} {L e T C : Addr} {Q : Unit → Shared → Prop}
theorem exc_setf {fl : Value} (fr : Option Addr) (x : Exc s.heap e T C fl) (hQ : ∀ h', Exc h' e T C (fr.elim .none fun f => rawInt f) → Kep [] [T] s.heap h' → Q () { s with heap := h' }) : wpAny M A (setFlight (.ref e) fr) Q E s := by
  obtain ⟨⟨vs, x1, x2⟩, x3, oT, ts, x4, x5, x6⟩ := x
  have y3 : 3 < ts.size := (Array.getElem?_eq_some_iff.mp x6).1
  unfold setFlight
  refine wpAny_bind (wpAny_field x1 rfl x2 ?_)
  rw [if_pos (show (Value.ref T != Value.none) = true from rfl)]
  refine wpAny_setField x4 x5 y3 (hQ _ ?_ (.of_eq fun b o q hn => ?_))
  · refine ⟨⟨vs, ?_, x2⟩, x3, _, _, Heap.get?_update_self _ x4 (Obj.isFreed_of_fields (Obj.data_mapFields x5 _)), Obj.data_mapFields x5 _, by simp [y3]⟩
    rw [Heap.get?_update_other _ _ x3]
    exact x1
  · rw [Heap.get?_update_other _ _ (fun z => hn (by simp [z]))]
    exact q
theorem exc_noteF {fl : Value} (hfl : fl ≠ rawInt L) (hfr : A.frames = some (env :: outer)) (hl : s.heap.FunFrames base (env :: outer)) (hf : env.frame = some L) (x : Exc s.heap e T C fl)
    (hQ : ∀ h' T', s.heap.get? T' = none → Exc h' e T' C (rawInt L) → Kep ((env :: outer).filterMap (·.frame)) [e, T] s.heap h' → Q () { s with heap := h' }) : wpAny M A (noteFrame (.ref e) env) Q E s := by
  obtain ⟨⟨vs, x1, x2⟩, x3, oT, ts, x4, x5, x6⟩ := x
  unfold noteFrame
  simp only [hf]
  refine wpAny_bind (wpAny_field x1 rfl x2 ?_)
  rw [if_pos (show (Value.ref T != Value.none) = true from rfl)]
  refine wpAny_bind (wpAny_field x4 x5 x6 ?_)
  rw [if_neg (show ¬ ((fl == rawInt L) = true) from fun z => hfl (beq_iff_eq.mp z))]
  refine wpAny_bind (wpAny_setField x4 x5 (Array.getElem?_eq_some_iff.mp x6).1 ?_)
  have oth : ∀ b, b ≠ T → (s.heap.update T (Obj.mapFields (·.setIfInBounds 3 Value.none))).get? b = s.heap.get? b := fun b z => Heap.get?_update_other _ _ (Ne.symm z)
  have hl2 : (s.heap.update T (Obj.mapFields (·.setIfInBounds 3 Value.none))).FunFrames base (env :: outer) := hl.of_keeps fun b o q nf => ⟨o, (oth b fun z => by rw [z, x4] at q; cases q; exact nf ts x5).trans q, rfl⟩
  refine exc_entry (s := { s with heap := s.heap.update T (Obj.mapFields (·.setIfInBounds 3 Value.none)) }) hfr hl2 hf ((oth e (Ne.symm x3)).trans x1) (Array.getElem?_eq_some_iff.mp x2).1 fun h' T' n1 n2 n3 => hQ h' T' ?_ n2 ?_
  · by_cases z : T' = T
    · have n1' : (s.heap.update T (Obj.mapFields (·.setIfInBounds 3 Value.none))).get? T' = none := n1
      rw [z, Heap.get?_update_self _ x4 (Obj.isFreed_of_fields (Obj.data_mapFields x5 _))] at n1'
      cases n1'
    · exact (oth T' z).symm.trans n1
  · refine Kep.trans (xs := [T]) (ys := [e]) (.of_eq fun b o q hn => (oth b fun z => hn (by simp [z])).trans q) n3 ?_ ?_
    · intro c hc; simp at hc; simp [hc]
    · intro c hc; simp at hc; simp [hc]
end
theorem funFrames_kep {h h' base : Heap} : ∀ {l : List Env}, h.FunFrames base l → (∀ b ∈ l.filterMap (·.frame), ∀ o, h.get? b = some o → ∃ sl, h'.get? b = some { o with slots := sl }) → h'.FunFrames base l
  | [], _, _ => trivial
  | env :: rest, ⟨hk, ⟨L, o, hf, hn, ho, hd⟩, hr⟩, k => by
    obtain ⟨sl, q⟩ := k L (by rw [List.filterMap_cons, hf]; exact List.mem_cons_self) o ho
    exact ⟨hk, ⟨L, _, hf, hn, q, hd⟩, funFrames_kep hr fun b hb => k b (by rw [List.filterMap_cons, hf]; exact List.mem_cons_of_mem _ hb)⟩
def CFail (X : Cx) (E1 : Str → Hp → Prop) : Prop := ∀ (n : Str) (pins : List (Addr × Obj)) (σ : St) (H1 H6 : Hp) (s1 s6 : Shared) (e T C Cc : Addr) (mC : Str → Option Value) (use : Option (Value → Sem Unit)) (Qv : Value → Shared → Prop) (acc : Value) (E' : Value → Shared → Prop),
  Inv X pins σ H1 s1 → Inv X pins σ H6 s6 → s1.heap.get? e = none → s1.heap.get? T = none → Exc s6.heap e T C .none → H6 e = none → H6 T = none → Value.ref C = xcK X.K n → E1 n H6 → (∃ o, s1.heap.get? Cc = some o) → FpOk X pins H6 Cc → s6.heap.Ns Cc mC →
    wpAny (model X.prog X.w) X.A (noteFrame (.ref e) X.env) (fun _ s'' => compPost (model X.prog X.w) X.A X.xe use Qv acc Cc (.error (.ref e)) s'') E' s6
section
variable {P : Program} {w : World} {K : PySem.W.Frag} {mg : Str → Option Value} {base : Heap} {N : List Str} {qual : Str} {scope : Scope} {f : Addr} {cd : Value} {A : Around} {outer : List Env} {s : Shared} {H : Hp} {E : XK}
theorem fly2 {pins : List (Addr × Obj)} {σ : St} {H2 : Hp} {s2 : Shared} {e C : Addr} (I2 : Inv (cxOf (CXF P w) P w K mg base N qual scope f cd A outer s H E) pins σ H2 s2)
    (n1 : s.heap.get? e = none) (h2e : H2 e = none) (hE : E (.ref C) none H2)
    {h' : Heap} {T' : Addr} (xs : List Addr) (hxs : ∀ b ∈ xs, s.heap.get? b = none) (hxh : ∀ b ∈ xs, H2 b = none) (k : Kep ((envOfC qual scope s.heap.objs.size f cd :: outer).filterMap (·.frame)) xs s2.heap h') (hT : s.heap.get? T' = none) (hTh : H2 T' = none) (hx : Exc h' e T' C .none) :
    CXF P w outer H s E (.ref e) { s2 with heap := h' } := by
  have fr : ∀ b ∈ (envOfC qual scope s.heap.objs.size f cd :: outer).filterMap (·.frame), b ∈ frs outer ∨ s.heap.get? b = none := fun b hb => by
    rcases List.mem_cons.mp (I2.stkSub b hb) with z | z
    · refine .inr ?_
      have hn : (s.heap.get? b) = none := by
        rw [z]
        exact Heap.get?_none_of_le (Nat.le_refl _)
      exact hn
    · exact .inl z
  exact ⟨e, T', C, H2, rfl, hx, n1, hT, h2e, hTh, I2.os, I2.bare, un_kep I2.base k hxs fr, hok_kep I2.hok k hxh (fun b hb => I2.stkFree b hb), hE⟩
theorem exc_kept {h h' : Heap} {e T C : Addr} {fl : Value} (x : Exc h e T C fl) (k : ∀ b o, (b = e ∨ b = T) → h.get? b = some o → h'.get? b = some o) : Exc h' e T C fl := by
  obtain ⟨⟨vs, x1, x2⟩, x3, oT, ts, x4, x5, x6⟩ := x
  exact ⟨⟨vs, k e _ (.inl rfl) x1, x2⟩, x3, oT, ts, k T _ (.inr rfl) x4, x5, x6⟩
theorem cfail : CFail (cxOf (CXF P w) P w K mg base N qual scope f cd A outer s H E) (EW K E) := by
  intro n pins σ H1 H6 s1 s6 e T C Cc mC use Qv acc E' I1 I6 n1 n2 x he hT hc hE hCs fC hn
  have nn : ∀ b, s1.heap.get? b = none → s.heap.get? b = none := fun b q => none_there I1.base q
  have hE' : E (.ref C) none H6 := by rw [hc]; exact hE
  obtain ⟨oC, hoC⟩ := hCs
  have hCe : Cc ≠ e := fun z => by rw [z, n1] at hoC; cases hoC
  have hCT : Cc ≠ T := fun z => by rw [z, n2] at hoC; cases hoC
  have hCn : s.heap.get? Cc = none := by
    rcases fC.2.2.2.1 with z | z
    · cases z
    · exact Heap.get?_none_of_le z
  have hCf : Cc ∉ (envOfC qual scope s.heap.objs.size f cd :: outer).filterMap (·.frame) := fun hb => by
    rcases List.mem_cons.mp (I6.stkSub Cc hb) with z | z
    · exact fC.2.1 z
    · exact fC.2.2.1 z
  refine exc_note (L := s.heap.objs.size) I6.ok.frames I6.stack rfl x fun h' T' t1 t2 t3 => ?_
  have hTn : s1.heap.get? T' = none ∨ True := .inr trivial
  have T'n : s.heap.get? T' = none := none_there I6.base t1
  have T'f : H6 T' = none := free_of_none I6.hok t1
  obtain ⟨ob, es, ep, ho, r⟩ := hn
  have hCT' : Cc ≠ T' := fun z => by rw [← z, ho] at t1; cases t1
  have hCk : h'.get? Cc = some ob := (t3 Cc ob ho (by simp [hCe, hCT])).1 hCf
  refine ⟨mC, ⟨ob, es, ep, hCk, r⟩, fun h'' sb cenv hcl => ?_⟩
  have t2' : Exc h'' e T' C (rawInt s.heap.objs.size) := exc_kept t2 fun b o hb q => by
    have hbC : b ≠ Cc := by
      rcases hb with rfl | rfl
      · exact Ne.symm hCe
      · exact Ne.symm hCT'
    exact (sb.2 b hbC).trans q
  have k12 : Kep ((envOfC qual scope s.heap.objs.size f cd :: outer).filterMap (·.frame)) [e, T, Cc] s6.heap h'' := t3.trans (ys := [Cc]) (.of_eq fun b o q hn => (sb.2 b fun z => hn (by simp [z])).trans q) (fun c hc => by simp at hc; rcases hc with rfl | rfl <;> simp) (fun c hc => by simp at hc; simp [hc])
  unfold PySem.passOn
  obtain ⟨⟨vs, y1, y2⟩, y3, y4⟩ := t2'
  refine wpAny_bind (wpAny_field (s := { s6 with heap := h'' }) y1 rfl y2 ?_)
  rw [if_neg (show ¬ ((Value.ref T' == Value.none) = true) from fun z => by cases (beq_iff_eq.mp z))]
  refine wpAny_bind (exc_setf (s := { s6 with heap := h'' }) cenv.frame ⟨⟨vs, y1, y2⟩, y3, y4⟩ fun h3 u1 u2 => wpAny_throw ?_)
  have k123 : Kep ((envOfC qual scope s.heap.objs.size f cd :: outer).filterMap (·.frame)) [e, T, Cc, T'] s6.heap h3 := k12.trans (ys := [T']) (fun b o q hn => ⟨fun _ => (u2 b o q hn).1 (by simp), (u2 b o q hn).2⟩) (fun c hc => by simp at hc; rcases hc with rfl | rfl | rfl <;> simp) (fun c hc => by simp at hc; simp [hc])
  show wpAny _ _ (leaving _ (.ref e)) _ _ { s6 with heap := h3 }
  unfold leaving
  by_cases hfl : (cenv.frame.elim Value.none fun f => rawInt f) = rawInt s.heap.objs.size
  · rw [hfl] at u1
    refine wpAny_bind (exc_again (s := { s6 with heap := h3 }) (L := s.heap.objs.size) rfl u1 (exc_set (s := { s6 with heap := h3 }) u1 fun h4 v1 v2 => ?_))
    refine fly2 (s2 := s6) I6 (nn e n1) he hE' [e, T, Cc, T'] ?_ ?_ (k123.trans (ys := [T']) (fun b o q hn => ⟨fun _ => (v2 b o q hn).1 (by simp), (v2 b o q hn).2⟩) (fun c hc => hc) (fun c hc => by simp at hc; simp [hc])) T'n T'f v1
    · intro b hb
      simp at hb
      rcases hb with rfl | rfl | rfl | rfl
      · exact nn _ n1
      · exact nn _ n2
      · exact hCn
      · exact T'n
    · intro b hb
      simp at hb
      rcases hb with rfl | rfl | rfl | rfl
      · exact he
      · exact hT
      · exact fC.1
      · exact T'f
  · have fr3 : h3.FunFrames base (envOfC qual scope s.heap.objs.size f cd :: outer) := funFrames_kep I6.stack fun b hb o q => by
      obtain ⟨_, ob', qb', nf'⟩ := I6.stack.mem hb
      have eo : ob' = o := by rw [qb'] at q; exact Option.some.inj q
      rw [eo] at qb' nf'
      obtain ⟨⟨vs0, x1, _⟩, _, oT, ts, x4, x5, _⟩ := x
      refine (k123 b o qb' fun z => ?_).2
      simp at z
      rcases z with rfl | rfl | rfl | rfl
      · rw [x1] at qb'; cases qb'; exact nf' vs0 rfl
      · rw [x4] at qb'; cases qb'; exact nf' ts x5
      · exact hCf hb
      · rw [t1] at qb'; cases qb'
    refine wpAny_bind (exc_noteF (s := { s6 with heap := h3 }) (L := s.heap.objs.size) hfl I6.ok.frames fr3 rfl u1 fun h4 T2 v1 v2 v3 => exc_set (s := { s6 with heap := h4 }) v2 fun h5 w1 w2 => ?_)
    have v1' : h3.get? T2 = none := v1
    have hxs : ∀ b ∈ [e, T, Cc, T'], s.heap.get? b = none := fun b hb => by
      simp at hb
      rcases hb with rfl | rfl | rfl | rfl
      · exact nn _ n1
      · exact nn _ n2
      · exact hCn
      · exact T'n
    have hxh : ∀ b ∈ [e, T, Cc, T'], H6 b = none := fun b hb => by
      simp at hb
      rcases hb with rfl | rfl | rfl | rfl
      · exact he
      · exact hT
      · exact fC.1
      · exact T'f
    have T2n : s.heap.get? T2 = none := by
      cases q : s.heap.get? T2 with
      | none => rfl
      | some o =>
        obtain ⟨o', q2⟩ := I6.base.there T2 o q (fun z => nomatch z)
        obtain ⟨_, sl, q3⟩ := k123 T2 o' q2 fun z => by rw [hxs T2 z] at q; cases q
        rw [v1'] at q3; cases q3
    have T2f : H6 T2 = none := by
      cases q : H6 T2 with
      | none => rfl
      | some o =>
        obtain ⟨o', q2⟩ := obj_ex (I6.hok T2 o q)
        obtain ⟨_, sl, q3⟩ := k123 T2 o' q2 fun z => by rw [hxh T2 z] at q; cases q
        rw [v1'] at q3; cases q3
    refine fly2 (s2 := s6) I6 (nn e n1) he hE' [e, T, Cc, T', T2] ?_ ?_ ((k123.trans (zs := [e, T, Cc, T', T2]) v3 (fun c hc => by simp at hc; rcases hc with rfl | rfl | rfl | rfl <;> simp) (fun c hc => by simp at hc; rcases hc with rfl | rfl <;> simp)).trans (ys := [T2]) (fun b o q hn => ⟨fun _ => (w2 b o q hn).1 (by simp), (w2 b o q hn).2⟩) (fun c hc => hc) (fun c hc => by simp at hc; simp [hc])) T2n T2f w1
    · intro b hb
      by_cases z : b = T2
      · rw [z]; exact T2n
      · exact hxs b (by simp at hb ⊢; rcases hb with rfl | rfl | rfl | rfl | rfl <;> simp_all)
    · intro b hb
      by_cases z : b = T2
      · rw [z]; exact T2f
      · exact hxh b (by simp at hb ⊢; rcases hb with rfl | rfl | rfl | rfl | rfl <;> simp_all)
end
end DL

namespace DL
open PySem PySem.Spec PyProof.Rows L2
section
variable {prog : Program} {w : World} {A : Around} {E : Value → Shared → Prop} {R : Result → Shared → Prop} {s : Shared}
theorem compLoop_goX {elt target iter : Expr} {ifs : List Expr} {scope : Scope} {pos : Pos} {it acc : Value} {env : Env} (I : Nat → Shared → Prop)
    (turn : ∀ n s, I n s → wpAny (model prog w) A (pyNext it) (fun r s₁ => match r with
      | none => R (.ok .next) s₁
      | some v => wpAny (model prog w) A (letOwnedTupleGo target it v) (fun _ s₁' => wpAny (model prog w) A (assign target env v) (fun _ s₂ =>
          wpAny (model prog w) A (forIn ifs true fun c r => if r = true then do let ok ← isTrue c env (eval c env); pure (ForInStep.yield ok) else pure (ForInStep.yield r)) (fun ok s₃ =>
            if ok = true then wpAny (model prog w) A (eval elt env) (fun x s₄ =>
              wpAny (model prog w) A (call (.builtin "list.append") [acc, x]) (fun _ s₅ => ∃ m, m < n ∧ I m s₅) (fun _ _ => False) s₄) (notedBy (model prog w) A env fun e s' => R (.error e) s') s₃
            else ∃ m, m < n ∧ I m s₃) (fun _ _ => False) s₂) (fun _ _ => False) s₁') (fun _ _ => False) s₁) (fun _ _ => False) s)
    (n : Nat) (h : I n s) :
    codeAny (model prog w) A (.compLoop (.ListComp elt [⟨target, iter, ifs, 0⟩] scope pos) 0 it acc env) R s := by
  refine codeAny_loop rfl I (fun n s hI => ?_) n h
  show wpAny _ A ((compTurn (.ListComp elt [⟨target, iter, ifs, 0⟩] scope pos) 0 it acc env).onRaise (fun x => do noteFrame x env; theTreesLotGoes x)) _ _ s
  refine wpAny_noted ?_
  rw [compTurn_list]
  refine wpAny_bind (wpAny_standAt (wpAny_bind (wpAny_mono (turn n s hI) (fun r s₁ h₁ => ?_) fun _ _ h' => h'.elim)))
  cases r with
  | none => exact wpAny_pure h₁
  | some v =>
    refine wpAny_bind (wpAny_mono h₁ (fun _ s₁' h₁' => ?_) fun _ _ h' => h'.elim)
    refine wpAny_bind (wpAny_mono h₁' (fun _ s₂ h₂ => wpAny_bind (wpAny_mono h₂ (fun ok s₃ h₃ => ?_) fun _ _ h' => h'.elim)) fun _ _ h' => h'.elim)
    cases ok with
    | false => exact wpAny_pure ⟨rfl, h₃⟩
    | true =>
      exact wpAny_bind (wpAny_bind (wpAny_mono h₃ (fun x s₄ h₄ => wpAny_bind (wpAny_mono h₄ (fun _ s₅ h₅ => wpAny_pure (wpAny_pure ⟨rfl, h₅⟩)) fun _ _ h' => h'.elim)) fun _ _ h' => h'))
end
theorem Inv.xe {X : Cx} {pins : List (Addr × Obj)} {σ : St} {H : Hp} {s : Shared} (I : Inv X pins σ H s) (xe : Value → Shared → Prop) : Inv { X with xe := xe } pins σ H s := by
  obtain ⟨ok, a, b, c, d, e, f, g, h, i, j⟩ := I
  obtain ⟨o1, o2, o3, o4, o5, o6, o7, o8, o9, o10, o11, o12, o13, o14, o15, o16, o17, o18⟩ := ok
  exact ⟨⟨o1, o2, o3, o4, o5, o6, o7, o8, o9, o10, o11, o12, o13, o14, o15, o16, o17, o18⟩, a, b, c, d, e, f, g, h, i, j⟩
section
variable {X : Cx} {E : Str → Hp → Prop} {pos : Pos} {scope : Scope} {N : List Str} {nt : Nat} {caps : List Nat}
def cpCxE (X : Cx) (scope : Scope) (N : List Str) (s : Shared) (H : Hp) (fp : List Addr) (C : Addr) (pl : List (Addr × Obj)) (xe : Value → Shared → Prop) : Cx := { cpCx X scope N s H fp C pl with xe := xe }
theorem compErr {elt tg iter : Expr} {ifs : List Expr} {fi : DE → R (List D)} {b : D → DE → R DE} {ct : DE → R Bool} {fe : DE → R D} {E1 : Str → Hp → Prop} (S : CpScope X scope N nt caps) (hcalm : X.calm = true) (hF : CFail X E1) (hi : PI X tg iter (tIS X.K E fi))
    (hb1 : ∀ ds d e, b d (cpE nt ds) = .ok e → ∃ ts, e = ts ++ ds.map .val ∧ ts.length = nt)
    (hg : ∀ s H fp C pl, PG (cpCx X scope N s H fp C pl) tg (tG X.K EN b)) (ht : ∀ s H fp C pl, PTs (cpCx X scope N s H fp C pl) ifs (tT X.K EN ct))
    (he : ∀ s H fp C pl xe (E2 : Str → Hp → Prop), Passes (CXF X.prog X.w) (cpCxE X scope N s H fp C pl xe) (EX (xcK X.K) E2) → PE (cpCxE X scope N s H fp C pl xe) elt (tD X.K E2 fe))
    (hs : ∀ x, foldedSetIterable iter X.env x = pure x) {use : Option (Value → Sem Unit)} {Qv : Value → Shared → Prop} {pins : List (Addr × Obj)} {s : Shared} {σ : St} {H : Hp} {env : DE} {os : List Addr} {g : Gh} (I : Inv X pins σ H s) (r : Rel X.K g env σ H os)
    {xs : List D} {ds : List D} {nm : Str} (hxs : fi env = .ok xs) (hds : capt env caps = .ok ds) (hxl : xs.length ≤ sizeLine) (ec : compD (fun d e => (b d e).ne) (fun e => (ct e).ne) fe (cpE nt ds) xs = .err nm) (hE1 : ∀ H', Same g.H₀ H' → E1 nm H') {ps : Pos} :
    wpAny (model X.prog X.w) X.A (comprehension (.ListComp elt [⟨tg, iter, ifs, 0⟩] scope pos) scope X.env ps (newList []) false (eval iter X.env) use) Qv X.xe s := by
  refine wpAny_comprehension_free (use := use) rfl hs (closureFor_eq (S.cells I)) S.kind S.names ?_
  refine thn (hi pins s σ H (fun J H1 => Same H H1 ∧ Yls X.K (g.P os) J H1 xs) I ⟨g, env, os, r, by rw [hxs]; exact fun J H1 s1 yl => ⟨s1, yl⟩⟩) fun v s1 h1 => thn h1 fun itv s2 h2 => ?_
  obtain ⟨it, fp, tn, J, H2, rfl, I2, T, st2, f2, s12, yl⟩ := h2
  have r2 := r.same s12
  obtain ⟨ds', vs, eds, hvl, hdl, hds', hvs⟩ := (show Good (fun _ _ => False) g.H₀ (capt env caps) (fun d => d = ds) by rw [hds]; rfl).capt r2
  subst eds
  refine wpAny_newObj_type (wpAny_newFunctionEnv S.cell (by intro y hy; simp at hy) (fun h₁ hns₁ hsb₁ => ?_) S.kind)
  dsimp only at hns₁ hsb₁ ⊢
  -- the list that grows stands at Dd, the block's names at C
  have hDn : H2 s2.heap.objs.size = none := I2.hok.fresh (Nat.le_refl _)
  have I3 : Inv X pins σ (upd H2 s2.heap.objs.size (.lst [])) { s2 with heap := s2.heap.push { cls := .type "list", dict := none, data := .seq ([] : List Value).toArray } } :=
    I2.laid (t' := s2.toks) (fun b u e => Heap.get?_push_of_some _ e) (Nat.le_refl _) ⟨Nat.zero_le _, [], 0, .nil, Heap.get?_push_size _ rfl⟩
  generalize hs3 : ({ s2 with heap := s2.heap.push { cls := .type "list", dict := none, data := .seq ([] : List Value).toArray } } : Shared) = s3 at I3
  have hh3 : s3.heap = s2.heap.push { cls := .type "list", dict := none, data := .seq ([] : List Value).toArray } := by rw [← hs3]
  rw [← hh3] at hns₁ hsb₁ ⊢
  generalize hDd : s2.heap.objs.size = Dd at *
  have k3 : ∀ b o, s3.heap.get? b = some o → h₁.get? b = some o := fun b o e => hsb₁.extBut b o (Nat.ne_of_lt (Heap.lt_size e)) (Heap.get?_push_of_some _ e)
  have hfpo : ∀ b ∈ fp, ∃ o, s2.heap.get? b = some o := fun b hb => let ⟨o, e, _⟩ := T.obj 0 _ st2 b hb; ⟨o, e⟩
  have hfp3 : ∀ b ∈ fp, ∃ o, s3.heap.get? b = some o := fun b hb => let ⟨o, e⟩ := hfpo b hb; ⟨o, by rw [hh3]; exact Heap.get?_push_of_some _ e⟩
  have hfD : ∀ b ∈ fp, b ≠ Dd := fun b hb => let ⟨o, e⟩ := hfpo b hb; by rw [← hDd]; exact Nat.ne_of_lt (Heap.lt_size e)
  have f3 : ∀ b ∈ fp, FpOk X pins (upd H2 Dd (.lst [])) b := fun b hb => ⟨by rw [upd_ne (hfD b hb)]; exact (f2 b hb).1, (f2 b hb).2⟩
  have sD : Same H2 (upd H2 Dd (.lst [])) := same_new hDn _
  have I4 := S.start (t' := s2.toks + ([] : List (Str × Value)).length) I3 f3 (Nat.le_refl _) hns₁ k3 hfp3 hvl (fun j i v e1 e2 => hvs j i v e1 e2) _ rfl
  generalize hX : cpCx X scope N s3 (upd H2 Dd (.lst [])) fp s3.heap.objs.size (X.pn ++ pins) = X' at I4
  have hg' := hg s3 (upd H2 Dd (.lst [])) fp s3.heap.objs.size (X.pn ++ pins)
  have ht' := ht s3 (upd H2 Dd (.lst [])) fp s3.heap.objs.size (X.pn ++ pins)
  rw [hX] at hg' ht'
  have eK : X'.K = X.K := by rw [← hX]; rfl
  have eP : X'.prog = X.prog := by rw [← hX]; rfl
  have eW : X'.w = X.w := by rw [← hX]; rfl
  have eA : X'.A = X.A := by rw [← hX]; rfl
  have eE : X'.xe = fun _ _ => False := by rw [← hX]; rfl
  have eC : X'.calm = true := by rw [← hX]; exact hcalm
  have eL : X'.env.locals = s3.heap.objs.size := by rw [← hX]; rfl
  have eS : X'.s₀ = s3 := by rw [← hX]; rfl
  have eX : X'.ex = fp := by rw [← hX]; rfl
  have eF : X'.fs = frs X.stack := by rw [← hX]; rfl
  have eN : X'.pn = X.pn ++ pins := by rw [← hX]; rfl
  have eH : X'.H₀ = upd H2 Dd (.lst []) := by rw [← hX]; rfl
  have eV : X'.env = compEnvC scope (clL X.env.cells scope.names []) s3.heap.objs.size X.env := by rw [← hX]; rfl
  -- the iterator's objects through the block
  have fpX : ∀ {Hx : Hp}, (∀ b ∈ fp, Hx b = none) → ∀ b ∈ fp, FpOk X' [] Hx b := fun {Hx} hn b hb => by
    obtain ⟨_, c1, c2, c3, c4, c5⟩ := f3 b hb
    have q := I4.ok.exf b (by rw [eX]; exact hb)
    refine ⟨hn b hb, q.1, I4.ok.exfs b (by rw [eX]; exact hb), .inl (by rw [eX]; exact hb), q.2, fun p hp => ?_⟩
    rw [eN, List.append_nil] at hp
    exact c5 p hp
  let g' : Gh := ⟨g.P os, H2⟩
  have exP : ∀ {Hx : Hp}, Same H2 Hx → Ext (g.P os) (g'.P [Dd]) H2 Hx := fun sx => ⟨fun a o p e => ⟨.inl p, fun z => by
    have z' : a = Dd := by simpa using z
    rw [z', hDn] at e; cases e⟩, fun a o _ e => sx a o e⟩
  have rel0 : Rel X.K g' (cpE nt ds') (List.replicate nt none ++ vs.map some) (upd H2 Dd (.lst [])) [Dd] := by
    refine ⟨by simp [cpE, hvl, hdl], sD, fun i d e => ?_, fun i xs e => (cpE_own e).elim, fun i j xs ys b e => (cpE_own e).elim, fun b hb => ?_, fun i w e => (cpE_raw e).elim, Deep.none fun i w e => cpE_deep e⟩
    · obtain ⟨h1, h2⟩ := cpE_get e
      obtain ⟨v, q1, q2⟩ := hds'.get h2
      refine ⟨v, ?_, Is.ext (exP sD) _ _ q2⟩
      rw [List.getElem?_append_right (by simpa using h1), List.getElem?_map, List.length_replicate, q1] <;> rfl
    · have e : b = Dd := by simpa using hb
      subst e
      exact ⟨hDn, _, upd_same⟩
  -- what an exception of the element does
  have toX : ∀ {xe : Value → Shared → Prop} {pl : List (Addr × Obj)} {pins' : List (Addr × Obj)} {σ' : St} {H1 : Hp} {s1 : Shared}, pl = X.pn ++ pins → Inv (cpCxE X scope N s3 (upd H2 Dd (.lst [])) fp s3.heap.objs.size pl xe) pins' σ' H1 s1 → Inv X pins σ H1 s1 ∧ (∃ m, s1.heap.Ns s3.heap.objs.size m) ∧ FpOk X pins H1 s3.heap.objs.size := fun {xe pl pins' σ' H1 s1} hpl J => by
    obtain ⟨m6, hn6, _⟩ := J.loc
    have un6 : Un (frs X.stack) fp (upd H2 Dd (.lst [])) H1 s3.heap s1.heap := J.base
    have os6 : s1.os = s3.os := J.os
    have I6 : Inv X pins σ H1 s1 := I3.call' (s' := s1) os6 un6 J.hok J.bare fun b hb => by
      obtain ⟨_, c1, c2, c3, c4, c5⟩ := f3 b hb
      exact ⟨c3, c1, c4, c5⟩
    exact ⟨I6, ⟨m6, hn6⟩, J.free, (I3.fpOk (Nat.le_refl _) (I3.hok.fresh (Nat.le_refl _))).2⟩
  have pass : Passes (CXF X.prog X.w) (cpCxE X scope N s3 (upd H2 Dd (.lst [])) fp s3.heap.objs.size (X.pn ++ pins) (notedBy (model X.prog X.w) X.A (compEnvC scope (clL X.env.cells scope.names []) s3.heap.objs.size X.env) fun x s' => compPost (model X.prog X.w) X.A X.xe use Qv (.ref Dd) s3.heap.objs.size (.error x) s')) (EX (xcK X.K) fun n' H' => n' = nm ∧ Same g.H₀ H') := by
    intro pins' σ' H1 s1 ev s2' J h
    obtain ⟨e, Te, C, H6, rfl, x, n1, n2, n3, n4, os', bare, un, hok, n, hc, rfl, hsm⟩ := h
    have J6 := J.call' os' un hok bare (fun b z => nomatch z)
    obtain ⟨I1, ⟨m1, ob1, _, _, ho1, _⟩, _⟩ := toX rfl J
    obtain ⟨I6, ⟨m6, hn6⟩, fC⟩ := toX rfl J6
    exact hF n pins σ H1 H6 s1 s2' e Te C s3.heap.objs.size m6 use Qv (.ref Dd) _ I1 I6 n1 n2 x n3 n4 hc (hE1 H6 hsm) ⟨ob1, ho1⟩ fC hn6
  have heX := he s3 (upd H2 Dd (.lst [])) fp s3.heap.objs.size (X.pn ++ pins) _ _ pass
  have nD : ∀ {α : Type} {r : R α} {k : α → R (List D)} {c : Str}, r.ne.bind k = .err c → ∃ a, r = .ok a ∧ k a = .err c := fun {α r k c} h => by
    cases r with
    | ok a => exact ⟨a, rfl, h⟩
    | err _ => cases h
    | bad => cases h
  have loop : ∀ s4 : Shared, Inv X' [] (List.replicate nt none ++ vs.map some) (upd H2 Dd (.lst [])) s4 → tn 0 s4.heap →
      codeAny (model X.prog X.w) X.A (.compLoop (.ListComp elt [⟨tg, iter, ifs, 0⟩] scope pos) 0 (.ref it) (.ref Dd) (compEnvC scope (clL X.env.cells scope.names []) s3.heap.objs.size X.env))
        (compPost (model X.prog X.w) X.A X.xe use Qv (.ref Dd) s3.heap.objs.size) s4 := by
    intro s4 J4 st4
    refine compLoop_goX (fun n s' => ∃ i acc Hx σ', n = xs.length - i ∧ i ≤ xs.length ∧ Inv X' [] σ' Hx s' ∧ tn i s'.heap ∧ (∀ b ∈ fp, Hx b = none) ∧ Hx Dd = some (.lst acc) ∧ acc.length ≤ i ∧
      compD (fun d e => (b d e).ne) (fun e => (ct e).ne) fe (cpE nt ds') (xs.drop i) = .err nm ∧ Rel X.K g' (cpE nt ds') σ' Hx [Dd]) ?_ xs.length
      ⟨0, [], _, _, by simp, Nat.zero_le _, J4, st4, fun b hb => (f3 b hb).1, upd_same, Nat.le_refl _, by rw [List.drop_zero]; exact ec, rel0⟩
    rintro n s5 ⟨i, acc, Hx, σ5, rfl, hi5, J5, st5, fr5, hD5, la5, c5, r5⟩
    obtain ⟨y1, y2⟩ := yl i Hx (g'.P [Dd]) r5.ext (exP r5.ext)
    by_cases hlt : i < xs.length
    · have hx : xs[i]? = some xs[i] := List.getElem?_eq_getElem hlt
      obtain ⟨go, y3⟩ := y1 _ hx
      rw [List.drop_eq_getElem_cons hlt] at c5
      obtain ⟨e1, hb5, c6⟩ := nD (show (b xs[i] (cpE nt ds')).ne.bind _ = .err nm from c5)
      obtain ⟨t, ht5, c7⟩ := nD c6
      have TI := T.item X' eP eW eK eC i [] s5 σ5 Hx (fun _ _ => False) J5 (fpX fr5) st5 go
      rw [eA] at TI
      refine thn TI fun r s6 h6 => ?_
      obtain ⟨u, rfl, h6⟩ := h6
      refine thn h6 fun _ s7 h7 => ?_
      obtain ⟨x, H7, J7, rx, hy, st7, fr7⟩ := h7
      obtain ⟨s57, hix⟩ := y3 x H7 hy
      have ix : Is X.K (g'.P [Dd]) H7 xs[i] x := Is.ext ⟨fun a o p _ => p.elim (fun z => z) fun z => r5.fresh z, fun _ _ _ z => z⟩ _ _ hix
      have J7' := J7.pinned (fpX fr7) (T.obj _ _ st7)
      have TG := hg' _ s7 σ5 H7 x u (fun σ8 H8 => ∃ e8, b xs[i] (cpE nt ds') = .ok e8 ∧ Rel X.K g' e8 σ8 H8 [Dd] ∧ H8 = H7) J7' rx ⟨g', cpE nt ds', [Dd], xs[i], r5.same s57, ix, good_ok hb5 fun σ8 r8 => ⟨e1, hb5, r8, rfl⟩⟩
      rw [eP, eW, eA, eE, eV] at TG
      refine thn TG fun _ s8 h8 => ?_
      obtain ⟨σ8, H8, J8, e8, hb8, r8, hH8⟩ := h8
      rw [hH8] at J8 r8
      rw [hb5] at hb8
      cases hb8
      have TT := ht' _ s8 σ8 H7 (fun t' H9 => t' = t ∧ Same H7 H9) J8 ⟨g', e1, [Dd], r8, good_ok ht5 fun H9 s9 => ⟨rfl, s9⟩⟩
      rw [eP, eW, eA, eE, eV] at TT
      refine thn TT fun ok s9 h9 => ?_
      obtain ⟨H9, J9, rfl, s79⟩ := h9
      obtain ⟨ts, hts, htl⟩ := hb1 ds' _ _ hb5
      have keepT : ∀ {σx : St} {Hy : Hp} {sx : Shared}, Inv X' ([] ++ pinsAt fp s7.heap) σx Hy sx → tn (i + 1) sx.heap ∧ ∀ b ∈ fp, Hy b = none := fun {σx Hy sx} Jx =>
        ⟨T.keep _ _ _ st7 fun b hb o e => (Jx.pin (b, o) (List.mem_append_right _ (List.mem_append_right _ (mem_pinsAt hb e)))).1, fun b hb => by
          obtain ⟨o, e, d⟩ := T.obj _ _ st7 b hb
          exact (Jx.pin (b, o) (List.mem_append_right _ (List.mem_append_right _ (mem_pinsAt hb e)))).2.1⟩
      cases ok with
      | false =>
        rw [if_neg Bool.false_ne_true]
        have c8 : compD (fun d e => (b d e).ne) (fun e => (ct e).ne) fe (cpE nt ds') (xs.drop (i + 1)) = .err nm := c7
        obtain ⟨k1, k2⟩ := keepT J9
        exact ⟨xs.length - (i + 1), by omega, i + 1, acc, H9, σ8, rfl, hlt, J9.unpinned, k1, k2, s79 _ _ (s57 _ _ hD5), by omega, c8,
          rel_cpE r8 hts htl (.same s79) (r8.ext.trans s79) ⟨_, s79 _ _ (s57 _ _ hD5)⟩⟩
      | true =>
        rw [if_pos rfl]
        have c8 : (fe e1).bind (fun d => (compD (fun d e => (b d e).ne) (fun e => (ct e).ne) fe (cpE nt ds') (xs.drop (i + 1))).bind fun r => .ok (d :: r)) = .err nm := c7
        have J9x : Inv (cpCxE X scope N s3 (upd H2 Dd (.lst [])) fp s3.heap.objs.size (X.pn ++ pins) (notedBy (model X.prog X.w) X.A (compEnvC scope (clL X.env.cells scope.names []) s3.heap.objs.size X.env) fun x s' => compPost (model X.prog X.w) X.A X.xe use Qv (.ref Dd) s3.heap.objs.size (.error x) s')) ([] ++ pinsAt fp s7.heap) σ8 H9 s9 := by
          have z := J9
          rw [← hX] at z
          exact Inv.xe z _
        have TE := heX _ s9 σ8 H9 (fun v H10 => ∃ d, fe e1 = .ok d ∧ Same H9 H10 ∧ Is X.K (g'.P [Dd]) H10 d v) J9x ⟨g', e1, [Dd], r8.same s79, by
          cases hfe : fe e1 with
          | ok d => exact fun v H10 s10 i10 => ⟨d, rfl, s10, i10⟩
          | bad => rw [hfe] at c8; cases c8
          | err c =>
            rw [hfe] at c8
            cases c8
            exact fun H' sm => ⟨rfl, (r2.ext.trans sm)⟩⟩
        refine thn TE fun y s10 h10 => ?_
        obtain ⟨v, H10, J10x, rv, d, hfe, s910, iv⟩ := h10
        rw [hfe] at c8
        have c9 : compD (fun d e => (b d e).ne) (fun e => (ct e).ne) fe (cpE nt ds') (xs.drop (i + 1)) = .err nm := by
          cases q9 : compD (fun d e => (b d e).ne) (fun e => (ct e).ne) fe (cpE nt ds') (xs.drop (i + 1)) with
          | ok r9 => rw [q9] at c8; cases c8
          | bad => rw [q9] at c8; cases c8
          | err c => rw [q9] at c8; exact c8
        have J10 : Inv X' ([] ++ pinsAt fp s7.heap) σ8 H10 s10 := by
          rw [← hX]
          exact Inv.xe J10x _
        have hD10 : H10 Dd = some (.lst acc) := s910 _ _ (s79 _ _ (s57 _ _ hD5))
        have TM := mt_append (X := X') _ s10 σ8 H10 (.ref Dd) [v] (.ref Dd) [y] (fun _ H11 => H11 = upd H10 Dd (.lst (acc ++ [v]))) J10 rfl (.cons rv .nil) ⟨Dd, acc, v, rfl, rfl, hD10, by omega, rfl⟩
        rw [eP, eW, eA, eE] at TM
        refine thn TM fun _ s11 h11 => ?_
        obtain ⟨v', H11, J11, _, rfl⟩ := h11
        obtain ⟨k1, k2⟩ := keepT J11
        have exD : Ext (g'.P [Dd]) (g'.P [Dd]) H10 (upd H10 Dd (.lst (acc ++ [v]))) := ⟨fun _ _ p _ => p, fun a o p e => by rw [upd_ne (fun z => p.2 (by simp [z]))]; exact e⟩
        have s10' : Same H2 H10 := (r8.ext.trans s79).trans s910
        refine ⟨xs.length - (i + 1), by omega, i + 1, acc ++ [v], _, σ8, rfl, hlt, J11.unpinned, k1, k2, upd_same, by rw [List.length_append, List.length_singleton]; omega, c9, ?_⟩
        exact rel_cpE (r8.same (s79.trans s910)) hts htl exD (fun a o e => by rw [upd_ne (ne_of_none (show H2 a = some o from e) hDn)]; exact s10' a o e) ⟨_, upd_same⟩
    · have e : i = xs.length := by omega
      subst e
      rw [List.drop_length] at c5
      cases c5
  have st4 : tn 0 h₁ := T.keep _ _ _ st2 fun b hb o e => k3 b o (by rw [hh3]; exact Heap.get?_push_of_some _ e)
  have eG : ({ heap := h₁, gens := s3.gens, drawn := s3.drawn, toks := s2.toks + ([] : List (Str × Value)).length, os := s3.os } : Shared) = { heap := h₁, gens := s2.gens, drawn := s2.drawn, toks := s2.toks + ([] : List (Str × Value)).length, os := s2.os } := by rw [← hs3]
  rw [eG] at I4
  exact codeAny_compStart_list (loop _ I4 st4) (T.self _ 0 _ _ _ st4 (loop _ I4 st4))
theorem compD_calm {b : D → DE → R DE} {ct : DE → R Bool} {fe fe0 : DE → R D} {e₀ : DE} (hfe : ∀ e d, fe e = .ok d → fe0 e = .ok d) : ∀ {xs ys : List D}, compD (fun d e => (b d e).ne) (fun e => (ct e).ne) fe e₀ xs = .ok ys → compD b ct fe0 e₀ xs = .ok ys
  | [], ys, h => h
  | x :: xs, ys, h => by
    obtain ⟨e, h1, h2⟩ := R.bind_ok (show ((b x e₀).ne).bind _ = .ok ys from h)
    obtain ⟨t, h3, h4⟩ := R.bind_ok (show ((ct e).ne).bind _ = .ok ys from h2)
    have g1 : b x e₀ = .ok e := by
      cases q : b x e₀ with
      | ok a => rw [q] at h1; exact h1
      | err c => rw [q] at h1; cases h1
      | bad => rw [q] at h1; cases h1
    have g2 : ct e = .ok t := by
      cases q : ct e with
      | ok a => rw [q] at h3; exact h3
      | err c => rw [q] at h3; cases h3
      | bad => rw [q] at h3; cases h3
    show (b x e₀).bind _ = _
    rw [g1, R.ok_bind, g2, R.ok_bind]
    cases t with
    | false =>
      rw [if_neg (by decide)] at h4 ⊢
      exact compD_calm hfe h4
    | true =>
      rw [if_pos rfl] at h4 ⊢
      obtain ⟨d, h5, h6⟩ := R.bind_ok h4
      obtain ⟨r, h7, h8⟩ := R.bind_ok h6
      rw [hfe e d h5, R.ok_bind, compD_calm hfe h7]
      exact h8
theorem lCompX {elt tg iter : Expr} {ifs : List Expr} {fi : DE → R (List D)} {b : D → DE → R DE} {ct : DE → R Bool} {fe fe0 : DE → R D} (S : CpScope X scope N nt caps) (hcalm : X.calm = true) (hF : CFail X E) (hi : PI X tg iter (tIS X.K E fi))
    (hb1 : ∀ ds d e, b d (cpE nt ds) = .ok e → ∃ ts, e = ts ++ ds.map .val ∧ ts.length = nt)
    (hg : ∀ s H fp C pl, PG (cpCx X scope N s H fp C pl) tg (tG X.K EN b)) (ht : ∀ s H fp C pl, PTs (cpCx X scope N s H fp C pl) ifs (tT X.K EN ct)) (he0 : ∀ s H fp C pl, PE (cpCx X scope N s H fp C pl) elt (tD X.K EN fe0))
    (he : ∀ s H fp C pl xe (E2 : Str → Hp → Prop), Passes (CXF X.prog X.w) (cpCxE X scope N s H fp C pl xe) (EX (xcK X.K) E2) → PE (cpCxE X scope N s H fp C pl xe) elt (tD X.K E2 fe)) (hfe : ∀ e d, fe e = .ok d → fe0 e = .ok d)
    (hs : ∀ x, foldedSetIterable iter X.env x = pure x := by intro _; rfl) :
    PE X (.ListComp elt [⟨tg, iter, ifs, 0⟩] scope pos) (tF X.K E fun env => (fi env).bind fun xs => (capt env caps).bind fun ds => (fit xs).bind fun xs => (compD (fun d e => (b d e).ne) (fun e => (ct e).ne) fe (cpE nt ds) xs).bind fit) := by
  intro pins s σ H Q I h
  obtain ⟨g, env, os, r, m⟩ := h
  dsimp only at m
  cases hxs : fi env with
  | bad => exact lComp S hcalm hi hb1 hg ht he0 hs pins s σ H Q I ⟨g, env, os, r, by dsimp only; rw [hxs] at m ⊢; exact m⟩
  | err c => exact lComp S hcalm hi hb1 hg ht he0 hs pins s σ H Q I ⟨g, env, os, r, by dsimp only; rw [hxs] at m ⊢; exact m⟩
  | ok xs =>
    cases hds : capt env caps with
    | bad => exact lComp S hcalm hi hb1 hg ht he0 hs pins s σ H Q I ⟨g, env, os, r, by dsimp only; rw [hxs, R.ok_bind, hds] at m ⊢; exact m⟩
    | err c => exact lComp S hcalm hi hb1 hg ht he0 hs pins s σ H Q I ⟨g, env, os, r, by dsimp only; rw [hxs, R.ok_bind, hds] at m ⊢; exact m⟩
    | ok ds =>
      rw [hxs, R.ok_bind, hds, R.ok_bind] at m
      obtain ⟨hxl, m2⟩ := m.bind.fit
      cases ec : compD (fun d e => (b d e).ne) (fun e => (ct e).ne) fe (cpE nt ds) xs with
      | bad => rw [ec] at m2; exact m2.elim
      | ok ys =>
        rw [ec, R.ok_bind] at m2
        exact lComp S hcalm hi hb1 hg ht he0 hs pins s σ H Q I ⟨g, env, os, r, by dsimp only; rw [hxs, R.ok_bind, hds, R.ok_bind, compD_calm hfe ec]; exact m2⟩
      | err nm =>
        rw [ec] at m2
        rw [eval_ListComp]
        exact compErr S hcalm hF hi hb1 hg ht he hs I r hxs hds hxl ec m2
theorem bind_ne {a : R (List D)} {mX : List D → R D} {d : D} (h : a.bind mX = .ok d) : (a.bind fun ds => (mX ds).ne) = .ok d := by
  cases a with
  | ok ds =>
    have h' : mX ds = .ok d := h
    show (mX ds).ne = _
    rw [h']
    rfl
  | err c => cases h
  | bad => cases h
end
end DL

namespace DL
open PySem PySem.Spec PyProof.Rows L2
/-! ### a display of constant texts -/
def isCS : Expr → Bool
  | .Constant (.str _) _ _ => true
  | .Constant (.int _) _ _ => true
  | _ => false
def cSD : Expr → D
  | .Constant (.str i) _ _ => .str i
  | .Constant (.int i) _ _ => .int i
  | _ => .non
section
variable {X : Cx} {E : Str → Hp → Prop} {pos : Pos}
theorem paC : ∀ (es : List Expr), es.all isCS = true → PA X es (tAr X.K E fun _ => .ok (es.map cSD))
  | [], _ => aNil
  | e :: es, h => by
    rw [List.all_cons, Bool.and_eq_true] at h
    have ih := paC es h.2
    cases e with
    | Constant c j p =>
      cases c with
      | str i => exact aCons (f := fun _ => .ok (.str i)) cS ih rfl
      | int i => exact aCons (f := fun _ => .ok (.int i)) cI ih rfl
      | _ => exact (Bool.false_ne_true h.1).elim
    | _ => exact (Bool.false_ne_true h.1).elim
end
end DL

namespace DL
open PySem PySem.Spec PyProof.Rows L2
noncomputable def b__law_mix (env : DE) : R Out :=
  (R.bind (R.bind (R.bind (R.bind (R.bind (R.bind (R.bind (R.bind (slB 0 env) fun v14 => R.bind (R.ok (D.int 1000003)) fun v15 => R.of (kMod v14 v15)) fun v12 => R.bind (R.ok (D.int 7)) fun v13 => R.of (kMul v12 v13)) fun v10 => R.bind (R.bind (slB 1 env) fun v16 => R.bind (slB 1 env) fun v17 => R.of (kMul v16 v17)) fun v11 => R.of (kAddI v10 v11)) fun v8 => R.bind (R.ok (D.int 1)) fun v9 => R.of (kAddI v8 v9)) fun v6 => R.bind (slB 2 env) fun v7 => R.of (kMul v6 v7)) fun v4 => R.bind (R.ok (D.int 2147483647)) fun v5 => R.of (kMod v4 v5)) fun v2 => R.bind (R.ok (D.int 16)) fun v3 => R.of (kDiv v2 v3)) fun v1 => R.ok (Out.rt v1))
noncomputable def m__law_mix := mS 3 3 b__law_mix
noncomputable def b__law_strings (env : DE) : R Out :=
  (seqO (R.bind (R.bind (R.bind (slB 1 env) fun v4 => R.bind (R.ok (D.int 1)) fun v5 => R.bind (R.of (kEq v4 v5)) asB) fun v3 => if v3 = true then (R.bind (R.bind (slB 0 env) fun v8 => R.bind (R.ok (D.int 13)) fun v9 => R.of (kMod v8 v9)) fun v6 => R.bind (R.ok (D.int 5)) fun v7 => R.bind (R.of (kEq v6 v7)) asB) else R.ok false) fun v2 => if v2 = true then (R.bind (R.ok (D.int 1)) fun v10 => R.ok (Out.rt v10)) else (R.ok (Out.nx env))) fun v1 =>
  (seqO (R.bind (R.bind (R.bind (R.ok (D.int 2)) fun v14 => R.bind (R.bind (slB 1 v1) fun v16 => R.bind (R.ok []) fun v17 => R.ok (v16 :: v17)) fun v15 => R.ok (v14 :: v15)) fun v13 => R.of (kMax2 v13)) fun v12 => R.ok (Out.nx (List.set v1 1 (Sl.val v12)))) fun v11 =>
  (R.bind (R.bind (slB 1 v11) fun v19 => R.bind (R.bind (R.bind (slB 0 v11) fun v23 => R.bind (R.ok (D.int 13)) fun v24 => R.of (kDiv v23 v24)) fun v21 => R.bind (R.bind (R.bind (slB 2 v11) fun v27 => R.bind (slB 1 v11) fun v28 => R.of (kSub v27 v28)) fun v25 => R.bind (R.ok (D.int 1)) fun v26 => R.of (kAddI v25 v26)) fun v22 => R.of (kMod v21 v22)) fun v20 => R.of (kAddI v19 v20)) fun v18 => R.ok (Out.rt v18))))
noncomputable def m__law_strings := mS 3 3 b__law_strings
noncomputable def b__law_crossing (env : DE) : R Out :=
  (seqO (R.bind (R.bind (R.ok (D.int 1)) fun v3 => R.bind (R.bind (slB 0 env) fun v5 => R.bind (R.bind (slB 1 env) fun v7 => R.bind (R.ok (D.int 1)) fun v8 => R.of (kSub v7 v8)) fun v6 => R.of (kMod v5 v6)) fun v4 => R.of (kAddI v3 v4)) fun v2 => R.ok (Out.nx (List.set env 2 (Sl.val v2)))) fun v1 =>
  (seqO (R.bind (R.bind (R.bind (R.bind (slB 0 v1) fun v15 => R.bind (R.ok (D.int 8)) fun v16 => R.of (kDiv v15 v16)) fun v13 => R.bind (R.ok (D.int 2)) fun v14 => R.of (kMod v13 v14)) fun v11 => R.bind (R.ok (D.int 1)) fun v12 => R.bind (R.of (kEq v11 v12)) asB) fun v10 => if v10 = true then (R.bind (R.bind (slB 2 v1) fun v18 => R.of (kNeg v18)) fun v17 => R.ok (Out.rt v17)) else (R.ok (Out.nx v1))) fun v9 =>
  (R.bind (slV 2 v9) fun v19 => R.ok (Out.rt v19))))
noncomputable def m__law_crossing := mS 2 3 b__law_crossing
noncomputable def b__law_piece (env : DE) : R Out :=
  (seqO (R.bind (R.bind (R.bind (slB 0 env) fun v3 => R.bind (R.bind (slB 1 env) fun v5 => R.bind (R.ok []) fun v6 => R.ok (v5 :: v6)) fun v4 => R.ok (v3 :: v4)) m__law_crossing) fun v2 => R.ok (Out.nx (List.set env 2 (Sl.val v2)))) fun v1 =>
  (seqO (R.bind (R.bind (R.bind (R.bind (R.bind (slB 0 v1) fun v14 => R.bind (R.ok (D.int 16)) fun v15 => R.of (kDiv v14 v15)) fun v12 => R.bind (R.ok (D.int 4)) fun v13 => R.of (kMod v12 v13)) fun v10 => R.bind (R.ok (D.int 0)) fun v11 => R.bind (R.of (kGt v10 v11)) asB) fun v9 => if v9 = true then R.ok true else (R.bind (slB 1 v1) fun v16 => R.bind (R.ok (D.int 3)) fun v17 => R.bind (R.of (kLt v16 v17)) asB)) fun v8 => if v8 = true then (R.bind (R.bind (R.bind (R.bind (slV 2 v1) fun v20 => R.bind (R.ok []) fun v21 => R.ok (v20 :: v21)) fit) fun v19 => R.ok (D.lst v19)) fun v18 => R.ok (Out.rt v18)) else (R.ok (Out.nx v1))) fun v7 =>
  (seqO (R.bind (R.bind (R.bind (R.bind (R.bind (R.bind (R.bind (slB 2 v7) fun v31 => R.bind (R.ok (D.int 1)) fun v32 => R.of (kAddI v31 v32)) fun v29 => R.bind (R.ok []) fun v30 => R.ok (v29 :: v30)) fun v28 => R.of (kAbs v28)) fun v26 => R.bind (slB 1 v7) fun v27 => R.bind (R.of (kLt v26 v27)) asB) fun v25 => if v25 = true then (R.bind (R.bind (slB 2 v7) fun v35 => R.bind (R.ok (D.int 1)) fun v36 => R.of (kAddI v35 v36)) fun v33 => R.bind (R.ok (D.int 0)) fun v34 => R.bind (R.of (kNe v33 v34)) asB) else R.ok false) fun v24 => if v24 = true then (R.bind (slB 2 v7) fun v37 => R.bind (R.ok (D.int 1)) fun v38 => R.of (kAddI v37 v38)) else (R.bind (slB 2 v7) fun v39 => R.bind (R.ok (D.int 1)) fun v40 => R.of (kSub v39 v40))) fun v23 => R.ok (Out.nx (List.set v7 3 (Sl.val v23)))) fun v22 =>
  (R.bind (R.bind (R.bind (R.bind (R.bind (R.bind (R.bind (slV 2 v22) fun v47 => R.bind (R.bind (slV 3 v22) fun v49 => R.bind (R.bind (slV 2 v22) fun v51 => R.bind (R.ok []) fun v52 => R.ok (v51 :: v52)) fun v50 => R.ok (v49 :: v50)) fun v48 => R.ok (v47 :: v48)) fit) fun v46 => R.ok (D.lst v46)) fun v44 => R.bind (R.bind (R.bind (R.bind (R.bind (slV 2 v22) fun v56 => R.bind (R.bind (slV 3 v22) fun v58 => R.bind (R.ok []) fun v59 => R.ok (v58 :: v59)) fun v57 => R.ok (v56 :: v57)) fit) fun v55 => R.ok (D.lst v55)) fun v53 => R.bind (R.bind (R.bind (R.bind (R.bind (slV 2 v22) fun v63 => R.bind (R.bind (slV 2 v22) fun v65 => R.bind (R.ok []) fun v66 => R.ok (v65 :: v66)) fun v64 => R.ok (v63 :: v64)) fit) fun v62 => R.ok (D.lst v62)) fun v60 => R.bind (R.bind (R.bind (R.bind (R.bind (slV 2 v22) fun v70 => R.bind (R.bind (R.bind (slB 3 v22) fun v74 => R.of (kNeg v74)) fun v72 => R.bind (R.bind (slV 2 v22) fun v75 => R.bind (R.ok []) fun v76 => R.ok (v75 :: v76)) fun v73 => R.ok (v72 :: v73)) fun v71 => R.ok (v70 :: v71)) fit) fun v69 => R.ok (D.lst v69)) fun v67 => R.bind (R.ok []) fun v68 => R.ok (v67 :: v68)) fun v61 => R.ok (v60 :: v61)) fun v54 => R.ok (v53 :: v54)) fun v45 => R.ok (v44 :: v45)) fit) fun v42 => R.bind (R.bind (R.bind (slB 0 v22) fun v79 => R.bind (R.ok (D.int 64)) fun v80 => R.of (kDiv v79 v80)) fun v77 => R.bind (R.ok (D.int 4)) fun v78 => R.of (kMod v77 v78)) fun v43 => ixL v42 v43) fun v41 => R.ok (Out.rt v41)))))
noncomputable def m__law_piece := mD 2 4 b__law_piece
noncomputable def b__law_drawn_l1 (d : D) (env : DE) : R Out :=
  R.bind ((bT 2 (bCons (bN 4) (bCons (bN 5) bNil))) d env) fun v8 =>
    (R.bind (R.bind (slB 1 v8) fun v10 => R.bind (R.ok (D.int 1)) fun v11 => R.bind (R.of (kGt v10 v11)) asB) fun v9 => if v9 = true then (R.bind (R.bind (R.bind (slL 3 v8) fun v14 => R.bind (R.bind (R.bind (R.bind (R.bind (R.bind (slB 5 v8) fun v18 => R.bind (R.bind (slB 4 v8) fun v20 => R.bind (R.bind (R.ok (D.int 48271)) fun v22 => R.bind (R.ok []) fun v23 => R.ok (v22 :: v23)) fun v21 => R.ok (v20 :: v21)) fun v19 => R.ok (v18 :: v19)) m__law_mix) fun v16 => R.bind (R.bind (slV 1 v8) fun v24 => R.bind (R.ok []) fun v25 => R.ok (v24 :: v25)) fun v17 => R.ok (v16 :: v17)) m__law_piece) asL) fun v15 => fit (v14 ++ v15)) fun v13 => R.ok (D.lst v13)) fun v12 => R.ok (Out.nx (List.set v8 3 (Sl.val v12)))) else (R.ok (Out.nx v8)))
noncomputable def b__law_drawn (env : DE) : R Out :=
  (seqO (R.bind (R.bind (R.bind (R.ok []) fit) fun v3 => R.ok (D.lst v3)) fun v2 => R.ok (Out.nx (List.set env 3 (Sl.val v2)))) fun v1 =>
  (seqO (R.bind (R.bind (slV 0 v1) fun v26 => R.bind (asL v26) fun xs => R.ok (enumL xs)) fun v5 => forD b__law_drawn_l1 v5 v1) fun v4 =>
  (R.bind (R.bind (slL 3 v4) fun v28 => R.bind (R.ok none) fun v29 => R.bind (R.bind (slB 2 v4) asI) fun v30 => R.ok (cut v28 v29 v30)) fun v27 => R.ok (Out.rtF v27))))
noncomputable def m__law_drawn := mFS 3 6 b__law_drawn
end DL

namespace DL
open PySem PySem.Spec PyProof.Rows L2
/-! ### the law's own draws -/
def mixF (c k f : Int) : Int := (c % 1000003 * 7 + k * k + 1) * f % 2147483647 / 16
theorem mix_ok (c k f : Int) (hk : 0 ≤ k ∧ k < 1000000) (hf : 0 ≤ f ∧ f < 2147483647) : m__law_mix [.int c, .int k, .int f] = .ok (.int (mixF c k f)) := by
  have h1 := Int.emod_nonneg c (show (1000003 : Int) ≠ 0 by decide)
  have h2 := Int.emod_lt_of_pos c (show (0 : Int) < 1000003 by decide)
  unfold m__law_mix b__law_mix
  simp -implicitDefEqProofs only [mS, mD, mF, mFS, initE, q1, q2, q3, q4, q5, q6, Nat.reduceAdd, Nat.reduceSub, Nat.reduceEqDiff, q7, q8, q9, q10, reduceIte, q11, q12, q13, q14, q15, q16, q17, q18, q19, q20, q21, q22, q23, q24, q25, q26, q27, q28, q29, q30, q31, q32, q33, q34, q35, q36, q37, q38, q39, q40, q41, q42, q43, q44, q45, q46, q47, q48, q49, q50, q51, q52, q53, q54, q55, q56, q57, q58, valO, lstO, q59, q60, q61, q62, q63, q64, q65, q66, q67, q68, q69]
  rw [kMod_i c 1000003 (by decide)]
  simp -implicitDefEqProofs only [R.of_some, R.ok_bind]
  rw [kMul_i _ 7 (.inr (by decide))]
  simp -implicitDefEqProofs only [R.of_some, R.ok_bind]
  rw [kMul_i k k (.inl (by omega))]
  simp -implicitDefEqProofs only [R.of_some, R.ok_bind, kAddI_i]
  rw [kMul_i _ f (.inr (by omega))]
  simp -implicitDefEqProofs only [R.of_some, R.ok_bind]
  rw [kMod_i _ 2147483647 (by decide)]
  simp -implicitDefEqProofs only [R.of_some, R.ok_bind]
  rw [kDiv_i _ 16 (by decide)]
  rfl
def stringsF (s : Int) : Int := if s % 13 = 5 then 1 else 2 + s / 13 % 6
theorem strings_ok (s : Int) : m__law_strings [.int s, .int 1, .int 7] = .ok (.int (stringsF s)) := by
  unfold m__law_strings b__law_strings stringsF
  simp -implicitDefEqProofs only [mS, mD, mF, mFS, initE, q1, q2, q3, q4, q5, q6, Nat.reduceAdd, Nat.reduceSub, Nat.reduceEqDiff, q7, q8, q9, q10, reduceIte, q11, q12, q13, q14, q15, q16, q17, q18, q19, q20, q21, q22, q23, q24, q25, q26, q27, q28, q29, q30, q31, q32, q33, q34, q35, q36, q37, q38, q39, q40, q41, q42, q43, q44, q45, q46, q47, q48, q49, q50, q51, q52, q53, q54, q55, q56, q57, q58, valO, lstO, q59, q60, q61, q62, q63, q64, q65, q66, q67, q68, q69]
  rw [kMod_i s 13 (by decide)]
  simp -implicitDefEqProofs only [mS, mD, mF, mFS, initE, q1, q2, q3, q4, q5, q6, Nat.reduceAdd, Nat.reduceSub, Nat.reduceEqDiff, q7, q8, q9, q10, reduceIte, q11, q12, q13, q14, q15, q16, q17, q18, q19, q20, q21, q22, q23, q24, q25, q26, q27, q28, q29, q30, q31, q32, q33, q34, q35, q36, q37, q38, q39, q40, q41, q42, q43, q44, q45, q46, q47, q48, q49, q50, q51, q52, q53, q54, q55, q56, q57, q58, valO, lstO, q59, q60, q61, q62, q63, q64, q65, q66, q67, q68, q69, beq_self_eq_true]
  by_cases h : s % 13 = 5
  · simp -implicitDefEqProofs only [h, beq_self_eq_true, mS, mD, mF, mFS, initE, q1, q2, q3, q4, q5, q6, Nat.reduceAdd, Nat.reduceSub, Nat.reduceEqDiff, q7, q8, q9, q10, reduceIte, q11, q12, q13, q14, q15, q16, q17, q18, q19, q20, q21, q22, q23, q24, q25, q26, q27, q28, q29, q30, q31, q32, q33, q34, q35, q36, q37, q38, q39, q40, q41, q42, q43, q44, q45, q46, q47, q48, q49, q50, q51, q52, q53, q54, q55, q56, q57, q58, valO, lstO, q59, q60, q61, q62, q63, q64, q65, q66, q67, q68, q69]
  · have h' : (s % 13 == 5) = false := beq_false_of_ne h
    simp -implicitDefEqProofs only [h', h, mS, mD, mF, mFS, initE, q1, q2, q3, q4, q5, q6, Nat.reduceAdd, Nat.reduceSub, Nat.reduceEqDiff, q7, q8, q9, q10, reduceIte, q11, q12, q13, q14, q15, q16, q17, q18, q19, q20, q21, q22, q23, q24, q25, q26, q27, q28, q29, q30, q31, q32, q33, q34, q35, q36, q37, q38, q39, q40, q41, q42, q43, q44, q45, q46, q47, q48, q49, q50, q51, q52, q53, q54, q55, q56, q57, q58, valO, lstO, q59, q60, q61, q62, q63, q64, q65, q66, q67, q68, q69]
    rw [kDiv_i s 13 (by decide)]
    simp -implicitDefEqProofs only [mS, mD, mF, mFS, initE, q1, q2, q3, q4, q5, q6, Nat.reduceAdd, Nat.reduceSub, Nat.reduceEqDiff, q7, q8, q9, q10, reduceIte, q11, q12, q13, q14, q15, q16, q17, q18, q19, q20, q21, q22, q23, q24, q25, q26, q27, q28, q29, q30, q31, q32, q33, q34, q35, q36, q37, q38, q39, q40, q41, q42, q43, q44, q45, q46, q47, q48, q49, q50, q51, q52, q53, q54, q55, q56, q57, q58, valO, lstO, q59, q60, q61, q62, q63, q64, q65, q66, q67, q68, q69]
    rw [kMod_i _ _ (by decide)]
    rfl
theorem strings_rng (s : Int) : 1 ≤ stringsF s ∧ stringsF s ≤ 7 := by
  unfold stringsF
  split <;> omega
def crossF (x n : Int) : Int := if x / 8 % 2 = 1 then -(1 + x % (n - 1)) else 1 + x % (n - 1)
theorem cross_ok (x n : Int) (h : 2 ≤ n) : m__law_crossing [.int x, .int n] = .ok (.int (crossF x n)) := by
  unfold m__law_crossing b__law_crossing crossF
  simp -implicitDefEqProofs only [mS, mD, mF, mFS, initE, q1, q2, q3, q4, q5, q6, Nat.reduceAdd, Nat.reduceSub, Nat.reduceEqDiff, q7, q8, q9, q10, reduceIte, q11, q12, q13, q14, q15, q16, q17, q18, q19, q20, q21, q22, q23, q24, q25, q26, q27, q28, q29, q30, q31, q32, q33, q34, q35, q36, q37, q38, q39, q40, q41, q42, q43, q44, q45, q46, q47, q48, q49, q50, q51, q52, q53, q54, q55, q56, q57, q58, valO, lstO, q59, q60, q61, q62, q63, q64, q65, q66, q67, q68, q69]
  rw [kMod_i x (n - 1) (by omega)]
  simp -implicitDefEqProofs only [mS, mD, mF, mFS, initE, q1, q2, q3, q4, q5, q6, Nat.reduceAdd, Nat.reduceSub, Nat.reduceEqDiff, q7, q8, q9, q10, reduceIte, q11, q12, q13, q14, q15, q16, q17, q18, q19, q20, q21, q22, q23, q24, q25, q26, q27, q28, q29, q30, q31, q32, q33, q34, q35, q36, q37, q38, q39, q40, q41, q42, q43, q44, q45, q46, q47, q48, q49, q50, q51, q52, q53, q54, q55, q56, q57, q58, valO, lstO, q59, q60, q61, q62, q63, q64, q65, q66, q67, q68, q69]
  rw [kDiv_i x 8 (by decide)]
  simp -implicitDefEqProofs only [mS, mD, mF, mFS, initE, q1, q2, q3, q4, q5, q6, Nat.reduceAdd, Nat.reduceSub, Nat.reduceEqDiff, q7, q8, q9, q10, reduceIte, q11, q12, q13, q14, q15, q16, q17, q18, q19, q20, q21, q22, q23, q24, q25, q26, q27, q28, q29, q30, q31, q32, q33, q34, q35, q36, q37, q38, q39, q40, q41, q42, q43, q44, q45, q46, q47, q48, q49, q50, q51, q52, q53, q54, q55, q56, q57, q58, valO, lstO, q59, q60, q61, q62, q63, q64, q65, q66, q67, q68, q69]
  rw [kMod_i _ 2 (by decide)]
  simp -implicitDefEqProofs only [mS, mD, mF, mFS, initE, q1, q2, q3, q4, q5, q6, Nat.reduceAdd, Nat.reduceSub, Nat.reduceEqDiff, q7, q8, q9, q10, reduceIte, q11, q12, q13, q14, q15, q16, q17, q18, q19, q20, q21, q22, q23, q24, q25, q26, q27, q28, q29, q30, q31, q32, q33, q34, q35, q36, q37, q38, q39, q40, q41, q42, q43, q44, q45, q46, q47, q48, q49, q50, q51, q52, q53, q54, q55, q56, q57, q58, valO, lstO, q59, q60, q61, q62, q63, q64, q65, q66, q67, q68, q69]
  by_cases hc : x / 8 % 2 = 1
  · simp -implicitDefEqProofs only [hc, beq_self_eq_true, mS, mD, mF, mFS, initE, q1, q2, q3, q4, q5, q6, Nat.reduceAdd, Nat.reduceSub, Nat.reduceEqDiff, q7, q8, q9, q10, reduceIte, q11, q12, q13, q14, q15, q16, q17, q18, q19, q20, q21, q22, q23, q24, q25, q26, q27, q28, q29, q30, q31, q32, q33, q34, q35, q36, q37, q38, q39, q40, q41, q42, q43, q44, q45, q46, q47, q48, q49, q50, q51, q52, q53, q54, q55, q56, q57, q58, valO, lstO, q59, q60, q61, q62, q63, q64, q65, q66, q67, q68, q69]
  · have hc' : (x / 8 % 2 == 1) = false := beq_false_of_ne hc
    simp -implicitDefEqProofs only [hc, hc', mS, mD, mF, mFS, initE, q1, q2, q3, q4, q5, q6, Nat.reduceAdd, Nat.reduceSub, Nat.reduceEqDiff, q7, q8, q9, q10, reduceIte, q11, q12, q13, q14, q15, q16, q17, q18, q19, q20, q21, q22, q23, q24, q25, q26, q27, q28, q29, q30, q31, q32, q33, q34, q35, q36, q37, q38, q39, q40, q41, q42, q43, q44, q45, q46, q47, q48, q49, q50, q51, q52, q53, q54, q55, q56, q57, q58, valO, lstO, q59, q60, q61, q62, q63, q64, q65, q66, q67, q68, q69]
def IsX (n k : Int) : Prop := k ≠ 0 ∧ -n < k ∧ k < n
theorem cross_is (x n : Int) (h : 2 ≤ n) : IsX n (crossF x n) := by
  unfold crossF IsX
  have h1 := Int.emod_nonneg x (show n - 1 ≠ 0 by omega)
  have h2 := Int.emod_lt_of_pos x (show 0 < n - 1 by omega)
  split <;> omega
def otherF (k n : Int) : Int := if (if k + 1 < 0 then -(k + 1) else k + 1) < n ∧ k + 1 ≠ 0 then k + 1 else k - 1
def pieceF (x n : Int) : List Int :=
  if x / 16 % 4 > 0 ∨ n < 3 then [crossF x n] else
    let k := crossF x n
    let o := otherF k n
    if x / 64 % 4 = 0 then [k, o, k] else if x / 64 % 4 = 1 then [k, o] else if x / 64 % 4 = 2 then [k, k] else [k, -o, k]
theorem other_is {k n : Int} (h : 3 ≤ n) (hk : IsX n k) : IsX n (otherF k n) := by
  unfold otherF IsX at *
  split <;> split at * <;> omega
theorem piece_is {x n : Int} (h : 2 ≤ n) : ∀ k ∈ pieceF x n, IsX n k := by
  have h1 := cross_is x n h
  unfold pieceF
  split
  · simp [h1]
  · rename_i hc
    have h2 := other_is (n := n) (by omega) h1
    have h3 : IsX n (-otherF (crossF x n) n) := by unfold IsX at *; omega
    dsimp only
    split
    · simp [h1, h2]
    · split
      · simp [h1, h2]
      · split <;> simp [h1, h3]
theorem piece_len (x n : Int) : (pieceF x n).length ≤ 3 := by
  unfold pieceF
  split
  · simp
  · dsimp only
    split
    · simp
    · split
      · simp
      · split <;> simp
theorem piece_ok (x n : Int) (h : 2 ≤ n) : m__law_piece [.int x, .int n] = .ok (.lst (ofI (pieceF x n))) := by
  unfold m__law_piece b__law_piece pieceF
  simp -implicitDefEqProofs only [mS, mD, mF, mFS, initE, q1, q2, q3, q4, q5, q6, Nat.reduceAdd, Nat.reduceSub, Nat.reduceEqDiff, q7, q8, q9, q10, reduceIte, q11, q12, q13, q14, q15, q16, q17, q18, q19, q20, q21, q22, q23, q24, q25, q26, q27, q28, q29, q30, q31, q32, q33, q34, q35, q36, q37, q38, q39, q40, q41, q42, q43, q44, q45, q46, q47, q48, q49, q50, q51, q52, q53, q54, q55, q56, q57, q58, valO, lstO, q59, q60, q61, q62, q63, q64, q65, q66, q67, q68, q69]
  rw [cross_ok x n h]
  simp -implicitDefEqProofs only [mS, mD, mF, mFS, initE, q1, q2, q3, q4, q5, q6, Nat.reduceAdd, Nat.reduceSub, Nat.reduceEqDiff, q7, q8, q9, q10, reduceIte, q11, q12, q13, q14, q15, q16, q17, q18, q19, q20, q21, q22, q23, q24, q25, q26, q27, q28, q29, q30, q31, q32, q33, q34, q35, q36, q37, q38, q39, q40, q41, q42, q43, q44, q45, q46, q47, q48, q49, q50, q51, q52, q53, q54, q55, q56, q57, q58, valO, lstO, q59, q60, q61, q62, q63, q64, q65, q66, q67, q68, q69]
  rw [kDiv_i x 16 (by decide)]
  simp -implicitDefEqProofs only [mS, mD, mF, mFS, initE, q1, q2, q3, q4, q5, q6, Nat.reduceAdd, Nat.reduceSub, Nat.reduceEqDiff, q7, q8, q9, q10, reduceIte, q11, q12, q13, q14, q15, q16, q17, q18, q19, q20, q21, q22, q23, q24, q25, q26, q27, q28, q29, q30, q31, q32, q33, q34, q35, q36, q37, q38, q39, q40, q41, q42, q43, q44, q45, q46, q47, q48, q49, q50, q51, q52, q53, q54, q55, q56, q57, q58, valO, lstO, q59, q60, q61, q62, q63, q64, q65, q66, q67, q68, q69]
  rw [kMod_i _ 4 (by decide)]
  simp -implicitDefEqProofs only [mS, mD, mF, mFS, initE, q1, q2, q3, q4, q5, q6, Nat.reduceAdd, Nat.reduceSub, Nat.reduceEqDiff, q7, q8, q9, q10, reduceIte, q11, q12, q13, q14, q15, q16, q17, q18, q19, q20, q21, q22, q23, q24, q25, q26, q27, q28, q29, q30, q31, q32, q33, q34, q35, q36, q37, q38, q39, q40, q41, q42, q43, q44, q45, q46, q47, q48, q49, q50, q51, q52, q53, q54, q55, q56, q57, q58, valO, lstO, q59, q60, q61, q62, q63, q64, q65, q66, q67, q68, q69]
  by_cases h1 : 0 < x / 16 % 4
  · have h1' : x / 16 % 4 > 0 ∨ n < 3 := .inl h1
    rw [if_pos h1']
    simp -implicitDefEqProofs only [h1, decide_true, mS, mD, mF, mFS, initE, q1, q2, q3, q4, q5, q6, Nat.reduceAdd, Nat.reduceSub, Nat.reduceEqDiff, q7, q8, q9, q10, reduceIte, q11, q12, q13, q14, q15, q16, q17, q18, q19, q20, q21, q22, q23, q24, q25, q26, q27, q28, q29, q30, q31, q32, q33, q34, q35, q36, q37, q38, q39, q40, q41, q42, q43, q44, q45, q46, q47, q48, q49, q50, q51, q52, q53, q54, q55, q56, q57, q58, valO, lstO, q59, q60, q61, q62, q63, q64, q65, q66, q67, q68, q69]
    rfl
  · by_cases h2 : n < 3
    · have h1' : x / 16 % 4 > 0 ∨ n < 3 := .inr h2
      rw [if_pos h1']
      simp -implicitDefEqProofs only [h1, h2, decide_true, decide_false, mS, mD, mF, mFS, initE, q1, q2, q3, q4, q5, q6, Nat.reduceAdd, Nat.reduceSub, Nat.reduceEqDiff, q7, q8, q9, q10, reduceIte, q11, q12, q13, q14, q15, q16, q17, q18, q19, q20, q21, q22, q23, q24, q25, q26, q27, q28, q29, q30, q31, q32, q33, q34, q35, q36, q37, q38, q39, q40, q41, q42, q43, q44, q45, q46, q47, q48, q49, q50, q51, q52, q53, q54, q55, q56, q57, q58, valO, lstO, q59, q60, q61, q62, q63, q64, q65, q66, q67, q68, q69]
      rfl
    · have h1' : ¬ (x / 16 % 4 > 0 ∨ n < 3) := by omega
      rw [if_neg h1']
      simp -implicitDefEqProofs only [h1, h2, decide_false, mS, mD, mF, mFS, initE, q1, q2, q3, q4, q5, q6, Nat.reduceAdd, Nat.reduceSub, Nat.reduceEqDiff, q7, q8, q9, q10, reduceIte, q11, q12, q13, q14, q15, q16, q17, q18, q19, q20, q21, q22, q23, q24, q25, q26, q27, q28, q29, q30, q31, q32, q33, q34, q35, q36, q37, q38, q39, q40, q41, q42, q43, q44, q45, q46, q47, q48, q49, q50, q51, q52, q53, q54, q55, q56, q57, q58, valO, lstO, q59, q60, q61, q62, q63, q64, q65, q66, q67, q68, q69]
      have ho : (R.bind (if decide ((if crossF x n + 1 < 0 then -(crossF x n + 1) else crossF x n + 1) < n) = true then R.ok (!(crossF x n + 1 == 0)) else R.ok false) fun t => if t = true then R.ok (D.int (crossF x n + 1)) else R.ok (D.int (crossF x n - 1))) = R.ok (D.int (otherF (crossF x n) n)) := by
        unfold otherF
        by_cases c1 : (if crossF x n + 1 < 0 then -(crossF x n + 1) else crossF x n + 1) < n
        · by_cases c2 : crossF x n + 1 = 0
          · simp [c1, c2, R.ok_bind]
          · simp [c1, c2, R.ok_bind]
        · simp [c1, R.ok_bind]
      rw [ho]
      simp -implicitDefEqProofs only [mS, mD, mF, mFS, initE, q1, q2, q3, q4, q5, q6, Nat.reduceAdd, Nat.reduceSub, Nat.reduceEqDiff, q7, q8, q9, q10, reduceIte, q11, q12, q13, q14, q15, q16, q17, q18, q19, q20, q21, q22, q23, q24, q25, q26, q27, q28, q29, q30, q31, q32, q33, q34, q35, q36, q37, q38, q39, q40, q41, q42, q43, q44, q45, q46, q47, q48, q49, q50, q51, q52, q53, q54, q55, q56, q57, q58, valO, lstO, q59, q60, q61, q62, q63, q64, q65, q66, q67, q68, q69]
      rw [kDiv_i x 64 (by decide)]
      simp -implicitDefEqProofs only [mS, mD, mF, mFS, initE, q1, q2, q3, q4, q5, q6, Nat.reduceAdd, Nat.reduceSub, Nat.reduceEqDiff, q7, q8, q9, q10, reduceIte, q11, q12, q13, q14, q15, q16, q17, q18, q19, q20, q21, q22, q23, q24, q25, q26, q27, q28, q29, q30, q31, q32, q33, q34, q35, q36, q37, q38, q39, q40, q41, q42, q43, q44, q45, q46, q47, q48, q49, q50, q51, q52, q53, q54, q55, q56, q57, q58, valO, lstO, q59, q60, q61, q62, q63, q64, q65, q66, q67, q68, q69]
      rw [kMod_i _ 4 (by decide)]
      simp -implicitDefEqProofs only [mS, mD, mF, mFS, initE, q1, q2, q3, q4, q5, q6, Nat.reduceAdd, Nat.reduceSub, Nat.reduceEqDiff, q7, q8, q9, q10, reduceIte, q11, q12, q13, q14, q15, q16, q17, q18, q19, q20, q21, q22, q23, q24, q25, q26, q27, q28, q29, q30, q31, q32, q33, q34, q35, q36, q37, q38, q39, q40, q41, q42, q43, q44, q45, q46, q47, q48, q49, q50, q51, q52, q53, q54, q55, q56, q57, q58, valO, lstO, q59, q60, q61, q62, q63, q64, q65, q66, q67, q68, q69]
      have h5 := Int.emod_nonneg (x / 64) (show (4 : Int) ≠ 0 by decide)
      have h6 := Int.emod_lt_of_pos (x / 64) (show (0 : Int) < 4 by decide)
      have h7 : x / 64 % 4 = 0 ∨ x / 64 % 4 = 1 ∨ x / 64 % 4 = 2 ∨ x / 64 % 4 = 3 := by omega
      rcases h7 with q | q | q | q <;> simp [q, L2.atI, L2.ixN, R.of_some, R.ok_bind, R.ne_ok, valO, ofI]
end DL

namespace DL
open PySem PySem.Spec PyProof.Rows L2
/-! ### the drawn word -/
def pcs (n : Int) (cells : List Int) (i : Nat) : List Int := ((List.range i).map fun k => match cells[k]? with
  | some c => pieceF (mixF c k 48271) n
  | none => []).flatten
theorem pcs_succ {n : Int} {cells : List Int} {i : Nat} {c : Int} (h : cells[i]? = some c) : pcs n cells (i + 1) = pcs n cells i ++ pieceF (mixF c i 48271) n := by
  unfold pcs
  rw [List.range_succ, List.map_append, List.flatten_append]
  simp [h]
theorem pcs_len (n : Int) (cells : List Int) : ∀ i : Nat, (pcs n cells i).length ≤ 3 * i
  | 0 => by simp [pcs]
  | i + 1 => by
    unfold pcs
    rw [List.range_succ, List.map_append, List.flatten_append, List.length_append]
    have ih := pcs_len n cells i
    unfold pcs at ih
    cases h : cells[i]? with
    | none => simp -implicitDefEqProofs only [h, List.map_cons, List.map_nil, List.flatten_cons, List.flatten_nil, List.length_append, List.length_nil]; omega
    | some c =>
      have := piece_len (mixF c i 48271) n
      simp -implicitDefEqProofs only [h, List.map_cons, List.map_nil, List.flatten_cons, List.flatten_nil, List.length_append, List.length_nil]; omega
theorem pcs_is {n : Int} (hn : 2 ≤ n) (cells : List Int) (i : Nat) : ∀ k ∈ pcs n cells i, IsX n k := by
  intro k hk
  unfold pcs at hk
  rw [List.mem_flatten] at hk
  obtain ⟨l, hl, hk⟩ := hk
  rw [List.mem_map] at hl
  obtain ⟨j, _, rfl⟩ := hl
  cases h : cells[j]? with
  | none => rw [h] at hk; cases hk
  | some c => rw [h] at hk; exact piece_is hn k hk
def drawnF (cells : List Int) (n most : Int) : List Int := (if 1 < n then pcs n cells cells.length else []).take most.toNat
theorem drawn_is {cells : List Int} {n most : Int} : ∀ k ∈ drawnF cells n most, IsX n k := by
  intro k hk
  unfold drawnF at hk
  have := List.mem_of_mem_take hk
  split at this
  · exact pcs_is (by omega) _ _ k this
  · cases this
theorem drawn_most (cells : List Int) (n most : Int) : (drawnF cells n most).length ≤ most.toNat := by
  unfold drawnF
  rw [List.length_take]
  omega
theorem drawn_ok (cells : List Int) (n most : Int) (hc : cells.length ≤ 1000) (hn : 1 ≤ n) (hm : 0 ≤ most) : m__law_drawn [.lst (ofI cells), .int n, .int most] = .ok (ofI (drawnF cells n most)) := by
  unfold m__law_drawn b__law_drawn
  simp -implicitDefEqProofs only [mS, mD, mF, mFS, initE, q1, q2, q3, q4, q5, q6, Nat.reduceAdd, Nat.reduceSub, Nat.reduceEqDiff, q7, q8, q9, q10, reduceIte, q11, q12, q13, q14, q15, q16, q17, q18, q19, q20, q21, q22, q23, q24, q25, q26, q27, q28, q29, q30, q31, q32, q33, q34, q35, q36, q37, q38, q39, q40, q41, q42, q43, q44, q45, q46, q47, q48, q49, q50, q51, q52, q53, q54, q55, q56, q57, q58, valO, lstO, q59, q60, q61, q62, q63, q64, q65, q66, q67, q68, q69]
  obtain ⟨s', e, hj⟩ := for_at (S := List Int × Sl × Sl) (b := b__law_drawn_l1)
    (fun i s => s.1 = if 1 < n then pcs n cells i else []) (fun s => [.val (.lst (ofI cells)), .val (.int n), .val (.int most), .val (.lst (ofI s.1)), s.2.1, s.2.2]) (enumL (ofI cells)) 0 ([], .no, .no) (by simp [pcs]) (by
      rintro j ⟨wd, s4, s5⟩ x hs hx
      obtain ⟨c, hcj, rfl⟩ := enumL_ofI hx
      have hj : j < cells.length := (List.getElem?_eq_some_iff.mp hcj).1
      rw [Nat.zero_add] at hs ⊢
      have hs' : wd = if 1 < n then pcs n cells j else [] := hs
      unfold b__law_drawn_l1
      simp -implicitDefEqProofs only [bT2, mS, mD, mF, mFS, initE, q1, q2, q3, q4, q5, q6, Nat.reduceAdd, Nat.reduceSub, Nat.reduceEqDiff, q7, q8, q9, q10, reduceIte, q11, q12, q13, q14, q15, q16, q17, q18, q19, q20, q21, q22, q23, q24, q25, q26, q27, q28, q29, q30, q31, q32, q33, q34, q35, q36, q37, q38, q39, q40, q41, q42, q43, q44, q45, q46, q47, q48, q49, q50, q51, q52, q53, q54, q55, q56, q57, q58, valO, lstO, q59, q60, q61, q62, q63, q64, q65, q66, q67, q68, q69]
      by_cases h1 : 1 < n
      · rw [if_pos h1] at hs'
        subst hs'
        have hl := pcs_len n cells j
        have hl2 := piece_len (mixF c j 48271) n
        refine ⟨(pcs n cells (j + 1), .val (.int (j : Nat)), .val (.int c)), ?_, by simp [h1]⟩
        simp -implicitDefEqProofs only [h1, decide_true, mS, mD, mF, mFS, initE, q1, q2, q3, q4, q5, q6, Nat.reduceAdd, Nat.reduceSub, Nat.reduceEqDiff, q7, q8, q9, q10, reduceIte, q11, q12, q13, q14, q15, q16, q17, q18, q19, q20, q21, q22, q23, q24, q25, q26, q27, q28, q29, q30, q31, q32, q33, q34, q35, q36, q37, q38, q39, q40, q41, q42, q43, q44, q45, q46, q47, q48, q49, q50, q51, q52, q53, q54, q55, q56, q57, q58, valO, lstO, q59, q60, q61, q62, q63, q64, q65, q66, q67, q68, q69]
        rw [mix_ok c j 48271 (by omega) (by decide)]
        simp -implicitDefEqProofs only [mS, mD, mF, mFS, initE, q1, q2, q3, q4, q5, q6, Nat.reduceAdd, Nat.reduceSub, Nat.reduceEqDiff, q7, q8, q9, q10, reduceIte, q11, q12, q13, q14, q15, q16, q17, q18, q19, q20, q21, q22, q23, q24, q25, q26, q27, q28, q29, q30, q31, q32, q33, q34, q35, q36, q37, q38, q39, q40, q41, q42, q43, q44, q45, q46, q47, q48, q49, q50, q51, q52, q53, q54, q55, q56, q57, q58, valO, lstO, q59, q60, q61, q62, q63, q64, q65, q66, q67, q68, q69]
        rw [piece_ok _ n (by omega)]
        simp -implicitDefEqProofs only [mS, mD, mF, mFS, initE, q1, q2, q3, q4, q5, q6, Nat.reduceAdd, Nat.reduceSub, Nat.reduceEqDiff, q7, q8, q9, q10, reduceIte, q11, q12, q13, q14, q15, q16, q17, q18, q19, q20, q21, q22, q23, q24, q25, q26, q27, q28, q29, q30, q31, q32, q33, q34, q35, q36, q37, q38, q39, q40, q41, q42, q43, q44, q45, q46, q47, q48, q49, q50, q51, q52, q53, q54, q55, q56, q57, q58, valO, lstO, q59, q60, q61, q62, q63, q64, q65, q66, q67, q68, q69, ofI_app]
        rw [fit_ofI (by rw [List.length_append]; omega)]
        simp -implicitDefEqProofs only [mS, mD, mF, mFS, initE, q1, q2, q3, q4, q5, q6, Nat.reduceAdd, Nat.reduceSub, Nat.reduceEqDiff, q7, q8, q9, q10, reduceIte, q11, q12, q13, q14, q15, q16, q17, q18, q19, q20, q21, q22, q23, q24, q25, q26, q27, q28, q29, q30, q31, q32, q33, q34, q35, q36, q37, q38, q39, q40, q41, q42, q43, q44, q45, q46, q47, q48, q49, q50, q51, q52, q53, q54, q55, q56, q57, q58, valO, lstO, q59, q60, q61, q62, q63, q64, q65, q66, q67, q68, q69, pcs_succ hcj]
      · rw [if_neg h1] at hs'
        subst hs'
        exact ⟨([], .val (.int (j : Nat)), .val (.int c)), by simp -implicitDefEqProofs only [h1, decide_false, mS, mD, mF, mFS, initE, q1, q2, q3, q4, q5, q6, Nat.reduceAdd, Nat.reduceSub, Nat.reduceEqDiff, q7, q8, q9, q10, reduceIte, q11, q12, q13, q14, q15, q16, q17, q18, q19, q20, q21, q22, q23, q24, q25, q26, q27, q28, q29, q30, q31, q32, q33, q34, q35, q36, q37, q38, q39, q40, q41, q42, q43, q44, q45, q46, q47, q48, q49, q50, q51, q52, q53, q54, q55, q56, q57, q58, valO, lstO, q59, q60, q61, q62, q63, q64, q65, q66, q67, q68, q69], by simp [h1]⟩)
  obtain ⟨wd, s4, s5⟩ := s'
  have hj' : wd = if 1 < n then pcs n cells (0 + (enumL (ofI cells)).length) else [] := hj
  have he : (enumL (ofI cells)).length = cells.length := by rw [enumL_len, ofI_len]
  rw [Nat.zero_add, he] at hj'
  rw [show ofI [] = [] from rfl] at e
  rw [e]
  simp -implicitDefEqProofs only [mS, mD, mF, mFS, initE, q1, q2, q3, q4, q5, q6, Nat.reduceAdd, Nat.reduceSub, Nat.reduceEqDiff, q7, q8, q9, q10, reduceIte, q11, q12, q13, q14, q15, q16, q17, q18, q19, q20, q21, q22, q23, q24, q25, q26, q27, q28, q29, q30, q31, q32, q33, q34, q35, q36, q37, q38, q39, q40, q41, q42, q43, q44, q45, q46, q47, q48, q49, q50, q51, q52, q53, q54, q55, q56, q57, q58, valO, lstO, q59, q60, q61, q62, q63, q64, q65, q66, q67, q68, q69, cut_ofI]
  rw [cut_to _ _ hm, scL_i]
  simp -implicitDefEqProofs only [mS, mD, mF, mFS, initE, q1, q2, q3, q4, q5, q6, Nat.reduceAdd, Nat.reduceSub, Nat.reduceEqDiff, q7, q8, q9, q10, reduceIte, q11, q12, q13, q14, q15, q16, q17, q18, q19, q20, q21, q22, q23, q24, q25, q26, q27, q28, q29, q30, q31, q32, q33, q34, q35, q36, q37, q38, q39, q40, q41, q42, q43, q44, q45, q46, q47, q48, q49, q50, q51, q52, q53, q54, q55, q56, q57, q58, valO, lstO, q59, q60, q61, q62, q63, q64, q65, q66, q67, q68, q69, hj']
  rfl
theorem head0 (ns : List Int) : ∃ c, (ns ++ [0])[0]? = some c := by cases ns <;> simp
theorem sp_of {K : PySem.W.Frag} {H : Hp} {a : Addr} {m : List D → R D} {ns : List Int} (h : m [.lst (ofI ns)] = .ok (.bl true)) (hS : SqL K H a (ns.map V.int)) : spD K xc0 m [.ref a] H (fun v _ => v = .bl true) fun _ _ _ => False := by
  refine ⟨Tr, [.lst (ofI ns)], IsL.one ⟨a, _, rfl, LsAt.any hS, ?_⟩, ?_⟩
  · clear h hS
    induction ns with
    | nil => rfl
    | cons x r ih => exact ⟨_, _, rfl, rfl, ih⟩
  · rw [h]
    intro v H' _ i
    exact i
end DL

namespace DL
open PySem PySem.Spec PyProof.Rows L2

/-! ### texts as lists of signs -/
def tl (x : Str) : List Nat := x.cps.toList
def ofT (l : List Nat) : Str := ⟨l.toArray⟩
theorem tl_of (l : List Nat) : tl (ofT l) = l := by unfold tl ofT; rfl
theorem tl_inj {a b : Str} (h : tl a = tl b) : a = b := by
  cases a with
  | mk a =>
    cases b with
    | mk b =>
      have h' : a.toList = b.toList := h
      rw [Array.toList_inj.mp h']
theorem of_tl (x : Str) : ofT (tl x) = x := tl_inj (tl_of _)
theorem tl_app (a b : Str) : tl (a ++ b) = tl a ++ tl b := by
  show (a.cps ++ b.cps).toList = a.cps.toList ++ b.cps.toList
  exact Array.toList_append
theorem tl_len (a : Str) : (tl a).length = a.length := by unfold tl Str.length; exact Array.length_toList
theorem tl_nil : tl ("" : Str) = [] := rfl
def spl (c : Nat) : List Nat → List (List Nat)
  | [] => [[]]
  | x :: r => if x = c then [] :: spl c r else match spl c r with
    | [] => [[x]]
    | h :: t => (x :: h) :: t
def jn (c : Nat) : List (List Nat) → List Nat
  | [] => []
  | [p] => p
  | p :: q :: r => p ++ c :: jn c (q :: r)
theorem tl_join1 (c : Nat) : ∀ ps : List Str, tl (Str.join ⟨#[c]⟩ ps) = jn c (ps.map tl)
  | [] => rfl
  | [p] => rfl
  | p :: q :: r => by
    show tl (p ++ ⟨#[c]⟩ ++ Str.join ⟨#[c]⟩ (q :: r)) = tl p ++ c :: jn c ((q :: r).map tl)
    rw [tl_app, tl_app, tl_join1 c (q :: r), List.append_assoc]
    rfl
theorem spl_free (c : Nat) : ∀ p : List Nat, c ∉ p → spl c p = [p]
  | [], _ => rfl
  | x :: p, h => by
    have h1 : ¬ x = c := fun z => h (by rw [z]; exact List.mem_cons_self)
    have h2 := spl_free c p fun z => h (List.mem_cons_of_mem _ z)
    unfold spl
    rw [if_neg h1, h2]
theorem spl_cut (c : Nat) (l : List Nat) : ∀ p : List Nat, c ∉ p → spl c (p ++ c :: l) = p :: spl c l
  | [], _ => by
    show spl c (c :: l) = _
    conv => lhs; unfold spl
    rw [if_pos rfl]
  | x :: p, h => by
    have h1 : ¬ x = c := fun z => h (by rw [z]; exact List.mem_cons_self)
    have h2 := spl_cut c l p fun z => h (List.mem_cons_of_mem _ z)
    show spl c (x :: (p ++ c :: l)) = _
    conv => lhs; unfold spl
    rw [if_neg h1, h2]
theorem spl_jn (c : Nat) : ∀ ps : List (List Nat), ps ≠ [] → (∀ p ∈ ps, c ∉ p) → spl c (jn c ps) = ps
  | [], h, _ => (h rfl).elim
  | [p], _, h => spl_free c p (h p (by simp))
  | p :: q :: r, _, h => by
    show spl c (p ++ c :: jn c (q :: r)) = _
    rw [spl_cut c _ p (h p (by simp)), spl_jn c (q :: r) (by simp) fun x hx => h x (List.mem_cons_of_mem _ hx)]
theorem split_ne (x y : Str) : Txt.split x y ≠ [] := by
  unfold Txt.split
  split
  · simp
  · split
    · simp
    · rw [StrLaws.partsBetween_eq]
      obtain ⟨p, r, e⟩ := StrLaws.partsFrom_ne x y.length 0 (PySem.Builtin.Str.occurrences x y 0 x.length (x.length + 1))
      rw [e]
      simp
theorem split_tl (x : Str) (c : Nat) : (Txt.split x ⟨#[c]⟩).map tl = spl c (tl x) := by
  have h1 := StrLaws.join_split x ⟨#[c]⟩
  have h2 := StrLaws.split_free x c
  conv => rhs; rw [← h1]
  rw [tl_join1, spl_jn]
  · intro z
    exact split_ne x ⟨#[c]⟩ (List.map_eq_nil_iff.mp z)
  · intro p hp
    obtain ⟨q, hq, rfl⟩ := List.mem_map.mp hp
    exact h2 q hq
theorem split_of (x : Str) (c : Nat) : Txt.split x ⟨#[c]⟩ = (spl c (tl x)).map ofT := by
  rw [← split_tl, List.map_map]
  conv => lhs; rw [← List.map_id (Txt.split x ⟨#[c]⟩)]
  exact List.map_congr_left fun y _ => (of_tl y).symm
theorem spl_len (c : Nat) : ∀ l : List Nat, (spl c l).length ≤ l.length + 1
  | [] => by simp [spl]
  | x :: l => by
    have ih := spl_len c l
    unfold spl
    split
    · rw [List.length_cons, List.length_cons]; omega
    · split
      · simp
      · rename_i e
        rw [e] at ih
        rw [List.length_cons] at ih
        rw [List.length_cons, List.length_cons]; omega
theorem tl_sub (x : Str) (i j : Nat) : tl (PySem.Builtin.Str.strSub x i j) = ((tl x).drop i).take (j - i) := StrLaws.strSub_toList x i j
theorem part_at (x : Str) (c : Nat) {p r : List Nat} (h : tl x = p ++ c :: r) (hp : c ∉ p) : Txt.partition x ⟨#[c]⟩ = (ofT p, ⟨#[c]⟩, ofT r) := by
  have hget : ∀ i : Nat, StrLaws.At x ⟨#[c]⟩ x.length i ↔ (tl x)[i]? = some c := fun i => StrLaws.subAt_one x c i
  have hlen : (tl x).length = p.length + 1 + r.length := by rw [h, List.length_append, List.length_cons]; omega
  unfold Txt.partition
  rcases StrLaws.occ_head x ⟨#[c]⟩ 1 (Nat.le_refl 1) with ⟨_, h2⟩ | ⟨i, q, h1, h2, h3⟩
  · exact (h2 p.length ((hget _).mpr (by rw [h]; simp))).elim
  · rw [h1]
    have hi : i = p.length := by
      have a1 := (hget i).mp h2
      by_cases hlt : i < p.length
      · rw [h, List.getElem?_append_left hlt] at a1
        exact (hp (List.mem_of_getElem? a1)).elim
      · by_cases hgt : p.length < i
        · exact (h3 _ hgt ((hget _).mpr (by rw [h]; simp))).elim
        · omega
    subst hi
    refine Prod.ext (tl_inj ?_) (Prod.ext rfl (tl_inj ?_))
    · show tl (PySem.Builtin.Str.strSub x 0 p.length) = _
      rw [tl_sub, tl_of, h, List.drop_zero, Nat.sub_zero, List.take_left']
      rfl
    · show tl (PySem.Builtin.Str.strSub x (p.length + 1) x.length) = _
      rw [tl_sub, tl_of, ← tl_len x, hlen, h, show p ++ c :: r = (p ++ [c]) ++ r by simp, List.drop_left' (by simp), List.take_of_length_le (by omega)]
theorem part_none (x : Str) (c : Nat) (h : c ∉ tl x) : Txt.partition x ⟨#[c]⟩ = (x, Str.empty, Str.empty) := by
  have hget : ∀ i : Nat, StrLaws.At x ⟨#[c]⟩ x.length i ↔ (tl x)[i]? = some c := fun i => StrLaws.subAt_one x c i
  unfold Txt.partition
  rcases StrLaws.occ_head x ⟨#[c]⟩ 1 (Nat.le_refl 1) with ⟨h1, h2⟩ | ⟨i, q, h1, h2, h3⟩
  · rw [h1]
  · exact (h (List.mem_of_getElem? ((hget i).mp h2))).elim
theorem starts_tl (x : Str) (c : Nat) : Txt.startswith x ⟨#[c]⟩ = decide ((tl x)[0]? = some c) := by
  have := StrLaws.subAt_one x c 0
  unfold Txt.startswith
  rw [Bool.eq_iff_iff, Bool.and_eq_true, decide_eq_true_eq, decide_eq_true_eq]
  exact this
/-! strip -/
def dropC (c : Nat) : List Nat → List Nat
  | [] => []
  | x :: r => if x = c then dropC c r else x :: r
def stp (c : Nat) (l : List Nat) : List Nat := (dropC c (dropC c l).reverse).reverse
theorem dropC_eq (c : Nat) (g : Nat → Bool) (hg : ∀ x, g x = decide (x = c)) : ∀ l : List Nat, l.drop (l.takeWhile g).length = dropC c l
  | [] => rfl
  | x :: l => by
    unfold dropC List.takeWhile
    rw [hg x]
    by_cases h : x = c
    · rw [if_pos h, decide_eq_true h]
      show (x :: l).drop ((l.takeWhile g).length + 1) = _
      rw [List.drop_succ_cons, dropC_eq c g hg l]
    · rw [if_neg h, decide_eq_false h]
      rfl
theorem take_rev {m : List Nat} (t : Nat) : m.take (m.length - t) = (m.reverse.drop t).reverse := by
  rw [List.drop_reverse, List.reverse_reverse]
theorem strip_tl (x : Str) (c : Nat) : tl (Txt.stripChars x ⟨#[c]⟩) = stp c (tl x) := by
  have hg : ∀ y, (#[c] : Array Nat).contains y = decide (y = c) := fun y => by
    rw [Bool.eq_iff_iff]
    simp
  have hs : Txt.stripChars x ⟨#[c]⟩ = stripped (#[c] : Array Nat).contains true true x := by
    unfold Txt.stripChars Txt.stripBy
    split
    · rename_i h
      unfold stripSame at h
      rw [Bool.and_eq_true, beq_iff_eq, beq_iff_eq] at h
      unfold stripped
      rw [h.2, h.1, StrLaws.sub_whole]
    · rfl
  rw [hs]
  unfold stripped stripHi stripLo
  rw [if_pos rfl, if_pos rfl, tl_sub]
  have e1 : (tl x).drop (List.takeWhile (#[c] : Array Nat).contains (tl x)).length = dropC c (tl x) := dropC_eq c _ hg (tl x)
  show List.take (x.length - (List.takeWhile (#[c] : Array Nat).contains (List.drop (List.takeWhile (#[c] : Array Nat).contains (tl x)).length (tl x)).reverse).length - (List.takeWhile (#[c] : Array Nat).contains (tl x)).length) (List.drop (List.takeWhile (#[c] : Array Nat).contains (tl x)).length (tl x)) = _
  have e2 : (dropC c (tl x)).length = x.length - (List.takeWhile (#[c] : Array Nat).contains (tl x)).length := by
    rw [← e1, List.length_drop, tl_len]
  rw [e1]
  unfold stp
  rw [← dropC_eq c _ hg (dropC c (tl x)).reverse, ← take_rev, e2]
  congr 1
  omega
theorem dropC_rep (c : Nat) (m : List Nat) : ∀ a : Nat, dropC c (List.replicate a c ++ m) = dropC c m
  | 0 => rfl
  | a + 1 => by
    rw [List.replicate_succ, List.cons_append]
    conv => lhs; unfold dropC
    rw [if_pos rfl, dropC_rep c m a]
theorem dropC_ne {c x : Nat} {r : List Nat} (h : x ≠ c) : dropC c (x :: r) = x :: r := by
  unfold dropC
  rw [if_neg h]
theorem stp_mid (c : Nat) (a e : Nat) (m : List Nat) {x y : Nat} {r q : List Nat} (h1 : m = x :: r) (h2 : m = q ++ [y]) (hx : x ≠ c) (hy : y ≠ c) : stp c (List.replicate a c ++ (m ++ List.replicate e c)) = m := by
  unfold stp
  rw [dropC_rep]
  have e1 : dropC c (m ++ List.replicate e c) = m ++ List.replicate e c := by rw [h1]; exact dropC_ne hx
  rw [e1, List.reverse_append, List.reverse_replicate, dropC_rep, h2, List.reverse_append]
  show (dropC c (y :: q.reverse)).reverse = _
  rw [dropC_ne hy]
  simp
/-! the pieces between blanks that are not empty -/
def wds (c : Nat) (l : List Nat) : List (List Nat) := (spl c l).filter fun p => !p.isEmpty
theorem wds_c (c : Nat) (l : List Nat) : wds c (c :: l) = wds c l := by
  unfold wds
  conv => lhs; unfold spl
  rw [if_pos rfl]
  rfl
theorem wds_end {c : Nat} {f : List Nat} (h : c ∉ f) (hf : f ≠ []) : wds c f = [f] := by
  unfold wds
  rw [spl_free c f h]
  cases f with
  | nil => exact (hf rfl).elim
  | cons x f => rfl
theorem wds_cut {c : Nat} {f l : List Nat} (h : c ∉ f) (hf : f ≠ []) : wds c (f ++ c :: l) = f :: wds c l := by
  unfold wds
  rw [spl_cut c l f h]
  cases f with
  | nil => exact (hf rfl).elim
  | cons x f => rfl
/-! n times, joined -/
theorem tl_join0 : ∀ ps : List Str, tl (Str.join "" ps) = (ps.map tl).flatten
  | [] => rfl
  | [p] => by
    show tl p = [tl p].flatten
    simp
  | p :: q :: r => by
    show tl (p ++ "" ++ Str.join "" (q :: r)) = _
    rw [tl_app, tl_app, tl_join0 (q :: r), tl_nil, List.append_nil]
    rfl
theorem tl_Join0 (ps : List Str) : tl (Txt.join "" ps) = (ps.map tl).flatten := by
  unfold Txt.join
  rw [StrLaws.glued_eq_join, tl_join0]
theorem blank : (" " : Str) = ⟨#[32]⟩ := rfl
theorem colon : (":" : Str) = ⟨#[58]⟩ := rfl
theorem str_eq (a b : Str) : (a == b) = decide (tl a = tl b) := by
  rw [Bool.eq_iff_iff, beq_iff_eq, decide_eq_true_eq]
  exact ⟨fun h => by rw [h], tl_inj⟩

end DL

namespace DL
open PySem PySem.Spec PyProof.Rows L2
def tab_FIGURES : List (Str × Int) := [("0", 0), ("1", 1), ("2", 2), ("3", 3), ("4", 4), ("5", 5), ("6", 6), ("7", 7), ("8", 8), ("9", 9)]
noncomputable def b_is_crossing (env : DE) : R Out :=
  (R.bind (R.bind (R.bind (slB 1 env) fun v3 => R.bind (R.ok (D.int 0)) fun v4 => R.of (kNe v3 v4)) fun v2 => R.bind (asB v2) fun t => if t = true then (R.bind (R.bind (R.bind (slB 1 env) fun v8 => R.bind (R.ok []) fun v9 => R.ok (v8 :: v9)) fun v7 => R.of (kAbs v7)) fun v5 => R.bind (slB 0 env) fun v6 => R.of (kLt v5 v6)) else R.ok (D.bl false)) fun v1 => R.ok (Out.rt v1))
noncomputable def m_is_crossing := mS 2 2 b_is_crossing
noncomputable def b_read_number (env : DE) : R Out :=
  (seqO (R.bind (R.bind (slB 0 env) fun v3 => R.bind (asStr v3) fun v4 => R.bind (R.ok (D.int 0)) fun v5 => R.bind (asInt v5) fun v6 => R.ok (D.int (Option.getD (KTD.datumAt v4 tab_FIGURES) v6))) fun v2 => R.ok (Out.nx (List.set env 1 (Sl.val v2)))) fun v1 =>
  (seqO (R.bind (R.bind (slB 1 v1) fun v9 => R.bind (R.ok (D.int 0)) fun v10 => R.bind (R.of (kEq v9 v10)) asB) fun v8 => if v8 = true then (R.err "BadText" : R Out) else (R.ok (Out.nx v1))) fun v7 =>
  (R.bind (slV 1 v7) fun v11 => R.ok (Out.rt v11))))
noncomputable def mX_read_number := mSX 1 2 b_read_number
noncomputable def m_read_number := fun ds => R.ne (mX_read_number ds)
noncomputable def b__law_text_t1 (env : DE) : R Bool :=
  R.ok true
noncomputable def b__law_text_c2 (env : DE) : R D :=
  (R.bind (R.ok (D.str " ")) fun v16 => R.bind (R.bind (R.bind (slB 0 env) fun v19 => R.bind (R.ok []) fun v20 => R.ok (v19 :: v20)) fun v18 => R.of (kStrI v18)) fun v17 => R.of (kAddS v16 v17))
noncomputable def b__law_text (env : DE) : R Out :=
  (R.bind (R.bind (R.bind (R.bind (R.bind (slB 0 env) fun v7 => R.bind (R.ok []) fun v8 => R.ok (v7 :: v8)) fun v6 => R.of (kStrI v6)) fun v4 => R.bind (R.ok (D.str ":")) fun v5 => R.of (kAddS v4 v5)) fun v2 => R.bind (R.bind (R.ok (D.str "")) fun v9 => R.bind (asStr v9) fun v10 => R.bind (R.bind (R.bind (slV 1 env) asL) fun v12 => R.bind (capt env []) fun v13 => R.bind (R.ne (compD (bN 0) b__law_text_t1 b__law_text_c2 (cpE 1 v13) v12)) fit) fun v11 => R.of (kJoin v10 v11)) fun v3 => R.of (kAddS v2 v3)) fun v1 => R.ok (Out.rt v1))
noncomputable def m__law_text := mS 2 2 b__law_text
noncomputable def b__law_piece_of (env : DE) : R Out :=
  (seqO (R.bind (R.bind (R.bind (R.ok [D.str "12", D.str "0", D.str "-0", D.str "--1", D.str "-", D.str "+1", D.str "1-", D.str "1,", D.str "a", D.str "1\n", D.str "\n", D.str "10", D.str "-11", D.str "01", D.str "1.", D.str ":", D.str "1:", D.str "- 1"]) fit) fun v3 => R.ok (D.lst v3)) fun v2 => R.ok (Out.nx (List.set env 1 (Sl.val v2)))) fun v1 =>
  (R.bind (R.bind (slL 1 v1) fun v5 => R.bind (R.bind (slB 0 v1) fun v7 => R.bind (R.bind (R.bind (slB 1 v1) fun v10 => R.bind (R.ok []) fun v11 => R.ok (v10 :: v11)) fun v9 => R.of (kLen v9)) fun v8 => R.of (kMod v7 v8)) fun v6 => ixL v5 v6) fun v4 => R.ok (Out.rt v4)))
noncomputable def m__law_piece_of := mS 1 2 b__law_piece_of
noncomputable def b_checked_l1 (d : D) (env : DE) : R Out :=
  R.bind ((bN 2) d env) fun v12 =>
    (R.bind (R.bind (R.bind (R.bind (R.bind (slB 0 v12) fun v15 => R.bind (R.bind (slB 2 v12) fun v17 => R.bind (R.ok []) fun v18 => R.ok (v17 :: v18)) fun v16 => R.ok (v15 :: v16)) m_is_crossing) asB) fun v14 => R.ok (!v14)) fun v13 => if v13 = true then (R.err "NoWord" : R Out) else (R.ok (Out.nx v12)))
noncomputable def b_checked (env : DE) : R Out :=
  (seqO (R.bind (R.bind (R.bind (slB 0 env) fun v4 => R.bind (R.ok (D.int 1)) fun v5 => R.bind (R.of (kLt v4 v5)) asB) fun v3 => if v3 = true then R.ok true else (R.bind (slB 0 env) fun v6 => R.bind (R.ok (D.int 7)) fun v7 => R.bind (R.of (kGt v6 v7)) asB)) fun v2 => if v2 = true then (R.err "NoWord" : R Out) else (R.ok (Out.nx env))) fun v1 =>
  (seqO (R.bind (R.bind (slV 1 v1) asL) fun v9 => forD b_checked_l1 v9 v1) fun v8 =>
  (R.bind (R.ok (D.bl true)) fun v19 => R.ok (Out.rt v19))))
noncomputable def mX_checked := mSX 2 3 b_checked
noncomputable def m_checked := fun ds => R.ne (mX_checked ds)
noncomputable def b_read_crossing (env : DE) : R Out :=
  (seqO (R.bind (R.bind (R.bind (slB 0 env) fun v3 => R.bind (asStr v3) fun v4 => R.bind (R.ok (D.str "-")) fun v5 => R.bind (asStr v5) fun v6 => R.ok (D.bl (Txt.startswith v4 v6))) asB) fun v2 => if v2 = true then (R.bind (R.bind (R.bind (R.bind (R.bind (slB 0 env) fun v11 => R.bind (R.bind (R.ok (D.int 1)) asI) fun v12 => R.bind (R.ok none) fun v13 => R.of (kSlS v11 v12 v13)) fun v9 => R.bind (R.ok []) fun v10 => R.ok (v9 :: v10)) mX_read_number) fun v8 => R.of (kNeg v8)) fun v7 => R.ok (Out.rt v7)) else (R.ok (Out.nx env))) fun v1 =>
  (R.bind (R.bind (R.bind (slB 0 v1) fun v15 => R.bind (R.ok []) fun v16 => R.ok (v15 :: v16)) mX_read_number) fun v14 => R.ok (Out.rt v14)))
noncomputable def mX_read_crossing := mSX 1 1 b_read_crossing
noncomputable def m_read_crossing := fun ds => R.ne (mX_read_crossing ds)
noncomputable def b__law_bad_text_t1 (env : DE) : R Bool :=
  R.ok true
noncomputable def b__law_bad_text_c2 (env : DE) : R D :=
  (R.bind (R.bind (slB 0 env) fun v8 => R.bind (R.ok []) fun v9 => R.ok (v8 :: v9)) fun v7 => R.of (kStrI v7))
noncomputable def b__law_bad_text_t3 (env : DE) : R Bool :=
  R.ok true
noncomputable def b__law_bad_text_c4 (env : DE) : R D :=
  (R.bind (R.ok (D.str " ")) fun v111 => R.bind (slB 0 env) fun v112 => R.of (kAddS v111 v112))
noncomputable def b__law_bad_text_t5 (env : DE) : R Bool :=
  R.ok true
noncomputable def b__law_bad_text_c6 (env : DE) : R D :=
  (R.bind (R.ok (D.str " ")) fun v167 => R.bind (slB 0 env) fun v168 => R.of (kAddS v167 v168))
noncomputable def b__law_bad_text_t7 (env : DE) : R Bool :=
  R.ok true
noncomputable def b__law_bad_text_c8 (env : DE) : R D :=
  (R.bind (R.ok (D.str " ")) fun v185 => R.bind (slB 0 env) fun v186 => R.of (kAddS v185 v186))
noncomputable def b__law_bad_text_t9 (env : DE) : R Bool :=
  R.ok true
noncomputable def b__law_bad_text_c10 (env : DE) : R D :=
  (R.bind (R.ok (D.str " ")) fun v208 => R.bind (slB 0 env) fun v209 => R.of (kAddS v208 v209))
noncomputable def b__law_bad_text (env : DE) : R Out :=
  (seqO (R.bind (R.bind (R.bind (R.bind (slV 1 env) asL) fun v3 => R.bind (capt env []) fun v4 => R.bind (R.ne (compD (bN 0) b__law_bad_text_t1 b__law_bad_text_c2 (cpE 1 v4) v3)) fit) fun v2 => R.ok (Out.nx (List.set env 3 (Sl.own v2)))) (frzO 3)) fun v1 =>
  (seqO (R.bind (R.bind (R.bind (slB 2 v1) fun v14 => R.bind (R.ok (D.int 32)) fun v15 => R.of (kDiv v14 v15)) fun v12 => R.bind (R.bind (R.bind (R.bind (slB 3 v1) fun v19 => R.bind (R.ok []) fun v20 => R.ok (v19 :: v20)) fun v18 => R.of (kLen v18)) fun v16 => R.bind (R.ok (D.int 1)) fun v17 => R.of (kAddI v16 v17)) fun v13 => R.of (kMod v12 v13)) fun v11 => R.ok (Out.nx (List.set v1 4 (Sl.val v11)))) fun v10 =>
  (seqO (R.bind (R.bind (slB 2 v10) fun v23 => R.bind (R.ok (D.int 8)) fun v24 => R.of (kMod v23 v24)) fun v22 => R.ok (Out.nx (List.set v10 5 (Sl.val v22)))) fun v21 =>
  (seqO (R.bind (R.bind (R.bind (R.bind (slB 0 v21) fun v30 => R.bind (R.ok []) fun v31 => R.ok (v30 :: v31)) fun v29 => R.of (kStrI v29)) fun v27 => R.bind (R.ok (D.str ":")) fun v28 => R.of (kAddS v27 v28)) fun v26 => R.ok (Out.nx (List.set v21 6 (Sl.val v26)))) fun v25 =>
  (seqO (R.bind (R.bind (slB 5 v25) fun v34 => R.bind (R.ok (D.int 0)) fun v35 => R.bind (R.of (kEq v34 v35)) asB) fun v33 => if v33 = true then (seqO (R.bind (R.bind (R.bind (R.ok [D.str "", D.str " :", D.str ":", D.str "1:", D.str ":", D.str "::", D.str "", D.str "n:"]) fit) fun v38 => R.ok (D.lst v38)) fun v37 => R.ok (Out.nx (List.set v25 7 (Sl.val v37)))) fun v36 =>
  (R.bind (R.bind (R.bind (R.bind (R.bind (R.ok (D.str "")) fun v44 => R.bind (R.bind (R.bind (R.bind (slB 0 v36) fun v49 => R.bind (R.ok []) fun v50 => R.ok (v49 :: v50)) fun v48 => R.of (kStrI v48)) fun v46 => R.bind (R.bind (R.bind (R.ok (D.str "-")) fun v53 => R.bind (R.bind (R.bind (slB 0 v36) fun v56 => R.bind (R.ok []) fun v57 => R.ok (v56 :: v57)) fun v55 => R.of (kStrI v55)) fun v54 => R.of (kAddS v53 v54)) fun v51 => R.bind (R.ok []) fun v52 => R.ok (v51 :: v52)) fun v47 => R.ok (v46 :: v47)) fun v45 => R.ok (v44 :: v45)) fit) fun v42 => R.bind (R.bind (R.bind (R.ok [D.int 1, D.int 1, D.int 0, D.int 1, D.int 2, D.int 1, D.int 0, D.int 0]) fit) fun v58 => R.bind (R.bind (R.bind (slB 2 v36) fun v62 => R.bind (R.ok (D.int 8)) fun v63 => R.of (kDiv v62 v63)) fun v60 => R.bind (R.ok (D.int 8)) fun v61 => R.of (kMod v60 v61)) fun v59 => ixL v58 v59) fun v43 => ixL v42 v43) fun v40 => R.bind (R.bind (slL 7 v36) fun v64 => R.bind (R.bind (R.bind (slB 2 v36) fun v68 => R.bind (R.ok (D.int 8)) fun v69 => R.of (kDiv v68 v69)) fun v66 => R.bind (R.ok (D.int 8)) fun v67 => R.of (kMod v66 v67)) fun v65 => ixL v64 v65) fun v41 => R.of (kAddS v40 v41)) fun v39 => R.ok (Out.nx (List.set v36 6 (Sl.val v39))))) else (R.ok (Out.nx v25))) fun v32 =>
  (seqO (R.bind (R.bind (R.bind (slB 5 v32) fun v73 => R.bind (R.ok (D.int 1)) fun v74 => R.bind (R.of (kEq v73 v74)) asB) fun v72 => if v72 = true then R.ok true else (R.bind (slB 5 v32) fun v75 => R.bind (R.ok (D.int 2)) fun v76 => R.bind (R.of (kEq v75 v76)) asB)) fun v71 => if v71 = true then (R.bind (R.bind (R.bind (R.bind (R.bind (slL 3 v32) fun v83 => R.bind (R.ok none) fun v84 => R.bind (R.bind (slB 4 v32) asI) fun v85 => R.ok (cut v83 v84 v85)) fun v81 => R.bind (R.bind (R.bind (R.bind (R.bind (R.bind (slB 2 v32) fun v90 => R.bind (R.ok (D.int 8)) fun v91 => R.of (kDiv v90 v91)) fun v88 => R.bind (R.ok []) fun v89 => R.ok (v88 :: v89)) m__law_piece_of) fun v86 => R.bind (R.ok []) fun v87 => R.ok (v86 :: v87)) fit) fun v82 => fit (v81 ++ v82)) fun v79 => R.bind (R.bind (slL 3 v32) fun v92 => R.bind (R.bind (slB 4 v32) asI) fun v93 => R.bind (R.ok none) fun v94 => R.ok (cut v92 v93 v94)) fun v80 => fit (v79 ++ v80)) fun v78 => R.ok (D.lst v78)) fun v77 => R.ok (Out.nx (List.set v32 3 (Sl.val v77)))) else (R.ok (Out.nx v32))) fun v70 =>
  (seqO (R.bind (R.bind (slB 5 v70) fun v97 => R.bind (R.ok (D.int 3)) fun v98 => R.bind (R.of (kEq v97 v98)) asB) fun v96 => if v96 = true then (R.bind (R.bind (R.bind (slB 6 v70) fun v102 => R.bind (R.ok (D.str "1")) fun v103 => R.of (kAddS v102 v103)) fun v100 => R.bind (R.bind (R.ok (D.str "")) fun v104 => R.bind (asStr v104) fun v105 => R.bind (R.bind (R.bind (slV 3 v70) asL) fun v107 => R.bind (capt v70 []) fun v108 => R.bind (R.ne (compD (bN 0) b__law_bad_text_t3 b__law_bad_text_c4 (cpE 1 v108) v107)) fit) fun v106 => R.of (kJoin v105 v106)) fun v101 => R.of (kAddS v100 v101)) fun v99 => R.ok (Out.rt v99)) else (R.ok (Out.nx v70))) fun v95 =>
  (seqO (R.bind (R.bind (slB 5 v95) fun v115 => R.bind (R.ok (D.int 4)) fun v116 => R.bind (R.of (kEq v115 v116)) asB) fun v114 => if v114 = true then (seqO (R.bind (R.bind (R.bind (R.bind (R.bind (slL 3 v95) fun v124 => R.bind (R.ok none) fun v125 => R.bind (R.bind (slB 4 v95) asI) fun v126 => R.ok (cut v124 v125 v126)) fun v122 => R.bind (R.bind (R.bind (R.bind (R.bind (R.bind (slB 2 v95) fun v131 => R.bind (R.ok (D.int 8)) fun v132 => R.of (kDiv v131 v132)) fun v129 => R.bind (R.ok []) fun v130 => R.ok (v129 :: v130)) m__law_piece_of) fun v127 => R.bind (R.ok []) fun v128 => R.ok (v127 :: v128)) fit) fun v123 => fit (v122 ++ v123)) fun v120 => R.bind (R.bind (slL 3 v95) fun v133 => R.bind (R.bind (R.bind (slB 4 v95) fun v136 => R.bind (R.ok (D.int 1)) fun v137 => R.of (kAddI v136 v137)) asI) fun v134 => R.bind (R.ok none) fun v135 => R.ok (cut v133 v134 v135)) fun v121 => fit (v120 ++ v121)) fun v119 => R.ok (D.lst v119)) fun v118 => R.ok (Out.nx (List.set v95 3 (Sl.val v118)))) fun v117 =>
  (R.bind (R.bind (R.bind (R.bind (R.ok (D.str "0:")) fun v141 => R.bind (R.bind (R.ok (D.str "8:")) fun v143 => R.bind (R.bind (R.ok (D.str "9:")) fun v145 => R.bind (R.ok []) fun v146 => R.ok (v145 :: v146)) fun v144 => R.ok (v143 :: v144)) fun v142 => R.ok (v141 :: v142)) fit) fun v139 => R.bind (R.bind (R.bind (slB 2 v117) fun v149 => R.bind (R.ok (D.int 16)) fun v150 => R.of (kDiv v149 v150)) fun v147 => R.bind (R.ok (D.int 3)) fun v148 => R.of (kMod v147 v148)) fun v140 => ixL v139 v140) fun v138 => R.ok (Out.nx (List.set v117 6 (Sl.val v138))))) else (R.ok (Out.nx v95))) fun v113 =>
  (seqO (R.bind (R.bind (slB 5 v113) fun v153 => R.bind (R.ok (D.int 5)) fun v154 => R.bind (R.of (kEq v153 v154)) asB) fun v152 => if v152 = true then (R.bind (R.bind (R.bind (R.ok (D.str "\n")) fun v158 => R.bind (slB 6 v113) fun v159 => R.of (kAddS v158 v159)) fun v156 => R.bind (R.bind (R.ok (D.str "")) fun v160 => R.bind (asStr v160) fun v161 => R.bind (R.bind (R.bind (slV 3 v113) asL) fun v163 => R.bind (capt v113 []) fun v164 => R.bind (R.ne (compD (bN 0) b__law_bad_text_t5 b__law_bad_text_c6 (cpE 1 v164) v163)) fit) fun v162 => R.of (kJoin v161 v162)) fun v157 => R.of (kAddS v156 v157)) fun v155 => R.ok (Out.rt v155)) else (R.ok (Out.nx v113))) fun v151 =>
  (seqO (R.bind (R.bind (slB 5 v151) fun v171 => R.bind (R.ok (D.int 6)) fun v172 => R.bind (R.of (kEq v171 v172)) asB) fun v170 => if v170 = true then (R.bind (R.bind (R.bind (slB 6 v151) fun v176 => R.bind (R.bind (R.ok (D.str "")) fun v178 => R.bind (asStr v178) fun v179 => R.bind (R.bind (R.bind (slV 3 v151) asL) fun v181 => R.bind (capt v151 []) fun v182 => R.bind (R.ne (compD (bN 0) b__law_bad_text_t7 b__law_bad_text_c8 (cpE 1 v182) v181)) fit) fun v180 => R.of (kJoin v179 v180)) fun v177 => R.of (kAddS v176 v177)) fun v174 => R.bind (R.ok (D.str "\n")) fun v175 => R.of (kAddS v174 v175)) fun v173 => R.ok (Out.rt v173)) else (R.ok (Out.nx v151))) fun v169 =>
  (seqO (R.bind (R.bind (slB 5 v169) fun v189 => R.bind (R.ok (D.int 7)) fun v190 => R.bind (R.of (kEq v189 v190)) asB) fun v188 => if v188 = true then (R.bind (R.bind (R.bind (R.ok [D.str "", D.str " ", D.str "4", D.str "1 :", D.str "\n", D.str ": 1"]) fit) fun v192 => R.bind (R.bind (R.bind (slB 2 v169) fun v196 => R.bind (R.ok (D.int 8)) fun v197 => R.of (kDiv v196 v197)) fun v194 => R.bind (R.ok (D.int 6)) fun v195 => R.of (kMod v194 v195)) fun v193 => ixL v192 v193) fun v191 => R.ok (Out.rt v191)) else (R.ok (Out.nx v169))) fun v187 =>
  (R.bind (R.bind (slB 6 v187) fun v199 => R.bind (R.bind (R.ok (D.str "")) fun v201 => R.bind (asStr v201) fun v202 => R.bind (R.bind (R.bind (slV 3 v187) asL) fun v204 => R.bind (capt v187 []) fun v205 => R.bind (R.ne (compD (bN 0) b__law_bad_text_t9 b__law_bad_text_c10 (cpE 1 v205) v204)) fit) fun v203 => R.of (kJoin v202 v203)) fun v200 => R.of (kAddS v199 v200)) fun v198 => R.ok (Out.rt v198)))))))))))))
noncomputable def m__law_bad_text := mS 3 8 b__law_bad_text
noncomputable def b__law_no_word_t1 (env : DE) : R Bool :=
  R.ok true
noncomputable def b__law_no_word_c2 (env : DE) : R D :=
  (R.bind (R.bind (slB 0 env) fun v47 => R.bind (R.ok []) fun v48 => R.ok (v47 :: v48)) fun v46 => R.of (kAbs v46))
noncomputable def b__law_no_word (env : DE) : R Out :=
  (seqO (R.bind (R.bind (R.bind (slB 2 env) fun v5 => R.bind (R.ok (D.int 32)) fun v6 => R.of (kDiv v5 v6)) fun v3 => R.bind (R.bind (R.bind (R.bind (slB 1 env) fun v10 => R.bind (R.ok []) fun v11 => R.ok (v10 :: v11)) fun v9 => R.of (kLen v9)) fun v7 => R.bind (R.ok (D.int 1)) fun v8 => R.of (kAddI v7 v8)) fun v4 => R.of (kMod v3 v4)) fun v2 => R.ok (Out.nx (List.set env 3 (Sl.val v2)))) fun v1 =>
  (seqO (R.bind (R.bind (R.bind (slB 2 v1) fun v16 => R.bind (R.ok (D.int 3)) fun v17 => R.of (kMod v16 v17)) fun v14 => R.bind (R.ok (D.int 0)) fun v15 => R.bind (R.of (kEq v14 v15)) asB) fun v13 => if v13 = true then (R.bind (R.bind (R.bind (R.bind (R.bind (R.bind (R.ok (D.int 0)) fun v23 => R.bind (R.bind (R.ok (D.int 8)) fun v25 => R.bind (R.bind (R.ok (D.int 9)) fun v27 => R.bind (R.ok []) fun v28 => R.ok (v27 :: v28)) fun v26 => R.ok (v25 :: v26)) fun v24 => R.ok (v23 :: v24)) fit) fun v21 => R.bind (R.bind (R.bind (slB 2 v1) fun v31 => R.bind (R.ok (D.int 3)) fun v32 => R.of (kDiv v31 v32)) fun v29 => R.bind (R.ok (D.int 3)) fun v30 => R.of (kMod v29 v30)) fun v22 => ixL v21 v22) fun v19 => R.bind (R.bind (slB 1 v1) fun v33 => R.bind (R.ok []) fun v34 => R.ok (v33 :: v34)) fun v20 => R.ok (v19 :: v20)) m__law_text) fun v18 => R.ok (Out.rt v18)) else (R.ok (Out.nx v1))) fun v12 =>
  (seqO (R.bind (R.bind (R.bind (R.bind (R.bind (R.ok (D.int 0)) fun v40 => R.bind (R.ok []) fun v41 => R.ok (v40 :: v41)) fit) fun v38 => R.bind (R.bind (R.bind (slV 1 v12) asL) fun v42 => R.bind (capt v12 []) fun v43 => R.bind (R.ne (compD (bN 0) b__law_no_word_t1 b__law_no_word_c2 (cpE 1 v43) v42)) fit) fun v39 => fit (v38 ++ v39)) fun v37 => R.of (kMaxL v37)) fun v36 => R.ok (Out.nx (List.set v12 4 (Sl.val v36)))) fun v35 =>
  (seqO (R.bind (R.bind (R.bind (R.bind (slB 2 v35) fun v54 => R.bind (R.ok (D.int 3)) fun v55 => R.of (kMod v54 v55)) fun v52 => R.bind (R.ok (D.int 1)) fun v53 => R.bind (R.of (kEq v52 v53)) asB) fun v51 => if v51 = true then (R.bind (slB 4 v35) fun v56 => R.bind (R.ok (D.int 0)) fun v57 => R.bind (R.of (kGt v56 v57)) asB) else R.ok false) fun v50 => if v50 = true then (R.bind (R.bind (R.bind (R.bind (R.ok (D.int 1)) fun v61 => R.bind (R.bind (R.bind (slB 2 v35) fun v65 => R.bind (R.ok (D.int 3)) fun v66 => R.of (kDiv v65 v66)) fun v63 => R.bind (slB 4 v35) fun v64 => R.of (kMod v63 v64)) fun v62 => R.of (kAddI v61 v62)) fun v59 => R.bind (R.bind (slB 1 v35) fun v67 => R.bind (R.ok []) fun v68 => R.ok (v67 :: v68)) fun v60 => R.ok (v59 :: v60)) m__law_text) fun v58 => R.ok (Out.rt v58)) else (R.ok (Out.nx v35))) fun v49 =>
  (seqO (R.bind (R.bind (slB 0 v49) fun v71 => R.bind (R.bind (R.bind (slB 2 v49) fun v75 => R.bind (R.ok (D.int 3)) fun v76 => R.of (kDiv v75 v76)) fun v73 => R.bind (R.bind (R.ok (D.int 10)) fun v77 => R.bind (slB 0 v49) fun v78 => R.of (kSub v77 v78)) fun v74 => R.of (kMod v73 v74)) fun v72 => R.of (kAddI v71 v72)) fun v70 => R.ok (Out.nx (List.set v49 5 (Sl.val v70)))) fun v69 =>
  (R.bind (R.bind (R.bind (slB 0 v69) fun v80 => R.bind (R.bind (R.bind (R.bind (R.bind (R.bind (slL 1 v69) fun v89 => R.bind (R.ok none) fun v90 => R.bind (R.bind (slB 3 v69) asI) fun v91 => R.ok (cut v89 v90 v91)) fun v87 => R.bind (R.bind (R.bind (R.bind (R.bind (R.bind (slV 5 v69) fun v96 => R.bind (R.bind (R.bind (slB 5 v69) fun v100 => R.of (kNeg v100)) fun v98 => R.bind (R.ok []) fun v99 => R.ok (v98 :: v99)) fun v97 => R.ok (v96 :: v97)) fit) fun v94 => R.bind (R.bind (R.bind (slB 2 v69) fun v103 => R.bind (R.ok (D.int 300)) fun v104 => R.of (kDiv v103 v104)) fun v101 => R.bind (R.ok (D.int 2)) fun v102 => R.of (kMod v101 v102)) fun v95 => ixL v94 v95) fun v92 => R.bind (R.ok []) fun v93 => R.ok (v92 :: v93)) fit) fun v88 => fit (v87 ++ v88)) fun v85 => R.bind (R.bind (slL 1 v69) fun v105 => R.bind (R.bind (slB 3 v69) asI) fun v106 => R.bind (R.ok none) fun v107 => R.ok (cut v105 v106 v107)) fun v86 => fit (v85 ++ v86)) fun v84 => R.ok (D.lst v84)) fun v82 => R.bind (R.ok []) fun v83 => R.ok (v82 :: v83)) fun v81 => R.ok (v80 :: v81)) m__law_text) fun v79 => R.ok (Out.rt v79)))))))
noncomputable def m__law_no_word := mS 3 6 b__law_no_word
noncomputable def b_read_crossings_t1 (env : DE) : R Bool :=
  (R.bind (slB 0 env) fun v15 => R.bind (R.ok (D.str "")) fun v16 => R.bind (R.of (kNe v15 v16)) asB)
noncomputable def b_read_crossings_cX2 (env : DE) : R D :=
  (R.bind (R.bind (slB 0 env) fun v17 => R.bind (R.ok []) fun v18 => R.ok (v17 :: v18)) mX_read_crossing)
noncomputable def b_read_crossings (env : DE) : R Out :=
  (seqO (R.bind (R.bind (R.bind (slB 0 env) fun v4 => R.bind (R.ok (D.str "")) fun v5 => R.bind (R.of (kNe v4 v5)) asB) fun v3 => if v3 = true then (R.bind (R.bind (R.bind (slB 0 env) fun v7 => R.bind (asStr v7) fun v8 => R.bind (R.ok (D.str " ")) fun v9 => R.bind (asStr v9) fun v10 => R.ok (D.bl (Txt.startswith v8 v10))) asB) fun v6 => R.ok (!v6)) else R.ok false) fun v2 => if v2 = true then (R.err "BadText" : R Out) else (R.ok (Out.nx env))) fun v1 =>
  (R.bind (R.bind (R.bind (R.bind (R.bind (slB 0 v1) fun v20 => R.bind (asStr v20) fun v21 => R.bind (R.ok (D.str " ")) fun v22 => R.bind (asStr v22) fun v23 => R.of (kSplit v21 v23)) fun v19 => R.ok (D.lst v19)) asL) fun v12 => R.bind (capt v1 []) fun v13 => R.bind (fit v12) fun v14 => R.bind (compD (fun d e => R.ne ((bN 0) d e)) (fun e => R.ne (b_read_crossings_t1 e)) b_read_crossings_cX2 (cpE 1 v13) v14) fit) fun v11 => R.ok (Out.rtF v11)))
noncomputable def mX_read_crossings := mFSX 1 1 b_read_crossings
noncomputable def m_read_crossings := fun ds => R.ne (mX_read_crossings ds)
noncomputable def b_read_text (env : DE) : R Out :=
  (seqO (R.bind (R.bind (R.bind (slB 0 env) fun v7 => R.bind (asStr v7) fun v8 => R.bind (R.ok (D.str " ")) fun v9 => R.of (kStrip v8 v9)) fun v3 => R.bind (asStr v3) fun v4 => R.bind (R.ok (D.str ":")) fun v5 => R.bind (asStr v5) fun v6 => R.of (kPart v4 v6)) fun v2 => R.ok (Out.nx (List.set env 1 (Sl.val v2)))) fun v1 =>
  (seqO (R.bind (R.bind (R.bind (R.bind (slV 1 v1) fun v15 => R.bind (R.ok (D.int 1)) fun v16 => ixD v15 v16) fun v13 => R.bind (R.ok (D.str "")) fun v14 => R.bind (R.of (kEq v13 v14)) asB) fun v12 => if v12 = true then R.ok true else (R.bind (R.bind (slV 1 v1) fun v19 => R.bind (R.ok (D.int 0)) fun v20 => ixD v19 v20) fun v17 => R.bind (asStr v17) fun v18 => R.ok (!Option.isSome (KTD.datumAt v18 tab_FIGURES)))) fun v11 => if v11 = true then (R.err "BadText" : R Out) else (R.ok (Out.nx v1))) fun v10 =>
  (seqO (R.bind (R.bind (R.bind (slV 1 v10) fun v25 => R.bind (R.ok (D.int 0)) fun v26 => ixD v25 v26) fun v23 => R.bind (asStr v23) fun v24 => figAt tab_FIGURES v24) fun v22 => R.ok (Out.nx (List.set v10 2 (Sl.val v22)))) fun v21 =>
  (seqO (R.bind (R.bind (R.bind (R.bind (R.bind (slV 1 v21) fun v32 => R.bind (R.ok (D.int 2)) fun v33 => ixD v32 v33) fun v30 => R.bind (R.ok []) fun v31 => R.ok (v30 :: v31)) mX_read_crossings) fun v29 => R.ok (D.lst v29)) fun v28 => R.ok (Out.nx (List.set v21 3 (Sl.val v28)))) fun v27 =>
  (seqO (R.bind (R.bind (R.bind (slB 2 v27) fun v36 => R.bind (R.bind (slB 3 v27) fun v38 => R.bind (R.ok []) fun v39 => R.ok (v38 :: v39)) fun v37 => R.ok (v36 :: v37)) mX_checked) fun v35 => R.ok (Out.nx v27)) fun v34 =>
  (R.bind (R.bind (R.bind (R.bind (slV 2 v34) fun v41 => R.bind (R.bind (slV 3 v34) fun v43 => R.bind (R.ok []) fun v44 => R.ok (v43 :: v44)) fun v42 => R.ok (v41 :: v42)) fit) fun ds => R.ok (D.tup ds)) fun v40 => R.ok (Out.rt v40)))))))
noncomputable def mX_read_text := mDX 1 4 b_read_text
noncomputable def m_read_text := fun ds => R.ne (mX_read_text ds)
noncomputable def b__law_refused_y1 (env : DE) : R Out :=
  (R.bind (R.ne (R.bind (slB 0 env) fun v5 => R.bind (R.ok []) fun v6 => R.ok (v5 :: v6))) fun v4 => R.bind (mX_read_text v4) fun _ => R.ok (Out.nx env))
noncomputable def b__law_refused_z2 (env : DE) : R Out :=
  (R.bind (slV 3 env) fun v7 => R.ok (Out.nx (List.set env 2 (Sl.val v7))))
noncomputable def b__law_refused (env : DE) : R Out :=
  (seqO (R.bind (R.ok D.non) fun v2 => R.ok (Out.nx (List.set env 2 (Sl.val v2)))) fun v1 =>
  (seqO (tryD 3 ["BadText", "NoWord"] b__law_refused_y1 b__law_refused_z2 v1) fun v3 =>
  (seqO (R.bind (R.bind (R.bind (R.bind (R.bind (slB 2 v3) fun v12 => isX ["BadText", "NoWord"] ["ValueError"] v12) asB) fun v11 => R.ok (!v11)) fun v10 => if v10 = true then R.ok true else (R.bind (R.bind (R.bind (slB 2 v3) fun v16 => isX ["BadText", "NoWord"] ["BadText"] v16) fun v14 => R.bind (slB 1 v3) fun v15 => R.bind (R.of (kNe v14 v15)) asB) fun v13 => if v13 = true then R.ok true else (R.bind (R.bind (slB 2 v3) fun v19 => isX ["BadText", "NoWord"] ["NoWord"] v19) fun v17 => R.bind (slB 1 v3) fun v18 => R.bind (R.of (kEq v17 v18)) asB))) fun v9 => if v9 = true then (R.bind (R.ok (D.bl false)) fun v20 => R.ok (Out.rt v20)) else (R.ok (Out.nx v3))) fun v8 =>
  (R.bind (R.bind (R.bind (slB 2 v8) fun v23 => isX ["BadText", "NoWord"] ["BadPicture", "NoForm", "NoMove", "NoRow", "NoString", "TooMany", "Unlike"] v23) fun v22 => R.bind (asB v22) fun t => R.ok (D.bl (!t))) fun v21 => R.ok (Out.rt v21)))))
noncomputable def m__law_refused := mS 2 4 b__law_refused
noncomputable def b_law_l1 (d : D) (env : DE) : R Out :=
  R.bind ((bT 2 (bCons (bN 5) (bCons (bN 6) bNil))) d env) fun v44 =>
    (seqO (R.bind (R.bind (R.bind (slB 6 v44) fun v47 => R.bind (R.bind (slB 5 v44) fun v49 => R.bind (R.bind (R.ok (D.int 16807)) fun v51 => R.bind (R.ok []) fun v52 => R.ok (v51 :: v52)) fun v50 => R.ok (v49 :: v50)) fun v48 => R.ok (v47 :: v48)) m__law_mix) fun v46 => R.ok (Out.nx (List.set v44 7 (Sl.val v46)))) fun v45 =>
  (seqO (R.bind (R.bind (R.bind (R.bind (R.bind (R.bind (R.bind (slB 2 v45) fun v58 => R.bind (R.bind (slB 3 v45) fun v60 => R.bind (R.bind (slB 7 v45) fun v62 => R.bind (R.ok []) fun v63 => R.ok (v62 :: v63)) fun v61 => R.ok (v60 :: v61)) fun v59 => R.ok (v58 :: v59)) m__law_bad_text) fun v56 => R.bind (R.bind (R.ok (D.bl true)) fun v64 => R.bind (R.ok []) fun v65 => R.ok (v64 :: v65)) fun v57 => R.ok (v56 :: v57)) m__law_refused) asB) fun v55 => R.ok (!v55)) fun v54 => if v54 = true then (R.bind (R.ok (D.bl false)) fun v66 => R.ok (Out.rt v66)) else (R.ok (Out.nx v45))) fun v53 =>
  (R.bind (R.bind (R.bind (R.bind (R.bind (R.bind (R.bind (slB 2 v53) fun v71 => R.bind (R.bind (slB 3 v53) fun v73 => R.bind (R.bind (R.bind (slB 7 v53) fun v77 => R.bind (R.ok (D.int 7)) fun v78 => R.of (kDiv v77 v78)) fun v75 => R.bind (R.ok []) fun v76 => R.ok (v75 :: v76)) fun v74 => R.ok (v73 :: v74)) fun v72 => R.ok (v71 :: v72)) m__law_no_word) fun v69 => R.bind (R.bind (R.ok (D.bl false)) fun v79 => R.bind (R.ok []) fun v80 => R.ok (v79 :: v80)) fun v70 => R.ok (v69 :: v70)) m__law_refused) asB) fun v68 => R.ok (!v68)) fun v67 => if v67 = true then (R.bind (R.ok (D.bl false)) fun v81 => R.ok (Out.rt v81)) else (R.ok (Out.nx v53)))))
noncomputable def b_law (env : DE) : R Out :=
  (seqO (R.bind (R.bind (R.bind (R.bind (slL 0 env) fun v7 => R.bind (R.bind (R.bind (R.ok (D.int 0)) fun v9 => R.bind (R.ok []) fun v10 => R.ok (v9 :: v10)) fit) fun v8 => fit (v7 ++ v8)) fun v5 => R.bind (R.ok (D.int 0)) fun v6 => ixL v5 v6) fun v3 => R.bind (R.bind (R.ok (D.int 10)) fun v11 => R.bind (R.ok (D.int 9)) fun v12 => R.of (kPow v11 v12)) fun v4 => R.of (kMod v3 v4)) fun v2 => R.ok (Out.nx (List.set env 1 (Sl.val v2)))) fun v1 =>
  (seqO (R.bind (R.bind (R.bind (slB 1 v1) fun v15 => R.bind (R.bind (R.ok (D.int 1)) fun v17 => R.bind (R.bind (R.ok (D.int 7)) fun v19 => R.bind (R.ok []) fun v20 => R.ok (v19 :: v20)) fun v18 => R.ok (v17 :: v18)) fun v16 => R.ok (v15 :: v16)) m__law_strings) fun v14 => R.ok (Out.nx (List.set v1 2 (Sl.val v14)))) fun v13 =>
  (seqO (R.bind (R.bind (R.bind (R.bind (R.bind (R.bind (slL 0 v13) fun v27 => R.bind (R.ok none) fun v28 => R.bind (R.bind (R.ok (D.int 30)) asI) fun v29 => R.ok (cut v27 v28 v29)) fun v26 => R.ok (D.lst v26)) fun v24 => R.bind (R.bind (slV 2 v13) fun v30 => R.bind (R.bind (R.ok (D.int 60)) fun v32 => R.bind (R.ok []) fun v33 => R.ok (v32 :: v33)) fun v31 => R.ok (v30 :: v31)) fun v25 => R.ok (v24 :: v25)) m__law_drawn) fun v23 => R.ok (D.lst v23)) fun v22 => R.ok (Out.nx (List.set v13 3 (Sl.val v22)))) fun v21 =>
  (seqO (R.bind (R.bind (R.bind (slB 2 v21) fun v36 => R.bind (R.bind (slB 3 v21) fun v38 => R.bind (R.ok []) fun v39 => R.ok (v38 :: v39)) fun v37 => R.ok (v36 :: v37)) m__law_text) fun v35 => R.ok (Out.nx (List.set v21 4 (Sl.val v35)))) fun v34 =>
  (seqO (R.bind (R.bind (R.bind (R.bind (R.bind (R.bind (slV 1 v34) fun v86 => R.bind (R.ok []) fun v87 => R.ok (v86 :: v87)) fit) fun v84 => R.bind (R.bind (slL 0 v34) fun v88 => R.bind (R.bind (R.ok (D.int 1)) asI) fun v89 => R.bind (R.bind (R.ok (D.int 30)) asI) fun v90 => R.ok (cut v88 v89 v90)) fun v85 => fit (v84 ++ v85)) fun v83 => R.ok (D.lst v83)) fun v82 => R.bind (asL v82) fun xs => R.ok (enumL xs)) fun v41 => forD b_law_l1 v41 v34) fun v40 =>
  (R.bind (R.bind (R.bind (R.bind (slV 4 v40) fun v94 => R.bind (R.ok []) fun v95 => R.ok (v94 :: v95)) m_read_text) fun v92 => R.bind (R.bind (R.bind (R.bind (slV 2 v40) fun v96 => R.bind (R.bind (slV 3 v40) fun v98 => R.bind (R.ok []) fun v99 => R.ok (v98 :: v99)) fun v97 => R.ok (v96 :: v97)) fit) fun ds => R.ok (D.tup ds)) fun v93 => R.of (kEq v92 v93)) fun v91 => R.ok (Out.rt v91)))))))
noncomputable def m_law := mS 1 8 b_law
end DL

namespace DL
open PySem PySem.Spec PyProof.Rows L2

theorem seqO_err (c : Str) (k : DE → R Out) : seqO (.err c) k = .err c := rfl

def fig (k : Int) : Str := (toString k : String)
def chkF (k : Int) : Bool := decide ((fig k).length ≤ 2) && decide (tl (fig k) ≠ []) && decide (32 ∉ tl (fig k)) && decide (58 ∉ tl (fig k))
  && (if 1 ≤ k then decide (KTD.datumAt (fig k) tab_FIGURES = some k) && !Txt.startswith (fig k) "-" else true)
  && (if k ≤ -1 then decide (KTD.datumAt (Txt.slice (fig k) (some 1) none) tab_FIGURES = some (-k)) && Txt.startswith (fig k) "-" else true)
  && decide (tl (fig k) = if k < 0 then [45, (48 - k).toNat] else [(48 + k).toNat])
theorem chkF_ok : ∀ i : Nat, i < 19 → chkF ((i : Int) - 9) = true := by decide +kernel
theorem fig_all {k : Int} (h : -9 ≤ k ∧ k ≤ 9) : chkF k = true := by
  have := chkF_ok (k + 9).toNat (by omega)
  rw [show (((k + 9).toNat : Nat) : Int) - 9 = k by omega] at this
  exact this
theorem fig_facts {k : Int} (h : -9 ≤ k ∧ k ≤ 9) : (fig k).length ≤ 2 ∧ tl (fig k) ≠ [] ∧ 32 ∉ tl (fig k) ∧ 58 ∉ tl (fig k) ∧ tl (fig k) = if k < 0 then [45, (48 - k).toNat] else [(48 + k).toNat] := by
  have := fig_all h
  unfold chkF at this
  simp -implicitDefEqProofs only [Bool.and_eq_true, decide_eq_true_eq] at this
  exact ⟨this.1.1.1.1.1.1, this.1.1.1.1.1.2, this.1.1.1.1.2, this.1.1.1.2, this.2⟩
theorem fig_pos {k : Int} (h : 1 ≤ k ∧ k ≤ 9) : KTD.datumAt (fig k) tab_FIGURES = some k ∧ Txt.startswith (fig k) "-" = false := by
  have := fig_all (k := k) (by omega)
  unfold chkF at this
  rw [if_pos h.1] at this
  simp -implicitDefEqProofs only [Bool.and_eq_true, decide_eq_true_eq, Bool.not_eq_true'] at this
  exact this.1.1.2
theorem fig_neg {k : Int} (h : -9 ≤ k ∧ k ≤ -1) : KTD.datumAt (Txt.slice (fig k) (some 1) none) tab_FIGURES = some (-k) ∧ Txt.startswith (fig k) "-" = true := by
  have := fig_all (k := k) (by omega)
  unfold chkF at this
  rw [if_pos h.2] at this
  simp -implicitDefEqProofs only [Bool.and_eq_true, decide_eq_true_eq] at this
  exact this.1.2
theorem kStrI_i {i : Int} (h : -1000 < i ∧ i < 1000) : kStrI [.int i] = some (.str (fig i)) := by
  have : i.natAbs.log2 < 1920 := Nat.lt_of_le_of_lt (Nat.log2_le_self _) (by omega)
  exact if_pos this
theorem asStr_s (x : Str) : asStr (.str x) = .ok x := rfl
theorem asInt_i (i : Int) : asInt (.int i) = .ok i := rfl
theorem kAddS_s {i j : Str} (h : i.length + j.length ≤ 1000000) : kAddS (.str i) (.str j) = some (.str (i ++ j)) := if_pos (big h)
theorem kStrip_s {i j : Str} (h : i.length ≤ 1000000) : kStrip i (.str j) = some (.str (Txt.stripChars i j)) := if_pos (big h)
theorem kJoin_s {sep : Str} {ys : List Str} (h : (List.map (fun y => Str.length y) ys).sum + ys.length * sep.length ≤ 16777216) : kJoin sep (ys.map D.str) = some (.str (Txt.join sep ys)) := by
  unfold kJoin
  rw [toS_of]
  exact if_pos h
theorem kSplit_1 {i : Str} {c : Nat} (h : i.length ≤ 100000) : kSplit i ⟨#[c]⟩ = some ((spl c (tl i)).map fun p => D.str (ofT p)) := by
  have hl : (Txt.split i ⟨#[c]⟩).length ≤ 1000000 := by
    rw [split_of, List.length_map]
    have := spl_len c (tl i)
    rw [tl_len] at this
    omega
  refine (if_pos ⟨rfl, big (by omega), big hl⟩).trans ?_
  rw [split_of, List.map_map]
  rfl
theorem kPart_1 {i : Str} {c : Nat} (h : i.length ≤ 1000000) : kPart i ⟨#[c]⟩ = some (.tup [.str (Txt.partition i ⟨#[c]⟩).1, .str (Txt.partition i ⟨#[c]⟩).2.1, .str (Txt.partition i ⟨#[c]⟩).2.2]) := if_pos ⟨rfl, big h⟩
theorem kSlS_s {x : Str} (h : x.length ≤ 1000000) (l u : Option Int) : kSlS (.str x) l u = some (.str (Txt.slice x l u)) := if_pos (big h)
def body (ps : List (Nat × Int)) : List Nat := (ps.map fun p => List.replicate (p.1 + 1) 32 ++ tl (fig p.2)).flatten
theorem body_cons (p : Nat × Int) (ps : List (Nat × Int)) : body (p :: ps) = List.replicate (p.1 + 1) 32 ++ (tl (fig p.2) ++ body ps) := by
  unfold body
  rw [List.map_cons, List.flatten_cons, List.append_assoc]
def Fg (w : List Int) : Prop := ∀ k ∈ w, -9 ≤ k ∧ k ≤ 9
def shp (a e : Nat) (n : Int) (ps : List (Nat × Int)) : List Nat := List.replicate a 32 ++ ((tl (fig n) ++ 58 :: body ps) ++ List.replicate e 32)
theorem body_len : ∀ ps : List (Nat × Int), Fg (ps.map (·.2)) → (∀ p ∈ ps, p.1 ≤ 3) → (body ps).length ≤ 6 * ps.length
  | [], _, _ => by simp [body]
  | p :: ps, h, hb => by
    obtain ⟨f1, _⟩ := fig_facts (h p.2 (by simp))
    have ih := body_len ps (fun k hk => h k (by simp at hk ⊢; exact .inr hk)) fun q hq => hb q (by simp [hq])
    have := hb p (by simp)
    rw [body_cons, List.length_append, List.length_append, List.length_replicate, List.length_cons, tl_len]
    omega
def txt (n : Int) (w : List Int) : Str := fig n ++ ":" ++ Txt.join "" (w.map fun k => " " ++ fig k)
theorem txt_tl (n : Int) (w : List Int) : tl (txt n w) = shp 0 0 n (w.map fun k => (0, k)) := by
  unfold txt shp body
  rw [tl_app, tl_app, tl_Join0, List.map_map, List.map_map]
  have e : ∀ k : Int, tl (" " ++ fig k) = List.replicate (0 + 1) 32 ++ tl (fig k) := fun k => by rw [tl_app]; rfl
  show tl (fig n) ++ [58] ++ (w.map fun k => tl (" " ++ fig k)).flatten = _
  simp -implicitDefEqProofs only [e]
  simp [Function.comp_def]
theorem app_len (a b : Str) : (a ++ b).length = a.length + b.length := strLen_append a b
theorem sum_le {B : Nat} : ∀ (ys : List Str), (∀ y ∈ ys, y.length ≤ B) → (List.map (fun y => Str.length y) ys).sum ≤ ys.length * B
  | [], _ => by simp
  | y :: ys, h => by
    have ih := sum_le ys fun z hz => h z (by simp [hz])
    have := h y (by simp)
    rw [List.map_cons, List.sum_cons, List.length_cons, Nat.succ_mul]
    omega
theorem shp_len (a e : Nat) {n : Int} (hn : -9 ≤ n ∧ n ≤ 9) (ps : List (Nat × Int)) (h : Fg (ps.map (·.2))) (hb : ∀ p ∈ ps, p.1 ≤ 3) : (shp a e n ps).length ≤ a + e + 3 + 6 * ps.length := by
  obtain ⟨f1, _⟩ := fig_facts hn
  have := body_len ps h hb
  unfold shp
  simp -implicitDefEqProofs only [List.length_append, List.length_replicate, List.length_cons, tl_len]
  omega
theorem for_nx {b : D → DE → R Out} {x : D} {xs : List D} {e e' : DE} (h : b x e = .ok (.nx e')) : forD b (x :: xs) e = forD b xs e' := by
  rw [forD, h]; rfl
theorem for_err {b : D → DE → R Out} {x : D} {xs : List D} {e : DE} {c : Str} (h : b x e = .err c) : forD b (x :: xs) e = .err c := by
  rw [forD, h]; rfl
theorem isX_e {ms cs : List Str} {n : Str} {b : Bool} (h : n ∈ ms) (hb : cs.any (subX · n) = b) : isX ms cs (.exc n) = .ok (.bl b) := by
  rw [← hb]; exact if_pos h
def isxB (n k : Int) : Bool := !(k == 0) && decide ((if k < 0 then -k else k) < n)
theorem isxB_iff (n k : Int) : isxB n k = true ↔ IsX n k := by
  unfold isxB IsX
  simp -implicitDefEqProofs only [Bool.and_eq_true, Bool.not_eq_true', beq_eq_false_iff_ne, decide_eq_true_eq]
  constructor
  · rintro ⟨h1, h2⟩
    refine ⟨h1, ?_⟩
    split at h2 <;> omega
  · rintro ⟨h1, h2⟩
    refine ⟨h1, ?_⟩
    split <;> omega
def goodB (n : Int) (w : List Int) : Bool := decide (1 ≤ n) && decide (n ≤ 7) && w.all (isxB n)

theorem cross_ok2 (n k : Int) : m_is_crossing [.int n, .int k] = .ok (.bl (isxB n k)) := by
  unfold m_is_crossing b_is_crossing isxB
  simp -implicitDefEqProofs only [mS, mD, mF, mFS, initE, q1, q2, q3, q4, q5, q6, Nat.reduceAdd, Nat.reduceSub, Nat.reduceEqDiff, q7, q8, q9, q10, reduceIte, q11, q12, q13, q14, q15, q16, q17, q18, q19, q20, q21, q22, q23, q24, q25, q26, q27, q28, q29, q30, q31, q32, q33, q34, q35, q36, q37, q38, q39, q40, q41, q42, q43, q44, q45, q46, q47, q48, q49, q50, q51, q52, q53, q54, q55, q56, q57, q58, valO, lstO, q59, q60, q61, q62, q63, q64, q65, q66, q67, q68, q69]
  cases h : (k == 0) with
  | false => simp -implicitDefEqProofs only [mS, mD, mF, mFS, initE, q1, q2, q3, q4, q5, q6, Nat.reduceAdd, Nat.reduceSub, Nat.reduceEqDiff, q7, q8, q9, q10, reduceIte, q11, q12, q13, q14, q15, q16, q17, q18, q19, q20, q21, q22, q23, q24, q25, q26, q27, q28, q29, q30, q31, q32, q33, q34, q35, q36, q37, q38, q39, q40, q41, q42, q43, q44, q45, q46, q47, q48, q49, q50, q51, q52, q53, q54, q55, q56, q57, q58, valO, lstO, q59, q60, q61, q62, q63, q64, q65, q66, q67, q68, q69, Bool.not_false, Bool.true_and]
  | true => simp -implicitDefEqProofs only [mS, mD, mF, mFS, initE, q1, q2, q3, q4, q5, q6, Nat.reduceAdd, Nat.reduceSub, Nat.reduceEqDiff, q7, q8, q9, q10, reduceIte, q11, q12, q13, q14, q15, q16, q17, q18, q19, q20, q21, q22, q23, q24, q25, q26, q27, q28, q29, q30, q31, q32, q33, q34, q35, q36, q37, q38, q39, q40, q41, q42, q43, q44, q45, q46, q47, q48, q49, q50, q51, q52, q53, q54, q55, q56, q57, q58, valO, lstO, q59, q60, q61, q62, q63, q64, q65, q66, q67, q68, q69, Bool.not_true, Bool.false_and]
theorem checked_loop (n : Int) (d : D) : ∀ (w : List Int) (s : Sl), (w.all (isxB n) = true → ∃ s', forD b_checked_l1 (ofI w) [.val (.int n), .val d, s] = .ok (.nx [.val (.int n), .val d, s'])) ∧ (w.all (isxB n) = false → forD b_checked_l1 (ofI w) [.val (.int n), .val d, s] = .err "NoWord")
  | [], s => ⟨fun _ => ⟨s, rfl⟩, fun h => by cases h⟩
  | k :: w, s => by
    have e : forD b_checked_l1 (ofI (k :: w)) [.val (.int n), .val d, s] = if isxB n k = true then forD b_checked_l1 (ofI w) [.val (.int n), .val d, .val (.int k)] else .err "NoWord" := by
      show forD b_checked_l1 (D.int k :: ofI w) _ = _
      have e1 : b_checked_l1 (.int k) [.val (.int n), .val d, s] = if isxB n k = true then .ok (.nx [.val (.int n), .val d, .val (.int k)]) else .err "NoWord" := by
        unfold b_checked_l1
        simp -implicitDefEqProofs only [bN_ok, mS, mD, mF, mFS, initE, q1, q2, q3, q4, q5, q6, Nat.reduceAdd, Nat.reduceSub, Nat.reduceEqDiff, q7, q8, q9, q10, reduceIte, q11, q12, q13, q14, q15, q16, q17, q18, q19, q20, q21, q22, q23, q24, q25, q26, q27, q28, q29, q30, q31, q32, q33, q34, q35, q36, q37, q38, q39, q40, q41, q42, q43, q44, q45, q46, q47, q48, q49, q50, q51, q52, q53, q54, q55, q56, q57, q58, valO, lstO, q59, q60, q61, q62, q63, q64, q65, q66, q67, q68, q69, cross_ok2]
        cases isxB n k with
        | false => simp -implicitDefEqProofs only [mS, mD, mF, mFS, initE, q1, q2, q3, q4, q5, q6, Nat.reduceAdd, Nat.reduceSub, Nat.reduceEqDiff, q7, q8, q9, q10, reduceIte, q11, q12, q13, q14, q15, q16, q17, q18, q19, q20, q21, q22, q23, q24, q25, q26, q27, q28, q29, q30, q31, q32, q33, q34, q35, q36, q37, q38, q39, q40, q41, q42, q43, q44, q45, q46, q47, q48, q49, q50, q51, q52, q53, q54, q55, q56, q57, q58, valO, lstO, q59, q60, q61, q62, q63, q64, q65, q66, q67, q68, q69, Bool.not_false]
        | true => simp -implicitDefEqProofs only [mS, mD, mF, mFS, initE, q1, q2, q3, q4, q5, q6, Nat.reduceAdd, Nat.reduceSub, Nat.reduceEqDiff, q7, q8, q9, q10, reduceIte, q11, q12, q13, q14, q15, q16, q17, q18, q19, q20, q21, q22, q23, q24, q25, q26, q27, q28, q29, q30, q31, q32, q33, q34, q35, q36, q37, q38, q39, q40, q41, q42, q43, q44, q45, q46, q47, q48, q49, q50, q51, q52, q53, q54, q55, q56, q57, q58, valO, lstO, q59, q60, q61, q62, q63, q64, q65, q66, q67, q68, q69, Bool.not_true]
      cases hk : isxB n k with
      | false => rw [hk] at e1; exact for_err e1
      | true => rw [hk] at e1; exact for_nx e1
    rw [e]
    have ih := checked_loop n d w (.val (.int k))
    cases hk : isxB n k with
    | false =>
      refine ⟨fun h => ?_, fun _ => by simp -implicitDefEqProofs only [mS, mD, mF, mFS, initE, q1, q2, q3, q4, q5, q6, Nat.reduceAdd, Nat.reduceSub, Nat.reduceEqDiff, q7, q8, q9, q10, reduceIte, q11, q12, q13, q14, q15, q16, q17, q18, q19, q20, q21, q22, q23, q24, q25, q26, q27, q28, q29, q30, q31, q32, q33, q34, q35, q36, q37, q38, q39, q40, q41, q42, q43, q44, q45, q46, q47, q48, q49, q50, q51, q52, q53, q54, q55, q56, q57, q58, valO, lstO, q59, q60, q61, q62, q63, q64, q65, q66, q67, q68, q69]⟩
      rw [List.all_cons, hk] at h
      cases h
    | true =>
      simp -implicitDefEqProofs only [mS, mD, mF, mFS, initE, q1, q2, q3, q4, q5, q6, Nat.reduceAdd, Nat.reduceSub, Nat.reduceEqDiff, q7, q8, q9, q10, reduceIte, q11, q12, q13, q14, q15, q16, q17, q18, q19, q20, q21, q22, q23, q24, q25, q26, q27, q28, q29, q30, q31, q32, q33, q34, q35, q36, q37, q38, q39, q40, q41, q42, q43, q44, q45, q46, q47, q48, q49, q50, q51, q52, q53, q54, q55, q56, q57, q58, valO, lstO, q59, q60, q61, q62, q63, q64, q65, q66, q67, q68, q69]
      rw [List.all_cons, hk, Bool.true_and]
      exact ih
theorem checkedX_ok (n : Int) (w : List Int) : mX_checked [.int n, .lst (ofI w)] = if goodB n w = true then .ok (.bl true) else .err "NoWord" := by
  unfold mX_checked b_checked goodB
  by_cases h1 : n < 1
  · have h1' : ¬ 1 ≤ n := by omega
    simp -implicitDefEqProofs only [mS, mD, mF, mFS, initE, q1, q2, q3, q4, q5, q6, Nat.reduceAdd, Nat.reduceSub, Nat.reduceEqDiff, q7, q8, q9, q10, reduceIte, q11, q12, q13, q14, q15, q16, q17, q18, q19, q20, q21, q22, q23, q24, q25, q26, q27, q28, q29, q30, q31, q32, q33, q34, q35, q36, q37, q38, q39, q40, q41, q42, q43, q44, q45, q46, q47, q48, q49, q50, q51, q52, q53, q54, q55, q56, q57, q58, valO, lstO, q59, q60, q61, q62, q63, q64, q65, q66, q67, q68, q69, mSX, h1, h1', decide_true, decide_false, Bool.false_and, seqO_err, R.err_bind]
  · have h1' : 1 ≤ n := by omega
    by_cases h7 : 7 < n
    · have h7' : ¬ n ≤ 7 := by omega
      simp -implicitDefEqProofs only [mS, mD, mF, mFS, initE, q1, q2, q3, q4, q5, q6, Nat.reduceAdd, Nat.reduceSub, Nat.reduceEqDiff, q7, q8, q9, q10, reduceIte, q11, q12, q13, q14, q15, q16, q17, q18, q19, q20, q21, q22, q23, q24, q25, q26, q27, q28, q29, q30, q31, q32, q33, q34, q35, q36, q37, q38, q39, q40, q41, q42, q43, q44, q45, q46, q47, q48, q49, q50, q51, q52, q53, q54, q55, q56, q57, q58, valO, lstO, q59, q60, q61, q62, q63, q64, q65, q66, q67, q68, q69, mSX, h1, h1', h7, h7', decide_true, decide_false, Bool.true_and, Bool.false_and, seqO_err, R.err_bind]
    · have h7' : n ≤ 7 := by omega
      have hl := checked_loop n (.lst (ofI w)) w .no
      simp -implicitDefEqProofs only [mS, mD, mF, mFS, initE, q1, q2, q3, q4, q5, q6, Nat.reduceAdd, Nat.reduceSub, Nat.reduceEqDiff, q7, q8, q9, q10, reduceIte, q11, q12, q13, q14, q15, q16, q17, q18, q19, q20, q21, q22, q23, q24, q25, q26, q27, q28, q29, q30, q31, q32, q33, q34, q35, q36, q37, q38, q39, q40, q41, q42, q43, q44, q45, q46, q47, q48, q49, q50, q51, q52, q53, q54, q55, q56, q57, q58, valO, lstO, q59, q60, q61, q62, q63, q64, q65, q66, q67, q68, q69, mSX, h1, h1', h7, h7', decide_true, decide_false, Bool.true_and]
      cases hw : w.all (isxB n) with
      | true =>
        obtain ⟨s', e⟩ := hl.1 hw
        rw [e]
        simp -implicitDefEqProofs only [mS, mD, mF, mFS, initE, q1, q2, q3, q4, q5, q6, Nat.reduceAdd, Nat.reduceSub, Nat.reduceEqDiff, q7, q8, q9, q10, reduceIte, q11, q12, q13, q14, q15, q16, q17, q18, q19, q20, q21, q22, q23, q24, q25, q26, q27, q28, q29, q30, q31, q32, q33, q34, q35, q36, q37, q38, q39, q40, q41, q42, q43, q44, q45, q46, q47, q48, q49, q50, q51, q52, q53, q54, q55, q56, q57, q58, valO, lstO, q59, q60, q61, q62, q63, q64, q65, q66, q67, q68, q69]
      | false =>
        rw [hl.2 hw]
        simp -implicitDefEqProofs only [mS, mD, mF, mFS, initE, q1, q2, q3, q4, q5, q6, Nat.reduceAdd, Nat.reduceSub, Nat.reduceEqDiff, q7, q8, q9, q10, reduceIte, q11, q12, q13, q14, q15, q16, q17, q18, q19, q20, q21, q22, q23, q24, q25, q26, q27, q28, q29, q30, q31, q32, q33, q34, q35, q36, q37, q38, q39, q40, q41, q42, q43, q44, q45, q46, q47, q48, q49, q50, q51, q52, q53, q54, q55, q56, q57, q58, valO, lstO, q59, q60, q61, q62, q63, q64, q65, q66, q67, q68, q69, seqO_err, R.err_bind]

end DL

namespace DL
open PySem PySem.Spec PyProof.Rows L2
theorem txt_len {n : Int} (hn : -9 ≤ n ∧ n ≤ 9) {w : List Int} (hw : Fg w) (hl : w.length ≤ 1000) : (txt n w).length ≤ 6003 := by
  have := shp_len 0 0 hn (w.map fun k => (0, k)) (by rw [List.map_map]; intro k hk; simp at hk; exact hw k hk) (fun p hp => by obtain ⟨k, _, rfl⟩ := List.mem_map.mp hp; exact Nat.zero_le _)
  rw [← txt_tl, tl_len, List.length_map] at this
  omega
theorem figs_len {w : List Int} (hw : Fg w) (hl : w.length ≤ 1000) : (List.map (fun y => Str.length y) (w.map fun k => (" " : Str) ++ fig k)).sum + (w.map fun k => (" " : Str) ++ fig k).length * Str.length "" ≤ 16777216 := by
  have := sum_le (B := 3) (w.map fun k => (" " : Str) ++ fig k) fun y hy => by
    obtain ⟨k, hk, rfl⟩ := List.mem_map.mp hy
    rw [app_len]
    have := (fig_facts (hw k hk)).1
    have : Str.length " " = 1 := rfl
    omega
  rw [List.length_map] at this ⊢
  rw [show Str.length "" = 0 from rfl]
  omega
theorem join_len {n : Int} (hn : -9 ≤ n ∧ n ≤ 9) {w : List Int} (hw : Fg w) (hl : w.length ≤ 1000) : (fig n ++ ":").length + (Txt.join "" (w.map fun k => (" " : Str) ++ fig k)).length ≤ 1000000 := by
  have := txt_len hn hw hl
  unfold txt at this
  rw [app_len] at this
  omega
theorem compD_strs {b : D → DE → R DE} {ct : DE → R Bool} {fe : DE → R D} {e₀ : DE} (g : Int → Str) (w : List Int) (h : ∀ k ∈ w, ∃ e, b (.int k) e₀ = .ok e ∧ ct e = .ok true ∧ fe e = .ok (.str (g k))) : compD b ct fe e₀ (ofI w) = .ok ((w.map g).map D.str) := by
  rw [compD_map (fun d => match d with
    | .int k => .str (g k)
    | _ => .non) _ fun x hx => by
      obtain ⟨k, hk, rfl⟩ := List.mem_map.mp hx
      exact h k hk]
  unfold ofI
  rw [List.map_map, List.map_map]
  rfl
theorem text_ok {n : Int} (hn : -9 ≤ n ∧ n ≤ 9) {w : List Int} (hw : Fg w) (hl : w.length ≤ 1000) : m__law_text [.int n, .lst (ofI w)] = .ok (.str (txt n w)) := by
  unfold m__law_text b__law_text
  have fn := (fig_facts hn).1
  simp -implicitDefEqProofs only [mS, mD, mF, mFS, initE, q1, q2, q3, q4, q5, q6, Nat.reduceAdd, Nat.reduceSub, Nat.reduceEqDiff, q7, q8, q9, q10, reduceIte, q11, q12, q13, q14, q15, q16, q17, q18, q19, q20, q21, q22, q23, q24, q25, q26, q27, q28, q29, q30, q31, q32, q33, q34, q35, q36, q37, q38, q39, q40, q41, q42, q43, q44, q45, q46, q47, q48, q49, q50, q51, q52, q53, q54, q55, q56, q57, q58, valO, lstO, q59, q60, q61, q62, q63, q64, q65, q66, q67, q68, q69, capt]
  rw [kStrI_i (by omega), compD_strs (fun k => (" " : Str) ++ fig k) w fun k hk => ⟨_, bN_ok _ _ _, rfl, by
    unfold b__law_text_c2 cpE
    have fk := (fig_facts (hw k hk)).1
    have hk' := hw k hk
    simp -implicitDefEqProofs only [mS, mD, mF, mFS, initE, q1, q2, q3, q4, q5, q6, Nat.reduceAdd, Nat.reduceSub, Nat.reduceEqDiff, q7, q8, q9, q10, reduceIte, q11, q12, q13, q14, q15, q16, q17, q18, q19, q20, q21, q22, q23, q24, q25, q26, q27, q28, q29, q30, q31, q32, q33, q34, q35, q36, q37, q38, q39, q40, q41, q42, q43, q44, q45, q46, q47, q48, q49, q50, q51, q52, q53, q54, q55, q56, q57, q58, valO, lstO, q59, q60, q61, q62, q63, q64, q65, q66, q67, q68, q69]
    rw [kStrI_i (by omega)]
    simp -implicitDefEqProofs only [mS, mD, mF, mFS, initE, q1, q2, q3, q4, q5, q6, Nat.reduceAdd, Nat.reduceSub, Nat.reduceEqDiff, q7, q8, q9, q10, reduceIte, q11, q12, q13, q14, q15, q16, q17, q18, q19, q20, q21, q22, q23, q24, q25, q26, q27, q28, q29, q30, q31, q32, q33, q34, q35, q36, q37, q38, q39, q40, q41, q42, q43, q44, q45, q46, q47, q48, q49, q50, q51, q52, q53, q54, q55, q56, q57, q58, valO, lstO, q59, q60, q61, q62, q63, q64, q65, q66, q67, q68, q69, asStr_s]
    rw [kAddS_s (by rw [show Str.length " " = 1 from rfl]; omega)]
    rfl⟩]
  simp -implicitDefEqProofs only [mS, mD, mF, mFS, initE, q1, q2, q3, q4, q5, q6, Nat.reduceAdd, Nat.reduceSub, Nat.reduceEqDiff, q7, q8, q9, q10, reduceIte, q11, q12, q13, q14, q15, q16, q17, q18, q19, q20, q21, q22, q23, q24, q25, q26, q27, q28, q29, q30, q31, q32, q33, q34, q35, q36, q37, q38, q39, q40, q41, q42, q43, q44, q45, q46, q47, q48, q49, q50, q51, q52, q53, q54, q55, q56, q57, q58, valO, lstO, q59, q60, q61, q62, q63, q64, q65, q66, q67, q68, q69, asStr_s]
  rw [kAddS_s (by rw [show Str.length ":" = 1 from rfl]; omega), fit_ok (big (by rw [List.length_map, List.length_map]; omega))]
  simp -implicitDefEqProofs only [mS, mD, mF, mFS, initE, q1, q2, q3, q4, q5, q6, Nat.reduceAdd, Nat.reduceSub, Nat.reduceEqDiff, q7, q8, q9, q10, reduceIte, q11, q12, q13, q14, q15, q16, q17, q18, q19, q20, q21, q22, q23, q24, q25, q26, q27, q28, q29, q30, q31, q32, q33, q34, q35, q36, q37, q38, q39, q40, q41, q42, q43, q44, q45, q46, q47, q48, q49, q50, q51, q52, q53, q54, q55, q56, q57, q58, valO, lstO, q59, q60, q61, q62, q63, q64, q65, q66, q67, q68, q69]
  rw [kJoin_s (figs_len hw hl)]
  simp -implicitDefEqProofs only [mS, mD, mF, mFS, initE, q1, q2, q3, q4, q5, q6, Nat.reduceAdd, Nat.reduceSub, Nat.reduceEqDiff, q7, q8, q9, q10, reduceIte, q11, q12, q13, q14, q15, q16, q17, q18, q19, q20, q21, q22, q23, q24, q25, q26, q27, q28, q29, q30, q31, q32, q33, q34, q35, q36, q37, q38, q39, q40, q41, q42, q43, q44, q45, q46, q47, q48, q49, q50, q51, q52, q53, q54, q55, q56, q57, q58, valO, lstO, q59, q60, q61, q62, q63, q64, q65, q66, q67, q68, q69]
  rw [kAddS_s (join_len hn hw hl)]
  rfl
theorem fg_of {n : Int} (h7 : n ≤ 7) {w : List Int} (hw : ∀ k ∈ w, IsX n k) : Fg w := fun k hk => by
  have := hw k hk
  unfold IsX at this
  omega

def fgS (s : Str) : Int := (KTD.datumAt s tab_FIGURES).getD 0
def rcr (s : Str) : Option Int := if Txt.startswith s "-" = true then (if fgS (Txt.slice s (some 1) none) = 0 then none else some (-fgS (Txt.slice s (some 1) none))) else if fgS s = 0 then none else some (fgS s)
theorem numX_ok (s : Str) : mX_read_number [.str s] = if fgS s = 0 then .err "BadText" else .ok (.int (fgS s)) := by
  unfold mX_read_number b_read_number
  have e : (KTD.datumAt s tab_FIGURES).getD 0 = fgS s := rfl
  simp -implicitDefEqProofs only [mS, mD, mF, mFS, initE, q1, q2, q3, q4, q5, q6, Nat.reduceAdd, Nat.reduceSub, Nat.reduceEqDiff, q7, q8, q9, q10, reduceIte, q11, q12, q13, q14, q15, q16, q17, q18, q19, q20, q21, q22, q23, q24, q25, q26, q27, q28, q29, q30, q31, q32, q33, q34, q35, q36, q37, q38, q39, q40, q41, q42, q43, q44, q45, q46, q47, q48, q49, q50, q51, q52, q53, q54, q55, q56, q57, q58, valO, lstO, q59, q60, q61, q62, q63, q64, q65, q66, q67, q68, q69, mSX, mDX, mFSX, seqO_err, R.err_bind, asStr_s, asInt_i, e]
  by_cases h : fgS s = 0
  · have hb : (fgS s == 0) = true := by rw [beq_iff_eq]; exact h
    rw [if_pos h]
    simp -implicitDefEqProofs only [mS, mD, mF, mFS, initE, q1, q2, q3, q4, q5, q6, Nat.reduceAdd, Nat.reduceSub, Nat.reduceEqDiff, q7, q8, q9, q10, reduceIte, q11, q12, q13, q14, q15, q16, q17, q18, q19, q20, q21, q22, q23, q24, q25, q26, q27, q28, q29, q30, q31, q32, q33, q34, q35, q36, q37, q38, q39, q40, q41, q42, q43, q44, q45, q46, q47, q48, q49, q50, q51, q52, q53, q54, q55, q56, q57, q58, valO, lstO, q59, q60, q61, q62, q63, q64, q65, q66, q67, q68, q69, mSX, mDX, mFSX, seqO_err, R.err_bind, hb]
  · have hb : (fgS s == 0) = false := by rw [beq_eq_false_iff_ne]; exact h
    rw [if_neg h]
    simp -implicitDefEqProofs only [mS, mD, mF, mFS, initE, q1, q2, q3, q4, q5, q6, Nat.reduceAdd, Nat.reduceSub, Nat.reduceEqDiff, q7, q8, q9, q10, reduceIte, q11, q12, q13, q14, q15, q16, q17, q18, q19, q20, q21, q22, q23, q24, q25, q26, q27, q28, q29, q30, q31, q32, q33, q34, q35, q36, q37, q38, q39, q40, q41, q42, q43, q44, q45, q46, q47, q48, q49, q50, q51, q52, q53, q54, q55, q56, q57, q58, valO, lstO, q59, q60, q61, q62, q63, q64, q65, q66, q67, q68, q69, mSX, mDX, mFSX, seqO_err, R.err_bind, hb]
def crR : Option Int → R D
  | some k => .ok (.int k)
  | none => .err "BadText"
theorem crX_ok {s : Str} (hl : s.length ≤ 1000000) : mX_read_crossing [.str s] = crR (rcr s) := by
  unfold mX_read_crossing b_read_crossing rcr
  cases hs : Txt.startswith s "-" with
  | true =>
    simp -implicitDefEqProofs only [mS, mD, mF, mFS, initE, q1, q2, q3, q4, q5, q6, Nat.reduceAdd, Nat.reduceSub, Nat.reduceEqDiff, q7, q8, q9, q10, reduceIte, q11, q12, q13, q14, q15, q16, q17, q18, q19, q20, q21, q22, q23, q24, q25, q26, q27, q28, q29, q30, q31, q32, q33, q34, q35, q36, q37, q38, q39, q40, q41, q42, q43, q44, q45, q46, q47, q48, q49, q50, q51, q52, q53, q54, q55, q56, q57, q58, valO, lstO, q59, q60, q61, q62, q63, q64, q65, q66, q67, q68, q69, mSX, mDX, mFSX, seqO_err, R.err_bind, asStr_s, hs, kSlS_s hl, numX_ok]
    by_cases h : fgS (Txt.slice s (some 1) none) = 0
    · rw [if_pos h, if_pos h]
      simp -implicitDefEqProofs only [mS, mD, mF, mFS, initE, q1, q2, q3, q4, q5, q6, Nat.reduceAdd, Nat.reduceSub, Nat.reduceEqDiff, q7, q8, q9, q10, reduceIte, q11, q12, q13, q14, q15, q16, q17, q18, q19, q20, q21, q22, q23, q24, q25, q26, q27, q28, q29, q30, q31, q32, q33, q34, q35, q36, q37, q38, q39, q40, q41, q42, q43, q44, q45, q46, q47, q48, q49, q50, q51, q52, q53, q54, q55, q56, q57, q58, valO, lstO, q59, q60, q61, q62, q63, q64, q65, q66, q67, q68, q69, mSX, mDX, mFSX, seqO_err, R.err_bind, crR]
    · rw [if_neg h, if_neg h]
      simp -implicitDefEqProofs only [mS, mD, mF, mFS, initE, q1, q2, q3, q4, q5, q6, Nat.reduceAdd, Nat.reduceSub, Nat.reduceEqDiff, q7, q8, q9, q10, reduceIte, q11, q12, q13, q14, q15, q16, q17, q18, q19, q20, q21, q22, q23, q24, q25, q26, q27, q28, q29, q30, q31, q32, q33, q34, q35, q36, q37, q38, q39, q40, q41, q42, q43, q44, q45, q46, q47, q48, q49, q50, q51, q52, q53, q54, q55, q56, q57, q58, valO, lstO, q59, q60, q61, q62, q63, q64, q65, q66, q67, q68, q69, mSX, mDX, mFSX, seqO_err, R.err_bind, crR]
  | false =>
    simp -implicitDefEqProofs only [mS, mD, mF, mFS, initE, q1, q2, q3, q4, q5, q6, Nat.reduceAdd, Nat.reduceSub, Nat.reduceEqDiff, q7, q8, q9, q10, reduceIte, q11, q12, q13, q14, q15, q16, q17, q18, q19, q20, q21, q22, q23, q24, q25, q26, q27, q28, q29, q30, q31, q32, q33, q34, q35, q36, q37, q38, q39, q40, q41, q42, q43, q44, q45, q46, q47, q48, q49, q50, q51, q52, q53, q54, q55, q56, q57, q58, valO, lstO, q59, q60, q61, q62, q63, q64, q65, q66, q67, q68, q69, mSX, mDX, mFSX, seqO_err, R.err_bind, asStr_s, hs, numX_ok]
    by_cases h : fgS s = 0
    · rw [if_pos h, if_pos h]
      simp -implicitDefEqProofs only [mS, mD, mF, mFS, initE, q1, q2, q3, q4, q5, q6, Nat.reduceAdd, Nat.reduceSub, Nat.reduceEqDiff, q7, q8, q9, q10, reduceIte, q11, q12, q13, q14, q15, q16, q17, q18, q19, q20, q21, q22, q23, q24, q25, q26, q27, q28, q29, q30, q31, q32, q33, q34, q35, q36, q37, q38, q39, q40, q41, q42, q43, q44, q45, q46, q47, q48, q49, q50, q51, q52, q53, q54, q55, q56, q57, q58, valO, lstO, q59, q60, q61, q62, q63, q64, q65, q66, q67, q68, q69, mSX, mDX, mFSX, seqO_err, R.err_bind, crR]
    · rw [if_neg h, if_neg h]
      simp -implicitDefEqProofs only [mS, mD, mF, mFS, initE, q1, q2, q3, q4, q5, q6, Nat.reduceAdd, Nat.reduceSub, Nat.reduceEqDiff, q7, q8, q9, q10, reduceIte, q11, q12, q13, q14, q15, q16, q17, q18, q19, q20, q21, q22, q23, q24, q25, q26, q27, q28, q29, q30, q31, q32, q33, q34, q35, q36, q37, q38, q39, q40, q41, q42, q43, q44, q45, q46, q47, q48, q49, q50, q51, q52, q53, q54, q55, q56, q57, q58, valO, lstO, q59, q60, q61, q62, q63, q64, q65, q66, q67, q68, q69, mSX, mDX, mFSX, seqO_err, R.err_bind, crR]
def rws : List (List Nat) → Option (List Int)
  | [] => some []
  | p :: ps => match rcr (ofT p) with
    | none => none
    | some k => (rws ps).map (k :: ·)
theorem rws_none : ∀ (ps : List (List Nat)) (p : List Nat), p ∈ ps → rcr (ofT p) = none → rws ps = none
  | [], p, h, _ => nomatch h
  | q :: ps, p, h, hp => by
    unfold rws
    rcases List.mem_cons.mp h with e | h
    · rw [← e, hp]
    · cases rcr (ofT q) with
      | none => rfl
      | some k =>
        show (rws ps).map _ = none
        rw [rws_none ps p h hp]
        rfl
theorem fig_rcr {k : Int} (h : -9 ≤ k ∧ k ≤ 9) (h0 : k ≠ 0) : rcr (fig k) = some k := by
  unfold rcr
  by_cases hk : 1 ≤ k
  · obtain ⟨h1, h2⟩ := fig_pos ⟨hk, h.2⟩
    have e : fgS (fig k) = k := by unfold fgS; rw [h1]; rfl
    rw [h2, if_neg (by decide), e, if_neg h0]
  · obtain ⟨h1, h2⟩ := fig_neg (k := k) (by omega)
    have e : fgS (Txt.slice (fig k) (some 1) none) = -k := by unfold fgS; rw [h1]; rfl
    rw [h2, if_pos rfl, e, if_neg (by omega), Int.neg_neg]
theorem rws_figs : ∀ (w : List Int), Fg w → (∀ k ∈ w, k ≠ 0) → rws (w.map fun k => tl (fig k)) = some w
  | [], _, _ => rfl
  | k :: w, h, h0 => by
    have ih := rws_figs w (fun x hx => h x (by simp [hx])) fun x hx => h0 x (by simp [hx])
    rw [List.map_cons]
    unfold rws
    rw [of_tl, fig_rcr (h k (by simp)) (h0 k (by simp))]
    show (rws _).map _ = _
    rw [ih]
    rfl
def lsR : Option (List Int) → R (List D)
  | some w => .ok (ofI w)
  | none => .err "BadText"
theorem comp_rws : ∀ (ls : List (List Nat)), (∀ l ∈ ls, l.length ≤ 100000) → compD (fun d e => R.ne (bN 0 d e)) (fun e => R.ne (b_read_crossings_t1 e)) b_read_crossings_cX2 (cpE 1 []) (ls.map fun p => D.str (ofT p)) = lsR (rws (ls.filter fun p => !p.isEmpty))
  | [], _ => rfl
  | p :: ls, h => by
    have ih := comp_rws ls fun l hl => h l (by simp [hl])
    have hp : (ofT p).length ≤ 1000000 := by
      rw [← tl_len, tl_of]
      have := h p (by simp)
      omega
    rw [List.map_cons]
    unfold compD
    have eb : R.ne (bN 0 (.str (ofT p)) (cpE 1 [])) = .ok [.val (.str (ofT p))] := rfl
    have hke : (!(ofT p == ("" : Str))) = !p.isEmpty := by
      rw [str_eq, tl_of, tl_nil]
      cases p <;> rfl
    have et : R.ne (b_read_crossings_t1 [.val (.str (ofT p))]) = .ok (!p.isEmpty) := by
      unfold b_read_crossings_t1
      simp -implicitDefEqProofs only [mS, mD, mF, mFS, initE, q1, q2, q3, q4, q5, q6, Nat.reduceAdd, Nat.reduceSub, Nat.reduceEqDiff, q7, q8, q9, q10, reduceIte, q11, q12, q13, q14, q15, q16, q17, q18, q19, q20, q21, q22, q23, q24, q25, q26, q27, q28, q29, q30, q31, q32, q33, q34, q35, q36, q37, q38, q39, q40, q41, q42, q43, q44, q45, q46, q47, q48, q49, q50, q51, q52, q53, q54, q55, q56, q57, q58, valO, lstO, q59, q60, q61, q62, q63, q64, q65, q66, q67, q68, q69, hke]
    rw [eb, R.ok_bind, et, R.ok_bind]
    cases hq : (!p.isEmpty) with
    | false =>
      rw [if_neg (by decide), List.filter_cons_of_neg (by rw [hq]; decide)]
      exact ih
    | true =>
      rw [if_pos rfl, List.filter_cons_of_pos (p := fun p : List Nat => !p.isEmpty) hq]
      have ee : b_read_crossings_cX2 [.val (.str (ofT p))] = crR (rcr (ofT p)) := by
        unfold b_read_crossings_cX2
        simp -implicitDefEqProofs only [mS, mD, mF, mFS, initE, q1, q2, q3, q4, q5, q6, Nat.reduceAdd, Nat.reduceSub, Nat.reduceEqDiff, q7, q8, q9, q10, reduceIte, q11, q12, q13, q14, q15, q16, q17, q18, q19, q20, q21, q22, q23, q24, q25, q26, q27, q28, q29, q30, q31, q32, q33, q34, q35, q36, q37, q38, q39, q40, q41, q42, q43, q44, q45, q46, q47, q48, q49, q50, q51, q52, q53, q54, q55, q56, q57, q58, valO, lstO, q59, q60, q61, q62, q63, q64, q65, q66, q67, q68, q69, crX_ok hp]
      rw [ee, ih]
      conv => rhs; unfold rws
      cases rcr (ofT p) with
      | none => rfl
      | some k =>
        show R.bind (lsR (rws (ls.filter fun p => !p.isEmpty))) _ = lsR ((rws (ls.filter fun p => !p.isEmpty)).map (k :: ·))
        cases rws (ls.filter fun p => !p.isEmpty) with
        | none => rfl
        | some w => rfl
def tailO (r : List Nat) : Option (List Int) := if r ≠ [] ∧ r.head? ≠ some 32 then none else rws (wds 32 r)
theorem wds_len (l : List Nat) : (wds 32 l).length ≤ l.length + 1 := Nat.le_trans (List.length_filter_le _ _) (spl_len 32 l)
theorem rws_len : ∀ (ps : List (List Nat)) (w : List Int), rws ps = some w → w.length = ps.length
  | [], w, h => by cases h; rfl
  | p :: ps, w, h => by
    unfold rws at h
    cases e : rcr (ofT p) with
    | none => rw [e] at h; cases h
    | some k =>
      rw [e] at h
      cases e2 : rws ps with
      | none => rw [e2] at h; cases h
      | some u =>
        rw [e2] at h
        cases h
        rw [List.length_cons, List.length_cons, rws_len ps u e2]
theorem spl_sub {c : Nat} : ∀ (l : List Nat), ∀ p ∈ spl c l, p.length ≤ l.length
  | [], p, h => by
    have : p = [] := by simpa [spl] using h
    rw [this]
    exact Nat.le_refl _
  | x :: l, p, h => by
    have ih := spl_sub (c := c) l
    unfold spl at h
    rw [List.length_cons]
    split at h
    · rcases List.mem_cons.mp h with e | h
      · rw [e]; simp
      · have := ih p h; omega
    · split at h
      · have : p = [x] := by simpa using h
        rw [this]; simp
      · rename_i e
        rw [e] at ih
        rcases List.mem_cons.mp h with e2 | h
        · rw [e2, List.length_cons]
          have := ih _ List.mem_cons_self
          omega
        · have := ih p (List.mem_cons_of_mem _ h)
          omega
theorem crossingsX_ok {r : List Nat} (hl : r.length ≤ 50000) : mX_read_crossings [.str (ofT r)] = lsR (tailO r) := by
  unfold mX_read_crossings b_read_crossings tailO
  have hol : (ofT r).length ≤ 100000 := by rw [← tl_len, tl_of]; omega
  have hne : (!(ofT r == ("" : Str))) = decide (r ≠ []) := by
    rw [str_eq, tl_of, tl_nil]
    by_cases h : r = []
    · rw [h]; rfl
    · rw [decide_eq_false h, decide_eq_true h]; rfl
  have hst : Txt.startswith (ofT r) " " = decide (r.head? = some 32) := by
    rw [blank, starts_tl, tl_of, List.head?_eq_getElem?]
  have hsp : kSplit (ofT r) " " = some ((spl 32 r).map fun p => D.str (ofT p)) := by rw [blank, kSplit_1 hol, tl_of]
  have hcnt := spl_len 32 r
  have hfit : fit ((spl 32 r).map fun p => D.str (ofT p)) = .ok ((spl 32 r).map fun p => D.str (ofT p)) := fit_ok (big (by rw [List.length_map]; omega))
  have hc := comp_rws (spl 32 r) fun l hm => by have := spl_sub r l hm; omega
  have hw : rws ((spl 32 r).filter fun p => !p.isEmpty) = rws (wds 32 r) := rfl
  rw [hw] at hc
  have hwl := wds_len r
  have main : R.bind (lsR (rws (wds 32 r))) fit = lsR (rws (wds 32 r)) := by
    cases e : rws (wds 32 r) with
    | none => rfl
    | some w =>
      have := rws_len _ _ e
      show fit (ofI w) = _
      rw [fit_ofI (by omega)]
      rfl
  have fin : R.bind (R.bind (R.bind (lsR (rws (wds 32 r))) fun v11 => R.ok (Out.rtF v11)) lstO) scL = lsR (rws (wds 32 r)) := by
    cases e : rws (wds 32 r) with
    | none => rfl
    | some w =>
      show scL (ofI w) = _
      rw [scL_i]
      rfl
  simp -implicitDefEqProofs only [mS, mD, mF, mFS, initE, q1, q2, q3, q4, q5, q6, Nat.reduceAdd, Nat.reduceSub, Nat.reduceEqDiff, q7, q8, q9, q10, reduceIte, q11, q12, q13, q14, q15, q16, q17, q18, q19, q20, q21, q22, q23, q24, q25, q26, q27, q28, q29, q30, q31, q32, q33, q34, q35, q36, q37, q38, q39, q40, q41, q42, q43, q44, q45, q46, q47, q48, q49, q50, q51, q52, q53, q54, q55, q56, q57, q58, valO, lstO, q59, q60, q61, q62, q63, q64, q65, q66, q67, q68, q69, mSX, mDX, mFSX, seqO_err, R.err_bind, asStr_s, hne, hst, capt]
  by_cases h1 : r = []
  · have d1 : decide (r ≠ []) = false := decide_eq_false (fun z => z h1)
    have hc2 : ¬ (r ≠ [] ∧ r.head? ≠ some 32) := fun z => z.1 h1
    rw [if_neg hc2]
    simp -implicitDefEqProofs only [mS, mD, mF, mFS, initE, q1, q2, q3, q4, q5, q6, Nat.reduceAdd, Nat.reduceSub, Nat.reduceEqDiff, q7, q8, q9, q10, reduceIte, q11, q12, q13, q14, q15, q16, q17, q18, q19, q20, q21, q22, q23, q24, q25, q26, q27, q28, q29, q30, q31, q32, q33, q34, q35, q36, q37, q38, q39, q40, q41, q42, q43, q44, q45, q46, q47, q48, q49, q50, q51, q52, q53, q54, q55, q56, q57, q58, valO, lstO, q59, q60, q61, q62, q63, q64, q65, q66, q67, q68, q69, mSX, mDX, mFSX, seqO_err, R.err_bind, d1, asStr_s, hsp, hfit, hc, main, fin]
  · have d1 : decide (r ≠ []) = true := decide_eq_true h1
    by_cases h2 : r.head? = some 32
    · have d2 : decide (r.head? = some 32) = true := decide_eq_true h2
      have hc2 : ¬ (r ≠ [] ∧ r.head? ≠ some 32) := fun z => z.2 h2
      rw [if_neg hc2]
      simp -implicitDefEqProofs only [mS, mD, mF, mFS, initE, q1, q2, q3, q4, q5, q6, Nat.reduceAdd, Nat.reduceSub, Nat.reduceEqDiff, q7, q8, q9, q10, reduceIte, q11, q12, q13, q14, q15, q16, q17, q18, q19, q20, q21, q22, q23, q24, q25, q26, q27, q28, q29, q30, q31, q32, q33, q34, q35, q36, q37, q38, q39, q40, q41, q42, q43, q44, q45, q46, q47, q48, q49, q50, q51, q52, q53, q54, q55, q56, q57, q58, valO, lstO, q59, q60, q61, q62, q63, q64, q65, q66, q67, q68, q69, mSX, mDX, mFSX, seqO_err, R.err_bind, d1, d2, Bool.not_true, asStr_s, hsp, hfit, hc, main, fin]
    · have d2 : decide (r.head? = some 32) = false := decide_eq_false h2
      have hc2 : r ≠ [] ∧ r.head? ≠ some 32 := ⟨h1, h2⟩
      rw [if_pos hc2]
      simp -implicitDefEqProofs only [mS, mD, mF, mFS, initE, q1, q2, q3, q4, q5, q6, Nat.reduceAdd, Nat.reduceSub, Nat.reduceEqDiff, q7, q8, q9, q10, reduceIte, q11, q12, q13, q14, q15, q16, q17, q18, q19, q20, q21, q22, q23, q24, q25, q26, q27, q28, q29, q30, q31, q32, q33, q34, q35, q36, q37, q38, q39, q40, q41, q42, q43, q44, q45, q46, q47, q48, q49, q50, q51, q52, q53, q54, q55, q56, q57, q58, valO, lstO, q59, q60, q61, q62, q63, q64, q65, q66, q67, q68, q69, mSX, mDX, mFSX, seqO_err, R.err_bind, d1, d2, Bool.not_false, lsR]
def tailR (n : Int) (r : List Nat) : R D := match tailO r with
  | none => .err "BadText"
  | some w => if goodB n w = true then .ok (.tup [.int n, .lst (ofI w)]) else .err "NoWord"
theorem dropC_len (c : Nat) : ∀ l : List Nat, (dropC c l).length ≤ l.length
  | [] => Nat.le_refl _
  | x :: l => by
    unfold dropC
    split
    · have := dropC_len c l
      rw [List.length_cons]
      omega
    · exact Nat.le_refl _
theorem stp_len (c : Nat) (l : List Nat) : (stp c l).length ≤ l.length := by
  unfold stp
  rw [List.length_reverse]
  refine Nat.le_trans (dropC_len c _) ?_
  rw [List.length_reverse]
  exact dropC_len c l
theorem dropC_mem {c x : Nat} : ∀ {l : List Nat}, x ∈ dropC c l → x ∈ l
  | [], h => h
  | y :: l, h => by
    unfold dropC at h
    split at h
    · exact List.mem_cons_of_mem _ (dropC_mem h)
    · exact h
theorem stp_mem {c x : Nat} {l : List Nat} (h : x ∈ stp c l) : x ∈ l := by
  unfold stp at h
  exact dropC_mem (List.mem_reverse.mp (dropC_mem (List.mem_reverse.mp h)))
theorem rt_none {t : Str} (hl : t.length ≤ 20000) (h : 58 ∉ tl t) : mX_read_text [.str t] = .err "BadText" := by
  have h2 : 58 ∉ tl (Txt.stripChars t " ") := fun z => by
    rw [blank, strip_tl] at z
    exact h (stp_mem z)
  have hsl : (Txt.stripChars t " ").length ≤ 20000 := by
    rw [← tl_len, blank, strip_tl]
    have := stp_len 32 (tl t)
    rw [tl_len] at this
    omega
  have hpt := part_none _ 58 h2
  unfold mX_read_text b_read_text
  simp -implicitDefEqProofs only [mS, mD, mF, mFS, initE, q1, q2, q3, q4, q5, q6, Nat.reduceAdd, Nat.reduceSub, Nat.reduceEqDiff, q7, q8, q9, q10, reduceIte, q11, q12, q13, q14, q15, q16, q17, q18, q19, q20, q21, q22, q23, q24, q25, q26, q27, q28, q29, q30, q31, q32, q33, q34, q35, q36, q37, q38, q39, q40, q41, q42, q43, q44, q45, q46, q47, q48, q49, q50, q51, q52, q53, q54, q55, q56, q57, q58, valO, lstO, q59, q60, q61, q62, q63, q64, q65, q66, q67, q68, q69, mSX, mDX, mFSX, seqO_err, R.err_bind, asStr_s, kStrip_s (show t.length ≤ 1000000 by omega)]
  rw [colon, kPart_1 (by omega), hpt]
  have at1 : atI [D.str (Txt.stripChars t " "), D.str Str.empty, D.str Str.empty] 1 = some (.str Str.empty) := rfl
  have hem : (Str.empty == ("" : Str)) = true := by decide +kernel
  simp -implicitDefEqProofs only [mS, mD, mF, mFS, initE, q1, q2, q3, q4, q5, q6, Nat.reduceAdd, Nat.reduceSub, Nat.reduceEqDiff, q7, q8, q9, q10, reduceIte, q11, q12, q13, q14, q15, q16, q17, q18, q19, q20, q21, q22, q23, q24, q25, q26, q27, q28, q29, q30, q31, q32, q33, q34, q35, q36, q37, q38, q39, q40, q41, q42, q43, q44, q45, q46, q47, q48, q49, q50, q51, q52, q53, q54, q55, q56, q57, q58, valO, lstO, q59, q60, q61, q62, q63, q64, q65, q66, q67, q68, q69, mSX, mDX, mFSX, seqO_err, R.err_bind, asStr_s, at1, hem]
theorem rt_head {t : Str} {p r : List Nat} (hl : t.length ≤ 20000) (hst : stp 32 (tl t) = p ++ 58 :: r) (hp : 58 ∉ p) : mX_read_text [.str t] = match KTD.datumAt (ofT p) tab_FIGURES with
    | none => .err "BadText"
    | some n => tailR n r := by
  have hst' : tl (Txt.stripChars t " ") = p ++ 58 :: r := by rw [blank, strip_tl, hst]
  have hsl : (Txt.stripChars t " ").length ≤ 20000 := by
    rw [← tl_len, blank, strip_tl]
    have := stp_len 32 (tl t)
    rw [tl_len] at this
    omega
  have hrl : r.length ≤ 50000 := by
    have := congrArg List.length hst'
    rw [tl_len, List.length_append, List.length_cons] at this
    omega
  have hpt := part_at _ 58 hst' hp
  unfold mX_read_text b_read_text
  simp -implicitDefEqProofs only [mS, mD, mF, mFS, initE, q1, q2, q3, q4, q5, q6, Nat.reduceAdd, Nat.reduceSub, Nat.reduceEqDiff, q7, q8, q9, q10, reduceIte, q11, q12, q13, q14, q15, q16, q17, q18, q19, q20, q21, q22, q23, q24, q25, q26, q27, q28, q29, q30, q31, q32, q33, q34, q35, q36, q37, q38, q39, q40, q41, q42, q43, q44, q45, q46, q47, q48, q49, q50, q51, q52, q53, q54, q55, q56, q57, q58, valO, lstO, q59, q60, q61, q62, q63, q64, q65, q66, q67, q68, q69, mSX, mDX, mFSX, seqO_err, R.err_bind, asStr_s, kStrip_s (show t.length ≤ 1000000 by omega)]
  rw [colon, kPart_1 (by omega), hpt]
  have at0 : atI [D.str (ofT p), D.str ⟨#[58]⟩, D.str (ofT r)] 0 = some (.str (ofT p)) := rfl
  have at1 : atI [D.str (ofT p), D.str ⟨#[58]⟩, D.str (ofT r)] 1 = some (.str ⟨#[58]⟩) := rfl
  have at2 : atI [D.str (ofT p), D.str ⟨#[58]⟩, D.str (ofT r)] 2 = some (.str (ofT r)) := rfl
  have hcol : ((⟨#[58]⟩ : Str) == ("" : Str)) = false := by decide +kernel
  cases hd : KTD.datumAt (ofT p) tab_FIGURES with
  | none => simp -implicitDefEqProofs only [mS, mD, mF, mFS, initE, q1, q2, q3, q4, q5, q6, Nat.reduceAdd, Nat.reduceSub, Nat.reduceEqDiff, q7, q8, q9, q10, reduceIte, q11, q12, q13, q14, q15, q16, q17, q18, q19, q20, q21, q22, q23, q24, q25, q26, q27, q28, q29, q30, q31, q32, q33, q34, q35, q36, q37, q38, q39, q40, q41, q42, q43, q44, q45, q46, q47, q48, q49, q50, q51, q52, q53, q54, q55, q56, q57, q58, valO, lstO, q59, q60, q61, q62, q63, q64, q65, q66, q67, q68, q69, mSX, mDX, mFSX, seqO_err, R.err_bind, asStr_s, at0, at1, hcol, hd, Option.isSome_none, Bool.not_false]
  | some n =>
    simp -implicitDefEqProofs only [mS, mD, mF, mFS, initE, q1, q2, q3, q4, q5, q6, Nat.reduceAdd, Nat.reduceSub, Nat.reduceEqDiff, q7, q8, q9, q10, reduceIte, q11, q12, q13, q14, q15, q16, q17, q18, q19, q20, q21, q22, q23, q24, q25, q26, q27, q28, q29, q30, q31, q32, q33, q34, q35, q36, q37, q38, q39, q40, q41, q42, q43, q44, q45, q46, q47, q48, q49, q50, q51, q52, q53, q54, q55, q56, q57, q58, valO, lstO, q59, q60, q61, q62, q63, q64, q65, q66, q67, q68, q69, mSX, mDX, mFSX, seqO_err, R.err_bind, asStr_s, at0, at1, at2, hcol, hd, Option.isSome_some, Bool.not_true, figAt, crossingsX_ok hrl]
    unfold tailR
    cases ht : tailO r with
    | none => simp -implicitDefEqProofs only [mS, mD, mF, mFS, initE, q1, q2, q3, q4, q5, q6, Nat.reduceAdd, Nat.reduceSub, Nat.reduceEqDiff, q7, q8, q9, q10, reduceIte, q11, q12, q13, q14, q15, q16, q17, q18, q19, q20, q21, q22, q23, q24, q25, q26, q27, q28, q29, q30, q31, q32, q33, q34, q35, q36, q37, q38, q39, q40, q41, q42, q43, q44, q45, q46, q47, q48, q49, q50, q51, q52, q53, q54, q55, q56, q57, q58, valO, lstO, q59, q60, q61, q62, q63, q64, q65, q66, q67, q68, q69, mSX, mDX, mFSX, seqO_err, R.err_bind, lsR]
    | some w =>
      simp -implicitDefEqProofs only [mS, mD, mF, mFS, initE, q1, q2, q3, q4, q5, q6, Nat.reduceAdd, Nat.reduceSub, Nat.reduceEqDiff, q7, q8, q9, q10, reduceIte, q11, q12, q13, q14, q15, q16, q17, q18, q19, q20, q21, q22, q23, q24, q25, q26, q27, q28, q29, q30, q31, q32, q33, q34, q35, q36, q37, q38, q39, q40, q41, q42, q43, q44, q45, q46, q47, q48, q49, q50, q51, q52, q53, q54, q55, q56, q57, q58, valO, lstO, q59, q60, q61, q62, q63, q64, q65, q66, q67, q68, q69, mSX, mDX, mFSX, seqO_err, R.err_bind, lsR, checkedX_ok]
      by_cases hg : goodB n w = true
      · rw [if_pos hg, if_pos hg]
        simp -implicitDefEqProofs only [mS, mD, mF, mFS, initE, q1, q2, q3, q4, q5, q6, Nat.reduceAdd, Nat.reduceSub, Nat.reduceEqDiff, q7, q8, q9, q10, reduceIte, q11, q12, q13, q14, q15, q16, q17, q18, q19, q20, q21, q22, q23, q24, q25, q26, q27, q28, q29, q30, q31, q32, q33, q34, q35, q36, q37, q38, q39, q40, q41, q42, q43, q44, q45, q46, q47, q48, q49, q50, q51, q52, q53, q54, q55, q56, q57, q58, valO, lstO, q59, q60, q61, q62, q63, q64, q65, q66, q67, q68, q69, mSX, mDX, mFSX, seqO_err, R.err_bind]
      · rw [if_neg hg, if_neg hg]
        simp -implicitDefEqProofs only [mS, mD, mF, mFS, initE, q1, q2, q3, q4, q5, q6, Nat.reduceAdd, Nat.reduceSub, Nat.reduceEqDiff, q7, q8, q9, q10, reduceIte, q11, q12, q13, q14, q15, q16, q17, q18, q19, q20, q21, q22, q23, q24, q25, q26, q27, q28, q29, q30, q31, q32, q33, q34, q35, q36, q37, q38, q39, q40, q41, q42, q43, q44, q45, q46, q47, q48, q49, q50, q51, q52, q53, q54, q55, q56, q57, q58, valO, lstO, q59, q60, q61, q62, q63, q64, q65, q66, q67, q68, q69, mSX, mDX, mFSX, seqO_err, R.err_bind]

end DL

namespace DL
open PySem PySem.Spec PyProof.Rows L2

/-! rows behind blanks -/
def rowsT (rs : List (List Nat)) : List Nat := (rs.map fun r => 32 :: r).flatten
def Rk (r : List Nat) : Prop := r ≠ [] ∧ 32 ∉ r
theorem rowsT_cons (r : List Nat) (rs : List (List Nat)) : rowsT (r :: rs) = 32 :: (r ++ rowsT rs) := by
  unfold rowsT
  rw [List.map_cons, List.flatten_cons]
  rfl
theorem rowsT_app (a b : List (List Nat)) : rowsT (a ++ b) = rowsT a ++ rowsT b := by
  unfold rowsT
  rw [List.map_append, List.flatten_append]
theorem wds_rows : ∀ rs : List (List Nat), (∀ r ∈ rs, Rk r) → wds 32 (rowsT rs) = rs
  | [], _ => rfl
  | r :: rs, h => by
    obtain ⟨f2, f3⟩ := h r (by simp)
    have ih := wds_rows rs fun x hx => h x (by simp [hx])
    rw [rowsT_cons, wds_c]
    cases rs with
    | nil =>
      show wds 32 (r ++ []) = _
      rw [List.append_nil, wds_end f3 f2]
    | cons q rs =>
      rw [rowsT_cons] at ih ⊢
      rw [wds_c] at ih
      rw [wds_cut f3 f2, ih]
theorem rows_last : ∀ rs : List (List Nat), (∀ r ∈ rs, Rk r) → rs ≠ [] → ∃ q y, rowsT rs = q ++ [y] ∧ y ≠ 32
  | [], _, h => (h rfl).elim
  | [r], h, _ => by
    obtain ⟨f2, f3⟩ := h r (by simp)
    rw [rowsT_cons]
    show ∃ q y, 32 :: (r ++ []) = q ++ [y] ∧ y ≠ 32
    rw [List.append_nil]
    exact ⟨32 :: r.dropLast, r.getLast f2, by rw [List.cons_append, List.dropLast_concat_getLast f2], fun z => f3 (by rw [← z]; exact List.getLast_mem f2)⟩
  | r :: s :: rs, h, _ => by
    obtain ⟨q, y, e, hy⟩ := rows_last (s :: rs) (fun x hx => h x (List.mem_cons_of_mem _ hx)) (by simp)
    refine ⟨32 :: (r ++ q), y, ?_, hy⟩
    rw [rowsT_cons, e]
    simp
theorem tail_rows {rs : List (List Nat)} (h : ∀ r ∈ rs, Rk r) : tailO (rowsT rs) = rws rs := by
  unfold tailO
  have hc : ¬ (rowsT rs ≠ [] ∧ (rowsT rs).head? ≠ some 32) := fun z => by
    cases rs with
    | nil => exact z.1 rfl
    | cons r rs => exact z.2 (by rw [rowsT_cons]; rfl)
  rw [if_neg hc, wds_rows rs h]
theorem rd_tail {t : Str} {p r : List Nat} (hl : t.length ≤ 20000) (ht : tl t = p ++ 58 :: r) (hp : 58 ∉ p) (hx : 32 ∉ p.head?) (hr : r = [] ∨ ∃ q y, r = q ++ [y] ∧ y ≠ 32) : mX_read_text [.str t] = match KTD.datumAt (ofT p) tab_FIGURES with
    | none => .err "BadText"
    | some n => tailR n r := by
  refine rt_head hl ?_ hp
  obtain ⟨x, r1, h1, h1x⟩ : ∃ x r1, p ++ 58 :: r = x :: r1 ∧ x ≠ 32 := by
    cases p with
    | nil => exact ⟨58, r, rfl, by decide⟩
    | cons x p => exact ⟨x, p ++ 58 :: r, rfl, fun z => hx (by rw [z]; rfl)⟩
  obtain ⟨q, y, h2, h2y⟩ : ∃ q y, p ++ 58 :: r = q ++ [y] ∧ y ≠ 32 := by
    rcases hr with hr | ⟨q, y, hr, hy⟩
    · rw [hr]; exact ⟨p, 58, rfl, by decide⟩
    · rw [hr]; exact ⟨p ++ 58 :: q, y, by simp, hy⟩
  rw [ht]
  have := stp_mid 32 0 0 _ h1 h2 h1x h2y
  rw [List.replicate_zero, List.nil_append, List.append_nil] at this
  exact this
theorem rows_end {rs : List (List Nat)} (h : ∀ r ∈ rs, Rk r) : rowsT rs = [] ∨ ∃ q y, rowsT rs = q ++ [y] ∧ y ≠ 32 := by
  by_cases z : rs = []
  · rw [z]; exact .inl rfl
  · exact .inr (rows_last rs h z)
theorem bad_head {t : Str} {p r : List Nat} (hl : t.length ≤ 20000) (ht : tl t = p ++ 58 :: r) (hp : 58 ∉ p) (hx : 32 ∉ p.head?) (hr : r = [] ∨ ∃ q y, r = q ++ [y] ∧ y ≠ 32) (hd : KTD.datumAt (ofT p) tab_FIGURES = none) : mX_read_text [.str t] = .err "BadText" := by
  rw [rd_tail hl ht hp hx hr, hd]
theorem bad_tail {t : Str} {p r : List Nat} (hl : t.length ≤ 20000) (ht : tl t = p ++ 58 :: r) (hp : 58 ∉ p) (hx : 32 ∉ p.head?) (hr : r = [] ∨ ∃ q y, r = q ++ [y] ∧ y ≠ 32) (hd : tailO r = none) : mX_read_text [.str t] = .err "BadText" := by
  rw [rd_tail hl ht hp hx hr]
  cases KTD.datumAt (ofT p) tab_FIGURES with
  | none => rfl
  | some n =>
    show tailR n r = _
    unfold tailR
    rw [hd]
def menu18 : List Str := ["12", "0", "-0", "--1", "-", "+1", "1-", "1,", "a", "1\n", "\n", "10", "-11", "01", "1.", ":", "1:", "- 1"]
def chkP (s : Str) : Bool := decide (rowsT (wds 32 (tl s)) = 32 :: tl s) && (wds 32 (tl s)).any (fun p => decide (rcr (ofT p) = none)) && (wds 32 (tl s)).all (fun p => decide (p ≠ []) && decide (32 ∉ p)) && decide (s.length ≤ 3)
theorem menu_ok : menu18.all chkP = true := by decide +kernel
theorem menu_of {s : Str} (h : s ∈ menu18) : rowsT (wds 32 (tl s)) = 32 :: tl s ∧ (∃ p ∈ wds 32 (tl s), rcr (ofT p) = none) ∧ (∀ p ∈ wds 32 (tl s), Rk p) ∧ s.length ≤ 3 := by
  have := List.all_eq_true.mp menu_ok s h
  unfold chkP at this
  rw [Bool.and_eq_true, Bool.and_eq_true, Bool.and_eq_true, decide_eq_true_eq, decide_eq_true_eq] at this
  obtain ⟨⟨⟨a1, a2⟩, a3⟩, a4⟩ := this
  refine ⟨a1, ?_, fun p hp => ?_, a4⟩
  · obtain ⟨p, hp, h2⟩ := List.any_eq_true.mp a2
    exact ⟨p, hp, of_decide_eq_true h2⟩
  · have := List.all_eq_true.mp a3 p hp
    rw [Bool.and_eq_true, decide_eq_true_eq, decide_eq_true_eq] at this
    exact this
def chkN (n : Int) : Bool := decide (KTD.datumAt (fig n) tab_FIGURES = some n) && decide (KTD.datumAt (ofT (tl (fig n) ++ [32])) tab_FIGURES = none) && decide (KTD.datumAt (ofT (tl (fig n) ++ [49])) tab_FIGURES = none) && decide (KTD.datumAt (ofT (45 :: tl (fig n))) tab_FIGURES = none) && decide (KTD.datumAt (ofT (10 :: tl (fig n))) tab_FIGURES = none)
theorem chkN_ok : ∀ i : Nat, i < 10 → chkN (i : Int) = true := by decide +kernel
theorem chkN_of {n : Int} (h0 : 0 ≤ n) (h9 : n ≤ 9) : KTD.datumAt (fig n) tab_FIGURES = some n ∧ KTD.datumAt (ofT (tl (fig n) ++ [32])) tab_FIGURES = none ∧ KTD.datumAt (ofT (tl (fig n) ++ [49])) tab_FIGURES = none ∧ KTD.datumAt (ofT (45 :: tl (fig n))) tab_FIGURES = none ∧ KTD.datumAt (ofT (10 :: tl (fig n))) tab_FIGURES = none := by
  have := chkN_ok n.toNat (by omega)
  rw [show ((n.toNat : Nat) : Int) = n by omega] at this
  unfold chkN at this
  simp -implicitDefEqProofs only [Bool.and_eq_true, decide_eq_true_eq] at this
  exact ⟨this.1.1.1.1, this.1.1.1.2, this.1.1.2, this.1.2, this.2⟩
theorem chkE_ok : ∀ i : Nat, i < 19 → rcr (ofT (tl (fig ((i : Int) - 9)) ++ [10])) = none := by decide +kernel
theorem chkE_of {k : Int} (h : -9 ≤ k ∧ k ≤ 9) : rcr (ofT (tl (fig k) ++ [10])) = none := by
  have := chkE_ok (k + 9).toNat (by omega)
  rw [show (((k + 9).toNat : Nat) : Int) - 9 = k by omega] at this
  exact this
theorem d_nil : KTD.datumAt (ofT []) tab_FIGURES = none := by decide +kernel
theorem d_n : KTD.datumAt (ofT [110]) tab_FIGURES = none := by decide +kernel
theorem figs_rk {w : List Int} (hw : Fg w) : ∀ r ∈ w.map (fun k => tl (fig k)), Rk r := fun r hr => by
  obtain ⟨k, hk, rfl⟩ := List.mem_map.mp hr
  obtain ⟨_, f2, f3, _⟩ := fig_facts (hw k hk)
  exact ⟨f2, f3⟩
theorem fig_head {n : Int} (h : -9 ≤ n ∧ n ≤ 9) : 32 ∉ (tl (fig n)).head? := fun z => by
  have := (fig_facts h).2.2.1
  exact this (List.mem_of_mem_head? z)
theorem body_rows (w : List Int) : body (w.map fun k => ((0 : Nat), k)) = rowsT (w.map fun k => tl (fig k)) := by
  unfold body rowsT
  rw [List.map_map, List.map_map]
  rfl
theorem txt_rows (n : Int) (w : List Int) : tl (txt n w) = tl (fig n) ++ 58 :: rowsT (w.map fun k => tl (fig k)) := by
  rw [txt_tl, ← body_rows]
  unfold shp
  simp
theorem read_txt {n : Int} (h0 : 0 ≤ n) (h9 : n ≤ 9) {w : List Int} (hw : Fg w) (hz : ∀ k ∈ w, k ≠ 0) (hl : w.length ≤ 1000) : mX_read_text [.str (txt n w)] = if goodB n w = true then .ok (.tup [.int n, .lst (ofI w)]) else .err "NoWord" := by
  have h9' : -9 ≤ n ∧ n ≤ 9 := by omega
  have hlen := txt_len h9' hw hl
  rw [rd_tail (by omega) (txt_rows n w) (fig_facts h9').2.2.2.1 (fig_head h9') (rows_end (figs_rk hw)), of_tl, (chkN_of h0 h9).1]
  show tailR n _ = _
  unfold tailR
  rw [tail_rows (figs_rk hw), rws_figs w hw hz]
theorem bad_rows {t : Str} {n : Int} (h9 : -9 ≤ n ∧ n ≤ 9) {a b : List Int} {s : Str} (ha : Fg a) (hb : Fg b) (hs : s ∈ menu18) (hl : t.length ≤ 20000) (ht : tl t = tl (fig n) ++ 58 :: rowsT (a.map (fun k => tl (fig k)) ++ tl s :: b.map fun k => tl (fig k))) : mX_read_text [.str t] = .err "BadText" := by
  obtain ⟨m1, ⟨p, hp, hpn⟩, m3, _⟩ := menu_of hs
  have e : rowsT (a.map (fun k => tl (fig k)) ++ tl s :: b.map fun k => tl (fig k)) = rowsT (a.map (fun k => tl (fig k)) ++ (wds 32 (tl s) ++ b.map fun k => tl (fig k))) := by
    rw [rowsT_app, rowsT_app, rowsT_app, rowsT_cons, m1]
    rfl
  rw [e] at ht
  have hr : ∀ r ∈ a.map (fun k => tl (fig k)) ++ (wds 32 (tl s) ++ b.map fun k => tl (fig k)), Rk r := fun r hr => by
    rcases List.mem_append.mp hr with z | z
    · exact figs_rk ha r z
    · rcases List.mem_append.mp z with z | z
      · exact m3 r z
      · exact figs_rk hb r z
  refine bad_tail hl ht (fig_facts h9).2.2.2.1 (fig_head h9) (rows_end hr) ?_
  rw [tail_rows hr]
  exact rws_none _ p (List.mem_append_right _ (List.mem_append_left _ hp)) hpn

end DL

namespace DL
open PySem PySem.Spec PyProof.Rows L2

theorem ofTlen (l : List Nat) : (ofT l).length = l.length := by rw [← tl_len, tl_of]
theorem ofTapp (a b : List Nat) : ofT a ++ ofT b = ofT (a ++ b) := tl_inj (by rw [tl_app, tl_of, tl_of, tl_of])

theorem join3 (rs : List (List Nat)) (hr : ∀ r ∈ rs, r.length ≤ 10) : compD (bN 0) b__law_bad_text_t3 b__law_bad_text_c4 (cpE 1 []) (rs.map fun r => D.str (ofT r)) = .ok ((rs.map fun r => ofT (32 :: r)).map D.str) := by
  rw [compD_map (fun d => match d with
    | .str x => .str (" " ++ x)
    | _ => .non) _ fun x hx => by
      obtain ⟨r, hr', rfl⟩ := List.mem_map.mp hx
      have := hr r hr'
      refine ⟨_, bN_ok _ _ _, rfl, ?_⟩
      unfold b__law_bad_text_c4 cpE
      simp -implicitDefEqProofs only [mS, mD, mF, mFS, initE, q1, q2, q3, q4, q5, q6, Nat.reduceAdd, Nat.reduceSub, Nat.reduceEqDiff, q7, q8, q9, q10, reduceIte, q11, q12, q13, q14, q15, q16, q17, q18, q19, q20, q21, q22, q23, q24, q25, q26, q27, q28, q29, q30, q31, q32, q33, q34, q35, q36, q37, q38, q39, q40, q41, q42, q43, q44, q45, q46, q47, q48, q49, q50, q51, q52, q53, q54, q55, q56, q57, q58, valO, lstO, q59, q60, q61, q62, q63, q64, q65, q66, q67, q68, q69]
      rw [kAddS_s (by rw [ofTlen, show Str.length " " = 1 from rfl]; omega)]
      rfl]
  rw [List.map_map, List.map_map]
  congr 1
  refine List.map_congr_left fun r _ => ?_
  show D.str (" " ++ ofT r) = D.str (ofT (32 :: r))
  rw [show (" " : Str) ++ ofT r = ofT (32 :: r) from tl_inj (by rw [tl_app, tl_of, tl_of]; rfl)]

theorem join5 (rs : List (List Nat)) (hr : ∀ r ∈ rs, r.length ≤ 10) : compD (bN 0) b__law_bad_text_t5 b__law_bad_text_c6 (cpE 1 []) (rs.map fun r => D.str (ofT r)) = .ok ((rs.map fun r => ofT (32 :: r)).map D.str) := by
  rw [compD_map (fun d => match d with
    | .str x => .str (" " ++ x)
    | _ => .non) _ fun x hx => by
      obtain ⟨r, hr', rfl⟩ := List.mem_map.mp hx
      have := hr r hr'
      refine ⟨_, bN_ok _ _ _, rfl, ?_⟩
      unfold b__law_bad_text_c6 cpE
      simp -implicitDefEqProofs only [mS, mD, mF, mFS, initE, q1, q2, q3, q4, q5, q6, Nat.reduceAdd, Nat.reduceSub, Nat.reduceEqDiff, q7, q8, q9, q10, reduceIte, q11, q12, q13, q14, q15, q16, q17, q18, q19, q20, q21, q22, q23, q24, q25, q26, q27, q28, q29, q30, q31, q32, q33, q34, q35, q36, q37, q38, q39, q40, q41, q42, q43, q44, q45, q46, q47, q48, q49, q50, q51, q52, q53, q54, q55, q56, q57, q58, valO, lstO, q59, q60, q61, q62, q63, q64, q65, q66, q67, q68, q69]
      rw [kAddS_s (by rw [ofTlen, show Str.length " " = 1 from rfl]; omega)]
      rfl]
  rw [List.map_map, List.map_map]
  congr 1
  refine List.map_congr_left fun r _ => ?_
  show D.str (" " ++ ofT r) = D.str (ofT (32 :: r))
  rw [show (" " : Str) ++ ofT r = ofT (32 :: r) from tl_inj (by rw [tl_app, tl_of, tl_of]; rfl)]

theorem join7 (rs : List (List Nat)) (hr : ∀ r ∈ rs, r.length ≤ 10) : compD (bN 0) b__law_bad_text_t7 b__law_bad_text_c8 (cpE 1 []) (rs.map fun r => D.str (ofT r)) = .ok ((rs.map fun r => ofT (32 :: r)).map D.str) := by
  rw [compD_map (fun d => match d with
    | .str x => .str (" " ++ x)
    | _ => .non) _ fun x hx => by
      obtain ⟨r, hr', rfl⟩ := List.mem_map.mp hx
      have := hr r hr'
      refine ⟨_, bN_ok _ _ _, rfl, ?_⟩
      unfold b__law_bad_text_c8 cpE
      simp -implicitDefEqProofs only [mS, mD, mF, mFS, initE, q1, q2, q3, q4, q5, q6, Nat.reduceAdd, Nat.reduceSub, Nat.reduceEqDiff, q7, q8, q9, q10, reduceIte, q11, q12, q13, q14, q15, q16, q17, q18, q19, q20, q21, q22, q23, q24, q25, q26, q27, q28, q29, q30, q31, q32, q33, q34, q35, q36, q37, q38, q39, q40, q41, q42, q43, q44, q45, q46, q47, q48, q49, q50, q51, q52, q53, q54, q55, q56, q57, q58, valO, lstO, q59, q60, q61, q62, q63, q64, q65, q66, q67, q68, q69]
      rw [kAddS_s (by rw [ofTlen, show Str.length " " = 1 from rfl]; omega)]
      rfl]
  rw [List.map_map, List.map_map]
  congr 1
  refine List.map_congr_left fun r _ => ?_
  show D.str (" " ++ ofT r) = D.str (ofT (32 :: r))
  rw [show (" " : Str) ++ ofT r = ofT (32 :: r) from tl_inj (by rw [tl_app, tl_of, tl_of]; rfl)]

theorem join9 (rs : List (List Nat)) (hr : ∀ r ∈ rs, r.length ≤ 10) : compD (bN 0) b__law_bad_text_t9 b__law_bad_text_c10 (cpE 1 []) (rs.map fun r => D.str (ofT r)) = .ok ((rs.map fun r => ofT (32 :: r)).map D.str) := by
  rw [compD_map (fun d => match d with
    | .str x => .str (" " ++ x)
    | _ => .non) _ fun x hx => by
      obtain ⟨r, hr', rfl⟩ := List.mem_map.mp hx
      have := hr r hr'
      refine ⟨_, bN_ok _ _ _, rfl, ?_⟩
      unfold b__law_bad_text_c10 cpE
      simp -implicitDefEqProofs only [mS, mD, mF, mFS, initE, q1, q2, q3, q4, q5, q6, Nat.reduceAdd, Nat.reduceSub, Nat.reduceEqDiff, q7, q8, q9, q10, reduceIte, q11, q12, q13, q14, q15, q16, q17, q18, q19, q20, q21, q22, q23, q24, q25, q26, q27, q28, q29, q30, q31, q32, q33, q34, q35, q36, q37, q38, q39, q40, q41, q42, q43, q44, q45, q46, q47, q48, q49, q50, q51, q52, q53, q54, q55, q56, q57, q58, valO, lstO, q59, q60, q61, q62, q63, q64, q65, q66, q67, q68, q69]
      rw [kAddS_s (by rw [ofTlen, show Str.length " " = 1 from rfl]; omega)]
      rfl]
  rw [List.map_map, List.map_map]
  congr 1
  refine List.map_congr_left fun r _ => ?_
  show D.str (" " ++ ofT r) = D.str (ofT (32 :: r))
  rw [show (" " : Str) ++ ofT r = ofT (32 :: r) from tl_inj (by rw [tl_app, tl_of, tl_of]; rfl)]

theorem rows_bd (rs : List (List Nat)) (hr : ∀ r ∈ rs, r.length ≤ 10) (hc : rs.length ≤ 200) : kJoin "" ((rs.map fun r => ofT (32 :: r)).map D.str) = some (.str (ofT (rowsT rs))) ∧ (rowsT rs).length ≤ 2200 := by
  have hs := sum_le (B := 11) (rs.map fun r => ofT (32 :: r)) fun y hy => by
    obtain ⟨r, hr', rfl⟩ := List.mem_map.mp hy
    have := hr r hr'
    rw [ofTlen, List.length_cons]
    omega
  rw [List.length_map] at hs
  have e : Txt.join "" (rs.map fun r => ofT (32 :: r)) = ofT (rowsT rs) := by
    refine tl_inj ?_
    rw [tl_Join0, tl_of, List.map_map]
    exact congrArg List.flatten (List.map_congr_left fun r _ => tl_of _)
  refine ⟨?_, ?_⟩
  · rw [kJoin_s (by rw [List.length_map, show Str.length "" = 0 from rfl]; omega), e]
  · have hl : ∀ rs : List (List Nat), (∀ r ∈ rs, r.length ≤ 10) → (rowsT rs).length ≤ 11 * rs.length := by
      intro rs
      induction rs with
      | nil => intro _; simp [rowsT]
      | cons r rs ih =>
        intro h
        have h1 := ih fun x hx => h x (by simp [hx])
        have h2 := h r (by simp)
        rw [rowsT_cons, List.length_cons, List.length_append, List.length_cons]
        omega
    have := hl rs hr
    omega
theorem piece_ok2 (z : Int) : ∃ s, s ∈ menu18 ∧ m__law_piece_of [.int z] = .ok (.str s) := by
  unfold m__law_piece_of b__law_piece_of
  have e : ([D.str "12", D.str "0", D.str "-0", D.str "--1", D.str "-", D.str "+1", D.str "1-", D.str "1,", D.str "a", D.str "1\n", D.str "\n", D.str "10", D.str "-11", D.str "01", D.str "1.", D.str ":", D.str "1:", D.str "- 1"] : List D) = menu18.map D.str := rfl
  have hf : fit (menu18.map D.str) = .ok (menu18.map D.str) := fit_ok (big (by decide +kernel))
  have hlen : (menu18.map D.str).length = 18 := rfl
  have w1 := Int.emod_nonneg z (show (18 : Int) ≠ 0 by decide)
  have w2 := Int.emod_lt_of_pos z (show (0 : Int) < 18 by decide)
  have hlt : (z % 18).toNat < menu18.length := by show (z % 18).toNat < 18; omega
  have hat : atI (menu18.map D.str) (z % 18) = some (.str menu18[(z % 18).toNat]) := by
    rw [atI_pos w1, List.getElem?_map, List.getElem?_eq_getElem hlt]
    rfl
  refine ⟨menu18[(z % 18).toNat], List.getElem_mem hlt, ?_⟩
  rw [e]
  generalize menu18.map D.str = M at hf hlen hat
  simp -implicitDefEqProofs only [mS, mD, mF, mFS, initE, q1, q2, q3, q4, q5, q6, Nat.reduceAdd, Nat.reduceSub, Nat.reduceEqDiff, q7, q8, q9, q10, reduceIte, q11, q12, q13, q14, q15, q16, q17, q18, q19, q20, q21, q22, q23, q24, q25, q26, q27, q28, q29, q30, q31, q32, q33, q34, q35, q36, q37, q38, q39, q40, q41, q42, q43, q44, q45, q46, q47, q48, q49, q50, q51, q52, q53, q54, q55, q56, q57, q58, valO, lstO, q59, q60, q61, q62, q63, q64, q65, q66, q67, q68, q69, hf, hlen]
  rw [show ((18 : Nat) : Int) = 18 from rfl, kMod_i _ _ (by decide)]
  simp -implicitDefEqProofs only [mS, mD, mF, mFS, initE, q1, q2, q3, q4, q5, q6, Nat.reduceAdd, Nat.reduceSub, Nat.reduceEqDiff, q7, q8, q9, q10, reduceIte, q11, q12, q13, q14, q15, q16, q17, q18, q19, q20, q21, q22, q23, q24, q25, q26, q27, q28, q29, q30, q31, q32, q33, q34, q35, q36, q37, q38, q39, q40, q41, q42, q43, q44, q45, q46, q47, q48, q49, q50, q51, q52, q53, q54, q55, q56, q57, q58, valO, lstO, q59, q60, q61, q62, q63, q64, q65, q66, q67, q68, q69, hat]

end DL

namespace DL
open PySem PySem.Spec PyProof.Rows L2

theorem addT (a b : List Nat) (h : a.length + b.length ≤ 10000) : kAddS (.str (ofT a)) (.str (ofT b)) = some (.str (ofT (a ++ b))) := by
  rw [kAddS_s (by rw [ofTlen, ofTlen]; omega), ofTapp]
theorem addC {a : List Nat} {s : Str} (b : List Nat) (hs : s = ofT b) (h : a.length + b.length ≤ 10000) : kAddS (.str (ofT a)) (.str s) = some (.str (ofT (a ++ b))) := by
  rw [hs]
  exact addT a b h
theorem addL {b : List Nat} {s : Str} (a : List Nat) (hs : s = ofT a) (h : a.length + b.length ≤ 10000) : kAddS (.str s) (.str (ofT b)) = some (.str (ofT (a ++ b))) := by
  rw [hs]
  exact addT a b h
theorem fit_DD {xs : List D} (h : xs.length ≤ 1000000) : fit xs = .ok xs := fit_ok (big h)
theorem bad_text_ok {n : Int} (h1 : 1 ≤ n) (h7 : n ≤ 7) {w : List Int} (hw : Fg w) (hl : w.length ≤ 60) (z : Int) : ∃ s : Str, m__law_bad_text [.int n, .lst (ofI w), .int z] = .ok (.str s) ∧ mX_read_text [.str s] = .err "BadText" := by
  unfold m__law_bad_text b__law_bad_text
  have h9 : -9 ≤ n ∧ n ≤ 9 := by omega
  obtain ⟨fl, _, fb, fc, _⟩ := fig_facts h9
  obtain ⟨cn1, cn2, cn3, cn4, cn5⟩ := chkN_of (n := n) (by omega) (by omega)
  have fh := fig_head h9
  have hfig : ofT (tl (fig n)) = fig n := of_tl _
  rw [← tl_len] at fl
  have hst : kStrI [.int n] = some (.str (ofT (tl (fig n)))) := by rw [hfig]; exact kStrI_i (by omega)
  have hrk := figs_rk hw
  have hre := rows_end hrk
  have hrl : ∀ r ∈ w.map (fun k => tl (fig k)), r.length ≤ 10 := fun r hr => by
    obtain ⟨k, hk, rfl⟩ := List.mem_map.mp hr
    have := (fig_facts (hw k hk)).1
    rw [tl_len]
    omega
  have e1 : compD (bN 0) b__law_bad_text_t1 b__law_bad_text_c2 (cpE 1 []) (ofI w) = .ok ((w.map fun k => tl (fig k)).map fun r => D.str (ofT r)) := by
    rw [compD_strs fig w fun k hk => ⟨_, bN_ok _ _ _, rfl, by
      unfold b__law_bad_text_c2 cpE
      have hk' := hw k hk
      simp -implicitDefEqProofs only [mS, mD, mF, mFS, initE, q1, q2, q3, q4, q5, q6, Nat.reduceAdd, Nat.reduceSub, Nat.reduceEqDiff, q7, q8, q9, q10, reduceIte, q11, q12, q13, q14, q15, q16, q17, q18, q19, q20, q21, q22, q23, q24, q25, q26, q27, q28, q29, q30, q31, q32, q33, q34, q35, q36, q37, q38, q39, q40, q41, q42, q43, q44, q45, q46, q47, q48, q49, q50, q51, q52, q53, q54, q55, q56, q57, q58, valO, lstO, q59, q60, q61, q62, q63, q64, q65, q66, q67, q68, q69]
      rw [kStrI_i (by omega)]
      rfl⟩]
    rw [List.map_map, List.map_map]
    exact congrArg R.ok (List.map_congr_left fun k _ => congrArg D.str (of_tl (fig k)).symm)
  have hrows : ∀ i : Nat, (w.map fun k => tl (fig k)).take i = (w.take i).map fun k => tl (fig k) := fun i => by rw [List.map_take]
  have hrowsd : ∀ i : Nat, (w.map fun k => tl (fig k)).drop i = (w.drop i).map fun k => tl (fig k) := fun i => by rw [List.map_drop]
  have fgt : ∀ i : Nat, Fg (w.take i) := fun i k hk => hw k (List.mem_of_mem_take hk)
  have fgd : ∀ i : Nat, Fg (w.drop i) := fun i k hk => hw k (List.mem_of_mem_drop hk)
  have hlen : (w.map fun k => tl (fig k)).length = w.length := List.length_map _
  obtain ⟨jr, jl⟩ := rows_bd _ hrl (by omega)
  have hh : kAddS (.str (ofT (tl (fig n)))) (.str ":") = some (.str (ofT (tl (fig n) ++ [58]))) := addC [58] rfl (by first | omega | (simp; done) | (simp; omega))
  have hlq : ∀ q : List Nat, q.length ≤ 5 → (q ++ rowsT (w.map fun k => tl (fig k))).length ≤ 5000 := fun q hq => by rw [List.length_append]; omega
  obtain ⟨RS, hRS⟩ : ∃ RS, RS = (w.map fun k => tl (fig k)) := ⟨_, rfl⟩
  rw [← hRS] at e1 hrk hre hrl hlen jr jl hlq
  have j3 := join3 RS hrl
  have j5 := join5 RS hrl
  have j7 := join7 RS hrl
  have j9 := join9 RS hrl
  have jf : fit ((RS.map fun r => ofT (32 :: r)).map D.str) = .ok ((RS.map fun r => ofT (32 :: r)).map D.str) := fit_DD (by rw [List.length_map, List.length_map]; omega)
  have jf1 : fit (RS.map fun r => D.str (ofT r)) = .ok (RS.map fun r => D.str (ofT r)) := fit_DD (by rw [List.length_map]; omega)
  simp -implicitDefEqProofs only [mS, mD, mF, mFS, initE, q1, q2, q3, q4, q5, q6, Nat.reduceAdd, Nat.reduceSub, Nat.reduceEqDiff, q7, q8, q9, q10, reduceIte, q11, q12, q13, q14, q15, q16, q17, q18, q19, q20, q21, q22, q23, q24, q25, q26, q27, q28, q29, q30, q31, q32, q33, q34, q35, q36, q37, q38, q39, q40, q41, q42, q43, q44, q45, q46, q47, q48, q49, q50, q51, q52, q53, q54, q55, q56, q57, q58, valO, lstO, q59, q60, q61, q62, q63, q64, q65, q66, q67, q68, q69, capt, e1, jf1, List.length_map, hlen]
  rw [kDiv_i _ _ (by decide)]
  simp -implicitDefEqProofs only [mS, mD, mF, mFS, initE, q1, q2, q3, q4, q5, q6, Nat.reduceAdd, Nat.reduceSub, Nat.reduceEqDiff, q7, q8, q9, q10, reduceIte, q11, q12, q13, q14, q15, q16, q17, q18, q19, q20, q21, q22, q23, q24, q25, q26, q27, q28, q29, q30, q31, q32, q33, q34, q35, q36, q37, q38, q39, q40, q41, q42, q43, q44, q45, q46, q47, q48, q49, q50, q51, q52, q53, q54, q55, q56, q57, q58, valO, lstO, q59, q60, q61, q62, q63, q64, q65, q66, q67, q68, q69]
  rw [kMod_i _ _ (by omega)]
  simp -implicitDefEqProofs only [mS, mD, mF, mFS, initE, q1, q2, q3, q4, q5, q6, Nat.reduceAdd, Nat.reduceSub, Nat.reduceEqDiff, q7, q8, q9, q10, reduceIte, q11, q12, q13, q14, q15, q16, q17, q18, q19, q20, q21, q22, q23, q24, q25, q26, q27, q28, q29, q30, q31, q32, q33, q34, q35, q36, q37, q38, q39, q40, q41, q42, q43, q44, q45, q46, q47, q48, q49, q50, q51, q52, q53, q54, q55, q56, q57, q58, valO, lstO, q59, q60, q61, q62, q63, q64, q65, q66, q67, q68, q69]
  have a1 := Int.emod_nonneg (z / 32) (show ((w.length : Int) + 1) ≠ 0 by omega)
  have a2 := Int.emod_lt_of_pos (z / 32) (show (0 : Int) < (w.length : Int) + 1 by omega)
  obtain ⟨a, ha⟩ : ∃ a : Nat, z / 32 % ((w.length : Int) + 1) = a := ⟨(z / 32 % ((w.length : Int) + 1)).toNat, by omega⟩
  rw [ha] at a1 a2 ⊢
  rw [kMod_i _ _ (by decide)]
  simp -implicitDefEqProofs only [mS, mD, mF, mFS, initE, q1, q2, q3, q4, q5, q6, Nat.reduceAdd, Nat.reduceSub, Nat.reduceEqDiff, q7, q8, q9, q10, reduceIte, q11, q12, q13, q14, q15, q16, q17, q18, q19, q20, q21, q22, q23, q24, q25, q26, q27, q28, q29, q30, q31, q32, q33, q34, q35, q36, q37, q38, q39, q40, q41, q42, q43, q44, q45, q46, q47, q48, q49, q50, q51, q52, q53, q54, q55, q56, q57, q58, valO, lstO, q59, q60, q61, q62, q63, q64, q65, q66, q67, q68, q69, hst, hh]
  have w1 := Int.emod_nonneg z (show (8 : Int) ≠ 0 by decide)
  have w2 := Int.emod_lt_of_pos z (show (0 : Int) < 8 by decide)
  have c1 : cut (RS.map fun r => D.str (ofT r)) none (some (a : Int)) = (RS.take a).map fun r => D.str (ofT r) := by rw [cut_to _ _ (by omega), Int.toNat_natCast, List.map_take]
  have c2 : cut (RS.map fun r => D.str (ofT r)) (some (a : Int)) none = (RS.drop a).map fun r => D.str (ofT r) := by rw [cut_from _ _ (by omega), Int.toNat_natCast, List.map_drop]
  have c3 : cut (RS.map fun r => D.str (ofT r)) (some ((a : Int) + 1)) none = (RS.drop (a + 1)).map fun r => D.str (ofT r) := by rw [cut_from _ _ (by omega), show ((a : Int) + 1).toNat = a + 1 by omega, List.map_drop]
  have hdv8 : kDiv (.int z) (.int 8) = some (.int (z / 8)) := kDiv_i _ _ (by decide)
  have hdv16 : kDiv (.int z) (.int 16) = some (.int (z / 16)) := kDiv_i _ _ (by decide)
  obtain ⟨s, hs, hps⟩ := piece_ok2 (z / 8)
  have hsl := (menu_of hs).2.2.2
  have hsT : ofT (tl s) = s := of_tl s
  -- rows with the bad piece
  have ins : ∀ d : Nat, fit ((RS.take a).map (fun r => D.str (ofT r)) ++ [D.str s]) = .ok ((RS.take a).map (fun r => D.str (ofT r)) ++ [D.str s]) ∧ fit ((RS.take a).map (fun r => D.str (ofT r)) ++ [D.str s] ++ (RS.drop d).map fun r => D.str (ofT r)) = .ok ((RS.take a ++ tl s :: RS.drop d).map fun r => D.str (ofT r)) ∧ (∀ r ∈ RS.take a ++ tl s :: RS.drop d, r.length ≤ 10) ∧ (RS.take a ++ tl s :: RS.drop d).length ≤ 200 := fun d => by
    refine ⟨fit_DD (by rw [List.length_append, List.length_map, List.length_take, List.length_singleton]; omega), ?_, fun r hr => ?_, by rw [List.length_append, List.length_cons, List.length_take, List.length_drop]; omega⟩
    · rw [fit_DD (by rw [List.length_append, List.length_append, List.length_map, List.length_map, List.length_take, List.length_singleton, List.length_drop]; omega)]
      congr 1
      rw [List.map_append, List.map_cons, hsT]
      simp
    · rcases List.mem_append.mp hr with q | q
      · exact hrl r (List.mem_of_mem_take q)
      · rcases List.mem_cons.mp q with q | q
        · rw [q, tl_len]; omega
        · exact hrl r (List.mem_of_mem_drop q)
  have badr : ∀ (m : Int) (d : Nat) (t : Str), -9 ≤ m ∧ m ≤ 9 → t = ofT (tl (fig m) ++ [58] ++ rowsT (RS.take a ++ tl s :: RS.drop d)) → (rowsT (RS.take a ++ tl s :: RS.drop d)).length ≤ 2200 → mX_read_text [.str t] = .err "BadText" := fun m d t hm ht hlen2 => by
    have hfm := (fig_facts hm).1
    refine bad_rows hm (fgt a) (fgd d) hs ?_ (by rw [ht, tl_of, hRS, hrows, hrowsd, List.append_assoc]; rfl)
    rw [ht, ofTlen, List.length_append, List.length_append, List.length_singleton, tl_len]
    omega
  rcases (show z % 8 = 0 ∨ z % 8 = 1 ∨ z % 8 = 2 ∨ z % 8 = 3 ∨ z % 8 = 4 ∨ z % 8 = 5 ∨ z % 8 = 6 ∨ z % 8 = 7 by omega) with w0 | w0 | w0 | w0 | w0 | w0 | w0 | w0
  · rw [w0]
    have s1 := Int.emod_nonneg (z / 8) (show (8 : Int) ≠ 0 by decide)
    have s2 := Int.emod_lt_of_pos (z / 8) (show (0 : Int) < 8 by decide)
    have hmd : kMod (.int (z / 8)) (.int 8) = some (.int (z / 8 % 8)) := kMod_i _ _ (by decide)
    have hmin : kAddS (.str "-") (.str (ofT (tl (fig n)))) = some (.str (ofT (45 :: tl (fig n)))) := addL [45] rfl (by first | omega | (simp; done) | (simp; omega))
    have hm8 : fit [D.str "", D.str " :", D.str ":", D.str "1:", D.str ":", D.str "::", D.str "", D.str "n:"] = .ok [D.str "", D.str " :", D.str ":", D.str "1:", D.str ":", D.str "::", D.str "", D.str "n:"] := fit_DD (by simp)
    have hi8 : fit [D.int 1, D.int 1, D.int 0, D.int 1, D.int 2, D.int 1, D.int 0, D.int 0] = .ok [D.int 1, D.int 1, D.int 0, D.int 1, D.int 2, D.int 1, D.int 0, D.int 0] := fit_DD (by simp)
    have hnc : 58 ∉ rowsT RS := fun q => by
      unfold rowsT at q
      obtain ⟨r, hr, hq⟩ := List.mem_flatten.mp q
      obtain ⟨r', hr', rfl⟩ := List.mem_map.mp hr
      rw [hRS] at hr'
      obtain ⟨k, hk, rfl⟩ := List.mem_map.mp hr'
      rcases List.mem_cons.mp hq with q | q
      · exact absurd q (by decide)
      · exact (fig_facts (hw k hk)).2.2.2.1 q
    have hx1 : ∀ x : List Nat, 32 ∉ (tl (fig n) ++ x).head? := fun x q => by
      obtain ⟨_, f2, f3, _⟩ := fig_facts h9
      obtain ⟨y, r, e⟩ := List.exists_cons_of_ne_nil f2
      rw [e] at q f3
      have : y = 32 := by simpa using q
      exact f3 (by rw [this]; exact List.mem_cons_self)
    rcases (show z / 8 % 8 = 0 ∨ z / 8 % 8 = 1 ∨ z / 8 % 8 = 2 ∨ z / 8 % 8 = 3 ∨ z / 8 % 8 = 4 ∨ z / 8 % 8 = 5 ∨ z / 8 % 8 = 6 ∨ z / 8 % 8 = 7 by omega) with v0 | v0 | v0 | v0 | v0 | v0 | v0 | v0
    · rw [v0] at hmd
      have i1 : atI [D.int 1, D.int 1, D.int 0, D.int 1, D.int 2, D.int 1, D.int 0, D.int 0] 0 = some (.int 1) := rfl
      have i2 : atI [D.str "", D.str (ofT (tl (fig n))), D.str (ofT (45 :: tl (fig n)))] 1 = some (.str (ofT (tl (fig n)))) := rfl
      have i3 : atI [D.str "", D.str " :", D.str ":", D.str "1:", D.str ":", D.str "::", D.str "", D.str "n:"] 0 = some (.str "") := rfl
      have i4 : kAddS (.str (ofT (tl (fig n)))) (.str "") = some (.str (ofT (tl (fig n)))) := (addC [] (show ("" : Str) = ofT [] from rfl) (by first | omega | (simp; done) | (simp; omega))).trans (by rw [List.append_nil])
      have i5 : kAddS (.str (ofT (tl (fig n)))) (.str (ofT (rowsT RS))) = some (.str (ofT ((tl (fig n)) ++ rowsT RS))) := addT _ _ (by have := hlq (tl (fig n)) (by first | omega | (simp; done) | (simp; omega)); rw [List.length_append] at this; omega)
      simp -implicitDefEqProofs only [mS, mD, mF, mFS, initE, q1, q2, q3, q4, q5, q6, Nat.reduceAdd, Nat.reduceSub, Nat.reduceEqDiff, q7, q8, q9, q10, reduceIte, q11, q12, q13, q14, q15, q16, q17, q18, q19, q20, q21, q22, q23, q24, q25, q26, q27, q28, q29, q30, q31, q32, q33, q34, q35, q36, q37, q38, q39, q40, q41, q42, q43, q44, q45, q46, q47, q48, q49, q50, q51, q52, q53, q54, q55, q56, q57, q58, valO, lstO, q59, q60, q61, q62, q63, q64, q65, q66, q67, q68, q69, show ((0 : Int) == 0) = true from rfl, show ((0 : Int) == 1) = false from rfl, show ((0 : Int) == 2) = false from rfl, show ((0 : Int) == 3) = false from rfl, show ((0 : Int) == 4) = false from rfl, show ((0 : Int) == 5) = false from rfl, show ((0 : Int) == 6) = false from rfl, show ((0 : Int) == 7) = false from rfl, capt, hm8, hi8, hst, hmin, hdv8, hmd, i1, i2, i3, i4, j9, jf, jr, asStr_s, i5]
      refine ⟨_, rfl, ?_⟩
      refine rt_none (by rw [ofTlen]; first | omega | (simp -implicitDefEqProofs only [List.length_append, List.length_cons, List.length_nil]; omega)) ?_
      rw [tl_of]
      intro q
      rcases List.mem_append.mp q with q | q
      · exact fc q
      · exact hnc q
    · rw [v0] at hmd
      have i1 : atI [D.int 1, D.int 1, D.int 0, D.int 1, D.int 2, D.int 1, D.int 0, D.int 0] 1 = some (.int 1) := rfl
      have i2 : atI [D.str "", D.str (ofT (tl (fig n))), D.str (ofT (45 :: tl (fig n)))] 1 = some (.str (ofT (tl (fig n)))) := rfl
      have i3 : atI [D.str "", D.str " :", D.str ":", D.str "1:", D.str ":", D.str "::", D.str "", D.str "n:"] 1 = some (.str " :") := rfl
      have i4 : kAddS (.str (ofT (tl (fig n)))) (.str " :") = some (.str (ofT ((tl (fig n)) ++ [32, 58]))) := addC [32, 58] rfl (by first | omega | (simp; done) | (simp; omega))
      have i5 : kAddS (.str (ofT ((tl (fig n)) ++ [32, 58]))) (.str (ofT (rowsT RS))) = some (.str (ofT (((tl (fig n)) ++ [32, 58]) ++ rowsT RS))) := addT _ _ (by have := hlq ((tl (fig n)) ++ [32, 58]) (by first | omega | (simp; done) | (simp; omega)); rw [List.length_append] at this; omega)
      simp -implicitDefEqProofs only [mS, mD, mF, mFS, initE, q1, q2, q3, q4, q5, q6, Nat.reduceAdd, Nat.reduceSub, Nat.reduceEqDiff, q7, q8, q9, q10, reduceIte, q11, q12, q13, q14, q15, q16, q17, q18, q19, q20, q21, q22, q23, q24, q25, q26, q27, q28, q29, q30, q31, q32, q33, q34, q35, q36, q37, q38, q39, q40, q41, q42, q43, q44, q45, q46, q47, q48, q49, q50, q51, q52, q53, q54, q55, q56, q57, q58, valO, lstO, q59, q60, q61, q62, q63, q64, q65, q66, q67, q68, q69, show ((0 : Int) == 0) = true from rfl, show ((0 : Int) == 1) = false from rfl, show ((0 : Int) == 2) = false from rfl, show ((0 : Int) == 3) = false from rfl, show ((0 : Int) == 4) = false from rfl, show ((0 : Int) == 5) = false from rfl, show ((0 : Int) == 6) = false from rfl, show ((0 : Int) == 7) = false from rfl, capt, hm8, hi8, hst, hmin, hdv8, hmd, i1, i2, i3, i4, j9, jf, jr, asStr_s, i5]
      refine ⟨_, rfl, ?_⟩
      exact bad_head (p := (tl (fig n)) ++ [32]) (r := rowsT RS) (by rw [ofTlen]; first | omega | (simp -implicitDefEqProofs only [List.length_append, List.length_cons, List.length_nil]; omega)) (by rw [tl_of]; simp) (by simp [fc]) (hx1 [32]) hre cn2
    · rw [v0] at hmd
      have i1 : atI [D.int 1, D.int 1, D.int 0, D.int 1, D.int 2, D.int 1, D.int 0, D.int 0] 2 = some (.int 0) := rfl
      have i2 : atI [D.str "", D.str (ofT (tl (fig n))), D.str (ofT (45 :: tl (fig n)))] 0 = some (.str "") := rfl
      have i3 : atI [D.str "", D.str " :", D.str ":", D.str "1:", D.str ":", D.str "::", D.str "", D.str "n:"] 2 = some (.str ":") := rfl
      have i4 : kAddS (.str "") (.str ":") = some (.str (ofT [58])) := by rw [show ("" : Str) = ofT [] from rfl]; exact addC [58] rfl (by simp)
      have i5 : kAddS (.str (ofT [58])) (.str (ofT (rowsT RS))) = some (.str (ofT ([58] ++ rowsT RS))) := addT _ _ (by have := hlq [58] (by first | omega | (simp; done) | (simp; omega)); rw [List.length_append] at this; omega)
      simp -implicitDefEqProofs only [mS, mD, mF, mFS, initE, q1, q2, q3, q4, q5, q6, Nat.reduceAdd, Nat.reduceSub, Nat.reduceEqDiff, q7, q8, q9, q10, reduceIte, q11, q12, q13, q14, q15, q16, q17, q18, q19, q20, q21, q22, q23, q24, q25, q26, q27, q28, q29, q30, q31, q32, q33, q34, q35, q36, q37, q38, q39, q40, q41, q42, q43, q44, q45, q46, q47, q48, q49, q50, q51, q52, q53, q54, q55, q56, q57, q58, valO, lstO, q59, q60, q61, q62, q63, q64, q65, q66, q67, q68, q69, show ((0 : Int) == 0) = true from rfl, show ((0 : Int) == 1) = false from rfl, show ((0 : Int) == 2) = false from rfl, show ((0 : Int) == 3) = false from rfl, show ((0 : Int) == 4) = false from rfl, show ((0 : Int) == 5) = false from rfl, show ((0 : Int) == 6) = false from rfl, show ((0 : Int) == 7) = false from rfl, capt, hm8, hi8, hst, hmin, hdv8, hmd, i1, i2, i3, i4, j9, jf, jr, asStr_s, i5]
      refine ⟨_, rfl, ?_⟩
      exact bad_head (p := []) (r := rowsT RS) (by rw [ofTlen]; first | omega | (simp -implicitDefEqProofs only [List.length_append, List.length_cons, List.length_nil]; omega)) (by rw [tl_of]; rfl) (by simp) (by simp) hre d_nil
    · rw [v0] at hmd
      have i1 : atI [D.int 1, D.int 1, D.int 0, D.int 1, D.int 2, D.int 1, D.int 0, D.int 0] 3 = some (.int 1) := rfl
      have i2 : atI [D.str "", D.str (ofT (tl (fig n))), D.str (ofT (45 :: tl (fig n)))] 1 = some (.str (ofT (tl (fig n)))) := rfl
      have i3 : atI [D.str "", D.str " :", D.str ":", D.str "1:", D.str ":", D.str "::", D.str "", D.str "n:"] 3 = some (.str "1:") := rfl
      have i4 : kAddS (.str (ofT (tl (fig n)))) (.str "1:") = some (.str (ofT ((tl (fig n)) ++ [49, 58]))) := addC [49, 58] rfl (by first | omega | (simp; done) | (simp; omega))
      have i5 : kAddS (.str (ofT ((tl (fig n)) ++ [49, 58]))) (.str (ofT (rowsT RS))) = some (.str (ofT (((tl (fig n)) ++ [49, 58]) ++ rowsT RS))) := addT _ _ (by have := hlq ((tl (fig n)) ++ [49, 58]) (by first | omega | (simp; done) | (simp; omega)); rw [List.length_append] at this; omega)
      simp -implicitDefEqProofs only [mS, mD, mF, mFS, initE, q1, q2, q3, q4, q5, q6, Nat.reduceAdd, Nat.reduceSub, Nat.reduceEqDiff, q7, q8, q9, q10, reduceIte, q11, q12, q13, q14, q15, q16, q17, q18, q19, q20, q21, q22, q23, q24, q25, q26, q27, q28, q29, q30, q31, q32, q33, q34, q35, q36, q37, q38, q39, q40, q41, q42, q43, q44, q45, q46, q47, q48, q49, q50, q51, q52, q53, q54, q55, q56, q57, q58, valO, lstO, q59, q60, q61, q62, q63, q64, q65, q66, q67, q68, q69, show ((0 : Int) == 0) = true from rfl, show ((0 : Int) == 1) = false from rfl, show ((0 : Int) == 2) = false from rfl, show ((0 : Int) == 3) = false from rfl, show ((0 : Int) == 4) = false from rfl, show ((0 : Int) == 5) = false from rfl, show ((0 : Int) == 6) = false from rfl, show ((0 : Int) == 7) = false from rfl, capt, hm8, hi8, hst, hmin, hdv8, hmd, i1, i2, i3, i4, j9, jf, jr, asStr_s, i5]
      refine ⟨_, rfl, ?_⟩
      exact bad_head (p := (tl (fig n)) ++ [49]) (r := rowsT RS) (by rw [ofTlen]; first | omega | (simp -implicitDefEqProofs only [List.length_append, List.length_cons, List.length_nil]; omega)) (by rw [tl_of]; simp) (by simp [fc]) (hx1 [49]) hre cn3
    · rw [v0] at hmd
      have i1 : atI [D.int 1, D.int 1, D.int 0, D.int 1, D.int 2, D.int 1, D.int 0, D.int 0] 4 = some (.int 2) := rfl
      have i2 : atI [D.str "", D.str (ofT (tl (fig n))), D.str (ofT (45 :: tl (fig n)))] 2 = some (.str (ofT (45 :: (tl (fig n))))) := rfl
      have i3 : atI [D.str "", D.str " :", D.str ":", D.str "1:", D.str ":", D.str "::", D.str "", D.str "n:"] 4 = some (.str ":") := rfl
      have i4 : kAddS (.str (ofT (45 :: (tl (fig n))))) (.str ":") = some (.str (ofT (45 :: ((tl (fig n)) ++ [58])))) := addC [58] rfl (by first | omega | (simp; done) | (simp; omega))
      have i5 : kAddS (.str (ofT (45 :: ((tl (fig n)) ++ [58])))) (.str (ofT (rowsT RS))) = some (.str (ofT ((45 :: ((tl (fig n)) ++ [58])) ++ rowsT RS))) := addT _ _ (by have := hlq (45 :: ((tl (fig n)) ++ [58])) (by first | omega | (simp; done) | (simp; omega)); rw [List.length_append] at this; omega)
      simp -implicitDefEqProofs only [mS, mD, mF, mFS, initE, q1, q2, q3, q4, q5, q6, Nat.reduceAdd, Nat.reduceSub, Nat.reduceEqDiff, q7, q8, q9, q10, reduceIte, q11, q12, q13, q14, q15, q16, q17, q18, q19, q20, q21, q22, q23, q24, q25, q26, q27, q28, q29, q30, q31, q32, q33, q34, q35, q36, q37, q38, q39, q40, q41, q42, q43, q44, q45, q46, q47, q48, q49, q50, q51, q52, q53, q54, q55, q56, q57, q58, valO, lstO, q59, q60, q61, q62, q63, q64, q65, q66, q67, q68, q69, show ((0 : Int) == 0) = true from rfl, show ((0 : Int) == 1) = false from rfl, show ((0 : Int) == 2) = false from rfl, show ((0 : Int) == 3) = false from rfl, show ((0 : Int) == 4) = false from rfl, show ((0 : Int) == 5) = false from rfl, show ((0 : Int) == 6) = false from rfl, show ((0 : Int) == 7) = false from rfl, capt, hm8, hi8, hst, hmin, hdv8, hmd, i1, i2, i3, i4, j9, jf, jr, asStr_s, i5]
      refine ⟨_, rfl, ?_⟩
      exact bad_head (p := 45 :: (tl (fig n))) (r := rowsT RS) (by rw [ofTlen]; first | omega | (simp -implicitDefEqProofs only [List.length_append, List.length_cons, List.length_nil]; omega)) (by rw [tl_of]; simp) (by simp [fc]) (by simp) hre cn4
    · rw [v0] at hmd
      have i1 : atI [D.int 1, D.int 1, D.int 0, D.int 1, D.int 2, D.int 1, D.int 0, D.int 0] 5 = some (.int 1) := rfl
      have i2 : atI [D.str "", D.str (ofT (tl (fig n))), D.str (ofT (45 :: tl (fig n)))] 1 = some (.str (ofT (tl (fig n)))) := rfl
      have i3 : atI [D.str "", D.str " :", D.str ":", D.str "1:", D.str ":", D.str "::", D.str "", D.str "n:"] 5 = some (.str "::") := rfl
      have i4 : kAddS (.str (ofT (tl (fig n)))) (.str "::") = some (.str (ofT ((tl (fig n)) ++ [58, 58]))) := addC [58, 58] rfl (by first | omega | (simp; done) | (simp; omega))
      have i5 : kAddS (.str (ofT ((tl (fig n)) ++ [58, 58]))) (.str (ofT (rowsT RS))) = some (.str (ofT (((tl (fig n)) ++ [58, 58]) ++ rowsT RS))) := addT _ _ (by have := hlq ((tl (fig n)) ++ [58, 58]) (by first | omega | (simp; done) | (simp; omega)); rw [List.length_append] at this; omega)
      simp -implicitDefEqProofs only [mS, mD, mF, mFS, initE, q1, q2, q3, q4, q5, q6, Nat.reduceAdd, Nat.reduceSub, Nat.reduceEqDiff, q7, q8, q9, q10, reduceIte, q11, q12, q13, q14, q15, q16, q17, q18, q19, q20, q21, q22, q23, q24, q25, q26, q27, q28, q29, q30, q31, q32, q33, q34, q35, q36, q37, q38, q39, q40, q41, q42, q43, q44, q45, q46, q47, q48, q49, q50, q51, q52, q53, q54, q55, q56, q57, q58, valO, lstO, q59, q60, q61, q62, q63, q64, q65, q66, q67, q68, q69, show ((0 : Int) == 0) = true from rfl, show ((0 : Int) == 1) = false from rfl, show ((0 : Int) == 2) = false from rfl, show ((0 : Int) == 3) = false from rfl, show ((0 : Int) == 4) = false from rfl, show ((0 : Int) == 5) = false from rfl, show ((0 : Int) == 6) = false from rfl, show ((0 : Int) == 7) = false from rfl, capt, hm8, hi8, hst, hmin, hdv8, hmd, i1, i2, i3, i4, j9, jf, jr, asStr_s, i5]
      refine ⟨_, rfl, ?_⟩
      exact bad_tail (p := (tl (fig n))) (r := 58 :: rowsT RS) (by rw [ofTlen]; first | omega | (simp -implicitDefEqProofs only [List.length_append, List.length_cons, List.length_nil]; omega)) (by rw [tl_of]; simp) fc fh (by
        rcases hre with q | ⟨q, y, q1, q2⟩
        · exact .inr ⟨[], 58, by rw [q]; rfl, by decide⟩
        · exact .inr ⟨58 :: q, y, by rw [q1]; rfl, q2⟩) (by unfold tailO; rw [if_pos ⟨by simp, by simp⟩])
    · rw [v0] at hmd
      have i1 : atI [D.int 1, D.int 1, D.int 0, D.int 1, D.int 2, D.int 1, D.int 0, D.int 0] 6 = some (.int 0) := rfl
      have i2 : atI [D.str "", D.str (ofT (tl (fig n))), D.str (ofT (45 :: tl (fig n)))] 0 = some (.str "") := rfl
      have i3 : atI [D.str "", D.str " :", D.str ":", D.str "1:", D.str ":", D.str "::", D.str "", D.str "n:"] 6 = some (.str "") := rfl
      have i4 : kAddS (.str "") (.str "") = some (.str (ofT [])) := by rw [show ("" : Str) = ofT [] from rfl]; exact addC [] rfl (by simp)
      have i5 : kAddS (.str (ofT [])) (.str (ofT (rowsT RS))) = some (.str (ofT ([] ++ rowsT RS))) := addT _ _ (by have := hlq [] (by first | omega | (simp; done) | (simp; omega)); rw [List.length_append] at this; omega)
      simp -implicitDefEqProofs only [mS, mD, mF, mFS, initE, q1, q2, q3, q4, q5, q6, Nat.reduceAdd, Nat.reduceSub, Nat.reduceEqDiff, q7, q8, q9, q10, reduceIte, q11, q12, q13, q14, q15, q16, q17, q18, q19, q20, q21, q22, q23, q24, q25, q26, q27, q28, q29, q30, q31, q32, q33, q34, q35, q36, q37, q38, q39, q40, q41, q42, q43, q44, q45, q46, q47, q48, q49, q50, q51, q52, q53, q54, q55, q56, q57, q58, valO, lstO, q59, q60, q61, q62, q63, q64, q65, q66, q67, q68, q69, show ((0 : Int) == 0) = true from rfl, show ((0 : Int) == 1) = false from rfl, show ((0 : Int) == 2) = false from rfl, show ((0 : Int) == 3) = false from rfl, show ((0 : Int) == 4) = false from rfl, show ((0 : Int) == 5) = false from rfl, show ((0 : Int) == 6) = false from rfl, show ((0 : Int) == 7) = false from rfl, capt, hm8, hi8, hst, hmin, hdv8, hmd, i1, i2, i3, i4, j9, jf, jr, asStr_s, i5]
      refine ⟨_, rfl, ?_⟩
      refine rt_none (by rw [ofTlen]; first | omega | (simp -implicitDefEqProofs only [List.length_append, List.length_cons, List.length_nil]; omega)) ?_
      rw [tl_of]
      exact fun q => hnc q
    · rw [v0] at hmd
      have i1 : atI [D.int 1, D.int 1, D.int 0, D.int 1, D.int 2, D.int 1, D.int 0, D.int 0] 7 = some (.int 0) := rfl
      have i2 : atI [D.str "", D.str (ofT (tl (fig n))), D.str (ofT (45 :: tl (fig n)))] 0 = some (.str "") := rfl
      have i3 : atI [D.str "", D.str " :", D.str ":", D.str "1:", D.str ":", D.str "::", D.str "", D.str "n:"] 7 = some (.str "n:") := rfl
      have i4 : kAddS (.str "") (.str "n:") = some (.str (ofT [110, 58])) := by rw [show ("" : Str) = ofT [] from rfl]; exact addC [110, 58] rfl (by simp)
      have i5 : kAddS (.str (ofT [110, 58])) (.str (ofT (rowsT RS))) = some (.str (ofT ([110, 58] ++ rowsT RS))) := addT _ _ (by have := hlq [110, 58] (by first | omega | (simp; done) | (simp; omega)); rw [List.length_append] at this; omega)
      simp -implicitDefEqProofs only [mS, mD, mF, mFS, initE, q1, q2, q3, q4, q5, q6, Nat.reduceAdd, Nat.reduceSub, Nat.reduceEqDiff, q7, q8, q9, q10, reduceIte, q11, q12, q13, q14, q15, q16, q17, q18, q19, q20, q21, q22, q23, q24, q25, q26, q27, q28, q29, q30, q31, q32, q33, q34, q35, q36, q37, q38, q39, q40, q41, q42, q43, q44, q45, q46, q47, q48, q49, q50, q51, q52, q53, q54, q55, q56, q57, q58, valO, lstO, q59, q60, q61, q62, q63, q64, q65, q66, q67, q68, q69, show ((0 : Int) == 0) = true from rfl, show ((0 : Int) == 1) = false from rfl, show ((0 : Int) == 2) = false from rfl, show ((0 : Int) == 3) = false from rfl, show ((0 : Int) == 4) = false from rfl, show ((0 : Int) == 5) = false from rfl, show ((0 : Int) == 6) = false from rfl, show ((0 : Int) == 7) = false from rfl, capt, hm8, hi8, hst, hmin, hdv8, hmd, i1, i2, i3, i4, j9, jf, jr, asStr_s, i5]
      refine ⟨_, rfl, ?_⟩
      exact bad_head (p := [110]) (r := rowsT RS) (by rw [ofTlen]; first | omega | (simp -implicitDefEqProofs only [List.length_append, List.length_cons, List.length_nil]; omega)) (by rw [tl_of]; rfl) (by simp) (by simp) hre d_n
  · rw [w0]
    obtain ⟨f1, f2, f3, f4⟩ := ins a
    obtain ⟨jr2, jl2⟩ := rows_bd _ f3 f4
    have j9b := join9 _ f3
    have jfb : fit (((RS.take a ++ tl s :: RS.drop a).map fun r => ofT (32 :: r)).map D.str) = .ok (((RS.take a ++ tl s :: RS.drop a).map fun r => ofT (32 :: r)).map D.str) := fit_DD (by rw [List.length_map, List.length_map]; omega)
    have i5 : kAddS (.str (ofT (tl (fig n) ++ [58]))) (.str (ofT (rowsT (RS.take a ++ tl s :: RS.drop a)))) = some (.str (ofT (tl (fig n) ++ [58] ++ rowsT (RS.take a ++ tl s :: RS.drop a)))) := addT _ _ (by rw [List.length_append, List.length_singleton]; omega)
    simp -implicitDefEqProofs only [mS, mD, mF, mFS, initE, q1, q2, q3, q4, q5, q6, Nat.reduceAdd, Nat.reduceSub, Nat.reduceEqDiff, q7, q8, q9, q10, reduceIte, q11, q12, q13, q14, q15, q16, q17, q18, q19, q20, q21, q22, q23, q24, q25, q26, q27, q28, q29, q30, q31, q32, q33, q34, q35, q36, q37, q38, q39, q40, q41, q42, q43, q44, q45, q46, q47, q48, q49, q50, q51, q52, q53, q54, q55, q56, q57, q58, valO, lstO, q59, q60, q61, q62, q63, q64, q65, q66, q67, q68, q69, show ((1 : Int) == 0) = false from rfl, show ((1 : Int) == 1) = true from rfl, show ((1 : Int) == 2) = false from rfl, show ((1 : Int) == 3) = false from rfl, show ((1 : Int) == 4) = false from rfl, show ((1 : Int) == 5) = false from rfl, show ((1 : Int) == 6) = false from rfl, show ((1 : Int) == 7) = false from rfl, capt, c1, c2, hdv8, hps, f1, f2, j9b, jfb, jr2, asStr_s, i5]
    exact ⟨_, rfl, badr n a _ h9 rfl jl2⟩
  · rw [w0]
    obtain ⟨f1, f2, f3, f4⟩ := ins a
    obtain ⟨jr2, jl2⟩ := rows_bd _ f3 f4
    have j9b := join9 _ f3
    have jfb : fit (((RS.take a ++ tl s :: RS.drop a).map fun r => ofT (32 :: r)).map D.str) = .ok (((RS.take a ++ tl s :: RS.drop a).map fun r => ofT (32 :: r)).map D.str) := fit_DD (by rw [List.length_map, List.length_map]; omega)
    have i5 : kAddS (.str (ofT (tl (fig n) ++ [58]))) (.str (ofT (rowsT (RS.take a ++ tl s :: RS.drop a)))) = some (.str (ofT (tl (fig n) ++ [58] ++ rowsT (RS.take a ++ tl s :: RS.drop a)))) := addT _ _ (by rw [List.length_append, List.length_singleton]; omega)
    simp -implicitDefEqProofs only [mS, mD, mF, mFS, initE, q1, q2, q3, q4, q5, q6, Nat.reduceAdd, Nat.reduceSub, Nat.reduceEqDiff, q7, q8, q9, q10, reduceIte, q11, q12, q13, q14, q15, q16, q17, q18, q19, q20, q21, q22, q23, q24, q25, q26, q27, q28, q29, q30, q31, q32, q33, q34, q35, q36, q37, q38, q39, q40, q41, q42, q43, q44, q45, q46, q47, q48, q49, q50, q51, q52, q53, q54, q55, q56, q57, q58, valO, lstO, q59, q60, q61, q62, q63, q64, q65, q66, q67, q68, q69, show ((2 : Int) == 0) = false from rfl, show ((2 : Int) == 1) = false from rfl, show ((2 : Int) == 2) = true from rfl, show ((2 : Int) == 3) = false from rfl, show ((2 : Int) == 4) = false from rfl, show ((2 : Int) == 5) = false from rfl, show ((2 : Int) == 6) = false from rfl, show ((2 : Int) == 7) = false from rfl, capt, c1, c2, hdv8, hps, f1, f2, j9b, jfb, jr2, asStr_s, i5]
    exact ⟨_, rfl, badr n a _ h9 rfl jl2⟩
  · rw [w0]
    have i4 : kAddS (.str (ofT (tl (fig n) ++ [58]))) (.str "1") = some (.str (ofT (tl (fig n) ++ [58] ++ [49]))) := addC [49] rfl (by first | omega | (simp; done) | (simp; omega))
    have i5 : kAddS (.str (ofT (tl (fig n) ++ [58] ++ [49]))) (.str (ofT (rowsT RS))) = some (.str (ofT (tl (fig n) ++ [58] ++ [49] ++ rowsT RS))) := addT _ _ (by first | omega | (simp; done) | (simp; omega))
    simp -implicitDefEqProofs only [mS, mD, mF, mFS, initE, q1, q2, q3, q4, q5, q6, Nat.reduceAdd, Nat.reduceSub, Nat.reduceEqDiff, q7, q8, q9, q10, reduceIte, q11, q12, q13, q14, q15, q16, q17, q18, q19, q20, q21, q22, q23, q24, q25, q26, q27, q28, q29, q30, q31, q32, q33, q34, q35, q36, q37, q38, q39, q40, q41, q42, q43, q44, q45, q46, q47, q48, q49, q50, q51, q52, q53, q54, q55, q56, q57, q58, valO, lstO, q59, q60, q61, q62, q63, q64, q65, q66, q67, q68, q69, show ((3 : Int) == 0) = false from rfl, show ((3 : Int) == 1) = false from rfl, show ((3 : Int) == 2) = false from rfl, show ((3 : Int) == 3) = true from rfl, show ((3 : Int) == 4) = false from rfl, show ((3 : Int) == 5) = false from rfl, show ((3 : Int) == 6) = false from rfl, show ((3 : Int) == 7) = false from rfl, capt, i4, j3, jf, jr, asStr_s, i5]
    refine ⟨_, rfl, ?_⟩
    exact bad_tail (p := tl (fig n)) (r := 49 :: rowsT RS) (by rw [ofTlen]; first | omega | (simp -implicitDefEqProofs only [List.length_append, List.length_cons, List.length_nil]; omega)) (by rw [tl_of]; simp) fc fh (by
      rcases hre with q | ⟨q, y, q1, q2⟩
      · exact .inr ⟨[], 49, by rw [q]; rfl, by decide⟩
      · exact .inr ⟨49 :: q, y, by rw [q1]; rfl, q2⟩) (by unfold tailO; rw [if_pos ⟨by simp, by simp⟩])
  · rw [w0]
    obtain ⟨f1, f2, f3, f4⟩ := ins (a + 1)
    obtain ⟨jr2, jl2⟩ := rows_bd _ f3 f4
    have j9b := join9 _ f3
    have jfb : fit (((RS.take a ++ tl s :: RS.drop (a + 1)).map fun r => ofT (32 :: r)).map D.str) = .ok (((RS.take a ++ tl s :: RS.drop (a + 1)).map fun r => ofT (32 :: r)).map D.str) := fit_DD (by rw [List.length_map, List.length_map]; omega)
    have s1 := Int.emod_nonneg (z / 16) (show (3 : Int) ≠ 0 by decide)
    have s2 := Int.emod_lt_of_pos (z / 16) (show (0 : Int) < 3 by decide)
    have hmd : kMod (.int (z / 16)) (.int 3) = some (.int (z / 16 % 3)) := kMod_i _ _ (by decide)
    obtain ⟨m, hm, hat⟩ : ∃ m : Int, (-9 ≤ m ∧ m ≤ 9) ∧ atI [D.str "0:", D.str "8:", D.str "9:"] (z / 16 % 3) = some (.str (ofT (tl (fig m) ++ [58]))) := by
      rcases (show z / 16 % 3 = 0 ∨ z / 16 % 3 = 1 ∨ z / 16 % 3 = 2 by omega) with v0 | v0 | v0
      · exact ⟨0, by omega, by rw [v0]; rfl⟩
      · exact ⟨8, by omega, by rw [v0]; rfl⟩
      · exact ⟨9, by omega, by rw [v0]; rfl⟩
    have hfm := (fig_facts hm).1
    rw [← tl_len] at hfm
    have i5 : kAddS (.str (ofT (tl (fig m) ++ [58]))) (.str (ofT (rowsT (RS.take a ++ tl s :: RS.drop (a + 1))))) = some (.str (ofT (tl (fig m) ++ [58] ++ rowsT (RS.take a ++ tl s :: RS.drop (a + 1))))) := addT _ _ (by rw [List.length_append, List.length_singleton]; omega)
    simp -implicitDefEqProofs only [mS, mD, mF, mFS, initE, q1, q2, q3, q4, q5, q6, Nat.reduceAdd, Nat.reduceSub, Nat.reduceEqDiff, q7, q8, q9, q10, reduceIte, q11, q12, q13, q14, q15, q16, q17, q18, q19, q20, q21, q22, q23, q24, q25, q26, q27, q28, q29, q30, q31, q32, q33, q34, q35, q36, q37, q38, q39, q40, q41, q42, q43, q44, q45, q46, q47, q48, q49, q50, q51, q52, q53, q54, q55, q56, q57, q58, valO, lstO, q59, q60, q61, q62, q63, q64, q65, q66, q67, q68, q69, show ((4 : Int) == 0) = false from rfl, show ((4 : Int) == 1) = false from rfl, show ((4 : Int) == 2) = false from rfl, show ((4 : Int) == 3) = false from rfl, show ((4 : Int) == 4) = true from rfl, show ((4 : Int) == 5) = false from rfl, show ((4 : Int) == 6) = false from rfl, show ((4 : Int) == 7) = false from rfl, capt, c1, c3, hdv8, hps, f1, f2, hdv16, hmd, hat, j9b, jfb, jr2, asStr_s, i5]
    exact ⟨_, rfl, badr m (a + 1) _ hm rfl jl2⟩
  · rw [w0]
    have i4 : kAddS (.str "\n") (.str (ofT (tl (fig n) ++ [58]))) = some (.str (ofT (10 :: (tl (fig n) ++ [58])))) := addL [10] rfl (by first | omega | (simp; done) | (simp; omega))
    have i5 : kAddS (.str (ofT (10 :: (tl (fig n) ++ [58])))) (.str (ofT (rowsT RS))) = some (.str (ofT (10 :: (tl (fig n) ++ [58]) ++ rowsT RS))) := addT _ _ (by first | omega | (simp; done) | (simp; omega))
    simp -implicitDefEqProofs only [mS, mD, mF, mFS, initE, q1, q2, q3, q4, q5, q6, Nat.reduceAdd, Nat.reduceSub, Nat.reduceEqDiff, q7, q8, q9, q10, reduceIte, q11, q12, q13, q14, q15, q16, q17, q18, q19, q20, q21, q22, q23, q24, q25, q26, q27, q28, q29, q30, q31, q32, q33, q34, q35, q36, q37, q38, q39, q40, q41, q42, q43, q44, q45, q46, q47, q48, q49, q50, q51, q52, q53, q54, q55, q56, q57, q58, valO, lstO, q59, q60, q61, q62, q63, q64, q65, q66, q67, q68, q69, show ((5 : Int) == 0) = false from rfl, show ((5 : Int) == 1) = false from rfl, show ((5 : Int) == 2) = false from rfl, show ((5 : Int) == 3) = false from rfl, show ((5 : Int) == 4) = false from rfl, show ((5 : Int) == 5) = true from rfl, show ((5 : Int) == 6) = false from rfl, show ((5 : Int) == 7) = false from rfl, capt, i4, j5, jf, jr, asStr_s, i5]
    refine ⟨_, rfl, ?_⟩
    exact bad_head (p := 10 :: tl (fig n)) (r := rowsT RS) (by rw [ofTlen]; first | omega | (simp -implicitDefEqProofs only [List.length_append, List.length_cons, List.length_nil]; omega)) (by rw [tl_of]; simp) (by simp [fc]) (by simp) hre cn5
  · rw [w0]
    have i4 : kAddS (.str (ofT (tl (fig n) ++ [58]))) (.str (ofT (rowsT RS))) = some (.str (ofT (tl (fig n) ++ [58] ++ rowsT RS))) := addT _ _ (by first | omega | (simp; done) | (simp; omega))
    have i5 : kAddS (.str (ofT (tl (fig n) ++ [58] ++ rowsT RS))) (.str "\n") = some (.str (ofT (tl (fig n) ++ [58] ++ rowsT RS ++ [10]))) := addC [10] rfl (by first | omega | (simp; done) | (simp; omega))
    simp -implicitDefEqProofs only [mS, mD, mF, mFS, initE, q1, q2, q3, q4, q5, q6, Nat.reduceAdd, Nat.reduceSub, Nat.reduceEqDiff, q7, q8, q9, q10, reduceIte, q11, q12, q13, q14, q15, q16, q17, q18, q19, q20, q21, q22, q23, q24, q25, q26, q27, q28, q29, q30, q31, q32, q33, q34, q35, q36, q37, q38, q39, q40, q41, q42, q43, q44, q45, q46, q47, q48, q49, q50, q51, q52, q53, q54, q55, q56, q57, q58, valO, lstO, q59, q60, q61, q62, q63, q64, q65, q66, q67, q68, q69, show ((6 : Int) == 0) = false from rfl, show ((6 : Int) == 1) = false from rfl, show ((6 : Int) == 2) = false from rfl, show ((6 : Int) == 3) = false from rfl, show ((6 : Int) == 4) = false from rfl, show ((6 : Int) == 5) = false from rfl, show ((6 : Int) == 6) = true from rfl, show ((6 : Int) == 7) = false from rfl, capt, i4, j7, jf, jr, asStr_s, i5]
    refine ⟨_, rfl, ?_⟩
    have hlt : (ofT (tl (fig n) ++ [58] ++ rowsT RS ++ [10])).length ≤ 20000 := by
      rw [ofTlen]
      simp -implicitDefEqProofs only [List.length_append, List.length_singleton]
      omega
    refine bad_tail (p := tl (fig n)) (r := rowsT RS ++ [10]) hlt (by rw [tl_of]; simp) fc fh (.inr ⟨rowsT RS, 10, rfl, by decide⟩) ?_
    rcases List.eq_nil_or_concat RS with q | ⟨init, last, q⟩
    · rw [q]
      unfold tailO
      rw [if_pos ⟨by simp [rowsT], by simp [rowsT]⟩]
    · have hlast : last ∈ w.map fun k => tl (fig k) := by rw [← hRS, q]; simp
      obtain ⟨k, hk, hk2⟩ := List.mem_map.mp hlast
      have hR : ∀ r ∈ init ++ [last ++ [10]], Rk r := fun r hr => by
        rcases List.mem_append.mp hr with y | y
        · exact hrk r (by rw [q]; simp [y])
        · have : r = last ++ [10] := by simpa using y
          have h5 := (hrk last (by rw [q]; simp)).2
          rw [this]
          exact ⟨by simp, by simp [h5]⟩
      have eR : rowsT RS ++ [10] = rowsT (init ++ [last ++ [10]]) := by
        rw [q, List.concat_eq_append, rowsT_app, rowsT_app, rowsT_cons, rowsT_cons, List.append_assoc]
        simp [rowsT]
      rw [eR, tail_rows hR]
      exact rws_none _ (last ++ [10]) (by simp) (by rw [← hk2]; exact chkE_of (hw k hk))
  · rw [w0]
    have s1 := Int.emod_nonneg (z / 8) (show (6 : Int) ≠ 0 by decide)
    have s2 := Int.emod_lt_of_pos (z / 8) (show (0 : Int) < 6 by decide)
    have hmd : kMod (.int (z / 8)) (.int 6) = some (.int (z / 8 % 6)) := kMod_i _ _ (by decide)
    have h6 : fit [D.str "", D.str " ", D.str "4", D.str "1 :", D.str "\n", D.str ": 1"] = .ok [D.str "", D.str " ", D.str "4", D.str "1 :", D.str "\n", D.str ": 1"] := fit_DD (by simp)
    obtain ⟨x, hat, hx⟩ : ∃ x : Str, atI [D.str "", D.str " ", D.str "4", D.str "1 :", D.str "\n", D.str ": 1"] (z / 8 % 6) = some (.str x) ∧ mX_read_text [.str x] = .err "BadText" := by
      rcases (show z / 8 % 6 = 0 ∨ z / 8 % 6 = 1 ∨ z / 8 % 6 = 2 ∨ z / 8 % 6 = 3 ∨ z / 8 % 6 = 4 ∨ z / 8 % 6 = 5 by omega) with v0 | v0 | v0 | v0 | v0 | v0
      · exact ⟨"", by rw [v0]; rfl, rt_none (by decide +kernel) (by decide +kernel)⟩
      · exact ⟨" ", by rw [v0]; rfl, rt_none (by decide +kernel) (by decide +kernel)⟩
      · exact ⟨"4", by rw [v0]; rfl, rt_none (by decide +kernel) (by decide +kernel)⟩
      · exact ⟨"1 :", by rw [v0]; rfl, bad_head (p := [49, 32]) (r := []) (by decide +kernel) rfl (by decide) (by decide) (.inl rfl) (by decide +kernel)⟩
      · exact ⟨"\n", by rw [v0]; rfl, rt_none (by decide +kernel) (by decide +kernel)⟩
      · exact ⟨": 1", by rw [v0]; rfl, bad_head (p := []) (r := [32, 49]) (by decide +kernel) rfl (by decide) (by decide) (.inr ⟨[32], 49, rfl, by decide⟩) d_nil⟩
    simp -implicitDefEqProofs only [mS, mD, mF, mFS, initE, q1, q2, q3, q4, q5, q6, Nat.reduceAdd, Nat.reduceSub, Nat.reduceEqDiff, q7, q8, q9, q10, reduceIte, q11, q12, q13, q14, q15, q16, q17, q18, q19, q20, q21, q22, q23, q24, q25, q26, q27, q28, q29, q30, q31, q32, q33, q34, q35, q36, q37, q38, q39, q40, q41, q42, q43, q44, q45, q46, q47, q48, q49, q50, q51, q52, q53, q54, q55, q56, q57, q58, valO, lstO, q59, q60, q61, q62, q63, q64, q65, q66, q67, q68, q69, show ((7 : Int) == 0) = false from rfl, show ((7 : Int) == 1) = false from rfl, show ((7 : Int) == 2) = false from rfl, show ((7 : Int) == 3) = false from rfl, show ((7 : Int) == 4) = false from rfl, show ((7 : Int) == 5) = false from rfl, show ((7 : Int) == 6) = false from rfl, show ((7 : Int) == 7) = true from rfl, hdv8, hmd, h6, hat]
    exact ⟨x, rfl, hx⟩

end DL

namespace DL
open PySem PySem.Spec PyProof.Rows L2

theorem compD_ints {b : D → DE → R DE} {ct : DE → R Bool} {fe : DE → R D} {e₀ : DE} (g : Int → Int) (w : List Int) (h : ∀ k ∈ w, ∃ e, b (.int k) e₀ = .ok e ∧ ct e = .ok true ∧ fe e = .ok (.int (g k))) : compD b ct fe e₀ (ofI w) = .ok (ofI (w.map g)) := by
  rw [compD_map (fun d => match d with
    | .int k => .int (g k)
    | _ => .non) _ fun x hx => by
      obtain ⟨k, hk, rfl⟩ := List.mem_map.mp hx
      exact h k hk]
  unfold ofI
  rw [List.map_map, List.map_map]
  rfl
theorem good_bad {n : Int} {w : List Int} (h : ¬ (1 ≤ n ∧ n ≤ 7) ∨ ∃ k ∈ w, ¬ IsX n k) : goodB n w = false := by
  cases hg : goodB n w with
  | false => rfl
  | true =>
    exfalso
    unfold goodB at hg
    rw [Bool.and_eq_true, Bool.and_eq_true, decide_eq_true_eq, decide_eq_true_eq] at hg
    rcases h with h | ⟨k, hk, h⟩
    · exact h ⟨hg.1.1, hg.1.2⟩
    · exact h ((isxB_iff n k).mp (List.all_eq_true.mp hg.2 k hk))
theorem no_word_ok {n : Int} (h1 : 1 ≤ n) (h7 : n ≤ 7) {w : List Int} (hx : ∀ k ∈ w, IsX n k) (hl : w.length ≤ 60) (z : Int) : ∃ s : Str, m__law_no_word [.int n, .lst (ofI w), .int z] = .ok (.str s) ∧ mX_read_text [.str s] = .err "NoWord" := by
  have hw : Fg w := fg_of h7 hx
  have hz : ∀ k ∈ w, k ≠ 0 := fun k hk => (hx k hk).1
  have key : ∀ (m : Int) (u : List Int), 0 ≤ m → m ≤ 9 → Fg u → (∀ k ∈ u, k ≠ 0) → u.length ≤ 100 → (¬ (1 ≤ m ∧ m ≤ 7) ∨ ∃ k ∈ u, ¬ IsX m k) → m__law_text [.int m, .lst (ofI u)] = .ok (.str (txt m u)) ∧ mX_read_text [.str (txt m u)] = .err "NoWord" := fun m u m0 m9 hu hz hul hb => by
    refine ⟨text_ok (by omega) hu (by omega), ?_⟩
    rw [read_txt m0 m9 hu hz (by omega), good_bad hb]
    rfl
  unfold m__law_no_word b__law_no_word
  simp -implicitDefEqProofs only [mS, mD, mF, mFS, initE, q1, q2, q3, q4, q5, q6, Nat.reduceAdd, Nat.reduceSub, Nat.reduceEqDiff, q7, q8, q9, q10, reduceIte, q11, q12, q13, q14, q15, q16, q17, q18, q19, q20, q21, q22, q23, q24, q25, q26, q27, q28, q29, q30, q31, q32, q33, q34, q35, q36, q37, q38, q39, q40, q41, q42, q43, q44, q45, q46, q47, q48, q49, q50, q51, q52, q53, q54, q55, q56, q57, q58, valO, lstO, q59, q60, q61, q62, q63, q64, q65, q66, q67, q68, q69, ofI_len]
  rw [kDiv_i _ _ (by decide)]
  simp -implicitDefEqProofs only [mS, mD, mF, mFS, initE, q1, q2, q3, q4, q5, q6, Nat.reduceAdd, Nat.reduceSub, Nat.reduceEqDiff, q7, q8, q9, q10, reduceIte, q11, q12, q13, q14, q15, q16, q17, q18, q19, q20, q21, q22, q23, q24, q25, q26, q27, q28, q29, q30, q31, q32, q33, q34, q35, q36, q37, q38, q39, q40, q41, q42, q43, q44, q45, q46, q47, q48, q49, q50, q51, q52, q53, q54, q55, q56, q57, q58, valO, lstO, q59, q60, q61, q62, q63, q64, q65, q66, q67, q68, q69]
  have hmd3 : kMod (.int z) (.int 3) = some (.int (z % 3)) := kMod_i _ _ (by decide)
  rw [kMod_i _ _ (by omega)]
  simp -implicitDefEqProofs only [mS, mD, mF, mFS, initE, q1, q2, q3, q4, q5, q6, Nat.reduceAdd, Nat.reduceSub, Nat.reduceEqDiff, q7, q8, q9, q10, reduceIte, q11, q12, q13, q14, q15, q16, q17, q18, q19, q20, q21, q22, q23, q24, q25, q26, q27, q28, q29, q30, q31, q32, q33, q34, q35, q36, q37, q38, q39, q40, q41, q42, q43, q44, q45, q46, q47, q48, q49, q50, q51, q52, q53, q54, q55, q56, q57, q58, valO, lstO, q59, q60, q61, q62, q63, q64, q65, q66, q67, q68, q69, hmd3]
  have a1 := Int.emod_nonneg (z / 32) (show ((w.length : Int) + 1) ≠ 0 by omega)
  have a2 := Int.emod_lt_of_pos (z / 32) (show (0 : Int) < (w.length : Int) + 1 by omega)
  obtain ⟨a, ha⟩ : ∃ a : Nat, z / 32 % ((w.length : Int) + 1) = a := ⟨(z / 32 % ((w.length : Int) + 1)).toNat, by omega⟩
  rw [ha] at a1 a2 ⊢
  have w1 := Int.emod_nonneg z (show (3 : Int) ≠ 0 by decide)
  have w2 := Int.emod_lt_of_pos z (show (0 : Int) < 3 by decide)
  have hdv3 : kDiv (.int z) (.int 3) = some (.int (z / 3)) := kDiv_i _ _ (by decide)
  by_cases c0 : z % 3 = 0
  · have b0 : (z % 3 == 0) = true := by rw [beq_iff_eq]; exact c0
    have s1 := Int.emod_nonneg (z / 3) (show (3 : Int) ≠ 0 by decide)
    have s2 := Int.emod_lt_of_pos (z / 3) (show (0 : Int) < 3 by decide)
    have hmd : kMod (.int (z / 3)) (.int 3) = some (.int (z / 3 % 3)) := kMod_i _ _ (by decide)
    obtain ⟨m, hat, hm⟩ : ∃ m : Int, atI [D.int 0, D.int 8, D.int 9] (z / 3 % 3) = some (.int m) ∧ (m = 0 ∨ m = 8 ∨ m = 9) := by
      rcases (show z / 3 % 3 = 0 ∨ z / 3 % 3 = 1 ∨ z / 3 % 3 = 2 by omega) with v0 | v0 | v0
      · exact ⟨0, by rw [v0]; rfl, .inl rfl⟩
      · exact ⟨8, by rw [v0]; rfl, .inr (.inl rfl)⟩
      · exact ⟨9, by rw [v0]; rfl, .inr (.inr rfl)⟩
    obtain ⟨k1, k2⟩ := key m w (by omega) (by omega) hw hz (by omega) (.inl (by omega))
    simp -implicitDefEqProofs only [mS, mD, mF, mFS, initE, q1, q2, q3, q4, q5, q6, Nat.reduceAdd, Nat.reduceSub, Nat.reduceEqDiff, q7, q8, q9, q10, reduceIte, q11, q12, q13, q14, q15, q16, q17, q18, q19, q20, q21, q22, q23, q24, q25, q26, q27, q28, q29, q30, q31, q32, q33, q34, q35, q36, q37, q38, q39, q40, q41, q42, q43, q44, q45, q46, q47, q48, q49, q50, q51, q52, q53, q54, q55, q56, q57, q58, valO, lstO, q59, q60, q61, q62, q63, q64, q65, q66, q67, q68, q69, b0, hdv3, hmd, hat, k1]
    exact ⟨_, rfl, k2⟩
  · have b0 : (z % 3 == 0) = false := by rw [beq_eq_false_iff_ne]; exact c0
    have hc : compD (bN 0) b__law_no_word_t1 b__law_no_word_c2 (cpE 1 []) (ofI w) = .ok (ofI (w.map fun k => if k < 0 then -k else k)) := compD_ints (fun k => if k < 0 then -k else k) w fun k _ => ⟨_, bN_ok _ _ _, rfl, rfl⟩
    have hf1 : fit (ofI (w.map fun k => if k < 0 then -k else k)) = .ok (ofI (w.map fun k => if k < 0 then -k else k)) := fit_ofI (by rw [List.length_map]; omega)
    have hf2 : fit (D.int 0 :: ofI (w.map fun k => if k < 0 then -k else k)) = .ok (ofI (0 :: w.map fun k => if k < 0 then -k else k)) := fit_ofI (ns := 0 :: w.map fun k => if k < 0 then -k else k) (by rw [List.length_cons, List.length_map]; omega)
    obtain ⟨F, hF⟩ : ∃ F, (0 :: w.map fun k => if k < 0 then -k else k : List Int).max? = some F := ⟨_, rfl⟩
    have hkm : kMaxL (ofI (0 :: w.map fun k => if k < 0 then -k else k)) = some (.int F) := by
      unfold kMaxL
      rw [toI_of, Option.bind_some, hF]
      rfl
    rw [List.max?_eq_some_iff] at hF
    obtain ⟨F1, F2⟩ := hF
    have F0 : 0 ≤ F := F2 0 (by simp)
    simp -implicitDefEqProofs only [mS, mD, mF, mFS, initE, q1, q2, q3, q4, q5, q6, Nat.reduceAdd, Nat.reduceSub, Nat.reduceEqDiff, q7, q8, q9, q10, reduceIte, q11, q12, q13, q14, q15, q16, q17, q18, q19, q20, q21, q22, q23, q24, q25, q26, q27, q28, q29, q30, q31, q32, q33, q34, q35, q36, q37, q38, q39, q40, q41, q42, q43, q44, q45, q46, q47, q48, q49, q50, q51, q52, q53, q54, q55, q56, q57, q58, valO, lstO, q59, q60, q61, q62, q63, q64, q65, q66, q67, q68, q69, b0, capt, hc, hf1, hf2, hkm, hmd3]
    by_cases c1 : z % 3 = 1 ∧ 0 < F
    · have b1 : (z % 3 == 1) = true := by rw [beq_iff_eq]; exact c1.1
      have b2 : decide (0 < F) = true := decide_eq_true c1.2
      have s1 := Int.emod_nonneg (z / 3) (show F ≠ 0 by omega)
      have s2 := Int.emod_lt_of_pos (z / 3) (show (0 : Int) < F by omega)
      have hmd : kMod (.int (z / 3)) (.int F) = some (.int (z / 3 % F)) := kMod_i _ _ (by omega)
      obtain ⟨k, hk, hkF⟩ : ∃ k ∈ w, (if k < 0 then -k else k) = F := by
        rcases List.mem_cons.mp F1 with q | q
        · omega
        · obtain ⟨k, hk, e⟩ := List.mem_map.mp q
          exact ⟨k, hk, e⟩
      have hk6 := hx k hk
      unfold IsX at hk6
      have hF6 : F ≤ 6 := by
        split at hkF <;> omega
      obtain ⟨k1, k2⟩ := key (1 + z / 3 % F) w (by omega) (by omega) hw hz (by omega) (.inr ⟨k, hk, fun q => by
        unfold IsX at q
        split at hkF <;> omega⟩)
      simp -implicitDefEqProofs only [mS, mD, mF, mFS, initE, q1, q2, q3, q4, q5, q6, Nat.reduceAdd, Nat.reduceSub, Nat.reduceEqDiff, q7, q8, q9, q10, reduceIte, q11, q12, q13, q14, q15, q16, q17, q18, q19, q20, q21, q22, q23, q24, q25, q26, q27, q28, q29, q30, q31, q32, q33, q34, q35, q36, q37, q38, q39, q40, q41, q42, q43, q44, q45, q46, q47, q48, q49, q50, q51, q52, q53, q54, q55, q56, q57, q58, valO, lstO, q59, q60, q61, q62, q63, q64, q65, q66, q67, q68, q69, b1, b2, hdv3, hmd, k1]
      exact ⟨_, rfl, k2⟩
    · have hif : (if (z % 3 == 1) = true then R.ok (decide (0 < F)) else R.ok false : R Bool) = .ok false := by
        by_cases q : z % 3 = 1
        · have b1 : (z % 3 == 1) = true := by rw [beq_iff_eq]; exact q
          rw [if_pos b1, decide_eq_false (fun q2 => c1 ⟨q, q2⟩)]
        · have b1 : ¬ ((z % 3 == 1) = true) := fun q2 => q (beq_iff_eq.mp q2)
          rw [if_neg b1]
      simp -implicitDefEqProofs only [mS, mD, mF, mFS, initE, q1, q2, q3, q4, q5, q6, Nat.reduceAdd, Nat.reduceSub, Nat.reduceEqDiff, q7, q8, q9, q10, reduceIte, q11, q12, q13, q14, q15, q16, q17, q18, q19, q20, q21, q22, q23, q24, q25, q26, q27, q28, q29, q30, q31, q32, q33, q34, q35, q36, q37, q38, q39, q40, q41, q42, q43, q44, q45, q46, q47, q48, q49, q50, q51, q52, q53, q54, q55, q56, q57, q58, valO, lstO, q59, q60, q61, q62, q63, q64, q65, q66, q67, q68, q69, hif, hdv3]
      rw [kMod_i _ _ (by omega)]
      simp -implicitDefEqProofs only [mS, mD, mF, mFS, initE, q1, q2, q3, q4, q5, q6, Nat.reduceAdd, Nat.reduceSub, Nat.reduceEqDiff, q7, q8, q9, q10, reduceIte, q11, q12, q13, q14, q15, q16, q17, q18, q19, q20, q21, q22, q23, q24, q25, q26, q27, q28, q29, q30, q31, q32, q33, q34, q35, q36, q37, q38, q39, q40, q41, q42, q43, q44, q45, q46, q47, q48, q49, q50, q51, q52, q53, q54, q55, q56, q57, q58, valO, lstO, q59, q60, q61, q62, q63, q64, q65, q66, q67, q68, q69]
      have s1 := Int.emod_nonneg (z / 3) (show (10 - n) ≠ 0 by omega)
      have s2 := Int.emod_lt_of_pos (z / 3) (show (0 : Int) < 10 - n by omega)
      have hdv300 : kDiv (.int z) (.int 300) = some (.int (z / 300)) := kDiv_i _ _ (by decide)
      have t1 := Int.emod_nonneg (z / 300) (show (2 : Int) ≠ 0 by decide)
      have t2 := Int.emod_lt_of_pos (z / 300) (show (0 : Int) < 2 by decide)
      have hmd2 : kMod (.int (z / 300)) (.int 2) = some (.int (z / 300 % 2)) := kMod_i _ _ (by decide)
      obtain ⟨x, hat, hxv⟩ : ∃ x : Int, atI [D.int (n + z / 3 % (10 - n)), D.int (-(n + z / 3 % (10 - n)))] (z / 300 % 2) = some (.int x) ∧ (x = n + z / 3 % (10 - n) ∨ x = -(n + z / 3 % (10 - n))) := by
        rcases (show z / 300 % 2 = 0 ∨ z / 300 % 2 = 1 by omega) with v0 | v0
        · exact ⟨_, by rw [v0]; rfl, .inl rfl⟩
        · exact ⟨_, by rw [v0]; rfl, .inr rfl⟩
      have hu : ∀ k ∈ w.take a ++ [x] ++ w.drop a, k ∈ w ∨ k = x := fun k hk => by
        rcases List.mem_append.mp hk with q | q
        · rcases List.mem_append.mp q with q | q
          · exact .inl (List.mem_of_mem_take q)
          · exact .inr (by simpa using q)
        · exact .inl (List.mem_of_mem_drop q)
      obtain ⟨k1, k2⟩ := key n (w.take a ++ [x] ++ w.drop a) (by omega) (by omega) (fun k hk => by
        rcases hu k hk with q | q
        · exact hw k q
        · omega) (fun k hk => by
        rcases hu k hk with q | q
        · exact hz k q
        · omega) (by rw [List.length_append, List.length_append, List.length_take, List.length_drop, List.length_singleton]; omega) (.inr ⟨x, by simp, fun q => by
          unfold IsX at q
          omega⟩)
      have d1 : fit (ofI (w.take a) ++ [D.int x]) = .ok (ofI (w.take a ++ [x])) := by
        rw [show [D.int x] = ofI [x] from rfl, ofI_app]
        exact fit_ofI (by rw [List.length_append, List.length_take, List.length_singleton]; omega)
      have d2 : fit (ofI (w.take a ++ [x]) ++ ofI (w.drop a)) = .ok (ofI (w.take a ++ [x] ++ w.drop a)) := by
        rw [ofI_app]
        exact fit_ofI (by rw [List.length_append, List.length_append, List.length_take, List.length_drop, List.length_singleton]; omega)
      have e1 : cut (ofI w) none (some (a : Int)) = ofI (w.take a) := by rw [cut_ofI, cut_to _ _ (by omega), Int.toNat_natCast]
      have e2 : cut (ofI w) (some (a : Int)) none = ofI (w.drop a) := by rw [cut_ofI, cut_from _ _ (by omega), Int.toNat_natCast]
      simp -implicitDefEqProofs only [mS, mD, mF, mFS, initE, q1, q2, q3, q4, q5, q6, Nat.reduceAdd, Nat.reduceSub, Nat.reduceEqDiff, q7, q8, q9, q10, reduceIte, q11, q12, q13, q14, q15, q16, q17, q18, q19, q20, q21, q22, q23, q24, q25, q26, q27, q28, q29, q30, q31, q32, q33, q34, q35, q36, q37, q38, q39, q40, q41, q42, q43, q44, q45, q46, q47, q48, q49, q50, q51, q52, q53, q54, q55, q56, q57, q58, valO, lstO, q59, q60, q61, q62, q63, q64, q65, q66, q67, q68, q69, e1, e2, hdv300, hmd2, hat, d1, d2, k1]
      exact ⟨_, rfl, k2⟩
theorem kEq_bb (a b : Bool) : kEq (.bl a) (.bl b) = some (.bl (a == b)) := rfl
theorem kNe_bb (a b : Bool) : kNe (.bl a) (.bl b) = some (.bl (!(a == b))) := rfl
theorem refused_ok {s : Str} {c : Str} {f : Bool} (h : mX_read_text [.str s] = .err c) (hc : (c = "BadText" ∧ f = true) ∨ (c = "NoWord" ∧ f = false)) : m__law_refused [.str s, .bl f] = .ok (.bl true) := by
  unfold m__law_refused b__law_refused
  have hm : c ∈ (["BadText", "NoWord"] : List Str) := by
    rcases hc with q | q
    · rw [q.1]; exact List.mem_cons_self
    · rw [q.1]; exact List.mem_cons_of_mem _ List.mem_cons_self
  have e : tryD 3 ["BadText", "NoWord"] b__law_refused_y1 b__law_refused_z2 [.val (.str s), .val (.bl f), .val .non, .no] = .ok (.nx [.val (.str s), .val (.bl f), .val (.exc c), .no]) := by
    unfold tryD
    have e1 : b__law_refused_y1 [.val (.str s), .val (.bl f), .val .non, .no] = .err c := by
      unfold b__law_refused_y1
      simp -implicitDefEqProofs only [mS, mD, mF, mFS, initE, q1, q2, q3, q4, q5, q6, Nat.reduceAdd, Nat.reduceSub, Nat.reduceEqDiff, q7, q8, q9, q10, reduceIte, q11, q12, q13, q14, q15, q16, q17, q18, q19, q20, q21, q22, q23, q24, q25, q26, q27, q28, q29, q30, q31, q32, q33, q34, q35, q36, q37, q38, q39, q40, q41, q42, q43, q44, q45, q46, q47, q48, q49, q50, q51, q52, q53, q54, q55, q56, q57, q58, valO, lstO, q59, q60, q61, q62, q63, q64, q65, q66, q67, q68, q69]
      rw [h]
      rfl
    rw [e1]
    show (if c ∈ (["BadText", "NoWord"] : List Str) then _ else _) = _
    rw [if_pos hm]
    rfl
  simp -implicitDefEqProofs only [mS, mD, mF, mFS, initE, q1, q2, q3, q4, q5, q6, Nat.reduceAdd, Nat.reduceSub, Nat.reduceEqDiff, q7, q8, q9, q10, reduceIte, q11, q12, q13, q14, q15, q16, q17, q18, q19, q20, q21, q22, q23, q24, q25, q26, q27, q28, q29, q30, q31, q32, q33, q34, q35, q36, q37, q38, q39, q40, q41, q42, q43, q44, q45, q46, q47, q48, q49, q50, q51, q52, q53, q54, q55, q56, q57, q58, valO, lstO, q59, q60, q61, q62, q63, q64, q65, q66, q67, q68, q69, e]
  rcases hc with ⟨rfl, rfl⟩ | ⟨rfl, rfl⟩
  · have b1 : isX ["BadText", "NoWord"] ["ValueError"] (.exc "BadText") = .ok (.bl true) := isX_e (by decide) (by decide)
    have b2 : isX ["BadText", "NoWord"] ["BadText"] (.exc "BadText") = .ok (.bl true) := isX_e (by decide) (by decide)
    have b3 : isX ["BadText", "NoWord"] ["NoWord"] (.exc "BadText") = .ok (.bl false) := isX_e (by decide) (by decide)
    have b4 : isX ["BadText", "NoWord"] ["BadPicture", "NoForm", "NoMove", "NoRow", "NoString", "TooMany", "Unlike"] (.exc "BadText") = .ok (.bl false) := isX_e (by decide) (by decide)
    simp -implicitDefEqProofs only [mS, mD, mF, mFS, initE, q1, q2, q3, q4, q5, q6, Nat.reduceAdd, Nat.reduceSub, Nat.reduceEqDiff, q7, q8, q9, q10, reduceIte, q11, q12, q13, q14, q15, q16, q17, q18, q19, q20, q21, q22, q23, q24, q25, q26, q27, q28, q29, q30, q31, q32, q33, q34, q35, q36, q37, q38, q39, q40, q41, q42, q43, q44, q45, q46, q47, q48, q49, q50, q51, q52, q53, q54, q55, q56, q57, q58, valO, lstO, q59, q60, q61, q62, q63, q64, q65, q66, q67, q68, q69, b1, b2, b3, b4, kEq_bb, kNe_bb, Bool.not_true, Bool.not_false, show (true == true) = true from rfl, show (false == true) = false from rfl]
  · have b1 : isX ["BadText", "NoWord"] ["ValueError"] (.exc "NoWord") = .ok (.bl true) := isX_e (by decide) (by decide)
    have b2 : isX ["BadText", "NoWord"] ["BadText"] (.exc "NoWord") = .ok (.bl false) := isX_e (by decide) (by decide)
    have b3 : isX ["BadText", "NoWord"] ["NoWord"] (.exc "NoWord") = .ok (.bl true) := isX_e (by decide) (by decide)
    have b4 : isX ["BadText", "NoWord"] ["BadPicture", "NoForm", "NoMove", "NoRow", "NoString", "TooMany", "Unlike"] (.exc "NoWord") = .ok (.bl false) := isX_e (by decide) (by decide)
    simp -implicitDefEqProofs only [mS, mD, mF, mFS, initE, q1, q2, q3, q4, q5, q6, Nat.reduceAdd, Nat.reduceSub, Nat.reduceEqDiff, q7, q8, q9, q10, reduceIte, q11, q12, q13, q14, q15, q16, q17, q18, q19, q20, q21, q22, q23, q24, q25, q26, q27, q28, q29, q30, q31, q32, q33, q34, q35, q36, q37, q38, q39, q40, q41, q42, q43, q44, q45, q46, q47, q48, q49, q50, q51, q52, q53, q54, q55, q56, q57, q58, valO, lstO, q59, q60, q61, q62, q63, q64, q65, q66, q67, q68, q69, b1, b2, b3, b4, kEq_bb, kNe_bb, Bool.not_true, Bool.not_false, show (false == false) = true from rfl, show (true == false) = false from rfl]

end DL

namespace DL
open PySem PySem.Spec PyProof.Rows L2

theorem eqF_tup (n : Nat) (a : Int) (w : List Int) : eqF (n + 2) (.tup [.int a, .lst (ofI w)]) (.tup [.int a, .lst (ofI w)]) = some true := by
  show ((eqF (n + 1) (.int a) (.int a)).bind fun b => ((eqF (n + 1) (.lst (ofI w)) (.lst (ofI w))).bind fun c => (some true).map (c && ·)).map (b && ·)).map (· && 2 == 2) = _
  have e : eqF (n + 1) (.int a) (.int a) = some true := by
    show some (a == a) = some true
    rw [beq_self_eq_true]
  rw [e, eqF_ints, decide_eq_true rfl]
  rfl
theorem kEq_tup (a : Int) (w : List Int) : kEq (.tup [.int a, .lst (ofI w)]) (.tup [.int a, .lst (ofI w)]) = some (.bl true) := by unfold kEq; rw [eqF_tup]; rfl
theorem law06 (ns : List Int) (hl : ns.length ≤ 63) : m_law [.lst (ofI ns)] = .ok (.bl true) := by
  unfold m_law b_law
  obtain ⟨c, hc⟩ := head0 ns
  simp -implicitDefEqProofs only [mS, mD, mF, mFS, initE, q1, q2, q3, q4, q5, q6, Nat.reduceAdd, Nat.reduceSub, Nat.reduceEqDiff, q7, q8, q9, q10, reduceIte, q11, q12, q13, q14, q15, q16, q17, q18, q19, q20, q21, q22, q23, q24, q25, q26, q27, q28, q29, q30, q31, q32, q33, q34, q35, q36, q37, q38, q39, q40, q41, q42, q43, q44, q45, q46, q47, q48, q49, q50, q51, q52, q53, q54, q55, q56, q57, q58, valO, lstO, q59, q60, q61, q62, q63, q64, q65, q66, q67, q68, q69]
  rw [show [D.int 0] = ofI [0] from rfl, ofI_app, fit_ofI (by rw [List.length_append, List.length_singleton]; omega)]
  simp -implicitDefEqProofs only [mS, mD, mF, mFS, initE, q1, q2, q3, q4, q5, q6, Nat.reduceAdd, Nat.reduceSub, Nat.reduceEqDiff, q7, q8, q9, q10, reduceIte, q11, q12, q13, q14, q15, q16, q17, q18, q19, q20, q21, q22, q23, q24, q25, q26, q27, q28, q29, q30, q31, q32, q33, q34, q35, q36, q37, q38, q39, q40, q41, q42, q43, q44, q45, q46, q47, q48, q49, q50, q51, q52, q53, q54, q55, q56, q57, q58, valO, lstO, q59, q60, q61, q62, q63, q64, q65, q66, q67, q68, q69]
  rw [atI_ofI, atI_pos (by decide), show (0 : Int).toNat = 0 from rfl, hc]
  simp -implicitDefEqProofs only [mS, mD, mF, mFS, initE, q1, q2, q3, q4, q5, q6, Nat.reduceAdd, Nat.reduceSub, Nat.reduceEqDiff, q7, q8, q9, q10, reduceIte, q11, q12, q13, q14, q15, q16, q17, q18, q19, q20, q21, q22, q23, q24, q25, q26, q27, q28, q29, q30, q31, q32, q33, q34, q35, q36, q37, q38, q39, q40, q41, q42, q43, q44, q45, q46, q47, q48, q49, q50, q51, q52, q53, q54, q55, q56, q57, q58, valO, lstO, q59, q60, q61, q62, q63, q64, q65, q66, q67, q68, q69, Option.map_some, kPow_109]
  rw [kMod_i _ _ (by decide)]
  simp -implicitDefEqProofs only [mS, mD, mF, mFS, initE, q1, q2, q3, q4, q5, q6, Nat.reduceAdd, Nat.reduceSub, Nat.reduceEqDiff, q7, q8, q9, q10, reduceIte, q11, q12, q13, q14, q15, q16, q17, q18, q19, q20, q21, q22, q23, q24, q25, q26, q27, q28, q29, q30, q31, q32, q33, q34, q35, q36, q37, q38, q39, q40, q41, q42, q43, q44, q45, q46, q47, q48, q49, q50, q51, q52, q53, q54, q55, q56, q57, q58, valO, lstO, q59, q60, q61, q62, q63, q64, q65, q66, q67, q68, q69, strings_ok]
  generalize hsd : c % 1000000000 = sd
  obtain ⟨n1, n7⟩ := strings_rng sd
  generalize stringsF sd = n at n1 n7
  rw [cut_ofI, cut_to _ _ (by decide), drawn_ok _ _ _ (by rw [List.length_take]; omega) (by omega) (by decide)]
  simp -implicitDefEqProofs only [mS, mD, mF, mFS, initE, q1, q2, q3, q4, q5, q6, Nat.reduceAdd, Nat.reduceSub, Nat.reduceEqDiff, q7, q8, q9, q10, reduceIte, q11, q12, q13, q14, q15, q16, q17, q18, q19, q20, q21, q22, q23, q24, q25, q26, q27, q28, q29, q30, q31, q32, q33, q34, q35, q36, q37, q38, q39, q40, q41, q42, q43, q44, q45, q46, q47, q48, q49, q50, q51, q52, q53, q54, q55, q56, q57, q58, valO, lstO, q59, q60, q61, q62, q63, q64, q65, q66, q67, q68, q69]
  generalize hw : drawnF (ns.take (30 : Int).toNat) n 60 = w
  have hx : ∀ k ∈ w, IsX n k := hw ▸ drawn_is
  have hwl : w.length ≤ 60 := by
    have := drawn_most (ns.take (30 : Int).toNat) n 60
    rw [hw] at this
    exact this
  have hf : Fg w := fg_of n7 hx
  have ht := text_ok (n := n) (by omega) hf (by omega)
  have hgood : goodB n w = true := by
    unfold goodB
    rw [Bool.and_eq_true, Bool.and_eq_true, decide_eq_true_eq, decide_eq_true_eq]
    exact ⟨⟨n1, n7⟩, List.all_eq_true.mpr fun k hk => (isxB_iff n k).mpr (hx k hk)⟩
  have hrd : m_read_text [.str (txt n w)] = .ok (.tup [.int n, .lst (ofI w)]) := by
    show R.ne (mX_read_text [.str (txt n w)]) = _
    rw [read_txt (by omega) (by omega) hf (fun k hk => (hx k hk).1) (by omega), if_pos hgood]
    rfl
  simp -implicitDefEqProofs only [mS, mD, mF, mFS, initE, q1, q2, q3, q4, q5, q6, Nat.reduceAdd, Nat.reduceSub, Nat.reduceEqDiff, q7, q8, q9, q10, reduceIte, q11, q12, q13, q14, q15, q16, q17, q18, q19, q20, q21, q22, q23, q24, q25, q26, q27, q28, q29, q30, q31, q32, q33, q34, q35, q36, q37, q38, q39, q40, q41, q42, q43, q44, q45, q46, q47, q48, q49, q50, q51, q52, q53, q54, q55, q56, q57, q58, valO, lstO, q59, q60, q61, q62, q63, q64, q65, q66, q67, q68, q69, ht]
  rw [cut_ofI, cut_of _ _ _ (by decide) (by decide)]
  generalize hcells : sd :: (ns.drop (1 : Int).toNat).take ((30 : Int).toNat - (1 : Int).toNat) = cells
  have hcl : cells.length ≤ 63 := by
    rw [← hcells, List.length_cons, List.length_take, List.length_drop]
    show min 29 _ + 1 ≤ 63
    omega
  rw [show D.int sd :: ofI ((ns.drop (1 : Int).toNat).take ((30 : Int).toNat - (1 : Int).toNat)) = ofI cells by rw [← hcells]; rfl, fit_ofI (by omega)]
  simp -implicitDefEqProofs only [mS, mD, mF, mFS, initE, q1, q2, q3, q4, q5, q6, Nat.reduceAdd, Nat.reduceSub, Nat.reduceEqDiff, q7, q8, q9, q10, reduceIte, q11, q12, q13, q14, q15, q16, q17, q18, q19, q20, q21, q22, q23, q24, q25, q26, q27, q28, q29, q30, q31, q32, q33, q34, q35, q36, q37, q38, q39, q40, q41, q42, q43, q44, q45, q46, q47, q48, q49, q50, q51, q52, q53, q54, q55, q56, q57, q58, valO, lstO, q59, q60, q61, q62, q63, q64, q65, q66, q67, q68, q69]
  obtain ⟨s', e, _⟩ := for_at (S := Sl × Sl × Sl) (b := b_law_l1) (fun _ _ => True)
    (fun q => [.val (.lst (ofI ns)), .val (.int sd), .val (.int n), .val (.lst (ofI w)), .val (.str (txt n w)), q.1, q.2.1, q.2.2]) (enumL (ofI cells)) 0 (.no, .no, .no) trivial (by
      rintro j ⟨s5, s6, s7⟩ x _ hx'
      obtain ⟨k, hk, rfl⟩ := enumL_ofI hx'
      have hjl : j < cells.length := (List.getElem?_eq_some_iff.mp hk).1
      obtain ⟨t1, e1, e2⟩ := bad_text_ok n1 n7 hf hwl (mixF k j 16807)
      obtain ⟨t2, e3, e4⟩ := no_word_ok n1 n7 hx hwl (mixF k j 16807 / 7)
      have r1 := refused_ok e2 (.inl ⟨rfl, rfl⟩)
      have r2 := refused_ok e4 (.inr ⟨rfl, rfl⟩)
      have hdv : kDiv (.int (mixF k j 16807)) (.int 7) = some (.int (mixF k j 16807 / 7)) := kDiv_i _ _ (by decide)
      refine ⟨(.val (.int j), .val (.int k), .val (.int (mixF k j 16807))), ?_, trivial⟩
      unfold b_law_l1
      simp -implicitDefEqProofs only [bT2, mS, mD, mF, mFS, initE, q1, q2, q3, q4, q5, q6, Nat.reduceAdd, Nat.reduceSub, Nat.reduceEqDiff, q7, q8, q9, q10, reduceIte, q11, q12, q13, q14, q15, q16, q17, q18, q19, q20, q21, q22, q23, q24, q25, q26, q27, q28, q29, q30, q31, q32, q33, q34, q35, q36, q37, q38, q39, q40, q41, q42, q43, q44, q45, q46, q47, q48, q49, q50, q51, q52, q53, q54, q55, q56, q57, q58, valO, lstO, q59, q60, q61, q62, q63, q64, q65, q66, q67, q68, q69]
      rw [mix_ok k j 16807 (by omega) (by decide)]
      simp -implicitDefEqProofs only [mS, mD, mF, mFS, initE, q1, q2, q3, q4, q5, q6, Nat.reduceAdd, Nat.reduceSub, Nat.reduceEqDiff, q7, q8, q9, q10, reduceIte, q11, q12, q13, q14, q15, q16, q17, q18, q19, q20, q21, q22, q23, q24, q25, q26, q27, q28, q29, q30, q31, q32, q33, q34, q35, q36, q37, q38, q39, q40, q41, q42, q43, q44, q45, q46, q47, q48, q49, q50, q51, q52, q53, q54, q55, q56, q57, q58, valO, lstO, q59, q60, q61, q62, q63, q64, q65, q66, q67, q68, q69, e1, r1, Bool.not_true, hdv, e3, r2])
  obtain ⟨s5, s6, s7⟩ := s'
  dsimp only at e
  rw [e]
  simp -implicitDefEqProofs only [mS, mD, mF, mFS, initE, q1, q2, q3, q4, q5, q6, Nat.reduceAdd, Nat.reduceSub, Nat.reduceEqDiff, q7, q8, q9, q10, reduceIte, q11, q12, q13, q14, q15, q16, q17, q18, q19, q20, q21, q22, q23, q24, q25, q26, q27, q28, q29, q30, q31, q32, q33, q34, q35, q36, q37, q38, q39, q40, q41, q42, q43, q44, q45, q46, q47, q48, q49, q50, q51, q52, q53, q54, q55, q56, q57, q58, valO, lstO, q59, q60, q61, q62, q63, q64, q65, q66, q67, q68, q69, hrd, kEq_tup]
theorem law_sp {K : PySem.W.Frag} {H : Hp} {a : Addr} (ns : List Int) (hl : ns.length ≤ 63) (hS : SqL K H a (ns.map V.int)) : spD K xc0 m_law [.ref a] H (fun v _ => v = .bl true) fun _ _ _ => False := sp_of (law06 ns hl) hS

end DL

namespace DL.K06
open PySem PySem.Spec PyProof.Rows L2 DL
def top (i : Nat) : Stmt := PySem.Challenge.pw_braidcomb_k06_texts_refused.main.body.getD i (.Pass ⟨0, 0, 0, 0⟩)
abbrev st_is_crossing : Stmt := top 14
theorem sco_is_crossing : FnScope ["n", "k"] ["n", "k"] (defScope st_is_crossing) := ⟨rfl, rfl, rfl, by decide +kernel, rfl, by decide +kernel, by decide +kernel⟩
abbrev st_checked : Stmt := top 15
theorem sco_checked : FnScope ["n", "word", "k"] ["n", "word"] (defScope st_checked) := ⟨rfl, rfl, rfl, by decide +kernel, rfl, by decide +kernel, by decide +kernel⟩
abbrev st_read_crossing : Stmt := top 18
theorem sco_read_crossing : FnScope ["piece"] ["piece"] (defScope st_read_crossing) := ⟨rfl, rfl, rfl, by decide +kernel, rfl, by decide +kernel, by decide +kernel⟩
abbrev st_read_number : Stmt := top 19
theorem sco_read_number : FnScope ["piece", "number"] ["piece"] (defScope st_read_number) := ⟨rfl, rfl, rfl, by decide +kernel, rfl, by decide +kernel, by decide +kernel⟩
abbrev st_read_crossings : Stmt := top 20
theorem sco_read_crossings : FnScope ["tail"] ["tail"] (defScope st_read_crossings) := ⟨rfl, rfl, rfl, by decide +kernel, rfl, by decide +kernel, by decide +kernel⟩
abbrev st_read_text : Stmt := top 21
theorem sco_read_text : FnScope ["text", "parts", "n", "word"] ["text"] (defScope st_read_text) := ⟨rfl, rfl, rfl, by decide +kernel, rfl, by decide +kernel, by decide +kernel⟩
abbrev st__law_mix : Stmt := top 23
theorem sco__law_mix : FnScope ["_law_cell", "_law_k", "_law_factor"] ["_law_cell", "_law_k", "_law_factor"] (defScope st__law_mix) := ⟨rfl, rfl, rfl, by decide +kernel, rfl, by decide +kernel, by decide +kernel⟩
abbrev st__law_strings : Stmt := top 24
theorem sco__law_strings : FnScope ["_law_seed", "_law_least", "_law_most"] ["_law_seed", "_law_least", "_law_most"] (defScope st__law_strings) := ⟨rfl, rfl, rfl, by decide +kernel, rfl, by decide +kernel, by decide +kernel⟩
abbrev st__law_crossing : Stmt := top 25
theorem sco__law_crossing : FnScope ["_law_number", "_law_n", "_law_k"] ["_law_number", "_law_n"] (defScope st__law_crossing) := ⟨rfl, rfl, rfl, by decide +kernel, rfl, by decide +kernel, by decide +kernel⟩
abbrev st__law_piece : Stmt := top 26
theorem sco__law_piece : FnScope ["_law_number", "_law_n", "_law_k", "_law_other"] ["_law_number", "_law_n"] (defScope st__law_piece) := ⟨rfl, rfl, rfl, by decide +kernel, rfl, by decide +kernel, by decide +kernel⟩
abbrev st__law_drawn : Stmt := top 27
theorem sco__law_drawn : FnScope ["_law_cells", "_law_n", "_law_most", "_law_word", "_law_k", "_law_cell"] ["_law_cells", "_law_n", "_law_most"] (defScope st__law_drawn) := ⟨rfl, rfl, rfl, by decide +kernel, rfl, by decide +kernel, by decide +kernel⟩
abbrev st__law_text : Stmt := top 28
theorem sco__law_text : FnScope ["_law_n", "_law_word"] ["_law_n", "_law_word"] (defScope st__law_text) := ⟨rfl, rfl, rfl, by decide +kernel, rfl, by decide +kernel, by decide +kernel⟩
abbrev st__law_piece_of : Stmt := top 29
theorem sco__law_piece_of : FnScope ["_law_number", "_law_menu"] ["_law_number"] (defScope st__law_piece_of) := ⟨rfl, rfl, rfl, by decide +kernel, rfl, by decide +kernel, by decide +kernel⟩
abbrev st__law_bad_text : Stmt := top 30
theorem sco__law_bad_text : FnScope ["_law_n", "_law_word", "_law_number", "_law_rows", "_law_at", "_law_which", "_law_head", "_law_menu"] ["_law_n", "_law_word", "_law_number"] (defScope st__law_bad_text) := ⟨rfl, rfl, rfl, by decide +kernel, rfl, by decide +kernel, by decide +kernel⟩
abbrev st__law_no_word : Stmt := top 31
theorem sco__law_no_word : FnScope ["_law_n", "_law_word", "_law_number", "_law_at", "_law_few", "_law_k"] ["_law_n", "_law_word", "_law_number"] (defScope st__law_no_word) := ⟨rfl, rfl, rfl, by decide +kernel, rfl, by decide +kernel, by decide +kernel⟩
abbrev st__law_refused : Stmt := top 32
theorem sco__law_refused : FnScope ["_law_text_here", "_law_bad", "_law_error", "caught"] ["_law_text_here", "_law_bad"] (defScope st__law_refused) := ⟨rfl, rfl, rfl, by decide +kernel, rfl, by decide +kernel, by decide +kernel⟩
abbrev st_law : Stmt := top 33
theorem sco_law : FnScope ["_law_script", "_law_seed", "_law_n", "_law_word", "_law_text_here", "_law_at", "_law_cell", "_law_number"] ["_law_script"] (defScope st_law) := ⟨rfl, rfl, rfl, by decide +kernel, rfl, by decide +kernel, by decide +kernel⟩
structure Tb (K : PySem.W.Frag) (mg : Str → Option Value) where
  a_is_crossing : Addr
  d_is_crossing : FuncData
  D_is_crossing : Df K mg "is_crossing" st_is_crossing ["n", "k"] a_is_crossing d_is_crossing
  a_checked : Addr
  d_checked : FuncData
  D_checked : Df K mg "checked" st_checked ["n", "word"] a_checked d_checked
  a_read_crossing : Addr
  d_read_crossing : FuncData
  D_read_crossing : Df K mg "read_crossing" st_read_crossing ["piece"] a_read_crossing d_read_crossing
  a_read_number : Addr
  d_read_number : FuncData
  D_read_number : Df K mg "read_number" st_read_number ["piece"] a_read_number d_read_number
  a_read_crossings : Addr
  d_read_crossings : FuncData
  D_read_crossings : Df K mg "read_crossings" st_read_crossings ["tail"] a_read_crossings d_read_crossings
  a_read_text : Addr
  d_read_text : FuncData
  D_read_text : Df K mg "read_text" st_read_text ["text"] a_read_text d_read_text
  a__law_mix : Addr
  d__law_mix : FuncData
  D__law_mix : Df K mg "_law_mix" st__law_mix ["_law_cell", "_law_k", "_law_factor"] a__law_mix d__law_mix
  a__law_strings : Addr
  d__law_strings : FuncData
  D__law_strings : Df K mg "_law_strings" st__law_strings ["_law_seed", "_law_least", "_law_most"] a__law_strings d__law_strings
  a__law_crossing : Addr
  d__law_crossing : FuncData
  D__law_crossing : Df K mg "_law_crossing" st__law_crossing ["_law_number", "_law_n"] a__law_crossing d__law_crossing
  a__law_piece : Addr
  d__law_piece : FuncData
  D__law_piece : Df K mg "_law_piece" st__law_piece ["_law_number", "_law_n"] a__law_piece d__law_piece
  a__law_drawn : Addr
  d__law_drawn : FuncData
  D__law_drawn : Df K mg "_law_drawn" st__law_drawn ["_law_cells", "_law_n", "_law_most"] a__law_drawn d__law_drawn
  a__law_text : Addr
  d__law_text : FuncData
  D__law_text : Df K mg "_law_text" st__law_text ["_law_n", "_law_word"] a__law_text d__law_text
  a__law_piece_of : Addr
  d__law_piece_of : FuncData
  D__law_piece_of : Df K mg "_law_piece_of" st__law_piece_of ["_law_number"] a__law_piece_of d__law_piece_of
  a__law_bad_text : Addr
  d__law_bad_text : FuncData
  D__law_bad_text : Df K mg "_law_bad_text" st__law_bad_text ["_law_n", "_law_word", "_law_number"] a__law_bad_text d__law_bad_text
  a__law_no_word : Addr
  d__law_no_word : FuncData
  D__law_no_word : Df K mg "_law_no_word" st__law_no_word ["_law_n", "_law_word", "_law_number"] a__law_no_word d__law_no_word
  a__law_refused : Addr
  d__law_refused : FuncData
  D__law_refused : Df K mg "_law_refused" st__law_refused ["_law_text_here", "_law_bad"] a__law_refused d__law_refused
  a_law : Addr
  d_law : FuncData
  D_law : Df K mg "law" st_law ["_law_script"] a_law d_law
  m_ValueError : mg "ValueError" = none
  m_abs : mg "abs" = none
  m_enumerate : mg "enumerate" = none
  m_isinstance : mg "isinstance" = none
  m_len : mg "len" = none
  m_max : mg "max" = none
  m_str : mg "str" = none
  tk_FEWEST_STRINGS : Tok
  gi_FEWEST_STRINGS : mg "FEWEST_STRINGS" = some (.int 1 tk_FEWEST_STRINGS)
  tk_MOST_STRINGS : Tok
  gi_MOST_STRINGS : mg "MOST_STRINGS" = some (.int 7 tk_MOST_STRINGS)
  A_FIGURES : Addr
  gi_FIGURES : mg "FIGURES" = some (.ref A_FIGURES)
  fg_FIGURES : FigIn K A_FIGURES tab_FIGURES
  C_BadPicture : Addr
  mc_BadPicture : mg "BadPicture" = some (.ref C_BadPicture)
  C_BadText : Addr
  mc_BadText : mg "BadText" = some (.ref C_BadText)
  C_BraidError : Addr
  mc_BraidError : mg "BraidError" = some (.ref C_BraidError)
  C_NoForm : Addr
  mc_NoForm : mg "NoForm" = some (.ref C_NoForm)
  C_NoMove : Addr
  mc_NoMove : mg "NoMove" = some (.ref C_NoMove)
  C_NoRow : Addr
  mc_NoRow : mg "NoRow" = some (.ref C_NoRow)
  C_NoString : Addr
  mc_NoString : mg "NoString" = some (.ref C_NoString)
  C_NoWord : Addr
  mc_NoWord : mg "NoWord" = some (.ref C_NoWord)
  C_TooMany : Addr
  mc_TooMany : mg "TooMany" = some (.ref C_TooMany)
  C_Unlike : Addr
  mc_Unlike : mg "Unlike" = some (.ref C_Unlike)
  Xc_BadText : Xc K mg "BadText" C_BadText
  Xc_NoWord : Xc K mg "NoWord" C_NoWord
  Cat_BraidError : Cat K mg "BraidError" ["BadText", "NoWord"]
  Is_BadText : Isx K ["BadText", "NoWord"] "BadText" (.ref C_BadText)
  Is_NoWord : Isx K ["BadText", "NoWord"] "NoWord" (.ref C_NoWord)
  Is_ValueError : Isx K ["BadText", "NoWord"] "ValueError" (.type "ValueError")
  IsT_BadPicture_NoForm_NoMove_NoRow_NoString_TooMany_Unlike : IsxT K ["BadText", "NoWord"] ["BadPicture", "NoForm", "NoMove", "NoRow", "NoString", "TooMany", "Unlike"] [C_BadPicture, C_NoForm, C_NoMove, C_NoRow, C_NoString, C_TooMany, C_Unlike]
section
variable {P : Program} {w : World} {K : PySem.W.Frag} {mg : Str → Option Value} {base : Heap} (t : Tb K mg)
theorem ok_is_crossing : Ok P w K mg base 1 t.a_is_crossing t.d_is_crossing ["n", "k"] m_is_crossing := by
  have h := okS (P := P) (w := w) (base := base) (k := 0) sco_is_crossing t.D_is_crossing fun cdv A outer s H E hr =>
    (sOne (sRet (vAnd (PE.toB (oCmp (op_neD (Room.u6 hr)) ker_neD (nB 1) (PE.toB cI) (nomark _))) (vOne (oCmp op_lt ker_lt (PE.toB (oCall call_abs ker_abs t.m_abs bt_abs (aConsB (nB 1) aNilB))) (nB 0) (nomark _))))))
  exact h
theorem okX_read_number : OkX P w K mg base 1 t.a_read_number t.d_read_number ["piece"] mX_read_number := by
  have h := okSX (P := P) (w := w) (base := base) (k := 0) sco_read_number t.D_read_number fun cdv A outer s H E hr =>
    (sCons (sSet 1 (oFigGet t.gi_FIGURES t.fg_FIGURES (nB 0) (PE.toB cI)) sco_read_number.nd)
    (sCons (sIf (oCmpT (op_eqD (Room.u6 hr)) ker_eqD (nB 1) (PE.toB cI) (nomark _)) (sOne (sRaise t.Xc_BadText hr.hd)) sNil)
    (sOne (sRet (nD 1)))))
  exact h
theorem ok__law_mix : Ok P w K mg base 1 t.a__law_mix t.d__law_mix ["_law_cell", "_law_k", "_law_factor"] m__law_mix := by
  have h := okS (P := P) (w := w) (base := base) (k := 0) sco__law_mix t.D__law_mix fun cdv A outer s H E hr =>
    (sOne (sRet (oBin op_fdiv ker_div (PE.toB (oBin op_mod ker_mod (PE.toB (oBin op_mul ker_mul (PE.toB (oBin op_add ker_addI (PE.toB (oBin op_add ker_addI (PE.toB (oBin op_mul ker_mul (PE.toB (oBin op_mod ker_mod (nB 0) (PE.toB cI))) (PE.toB cI))) (PE.toB (oBin op_mul ker_mul (nB 1) (nB 1))))) (PE.toB cI))) (nB 2))) (PE.toB cI))) (PE.toB cI))))
  exact h
theorem ok__law_strings : Ok P w K mg base 1 t.a__law_strings t.d__law_strings ["_law_seed", "_law_least", "_law_most"] m__law_strings := by
  have h := okS (P := P) (w := w) (base := base) (k := 0) sco__law_strings t.D__law_strings fun cdv A outer s H E hr =>
    (sCons (sIf (tAndD (oCmpT (op_eqD (Room.u6 hr)) ker_eqD (nB 1) (PE.toB cI) (nomark _)) (tAnd1 (oCmpT (op_eqD (Room.u6 hr)) ker_eqD (PE.toB (oBin op_mod ker_mod (nB 0) (PE.toB cI))) (PE.toB cI) (nomark _)))).pt (sOne (sRet cI)) sNil)
    (sCons (sSet 1 (oCall (call_max2 rfl) ker_max2 t.m_max bt_max (aConsB (PE.toB cI) (aConsB (nB 1) aNilB))) sco__law_strings.nd)
    (sOne (sRet (oBin op_add ker_addI (nB 1) (PE.toB (oBin op_mod ker_mod (PE.toB (oBin op_fdiv ker_div (nB 0) (PE.toB cI))) (PE.toB (oBin op_add ker_addI (PE.toB (oBin op_sub ker_sub (nB 2) (nB 1))) (PE.toB cI))))))))))
  exact h
theorem ok__law_crossing : Ok P w K mg base 1 t.a__law_crossing t.d__law_crossing ["_law_number", "_law_n"] m__law_crossing := by
  have h := okS (P := P) (w := w) (base := base) (k := 0) sco__law_crossing t.D__law_crossing fun cdv A outer s H E hr =>
    (sCons (sSet 2 (oBin op_add ker_addI (PE.toB cI) (PE.toB (oBin op_mod ker_mod (nB 0) (PE.toB (oBin op_sub ker_sub (nB 1) (PE.toB cI)))))) sco__law_crossing.nd)
    (sCons (sIf (oCmpT (op_eqD (Room.u6 hr)) ker_eqD (PE.toB (oBin op_mod ker_mod (PE.toB (oBin op_fdiv ker_div (nB 0) (PE.toB cI))) (PE.toB cI))) (PE.toB cI) (nomark _)) (sOne (sRet (oUn un_neg ker_neg (nB 2)))) sNil)
    (sOne (sRet (nD 2)))))
  exact h
theorem ok__law_text : Ok P w K mg base 1 t.a__law_text t.d__law_text ["_law_n", "_law_word"] m__law_text := by
  have h := okS (P := P) (w := w) (base := base) (k := 0) sco__law_text t.D__law_text fun cdv A outer s H E hr =>
    (sOne (sRet (oBin op_add_str ker_addS (PE.toB (oBin op_add_str ker_addS (PE.toB (oCallT call_str_int ker_strI t.m_str bt_str (aConsB (nB 0) aNilB))) (PE.toB cS))) (PE.toB (oJoin (PE.toB cS) (PE.FtoL (lComp (cpS (N := ["_law_k"]) (nt := 1) (caps := []) (defScope st__law_text) ["_law_n", "_law_word"] (by decide +kernel)) rfl (toIS (iL (nD 1))) (Kp.ok (kpN2 (nt := 1) 0)) (fun _ _ _ _ _ => (gN2 0 (by show List.Nodup (["_law_k"] : List Str); decide +kernel))) (fun _ _ _ _ _ => ts0) (fun _ _ _ _ _ => (oBin op_add_str ker_addS (PE.toB cS) (PE.toB (oCallT call_str_int ker_strI t.m_str bt_str (aConsB (nB 0) aNilB))))))))))))
  exact h
theorem ok__law_piece_of : Ok P w K mg base 1 t.a__law_piece_of t.d__law_piece_of ["_law_number"] m__law_piece_of := by
  have h := okS (P := P) (w := w) (base := base) (k := 0) sco__law_piece_of t.D__law_piece_of fun cdv A outer s H E hr =>
    (@sCons _ _ _ _ _ _ (@sSet _ _ _ 1 _ _ _ _ (@PE.FtoD _ _ _ _ (@dLst _ _ _ _ _ (@paC _ _ _ (by kernel_rfl)))) sco__law_piece_of.nd rfl (Or.inl rfl) rfl (Or.inl rfl))
    (sOne (sRet (lIx (nL 1) (PE.toB (oBin op_mod ker_mod (nB 0) (PE.toB (oCall call_len ker_len t.m_len bt_len (aConsB (nB 1) aNilB)))))))))
  exact h
theorem okX_checked (G_is_crossing : Ok P w K mg base 1 t.a_is_crossing t.d_is_crossing ["n", "k"] m_is_crossing) : OkX P w K mg base 2 t.a_checked t.d_checked ["n", "word"] mX_checked := by
  have h := okSX (P := P) (w := w) (base := base) (k := 1) sco_checked t.D_checked fun cdv A outer s H E hr =>
    (sCons (sIf (tOrD (oCmpT op_lt ker_lt (nB 0) (PE.toB (glI t.gi_FEWEST_STRINGS)) (nomark _)) (tOr1 (oCmpT op_gt ker_gt (nB 0) (PE.toB (glI t.gi_MOST_STRINGS)) (nomark _)))).pt (sOne (sRaise t.Xc_NoWord hr.hd)) sNil)
    (sCons (sFor ownX rfl (iL (nD 1)) (gN2 2 sco_checked.nd) (sOne (sIf (tNotD (tVal (PE.toB (fB1 scd t.D_is_crossing G_is_crossing (hr.mono (by decide)) (aConsB (nB 0) (aConsB (nB 2) aNilB)))))) (sOne (sRaise t.Xc_NoWord hr.hd)) sNil)))
    (sOne (sRet cBl))))
  exact h
theorem okX_read_crossing (GX_read_number : OkX P w K mg base 1 t.a_read_number t.d_read_number ["piece"] mX_read_number) : OkX P w K mg base 2 t.a_read_crossing t.d_read_crossing ["piece"] mX_read_crossing := by
  have h := okSX (P := P) (w := w) (base := base) (k := 1) sco_read_crossing t.D_read_crossing fun cdv A outer s H E hr =>
    (sCons (sIf (tVal (PE.toB (oStarts (nB 0) (PE.toB cS)))) (sOne (sRet (oUn un_neg ker_neg (PE.toB (fBX scdX t.D_read_number GX_read_number (hr.mono (by decide)) (aConsB (PE.toB (oSlS (nB 0) (oYes (PE.toB cI)) oNo)) aNilB)))))) sNil)
    (sOne (sRet (fBX scdX t.D_read_number GX_read_number (hr.mono (by decide)) (aConsB (nB 0) aNilB)))))
  exact h
theorem ok__law_piece (G__law_crossing : Ok P w K mg base 1 t.a__law_crossing t.d__law_crossing ["_law_number", "_law_n"] m__law_crossing) : Ok P w K mg base 2 t.a__law_piece t.d__law_piece ["_law_number", "_law_n"] m__law_piece := by
  have h := okD (P := P) (w := w) (base := base) (k := 1) sco__law_piece t.D__law_piece fun cdv A outer s H E hr =>
    (sCons (sSet 2 (fB1 scd t.D__law_crossing G__law_crossing (hr.mono (by decide)) (aConsB (nB 0) (aConsB (nB 1) aNilB))) sco__law_piece.nd)
    (sCons (sIf (tOrD (oCmpT op_gt ker_gt (PE.toB (oBin op_mod ker_mod (PE.toB (oBin op_fdiv ker_div (nB 0) (PE.toB cI))) (PE.toB cI))) (PE.toB cI) (nomark _)) (tOr1 (oCmpT op_lt ker_lt (nB 1) (PE.toB cI) (nomark _)))).pt (sOne (sRet (PE.FtoD (dLst (aCons (nD 2) aNil))))) sNil)
    (sCons (sSet 3 (vIf (tAndD (oCmpT op_lt ker_lt (PE.toB (oCall call_abs ker_abs t.m_abs bt_abs (aConsB (PE.toB (oBin op_add ker_addI (nB 2) (PE.toB cI))) aNilB))) (nB 1) (nomark _)) (tAnd1 (oCmpT (op_neD (Room.u6 hr)) ker_neD (PE.toB (oBin op_add ker_addI (nB 2) (PE.toB cI))) (PE.toB cI) (nomark _)))).pt (oBin op_add ker_addI (nB 2) (PE.toB cI)) (oBin op_sub ker_sub (nB 2) (PE.toB cI))) sco__law_piece.nd)
    (sOne (sRet (lIx (PE.FtoL (dLst (aCons (PE.FtoD (dLst (aCons (nD 2) (aCons (nD 3) (aCons (nD 2) aNil))))) (aCons (PE.FtoD (dLst (aCons (nD 2) (aCons (nD 3) aNil)))) (aCons (PE.FtoD (dLst (aCons (nD 2) (aCons (nD 2) aNil)))) (aCons (PE.FtoD (dLst (aCons (nD 2) (aCons (oUn un_neg ker_neg (nB 3)) (aCons (nD 2) aNil))))) aNil)))))) (PE.toB (oBin op_mod ker_mod (PE.toB (oBin op_fdiv ker_div (nB 0) (PE.toB cI))) (PE.toB cI)))))))))
  exact h
theorem ok__law_bad_text (G__law_piece_of : Ok P w K mg base 1 t.a__law_piece_of t.d__law_piece_of ["_law_number"] m__law_piece_of) : Ok P w K mg base 2 t.a__law_bad_text t.d__law_bad_text ["_law_n", "_law_word", "_law_number"] m__law_bad_text := by
  have h := okS (P := P) (w := w) (base := base) (k := 1) sco__law_bad_text t.D__law_bad_text fun cdv A outer s H E hr =>
    (sCons (sFrzA 3 (sSetC 3 (cpS (N := ["_law_k"]) (nt := 1) (caps := []) (defScope st__law_bad_text) ["_law_n", "_law_word", "_law_number", "_law_rows", "_law_at", "_law_which", "_law_head", "_law_menu"] (by decide +kernel)) rfl (toIS (iL (nD 1))) (Kp.ok (kpN2 (nt := 1) 0)) (fun _ _ _ _ _ => (gN2 0 (by show List.Nodup (["_law_k"] : List Str); decide +kernel))) (fun _ _ _ _ _ => ts0) (fun _ _ _ _ _ => (oCallT call_str_int ker_strI t.m_str bt_str (aConsB (nB 0) aNilB))) sco__law_bad_text.nd))
    (sCons (sSet 4 (oBin op_mod ker_mod (PE.toB (oBin op_fdiv ker_div (nB 2) (PE.toB cI))) (PE.toB (oBin op_add ker_addI (PE.toB (oCall call_len ker_len t.m_len bt_len (aConsB (nB 3) aNilB))) (PE.toB cI)))) sco__law_bad_text.nd)
    (sCons (sSet 5 (oBin op_mod ker_mod (nB 2) (PE.toB cI)) sco__law_bad_text.nd)
    (sCons (sSet 6 (oBin op_add_str ker_addS (PE.toB (oCallT call_str_int ker_strI t.m_str bt_str (aConsB (nB 0) aNilB))) (PE.toB cS)) sco__law_bad_text.nd)
    (sCons (sIf (oCmpT (op_eqD (Room.u6 hr)) ker_eqD (nB 5) (PE.toB cI) (nomark _)) (@sCons _ _ _ _ _ _ (@sSet _ _ _ 7 _ _ _ _ (@PE.FtoD _ _ _ _ (@dLst _ _ _ _ _ (@paC _ _ _ (by kernel_rfl)))) sco__law_bad_text.nd rfl (Or.inl rfl) rfl (Or.inl rfl))
    (sOne (sSet 6 (oBin op_add_str ker_addS (PE.toB (lIx (PE.FtoL (dLst (aCons cS (aCons (oCallT call_str_int ker_strI t.m_str bt_str (aConsB (nB 0) aNilB)) (aCons (oBin op_add_str ker_addS (PE.toB cS) (PE.toB (oCallT call_str_int ker_strI t.m_str bt_str (aConsB (nB 0) aNilB)))) aNil))))) (PE.toB (lIx (PE.FtoL (@dLst _ _ _ _ _ (@paC _ _ _ (by kernel_rfl)))) (PE.toB (oBin op_mod ker_mod (PE.toB (oBin op_fdiv ker_div (nB 2) (PE.toB cI))) (PE.toB cI))))))) (PE.toB (lIx (nL 7) (PE.toB (oBin op_mod ker_mod (PE.toB (oBin op_fdiv ker_div (nB 2) (PE.toB cI))) (PE.toB cI)))))) sco__law_bad_text.nd))) sNil)
    (sCons (sIf (tOrD (oCmpT (op_eqD (Room.u6 hr)) ker_eqD (nB 5) (PE.toB cI) (nomark _)) (tOr1 (oCmpT (op_eqD (Room.u6 hr)) ker_eqD (nB 5) (PE.toB cI) (nomark _)))).pt (sOne (sSet 3 (PE.FtoD (lCat (PE.FtoL (lCat (PE.FtoL (lSlice (nL 3) oNo (oYes (nB 4)))) (PE.FtoL (dLst (aCons (fB1 scd t.D__law_piece_of G__law_piece_of (hr.mono (by decide)) (aConsB (PE.toB (oBin op_fdiv ker_div (nB 2) (PE.toB cI))) aNilB)) aNil))))) (PE.FtoL (lSlice (nL 3) (oYes (nB 4)) oNo)))) sco__law_bad_text.nd)) sNil)
    (sCons (sIf (oCmpT (op_eqD (Room.u6 hr)) ker_eqD (nB 5) (PE.toB cI) (nomark _)) (sOne (sRet (oBin op_add_str ker_addS (PE.toB (oBin op_add_str ker_addS (nB 6) (PE.toB cS))) (PE.toB (oJoin (PE.toB cS) (PE.FtoL (lComp (cpS (N := ["_law_row"]) (nt := 1) (caps := []) (defScope st__law_bad_text) ["_law_n", "_law_word", "_law_number", "_law_rows", "_law_at", "_law_which", "_law_head", "_law_menu"] (by decide +kernel)) rfl (toIS (iL (nD 3))) (Kp.ok (kpN2 (nt := 1) 0)) (fun _ _ _ _ _ => (gN2 0 (by show List.Nodup (["_law_row"] : List Str); decide +kernel))) (fun _ _ _ _ _ => ts0) (fun _ _ _ _ _ => (oBin op_add_str ker_addS (PE.toB cS) (nB 0)))))))))) sNil)
    (sCons (sIf (oCmpT (op_eqD (Room.u6 hr)) ker_eqD (nB 5) (PE.toB cI) (nomark _)) (sCons (sSet 3 (PE.FtoD (lCat (PE.FtoL (lCat (PE.FtoL (lSlice (nL 3) oNo (oYes (nB 4)))) (PE.FtoL (dLst (aCons (fB1 scd t.D__law_piece_of G__law_piece_of (hr.mono (by decide)) (aConsB (PE.toB (oBin op_fdiv ker_div (nB 2) (PE.toB cI))) aNilB)) aNil))))) (PE.FtoL (lSlice (nL 3) (oYes (PE.toB (oBin op_add ker_addI (nB 4) (PE.toB cI)))) oNo)))) sco__law_bad_text.nd)
    (sOne (sSet 6 (lIx (PE.FtoL (dLst (aCons cS (aCons cS (aCons cS aNil))))) (PE.toB (oBin op_mod ker_mod (PE.toB (oBin op_fdiv ker_div (nB 2) (PE.toB cI))) (PE.toB cI)))) sco__law_bad_text.nd))) sNil)
    (sCons (sIf (oCmpT (op_eqD (Room.u6 hr)) ker_eqD (nB 5) (PE.toB cI) (nomark _)) (sOne (sRet (oBin op_add_str ker_addS (PE.toB (oBin op_add_str ker_addS (PE.toB cS) (nB 6))) (PE.toB (oJoin (PE.toB cS) (PE.FtoL (lComp (cpS (N := ["_law_row"]) (nt := 1) (caps := []) (defScope st__law_bad_text) ["_law_n", "_law_word", "_law_number", "_law_rows", "_law_at", "_law_which", "_law_head", "_law_menu"] (by decide +kernel)) rfl (toIS (iL (nD 3))) (Kp.ok (kpN2 (nt := 1) 0)) (fun _ _ _ _ _ => (gN2 0 (by show List.Nodup (["_law_row"] : List Str); decide +kernel))) (fun _ _ _ _ _ => ts0) (fun _ _ _ _ _ => (oBin op_add_str ker_addS (PE.toB cS) (nB 0)))))))))) sNil)
    (sCons (sIf (oCmpT (op_eqD (Room.u6 hr)) ker_eqD (nB 5) (PE.toB cI) (nomark _)) (sOne (sRet (oBin op_add_str ker_addS (PE.toB (oBin op_add_str ker_addS (nB 6) (PE.toB (oJoin (PE.toB cS) (PE.FtoL (lComp (cpS (N := ["_law_row"]) (nt := 1) (caps := []) (defScope st__law_bad_text) ["_law_n", "_law_word", "_law_number", "_law_rows", "_law_at", "_law_which", "_law_head", "_law_menu"] (by decide +kernel)) rfl (toIS (iL (nD 3))) (Kp.ok (kpN2 (nt := 1) 0)) (fun _ _ _ _ _ => (gN2 0 (by show List.Nodup (["_law_row"] : List Str); decide +kernel))) (fun _ _ _ _ _ => ts0) (fun _ _ _ _ _ => (oBin op_add_str ker_addS (PE.toB cS) (nB 0))))))))) (PE.toB cS)))) sNil)
    (sCons (sIf (oCmpT (op_eqD (Room.u6 hr)) ker_eqD (nB 5) (PE.toB cI) (nomark _)) (sOne (sRet (lIx (PE.FtoL (@dLst _ _ _ _ _ (@paC _ _ _ (by kernel_rfl)))) (PE.toB (oBin op_mod ker_mod (PE.toB (oBin op_fdiv ker_div (nB 2) (PE.toB cI))) (PE.toB cI)))))) sNil)
    (sOne (sRet (oBin op_add_str ker_addS (nB 6) (PE.toB (oJoin (PE.toB cS) (PE.FtoL (lComp (cpS (N := ["_law_row"]) (nt := 1) (caps := []) (defScope st__law_bad_text) ["_law_n", "_law_word", "_law_number", "_law_rows", "_law_at", "_law_which", "_law_head", "_law_menu"] (by decide +kernel)) rfl (toIS (iL (nD 3))) (Kp.ok (kpN2 (nt := 1) 0)) (fun _ _ _ _ _ => (gN2 0 (by show List.Nodup (["_law_row"] : List Str); decide +kernel))) (fun _ _ _ _ _ => ts0) (fun _ _ _ _ _ => (oBin op_add_str ker_addS (PE.toB cS) (nB 0)))))))))))))))))))))
  exact h
theorem ok__law_no_word (G__law_text : Ok P w K mg base 1 t.a__law_text t.d__law_text ["_law_n", "_law_word"] m__law_text) : Ok P w K mg base 2 t.a__law_no_word t.d__law_no_word ["_law_n", "_law_word", "_law_number"] m__law_no_word := by
  have h := okS (P := P) (w := w) (base := base) (k := 1) sco__law_no_word t.D__law_no_word fun cdv A outer s H E hr =>
    (sCons (sSet 3 (oBin op_mod ker_mod (PE.toB (oBin op_fdiv ker_div (nB 2) (PE.toB cI))) (PE.toB (oBin op_add ker_addI (PE.toB (oCall call_len ker_len t.m_len bt_len (aConsB (nB 1) aNilB))) (PE.toB cI)))) sco__law_no_word.nd)
    (sCons (sIf (oCmpT (op_eqD (Room.u6 hr)) ker_eqD (PE.toB (oBin op_mod ker_mod (nB 2) (PE.toB cI))) (PE.toB cI) (nomark _)) (sOne (sRet (fB1 scd t.D__law_text G__law_text (hr.mono (by decide)) (aConsB (PE.toB (lIx (PE.FtoL (dLst (aCons cI (aCons cI (aCons cI aNil))))) (PE.toB (oBin op_mod ker_mod (PE.toB (oBin op_fdiv ker_div (nB 2) (PE.toB cI))) (PE.toB cI))))) (aConsB (nB 1) aNilB))))) sNil)
    (sCons (sSet 4 (oMaxL rfl t.m_max (PE.FtoL (lCat (PE.FtoL (dLst (aCons cI aNil))) (PE.FtoL (lComp (cpS (N := ["_law_k"]) (nt := 1) (caps := []) (defScope st__law_no_word) ["_law_n", "_law_word", "_law_number", "_law_at", "_law_few", "_law_k"] (by decide +kernel)) rfl (toIS (iL (nD 1))) (Kp.ok (kpN2 (nt := 1) 0)) (fun _ _ _ _ _ => (gN2 0 (by show List.Nodup (["_law_k"] : List Str); decide +kernel))) (fun _ _ _ _ _ => ts0) (fun _ _ _ _ _ => (oCall call_abs ker_abs t.m_abs bt_abs (aConsB (nB 0) aNilB)))))))) sco__law_no_word.nd)
    (sCons (sIf (tAndD (oCmpT (op_eqD (Room.u6 hr)) ker_eqD (PE.toB (oBin op_mod ker_mod (nB 2) (PE.toB cI))) (PE.toB cI) (nomark _)) (tAnd1 (oCmpT op_gt ker_gt (nB 4) (PE.toB cI) (nomark _)))).pt (sOne (sRet (fB1 scd t.D__law_text G__law_text (hr.mono (by decide)) (aConsB (PE.toB (oBin op_add ker_addI (PE.toB cI) (PE.toB (oBin op_mod ker_mod (PE.toB (oBin op_fdiv ker_div (nB 2) (PE.toB cI))) (nB 4))))) (aConsB (nB 1) aNilB))))) sNil)
    (sCons (sSet 5 (oBin op_add ker_addI (nB 0) (PE.toB (oBin op_mod ker_mod (PE.toB (oBin op_fdiv ker_div (nB 2) (PE.toB cI))) (PE.toB (oBin op_sub ker_sub (PE.toB cI) (nB 0)))))) sco__law_no_word.nd)
    (sOne (sRet (fB1 scd t.D__law_text G__law_text (hr.mono (by decide)) (aConsB (nB 0) (aConsB (PE.toB (PE.FtoD (lCat (PE.FtoL (lCat (PE.FtoL (lSlice (nL 1) oNo (oYes (nB 3)))) (PE.FtoL (dLst (aCons (lIx (PE.FtoL (dLst (aCons (nD 5) (aCons (oUn un_neg ker_neg (nB 5)) aNil)))) (PE.toB (oBin op_mod ker_mod (PE.toB (oBin op_fdiv ker_div (nB 2) (PE.toB cI))) (PE.toB cI)))) aNil))))) (PE.FtoL (lSlice (nL 1) (oYes (nB 3)) oNo))))) aNilB))))))))))
  exact h
theorem okX_read_crossings (G_read_crossing : Ok P w K mg base 2 t.a_read_crossing t.d_read_crossing ["piece"] m_read_crossing) (GX_read_crossing : OkX P w K mg base 2 t.a_read_crossing t.d_read_crossing ["piece"] mX_read_crossing) : OkFX P w K mg base 3 t.a_read_crossings t.d_read_crossings ["tail"] mX_read_crossings := by
  have h := okFSX (P := P) (w := w) (base := base) (k := 2) sco_read_crossings t.D_read_crossings fun cdv A outer s H E hr =>
    (sCons (sIf (tAndD (oCmpT (op_neD (Room.u6 hr)) ker_neD (nB 0) (PE.toB cS) (nomark _)) (tAnd1 (tNotD (tVal (PE.toB (oStarts (nB 0) (PE.toB cS))))))).pt (sOne (sRaise t.Xc_BadText hr.hd)) sNil)
    (sOne (sRetF (lCompX (cpS (N := ["piece"]) (nt := 1) (caps := []) (defScope st_read_crossings) ["tail"] (by decide +kernel)) rfl cfail (toIS (iL (PE.FtoD (lSplit (nB 0) (PE.toB cS))))) (Kp.ok (kpN2 (nt := 1) 0)) (fun _ _ _ _ _ => (gN2 0 (by show List.Nodup (["piece"] : List Str); decide +kernel))) (fun _ _ _ _ _ => (ts1 (oCmpT (op_neD (Room.u6 hr)) ker_neD (nB 0) (PE.toB cS) (nomark _)))) (fun _ _ _ _ _ => (fB1 (ScD.ne scdX) t.D_read_crossing G_read_crossing (hr.mono (by decide)) (aConsB (nB 0) aNilB))) (fun _ _ _ _ _ _ _ hx => (fB GX_read_crossing scdX t.D_read_crossing.m t.D_read_crossing.F.kp t.D_read_crossing.b (hr.mono (by decide)) hx (aConsB (nB 0) aNilB))) (fun _ _ h => bind_ne h)))))
  exact h
theorem ok__law_drawn (G__law_mix : Ok P w K mg base 1 t.a__law_mix t.d__law_mix ["_law_cell", "_law_k", "_law_factor"] m__law_mix) (G__law_piece : Ok P w K mg base 2 t.a__law_piece t.d__law_piece ["_law_number", "_law_n"] m__law_piece) : OkF P w K mg base 3 t.a__law_drawn t.d__law_drawn ["_law_cells", "_law_n", "_law_most"] m__law_drawn := by
  have h := okFS (P := P) (w := w) (base := base) (k := 2) sco__law_drawn t.D__law_drawn fun cdv A outer s H E hr =>
    (sCons (sSet 3 (PE.FtoD (dLst aNil)) sco__law_drawn.nd)
    (sCons (sFor PassesOwn.never rfl (iE t.m_enumerate (nD 0)) (gT2 2 rfl (gsCons2 (gN2 4 sco__law_drawn.nd) (gsCons2 (gN2 5 sco__law_drawn.nd) gsNil2))) (sOne (sIf (oCmpT op_gt ker_gt (nB 1) (PE.toB cI) (nomark _)) (sOne (sSet 3 (PE.FtoD (lCat (nL 3) (PE.DtoL (fD1 t.D__law_piece G__law_piece (hr.mono (by decide)) (aCons (fB1 scd t.D__law_mix G__law_mix (hr.mono (by decide)) (aConsB (nB 5) (aConsB (nB 4) (aConsB (PE.toB cI) aNilB)))) (aCons (nD 1) aNil)))))) sco__law_drawn.nd)) sNil)))
    (sOne (sRetF (lSlice (nL 3) oNo (oYes (nB 2)))))))
  exact h
theorem okX_read_text (GX_checked : OkX P w K mg base 2 t.a_checked t.d_checked ["n", "word"] mX_checked) (GX_read_crossings : OkFX P w K mg base 3 t.a_read_crossings t.d_read_crossings ["tail"] mX_read_crossings) : OkX P w K mg base 4 t.a_read_text t.d_read_text ["text"] mX_read_text := by
  have h := okDX (P := P) (w := w) (base := base) (k := 3) sco_read_text t.D_read_text fun cdv A outer s H E hr =>
    (sCons (sSet 1 (oPart (PE.toB (oStrip (nB 0) (PE.toB cS))) (PE.toB cS)) sco_read_text.nd)
    (sCons (sIf (tOrD (oCmpT (op_eqD (Room.u6 hr)) ker_eqD (PE.toB (dIx (nD 1) (PE.toB cI))) (PE.toB cS) (nomark _)) (tOr1 (tFigNot t.gi_FIGURES t.fg_FIGURES (PE.toB (dIx (nD 1) (PE.toB cI)))))).pt (sOne (sRaise t.Xc_BadText hr.hd)) sNil)
    (sCons (sSet 2 (oFigIx t.gi_FIGURES t.fg_FIGURES (PE.toB (dIx (nD 1) (PE.toB cI)))) sco_read_text.nd)
    (sCons (sSet 3 (PE.FtoD (fFX t.D_read_crossings GX_read_crossings (hr.mono (by decide)) (aCons (dIx (nD 1) (PE.toB cI)) aNil))) sco_read_text.nd)
    (sCons (sExpr (PE.toB (fBX scdX t.D_checked GX_checked (hr.mono (by decide)) (aConsB (nB 2) (aConsB (nB 3) aNilB)))))
    (sOne (sRet (dTup (aCons (nD 2) (aCons (nD 3) aNil))))))))))
  exact h
theorem ok__law_refused (GX_read_text : OkX P w K mg base 4 t.a_read_text t.d_read_text ["text"] mX_read_text) : Ok P w K mg base 5 t.a__law_refused t.d__law_refused ["_law_text_here", "_law_bad"] m__law_refused := by
  have h := okS (P := P) (w := w) (base := base) (k := 4) sco__law_refused t.D__law_refused fun cdv A outer s H E hr =>
    (sCons (sSet 2 cN sco__law_refused.nd)
    (sCons (sTry 3 t.Cat_BraidError (pbCall t.D_read_text GX_read_text (hr.mono (by decide)) (aConsB (nB 0) aNilB)) (fun _ => (sOne (sSet 2 (nD 3) sco__law_refused.nd))) sco__law_refused.nd rfl)
    (sCons (sIf (tOrD (tNotD (tVal (PE.toB (oIsxB t.Is_ValueError bt_ValueError t.m_ValueError t.m_isinstance (nB 2))))) (tOrD (oCmpT (op_neD (Room.u6 hr)) ker_neD (PE.toB (oIsx t.Is_BadText t.mc_BadText t.m_isinstance (nB 2))) (nB 1) (nomark _)) (tOr1 (oCmpT (op_eqD (Room.u6 hr)) ker_eqD (PE.toB (oIsx t.Is_NoWord t.mc_NoWord t.m_isinstance (nB 2))) (nB 1) (nomark _))))).pt (sOne (sRet cBl)) sNil)
    (sOne (sRet (vNot (PE.toB (oIsxT t.IsT_BadPicture_NoForm_NoMove_NoRow_NoString_TooMany_Unlike t.m_isinstance (nB 2) (gaC t.mc_BadPicture (gaC t.mc_NoForm (gaC t.mc_NoMove (gaC t.mc_NoRow (gaC t.mc_NoString (gaC t.mc_TooMany (gaC t.mc_Unlike gaN)))))))))))))))
  exact h
theorem ok_law (G_read_text : Ok P w K mg base 4 t.a_read_text t.d_read_text ["text"] m_read_text) (G__law_mix : Ok P w K mg base 1 t.a__law_mix t.d__law_mix ["_law_cell", "_law_k", "_law_factor"] m__law_mix) (G__law_strings : Ok P w K mg base 1 t.a__law_strings t.d__law_strings ["_law_seed", "_law_least", "_law_most"] m__law_strings) (G__law_drawn : OkF P w K mg base 3 t.a__law_drawn t.d__law_drawn ["_law_cells", "_law_n", "_law_most"] m__law_drawn) (G__law_text : Ok P w K mg base 1 t.a__law_text t.d__law_text ["_law_n", "_law_word"] m__law_text) (G__law_bad_text : Ok P w K mg base 2 t.a__law_bad_text t.d__law_bad_text ["_law_n", "_law_word", "_law_number"] m__law_bad_text) (G__law_no_word : Ok P w K mg base 2 t.a__law_no_word t.d__law_no_word ["_law_n", "_law_word", "_law_number"] m__law_no_word) (G__law_refused : Ok P w K mg base 5 t.a__law_refused t.d__law_refused ["_law_text_here", "_law_bad"] m__law_refused) : Ok P w K mg base 6 t.a_law t.d_law ["_law_script"] m_law := by
  have h := okS (P := P) (w := w) (base := base) (k := 5) sco_law t.D_law fun cdv A outer s H E hr =>
    (sCons (sSet 1 (oBin op_mod ker_mod (PE.toB (lIx (PE.FtoL (lCat (nL 0) (PE.FtoL (dLst (aCons cI aNil))))) (PE.toB cI))) (PE.toB (oBin op_pow ker_pow (PE.toB cI) (PE.toB cI)))) sco_law.nd)
    (sCons (sSet 2 (fB1 scd t.D__law_strings G__law_strings (hr.mono (by decide)) (aConsB (nB 1) (aConsB (PE.toB cI) (aConsB (PE.toB cI) aNilB)))) sco_law.nd)
    (sCons (sSet 3 (PE.FtoD (fF1 t.D__law_drawn G__law_drawn (hr.mono (by decide)) (aCons (PE.FtoD (lSlice (nL 0) oNo (oYes (PE.toB cI)))) (aCons (nD 2) (aCons cI aNil))))) sco_law.nd)
    (sCons (sSet 4 (fB1 scd t.D__law_text G__law_text (hr.mono (by decide)) (aConsB (nB 2) (aConsB (nB 3) aNilB))) sco_law.nd)
    (sCons (sFor PassesOwn.never rfl (iE t.m_enumerate (PE.FtoD (lCat (PE.FtoL (dLst (aCons (nD 1) aNil))) (PE.FtoL (lSlice (nL 0) (oYes (PE.toB cI)) (oYes (PE.toB cI))))))) (gT2 2 rfl (gsCons2 (gN2 5 sco_law.nd) (gsCons2 (gN2 6 sco_law.nd) gsNil2))) (sCons (sSet 7 (fB1 scd t.D__law_mix G__law_mix (hr.mono (by decide)) (aConsB (nB 6) (aConsB (nB 5) (aConsB (PE.toB cI) aNilB)))) sco_law.nd)
    (sCons (sIf (tNotD (tVal (PE.toB (fB1 scd t.D__law_refused G__law_refused (hr.mono (by decide)) (aConsB (PE.toB (fB1 scd t.D__law_bad_text G__law_bad_text (hr.mono (by decide)) (aConsB (nB 2) (aConsB (nB 3) (aConsB (nB 7) aNilB))))) (aConsB (PE.toB cBl) aNilB)))))) (sOne (sRet cBl)) sNil)
    (sOne (sIf (tNotD (tVal (PE.toB (fB1 scd t.D__law_refused G__law_refused (hr.mono (by decide)) (aConsB (PE.toB (fB1 scd t.D__law_no_word G__law_no_word (hr.mono (by decide)) (aConsB (nB 2) (aConsB (nB 3) (aConsB (PE.toB (oBin op_fdiv ker_div (nB 7) (PE.toB cI))) aNilB))))) (aConsB (PE.toB cBl) aNilB)))))) (sOne (sRet cBl)) sNil)))))
    (sOne (sRet (oCmp (op_eqD (Room.u6 hr)) ker_eqD (PE.toB (fD1 t.D_read_text G_read_text (hr.mono (by decide)) (aCons (nD 4) aNil))) (PE.toB (dTup (aCons (nD 2) (aCons (nD 3) aNil)))) (nomark _)))))))))
  exact h
end
theorem all_mk {l : PySem.W.OpenLaw} {w : World} {K : PySem.W.Frag} {h : Heap} {mg : Str → Option Value} {fa : Addr} (X : K.In h) (G : h.Ns mainGlobals mg) (hfa : mg "law" = some (.ref fa))
    {f0 : Addr} {od0 an0 : Option Addr} {sl0 : Array (Option Value)} {oc0 kV0 dc0 pm0 cd0 ct0 : Value}
    (a0 : PySem.W.nsIn K mainGlobals "is_crossing" = some (some (.ref f0))) (l0 : K.lookup f0 = some ⟨oc0, od0, .func (PySem.W.fnOf "is_crossing" "is_crossing" (defArgs st_is_crossing) (defBody st_is_crossing) (defScope st_is_crossing) .none kV0 dc0 pm0 an0 cd0 ct0), sl0⟩) (c0 : PySem.W.codeIn K cd0 "is_crossing" = true) (k0 : PySem.W.keepIn K (.ref f0) = true)
    {f1 : Addr} {od1 an1 : Option Addr} {sl1 : Array (Option Value)} {oc1 kV1 dc1 pm1 cd1 ct1 : Value}
    (a1 : PySem.W.nsIn K mainGlobals "checked" = some (some (.ref f1))) (l1 : K.lookup f1 = some ⟨oc1, od1, .func (PySem.W.fnOf "checked" "checked" (defArgs st_checked) (defBody st_checked) (defScope st_checked) .none kV1 dc1 pm1 an1 cd1 ct1), sl1⟩) (c1 : PySem.W.codeIn K cd1 "checked" = true) (k1 : PySem.W.keepIn K (.ref f1) = true)
    {f2 : Addr} {od2 an2 : Option Addr} {sl2 : Array (Option Value)} {oc2 kV2 dc2 pm2 cd2 ct2 : Value}
    (a2 : PySem.W.nsIn K mainGlobals "read_crossing" = some (some (.ref f2))) (l2 : K.lookup f2 = some ⟨oc2, od2, .func (PySem.W.fnOf "read_crossing" "read_crossing" (defArgs st_read_crossing) (defBody st_read_crossing) (defScope st_read_crossing) .none kV2 dc2 pm2 an2 cd2 ct2), sl2⟩) (c2 : PySem.W.codeIn K cd2 "read_crossing" = true) (k2 : PySem.W.keepIn K (.ref f2) = true)
    {f3 : Addr} {od3 an3 : Option Addr} {sl3 : Array (Option Value)} {oc3 kV3 dc3 pm3 cd3 ct3 : Value}
    (a3 : PySem.W.nsIn K mainGlobals "read_number" = some (some (.ref f3))) (l3 : K.lookup f3 = some ⟨oc3, od3, .func (PySem.W.fnOf "read_number" "read_number" (defArgs st_read_number) (defBody st_read_number) (defScope st_read_number) .none kV3 dc3 pm3 an3 cd3 ct3), sl3⟩) (c3 : PySem.W.codeIn K cd3 "read_number" = true) (k3 : PySem.W.keepIn K (.ref f3) = true)
    {f4 : Addr} {od4 an4 : Option Addr} {sl4 : Array (Option Value)} {oc4 kV4 dc4 pm4 cd4 ct4 : Value}
    (a4 : PySem.W.nsIn K mainGlobals "read_crossings" = some (some (.ref f4))) (l4 : K.lookup f4 = some ⟨oc4, od4, .func (PySem.W.fnOf "read_crossings" "read_crossings" (defArgs st_read_crossings) (defBody st_read_crossings) (defScope st_read_crossings) .none kV4 dc4 pm4 an4 cd4 ct4), sl4⟩) (c4 : PySem.W.codeIn K cd4 "read_crossings" = true) (k4 : PySem.W.keepIn K (.ref f4) = true)
    {f5 : Addr} {od5 an5 : Option Addr} {sl5 : Array (Option Value)} {oc5 kV5 dc5 pm5 cd5 ct5 : Value}
    (a5 : PySem.W.nsIn K mainGlobals "read_text" = some (some (.ref f5))) (l5 : K.lookup f5 = some ⟨oc5, od5, .func (PySem.W.fnOf "read_text" "read_text" (defArgs st_read_text) (defBody st_read_text) (defScope st_read_text) .none kV5 dc5 pm5 an5 cd5 ct5), sl5⟩) (c5 : PySem.W.codeIn K cd5 "read_text" = true) (k5 : PySem.W.keepIn K (.ref f5) = true)
    {f6 : Addr} {od6 an6 : Option Addr} {sl6 : Array (Option Value)} {oc6 kV6 dc6 pm6 cd6 ct6 : Value}
    (a6 : PySem.W.nsIn K mainGlobals "_law_mix" = some (some (.ref f6))) (l6 : K.lookup f6 = some ⟨oc6, od6, .func (PySem.W.fnOf "_law_mix" "_law_mix" (defArgs st__law_mix) (defBody st__law_mix) (defScope st__law_mix) .none kV6 dc6 pm6 an6 cd6 ct6), sl6⟩) (c6 : PySem.W.codeIn K cd6 "_law_mix" = true) (k6 : PySem.W.keepIn K (.ref f6) = true)
    {f7 : Addr} {od7 an7 : Option Addr} {sl7 : Array (Option Value)} {oc7 kV7 dc7 pm7 cd7 ct7 : Value}
    (a7 : PySem.W.nsIn K mainGlobals "_law_strings" = some (some (.ref f7))) (l7 : K.lookup f7 = some ⟨oc7, od7, .func (PySem.W.fnOf "_law_strings" "_law_strings" (defArgs st__law_strings) (defBody st__law_strings) (defScope st__law_strings) .none kV7 dc7 pm7 an7 cd7 ct7), sl7⟩) (c7 : PySem.W.codeIn K cd7 "_law_strings" = true) (k7 : PySem.W.keepIn K (.ref f7) = true)
    {f8 : Addr} {od8 an8 : Option Addr} {sl8 : Array (Option Value)} {oc8 kV8 dc8 pm8 cd8 ct8 : Value}
    (a8 : PySem.W.nsIn K mainGlobals "_law_crossing" = some (some (.ref f8))) (l8 : K.lookup f8 = some ⟨oc8, od8, .func (PySem.W.fnOf "_law_crossing" "_law_crossing" (defArgs st__law_crossing) (defBody st__law_crossing) (defScope st__law_crossing) .none kV8 dc8 pm8 an8 cd8 ct8), sl8⟩) (c8 : PySem.W.codeIn K cd8 "_law_crossing" = true) (k8 : PySem.W.keepIn K (.ref f8) = true)
    {f9 : Addr} {od9 an9 : Option Addr} {sl9 : Array (Option Value)} {oc9 kV9 dc9 pm9 cd9 ct9 : Value}
    (a9 : PySem.W.nsIn K mainGlobals "_law_piece" = some (some (.ref f9))) (l9 : K.lookup f9 = some ⟨oc9, od9, .func (PySem.W.fnOf "_law_piece" "_law_piece" (defArgs st__law_piece) (defBody st__law_piece) (defScope st__law_piece) .none kV9 dc9 pm9 an9 cd9 ct9), sl9⟩) (c9 : PySem.W.codeIn K cd9 "_law_piece" = true) (k9 : PySem.W.keepIn K (.ref f9) = true)
    {f10 : Addr} {od10 an10 : Option Addr} {sl10 : Array (Option Value)} {oc10 kV10 dc10 pm10 cd10 ct10 : Value}
    (a10 : PySem.W.nsIn K mainGlobals "_law_drawn" = some (some (.ref f10))) (l10 : K.lookup f10 = some ⟨oc10, od10, .func (PySem.W.fnOf "_law_drawn" "_law_drawn" (defArgs st__law_drawn) (defBody st__law_drawn) (defScope st__law_drawn) .none kV10 dc10 pm10 an10 cd10 ct10), sl10⟩) (c10 : PySem.W.codeIn K cd10 "_law_drawn" = true) (k10 : PySem.W.keepIn K (.ref f10) = true)
    {f11 : Addr} {od11 an11 : Option Addr} {sl11 : Array (Option Value)} {oc11 kV11 dc11 pm11 cd11 ct11 : Value}
    (a11 : PySem.W.nsIn K mainGlobals "_law_text" = some (some (.ref f11))) (l11 : K.lookup f11 = some ⟨oc11, od11, .func (PySem.W.fnOf "_law_text" "_law_text" (defArgs st__law_text) (defBody st__law_text) (defScope st__law_text) .none kV11 dc11 pm11 an11 cd11 ct11), sl11⟩) (c11 : PySem.W.codeIn K cd11 "_law_text" = true) (k11 : PySem.W.keepIn K (.ref f11) = true)
    {f12 : Addr} {od12 an12 : Option Addr} {sl12 : Array (Option Value)} {oc12 kV12 dc12 pm12 cd12 ct12 : Value}
    (a12 : PySem.W.nsIn K mainGlobals "_law_piece_of" = some (some (.ref f12))) (l12 : K.lookup f12 = some ⟨oc12, od12, .func (PySem.W.fnOf "_law_piece_of" "_law_piece_of" (defArgs st__law_piece_of) (defBody st__law_piece_of) (defScope st__law_piece_of) .none kV12 dc12 pm12 an12 cd12 ct12), sl12⟩) (c12 : PySem.W.codeIn K cd12 "_law_piece_of" = true) (k12 : PySem.W.keepIn K (.ref f12) = true)
    {f13 : Addr} {od13 an13 : Option Addr} {sl13 : Array (Option Value)} {oc13 kV13 dc13 pm13 cd13 ct13 : Value}
    (a13 : PySem.W.nsIn K mainGlobals "_law_bad_text" = some (some (.ref f13))) (l13 : K.lookup f13 = some ⟨oc13, od13, .func (PySem.W.fnOf "_law_bad_text" "_law_bad_text" (defArgs st__law_bad_text) (defBody st__law_bad_text) (defScope st__law_bad_text) .none kV13 dc13 pm13 an13 cd13 ct13), sl13⟩) (c13 : PySem.W.codeIn K cd13 "_law_bad_text" = true) (k13 : PySem.W.keepIn K (.ref f13) = true)
    {f14 : Addr} {od14 an14 : Option Addr} {sl14 : Array (Option Value)} {oc14 kV14 dc14 pm14 cd14 ct14 : Value}
    (a14 : PySem.W.nsIn K mainGlobals "_law_no_word" = some (some (.ref f14))) (l14 : K.lookup f14 = some ⟨oc14, od14, .func (PySem.W.fnOf "_law_no_word" "_law_no_word" (defArgs st__law_no_word) (defBody st__law_no_word) (defScope st__law_no_word) .none kV14 dc14 pm14 an14 cd14 ct14), sl14⟩) (c14 : PySem.W.codeIn K cd14 "_law_no_word" = true) (k14 : PySem.W.keepIn K (.ref f14) = true)
    {f15 : Addr} {od15 an15 : Option Addr} {sl15 : Array (Option Value)} {oc15 kV15 dc15 pm15 cd15 ct15 : Value}
    (a15 : PySem.W.nsIn K mainGlobals "_law_refused" = some (some (.ref f15))) (l15 : K.lookup f15 = some ⟨oc15, od15, .func (PySem.W.fnOf "_law_refused" "_law_refused" (defArgs st__law_refused) (defBody st__law_refused) (defScope st__law_refused) .none kV15 dc15 pm15 an15 cd15 ct15), sl15⟩) (c15 : PySem.W.codeIn K cd15 "_law_refused" = true) (k15 : PySem.W.keepIn K (.ref f15) = true)
    {f16 : Addr} {od16 an16 : Option Addr} {sl16 : Array (Option Value)} {oc16 kV16 dc16 pm16 cd16 ct16 : Value}
    (a16 : PySem.W.nsIn K mainGlobals "law" = some (some (.ref f16))) (l16 : K.lookup f16 = some ⟨oc16, od16, .func (PySem.W.fnOf "law" "law" (defArgs st_law) (defBody st_law) (defScope st_law) .none kV16 dc16 pm16 an16 cd16 ct16), sl16⟩) (c16 : PySem.W.codeIn K cd16 "law" = true) (k16 : PySem.W.keepIn K (.ref f16) = true)
    (z0 : PySem.W.nsIn K mainGlobals "ValueError" = some none)
    (z1 : PySem.W.nsIn K mainGlobals "abs" = some none)
    (z2 : PySem.W.nsIn K mainGlobals "enumerate" = some none)
    (z3 : PySem.W.nsIn K mainGlobals "isinstance" = some none)
    (z4 : PySem.W.nsIn K mainGlobals "len" = some none)
    (z5 : PySem.W.nsIn K mainGlobals "max" = some none)
    (z6 : PySem.W.nsIn K mainGlobals "str" = some none)
    {tk_FEWEST_STRINGS : Tok}
    {tk_MOST_STRINGS : Tok}
    {A_FIGURES : Addr}
    {C_BadPicture : Addr}
    {C_BadText : Addr}
    {C_BraidError : Addr}
    {C_NoForm : Addr}
    {C_NoMove : Addr}
    {C_NoRow : Addr}
    {C_NoString : Addr}
    {C_NoWord : Addr}
    {C_TooMany : Addr}
    {C_Unlike : Addr}
    (gi_FEWEST_STRINGS : PySem.W.nsIn K mainGlobals "FEWEST_STRINGS" = some (some (.int 1 tk_FEWEST_STRINGS)))
    (gi_MOST_STRINGS : PySem.W.nsIn K mainGlobals "MOST_STRINGS" = some (some (.int 7 tk_MOST_STRINGS)))
    (gi_FIGURES : PySem.W.nsIn K mainGlobals "FIGURES" = some (some (.ref A_FIGURES)))
    (fg_FIGURES : KTD.tabLook KTD.flatLooks (fun b => K.lookup b) A_FIGURES (figD tab_FIGURES) = true)
    (xa_BadPicture : PySem.W.nsIn K mainGlobals "BadPicture" = some (some (.ref C_BadPicture)))
    (xa_BadText : PySem.W.nsIn K mainGlobals "BadText" = some (some (.ref C_BadText)))
    (xa_BraidError : PySem.W.nsIn K mainGlobals "BraidError" = some (some (.ref C_BraidError)))
    (xa_NoForm : PySem.W.nsIn K mainGlobals "NoForm" = some (some (.ref C_NoForm)))
    (xa_NoMove : PySem.W.nsIn K mainGlobals "NoMove" = some (some (.ref C_NoMove)))
    (xa_NoRow : PySem.W.nsIn K mainGlobals "NoRow" = some (some (.ref C_NoRow)))
    (xa_NoString : PySem.W.nsIn K mainGlobals "NoString" = some (some (.ref C_NoString)))
    (xa_NoWord : PySem.W.nsIn K mainGlobals "NoWord" = some (some (.ref C_NoWord)))
    (xa_TooMany : PySem.W.nsIn K mainGlobals "TooMany" = some (some (.ref C_TooMany)))
    (xa_Unlike : PySem.W.nsIn K mainGlobals "Unlike" = some (some (.ref C_Unlike)))
    (xb_BadText : xcB K C_BadText = true)
    (xb_NoWord : xcB K C_NoWord = true)
    (xe_BraidError_BadText : PySem.W.exmOne K (.ref C_BadText) (.ref C_BraidError) = some true)
    (xe_BraidError_NoWord : PySem.W.exmOne K (.ref C_NoWord) (.ref C_BraidError) = some true)
    (xn_BadText : PySem.W.kitOne K (.type "NoneType") (.ref C_BadText) = some false)
    (xk_BadText_BadText : PySem.W.kitOne K (.ref C_BadText) (.ref C_BadText) = some (subX "BadText" "BadText"))
    (xk_BadText_NoWord : PySem.W.kitOne K (.ref C_NoWord) (.ref C_BadText) = some (subX "BadText" "NoWord"))
    (xn_NoWord : PySem.W.kitOne K (.type "NoneType") (.ref C_NoWord) = some false)
    (xk_NoWord_BadText : PySem.W.kitOne K (.ref C_BadText) (.ref C_NoWord) = some (subX "NoWord" "BadText"))
    (xk_NoWord_NoWord : PySem.W.kitOne K (.ref C_NoWord) (.ref C_NoWord) = some (subX "NoWord" "NoWord"))
    (xn_ValueError : PySem.W.kitOne K (.type "NoneType") (.type "ValueError") = some false)
    (xk_ValueError_BadText : PySem.W.kitOne K (.ref C_BadText) (.type "ValueError") = some (subX "ValueError" "BadText"))
    (xk_ValueError_NoWord : PySem.W.kitOne K (.ref C_NoWord) (.type "ValueError") = some (subX "ValueError" "NoWord"))
    (xt_0 : PySem.W.kitAny K (.type "NoneType") [Value.ref C_BadPicture, Value.ref C_NoForm, Value.ref C_NoMove, Value.ref C_NoRow, Value.ref C_NoString, Value.ref C_TooMany, Value.ref C_Unlike] = some false)
    (xu_0_BadText : PySem.W.kitAny K (.ref C_BadText) [Value.ref C_BadPicture, Value.ref C_NoForm, Value.ref C_NoMove, Value.ref C_NoRow, Value.ref C_NoString, Value.ref C_TooMany, Value.ref C_Unlike] = some (List.any ["BadPicture", "NoForm", "NoMove", "NoRow", "NoString", "TooMany", "Unlike"] (subX · "BadText")))
    (xu_0_NoWord : PySem.W.kitAny K (.ref C_NoWord) [Value.ref C_BadPicture, Value.ref C_NoForm, Value.ref C_NoMove, Value.ref C_NoRow, Value.ref C_NoString, Value.ref C_TooMany, Value.ref C_Unlike] = some (List.any ["BadPicture", "NoForm", "NoMove", "NoRow", "NoString", "TooMany", "Unlike"] (subX · "NoWord"))) :
    ∃ fd : FuncData, (∀ (s : Shared) (v : Value), BindsTo s fd ⟨[v], []⟩ [("_law_script", v)]) ∧ ∀ base : Heap, K.In base → base.Ns mainGlobals mg → FnOk l.prog w K mg base CX0 6 fa fd ["_law_script"] (spD K xc0 m_law) := by
  have e := hfa.symm.trans (PySem.W.mg_of X G a16)
  cases e
  have F0 := fun_mk (st := st_is_crossing) l0 c0 k0
  have b0 := F0.binds (ps := ["n", "k"]) fun _ _ _ _ _ _ us hl => match us, hl with | [_, _], _ => rfl
  have F1 := fun_mk (st := st_checked) l1 c1 k1
  have b1 := F1.binds (ps := ["n", "word"]) fun _ _ _ _ _ _ us hl => match us, hl with | [_, _], _ => rfl
  have F2 := fun_mk (st := st_read_crossing) l2 c2 k2
  have b2 := F2.binds (ps := ["piece"]) fun _ _ _ _ _ _ us hl => match us, hl with | [_], _ => rfl
  have F3 := fun_mk (st := st_read_number) l3 c3 k3
  have b3 := F3.binds (ps := ["piece"]) fun _ _ _ _ _ _ us hl => match us, hl with | [_], _ => rfl
  have F4 := fun_mk (st := st_read_crossings) l4 c4 k4
  have b4 := F4.binds (ps := ["tail"]) fun _ _ _ _ _ _ us hl => match us, hl with | [_], _ => rfl
  have F5 := fun_mk (st := st_read_text) l5 c5 k5
  have b5 := F5.binds (ps := ["text"]) fun _ _ _ _ _ _ us hl => match us, hl with | [_], _ => rfl
  have F6 := fun_mk (st := st__law_mix) l6 c6 k6
  have b6 := F6.binds (ps := ["_law_cell", "_law_k", "_law_factor"]) fun _ _ _ _ _ _ us hl => match us, hl with | [_, _, _], _ => rfl
  have F7 := fun_mk (st := st__law_strings) l7 c7 k7
  have b7 := F7.binds (ps := ["_law_seed", "_law_least", "_law_most"]) fun _ _ _ _ _ _ us hl => match us, hl with | [_, _, _], _ => rfl
  have F8 := fun_mk (st := st__law_crossing) l8 c8 k8
  have b8 := F8.binds (ps := ["_law_number", "_law_n"]) fun _ _ _ _ _ _ us hl => match us, hl with | [_, _], _ => rfl
  have F9 := fun_mk (st := st__law_piece) l9 c9 k9
  have b9 := F9.binds (ps := ["_law_number", "_law_n"]) fun _ _ _ _ _ _ us hl => match us, hl with | [_, _], _ => rfl
  have F10 := fun_mk (st := st__law_drawn) l10 c10 k10
  have b10 := F10.binds (ps := ["_law_cells", "_law_n", "_law_most"]) fun _ _ _ _ _ _ us hl => match us, hl with | [_, _, _], _ => rfl
  have F11 := fun_mk (st := st__law_text) l11 c11 k11
  have b11 := F11.binds (ps := ["_law_n", "_law_word"]) fun _ _ _ _ _ _ us hl => match us, hl with | [_, _], _ => rfl
  have F12 := fun_mk (st := st__law_piece_of) l12 c12 k12
  have b12 := F12.binds (ps := ["_law_number"]) fun _ _ _ _ _ _ us hl => match us, hl with | [_], _ => rfl
  have F13 := fun_mk (st := st__law_bad_text) l13 c13 k13
  have b13 := F13.binds (ps := ["_law_n", "_law_word", "_law_number"]) fun _ _ _ _ _ _ us hl => match us, hl with | [_, _, _], _ => rfl
  have F14 := fun_mk (st := st__law_no_word) l14 c14 k14
  have b14 := F14.binds (ps := ["_law_n", "_law_word", "_law_number"]) fun _ _ _ _ _ _ us hl => match us, hl with | [_, _, _], _ => rfl
  have F15 := fun_mk (st := st__law_refused) l15 c15 k15
  have b15 := F15.binds (ps := ["_law_text_here", "_law_bad"]) fun _ _ _ _ _ _ us hl => match us, hl with | [_, _], _ => rfl
  have F16 := fun_mk (st := st_law) l16 c16 k16
  have b16 := F16.binds (ps := ["_law_script"]) fun _ _ _ _ _ _ us hl => match us, hl with | [_], _ => rfl
  let t : Tb K mg := { a_is_crossing := f0, d_is_crossing := _, D_is_crossing := ⟨F0, b0, PySem.W.mg_of X G a0, a0⟩, a_checked := f1, d_checked := _, D_checked := ⟨F1, b1, PySem.W.mg_of X G a1, a1⟩, a_read_crossing := f2, d_read_crossing := _, D_read_crossing := ⟨F2, b2, PySem.W.mg_of X G a2, a2⟩, a_read_number := f3, d_read_number := _, D_read_number := ⟨F3, b3, PySem.W.mg_of X G a3, a3⟩, a_read_crossings := f4, d_read_crossings := _, D_read_crossings := ⟨F4, b4, PySem.W.mg_of X G a4, a4⟩, a_read_text := f5, d_read_text := _, D_read_text := ⟨F5, b5, PySem.W.mg_of X G a5, a5⟩, a__law_mix := f6, d__law_mix := _, D__law_mix := ⟨F6, b6, PySem.W.mg_of X G a6, a6⟩, a__law_strings := f7, d__law_strings := _, D__law_strings := ⟨F7, b7, PySem.W.mg_of X G a7, a7⟩, a__law_crossing := f8, d__law_crossing := _, D__law_crossing := ⟨F8, b8, PySem.W.mg_of X G a8, a8⟩, a__law_piece := f9, d__law_piece := _, D__law_piece := ⟨F9, b9, PySem.W.mg_of X G a9, a9⟩, a__law_drawn := f10, d__law_drawn := _, D__law_drawn := ⟨F10, b10, PySem.W.mg_of X G a10, a10⟩, a__law_text := f11, d__law_text := _, D__law_text := ⟨F11, b11, PySem.W.mg_of X G a11, a11⟩, a__law_piece_of := f12, d__law_piece_of := _, D__law_piece_of := ⟨F12, b12, PySem.W.mg_of X G a12, a12⟩, a__law_bad_text := f13, d__law_bad_text := _, D__law_bad_text := ⟨F13, b13, PySem.W.mg_of X G a13, a13⟩, a__law_no_word := f14, d__law_no_word := _, D__law_no_word := ⟨F14, b14, PySem.W.mg_of X G a14, a14⟩, a__law_refused := f15, d__law_refused := _, D__law_refused := ⟨F15, b15, PySem.W.mg_of X G a15, a15⟩, a_law := fa, d_law := _, D_law := ⟨F16, b16, PySem.W.mg_of X G a16, a16⟩, m_ValueError := PySem.W.mg_none_of X G z0, m_abs := PySem.W.mg_none_of X G z1, m_enumerate := PySem.W.mg_none_of X G z2, m_isinstance := PySem.W.mg_none_of X G z3, m_len := PySem.W.mg_none_of X G z4, m_max := PySem.W.mg_none_of X G z5, m_str := PySem.W.mg_none_of X G z6, tk_FEWEST_STRINGS := _, gi_FEWEST_STRINGS := PySem.W.mg_of X G gi_FEWEST_STRINGS, tk_MOST_STRINGS := _, gi_MOST_STRINGS := PySem.W.mg_of X G gi_MOST_STRINGS, A_FIGURES := _, gi_FIGURES := PySem.W.mg_of X G gi_FIGURES, fg_FIGURES := fg_FIGURES, C_BadPicture := _, mc_BadPicture := PySem.W.mg_of X G xa_BadPicture, C_BadText := _, mc_BadText := PySem.W.mg_of X G xa_BadText, C_BraidError := _, mc_BraidError := PySem.W.mg_of X G xa_BraidError, C_NoForm := _, mc_NoForm := PySem.W.mg_of X G xa_NoForm, C_NoMove := _, mc_NoMove := PySem.W.mg_of X G xa_NoMove, C_NoRow := _, mc_NoRow := PySem.W.mg_of X G xa_NoRow, C_NoString := _, mc_NoString := PySem.W.mg_of X G xa_NoString, C_NoWord := _, mc_NoWord := PySem.W.mg_of X G xa_NoWord, C_TooMany := _, mc_TooMany := PySem.W.mg_of X G xa_TooMany, C_Unlike := _, mc_Unlike := PySem.W.mg_of X G xa_Unlike, Xc_BadText := ⟨PySem.W.mg_of X G xa_BadText, xa_BadText, (xcB_ok xb_BadText).2⟩, Xc_NoWord := ⟨PySem.W.mg_of X G xa_NoWord, xa_NoWord, (xcB_ok xb_NoWord).2⟩, Cat_BraidError := ⟨⟨_, PySem.W.mg_of X G xa_BraidError, (by intro n hn; simp only [List.mem_cons, List.not_mem_nil, or_false] at hn; rcases hn with rfl | rfl <;> first | exact ⟨_, xa_BadText, xe_BraidError_BadText⟩ | exact ⟨_, xa_NoWord, xe_BraidError_NoWord⟩)⟩⟩, Is_BadText := ⟨xn_BadText, (by intro n hn; simp only [List.mem_cons, List.not_mem_nil, or_false] at hn; rcases hn with rfl | rfl <;> first | exact ⟨_, xa_BadText, (xcB_ok xb_BadText).1, xk_BadText_BadText⟩ | exact ⟨_, xa_NoWord, (xcB_ok xb_NoWord).1, xk_BadText_NoWord⟩)⟩, Is_NoWord := ⟨xn_NoWord, (by intro n hn; simp only [List.mem_cons, List.not_mem_nil, or_false] at hn; rcases hn with rfl | rfl <;> first | exact ⟨_, xa_BadText, (xcB_ok xb_BadText).1, xk_NoWord_BadText⟩ | exact ⟨_, xa_NoWord, (xcB_ok xb_NoWord).1, xk_NoWord_NoWord⟩)⟩, Is_ValueError := ⟨xn_ValueError, (by intro n hn; simp only [List.mem_cons, List.not_mem_nil, or_false] at hn; rcases hn with rfl | rfl <;> first | exact ⟨_, xa_BadText, (xcB_ok xb_BadText).1, xk_ValueError_BadText⟩ | exact ⟨_, xa_NoWord, (xcB_ok xb_NoWord).1, xk_ValueError_NoWord⟩)⟩, IsT_BadPicture_NoForm_NoMove_NoRow_NoString_TooMany_Unlike := ⟨xt_0, (by intro n hn; simp only [List.mem_cons, List.not_mem_nil, or_false] at hn; rcases hn with rfl | rfl <;> first | exact ⟨_, xa_BadText, (xcB_ok xb_BadText).1, xu_0_BadText⟩ | exact ⟨_, xa_NoWord, (xcB_ok xb_NoWord).1, xu_0_NoWord⟩)⟩ }
  refine ⟨_, fun s v => (?_ : BindsTo s t.d_law ⟨[v], []⟩ [("_law_script", v)]), fun base _ _ => ?_⟩
  · exact .of_eq rfl
  have G_is_crossing := ok_is_crossing (P := l.prog) (w := w) (base := base) t
  have GX_read_number := okX_read_number (P := l.prog) (w := w) (base := base) t
  have G_read_number : Ok l.prog w K mg base 1 t.a_read_number t.d_read_number ["piece"] m_read_number := OkX.calm GX_read_number
  have G__law_mix := ok__law_mix (P := l.prog) (w := w) (base := base) t
  have G__law_strings := ok__law_strings (P := l.prog) (w := w) (base := base) t
  have G__law_crossing := ok__law_crossing (P := l.prog) (w := w) (base := base) t
  have G__law_text := ok__law_text (P := l.prog) (w := w) (base := base) t
  have G__law_piece_of := ok__law_piece_of (P := l.prog) (w := w) (base := base) t
  have GX_checked := okX_checked (P := l.prog) (w := w) (base := base) t G_is_crossing
  have G_checked : Ok l.prog w K mg base 2 t.a_checked t.d_checked ["n", "word"] m_checked := OkX.calm GX_checked
  have GX_read_crossing := okX_read_crossing (P := l.prog) (w := w) (base := base) t GX_read_number
  have G_read_crossing : Ok l.prog w K mg base 2 t.a_read_crossing t.d_read_crossing ["piece"] m_read_crossing := OkX.calm GX_read_crossing
  have G__law_piece := ok__law_piece (P := l.prog) (w := w) (base := base) t G__law_crossing
  have G__law_bad_text := ok__law_bad_text (P := l.prog) (w := w) (base := base) t G__law_piece_of
  have G__law_no_word := ok__law_no_word (P := l.prog) (w := w) (base := base) t G__law_text
  have GX_read_crossings := okX_read_crossings (P := l.prog) (w := w) (base := base) t G_read_crossing GX_read_crossing
  have G_read_crossings : OkF l.prog w K mg base 3 t.a_read_crossings t.d_read_crossings ["tail"] m_read_crossings := OkFX.calm GX_read_crossings
  have G__law_drawn := ok__law_drawn (P := l.prog) (w := w) (base := base) t G__law_mix G__law_piece
  have GX_read_text := okX_read_text (P := l.prog) (w := w) (base := base) t GX_checked GX_read_crossings
  have G_read_text : Ok l.prog w K mg base 4 t.a_read_text t.d_read_text ["text"] m_read_text := OkX.calm GX_read_text
  have G__law_refused := ok__law_refused (P := l.prog) (w := w) (base := base) t GX_read_text
  have G_law := ok_law (P := l.prog) (w := w) (base := base) t G_read_text G__law_mix G__law_strings G__law_drawn G__law_text G__law_bad_text G__law_no_word G__law_refused
  exact G_law
theorem walk {l : PySem.W.OpenLaw} {q : Program} {loose : List Str} {XP : (Str → Option Value) → Heap → Prop} {YP : World → Heap → Prop} {d : DefRec} {K : Params → PySem.W.Frag} (hn : l.most = some 63) (hdf : d.params.defaults = [])
    (hY : ∀ (w : World) (h : Heap), YP w h → (K w.params).In h)
    (F : ∀ (w : World) (mg : Str → Option Value) (fa : Addr) (h : Heap), (K w.params).In h → h.Ns mainGlobals mg → mg d.name = some (.ref fa) →
      ∃ fd : FuncData, (∀ (s : Shared) (u : Value), BindsTo s fd ⟨[u], []⟩ [("_law_script", u)]) ∧ ∀ base : Heap, (K w.params).In base → base.Ns mainGlobals mg → FnOk l.prog w (K w.params) mg base CX0 6 fa fd ["_law_script"] (spD (K w.params) xc0 m_law)) :
    PySem.W.WalkO q loose XP YP l.row.toRowW d [] (fun f vs => PySem.call f vs) :=
  L2.walk_of (n := 63) (k := 6) (x := "_law_script") (CX := fun _ => CX0) (sp := fun w => spD (K w.params) xc0 m_law) hn (by decide) hdf ⟨rfl, by decide, by decide⟩ hY F (fun w H a ns hl _ hS => law_sp ns hl hS) fun _ _ _ _ _ z => z
end DL.K06
open PySem PySem.W PyProof.Rows
set_option maxRecDepth 100000 in
set_option maxHeartbeats 0 in
theorem PySem.Challenge.cw_braidcomb_k06_texts_refused_holds : PySem.Challenge.rw_braidcomb_k06_texts_refused.Holds := by
  w_on; o_law; k_head; (case hw => w_witness2)
  k_fill
  refine DL.K06.walk (l := PySem.Challenge.rw_braidcomb_k06_texts_refused) rfl rfl (fun w h Y => PySem.W.kIn_of Y) ?F
  case F =>
    intro w mg fa h KX G hmg
    refine' DL.K06.all_mk KX G hmg ?a0 ?l0 ?c0 ?k0 ?a1 ?l1 ?c1 ?k1 ?a2 ?l2 ?c2 ?k2 ?a3 ?l3 ?c3 ?k3 ?a4 ?l4 ?c4 ?k4 ?a5 ?l5 ?c5 ?k5 ?a6 ?l6 ?c6 ?k6 ?a7 ?l7 ?c7 ?k7 ?a8 ?l8 ?c8 ?k8 ?a9 ?l9 ?c9 ?k9 ?a10 ?l10 ?c10 ?k10 ?a11 ?l11 ?c11 ?k11 ?a12 ?l12 ?c12 ?k12 ?a13 ?l13 ?c13 ?k13 ?a14 ?l14 ?c14 ?k14 ?a15 ?l15 ?c15 ?k15 ?a16 ?l16 ?c16 ?k16 ?z0 ?z1 ?z2 ?z3 ?z4 ?z5 ?z6 ?gi_FEWEST_STRINGS ?gi_MOST_STRINGS ?gi_FIGURES ?fg_FIGURES ?xa_BadPicture ?xa_BadText ?xa_BraidError ?xa_NoForm ?xa_NoMove ?xa_NoRow ?xa_NoString ?xa_NoWord ?xa_TooMany ?xa_Unlike ?xb_BadText ?xb_NoWord ?xe_BraidError_BadText ?xe_BraidError_NoWord ?xn_BadText ?xk_BadText_BadText ?xk_BadText_NoWord ?xn_NoWord ?xk_NoWord_BadText ?xk_NoWord_NoWord ?xn_ValueError ?xk_ValueError_BadText ?xk_ValueError_NoWord ?xt_0 ?xu_0_BadText ?xu_0_NoWord
    (case a0 => k_is)
    (case l0 => k_is)
    (case c0 => k_is)
    (case k0 => k_is)
    (case a1 => k_is)
    (case l1 => k_is)
    (case c1 => k_is)
    (case k1 => k_is)
    (case a2 => k_is)
    (case l2 => k_is)
    (case c2 => k_is)
    (case k2 => k_is)
    (case a3 => k_is)
    (case l3 => k_is)
    (case c3 => k_is)
    (case k3 => k_is)
    (case a4 => k_is)
    (case l4 => k_is)
    (case c4 => k_is)
    (case k4 => k_is)
    (case a5 => k_is)
    (case l5 => k_is)
    (case c5 => k_is)
    (case k5 => k_is)
    (case a6 => k_is)
    (case l6 => k_is)
    (case c6 => k_is)
    (case k6 => k_is)
    (case a7 => k_is)
    (case l7 => k_is)
    (case c7 => k_is)
    (case k7 => k_is)
    (case a8 => k_is)
    (case l8 => k_is)
    (case c8 => k_is)
    (case k8 => k_is)
    (case a9 => k_is)
    (case l9 => k_is)
    (case c9 => k_is)
    (case k9 => k_is)
    (case a10 => k_is)
    (case l10 => k_is)
    (case c10 => k_is)
    (case k10 => k_is)
    (case a11 => k_is)
    (case l11 => k_is)
    (case c11 => k_is)
    (case k11 => k_is)
    (case a12 => k_is)
    (case l12 => k_is)
    (case c12 => k_is)
    (case k12 => k_is)
    (case a13 => k_is)
    (case l13 => k_is)
    (case c13 => k_is)
    (case k13 => k_is)
    (case a14 => k_is)
    (case l14 => k_is)
    (case c14 => k_is)
    (case k14 => k_is)
    (case a15 => k_is)
    (case l15 => k_is)
    (case c15 => k_is)
    (case k15 => k_is)
    (case a16 => k_is)
    (case l16 => k_is)
    (case c16 => k_is)
    (case k16 => k_is)
    (case z0 => k_is)
    (case z1 => k_is)
    (case z2 => k_is)
    (case z3 => k_is)
    (case z4 => k_is)
    (case z5 => k_is)
    (case z6 => k_is)
    (case gi_FEWEST_STRINGS => k_is)
    (case gi_MOST_STRINGS => k_is)
    (case gi_FIGURES => k_is)
    (case fg_FIGURES => kernel_rfl)
    (case xa_BadPicture => k_is)
    (case xa_BadText => k_is)
    (case xa_BraidError => k_is)
    (case xa_NoForm => k_is)
    (case xa_NoMove => k_is)
    (case xa_NoRow => k_is)
    (case xa_NoString => k_is)
    (case xa_NoWord => k_is)
    (case xa_TooMany => k_is)
    (case xa_Unlike => k_is)
    (case xb_BadText => kernel_rfl)
    (case xb_NoWord => kernel_rfl)
    (case xe_BraidError_BadText => kernel_rfl)
    (case xe_BraidError_NoWord => kernel_rfl)
    (case xn_BadText => kernel_rfl)
    (case xk_BadText_BadText => kernel_rfl)
    (case xk_BadText_NoWord => kernel_rfl)
    (case xn_NoWord => kernel_rfl)
    (case xk_NoWord_BadText => kernel_rfl)
    (case xk_NoWord_NoWord => kernel_rfl)
    (case xn_ValueError => kernel_rfl)
    (case xk_ValueError_BadText => kernel_rfl)
    (case xk_ValueError_NoWord => kernel_rfl)
    (case xt_0 => kernel_rfl)
    (case xu_0_BadText => kernel_rfl)
    (case xu_0_NoWord => kernel_rfl)

