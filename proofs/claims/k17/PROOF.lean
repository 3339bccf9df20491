import PyProof.Rows.All
import Wide.All
import OpenK.AllK
import Wide.FinOn
import Lean
import PyProof.EqAt
import PyProof.EqKinds
import PyProof.TupleCall
import PyProof.NeKinds
import PyProof.ListRange
import OpenK.KOwn
import KE.KTryMore
import KE.KSorted
import KE.KSort
import PyProof.Rows.SortWalk
import PyProof.SeqI3
import PyProof.Rows.SumAny
import PyProof.Rows.SeqMore2
import KE.KListMore
import PyProof.Rows.Range3
import PyProof.Cells
import KE.KTabLook
import PyProof.SliceStr2
import PyProof.StrBlockI
import PyProof.Rows.FStr
import PyProof.Rows.StrNews2
import PyProof.ListStr
import PyProof.Rows.StrStep
import PyProof.Rows.StrJoinStr
import KE.KSortTup
import PyProof.NeKinds
import PySem.Challenge.RW_braidcomb_k17_linked_and_profile
set_option Elab.async false
set_option linter.all false
set_option maxRecDepth 100000
namespace L2
open PySem PySem.Spec PyProof.Rows

abbrev Key := Sum Int Str
def keyIs : Key → Value → Bool
  | .inl k, v => Value.isInt k v
  | .inr x, v => Value.isStrOf x v
def keyH (w : World) : Key → Int
  | .inl k => hashInt k
  | .inr x => hashStr w x
theorem keyIs_shape : ∀ {k : Key} {v : Value}, keyIs k v = true → (∃ i t, k = Sum.inl i ∧ v = Value.int i t) ∨ (∃ x t, k = Sum.inr x ∧ v = Value.str x t)
  | .inl i, v, h => by
    obtain ⟨t, e⟩ := Value.isInt_shape (k := i) (v := v) h
    exact .inl ⟨i, t, rfl, e⟩
  | .inr x, v, h => by
    obtain ⟨t, e⟩ := Value.isStrOf_shape (x := x) (v := v) h
    exact .inr ⟨x, t, rfl, e⟩
theorem keyIs_int (i : Int) (t : Tok) : keyIs (.inl i) (.int i t) = true := by simp [keyIs, Value.isInt]
theorem keyIs_str (x : Str) (t : Tok) : keyIs (.inr x) (.str x t) = true := by simp [keyIs, Value.isStrOf]
theorem key_ll (a b : Int) : decide ((Sum.inl a : Key) = Sum.inl b) = (a == b) := by
  by_cases e : a = b
  · subst e; simp
  · have h : ¬ (Sum.inl a : Key) = Sum.inl b := fun q => e (Sum.inl.inj q)
    rw [decide_eq_false h]
    exact (beq_eq_false_iff_ne.mpr e).symm
theorem key_rr (a b : Str) : decide ((Sum.inr a : Key) = Sum.inr b) = decide (a = b) := by
  by_cases e : a = b
  · subst e; simp
  · have h : ¬ (Sum.inr a : Key) = Sum.inr b := fun q => e (Sum.inr.inj q)
    rw [decide_eq_false h, decide_eq_false e]
theorem key_lr (a : Int) (b : Str) : decide ((Sum.inl a : Key) = Sum.inr b) = false := decide_eq_false (fun q => nomatch q)
theorem key_rl (a : Str) (b : Int) : decide ((Sum.inr a : Key) = Sum.inl b) = false := decide_eq_false (fun q => nomatch q)

def mixKind (prog : Program) (w : World) : PySem.KeyKind prog w Key where
  is := keyIs
  hash := keyH w
  inj := fun v a b ha hb => by
    rcases keyIs_shape ha with ⟨i, t, rfl, rfl⟩ | ⟨x, t, rfl, rfl⟩
    · rcases keyIs_shape hb with ⟨j, u, rfl, e⟩ | ⟨y, u, rfl, e⟩
      · injection e with e1 _; rw [e1]
      · exact nomatch e
    · rcases keyIs_shape hb with ⟨j, u, rfl, e⟩ | ⟨y, u, rfl, e⟩
      · exact nomatch e
      · injection e with e1 _; rw [e1]
  byValue := fun k v h => by
    rcases keyIs_shape h with ⟨i, t, rfl, rfl⟩ | ⟨x, t, rfl, rfl⟩ <;> rfl
  pyHash := fun hv h => by
    rcases keyIs_shape hv with ⟨i, t, rfl, rfl⟩ | ⟨x, t, rfl, rfl⟩
    · exact wpAny_pyHash_int h
    · exact wpAny_pyHash_str h
  eqBool := fun hu hv h => by
    rcases keyIs_shape hu with ⟨i, t, rfl, rfl⟩ | ⟨x, t, rfl, rfl⟩
    · rcases keyIs_shape hv with ⟨j, u, rfl, rfl⟩ | ⟨y, u, rfl, rfl⟩
      · rw [key_ll] at h; exact wpAny_eqBool_int h
      · rw [key_lr] at h; exact SeqAt.EqAt.int_str i t y u _ _ _ _ h
    · rcases keyIs_shape hv with ⟨j, u, rfl, rfl⟩ | ⟨y, u, rfl, rfl⟩
      · rw [key_rl] at h; exact SeqAt.EqAt.str_int x t j u _ _ _ _ h
      · rw [key_rr] at h; exact wpAny_eqBool_str h
  «strs» := fun k x t v h => by
    rcases keyIs_shape h with ⟨i, u, rfl, e⟩ | ⟨y, u, rfl, e⟩
    · exact nomatch e
    · injection e with e1 _
      subst e1
      cases v <;> rfl

theorem mixKind_int (prog : Program) (w : World) (i : Int) (t : Tok) : (mixKind prog w).is (.inl i) (.int i t) = true := keyIs_int i t
theorem mixKind_str (prog : Program) (w : World) (x : Str) (t : Tok) : (mixKind prog w).is (.inr x) (.str x t) = true := keyIs_str x t
end L2

namespace L2
open PySem PySem.Spec PyProof.Rows

inductive V where
  | non | bl (b : Bool) | int (i : Int) | str (x : Str) | byt (b : Array UInt8) | flt (b : UInt64) | ref (a : Addr) | ty (n : String)
  deriving DecidableEq

def RelV : V → Value → Prop
  | .non, u => u = Value.none
  | .bl b, u => u = Value.bool b
  | .int i, u => ∃ t, u = Value.int i t
  | .str x, u => ∃ t, u = Value.str x t
  | .byt b, u => ∃ t, u = Value.bytes b t
  | .flt b, u => ∃ t, u = Value.float b t
  | .ref a, u => u = Value.ref a
  | .ty n, u => u = Value.type n

abbrev Vals : List V → List Value → Prop := Paired RelV
theorem Vals.length {xs : List V} {us : List Value} (r : Vals xs us) : xs.length = us.length := Paired.length r
theorem Vals.get : ∀ {xs : List V} {us : List Value} {i : Nat} {x : V}, Vals xs us → xs[i]? = some x → ∃ u, us[i]? = some u ∧ RelV x u
  | _, _, _, _, .nil, e => by simp at e
  | _, _, 0, _, .cons r _, e => by simp at e; subst e; exact ⟨_, rfl, r⟩
  | _, _, i + 1, x, .cons _ t, e => by
    obtain ⟨u, h1, h2⟩ := Vals.get (i := i) (x := x) t (by simpa using e)
    exact ⟨u, by simpa using h1, h2⟩
theorem Vals.set {x : V} {u : Value} (r : RelV x u) : ∀ {xs : List V} {us : List Value} (i : Nat), Vals xs us → Vals (xs.set i x) (us.set i u)
  | _, _, _, .nil => .nil
  | _, _, 0, .cons _ t => .cons r t
  | _, _, i + 1, .cons q t => .cons q (Vals.set r i t)
theorem Vals.append : ∀ {xs ys : List V} {us ws : List Value}, Vals xs us → Vals ys ws → Vals (xs ++ ys) (us ++ ws)
  | _, _, _, _, .nil, s => s
  | _, _, _, _, .cons r t, s => .cons r (Vals.append t s)
theorem Vals.take : ∀ {xs : List V} {us : List Value} (n : Nat), Vals xs us → Vals (xs.take n) (us.take n)
  | _, _, 0, _ => .nil
  | _, _, _ + 1, .nil => .nil
  | _, _, n + 1, .cons r t => .cons r (Vals.take n t)
theorem Vals.drop : ∀ {xs : List V} {us : List Value} (n : Nat), Vals xs us → Vals (xs.drop n) (us.drop n)
  | _, _, 0, r => r
  | _, _, _ + 1, .nil => .nil
  | _, _, n + 1, .cons _ t => Vals.drop n t
def RelO : Option V → Option Value → Prop
  | some v, some u => RelV v u
  | none, none => True
  | _, _ => False
def KV {κ : Type} : List (κ × V) → List (κ × Value) → Prop := Paired fun (p : κ × V) (q : κ × Value) => p.1 = q.1 ∧ RelV p.2 q.2

def kV : Key → V
  | .inl i => .int i
  | .inr x => .str x

inductive HO where
  /-- a list -/
  | lst (xs : List V)
  /-- a tuple (never changes) -/
  | tup (xs : List V)
  /-- a dict whose keys are ints and texts; one whose keys are tuples of ints and texts (the empty one is both) -/
  | dK (kvs : List (Key × V)) | dT (kvs : List (List Key × V))
  /-- a set of ints: its members, its size -/
  | set (S : Int → Bool) (n : Nat)
  /-- an instance of the class at C, its dict at dx, its attributes -/
  | ins (C dx : Addr) (fs : List (Str × V))
  /-- the dict of the instance at x -/
  | own (x : Addr)
  /-- the dict of an exception -/
  | xd (fs : List (Str × V))
  /-- a bound method, f of x -/
  | met (f x : Addr)
  /-- a range object lo, lo + 1, .. below hi -/
  | rng (lo hi : Int)
  /-- a thing that is known to the object (the script; a dict while a loop walks it): read, never written while it is so -/
  | frz (o : Obj) (u : HO)
  /-- a code object's table -/
  | tbl (ps : Array Value)
  /-- any other thing, by what is true of its one object (a def of one's own: SetO a S n := HO.ext fun h => ..) -/
  | ext (φ : Heap → Prop)

abbrev Hp := Addr → Option HO
def upd (H : Hp) (a : Addr) (o : HO) : Hp := fun b => if b = a then some o else H b
theorem upd_same {H : Hp} {a : Addr} {o : HO} : upd H a o a = some o := by unfold upd; rw [if_pos rfl]
theorem upd_ne {H : Hp} {a b : Addr} {o : HO} (h : b ≠ a) : upd H a o b = H b := by unfold upd; rw [if_neg h]
theorem ne_of {H : Hp} {a b : Addr} {o u : HO} (h : H a = some o) (h' : H b = some u) (d : o ≠ u) : a ≠ b := by
  intro e; subst e; rw [h] at h'; exact d (Option.some.inj h')
theorem ne_of_none {H : Hp} {a b : Addr} {o : HO} (h : H a = some o) (h' : H b = none) : a ≠ b := by
  intro e; subst e; rw [h] at h'; cases h'

section
variable (P : Program) (w : World)
def ObjOk (H : Hp) (h : Heap) (a : Addr) : HO → Prop
  | .lst xs => xs.length ≤ sizeLine ∧ ∃ (its : List Value) (n : Nat), Vals xs its ∧ h.get? a = some { cls := .type "list", data := .seq its.toArray n }
  | .tup xs => xs.length ≤ sizeLine ∧ ∃ its : List Value, Vals xs its ∧ IsTup h a its.toArray
  | .dK kvs => kvs.length ≤ sizeLine ∧ (a == sysModules) = false ∧ ∃ vs, KV kvs vs ∧ h.DictOf (mixKind P w) a vs
  | .dT kvs => kvs.length ≤ sizeLine ∧ (a == sysModules) = false ∧ ∃ xs : List (List Key × Addr × Value),
      Paired (fun (p : List Key × V) (q : List Key × Addr × Value) => p.1 = q.1 ∧ H q.2.1 = some (.tup (p.1.map kV)) ∧ RelV p.2 q.2.2) kvs xs ∧
      ∃ o es ep, h.get? a = some o ∧ o.ExactDict ∧ o.data = .dict es ep ∧ es.toList = xs.map (entryOfKey (tupleKind (mixKind P w))) ∧ (xs.map (·.1)).Nodup
  | .set S n => h.SetOf (intKind P w) a S n
  | .ins C dx fs => H dx = some (.own a) ∧ fs.length ≤ 1000 ∧ dx ≠ a ∧ h.get? a = some (PySem.W.instObj C dx) ∧
      ∃ mA, h.Ns1 dx mA ∧ (∀ f, RelO (fs.lookup f) (mA f)) ∧ PySem.Within mA (fs.map (·.1))
  | .own _ => ∃ o, h.get? a = some o
  | .xd fs => ∃ mA, h.Ns1 a mA ∧ ∀ f, RelO (fs.lookup f) (mA f)
  | .rng lo hi => ∃ t u v, h.get? a = some { cls := .type "range", data := .fields #[.int lo t, .int hi u, .int 1 v] }
  | .frz o u => h.get? a = some o ∧ ObjOk H h a u
  | .tbl ps => h.get? a = some { cls := .none, data := .fields ps }
  | .met f x => h.get? a = some (PySem.W.methodObj (.ref f) (.ref x))
  | .ext φ => φ h ∧ (∃ o, h.get? a = some o) ∧ ∀ h1 h2 : Heap, φ h1 → (∀ o, h1.get? a = some o → h2.get? a = some o) → φ h2
def HOk (H : Hp) (h : Heap) : Prop := ∀ a o, H a = some o → ObjOk P w H h a o
end

section
variable {P : Program} {w : World} {H H' : Hp} {h h' : Heap} {a : Addr} {o : HO}
theorem ObjOk.lt (x : ObjOk P w H h a o) : a < h.objs.size := by
  cases o with
  | lst xs => obtain ⟨_, _, _, _, e⟩ := x; exact Heap.lt_size e
  | tup xs => obtain ⟨_, _, _, p⟩ := x; exact p.lt
  | dK kvs => obtain ⟨_, _, _, _, o, _, _, e, _⟩ := x; exact Heap.lt_size e
  | dT kvs => obtain ⟨_, _, _, _, o, _, _, e, _⟩ := x; exact Heap.lt_size e
  | set S n => obtain ⟨o, _, _, _, e, _⟩ := x; exact Heap.lt_size e
  | ins C dx fs => obtain ⟨_, _, _, e, _⟩ := x; exact Heap.lt_size e
  | own y => obtain ⟨_, e⟩ := x; exact Heap.lt_size e
  | xd fs => obtain ⟨_, ⟨_, _, _, e, _⟩, _⟩ := x; exact Heap.lt_size e
  | rng lo hi => obtain ⟨_, _, _, e⟩ := x; exact Heap.lt_size e
  | frz ob u => obtain ⟨e, _⟩ := x; exact Heap.lt_size e
  | tbl ps => exact Heap.lt_size (show h.get? a = some _ from x)
  | met f y => exact Heap.lt_size (show h.get? a = some _ from x)
  | ext φ => obtain ⟨_, ⟨_, e⟩, _⟩ := x; exact Heap.lt_size e
theorem Paired.mapP {α β : Type} {F G : α → β → Prop} : ∀ {l₁ : List α} {l₂ : List β}, Paired F l₁ l₂ → (∀ a b, F a b → G a b) → Paired G l₁ l₂
  | _, _, .nil, _ => .nil
  | _, _, .cons r t, f => .cons (f _ _ r) (Paired.mapP t f)
theorem ObjOk.stay (x : ObjOk P w H h a o) (k : ∀ b u, (b = a ∨ H b = some (.own a)) → h.get? b = some u → h'.get? b = some u)
    (ho : ∀ b, H b = some (.own a) → H' b = some (.own a)) (ht : ∀ b xs, H b = some (.tup xs) → H' b = some (.tup xs)) : ObjOk P w H' h' a o := by
  induction o with
  | lst xs => obtain ⟨z, its, n, r, e⟩ := x; exact ⟨z, its, n, r, k _ _ (.inl rfl) e⟩
  | tup xs => obtain ⟨z, its, r, ob, e, c⟩ := x; exact ⟨z, its, r, ob, k _ _ (.inl rfl) e, c⟩
  | dK kvs => obtain ⟨z, y, vs, r, ob, es, ep, e, c⟩ := x; exact ⟨z, y, vs, r, ob, es, ep, k _ _ (.inl rfl) e, c⟩
  | dT kvs =>
    obtain ⟨z, y, xs, r, ob, es, ep, e, c⟩ := x
    exact ⟨z, y, xs, Paired.mapP r fun p q z => ⟨z.1, ht _ _ z.2.1, z.2.2⟩, ob, es, ep, k _ _ (.inl rfl) e, c⟩
  | set S n => obtain ⟨ob, es, ep, t, e, c⟩ := x; exact ⟨ob, es, ep, t, k _ _ (.inl rfl) e, c⟩
  | ins C dx fs =>
    obtain ⟨d, z, ne, e, mA, ⟨od, es, ep, e2, c⟩, r⟩ := x
    exact ⟨ho _ d, z, ne, k _ _ (.inl rfl) e, mA, ⟨od, es, ep, k _ _ (.inr d) e2, c⟩, r⟩
  | own y => obtain ⟨ob, e⟩ := x; exact ⟨ob, k _ _ (.inl rfl) e⟩
  | xd fs => obtain ⟨mA, ⟨od, es, ep, e, c⟩, r⟩ := x; exact ⟨mA, ⟨od, es, ep, k _ _ (.inl rfl) e, c⟩, r⟩
  | rng lo hi => obtain ⟨t, u, v, e⟩ := x; exact ⟨t, u, v, k _ _ (.inl rfl) e⟩
  | frz ob u ih => obtain ⟨e, q⟩ := x; exact ⟨k _ _ (.inl rfl) e, ih q⟩
  | tbl ps =>
    have e : h.get? a = some { cls := .none, data := .fields ps } := x
    show h'.get? a = some { cls := .none, data := .fields ps }
    exact k a _ (.inl rfl) e
  | met f y =>
    have e : h.get? a = some (PySem.W.methodObj (.ref f) (.ref y)) := x
    show h'.get? a = some (PySem.W.methodObj (.ref f) (.ref y))
    exact k a _ (.inl rfl) e
  | ext φ => obtain ⟨p, ⟨o, e⟩, st⟩ := x; exact ⟨st _ _ p fun o q => k _ _ (.inl rfl) q, ⟨o, k _ _ (.inl rfl) e⟩, st⟩
theorem HOk.lt (x : HOk P w H h) (e : H a = some o) : a < h.objs.size := (x a o e).lt
theorem HOk.fresh (x : HOk P w H h) (e : h.objs.size ≤ a) : H a = none := by
  cases q : H a with
  | none => rfl
  | some u => exact absurd (Nat.lt_of_lt_of_le (x.lt q) e) (Nat.lt_irrefl _)
theorem HOk.kept (x : HOk P w H h) (k : ∀ b u, h.get? b = some u → h'.get? b = some u) : HOk P w H h' := fun a o e =>
  (x a o e).stay (fun b u _ q => k b u q) (fun _ q => q) fun _ _ q => q
theorem HOk.laid (x : HOk P w H h) (k : ∀ b u, h.get? b = some u → h'.get? b = some u) (hp : h.objs.size ≤ a) (new : ObjOk P w (upd H a o) h' a o) : HOk P w (upd H a o) h' := fun b u e => by
  have hn := x.fresh hp
  by_cases hb : b = a
  · subst hb; rw [upd_same] at e; cases e; exact new
  · rw [upd_ne hb] at e
    exact (x b u e).stay (fun c v _ q => k c v q) (fun c q => by rw [upd_ne (ne_of_none q hn)]; exact q) fun c xs q => by rw [upd_ne (ne_of_none q hn)]; exact q
end

def Rd (H : Hp) (a : Addr) (u : HO) : Prop := H a = some u ∨ ∃ o, H a = some (.frz o u)
theorem Rd.of {H : Hp} {a : Addr} {u : HO} (h : H a = some u) : Rd H a u := .inl h
theorem Rd.ok {P : Program} {w : World} {H : Hp} {h : Heap} {a : Addr} {u : HO} (r : Rd H a u) (x : HOk P w H h) : ObjOk P w H h a u := by
  rcases r with r | ⟨o, r⟩
  · exact x a u r
  · obtain ⟨_, q⟩ := x a _ r
    exact q
def Mut : Option HO → Prop
  | some (.lst _) => True
  | some (.dK _) => True
  | some (.dT _) => True
  | some (.set _ _) => True
  | some (.ins _ _ _) => True
  | some (.ext _) => True
  | _ => False
section
variable {P : Program} {w : World} {H : Hp} {h h' : Heap} {x e : Addr} {o' : HO}
theorem HOk.write (ok : HOk P w H h) (mu : Mut (H x)) (he : e = x ∨ H e = some (.own x)) (k : ∀ b u, b ≠ e → h.get? b = some u → h'.get? b = some u) (heo : ∃ u, h'.get? e = some u)
    (new : ObjOk P w (upd H x o') h' x o') : HOk P w (upd H x o') h' := fun b u q => by
  have nown : ∀ c y, H c = some (.own y) → c ≠ x := fun c y r z => by subst z; rw [r] at mu; exact mu
  have ntup : ∀ c xs, H c = some (.tup xs) → c ≠ x := fun c xs r z => by subst z; rw [r] at mu; exact mu
  by_cases hb : b = x
  · subst hb; rw [upd_same] at q; cases q; exact new
  · rw [upd_ne hb] at q
    by_cases hbe : b = e
    · have q' : H b = some (.own x) := by
        rcases he with z | z
        · exact absurd (hbe.trans z) hb
        · rw [hbe]; exact z
      rw [q] at q'; cases q'
      obtain ⟨v, hv⟩ := heo
      exact ⟨v, by rw [hbe]; exact hv⟩
    · refine (ok b u q).stay (fun c v hc r => k c v ?_ r) (fun c r => by rw [upd_ne (nown c b r)]; exact r) fun c xs r => by rw [upd_ne (ntup c xs r)]; exact r
      rcases hc with rfl | hc
      · exact hbe
      · rintro rfl
        rcases he with z | z
        · exact nown c b hc z
        · rw [hc] at z; cases z; exact hb rfl
end

structure Un (fs ex : List Addr) (H H' : Hp) (h h' : Heap) : Prop where
  keep : ∀ b o, h.get? b = some o → H b = none → b ∉ fs → b ∉ ex → h'.get? b = some o
  slot : ∀ b o, h.get? b = some o → H b = none → b ∈ fs → b ∉ ex → ∃ sl, h'.get? b = some { o with slots := sl }
  free : ∀ b o, h.get? b = some o → H b = none → b ∉ ex → H' b = none
  there : ∀ b o, h.get? b = some o → b ∉ ex → ∃ o', h'.get? b = some o'
  tups : ∀ b xs, H b = some (.tup xs) → H' b = some (.tup xs)
  frzs : ∀ b o u, H b = some (.frz o u) → H' b = some (.frz o u)
  tbls : ∀ b ps, H b = some (.tbl ps) → ∃ more, H' b = some (.tbl (ps ++ more))
section
variable {fs fs' ex ex' : List Addr} {H H1 H2 : Hp} {h h1 h2 h' : Heap} {a x e : Addr} {o : HO}
theorem Un.any (u : Un fs ex H H1 h h1) {b : Addr} {ob : Obj} (q : h.get? b = some ob) (n : H b = none) (hx : b ∉ ex) : ∃ sl, h1.get? b = some { ob with slots := sl } := by
  by_cases hb : b ∈ fs
  · exact u.slot b ob q n hb hx
  · exact ⟨ob.slots, u.keep b ob q n hb hx⟩
theorem Un.trans (a : Un fs ex H H1 h h1) (b : Un fs ex H1 H2 h1 h2) : Un fs ex H H2 h h2 where
  keep := fun c ob q n hc hx => b.keep c ob (a.keep c ob q n hc hx) (a.free c ob q n hx) hc hx
  slot := fun c ob q n hc hx => by
    obtain ⟨sl, e1⟩ := a.slot c ob q n hc hx
    obtain ⟨sl', e2⟩ := b.slot c _ e1 (a.free c ob q n hx) hc hx
    exact ⟨sl', e2⟩
  free := fun c ob q n hx => by
    obtain ⟨o', e1⟩ := a.there c ob q hx
    exact b.free c o' e1 (a.free c ob q n hx) hx
  there := fun c ob q hx => by
    obtain ⟨o', e1⟩ := a.there c ob q hx
    exact b.there c o' e1 hx
  tups := fun c xs q => b.tups c xs (a.tups c xs q)
  frzs := fun c ob xs q => b.frzs c ob xs (a.frzs c ob xs q)
  tbls := fun c ps q => by
    obtain ⟨m1, e1⟩ := a.tbls c ps q
    obtain ⟨m2, e2⟩ := b.tbls c _ e1
    exact ⟨m1 ++ m2, by rw [e2, Array.append_assoc]⟩
theorem Un.kept (k : ∀ b u, h.get? b = some u → h'.get? b = some u) : Un fs ex H H h h' :=
  ⟨fun b ob q _ _ _ => k b ob q, fun b ob q _ _ _ => ⟨ob.slots, k b ob q⟩, fun _ _ _ n _ => n, fun b ob q _ => ⟨ob, k b ob q⟩, fun _ _ q => q, fun _ _ _ q => q, fun _ ps q => ⟨#[], by rw [q]; simp⟩⟩
theorem Un.refl : Un fs ex H H h h := Un.kept fun _ _ q => q
theorem Un.laid (k : ∀ b u, h.get? b = some u → h'.get? b = some u) (hp : h.objs.size ≤ a) (hn : H a = none) : Un fs ex H (upd H a o) h h' where
  keep := fun b u q _ _ _ => k b u q
  slot := fun b u q _ _ _ => ⟨u.slots, k b u q⟩
  free := fun b u q n _ => by rw [upd_ne (Nat.ne_of_lt (Nat.lt_of_lt_of_le (Heap.lt_size q) hp))]; exact n
  there := fun b u q _ => ⟨u, k b u q⟩
  tups := fun b xs q => by rw [upd_ne (ne_of_none q hn)]; exact q
  frzs := fun b u xs q => by rw [upd_ne (ne_of_none q hn)]; exact q
  tbls := fun b ps q => ⟨#[], by rw [upd_ne (ne_of_none q hn), q]; simp⟩
theorem Un.write (mu : Mut (H x)) (he : e = x ∨ H e = some (.own x)) (k : ∀ b u, b ≠ e → h.get? b = some u → h'.get? b = some u) (heo : ∃ u, h'.get? e = some u) : Un fs ex H (upd H x o) h h' := by
  have hx : ∀ b, H b = none → b ≠ x := fun b n z => by subst z; rw [n] at mu; exact mu
  have hb : ∀ b, H b = none → b ≠ e := fun b n z => by
    subst z
    rcases he with r | r
    · exact hx b n r
    · rw [n] at r; cases r
  have hm : ∀ b u, H b = some u → ¬ Mut (some u) → b ≠ x := fun b u q nm z => by subst z; rw [q] at mu; exact nm mu
  refine ⟨fun b u q n _ _ => k b u (hb b n) q, fun b u q n _ _ => ⟨u.slots, k b u (hb b n) q⟩, fun b u q n _ => by rw [upd_ne (hx b n)]; exact n, fun b u q _ => ?_,
    fun b xs q => by rw [upd_ne (hm b _ q fun z => z)]; exact q, fun b u xs q => by rw [upd_ne (hm b _ q fun z => z)]; exact q, fun b ps q => ⟨#[], by rw [upd_ne (hm b _ q fun z => z), q]; simp⟩⟩
  by_cases hbe : b = e
  · subst hbe; exact heo
  · exact ⟨u, k b u hbe q⟩
theorem Un.mono (u : Un fs ex H H1 h h1) (hs : ∀ b ∈ fs, b ∈ fs') (hx : ∀ b ∈ ex, b ∈ ex') : Un fs' ex' H H1 h h1 :=
  ⟨fun b ob q n hb he => u.keep b ob q n (fun z => hb (hs b z)) fun z => he (hx b z), fun _ _ q n _ he => u.any q n fun z => he (hx _ z), fun b ob q n he => u.free b ob q n fun z => he (hx b z), fun b ob q he => u.there b ob q fun z => he (hx b z), u.tups, u.frzs, u.tbls⟩
end

def trk (h : Heap) (H : Hp) : List Addr := (List.range h.objs.size).filter fun a => (H a).isSome
def hidT (h : Heap) (H : Hp) : Heap := PySem.W.hideAll h (trk h H)
theorem hidT_size (h : Heap) (H : Hp) : (hidT h H).objs.size = h.objs.size := PySem.W.hideAll_size _ _
theorem hidT_get {h : Heap} {H : Hp} {b : Addr} {o : Obj} (e : h.get? b = some o) (n : H b = none) : (hidT h H).get? b = some o :=
  PySem.W.hideAll_get _ e fun hm => by
    have q : (H b).isSome = true := (List.mem_filter.mp hm).2
    rw [n] at q; simp at q
theorem of_hidT {h : Heap} {H : Hp} {b : Addr} {o : Obj} (e : (hidT h H).get? b = some o) : h.get? b = some o ∧ H b = none := by
  have e' : h.get? b = some o := PySem.W.of_hideAll (trk h H) e
  refine ⟨e', ?_⟩
  cases q : H b with
  | none => rfl
  | some x =>
    have hm : b ∈ trk h H := List.mem_filter.mpr ⟨List.mem_range.mpr (Heap.lt_size e'), by simp [q]⟩
    have z : (hidT h H).get? b = none := PySem.W.hideAll_none (trk h H) hm
    rw [z] at e; cases e

def allNews (g h : Heap) (L : Addr) : List (Addr × Obj) := (List.range h.objs.size).filterMap fun a => if a = L ∨ (g.get? a).isSome = true then none else (h.get? a).map fun o => (a, o)
def rest (g h : Heap) (L d : Addr) : List (Addr × Obj) := (allNews g h L).filter fun p => decide (p.1 ≠ d)
end L2

namespace L2
open PySem PySem.Spec PyProof.Rows

structure Mod (K : PySem.W.Frag) (mg : Str → Option Value) (base : Heap) : Prop where
  kin : K.In base
  glob : base.Ns mainGlobals mg
  blt : ∃ mb, base.Ns builtinsNs mb ∧ ∀ x : Str, x ≠ "__name__" → mb x = bootBuiltins x
  nolimit : base.NoLimit

structure Cx where
  prog : Program
  w : World
  K : PySem.W.Frag
  mg : Str → Option Value
  base : Heap
  A : Around
  N : List Str
  s₀ : Shared
  H₀ : Hp
  env : Env
  outer : List Env
  stack : List Env
  ex : List Addr
  fn : Str → Bool
  calm : Bool
  pn : List (Addr × Obj)
  xe : Value → Shared → Prop
def frs (l : List Env) : List Addr := l.filterMap (·.frame)
abbrev Cx.fs (X : Cx) : List Addr := frs X.outer

def Vis (sc : Scope) (x : Str) : Prop := sc.names.lookup x = some .local ∨ sc.names.lookup x = some .cell ∨ sc.names.lookup x = some .free
def Loc (sc : Scope) (x : Str) : Prop := sc.names.lookup x = some .local ∨ sc.names.lookup x = some .cell
def Look (env : Env) (h : Heap) (m : Str → Option Value) (x : Str) (u : Value) : Prop :=
  (env.kindOf x = some .local ∧ m x = some u) ∨ ((env.kindOf x = some .cell ∨ env.kindOf x = some .free) ∧ ∃ c, env.cells.lookup x = some c ∧ h.IsCell c (some u))

structure Cx.Ok (X : Cx) : Prop where
  mod : Mod X.K X.mg X.base
  kind : X.env.scope.kind = .function
  glob : X.env.globals = mainGlobals
  blt : X.env.builtins = builtinsNs
  above : X.s₀.heap.objs.size ≤ X.env.locals
  inj : ∀ x y c, X.env.cells.lookup x = some c → X.env.cells.lookup y = some c → x = y
  has : ∀ x, (X.env.kindOf x = some .cell ∨ X.env.kindOf x = some .free) → ∃ c, X.env.cells.lookup x = some c
  cab : ∀ x c, X.fn x = true → X.env.cells.lookup x = some c → X.s₀.heap.objs.size ≤ c
  hd : X.calm = true → X.A.handled = none
  frames : X.A.frames = some X.stack
  stk : X.stack = X.outer ∨ (X.stack = X.env :: X.outer ∧ X.env.frame = some X.env.locals)
  exf : ∀ b ∈ X.ex, b ≠ X.env.locals ∧ ∀ x c, X.env.cells.lookup x = some c → c ≠ b
  bs : ∀ b o, X.base.get? b = some o → X.s₀.heap.get? b = some o ∧ X.H₀ b = none
  bsz : X.base.objs.size ≤ X.s₀.heap.objs.size
  noex : ∀ b o, X.base.get? b = some o → b ∉ X.ex
  exfs : ∀ b ∈ X.ex, b ∉ X.fs
  funs : X.s₀.heap.FunFrames X.base X.outer
  frf : ∀ b ∈ X.fs, X.H₀ b = none

structure Inv (X : Cx) (pins : List (Addr × Obj)) (σ : List (Option V)) (H : Hp) (s : Shared) : Prop where
  ok : X.Ok
  os : s.os = X.s₀.os
  bare : AllBare s.gens
  base : Un X.fs X.ex X.H₀ H X.s₀.heap s.heap
  loc : ∃ m, s.heap.Ns X.env.locals m ∧ ∀ (i : Nat) (x : Str) (v : V), X.N[i]? = some x → σ[i]? = some (some v) → Vis X.env.scope x → ∃ u, RelV v u ∧ Look X.env s.heap m x u
  cell : ∀ x c, X.env.cells.lookup x = some c → ∃ v, s.heap.IsCell c v
  free : H X.env.locals = none
  freeC : ∀ x c, X.env.cells.lookup x = some c → H c = none
  pin : ∀ p ∈ X.pn ++ pins, s.heap.get? p.1 = some p.2 ∧ H p.1 = none ∧ p.1 ≠ X.env.locals ∧ p.1 ∉ X.fs ∧ ∀ v, p.2.data ≠ .cell v
  hok : HOk X.prog X.w H s.heap
  len : σ.length = X.N.length

section
variable {X : Cx} {pins : List (Addr × Obj)} {σ : List (Option V)} {H H' : Hp} {s : Shared} {h' : Heap}

theorem Cx.Ok.nofr (ok : X.Ok) {b : Addr} {o : Obj} (e : X.base.get? b = some o) : b ∉ X.fs := fun hb => by
  have := (ok.funs.mem hb).1
  rw [e] at this; cases this
theorem Inv.bs (I : Inv X pins σ H s) : ∀ b o, X.base.get? b = some o → s.heap.get? b = some o ∧ H b = none := fun b o e =>
  ⟨I.base.keep b o (I.ok.bs b o e).1 (I.ok.bs b o e).2 (I.ok.nofr e) (I.ok.noex b o e), I.base.free b o (I.ok.bs b o e).1 (I.ok.bs b o e).2 (I.ok.noex b o e)⟩
theorem Inv.bk (I : Inv X pins σ H s) : ∀ b o, X.base.get? b = some o → s.heap.get? b = some o := fun b o e => (I.bs b o e).1
theorem Inv.mod (I : Inv X pins σ H s) : Mod X.K X.mg X.base := I.ok.mod
theorem Inv.kIn (I : Inv X pins σ H s) : X.K.In s.heap := I.ok.mod.kin.keeps I.bk
theorem Inv.nolimit (I : Inv X pins σ H s) : s.heap.NoLimit := I.ok.mod.nolimit.keeps I.bk
theorem Inv.fr (I : Inv X pins σ H s) : ∃ m, Fr X.base X.env.locals s.heap m :=
  let ⟨m, hn, _⟩ := I.loc
  ⟨m, hn, I.bk, Nat.le_trans I.ok.bsz I.ok.above⟩
theorem Inv.lt (I : Inv X pins σ H s) : X.env.locals < s.heap.objs.size := let ⟨_, hn, _⟩ := I.loc; hn.lt
theorem Inv.sz (I : Inv X pins σ H s) : X.s₀.heap.objs.size ≤ s.heap.objs.size := Nat.le_trans I.ok.above (Nat.le_of_lt I.lt)
theorem Inv.nofs (I : Inv X pins σ H s) {a : Addr} (h : s.heap.objs.size ≤ a) : a ∉ X.fs := fun hb => by
  obtain ⟨_, o, ho, _⟩ := I.ok.funs.mem hb
  exact absurd (Nat.lt_of_lt_of_le (Heap.lt_size ho) (Nat.le_trans I.sz h)) (Nat.lt_irrefl _)
theorem Inv.cne (I : Inv X pins σ H s) : ∀ x c, X.env.cells.lookup x = some c → c ≠ X.env.locals := fun x c e z => by
  obtain ⟨v, o, ho, hd⟩ := I.cell x c e
  obtain ⟨m, ⟨o', es, ep, ho', hd', _⟩, _⟩ := I.loc
  rw [z, ho'] at ho; cases ho; rw [hd'] at hd; cases hd
theorem Inv.funs (I : Inv X pins σ H s) : s.heap.FunFrames X.base X.outer := by
  have all : ∀ (l : List Env), (∀ b ∈ frs l, b ∈ X.fs) → X.s₀.heap.FunFrames X.base l → s.heap.FunFrames X.base l := by
    intro l
    induction l with
    | nil => intro _ _; trivial
    | cons env r ih =>
      intro hs hl
      obtain ⟨hk, ⟨L, o, hf, hn, ho, hd⟩, hr⟩ := hl
      have hL : L ∈ X.fs := hs L (by unfold frs; rw [List.filterMap_cons, hf]; exact List.mem_cons_self)
      obtain ⟨sl, e⟩ := I.base.slot L o ho (I.ok.frf L hL) hL fun z => I.ok.exfs L z hL
      exact ⟨hk, ⟨L, _, hf, hn, e, hd⟩, ih (fun b hb => hs b (by unfold frs; rw [List.filterMap_cons, hf]; exact List.mem_cons_of_mem _ hb)) hr⟩
  exact all X.outer (fun _ hb => hb) I.ok.funs

theorem Inv.stack (I : Inv X pins σ H s) : s.heap.FunFrames X.base X.stack := by
  rcases I.ok.stk with e | ⟨e, hf⟩
  · rw [e]; exact I.funs
  · rw [e]
    obtain ⟨m, hn, _⟩ := I.loc
    refine .cons (by rw [I.ok.kind]; decide) hf hn ?_ I.funs
    exact Heap.get?_none_of_le (Nat.le_trans I.ok.bsz I.ok.above)
theorem Inv.stkSub (I : Inv X pins σ H s) : ∀ b ∈ frs X.stack, b ∈ X.env.locals :: X.fs := fun b hb => by
  rcases I.ok.stk with e | ⟨e, hf⟩
  · rw [e] at hb; exact List.mem_cons_of_mem _ hb
  · rw [e] at hb
    unfold frs at hb
    rw [List.filterMap_cons, hf] at hb
    exact hb
theorem Inv.stkFree (I : Inv X pins σ H s) : ∀ b ∈ frs X.stack, H b = none := fun b hb => by
  rcases List.mem_cons.mp (I.stkSub b hb) with e | hb
  · rw [e]; exact I.free
  · obtain ⟨_, o, ho, _⟩ := I.ok.funs.mem hb
    exact I.base.free b o ho (I.ok.frf b hb) fun z => I.ok.exfs b z hb

theorem Inv.step {g' : Array GenState} {t' : Nat} {d' : Drawn} {ch : List Addr} (I : Inv X pins σ H s)
    (hch : ∀ b ∈ ch, (b ∈ X.ex ∨ X.s₀.heap.objs.size ≤ b) ∧ b ≠ X.env.locals ∧ (∀ x c, X.env.cells.lookup x = some c → c ≠ b) ∧ ∀ p ∈ X.pn ++ pins, p.1 ≠ b)
    (keep : ∀ b o, b ≠ X.env.locals → b ∉ X.fs → b ∉ ch → s.heap.get? b = some o → H b = none → h'.get? b = some o)
    (slot : ∀ b o, b ≠ X.env.locals → b ∈ X.fs → b ∉ ch → s.heap.get? b = some o → H b = none → ∃ sl, h'.get? b = some { o with slots := sl }) (free : ∀ b o, b ∉ ch → s.heap.get? b = some o → H b = none → H' b = none)
    (there : ∀ b o, b ∉ ch → s.heap.get? b = some o → ∃ o', h'.get? b = some o')
    (tups : ∀ b xs, H b = some (.tup xs) → H' b = some (.tup xs)) (frzs : ∀ b o u, H b = some (.frz o u) → H' b = some (.frz o u)) (tbls : ∀ b ps, H b = some (.tbl ps) → ∃ more, H' b = some (.tbl (ps ++ more)))
    (ns : ∀ m, s.heap.Ns X.env.locals m → h'.Ns X.env.locals m) (hok : HOk X.prog X.w H' h') (hg : AllBare g') :
    Inv X pins σ H' { s with heap := h', gens := g', drawn := d', toks := t' } := by
  have neL : ∀ b o, X.s₀.heap.get? b = some o → b ≠ X.env.locals := fun b o e => Nat.ne_of_lt (Nat.lt_of_lt_of_le (Heap.lt_size e) I.ok.above)
  have neC : ∀ b o, X.s₀.heap.get? b = some o → b ∉ X.ex → b ∉ ch := fun b o e hx hb => by
    rcases (hch b hb).1 with z | z
    · exact hx z
    · exact absurd (Nat.lt_of_lt_of_le (Heap.lt_size e) z) (Nat.lt_irrefl _)
  have cellK : ∀ x c, X.env.cells.lookup x = some c → ∀ v, s.heap.IsCell c v → h'.IsCell c v := fun x c e v ⟨o, ho, hd⟩ => by
    have nch : c ∉ ch := fun z => (hch c z).2.2.1 x c e rfl
    by_cases hc : c ∈ X.fs
    · obtain ⟨sl, q⟩ := slot c o (I.cne x c e) hc nch ho (I.freeC x c e)
      exact ⟨_, q, hd⟩
    · exact ⟨o, keep c o (I.cne x c e) hc nch ho (I.freeC x c e), hd⟩
  refine ⟨I.ok, I.os, hg, ⟨fun b o e n hb hx => ?_, fun b o e n hb hx => ?_, fun b o e n hx => ?_, fun b o e hx => ?_, fun b xs e => tups b xs (I.base.tups b xs e), fun b o xs e => frzs b o xs (I.base.frzs b o xs e), fun b ps e => ?_⟩, ?_, fun x c e => ?_, ?_, fun x c e => ?_, fun p hp => ?_, hok, I.len⟩
  · exact keep b o (neL b o e) hb (neC b o e hx) (I.base.keep b o e n hb hx) (I.base.free b o e n hx)
  · obtain ⟨sl, e1⟩ := I.base.slot b o e n hb hx
    obtain ⟨sl', e2⟩ := slot b _ (neL b o e) hb (neC b o e hx) e1 (I.base.free b o e n hx)
    exact ⟨sl', e2⟩
  · obtain ⟨o', e1⟩ := I.base.there b o e hx
    exact free b o' (neC b o e hx) e1 (I.base.free b o e n hx)
  · obtain ⟨o', e1⟩ := I.base.there b o e hx
    exact there b o' (neC b o e hx) e1
  · obtain ⟨m1, e1⟩ := I.base.tbls b ps e
    obtain ⟨m2, e2⟩ := tbls b _ e1
    exact ⟨m1 ++ m2, by rw [e2, Array.append_assoc]⟩
  · obtain ⟨m, hn, hl⟩ := I.loc
    refine ⟨m, ns m hn, fun i x v e1 e2 e3 => ?_⟩
    obtain ⟨u, r, l⟩ := hl i x v e1 e2 e3
    refine ⟨u, r, ?_⟩
    rcases l with l | ⟨k, c, e, z⟩
    · exact .inl l
    · exact .inr ⟨k, c, e, cellK x c e _ z⟩
  · obtain ⟨v, z⟩ := I.cell x c e
    exact ⟨v, cellK x c e v z⟩
  · obtain ⟨m, ⟨o, _, _, ho, _⟩, _⟩ := I.loc
    exact free _ o (fun z => (hch _ z).2.1 rfl) ho I.free
  · obtain ⟨v, o, ho, hd⟩ := I.cell x c e
    exact free c o (fun z => (hch c z).2.2.1 x c e rfl) ho (I.freeC x c e)
  · obtain ⟨e, n, ne, nf, d⟩ := I.pin p hp
    have nch : p.1 ∉ ch := fun z => (hch p.1 z).2.2.2 p hp rfl
    exact ⟨keep p.1 p.2 ne nf nch e n, free p.1 p.2 nch e n, ne, nf, d⟩
theorem Inv.un {t' : Nat} (I : Inv X pins σ H s) (u : Un X.fs [] H H' s.heap h') (hok : HOk X.prog X.w H' h') : Inv X pins σ H' { s with heap := h', toks := t' } := by
  obtain ⟨m, ⟨o, es, ep, ho, r⟩, _⟩ := id I.loc
  obtain ⟨sl, hL⟩ := u.any ho I.free (by simp)
  exact I.step (g' := s.gens) (d' := s.drawn) (ch := []) (fun _ z => nomatch z) (fun b o _ hb _ e n => u.keep b o e n hb (by simp)) (fun b o _ hb _ e n => u.slot b o e n hb (by simp)) (fun b o _ e n => u.free b o e n (by simp)) (fun b o _ e => u.there b o e (by simp)) u.tups u.frzs u.tbls (fun m' hm => by
    obtain ⟨o', es', ep', ho', r'⟩ := hm
    rw [ho] at ho'; cases ho'
    exact ⟨_, es', ep', hL, r'⟩) hok I.bare
theorem Inv.call {g' : Array GenState} {t' : Nat} {d' : Drawn} {ch : List Addr} (I : Inv X pins σ H s) (u : Un (frs X.stack) ch H H' s.heap h') (hok : HOk X.prog X.w H' h') (hg : AllBare g')
    (hch : ∀ b ∈ ch, (b ∈ X.ex ∨ X.s₀.heap.objs.size ≤ b) ∧ b ≠ X.env.locals ∧ (∀ x c, X.env.cells.lookup x = some c → c ≠ b) ∧ ∀ p ∈ X.pn ++ pins, p.1 ≠ b) :
    Inv X pins σ H' { s with heap := h', gens := g', drawn := d', toks := t' } := by
  obtain ⟨m, ⟨o, es, ep, ho, r⟩, _⟩ := id I.loc
  obtain ⟨sl, hL⟩ := u.any ho I.free fun z => (hch _ z).2.1 rfl
  exact I.step (ch := ch) hch (fun b o hL hb hc e n => u.keep b o e n (fun z => (List.mem_cons.mp (I.stkSub b z)).elim hL hb) hc) (fun b o _ _ hc e n => u.any e n hc) (fun b o hc e n => u.free b o e n hc) (fun b o hc e => u.there b o e hc) u.tups u.frzs u.tbls (fun m' hm => by
    obtain ⟨o', es', ep', ho', r'⟩ := hm
    rw [ho] at ho'; cases ho'
    exact ⟨_, es', ep', hL, r'⟩) hok hg
theorem Inv.turned {t' : Nat} {it : Addr} (I : Inv X pins σ H s) (k : ∀ b o, b ≠ it → s.heap.get? b = some o → h'.get? b = some o) (hn : H it = none) (hL : it ≠ X.env.locals)
    (h1 : it ∈ X.ex ∨ X.s₀.heap.objs.size ≤ it) (h2 : ∀ x c, X.env.cells.lookup x = some c → c ≠ it) (h3 : ∀ p ∈ X.pn ++ pins, p.1 ≠ it) : Inv X pins σ H { s with heap := h', toks := t' } := by
  have nit : ∀ b u, H b = some u → b ≠ it := fun b u e z => by rw [z, hn] at e; cases e
  refine I.step (g' := s.gens) (d' := s.drawn) (ch := [it]) (fun b hb => ?_) (fun b o _ _ hc e _ => k b o (fun z => hc (by simp [z])) e) (fun b o _ _ hc e _ => ⟨o.slots, k b o (fun z => hc (by simp [z])) e⟩) (fun _ _ _ _ n => n)
    (fun b o hc e => ⟨o, k b o (fun z => hc (by simp [z])) e⟩) (fun _ _ e => e) (fun _ _ _ e => e) (fun b ps e => ⟨#[], by rw [e]; simp⟩) (fun m hm => ?_) (fun b u e => ?_) I.bare
  · have e : b = it := by simpa using hb
    subst e
    exact ⟨h1, hL, h2, h3⟩
  · obtain ⟨o, es, ep, ho, r⟩ := hm
    exact ⟨o, es, ep, k _ o (Ne.symm hL) ho, r⟩
  · refine (I.hok b u e).stay (fun c v hc q => k c v ?_ q) (fun _ q => q) fun _ _ q => q
    rcases hc with z | z
    · rw [z]; exact nit b u e
    · exact nit c _ z
theorem Inv.tok (I : Inv X pins σ H s) (t : Nat) : Inv X pins σ H { s with toks := t } := I.un (h' := s.heap) (t' := t) Un.refl I.hok
theorem Inv.kept {t' : Nat} (I : Inv X pins σ H s) (k : ∀ b u, s.heap.get? b = some u → h'.get? b = some u) : Inv X pins σ H { s with heap := h', toks := t' } := I.un (Un.kept k) (I.hok.kept k)
theorem Inv.laid {a : Addr} {o : HO} {t' : Nat} (I : Inv X pins σ H s) (k : ∀ b u, s.heap.get? b = some u → h'.get? b = some u) (hp : s.heap.objs.size ≤ a) (new : ObjOk X.prog X.w (upd H a o) h' a o) :
    Inv X pins σ (upd H a o) { s with heap := h', toks := t' } := I.un (Un.laid k hp (I.hok.fresh hp)) (I.hok.laid k hp new)
theorem Inv.write {x e : Addr} {o : HO} {t' : Nat} (I : Inv X pins σ H s) (mu : Mut (H x)) (he : e = x ∨ H e = some (.own x)) (k : ∀ b u, b ≠ e → s.heap.get? b = some u → h'.get? b = some u) (heo : ∃ u, h'.get? e = some u)
    (new : ObjOk X.prog X.w (upd H x o) h' x o) : Inv X pins σ (upd H x o) { s with heap := h', toks := t' } := I.un (Un.write mu he k heo) (I.hok.write mu he k heo new)
theorem Inv.weak {σ' : List (Option V)} (I : Inv X pins σ H s) (hl : σ'.length = σ.length) (w : ∀ (i : Nat) v, σ'[i]? = some (some v) → σ[i]? = some (some v)) : Inv X pins σ' H s :=
  ⟨I.ok, I.os, I.bare, I.base, let ⟨m, hn, hl'⟩ := I.loc; ⟨m, hn, fun i x v e1 e2 e3 => hl' i x v e1 (w i v e2) e3⟩, I.cell, I.free, I.freeC, I.pin, I.hok, hl.trans I.len⟩
theorem Inv.pins_of {pins' : List (Addr × Obj)} (I : Inv X pins σ H s) (h : ∀ p ∈ pins', s.heap.get? p.1 = some p.2 ∧ H p.1 = none ∧ p.1 ≠ X.env.locals ∧ p.1 ∉ X.fs ∧ ∀ v, p.2.data ≠ .cell v) : Inv X pins' σ H s :=
  ⟨I.ok, I.os, I.bare, I.base, I.loc, I.cell, I.free, I.freeC, fun p hp => (List.mem_append.mp hp).elim (fun z => I.pin p (List.mem_append_left _ z)) (h p), I.hok, I.len⟩

theorem nodup_ix {N : List Str} (hN : N.Nodup) {i j : Nat} {x : Str} (a : N[i]? = some x) (b : N[j]? = some x) : i = j := by
  obtain ⟨h1, e1⟩ := List.getElem?_eq_some_iff.mp a
  obtain ⟨h2, e2⟩ := List.getElem?_eq_some_iff.mp b
  exact (List.getElem_inj hN).mp (e1.trans e2.symm)

theorem store_ok2 {M : Model} {A : Around} {E : Value → Shared → Prop} {i : Nat} {x : Str} {v : V} {u : Value} {Q : Unit → Shared → Prop} (I : Inv X pins σ H s) (hN : X.N.Nodup) (hi : X.N[i]? = some x) (hx : Loc X.env.scope x) (r : RelV v u)
    (h : ∀ s', Inv X pins (σ.set i (some v)) H s' → (∃ a, Heap.SameBut a s.heap s'.heap ∧ (a = X.env.locals ∨ X.env.cells.lookup x = some a)) → Q () s') (hf : X.fn x = true ∨ X.env.scope.names.lookup x = some .local := by first | exact .inl rfl | exact .inr rfl | assumption) : wpAny M A (storeName X.env x u) Q E s := by
  obtain ⟨m, hn, hl⟩ := id I.loc
  have hcls : (X.env.scope.kind == .class || (X.env.scope.kind == .module && X.env.locals != X.env.globals)) = false := by rw [I.ok.kind]; rfl
  have hiσ : i < σ.length := by rw [I.len]; exact (List.getElem?_eq_some_iff.mp hi).1
  have cne := I.cne
  have tracked : ∀ {a : Addr} {h' : Heap}, (∃ o, s.heap.get? a = some o ∧ H a = none) → Heap.SameBut a s.heap h' → HOk X.prog X.w H h' := fun {a h'} ha hs b ob e => by
    obtain ⟨_, _, hfree⟩ := ha
    refine (I.hok b ob e).stay (fun c w' hc q => (hs.2 c ?_).trans q) (fun _ q => q) fun _ _ q => q
    rintro rfl
    rcases hc with rfl | hc
    · rw [hfree] at e; cases e
    · rw [hfree] at hc; cases hc
  rcases hx with hk | hk
  · refine wpAny_storeName_local hk hn (fun h' hn' hs => ?_) hcls
    obtain ⟨oL, _, _, hoL, _⟩ := id hn
    refine h _ ⟨I.ok, I.os, I.bare, ⟨fun b o e n hb hx => ?_, fun b o e n hb hx => ?_, I.base.free, fun b o e hx => ?_, I.base.tups, I.base.frzs, I.base.tbls⟩, ⟨_, hn', fun j y v' e1 e2 e3 => ?_⟩, fun y c e => ?_, I.free, I.freeC, fun p hp => ?_, tracked ⟨oL, hoL, I.free⟩ hs, by simpa using I.len⟩ ⟨_, hs, .inl rfl⟩
    · exact (hs.2 b (Nat.ne_of_lt (Nat.lt_of_lt_of_le (Heap.lt_size e) I.ok.above))).trans (I.base.keep b o e n hb hx)
    · obtain ⟨sl, e1⟩ := I.base.slot b o e n hb hx
      exact ⟨sl, (hs.2 b (Nat.ne_of_lt (Nat.lt_of_lt_of_le (Heap.lt_size e) I.ok.above))).trans e1⟩
    · obtain ⟨o', e1⟩ := I.base.there b o e hx
      exact ⟨o', (hs.2 b (Nat.ne_of_lt (Nat.lt_of_lt_of_le (Heap.lt_size e) I.ok.above))).trans e1⟩
    · by_cases hj : j = i
      · subst hj
        rw [hi] at e1; cases e1
        rw [List.getElem?_set_self hiσ] at e2
        cases e2
        exact ⟨u, r, .inl ⟨hk, by simp⟩⟩
      · rw [List.getElem?_set_ne (Ne.symm hj)] at e2
        obtain ⟨u', r', q⟩ := hl j y v' e1 e2 e3
        refine ⟨u', r', ?_⟩
        rcases q with ⟨k, e⟩ | ⟨k, c, e, z⟩
        · refine .inl ⟨k, ?_⟩
          have : y ≠ x := fun e => hj (nodup_ix hN e1 (e ▸ hi))
          simp [this, e]
        · exact .inr ⟨k, c, e, z.sameBut hs (cne y c e)⟩
    · obtain ⟨w', z⟩ := I.cell y c e
      exact ⟨w', z.sameBut hs (cne y c e)⟩
    · obtain ⟨e, n, ne, nf, d⟩ := I.pin p hp
      exact ⟨(hs.2 p.1 ne).trans e, n, ne, nf, d⟩
  · have hfn : X.fn x = true := by
      rcases hf with z | z
      · exact z
      · rw [z] at hk; cases hk
    obtain ⟨c, hc⟩ := I.ok.has x (.inl hk)
    obtain ⟨w', z⟩ := I.cell x c hc
    refine wpAny_storeName_cell I.ok.kind hk hc z (fun h' hc' hs => ?_)
    obtain ⟨oc, hoc, hocd⟩ := id z
    refine h { s with heap := h' } ⟨I.ok, I.os, I.bare, ⟨fun b o e n hb hx => ?_, fun b o e n hb hx => ?_, I.base.free, fun b o e hx => ?_, I.base.tups, I.base.frzs, I.base.tbls⟩, ⟨m, hn.sameBut hs (Ne.symm (cne x c hc)), fun j y v' e1 e2 e3 => ?_⟩, fun y c' e => ?_, I.free, I.freeC, fun p hp => ?_, tracked ⟨oc, hoc, I.freeC x c hc⟩ hs, by simpa using I.len⟩ ⟨c, hs, .inr hc⟩
    · exact (hs.2 b (Nat.ne_of_lt (Nat.lt_of_lt_of_le (Heap.lt_size e) (I.ok.cab x c hfn hc)))).trans (I.base.keep b o e n hb hx)
    · obtain ⟨sl, e1⟩ := I.base.slot b o e n hb hx
      exact ⟨sl, (hs.2 b (Nat.ne_of_lt (Nat.lt_of_lt_of_le (Heap.lt_size e) (I.ok.cab x c hfn hc)))).trans e1⟩
    · obtain ⟨o', e1⟩ := I.base.there b o e hx
      exact ⟨o', (hs.2 b (Nat.ne_of_lt (Nat.lt_of_lt_of_le (Heap.lt_size e) (I.ok.cab x c hfn hc)))).trans e1⟩
    · by_cases hj : j = i
      · subst hj
        rw [hi] at e1; cases e1
        rw [List.getElem?_set_self hiσ] at e2
        cases e2
        exact ⟨u, r, .inr ⟨.inl hk, c, hc, hc'⟩⟩
      · rw [List.getElem?_set_ne (Ne.symm hj)] at e2
        obtain ⟨u', r', q⟩ := hl j y v' e1 e2 e3
        refine ⟨u', r', ?_⟩
        rcases q with q | ⟨k, c', e, z'⟩
        · exact .inl q
        · refine .inr ⟨k, c', e, z'.sameBut hs ?_⟩
          rintro rfl
          exact hj (nodup_ix hN e1 (I.ok.inj _ _ _ e hc ▸ hi))
    · by_cases hcc : c' = c
      · subst hcc; exact ⟨_, hc'⟩
      · obtain ⟨w2, z2⟩ := I.cell y c' e
        exact ⟨w2, z2.sameBut hs hcc⟩
    · obtain ⟨e, n, ne, nf, d⟩ := I.pin p hp
      refine ⟨(hs.2 p.1 ?_).trans e, n, ne, nf, d⟩
      intro q
      rw [q, hoc] at e
      have q' : oc = p.2 := Option.some.inj e
      exact d w' (by rw [← q']; exact hocd)
theorem store_ok {M : Model} {A : Around} {E : Value → Shared → Prop} {i : Nat} {x : Str} {v : V} {u : Value} {Q : Unit → Shared → Prop} (I : Inv X pins σ H s) (hN : X.N.Nodup) (hi : X.N[i]? = some x) (hx : Loc X.env.scope x) (r : RelV v u)
    (h : ∀ s', Inv X pins (σ.set i (some v)) H s' → Q () s') (hf : X.fn x = true ∨ X.env.scope.names.lookup x = some .local := by first | exact .inl rfl | exact .inr rfl | assumption) : wpAny M A (storeName X.env x u) Q E s :=
  store_ok2 I hN hi hx r (fun s' I' _ => h s' I') hf
theorem Inv.call' {s' : Shared} {ch : List Addr} (I : Inv X pins σ H s) (ho : s'.os = s.os) (u : Un (frs X.stack) ch H H' s.heap s'.heap) (hok : HOk X.prog X.w H' s'.heap) (hg : AllBare s'.gens)
    (hch : ∀ b ∈ ch, (b ∈ X.ex ∨ X.s₀.heap.objs.size ≤ b) ∧ b ≠ X.env.locals ∧ (∀ x c, X.env.cells.lookup x = some c → c ≠ b) ∧ ∀ p ∈ X.pn ++ pins, p.1 ≠ b) : Inv X pins σ H' s' := by
  obtain ⟨h', g', d', t', o'⟩ := s'
  have e : o' = s.os := ho
  subst e
  exact I.call (g' := g') (t' := t') (d' := d') u hok hg hch
end

abbrev XK := Value → Option Addr → Hp → Prop
abbrev St := List (Option V)
abbrev VK := V → Hp → Prop
abbrev TE := St → Hp → VK → Prop
abbrev TT := St → Hp → (Bool → Hp → Prop) → Prop
abbrev TA := St → Hp → (List V → Hp → Prop) → Prop
structure Ends where
  nx : St → Hp → Prop
  rt : VK
  bk : St → Hp → Prop := fun _ _ => False
  ct : St → Hp → Prop := fun _ _ => False
abbrev TS := Ends → St → Hp → Prop

def EP (X : Cx) (pins : List (Addr × Obj)) (σ : St) (Q : VK) (u : Value) (s' : Shared) : Prop := ∃ v H', Inv X pins σ H' s' ∧ RelV v u ∧ Q v H'
def TP (X : Cx) (pins : List (Addr × Obj)) (σ : St) (Q : Bool → Hp → Prop) (b : Bool) (s' : Shared) : Prop := ∃ H', Inv X pins σ H' s' ∧ Q b H'
def AP (X : Cx) (pins : List (Addr × Obj)) (σ : St) (Q : List V → Hp → Prop) (us : List Value) (s' : Shared) : Prop := ∃ vs H', Inv X pins σ H' s' ∧ Vals vs us ∧ Q vs H'
def SP (X : Cx) (pins : List (Addr × Obj)) (D : Ends) (f : Flow) (s' : Shared) : Prop :=
  match f with
  | .next => ∃ σ' H', Inv X pins σ' H' s' ∧ D.nx σ' H'
  | .brk => ∃ σ' H', Inv X pins σ' H' s' ∧ D.bk σ' H'
  | .cont => ∃ σ' H', Inv X pins σ' H' s' ∧ D.ct σ' H'
  | .ret u => ∃ v σ' H', Inv X pins σ' H' s' ∧ RelV v u ∧ D.rt v H'

def PE (X : Cx) (e : Expr) (t : TE) : Prop :=
  ∀ (pins : List (Addr × Obj)) (s : Shared) (σ : St) (H : Hp) (Q : VK), Inv X pins σ H s → t σ H Q → wpAny (model X.prog X.w) X.A (eval e X.env) (EP X pins σ Q) X.xe s
def PT (X : Cx) (e : Expr) (t : TT) : Prop :=
  ∀ (pins : List (Addr × Obj)) (s : Shared) (σ : St) (H : Hp) (Q : Bool → Hp → Prop), Inv X pins σ H s → t σ H Q → wpAny (model X.prog X.w) X.A (isTrue e X.env (eval e X.env)) (TP X pins σ Q) X.xe s
def PW (X : Cx) (e : Expr) (t : TT) : Prop :=
  ∀ (whole : Sem Value) (pins : List (Addr × Obj)) (s : Shared) (σ : St) (H : Hp) (Q : Bool → Hp → Prop), Inv X pins σ H s → t σ H Q → wpAny (model X.prog X.w) X.A (isTrue e X.env whole) (TP X pins σ Q) X.xe s
theorem PW.pt {X : Cx} {e : Expr} {t : TT} (h : PW X e t) : PT X e t := h _
def PA (X : Cx) (es : List Expr) (t : TA) : Prop :=
  ∀ (pos : Pos) (pins : List (Addr × Obj)) (s : Shared) (σ : St) (H : Hp) (Q : List V → Hp → Prop), Inv X pins σ H s → t σ H Q → wpAny (model X.prog X.w) X.A (spliced (backTo pos (starEach es X.env))) (AP X pins σ Q) X.xe s
def PS (X : Cx) (st : Stmt) (t : TS) : Prop :=
  ∀ (pins : List (Addr × Obj)) (s : Shared) (σ : St) (H : Hp) (D : Ends), Inv X pins σ H s → t D σ H → wpAny (model X.prog X.w) X.A (exec st X.env) (SP X pins D) X.xe s
def PSs (X : Cx) (st : List Stmt) (t : TS) : Prop :=
  ∀ (pins : List (Addr × Obj)) (s : Shared) (σ : St) (H : Hp) (D : Ends), Inv X pins σ H s → t D σ H → wpAny (model X.prog X.w) X.A (execs st X.env) (SP X pins D) X.xe s
theorem thn {α : Type} {t : Sem α} {Q Q' : α → Shared → Prop} {M : Model} {A : Around} {E : Value → Shared → Prop} {s : Shared} (h : wpAny M A t Q E s) (hQ : ∀ a s, Q a s → Q' a s) : wpAny M A t Q' E s := wpAny_mono h hQ fun _ _ x => x
end L2

namespace L2
open PySem PySem.Spec PyProof.Rows
section
variable {X : Cx}

def tVar (i : Nat) : TE := fun σ H Q => ∃ v, σ[i]? = some (some v) ∧ Q v H
def tC (v : V) : TE := fun _ H Q => Q v H
theorem pe_var {i : Nat} {x : Str} {pos : Pos} (hN : X.N[i]? = some x) (hv : Vis X.env.scope x) (hd : (x == ("__debug__" : Str)) = false := by decide) (hcd : (x == ("__classdict__" : Str)) = false := by decide) : PE X (.Name x pos) (tVar i) := by
  intro pins s σ H Q I h
  obtain ⟨v, e, h⟩ := h
  obtain ⟨m, hn, hl⟩ := I.loc
  obtain ⟨u, r, l⟩ := hl i x v hN e hv
  have fin : EP X pins σ Q u s := ⟨v, H, I, r, h⟩
  rcases l with ⟨hk, hm⟩ | ⟨hk, c, hc, hcell⟩
  · exact wpAny_Name (wpAny_loadName_local I.ok.kind hk hn hm fin) hd
  · rcases hk with hk | hk
    · exact wpAny_Name (wpAny_loadName_cell I.ok.kind hk hc hcell fin) hd
    · exact wpAny_Name (wpAny_loadName_free I.ok.kind hk hc hcell fin hcd) hd
theorem pe_int {i j pos} : PE X (.Constant (.int i) j pos) (tC (.int i)) := fun _ _ _ H _ I h => wpAny_Constant_int ⟨.int i, H, I.tok _, ⟨_, rfl⟩, h⟩
theorem pe_bl {b j pos} : PE X (.Constant (.bool b) j pos) (tC (.bl b)) := fun _ _ _ H _ I h => Constant_bool ⟨.bl b, H, I, rfl, h⟩
def Gl (X : Cx) (x : Str) : Prop := X.env.kindOf x = some .globalImplicit
theorem ld_glob {E : Value → Shared → Prop} {pins : List (Addr × Obj)} {s : Shared} {σ : St} {H : Hp} {x : Str} {u : Value} {pos : Pos} {Q : Value → Shared → Prop} (I : Inv X pins σ H s) (hg : Gl X x) (hm : X.mg x = some u) (h : Q u s)
    (hd : (x == ("__debug__" : Str)) = false := by decide) : wpAny (model X.prog X.w) X.A (eval (.Name x pos) X.env) Q E s :=
  Calls.Name_function_global I.ok.kind hg (Calls.loadGlobal_global (by rw [I.ok.glob]; exact I.mod.glob.keeps I.bk) hm h) hd
theorem ld_blt {E : Value → Shared → Prop} {pins : List (Addr × Obj)} {s : Shared} {σ : St} {H : Hp} {x : Str} {u : Value} {pos : Pos} {Q : Value → Shared → Prop} (I : Inv X pins σ H s) (hg : Gl X x) (hm : X.mg x = none) (hv : bootBuiltins x = some u) (h : Q u s)
    (hn : x ≠ "__name__" := by decide) (hd : (x == ("__debug__" : Str)) = false := by decide) : wpAny (model X.prog X.w) X.A (eval (.Name x pos) X.env) Q E s := by
  obtain ⟨mb, h1, h2⟩ := I.mod.blt
  exact Calls.Name_function_global I.ok.kind hg (Calls.loadGlobal_builtin (by rw [I.ok.glob]; exact I.mod.glob.keeps I.bk) hm (by rw [I.ok.blt]; exact h1.keeps I.bk) ((h2 x hn).trans hv) h) hd
theorem pe_bltn {x : Str} {v : V} {u : Value} {pos : Pos} (hg : Gl X x) (hm : X.mg x = none) (hv : bootBuiltins x = some u) (r : RelV v u) (hn : x ≠ "__name__" := by decide) (hd : (x == ("__debug__" : Str)) = false := by decide) : PE X (.Name x pos) (tC v) :=
  fun _ _ _ H _ I h => ld_blt I hg hm hv ⟨v, H, I, r, h⟩ hn hd

variable {a b : Expr} {ta tb : TE} {pos : Pos}
def PC (X : Cx) (op : CmpOp) (a b : Expr) (t : TE) : Prop :=
  ∀ (pins : List (Addr × Obj)) (s : Shared) (σ : St) (H : Hp) (Q : VK), Inv X pins σ H s → t σ H Q →
    wpAny (model X.prog X.w) X.A (eval a X.env) (fun v s₁ => wpAny (model X.prog X.w) X.A (eval b X.env) (fun u s₂ => wpAny (model X.prog X.w) X.A (compareOp op v u) (EP X pins σ Q) X.xe s₂) X.xe s₁) X.xe s
theorem nobehind (b : Expr) {op : CmpOp} (h : op ≠ .In) (h2 : op ≠ .NotIn) : behindInMarks op b = false := by
  have e1 : (op == CmpOp.In) = false := by cases op <;> first | rfl | exact absurd rfl h
  have e2 : (op == CmpOp.NotIn) = false := by cases op <;> first | rfl | exact absurd rfl h2
  cases b <;> simp [behindInMarks, e1, e2]
def tB (t : TE) : TT := fun σ H Q => t σ H fun x H1 => ∃ c, x = .bl c ∧ Q c H1
theorem pt_cmp {op : CmpOp} {t : TE} (h : PC X op a b t) (h1 : behindInMarks op b = false := by first | exact nobehind _ (by decide) (by decide) | rfl) : PT X (.Compare a [op] [b] pos) (tB t) := by
  intro pins s σ H Q I hw
  refine wpAny_isTrue_Compare1 (thn (h pins s σ H _ I hw) fun v s1 h1 => thn h1 fun u s2 h2 => thn h2 fun c s3 ⟨x, H1, I1, r1, q1⟩ => ?_) h1
  obtain ⟨d, rfl, q⟩ := q1
  cases r1
  exact wpAny_truthy_bool ⟨H1, I1, q⟩
theorem pt_val {e : Expr} {t : TE} (h : PE X e t) (he : ∀ whole, isTrue e X.env whole = (do let v ← whole; standAt e.pos; holding [v] (truthy v)) := by intro _; rfl) : PT X e (tB t) := by
  intro pins s σ H Q I hw
  refine isTrue_plain (thn (h pins s σ H _ I hw) fun v s1 ⟨x, H1, I1, r1, q1⟩ => ?_) (he _)
  obtain ⟨d, rfl, q⟩ := q1
  cases r1
  exact wpAny_truthy_bool ⟨H1, I1, q⟩

variable {tA tB' : TT} {rest : List Expr}
def tAnd (t u : TT) : TT := fun σ H Q => t σ H fun c H1 => if c = true then u σ H1 Q else Q false H1
def tOr (t u : TT) : TT := fun σ H Q => t σ H fun c H1 => if c = true then Q true H1 else u σ H1 Q
def tNot (t : TT) : TT := fun σ H Q => t σ H fun c H1 => Q (!c) H1
theorem pw_and1 (ha : PT X a tA) : PW X (.BoolOp .And [a] pos) tA := by
  intro wh pins s σ H Q I h
  refine isTrue_and (thn (ha pins s σ H Q I h) fun c s1 e => ?_)
  cases c with
  | true => exact isTrue_and_nil e
  | false => exact e
theorem pw_or1 (ha : PT X a tA) : PW X (.BoolOp .Or [a] pos) tA := by
  intro wh pins s σ H Q I h
  refine isTrue_or (thn (ha pins s σ H Q I h) fun c s1 e => ?_)
  cases c with
  | false => exact isTrue_or_nil e
  | true => exact e
theorem pw_and (ha : PT X a tA) (hb : PW X (.BoolOp .And (b :: rest) pos) tB') : PW X (.BoolOp .And (a :: b :: rest) pos) (tAnd tA tB') := by
  intro wh pins s σ H Q I h
  refine isTrue_and (thn (ha pins s σ H _ I h) fun c s1 ⟨H1, I1, q1⟩ => ?_)
  cases c with
  | true => exact hb wh pins s1 σ H1 Q I1 q1
  | false => exact ⟨H1, I1, q1⟩
theorem pw_or (ha : PT X a tA) (hb : PW X (.BoolOp .Or (b :: rest) pos) tB') : PW X (.BoolOp .Or (a :: b :: rest) pos) (tOr tA tB') := by
  intro wh pins s σ H Q I h
  refine isTrue_or (thn (ha pins s σ H _ I h) fun c s1 ⟨H1, I1, q1⟩ => ?_)
  cases c with
  | true => exact ⟨H1, I1, q1⟩
  | false => exact hb wh pins s1 σ H1 Q I1 q1
theorem pt_not (ha : PT X a tA) : PT X (.UnaryOp .Not a pos) (tNot tA) := by
  intro pins s σ H Q I h
  exact isTrue_not (ha pins s σ H (fun c H1 => Q (!c) H1) I h)
def tAndV (ta tb : TE) : TE := fun σ H Q => ta σ H fun x H1 => ∃ c, x = .bl c ∧ if c = true then tb σ H1 Q else Q (.bl false) H1
def tNotV (ta : TE) : TE := fun σ H Q => ta σ H fun x H1 => ∃ c, x = .bl c ∧ Q (.bl (!c)) H1
theorem pe_one {op} {t : TE} (h : PE X a t) : PE X (.BoolOp op [a] pos) t := fun pins s σ H Q I hw => BoolOp_one (h pins s σ H Q I hw)
theorem pe_and (ha : PE X a ta) (hb : PE X (.BoolOp .And (b :: rest) pos) tb) : PE X (.BoolOp .And (a :: b :: rest) pos) (tAndV ta tb) := by
  intro pins s σ H Q I h
  refine BoolOp_and (thn (ha pins s σ H _ I h) fun v s1 ⟨x, H1, I1, r1, q1⟩ => ?_)
  obtain ⟨c, rfl, q1⟩ := q1
  cases r1
  refine wpAny_truthy_bool ?_
  cases c with
  | true => exact hb pins s1 σ H1 Q I1 q1
  | false => exact ⟨.bl false, H1, I1, rfl, q1⟩
theorem pe_not (ha : PE X a ta) : PE X (.UnaryOp .Not a pos) (tNotV ta) := by
  intro pins s σ H Q I h
  refine UnaryOp_ (thn (ha pins s σ H _ I h) fun v s1 ⟨x, H1, I1, r1, q1⟩ => ?_)
  obtain ⟨c, rfl, q1⟩ := q1
  cases r1
  exact not_of (wpAny_truthy_bool ⟨.bl (!c), H1, I1, rfl, q1⟩)
def tIf (t : TT) (ta tb : TE) : TE := fun σ H Q => t σ H fun c H1 => if c = true then ta σ H1 Q else tb σ H1 Q
theorem pe_ifExp {c : Expr} (hc : PT X c tA) (ha : PE X a ta) (hb : PE X b tb) : PE X (.IfExp c a b pos) (tIf tA ta tb) := by
  intro pins s σ H Q I h
  refine wpAny_IfExp (thn (hc pins s σ H _ I h) fun d s1 ⟨H1, I1, q1⟩ => ?_)
  cases d with
  | true => exact ha pins s1 σ H1 Q I1 q1
  | false => exact hb pins s1 σ H1 Q I1 q1
end
end L2

namespace L2
open PySem PySem.Spec PyProof.Rows

def SqL (K : PySem.W.Frag) (H : Hp) (a : Addr) (xs : List V) : Prop :=
  Rd H a (.lst xs) ∨
    ∃ (o : Obj) (its : Array Value) (n : Nat), K.lookup a = some o ∧ o.cls = .type "list" ∧ o.dict = none ∧ o.data = .seq its n ∧ its.size ≤ sizeLine ∧ Vals xs its.toList
def SqT (K : PySem.W.Frag) (H : Hp) (a : Addr) (xs : List V) : Prop :=
  Rd H a (.tup xs) ∨
    ∃ (o : Obj) (its : Array Value) (n : Nat), K.lookup a = some o ∧ o.cls = .type "tuple" ∧ o.data = .seq its n ∧ its.size ≤ sizeLine ∧ Vals xs its.toList
def absV : Value → Option V
  | .none => some .non
  | .bool b => some (.bl b)
  | .int i _ => some (.int i)
  | .str x _ => some (.str x)
  | .bytes b _ => some (.byt b)
  | .float b _ => some (.flt b)
  | .ref a => some (.ref a)
  | .type n => some (.ty n)
  | _ => none
theorem RelV.abs {x : V} {u : Value} (r : RelV x u) : absV u = some x := by
  cases x with
  | non => cases r; rfl
  | bl _ => cases r; rfl
  | int _ => obtain ⟨t, rfl⟩ := r; rfl
  | str _ => obtain ⟨t, rfl⟩ := r; rfl
  | byt _ => obtain ⟨t, rfl⟩ := r; rfl
  | flt _ => obtain ⟨t, rfl⟩ := r; rfl
  | ref _ => cases r; rfl
  | ty _ => cases r; rfl
theorem RelV.inj {x y : V} {u : Value} (r : RelV x u) (q : RelV y u) : x = y := Option.some.inj (r.abs.symm.trans q.abs)
theorem Vals.inj : ∀ {xs ys : List V} {us : List Value}, Vals xs us → Vals ys us → xs = ys
  | _, _, _, .nil, .nil => rfl
  | _, _, _, .cons r t, .cons r' t' => by rw [r.inj r', Vals.inj t t']
section
variable {X : Cx} {pins : List (Addr × Obj)} {σ : St} {H : Hp} {s : Shared} {a : Addr} {xs ys : List V}
theorem SqL.of {K : PySem.W.Frag} (h : H a = some (.lst xs)) : SqL K H a xs := .inl (.inl h)
theorem SqT.of {K : PySem.W.Frag} (h : H a = some (.tup xs)) : SqT K H a xs := .inl (.inl h)
theorem Inv.list (I : Inv X pins σ H s) (h : SqL X.K H a xs) : ∃ its : List Value, Vals xs its ∧ PlainL s.heap a its.toArray ∧ xs.length ≤ sizeLine := by
  rcases h with h | ⟨o, its, n, hk, hc, hd, hs, hz, r⟩
  · obtain ⟨z, its, n, r, e⟩ := h.ok I.hok
    exact ⟨its, r, ⟨_, n, e, rfl, rfl, rfl⟩, z⟩
  · refine ⟨its.toList, r, ⟨o, n, I.kIn a o hk, hc, hd, by simpa using hs⟩, ?_⟩
    have e := r.length
    simp only [Array.length_toList] at e
    omega
theorem Inv.tuple (I : Inv X pins σ H s) (h : SqT X.K H a xs) : ∃ its : List Value, Vals xs its ∧ IsTup s.heap a its.toArray ∧ xs.length ≤ sizeLine := by
  rcases h with h | ⟨o, its, n, hk, hc, hs, hz, r⟩
  · obtain ⟨z, its, r, p⟩ := h.ok I.hok
    exact ⟨its, r, p, z⟩
  · refine ⟨its.toList, r, ⟨o, I.kIn a o hk, hc, n, by simpa using hs⟩, ?_⟩
    have e := r.length
    simp only [Array.length_toList] at e
    omega
theorem Inv.list_inj (I : Inv X pins σ H s) (h : SqL X.K H a xs) (h' : SqL X.K H a ys) : xs = ys := by
  obtain ⟨its, r, ⟨o, n, e, _, _, d⟩, _⟩ := I.list h
  obtain ⟨its', r', ⟨o', n', e', _, _, d'⟩, _⟩ := I.list h'
  rw [e] at e'; cases e'
  rw [d] at d'
  injection d' with d1 _
  have : its = its' := by simpa using congrArg Array.toList d1
  subst this
  exact r.inj r'
theorem Inv.tuple_inj (I : Inv X pins σ H s) (h : SqT X.K H a xs) (h' : SqT X.K H a ys) : xs = ys := by
  obtain ⟨its, r, ⟨o, e, _, n, d⟩, _⟩ := I.tuple h
  obtain ⟨its', r', ⟨o', e', _, n', d'⟩, _⟩ := I.tuple h'
  rw [e] at e'; cases e'
  rw [d] at d'
  injection d' with d1 _
  have : its = its' := by simpa using congrArg Array.toList d1
  subst this
  exact r.inj r'
end

abbrev Cx.wish (X : Cx) (E : Value → Shared → Prop) : Cx := { X with xe := E }
abbrev Cx.nox (X : Cx) : Cx := X.wish fun _ _ => False
theorem Cx.Ok.wish {X : Cx} (ok : X.Ok) (E : Value → Shared → Prop) : (X.wish E).Ok :=
  ⟨ok.mod, ok.kind, ok.glob, ok.blt, ok.above, ok.inj, ok.has, ok.cab, ok.hd, ok.frames, ok.stk, ok.exf, ok.bs, ok.bsz, ok.noex, ok.exfs, ok.funs, ok.frf⟩
theorem Cx.Ok.unwish {X : Cx} {E : Value → Shared → Prop} (ok : (X.wish E).Ok) : X.Ok :=
  ⟨ok.mod, ok.kind, ok.glob, ok.blt, ok.above, ok.inj, ok.has, ok.cab, ok.hd, ok.frames, ok.stk, ok.exf, ok.bs, ok.bsz, ok.noex, ok.exfs, ok.funs, ok.frf⟩
section
variable {X : Cx} {pins : List (Addr × Obj)} {σ : St} {H : Hp} {s : Shared} {E : Value → Shared → Prop}
theorem Inv.wish (I : Inv X pins σ H s) (E : Value → Shared → Prop) : Inv (X.wish E) pins σ H s := ⟨I.ok.wish E, I.os, I.bare, I.base, I.loc, I.cell, I.free, I.freeC, I.pin, I.hok, I.len⟩
theorem Inv.unwish (I : Inv (X.wish E) pins σ H s) : Inv X pins σ H s := ⟨I.ok.unwish, I.os, I.bare, I.base, I.loc, I.cell, I.free, I.freeC, I.pin, I.hok, I.len⟩
theorem SP.unwish {D : Ends} {f : Flow} {s' : Shared} (h : SP (X.wish E) pins D f s') : SP X pins D f s' := by
  cases f with
  | next => obtain ⟨σ', H', I, q⟩ := h; exact ⟨σ', H', I.unwish, q⟩
  | brk => obtain ⟨σ', H', I, q⟩ := h; exact ⟨σ', H', I.unwish, q⟩
  | cont => obtain ⟨σ', H', I, q⟩ := h; exact ⟨σ', H', I.unwish, q⟩
  | ret u => obtain ⟨v, σ', H', I, r, q⟩ := h; exact ⟨v, σ', H', I.unwish, r, q⟩
theorem PE.nox {e : Expr} {t : TE} (h : PE X.nox e t) : PE X e t := fun pins s σ H Q I hw =>
  wpAny_mono (h pins s σ H Q (I.wish _) hw) (fun _ _ ⟨v, H', I', r, q⟩ => ⟨v, H', I'.unwish, r, q⟩) fun _ _ z => False.elim z
theorem PT.nox {e : Expr} {t : TT} (h : PT X.nox e t) : PT X e t := fun pins s σ H Q I hw =>
  wpAny_mono (h pins s σ H Q (I.wish _) hw) (fun _ _ ⟨H', I', q⟩ => ⟨H', I'.unwish, q⟩) fun _ _ z => False.elim z
theorem PSs.nox {st : List Stmt} {t : TS} (h : PSs X.nox st t) : PSs X st t := fun pins s σ H D I hw =>
  wpAny_mono (h pins s σ H D (I.wish _) hw) (fun _ _ q => q.unwish) fun _ _ z => False.elim z
end

section
variable {X : Cx} {st : Stmt} {rest : List Stmt} {t u : TS} {e : Expr} {te : TE} {pos : Pos}
def tNext : TS := fun D σ H => D.nx σ H
def tSeq (t u : TS) : TS := fun D σ H => t { D with nx := u D } σ H
theorem pss_nil : PSs X [] tNext := fun _ _ σ H _ I h => wpAny_execs_nil ⟨σ, H, I, h⟩
theorem pss_cons (h1 : PS X st t) (h2 : PSs X rest u) : PSs X (st :: rest) (tSeq t u) := by
  intro pins s σ H D I h
  refine wpAny_execs_cons (thn (h1 pins s σ H { D with nx := u D } I h) fun f s1 q => ?_)
  cases f with
  | next =>
    obtain ⟨σ', H', I', q⟩ := q
    exact h2 pins s1 σ' H' D I' q
  | ret v => exact q
  | brk => exact q
  | cont => exact q
theorem pss_one (h1 : PS X st t) : PSs X [st] t := by
  intro pins s σ H D I h
  refine wpAny_execs_cons (thn (h1 pins s σ H D I h) fun f s1 q => ?_)
  cases f with
  | next => exact wpAny_execs_nil q
  | ret v => exact q
  | brk => exact q
  | cont => exact q
theorem Inv.quiet {pins : List (Addr × Obj)} {σ : St} {H : Hp} {s : Shared} (I : Inv X pins σ H s) : interactive X.env = false := by simp [interactive, I.ok.kind]
def tDrop (te : TE) : TS := fun D σ H => te σ H fun _ H1 => D.nx σ H1
theorem ps_expr (he : PE X e te) (hs : swapsWith e none pos.line X.env = pure false := by rfl) : PS X (.Expr e pos) (tDrop te) := by
  intro pins s σ H D I h
  exact wpAny_Expr_any (thn (he pins s σ H _ I h) fun v s1 ⟨x, H1, I1, r1, q1⟩ => ⟨σ, H1, I1, q1⟩) I.quiet hs
def tRet (te : TE) : TS := fun D σ H => te σ H D.rt
theorem ps_ret (he : PE X e te) : PS X (.Return (some e) pos) (tRet te) := by
  intro pins s σ H D I h
  exact wpAny_Return_some (thn (he pins s σ H _ I h) fun v s1 ⟨x, H1, I1, r1, q1⟩ => ⟨x, σ, H1, I1, r1, q1⟩)
def tIfS (c : TT) (t u : TS) : TS := fun D σ H => c σ H fun b H1 => if b = true then t D σ H1 else u D σ H1
theorem ps_if {c : Expr} {a b : List Stmt} {tc : TT} (hc : PT X c tc) (ha : PSs X a t) (hb : PSs X b u) : PS X (.If c a b pos) (tIfS tc t u) := by
  intro pins s σ H D I h
  refine wpAny_If (thn (hc pins s σ H _ I h) fun d s1 ⟨H1, I1, q1⟩ => ?_)
  cases d with
  | true => exact ha pins s1 σ H1 D I1 q1
  | false => exact hb pins s1 σ H1 D I1 q1
end

abbrev TG := V → St → Hp → (St → Hp → Prop) → Prop
abbrev TGs := List V → St → Hp → (St → Hp → Prop) → Prop
def PG (X : Cx) (target : Expr) (t : TG) : Prop :=
  ∀ (pins : List (Addr × Obj)) (s : Shared) (σ : St) (H : Hp) (v : V) (u : Value) (Q : St → Hp → Prop), Inv X pins σ H s → RelV v u → t v σ H Q →
    wpAny (model X.prog X.w) X.A (assign target X.env u) (fun _ s' => ∃ σ' H', Inv X pins σ' H' s' ∧ Q σ' H') X.xe s
def PGs (X : Cx) (ts : List Expr) (t : TGs) : Prop :=
  ∀ (pins : List (Addr × Obj)) (s : Shared) (σ : St) (H : Hp) (vs : List V) (us : List Value) (Q : St → Hp → Prop), Inv X pins σ H s → Vals vs us → t vs σ H Q →
    wpAny (model X.prog X.w) X.A (assignInOrder ((assignEach ts X.env).map (·.2)) us) (fun _ s' => ∃ σ' H', Inv X pins σ' H' s' ∧ Q σ' H') X.xe s
abbrev TSet := V → V → V → Hp → (Hp → Prop) → Prop
def PSet (X : Cx) (t : TSet) : Prop :=
  ∀ (pins : List (Addr × Obj)) (s : Shared) (σ : St) (H : Hp) (o i v : V) (ov iv u : Value) (Q : Hp → Prop), Inv X pins σ H s → RelV o ov → RelV i iv → RelV v u → t o i v H Q →
    wpAny (model X.prog X.w) X.A (setItem ov iv u) (fun _ s' => ∃ H', Inv X pins σ H' s' ∧ Q H') X.xe s
abbrev TIp := V → V → Hp → VK → Prop
def PIp (X : Cx) (op : Operator) (t : TIp) : Prop :=
  ∀ (pins : List (Addr × Obj)) (s : Shared) (σ : St) (H : Hp) (x y : V) (v u : Value) (Q : VK), Inv X pins σ H s → RelV x v → RelV y u → t x y H Q →
    wpAny (model X.prog X.w) X.A (inplaceOp op v u) (EP X pins σ Q) X.xe s
section
variable {X : Cx} {pos : Pos}
def gName (i : Nat) : TG := fun v σ H Q => Q (σ.set i (some v)) H
theorem pg_name {i : Nat} {x : Str} (hN : X.N.Nodup) (hi : X.N[i]? = some x) (hx : Loc X.env.scope x) (hf : X.fn x = true ∨ X.env.scope.names.lookup x = some .local := by first | exact .inl rfl | exact .inr rfl | assumption) : PG X (.Name x pos) (gName i) := by
  intro pins s σ H v u Q I r h
  exact wpAny_assign_Name (store_ok I hN hi hx r (fun s' I' => ⟨_, H, I', h⟩) hf)
def gNil : TGs := fun vs σ H Q => vs = [] ∧ Q σ H
def gCons (t : TG) (u : TGs) : TGs := fun vs σ H Q => ∃ v r, vs = v :: r ∧ t v σ H fun σ' H' => u r σ' H' Q
theorem pgs_nil : PGs X [] gNil := by
  intro pins s σ H vs us Q I r h
  obtain ⟨e, h⟩ := h
  subst e
  cases r
  exact assignInOrder_nil ⟨σ, H, I, h⟩
theorem pgs_cons {e : Expr} {es : List Expr} {t : TG} {u : TGs} (h1 : PG X e t) (h2 : PGs X es u)
    (hs : (assignEach (e :: es) X.env).map (·.2) = assign e X.env :: (assignEach es X.env).map (·.2) := by rfl) : PGs X (e :: es) (gCons t u) := by
  intro pins s σ H vs us Q I r h
  obtain ⟨v, vr, e1, h⟩ := h
  subst e1
  cases r with
  | cons r rr =>
    rw [hs]
    refine assignInOrder_cons (thn (h1 pins s σ H _ _ _ I r h) fun _ s1 ⟨σ1, H1, I1, q1⟩ => ?_)
    exact h2 pins s1 σ1 H1 _ _ Q I1 rr q1
def gTup (K : PySem.W.Frag) (n : Nat) (t : TGs) : TG := fun v σ H Q => ∃ a xs, v = .ref a ∧ SqT K H a xs ∧ xs.length = n ∧ t xs σ H Q
theorem pg_tup {es : List Expr} {k : Nat} {t : TGs} {n : Nat} (hc : X.calm = true) (h : PGs X es t)
    (hn : (assignEach es X.env).length = n := by rfl) (hst : (assignEach es X.env).findIdx? (·.1) = none := by rfl) : PG X (.Tuple es k pos) (gTup X.K n t) := by
  intro pins s σ H v u Q I r hw
  obtain ⟨a, xs, e1, hq, hl, hw⟩ := hw
  subst e1
  cases r
  obtain ⟨its, rv, ht, hz⟩ := I.tuple hq
  refine assign_Tuple_tuple (I.ok.hd hc) ht (by simp [hn, ← hl, rv.length]) hst fun h' hx => ?_
  have I1 : Inv X pins σ H { s with heap := h' } := I.kept (t' := s.toks) fun b o e => hx b o (Nat.ne_of_lt (Heap.lt_size e)) e
  exact h pins _ σ H xs _ Q I1 (by simpa using rv) hw
def gSub (to ti : TE) (t : TSet) : TG := fun v σ H Q => to σ H fun o H1 => ti σ H1 fun i H2 => t o i v H2 fun H3 => Q σ H3
theorem pg_sub {o i : Expr} {to ti : TE} {t : TSet} (ho : PE X o to) (hi : PE X i ti) (hs : PSet X t)
    (ha : ∀ v, assign (.Subscript o i pos) X.env v = (do
      let ov ← holding [v] (eval o X.env)
      let iv ← holding [v, ov] (eval i X.env)
      standAt pos
      holding [v, ov, iv] (setItem ov iv v)
      release [v, ov, iv] []) := by intro _; rfl) : PG X (.Subscript o i pos) (gSub to ti t) := by
  intro pins s σ H v u Q I r h
  rw [ha]
  refine wpAny_bind (wpAny_holding (thn (ho pins s σ H _ I h) fun ov s1 ⟨x, H1, I1, r1, q1⟩ => ?_))
  refine wpAny_bind (wpAny_holding (thn (hi pins s1 σ H1 _ I1 q1) fun iv s2 ⟨y, H2, I2, r2, q2⟩ => ?_))
  refine wpAny_bind (wpAny_standAt (wpAny_bind (wpAny_holding (thn (hs pins s2 σ H2 x y v ov iv u _ I2 r1 r2 r q2) fun _ s3 ⟨H3, I3, q3⟩ => ?_))))
  exact wpAny_release ⟨σ, H3, I3, q3⟩
def tAsg (te : TE) (g : TG) : TS := fun D σ H => te σ H fun x H1 => g x σ H1 D.nx
theorem ps_asg {tg e : Expr} {te : TE} {g : TG} (he : PE X e te) (hg : PG X tg g) (hs : swapsWithSole [tg] e pos.line X.env = pure false := by rfl) (hw : swappedStores [tg] e X.env = pure none := by rfl)
    (h1 : (assignEach [tg] X.env).map (·.2) = [assign tg X.env] := by rfl) : PS X (.Assign [tg] e pos) (tAsg te g) := by
  intro pins s σ H D I h
  refine wpAny_Assign_stores (thn (he pins s σ H _ I h) fun v s1 ⟨x, H1, I1, r1, q1⟩ => ?_) hs hw
  rw [h1]
  exact thn (hg pins s1 σ H1 x v _ I1 r1 q1) fun _ s2 q => q
theorem ps_set {i : Nat} {x : Str} {e : Expr} {te : TE} {pos' : Pos} (hN : X.N.Nodup) (hi : X.N[i]? = some x) (hx : Loc X.env.scope x) (he : PE X e te) (hs : swapsWith e (some (.Name x pos')) pos.line X.env = pure false := by rfl) (hf : X.fn x = true ∨ X.env.scope.names.lookup x = some .local := by first | exact .inl rfl | exact .inr rfl | assumption) :
    PS X (.Assign [.Name x pos'] e pos) (tAsg te (gName i)) := by
  intro pins s σ H D I h
  refine wpAny_Assign_Name (thn (he pins s σ H _ I h) fun v s1 ⟨y, H1, I1, r1, q1⟩ => ?_) hs
  exact store_ok I1 hN hi hx r1 (fun s2 I2 => ⟨_, H1, I2, q1⟩) hf
def tAug (i : Nat) (te : TE) (ti : TIp) : TS := fun D σ H => ∃ x, σ[i]? = some (some x) ∧ te σ H fun y H1 => ti x y H1 fun z H2 => D.nx (σ.set i (some z)) H2
theorem ps_aug {i : Nat} {x : Str} {e : Expr} {te : TE} {op : Operator} {ti : TIp} {pos' : Pos} (hN : X.N.Nodup) (hi : X.N[i]? = some x) (hx : Loc X.env.scope x) (he : PE X e te) (ho : PIp X op ti) (hf : X.fn x = true ∨ X.env.scope.names.lookup x = some .local := by first | exact .inl rfl | exact .inr rfl | assumption) :
    PS X (.AugAssign (.Name x pos') op e pos) (tAug i te ti) := by
  intro pins s σ H D I h
  obtain ⟨v, e1, h⟩ := h
  obtain ⟨m, hn, hl⟩ := I.loc
  have vis : Vis X.env.scope x := by rcases hx with k | k; exact .inl k; exact .inr (.inl k)
  obtain ⟨u, r, l⟩ := hl i x v hi e1 vis
  refine wpAny_AugAssign_Name ?_
  have go : wpAny (model X.prog X.w) X.A (eval e X.env) (fun w s₂ => wpAny (model X.prog X.w) X.A (inplaceOp op u w) (fun r s₃ => wpAny (model X.prog X.w) X.A (storeName X.env x r) (fun _ => SP X pins D .next) X.xe s₃) X.xe s₂) X.xe s := by
    refine thn (he pins s σ H _ I h) fun w s1 ⟨y, H1, I1, r1, q1⟩ => ?_
    refine thn (ho pins s1 σ H1 v y u w _ I1 r r1 q1) fun z s2 ⟨zv, H2, I2, r2, q2⟩ => ?_
    exact store_ok I2 hN hi hx r2 (fun s3 I3 => ⟨_, H2, I3, q2⟩) hf
  rcases l with ⟨hk, hm⟩ | ⟨hk, c, hc, hcell⟩
  · exact wpAny_loadName_local I.ok.kind hk hn hm go
  · rcases hk with hk | hk
    · exact wpAny_loadName_cell I.ok.kind hk hc hcell go
    · rcases hx with k | k
      · have : X.env.scope.names.lookup x = some .free := hk
        rw [k] at this; cases this
      · have : X.env.scope.names.lookup x = some .free := hk
        rw [k] at this; cases this
def tAugS (to ti te : TE) (tget : V → V → Hp → VK → Prop) (tip : TIp) (tset : TSet) : TS := fun D σ H => to σ H fun o H1 => ti σ H1 fun i H2 => tget o i H2 fun x H3 => te σ H3 fun y H4 => tip x y H4 fun z H5 => tset o i z H5 fun H6 => D.nx σ H6
def PGet (X : Cx) (t : V → V → Hp → VK → Prop) : Prop :=
  ∀ (pins : List (Addr × Obj)) (s : Shared) (σ : St) (H : Hp) (o i : V) (ov iv : Value) (Q : VK), Inv X pins σ H s → RelV o ov → RelV i iv → t o i H Q →
    wpAny (model X.prog X.w) X.A (getItem ov iv) (EP X pins σ Q) X.xe s
theorem ps_augS {o i e : Expr} {to ti te : TE} {tget : V → V → Hp → VK → Prop} {tip : TIp} {tset : TSet} {op : Operator} {tpos : Pos} (ho : PE X o to) (hi : PE X i ti) (hg : PGet X tget) (he : PE X e te) (hp : PIp X op tip) (hs : PSet X tset)
    (ha : ∀ ov iv new, augStore i ov iv new = (do holding [new, ov, iv] (setItem ov iv new); release [new, ov, iv] []; pure .next) := by intros; rfl) : PS X (.AugAssign (.Subscript o i tpos) op e pos) (tAugS to ti te tget tip tset) := by
  intro pins s σ H D I h
  refine wpAny_AugAssign_SubscriptAny (thn (ho pins s σ H _ I h) fun ov s1 ⟨x1, H1, I1, r1, q1⟩ => ?_) ha
  refine thn (hi pins s1 σ H1 _ I1 q1) fun iv s2 ⟨x2, H2, I2, r2, q2⟩ => ?_
  refine thn (hg pins s2 σ H2 x1 x2 ov iv _ I2 r1 r2 q2) fun old s3 ⟨x3, H3, I3, r3, q3⟩ => ?_
  refine thn (he pins s3 σ H3 _ I3 q3) fun v s4 ⟨x4, H4, I4, r4, q4⟩ => ?_
  refine thn (hp pins s4 σ H4 x3 x4 old v _ I4 r3 r4 q4) fun new s5 ⟨x5, H5, I5, r5, q5⟩ => ?_
  exact thn (hs pins s5 σ H5 x1 x2 x5 ov iv new _ I5 r1 r2 r5 q5) fun _ s6 ⟨H6, I6, q6⟩ => ⟨σ, H6, I6, q6⟩
def ipI (f : Int → Int → Int) : TIp := fun x y H Q => ∃ i j, x = .int i ∧ y = .int j ∧ Q (.int (f i j)) H
theorem ip_add : PIp X .Add (ipI fun i j => i + j) := by
  intro pins s σ H x y v u Q I r1 r2 h
  obtain ⟨i, j, e1, e2, q⟩ := h
  subst e1; subst e2
  obtain ⟨t, rfl⟩ := r1
  obtain ⟨t', rfl⟩ := r2
  exact iadd_int ⟨.int _, H, I.tok _, ⟨_, rfl⟩, q⟩
theorem ip_sub : PIp X .Sub (ipI fun i j => i - j) := by
  intro pins s σ H x y v u Q I r1 r2 h
  obtain ⟨i, j, e1, e2, q⟩ := h
  subst e1; subst e2
  obtain ⟨t, rfl⟩ := r1
  obtain ⟨t', rfl⟩ := r2
  exact isub_int ⟨.int _, H, I.tok _, ⟨_, rfl⟩, q⟩
end

section
variable {X : Cx} {pos : Pos}
def tWhile (c : TT) (tb : TS) : TS := fun D σ H => ∃ W : Nat → St → Hp → Prop, (∃ m, W m σ H) ∧ ∀ m σ H, W m σ H →
  c σ H fun b H1 => if b = true then ∃ N : St → Hp → Prop, (∀ σ' H', N σ' H' → ∃ m', m' < m ∧ W m' σ' H') ∧ tb { D with nx := N, ct := N, bk := D.nx } σ H1 else D.nx σ H1
theorem ps_while {c : Expr} {body : List Stmt} {tc : TT} {tb : TS} (hp : PassesOwn (model X.prog X.w) X.A X.env X.xe) (hc : PT X c tc) (hb : PSs X body tb) : PS X (.While c body [] pos) (tWhile tc tb) := by
  intro pins s σ H D I h
  obtain ⟨W, ⟨m0, w0⟩, turn⟩ := h
  refine wpAny_While (codeAny_whileLoop (fun n s' => ∃ σ' H', Inv X pins σ' H' s' ∧ W n σ' H') ?_ m0 ⟨σ, H, I, w0⟩)
  rintro n s1 ⟨σ1, H1, I1, w1⟩
  refine wpAny_passesOwn hp (thn (hc pins s1 σ1 H1 _ I1 (turn n σ1 H1 w1)) fun b s2 ⟨H2, I2, q2⟩ => ?_)
  cases b with
  | true =>
    obtain ⟨N, hN, q2⟩ := q2
    rw [if_pos rfl]
    refine wpAny_passesOwn hp (thn (hb pins s2 σ1 H2 _ I2 q2) fun f s3 q3 => ?_)
    cases f with
    | next =>
      obtain ⟨σ3, H3, I3, n3⟩ := q3
      obtain ⟨m', hm, w3⟩ := hN σ3 H3 n3
      exact ⟨m', hm, σ3, H3, I3, w3⟩
    | cont =>
      obtain ⟨σ3, H3, I3, n3⟩ := q3
      obtain ⟨m', hm, w3⟩ := hN σ3 H3 n3
      exact ⟨m', hm, σ3, H3, I3, w3⟩
    | brk => exact q3
    | ret v => exact q3
  | false =>
    rw [if_neg Bool.false_ne_true]
    exact wpAny_execs_nil ⟨σ1, H2, I2, q2⟩
end

structure It where
  go : Nat → Hp → Prop
  yld : Nat → Hp → V → Hp → Prop
  stop : Nat → Hp → Prop
def FpOk (X : Cx) (pins : List (Addr × Obj)) (H : Hp) (b : Addr) : Prop :=
  H b = none ∧ b ≠ X.env.locals ∧ b ∉ X.fs ∧ (b ∈ X.ex ∨ X.s₀.heap.objs.size ≤ b) ∧ (∀ x c, X.env.cells.lookup x = some c → c ≠ b) ∧ ∀ p ∈ X.pn ++ pins, p.1 ≠ b
theorem Inv.fpOk {X : Cx} {pins : List (Addr × Obj)} {σ : St} {H H' : Hp} {s : Shared} {b : Addr} (I : Inv X pins σ H s) (hb : s.heap.objs.size ≤ b) (hn : H' b = none) : FpOk X pins H' b := by
  refine ⟨hn, Nat.ne_of_gt (Nat.lt_of_lt_of_le I.lt hb), I.nofs hb, .inr (Nat.le_trans I.sz hb), fun x c e z => ?_, fun p hp z => ?_⟩
  · obtain ⟨v, q⟩ := I.cell x c e
    exact absurd (Nat.lt_of_lt_of_le q.lt (by rw [z]; exact hb)) (Nat.lt_irrefl _)
  · exact absurd (Nat.lt_of_lt_of_le (Heap.lt_size (I.pin p hp).1) (by rw [z]; exact hb)) (Nat.lt_irrefl _)
structure Turn (P : Program) (w : World) (K : PySem.W.Frag) (tg : Expr) (J : It) (fp : List Addr) (it : Addr) (tn : Nat → Heap → Prop) : Prop where
  mem : it ∈ fp
  obj : ∀ i h, tn i h → ∀ b ∈ fp, ∃ o, h.get? b = some o ∧ ∀ v, o.data ≠ .cell v
  keep : ∀ i h h', tn i h → (∀ b ∈ fp, ∀ o, h.get? b = some o → h'.get? b = some o) → tn i h'
  item : ∀ (X : Cx), X.prog = P → X.w = w → X.K = K → X.calm = true → ∀ (i : Nat) (pins : List (Addr × Obj)) (s : Shared) (σ : St) (H : Hp) (E : Value → Shared → Prop), Inv X pins σ H s → (∀ b ∈ fp, FpOk X pins H b) → tn i s.heap → J.go i H →
    wpAny (model P w) X.A (pyNext (.ref it)) (fun r s1 => ∃ u, r = some u ∧
      wpAny (model P w) X.A (letOwnedTupleGo tg (.ref it) u) (fun _ s2 => ∃ x H', Inv X pins σ H' s2 ∧ RelV x u ∧ J.yld i H x H' ∧ tn (i + 1) s2.heap ∧ ∀ b ∈ fp, H' b = none) E s1) E s
  done : ∀ (X : Cx), X.prog = P → X.w = w → X.K = K → X.calm = true → ∀ (i : Nat) (pins : List (Addr × Obj)) (s : Shared) (σ : St) (H : Hp) (E : Value → Shared → Prop), Inv X pins σ H s → (∀ b ∈ fp, FpOk X pins H b) → tn i s.heap → J.stop i H →
    wpAny (model P w) X.A (pyNext (.ref it)) (fun r s1 => r = none ∧ Inv X pins σ H s1) E s
  self : ∀ (A : Around) (i : Nat) (s : Shared) (Q : Value → Shared → Prop) (E : Value → Shared → Prop), tn i s.heap → Q (.ref it) s → wpAny (model P w) A (pyIter (.ref it)) Q E s
abbrev TI := St → Hp → (It → Hp → Prop) → Prop
def PIE (X : Cx) (pins : List (Addr × Obj)) (σ : St) (tg : Expr) (R : It → Hp → Prop) (itv : Value) (s2 : Shared) : Prop :=
  ∃ (it : Addr) (fp : List Addr) (tn : Nat → Heap → Prop) (J : It) (H' : Hp), itv = .ref it ∧ Inv X pins σ H' s2 ∧ Turn X.prog X.w X.K tg J fp it tn ∧ tn 0 s2.heap ∧ (∀ b ∈ fp, FpOk X pins H' b) ∧ R J H'
def PI (X : Cx) (tg iter : Expr) (wi : TI) : Prop :=
  ∀ (pins : List (Addr × Obj)) (s : Shared) (σ : St) (H : Hp) (R : It → Hp → Prop), Inv X pins σ H s → wi σ H R →
    wpAny (model X.prog X.w) X.A (eval iter X.env) (fun v s1 => wpAny (model X.prog X.w) X.A (pyIter v) (PIE X pins σ tg R) X.xe s1) X.xe s

theorem go_of {M : Model} {A : Around} {E : Value → Shared → Prop} {s : Shared} {tg : Expr} {it : Addr} {u : Value} {o : Obj} {n : String} {vs : Array Value} {Q : Unit → Shared → Prop} (ho : s.heap.get? it = some o) (hc : o.cls = .type n) (hd : o.data = .fields vs)
    (hn : ["enumerate", "zip", "dict_itemiterator", "dict_reverseitemiterator", "odict_iterator", "itertools.zip_longest", "itertools.pairwise"].contains n = false) (hQ : Q () s) : wpAny M A (letOwnedTupleGo tg (.ref it) u) Q E s := by
  unfold letOwnedTupleGo
  cases tg <;> first
    | exact wpAny_pure hQ
    | (cases u <;> first
        | exact wpAny_pure hQ
        | (refine wpAny_bind (wpAny_load ho ?_)
           rw [hc, hd]
           show wpAny M A (if (["enumerate", "zip", "dict_itemiterator", "dict_reverseitemiterator", "odict_iterator", "itertools.zip_longest", "itertools.pairwise"].contains n && vs[0]? == some (rawInt _)) = true then _ else _) Q E s
           rw [if_neg (by intro h; rw [hn, Bool.false_and] at h; cases h)]
           exact wpAny_pure hQ))

def Itl (K : PySem.W.Frag) (a : Addr) : It :=
  ⟨fun i H => ∃ xs x, SqL K H a xs ∧ xs[i]? = some x, fun i H x H' => H' = H ∧ ∀ xs, SqL K H a xs → xs[i]? = some x, fun i H => ∃ xs, SqL K H a xs ∧ xs.length ≤ i⟩
def Itr (lo : Int) (n : Nat) : It := ⟨fun i _ => i < n, fun i H x H' => H' = H ∧ x = .int (lo + i), fun i _ => n ≤ i⟩
theorem turn_list {P : Program} {w : World} {K : PySem.W.Frag} {tg : Expr} (a it : Addr) : Turn P w K tg (Itl K a) [it] it (fun i h => h.IsListIter it a i) where
  mem := by simp
  obj := fun i h st b hb => by
    have e : b = it := by simpa using hb
    subst e
    obtain ⟨o, e, c, d⟩ := st
    exact ⟨o, e, fun v z => by rw [d] at z; cases z⟩
  keep := fun i h h' st k => st.at fun o e => k it (by simp) o e
  item := by
    intro X hP hw hK hc i pins s σ H E I hf st hg
    subst hP hw hK
    obtain ⟨xs, x, hq, hx⟩ := hg
    obtain ⟨its, rv, p, hz⟩ := I.list hq
    obtain ⟨u, hu, ru⟩ := rv.get hx
    obtain ⟨f0, f1, f2, f3, f4, f5⟩ := hf it (by simp)
    refine wpAny_pyNext_list_item st p.isList (x := u) (by simpa using hu) fun h' st' sb => ?_
    have I1 : Inv X pins σ H { s with heap := h' } := I.turned (t' := s.toks) (fun b o hb e => (sb.2 b hb).trans e) f0 f1 f3 f4 f5
    obtain ⟨o, e, c, d⟩ := id st'
    exact ⟨u, rfl, go_of (s := { s with heap := h' }) e c d (by decide) ⟨x, H, I1, ru, ⟨rfl, fun ys hy => by rw [I.list_inj hy hq]; exact hx⟩, st', fun b hb => (hf b hb).1⟩⟩
  done := by
    intro X hP hw hK hc i pins s σ H E I hf st hg
    subst hP hw hK
    obtain ⟨xs, hq, hx⟩ := hg
    obtain ⟨its, rv, p, hz⟩ := I.list hq
    obtain ⟨f0, f1, f2, f3, f4, f5⟩ := hf it (by simp)
    have hl := rv.length
    exact wpAny_pyNext_list_end (I.ok.hd hc) st p.isList (by simp; omega) fun h' eb => ⟨rfl, I.turned (t' := s.toks) (fun b o hb e => eb b o hb e) f0 f1 f3 f4 f5⟩
  self := fun _ _ _ _ _ st h => wpAny_pyIter_listiter st h
theorem turn_range {P : Program} {w : World} {K : PySem.W.Frag} {tg : Expr} (it : Addr) (lo : Int) (n : Nat) : Turn P w K tg (Itr lo n) [it] it (fun i h => IsRangeIter h it (lo + (i : Nat) * 1) ((n : Int) - (i : Nat)) 1) where
  mem := by simp
  obj := fun i h st b hb => by
    have e : b = it := by simpa using hb
    subst e
    exact ⟨_, st, fun v z => by
      have z' : Data.fields _ = Data.cell v := z
      cases z'⟩
  keep := fun i h h' st k => k it (by simp) _ st
  item := by
    intro X hP hw hK hc i pins s σ H E I hf st hg
    subst hP hw hK
    obtain ⟨f0, f1, f2, f3, f4, f5⟩ := hf it (by simp)
    have W := Walks.range (prog := X.prog) (w := X.w) (I.ok.hd hc) it lo 1 n
    refine W.item i s _ _ hg st fun v h' tk hv st' kk => ?_
    obtain ⟨t, rfl⟩ := hv
    have I1 : Inv X pins σ H { s with heap := h', toks := tk } := I.turned (fun b o hb e => kk b o (by simpa using hb) e) f0 f1 f3 f4 f5
    refine ⟨_, rfl, go_of (s := { s with heap := h', toks := tk }) (n := "range_iterator") st' rfl rfl (by decide) ⟨.int (lo + i), H, I1, ⟨t, ?_⟩, ⟨rfl, rfl⟩, st', fun b hb => (hf b hb).1⟩⟩
    rw [Int.mul_one]
  done := by
    intro X hP hw hK hc i pins s σ H E I hf st hg
    subst hP hw hK
    obtain ⟨f0, f1, f2, f3, f4, f5⟩ := hf it (by simp)
    exact wpAny_pyNext_range_end (I.ok.hd hc) st (by have : n ≤ i := hg; omega) fun h' eb => ⟨rfl, I.turned (t' := s.toks) (fun b o hb e => eb b o hb e) f0 f1 f3 f4 f5⟩
  self := fun _ _ _ _ _ st h => wpAny_pyIter_rangeiter st h
end L2

namespace L2
open PySem PySem.Spec PyProof.Rows
section
variable {X : Cx} {tg : Expr}
def iList (K : PySem.W.Frag) (tl : TE) : TI := fun σ H R => tl σ H fun x H1 => ∃ a, x = .ref a ∧ (∃ xs, SqL K H1 a xs) ∧ R (Itl K a) H1
theorem pi_list {l : Expr} {tl : TE} (hl : PE X l tl) : PI X tg l (iList X.K tl) := by
  intro pins s σ H R I h
  refine thn (hl pins s σ H _ I h) fun v s1 ⟨x, H1, I1, r1, q1⟩ => ?_
  obtain ⟨a, e, ⟨xs, hq⟩, q⟩ := q1
  subst e
  cases r1
  obtain ⟨its, rv, p, hz⟩ := I1.list hq
  refine wpAny_pyIter_list p.isList ?_
  refine ⟨s1.heap.objs.size, [s1.heap.objs.size], _, _, H1, rfl, I1.kept (t' := s1.toks) fun b o e => Heap.get?_push_of_some _ e, turn_list a _, ⟨_, Heap.get?_push_size _ rfl, rfl, rfl⟩, fun b hb => ?_, q⟩
  have e : b = s1.heap.objs.size := by simpa using hb
  subst e
  exact I1.fpOk (Nat.le_refl _) (I1.hok.fresh (Nat.le_refl _))
theorem range_it {pins : List (Addr × Obj)} {σ : St} {H : Hp} {s : Shared} {R : It → Hp → Prop} {E : Value → Shared → Prop} {lo hi : Int} {t u v : Tok} {tk : Nat} (I : Inv X pins σ H s) (h1 : -(2 ^ 62) ≤ lo) (h2 : lo < 2 ^ 62) (h3 : -(2 ^ 62) ≤ hi) (h4 : hi < 2 ^ 62)
    (q : R (Itr lo (hi - lo).toNat) H) : wpAny (model X.prog X.w) X.A (pyIter (.ref s.heap.objs.size)) (PIE X pins σ tg R) E { s with heap := s.heap.push { cls := .type "range", data := .fields #[.int lo t, .int hi u, .int 1 v] }, toks := tk } := by
  refine wpAny_pyIter_range (IsRange.new ..) (small_one h1 h2 h3 h4) ?_
  have I1 : Inv X pins σ H { s with heap := s.heap.push { cls := .type "range", data := .fields #[.int lo t, .int hi u, .int 1 v] }, toks := tk } := I.kept fun b o e => Heap.get?_push_of_some _ e
  refine ⟨(s.heap.push { cls := .type "range", data := .fields #[.int lo t, .int hi u, .int 1 v] }).objs.size, [(s.heap.push { cls := .type "range", data := .fields #[.int lo t, .int hi u, .int 1 v] }).objs.size], _, _, H, rfl,
    I1.kept (t' := tk) fun b o e => Heap.get?_push_of_some _ e, turn_range _ lo (hi - lo).toNat, ?_, fun b hb => ?_, q⟩
  · have e1 : lo + ((0 : Nat) : Int) * 1 = lo := by simp
    have e2 : (((hi - lo).toNat : Nat) : Int) - ((0 : Nat) : Int) = Builtin.Range.rangeSize lo hi 1 := by rw [rangeSize_one]; split <;> omega
    show IsRangeIter _ _ (lo + ((0 : Nat) : Int) * 1) ((((hi - lo).toNat : Nat) : Int) - ((0 : Nat) : Int)) 1
    rw [e1, e2]
    exact Heap.get?_push_size _ rfl
  · have e : b = (s.heap.push { cls := .type "range", data := .fields #[.int lo t, .int hi u, .int 1 v] }).objs.size := by simpa using hb
    subst e
    exact I1.fpOk (Nat.le_refl _) (I1.hok.fresh (Nat.le_refl _))
def iRng1 (ta : TA) : TI := fun σ H R => ta σ H fun vs H1 => ∃ j : Int, vs = [.int j] ∧ -(2 ^ 62) ≤ j ∧ j < 2 ^ 62 ∧ R (Itr 0 j.toNat) H1
theorem pi_range1 {a : Expr} {ta : TA} {p pos : Pos} (hg : Gl X "range") (hm : X.mg "range" = none) (ha : PA X [a] ta) (hs : starEach [a] X.env = [(false, eval a X.env)] := by rfl) : PI X tg (.Call (.Name "range" p) [a] [] pos) (iRng1 ta) := by
  intro pins s σ H R I h
  refine Call_ (ld_blt I hg hm boot_range (PyProof.Rows.callWith_type1 (thn (ha pos pins s σ H _ I h) fun us s1 ⟨vs, H1, I1, r1, q1⟩ => ?_) hs rfl))
  obtain ⟨j, e, q1, q2, q⟩ := q1
  subst e
  cases r1 with
  | cons r rr =>
    cases rr
    obtain ⟨t, rfl⟩ := r
    exact call_range_1 (range_it I1 (by omega) (by omega) q1 q2 (by simpa using q))
def tFor (wi : TI) (g : TG) (tb : TS) : TS := fun D σ H => wi σ H fun J H1 => ∃ W : Nat → Nat → St → Hp → Prop, (∃ m, W 0 m σ H1) ∧ ∀ i m σ H, W i m σ H →
  (J.stop i H ∧ D.nx σ H) ∨ (J.go i H ∧ ∃ N : St → Hp → Prop, (∀ σ' H', N σ' H' → ∃ m', m' < m ∧ W (i + 1) m' σ' H') ∧ ∀ x H', J.yld i H x H' → g x σ H' fun σ2 H2 => tb { D with nx := N, ct := N, bk := D.nx } σ2 H2)
def pinsAt (fp : List Addr) (h : Heap) : List (Addr × Obj) := fp.filterMap fun b => (h.get? b).map fun o => (b, o)
theorem mem_pinsAt {fp : List Addr} {h : Heap} {b : Addr} {o : Obj} (hb : b ∈ fp) (e : h.get? b = some o) : (b, o) ∈ pinsAt fp h := List.mem_filterMap.mpr ⟨b, hb, by rw [e]; rfl⟩
theorem of_pinsAt {fp : List Addr} {h : Heap} {p : Addr × Obj} (hp : p ∈ pinsAt fp h) : p.1 ∈ fp ∧ h.get? p.1 = some p.2 := by
  obtain ⟨b, hb, e⟩ := List.mem_filterMap.mp hp
  cases q : h.get? b with
  | none => rw [q] at e; cases e
  | some o =>
    rw [q] at e
    have e' : (b, o) = p := Option.some.inj e
    subst e'
    exact ⟨hb, q⟩
theorem Inv.pinned {pins : List (Addr × Obj)} {σ : St} {H : Hp} {s : Shared} {fp : List Addr} (I : Inv X pins σ H s) (hf : ∀ b ∈ fp, FpOk X pins H b) (ho : ∀ b ∈ fp, ∃ o, s.heap.get? b = some o ∧ ∀ v, o.data ≠ .cell v) : Inv X (pins ++ pinsAt fp s.heap) σ H s :=
  I.pins_of fun p hp => (List.mem_append.mp hp).elim (fun z => I.pin p (List.mem_append_right _ z)) fun z => by
    obtain ⟨hb, e⟩ := of_pinsAt z
    obtain ⟨f0, f1, f2, _⟩ := hf p.1 hb
    obtain ⟨o, e', d⟩ := ho p.1 hb
    rw [e] at e'; cases e'
    exact ⟨e, f0, f1, f2, d⟩
theorem Inv.unpinned {pins pl : List (Addr × Obj)} {σ : St} {H : Hp} {s : Shared} (I : Inv X (pins ++ pl) σ H s) : Inv X pins σ H s := I.pins_of fun p hp => I.pin p (List.mem_append_right _ (List.mem_append_left _ hp))
theorem ps_for {iter : Expr} {body : List Stmt} {wi : TI} {g : TG} {tb : TS} {pos : Pos} (hp : PassesOwn (model X.prog X.w) X.A X.env X.xe) (hc : X.calm = true) (hi : PI X tg iter wi) (hg : PG X tg g) (hb : PSs X body tb)
    (hs : ∀ x, foldedSetIterable iter X.env x = pure x := by intro _; rfl) : PS X (.For tg iter body [] pos) (tFor wi g tb) := by
  intro pins s σ H D I h
  refine wpAny_For (thn (hi pins s σ H _ I h) fun v s1 h1 => thn h1 fun itv s2 h2 => ?_) hs
  obtain ⟨it, fp, tn, J, H2, e, I2, T, st2, f2, W, ⟨m0, w0⟩, turn⟩ := h2
  subst e
  -- what stays true of the iterator's objects through the loop
  have stat : ∀ {H' : Hp}, (∀ b ∈ fp, H' b = none) → ∀ b ∈ fp, FpOk X pins H' b := fun hn b hb => ⟨hn b hb, (f2 b hb).2⟩
  refine codeAny_forLoop_any (fun n s' => ∃ i σ' H', Inv X pins σ' H' s' ∧ tn i s'.heap ∧ (∀ b ∈ fp, H' b = none) ∧ W i n σ' H') ?_ m0 ⟨0, σ, H2, I2, st2, fun b hb => (f2 b hb).1, w0⟩
  rintro n s3 ⟨i, σ3, H3, I3, st3, fr3, w3⟩
  rcases turn i n σ3 H3 w3 with ⟨stop, qn⟩ | ⟨go, N, hN, step⟩
  · refine wpAny_passesOwn hp (thn (T.done X rfl rfl rfl hc i pins s3 σ3 H3 X.xe I3 (stat fr3) st3 stop) fun r s4 ⟨hr, I4⟩ => ?_)
    subst hr
    exact wpAny_execs_nil ⟨σ3, H3, I4, qn⟩
  · refine wpAny_passesOwn hp (thn (T.item X rfl rfl rfl hc i pins s3 σ3 H3 X.xe I3 (stat fr3) st3 go) fun r s4 ⟨u, hr, h4⟩ => ?_)
    subst hr
    refine wpAny_passesOwn hp (thn h4 fun _ s5 ⟨x, H5, I5, r5, y5, st5, fr5⟩ => ?_)
    have I5' := I5.pinned (stat fr5) (T.obj _ _ st5)
    refine wpAny_passesOwn hp (thn (hg _ s5 σ3 H5 x u _ I5' r5 (step x H5 y5)) fun _ s6 ⟨σ6, H6, I6, q6⟩ => ?_)
    refine wpAny_passesOwn hp (thn (hb _ s6 σ6 H6 _ I6 q6) fun f s7 q7 => ?_)
    have again : ∀ {σ7 : St} {H7 : Hp}, Inv X (pins ++ pinsAt fp s5.heap) σ7 H7 s7 → N σ7 H7 → ∃ m, m < n ∧ ∃ i σ' H', Inv X pins σ' H' s7 ∧ tn i s7.heap ∧ (∀ b ∈ fp, H' b = none) ∧ W i m σ' H' := fun {σ7 H7} I7 n7 => by
      obtain ⟨m', hm, w7⟩ := hN σ7 H7 n7
      refine ⟨m', hm, i + 1, σ7, H7, I7.unpinned, T.keep _ _ _ st5 fun b hb o e => (I7.pin (b, o) (List.mem_append_right _ (List.mem_append_right _ (mem_pinsAt hb e)))).1, fun b hb => ?_, w7⟩
      obtain ⟨o, e, d⟩ := T.obj _ _ st5 b hb
      exact (I7.pin (b, o) (List.mem_append_right _ (List.mem_append_right _ (mem_pinsAt hb e)))).2.1
    cases f with
    | next => obtain ⟨σ7, H7, I7, n7⟩ := q7; exact again I7 n7
    | cont => obtain ⟨σ7, H7, I7, n7⟩ := q7; exact again I7 n7
    | brk => obtain ⟨σ7, H7, I7, q7⟩ := q7; exact ⟨σ7, H7, I7.unpinned, q7⟩
    | ret v => obtain ⟨x7, σ7, H7, I7, r7, q7⟩ := q7; exact ⟨x7, σ7, H7, I7.unpinned, r7, q7⟩
end

end L2

namespace L2
open PySem PySem.Spec PyProof.Rows

abbrev R2 := V → V → Hp → VK → Prop
def OpR (X : Cx) (f : Value → Value → Sem Value) (r : R2) : Prop :=
  ∀ (pins : List (Addr × Obj)) (s : Shared) (σ : St) (H : Hp) (x y : V) (v u : Value) (Q : VK), Inv X pins σ H s → RelV x v → RelV y u → r x y H Q →
    wpAny (model X.prog X.w) X.A (f v u) (EP X pins σ Q) X.xe s
def UnR (X : Cx) (f : Value → Sem Value) (r : V → Hp → VK → Prop) : Prop :=
  ∀ (pins : List (Addr × Obj)) (s : Shared) (σ : St) (H : Hp) (x : V) (v : Value) (Q : VK), Inv X pins σ H s → RelV x v → r x H Q →
    wpAny (model X.prog X.w) X.A (f v) (EP X pins σ Q) X.xe s
def CallR (X : Cx) (f : Value) (r : List V → Hp → VK → Prop) : Prop :=
  ∀ (pins : List (Addr × Obj)) (s : Shared) (σ : St) (H : Hp) (xs : List V) (us : List Value) (Q : VK), Inv X pins σ H s → Vals xs us → r xs H Q →
    wpAny (model X.prog X.w) X.A (call f us) (EP X pins σ Q) X.xe s
def tOp (r : R2) (ta tb : TE) : TE := fun σ H Q => ta σ H fun x H1 => tb σ H1 fun y H2 => r x y H2 Q
def tUn (r : V → Hp → VK → Prop) (ta : TE) : TE := fun σ H Q => ta σ H fun x H1 => r x H1 Q
def rI (C : Int → Int → Prop) (g : Int → Int → V) : R2 := fun x y H Q => ∃ i j, x = .int i ∧ y = .int j ∧ C i j ∧ Q (g i j) H
def rI0 (g : Int → Int → V) : R2 := fun x y H Q => ∃ i j, x = .int i ∧ y = .int j ∧ Q (g i j) H
def rU (g : Int → V) : V → Hp → VK → Prop := fun x H Q => ∃ i, x = .int i ∧ Q (g i) H

section
variable {X : Cx} {a b c : Expr} {ta tb tc : TE} {pos : Pos}

theorem binT (ha : PE X a ta) (hb : PE X b tb) {pins : List (Addr × Obj)} {s : Shared} {σ : St} {H : Hp} {R : V → V → Hp → Prop} (I : Inv X pins σ H s)
    (h : ta σ H fun x H1 => tb σ H1 fun y H2 => R x y H2) {Q : Value → Shared → Prop} {f : Value → Value → Sem Value}
    (hf : ∀ v u s2 x y H2, Inv X pins σ H2 s2 → RelV x v → RelV y u → R x y H2 → wpAny (model X.prog X.w) X.A (f v u) Q X.xe s2) :
    wpAny (model X.prog X.w) X.A (eval a X.env) (fun v s₁ => wpAny (model X.prog X.w) X.A (eval b X.env) (fun u s₂ => wpAny (model X.prog X.w) X.A (f v u) Q X.xe s₂) X.xe s₁) X.xe s := by
  refine thn (ha pins s σ H _ I h) fun v s1 ⟨x, H1, I1, r1, q1⟩ => ?_
  refine thn (hb pins s1 σ H1 _ I1 q1) fun u s2 ⟨y, H2, I2, r2, q2⟩ => ?_
  exact hf v u s2 x y H2 I2 r1 r2 q2

theorem pe_op {op : Operator} {r : R2} (ho : OpR X (binaryOp op) r) (ha : PE X a ta) (hb : PE X b tb) : PE X (.BinOp a op b pos) (tOp r ta tb) := by
  intro pins s σ H Q I h
  exact wpAny_BinOp (binT ha hb I h fun v u s2 x y H2 I2 rx ry q => ho pins s2 σ H2 x y v u Q I2 rx ry q)
theorem pe_un {op : UnaryOp} {r : V → Hp → VK → Prop} (ho : UnR X (unaryOp op) r) (ha : PE X a ta) : PE X (.UnaryOp op a pos) (tUn r ta) := by
  intro pins s σ H Q I h
  exact UnaryOp_ (thn (ha pins s σ H _ I h) fun v s1 ⟨x, H1, I1, r1, q1⟩ => ho pins s1 σ H1 x v Q I1 r1 q1)
theorem opI {f : Value → Value → Sem Value} {C : Int → Int → Prop} {g : Int → Int → Int}
    (rule : ∀ (i j : Int) (t u : Tok) (s : Shared) (Q : Value → Shared → Prop) (E : Value → Shared → Prop), C i j → Q (.int (g i j) s.toks) { s with toks := s.toks + 1 } → wpAny (model X.prog X.w) X.A (f (.int i t) (.int j u)) Q E s) :
    OpR X f (rI C fun i j => .int (g i j)) := by
  intro pins s σ H x y v u Q I rx ry h
  obtain ⟨i, j, rfl, rfl, hc, q⟩ := h
  obtain ⟨t, rfl⟩ := rx
  obtain ⟨t', rfl⟩ := ry
  exact rule i j t t' s _ _ hc ⟨.int (g i j), H, I.tok _, ⟨_, rfl⟩, q⟩
theorem opI0 {f : Value → Value → Sem Value} {g : Int → Int → Int}
    (rule : ∀ (i j : Int) (t u : Tok) (s : Shared) (Q : Value → Shared → Prop) (E : Value → Shared → Prop), Q (.int (g i j) s.toks) { s with toks := s.toks + 1 } → wpAny (model X.prog X.w) X.A (f (.int i t) (.int j u)) Q E s) :
    OpR X f (rI0 fun i j => .int (g i j)) := by
  intro pins s σ H x y v u Q I rx ry h
  obtain ⟨i, j, rfl, rfl, q⟩ := h
  obtain ⟨t, rfl⟩ := rx
  obtain ⟨t', rfl⟩ := ry
  exact rule i j t t' s _ _ ⟨.int (g i j), H, I.tok _, ⟨_, rfl⟩, q⟩
theorem opB0 {f : Value → Value → Sem Value} {g : Int → Int → Bool}
    (rule : ∀ (i j : Int) (t u : Tok) (s : Shared) (Q : Value → Shared → Prop) (E : Value → Shared → Prop), Q (.bool (g i j)) s → wpAny (model X.prog X.w) X.A (f (.int i t) (.int j u)) Q E s) :
    OpR X f (rI0 fun i j => .bl (g i j)) := by
  intro pins s σ H x y v u Q I rx ry h
  obtain ⟨i, j, rfl, rfl, q⟩ := h
  obtain ⟨t, rfl⟩ := rx
  obtain ⟨t', rfl⟩ := ry
  exact rule i j t t' s _ _ ⟨.bl (g i j), H, I, rfl, q⟩

def CDiv (i j : Int) : Prop := 0 < j ∧ j < 1073741824
def CPow (i j : Int) : Prop := 0 ≤ j ∧ j ≤ 1000000 ∧ i.natAbs < 2 ^ 64
def CMul (i j : Int) : Prop := (-(2 ^ 64) < i ∧ i < 2 ^ 64) ∨ (-(2 ^ 64) < j ∧ j < 2 ^ 64)
theorem CMul.ok {i j : Int} (h : CMul i j) : IntMulOk i j := by
  rcases h with ⟨h1, h2⟩ | ⟨h1, h2⟩
  · exact .of_left (intBits_le_64 h1 h2)
  · exact .of_right (intBits_le_64 h1 h2)
theorem op_add : OpR X (binaryOp .Add) (rI0 fun i j => .int (i + j)) := opI0 fun _ _ _ _ _ _ _ q => add_int q
theorem op_sub : OpR X (binaryOp .Sub) (rI0 fun i j => .int (i - j)) := opI0 fun _ _ _ _ _ _ _ q => sub_int q
theorem op_mul : OpR X (binaryOp .Mult) (rI CMul fun i j => .int (i * j)) := opI fun _ _ _ _ _ _ _ hc q => mul_int q hc.ok
theorem op_fdiv : OpR X (binaryOp .FloorDiv) (rI CDiv fun i j => .int (i / j)) := opI fun i j _ _ _ _ _ hc q => by
  have h1 : (0 : Int) < j := hc.1
  have h2 : j < 1073741824 := hc.2
  exact floordiv_int (by omega) (by rw [Int.fdiv_eq_ediv_of_nonneg i (by omega)]; exact q) (.inl (PyProof.noPylong_small (by omega)))
theorem op_mod : OpR X (binaryOp .Mod) (rI (fun _ j => 0 < j) fun i j => .int (i % j)) := opI fun i j _ _ _ _ _ hc q => by
  have h1 : (0 : Int) < j := hc
  exact mod_int' (by omega) (by rw [Int.fmod_eq_emod_of_nonneg i (by omega)]; exact q)
theorem op_pow : OpR X (binaryOp .Pow) (rI CPow fun i j => .int (i ^ j.toNat)) := opI fun _ _ _ _ _ _ _ hc q => pow_int_small hc.1 hc.2.1 hc.2.2 q
theorem unI {f : Value → Sem Value} {g : Int → Int}
    (rule : ∀ (i : Int) (t : Tok) (s : Shared) (Q : Value → Shared → Prop) (E : Value → Shared → Prop), Q (.int (g i) s.toks) { s with toks := s.toks + 1 } → wpAny (model X.prog X.w) X.A (f (.int i t)) Q E s) :
    UnR X f (rU fun i => .int (g i)) := by
  intro pins s σ H x v Q I rx h
  obtain ⟨i, rfl, q⟩ := h
  obtain ⟨t, rfl⟩ := rx
  exact rule i t s _ _ ⟨.int (g i), H, I.tok _, ⟨_, rfl⟩, q⟩
theorem un_neg : UnR X (unaryOp .USub) (rU fun i => .int (-i)) := unI fun _ _ _ _ _ q => neg_int q
end

section
variable {X : Cx} {a b c : Expr} {ta tb tc : TE} {pos : Pos}
theorem op_lt : OpR X (compareOp .Lt) (rI0 fun i j => .bl (decide (i < j))) := opB0 fun _ _ _ _ _ _ _ q => lt_int q
theorem op_gt : OpR X (compareOp .Gt) (rI0 fun i j => .bl (decide (j < i))) := opB0 fun _ _ _ _ _ _ _ q => gt_int q
theorem OpR.or {f : Value → Value → Sem Value} {r r' : R2} (h : OpR X f r) (h' : OpR X f r') : OpR X f (fun x y H Q => r x y H Q ∨ r' x y H Q) := by
  intro pins s σ H x y v u Q I rx ry q
  rcases q with q | q
  · exact h pins s σ H x y v u Q I rx ry q
  · exact h' pins s σ H x y v u Q I rx ry q

theorem nomark (b : Expr) {op : CmpOp} (h : op ≠ .In := by decide) (h2 : op ≠ .NotIn := by decide) : behindInMarks op b = false := by
  have e1 : (op == CmpOp.In) = false := by cases op <;> first | rfl | exact absurd rfl h
  have e2 : (op == CmpOp.NotIn) = false := by cases op <;> first | rfl | exact absurd rfl h2
  cases b <;> simp [behindInMarks, e1, e2]
theorem pe_cmpR {op : CmpOp} {r : R2} (ho : OpR X (compareOp op) r) (ha : PE X a ta) (hb : PE X b tb) (hm : behindInMarks op b = false) : PE X (.Compare a [op] [b] pos) (tOp r ta tb) := by
  intro pins s σ H Q I h
  exact wpAny_Compare1 (binT ha hb I h fun v u s2 x y H2 I2 rx ry q => ho pins s2 σ H2 x y v u Q I2 rx ry q) hm
def tTest (t : TE) : TT := fun σ H Q => t σ H fun x H' => ∃ k, x = .bl k ∧ Q k H'
theorem pt_cmpR {op : CmpOp} {r : R2} (ho : OpR X (compareOp op) r) (ha : PE X a ta) (hb : PE X b tb) (hm : behindInMarks op b = false) : PT X (.Compare a [op] [b] pos) (tTest (tOp r ta tb)) := by
  intro pins s σ H Q I h
  refine wpAny_isTrue_Compare1 (thn (ha pins s σ H _ I h) fun v s1 ⟨x, H1, I1, r1, q1⟩ => thn (hb pins s1 σ H1 _ I1 q1) fun u s2 ⟨y, H2, I2, r2, q2⟩ =>
    thn (ho pins s2 σ H2 x y v u _ I2 r1 r2 q2) fun c s3 ⟨z, H3, I3, r3, k, e, q3⟩ => ?_) hm
  subst e
  cases r3
  exact wpAny_truthy_bool ⟨H3, I3, q3⟩
theorem line63 : (sizeLine : Nat) < 2 ^ 63 := by rw [sizeLine_eq]; decide
theorem vals1 {x : V} {us : List Value} (r : Vals [x] us) : ∃ u, us = [u] ∧ RelV x u := by
  cases r with
  | cons r1 r2 => cases r2; exact ⟨_, rfl, r1⟩
theorem vals2 {x y : V} {us : List Value} (r : Vals [x, y] us) : ∃ u w', us = [u, w'] ∧ RelV x u ∧ RelV y w' := by
  cases r with
  | cons r1 r2 =>
    cases r2 with
    | cons r3 r4 => cases r4; exact ⟨_, _, rfl, r1, r3⟩
theorem call_abs : CallR X (.builtin "abs") (fun xs H Q => ∃ i, xs = [.int i] ∧ Q (.int (if i < 0 then -i else i)) H) := by
  intro pins s σ H xs us Q I r h
  obtain ⟨i, rfl, q⟩ := h
  obtain ⟨u, rfl, t, rfl⟩ := vals1 r
  exact call_abs_int fun u tk => ⟨.int (if i < 0 then -i else i), H, I.tok _, ⟨_, rfl⟩, q⟩
theorem call_max2 (hc : X.calm = true) : CallR X (.builtin "max") (fun xs H Q => ∃ i j, xs = [.int i, .int j] ∧ Q (.int (if j > i then j else i)) H) := by
  intro pins s σ H xs us Q I r h
  obtain ⟨i, j, rfl, q⟩ := h
  obtain ⟨u, w', rfl, ⟨t, rfl⟩, ⟨t', rfl⟩⟩ := vals2 r
  refine max_two_ints (I.ok.hd hc) fun h' tk k => ⟨_, H, I.kept k, ?_, q⟩
  by_cases hj : j > i
  · rw [if_pos hj, if_pos hj]; exact ⟨_, rfl⟩
  · rw [if_neg hj, if_neg hj]; exact ⟨_, rfl⟩
def LenV (K : PySem.W.Frag) (x : V) (H : Hp) (n : Nat) : Prop :=
  match x with
  | .str y => y.length ≤ sizeLine ∧ n = y.length
  | .byt y => y.size ≤ sizeLine ∧ n = y.size
  | .ref p => (∃ xs, SqL K H p xs ∧ n = xs.length) ∨ ∃ xs, SqT K H p xs ∧ n = xs.length
  | _ => False
theorem call_len : CallR X (.builtin "len") (fun xs H Q => ∃ x n, xs = [x] ∧ LenV X.K x H n ∧ Q (.int n) H) := by
  intro pins s σ H xs us Q I r h
  obtain ⟨x, n, rfl, e, q⟩ := h
  obtain ⟨u, rfl, rx⟩ := vals1 r
  have hl := line63
  have hs : sizeLine = 16777216 := sizeLine_eq
  cases x with
  | str y =>
    obtain ⟨t, rfl⟩ := rx
    obtain ⟨hy, e'⟩ : y.length ≤ sizeLine ∧ n = y.length := e
    subst e'
    exact len_str (by omega) ⟨.int _, H, I.tok _, ⟨_, rfl⟩, q⟩
  | byt y =>
    obtain ⟨t, rfl⟩ := rx
    obtain ⟨hy, e'⟩ : y.size ≤ sizeLine ∧ n = y.size := e
    subst e'
    exact PySem.W.len_bytes (by omega) ⟨.int _, H, I.tok _, ⟨_, rfl⟩, q⟩
  | ref p =>
    cases rx
    have e' : (∃ xs, SqL X.K H p xs ∧ n = xs.length) ∨ ∃ xs, SqT X.K H p xs ∧ n = xs.length := e
    rcases e' with ⟨xs, hx, e'⟩ | ⟨xs, hx, e'⟩
    · subst e'
      obtain ⟨its, r', pl, hz⟩ := I.list hx
      have hlen := r'.length
      exact Calls.call_len_list pl.isList (by simp only [List.size_toArray]; omega) ⟨.int xs.length, H, I.tok _, ⟨_, by simp only [List.size_toArray]; rw [hlen]⟩, q⟩
    · subst e'
      obtain ⟨its, r', pl, hz⟩ := I.tuple hx
      have hlen := r'.length
      exact len_tuple pl (by simp only [List.size_toArray]; omega) ⟨.int xs.length, H, I.tok _, ⟨_, by simp only [List.size_toArray]; rw [hlen]⟩, q⟩
  | _ => exact (show False from e).elim
end
end L2

namespace L2
open PySem PySem.Spec PyProof.Rows

structure ObjM (h : Heap) (x dx C : Addr) (mA : Str → Option Value) : Prop where
  obj : h.get? x = some (PySem.W.instObj C dx)
  ns : h.Ns1 dx mA
  ne : dx ≠ x

theorem lookIn_ns {h : Heap} {dx : Addr} {mA : Str → Option Value} (n : h.Ns1 dx mA) : ∃ od, h.get? dx = some od ∧ ∀ name, PySem.W.lookIn name od = some (mA name) := by
  obtain ⟨o, es, ep, ho, hd, hk, _, hm⟩ := n
  refine ⟨o, ho, fun name => ?_⟩
  have e := hm name
  unfold nsFind findBy at e
  rw [← Array.find?_toList] at e
  unfold PySem.W.lookIn
  rw [hd]
  dsimp only
  split
  · rename_i y q
    rw [q] at e
    exact congrArg some e
  · rename_i q
    rw [q] at e
    have a : es.toList.any (·.refKey) = false := by
      rw [List.any_eq_false]
      intro y hy
      obtain ⟨z, t, hkey⟩ := hk y (Array.mem_toList_iff.mp hy)
      simp [DictEntry.refKey, hkey]
    have a' : ¬ es.toList.any (·.refKey) = true := by rw [a]; exact Bool.false_ne_true
    rw [if_neg a']
    exact congrArg some e

theorem ObjM.look {h : Heap} {x dx C : Addr} {mA : Str → Option Value} (I : ObjM h x dx C mA) : ∃ od, PySem.W.InstAt h x (PySem.W.instObj C dx) C (some od) ∧ ∀ name, PySem.W.lookIn name od = some (mA name) :=
  let ⟨od, ho, hl⟩ := lookIn_ns I.ns
  ⟨od, ⟨I.obj, rfl, rfl, ho⟩, hl⟩

section
variable {prog : Program} {w : World} {A : Around} {E : Value → Shared → Prop} {s : Shared} {K : PySem.W.Frag} {x dx C f : Addr} {mA : Str → Option Value} {name : Str} {v : Value}

end

section
variable {P : Program} {w : World} {H H' : Hp} {h h' : Heap} {a C dx : Addr} {fs fs' : List (Str × V)}
theorem ins_get (hok : HOk P w H h) (e : H a = some (.ins C dx fs)) : ∃ mA, ObjM h a dx C mA ∧ (∀ f, RelO (fs.lookup f) (mA f)) ∧ PySem.Within mA (fs.map (·.1)) ∧ fs.length ≤ 1000 ∧ H dx = some (.own a) := by
  obtain ⟨d, z, ne, ob, mA, n, r, q⟩ := (show ObjOk P w H h a (.ins C dx fs) from hok a _ e)
  exact ⟨mA, ⟨ob, n, ne⟩, r, q, z, d⟩
end

structure Cls (K : PySem.W.Frag) (C : Addr) : Prop where
  pg : PySem.W.plainGet K C Str.empty = true
  hd : PySem.W.hasDictIn K C = true
  po : PySem.W.plainOver K C = true
  sa : PySem.W.findIn K (.ref C) "__setattr__" = some (some (.builtin "object.__setattr__"))
theorem Cls.get {K : PySem.W.Frag} {C : Addr} (c : Cls K C) (f : Str) : PySem.W.plainGet K C f = true := c.pg
structure Con (K : PySem.W.Frag) (C : Addr) (f : Str) (v : V) (u : Value) : Prop where
  at_ : PySem.W.findIn K (.ref C) f = some (some u)
  rel : RelV v u
  get : PySem.W.specialIn K u "__get__" = some none
  cp : PySem.W.copiedNames.contains f = false
structure Meth (K : PySem.W.Frag) (C : Addr) (m : Str) (f : Addr) : Prop where
  at_ : PySem.W.findIn K (.ref C) m = some (some (.ref f))
  fn : PySem.W.isFn K (.ref f) = true
  kp : PySem.W.keepIn K (.ref f) = true

section
variable {X : Cx} {pins : List (Addr × Obj)} {σ : St} {H : Hp} {s : Shared} {a C dx : Addr} {fs : List (Str × V)} {f : Str} {v : V} {A : Around} {E : Value → Shared → Prop}

theorem Inv.made (I : Inv X pins σ H s) : Inv X pins σ (upd (upd H s.heap.objs.size (.own (s.heap.objs.size + 1))) (s.heap.objs.size + 1) (.ins C s.heap.objs.size []))
    { s with heap := (s.heap.push PySem.W.emptyDict).push (PySem.W.instObj C s.heap.objs.size) } := by
  have e1 : (s.heap.push PySem.W.emptyDict).get? s.heap.objs.size = some PySem.W.emptyDict := Heap.get?_push_size s.heap rfl
  have e2 : ((s.heap.push PySem.W.emptyDict).push (PySem.W.instObj C s.heap.objs.size)).get? (s.heap.objs.size + 1) = some (PySem.W.instObj C s.heap.objs.size) := by
    have := Heap.get?_push_size (s.heap.push PySem.W.emptyDict) (o := PySem.W.instObj C s.heap.objs.size) rfl
    rwa [Heap.size_push] at this
  have e3 : (s.heap.push PySem.W.emptyDict).Ns s.heap.objs.size (fun _ => none) := ⟨PySem.W.emptyDict, #[], _, e1, rfl, (fun e he => absurd he (by simp)), fun _ => rfl⟩
  have I1 := I.laid (a := s.heap.objs.size) (o := .own (s.heap.objs.size + 1)) (h' := s.heap.push PySem.W.emptyDict) (t' := s.toks) (fun b u q => Heap.get?_push_of_some _ q) (Nat.le_refl _) ⟨_, e1⟩
  refine I1.laid (a := s.heap.objs.size + 1) (o := .ins C s.heap.objs.size []) (t' := s.toks) (fun b u q => Heap.get?_push_of_some _ q) (Nat.le_of_eq (Heap.size_push _ _)) ?_
  have ne : s.heap.objs.size ≠ s.heap.objs.size + 1 := Nat.ne_of_lt (Nat.lt_succ_self _)
  refine ⟨by rw [upd_ne ne, upd_same], Nat.zero_le _, ne, e2, fun _ => none, (Heap.Ns1.of_empty e3).at fun o q => Heap.get?_push_of_some _ q, fun _ => True.intro, fun y hy => absurd rfl hy⟩

end

section
variable {X : Cx} {o e value : Expr} {f : Str} {pos pos' tpos : Pos} {ta tv : TE}
end

section
variable {X : Cx} {pins : List (Addr × Obj)} {σ : St} {H : Hp} {s : Shared} {A : Around} {E : Value → Shared → Prop} {Q : Value → Shared → Prop} {c : Value} {b : Bool}
inductive TyOf (K : PySem.W.Frag) (H : Hp) : V → Value → Prop where
  | non : TyOf K H .non (.type "NoneType")
  | bl (x : Bool) : TyOf K H (.bl x) (.type "bool")
  | int (i : Int) : TyOf K H (.int i) (.type "int")
  | str (x : Str) : TyOf K H (.str x) (.type "str")
  | flt (x : UInt64) : TyOf K H (.flt x) (.type "float")
  | lst {a : Addr} {xs : List V} (e : H a = some (.lst xs)) : TyOf K H (.ref a) (.type "list")
  | frz {a : Addr} {o : Obj} {xs : List V} (e : H a = some (.frz o (.lst xs))) : TyOf K H (.ref a) (.type "list")
  | tup {a : Addr} {xs : List V} (e : H a = some (.tup xs)) : TyOf K H (.ref a) (.type "tuple")
  | dK {a : Addr} {kvs : List (Key × V)} (e : H a = some (.dK kvs)) : TyOf K H (.ref a) (.type "dict")
  | dT {a : Addr} {kvs : List (List Key × V)} (e : H a = some (.dT kvs)) : TyOf K H (.ref a) (.type "dict")
  | ins {a C dx : Addr} {fs : List (Str × V)} (e : H a = some (.ins C dx fs)) (cl : Cls K C) (ha : PySem.W.findIn K (.ref C) "__class__" = some (some (.builtin "object.__class__")))
      (hn : PySem.W.specialIn K (.builtin "object.__class__") "__get__" = some (some (.builtin "getset_descriptor.__get__"))) (htk : PySem.W.takesIn K (.builtin "object.__class__") = some true)
      (hm : PySem.W.mroIn K C (.type "object") = some true) : TyOf K H (.ref a) (.ref C)
theorem isinst_ok {x : V} {u t : Value} (I : Inv X pins σ H s) (rx : RelV x u) (ty : TyOf X.K H x t) (e : PySem.W.kitOne X.K t c = some b) (h : ∀ tk, Q (.bool b) { s with toks := tk }) :
    wpAny (model X.prog X.w) A (call (.builtin "isinstance") [u, c]) Q E s := by
  cases ty with
  | non => cases (show u = Value.none from rx); exact PySem.W.kia_one PySem.W.kitx_none I.kIn True.intro e (fun z => nomatch z) h
  | bl y => cases (show u = Value.bool y from rx); exact PySem.W.kia_one PySem.W.kitx_bool I.kIn True.intro e (fun z => nomatch z) h
  | int i => obtain ⟨t, q⟩ := (show ∃ t, u = Value.int i t from rx); cases q; exact PySem.W.kia_one PySem.W.kitx_int I.kIn True.intro e (fun z => nomatch z) h
  | str y => obtain ⟨t, q⟩ := (show ∃ t, u = Value.str y t from rx); cases q; exact PySem.W.kia_one PySem.W.kitx_str I.kIn True.intro e (fun z => nomatch z) h
  | flt y => obtain ⟨t, q⟩ := (show ∃ t, u = Value.float y t from rx); cases q; exact PySem.W.kia_one PySem.W.kitx_float I.kIn True.intro e (fun z => nomatch z) h
  | @lst a xs ea =>
    cases (show u = Value.ref a from rx)
    obtain ⟨_, _, n, _, h1⟩ := (show ObjOk X.prog X.w H s.heap a (.lst xs) from I.hok a _ ea)
    exact PySem.W.kia_one PySem.W.kitx_list I.kIn ⟨_, h1, rfl⟩ e (fun z => nomatch z) h
  | @frz a ob xs ea =>
    cases (show u = Value.ref a from rx)
    obtain ⟨_, _, _, n, _, h1⟩ := (show ObjOk X.prog X.w H s.heap a (.frz ob (.lst xs)) from I.hok a _ ea)
    exact PySem.W.kia_one PySem.W.kitx_list I.kIn ⟨_, h1, rfl⟩ e (fun z => nomatch z) h
  | @tup a xs ea =>
    cases (show u = Value.ref a from rx)
    obtain ⟨_, _, _, p⟩ := (show ObjOk X.prog X.w H s.heap a (.tup xs) from I.hok a _ ea)
    obtain ⟨o, h1, h2, _⟩ := p
    exact PySem.W.kia_one PySem.W.kitx_tuple I.kIn ⟨o, h1, h2⟩ e (fun z => nomatch z) h
  | @dK a kvs ea =>
    cases (show u = Value.ref a from rx)
    obtain ⟨_, _, vs, _, p⟩ := (show ObjOk X.prog X.w H s.heap a (.dK kvs) from I.hok a _ ea)
    obtain ⟨o, es, ep, h1, h2, _⟩ := p
    exact PySem.W.kia_one PySem.W.kitx_dict I.kIn ⟨o, h1, h2.1⟩ e (fun z => nomatch z) h
  | @dT a kvs ea =>
    cases (show u = Value.ref a from rx)
    obtain ⟨_, _, xs, _, o, es, ep, h1, h2, _⟩ := (show ObjOk X.prog X.w H s.heap a (.dT kvs) from I.hok a _ ea)
    exact PySem.W.kia_one PySem.W.kitx_dict I.kIn ⟨o, h1, h2.1⟩ e (fun z => nomatch z) h
  | @ins a C dx fs ea cl ha hn htk hm =>
    cases (show u = Value.ref a from rx)
    obtain ⟨mA, O, _⟩ := ins_get I.hok ea
    obtain ⟨od, J, _⟩ := O.look
    exact PySem.W.kia_one (PySem.W.kitx_own (cl.get _) cl.hd ha hn htk hm) I.kIn J e (fun z => nomatch z) h
end
end L2

namespace L2
open PySem PySem.Spec PyProof.Rows

structure Room (k : Nat) (A : Around) : Prop where
  hd : A.handled = none
  dp : A.depth + 3 * k + 5 < recursionLimit
  un : A.units + 16 * k + 200 < cLine
theorem Room.mono {j k : Nat} {A : Around} (r : Room k A) (h : j ≤ k) : Room j A := ⟨r.hd, by have := r.dp; omega, by have := r.un; omega⟩
theorem Room.deeper {k : Nat} {A : Around} (r : Room (k + 1) A) (env : Env) : Room k (A.deeper env) :=
  ⟨r.hd, by have := r.dp; show A.depth + 1 + 3 * k + 5 < _; omega, by have := r.un; show A.units + 3 + 16 * k + 200 < _; omega⟩
theorem Room.in1 {k : Nat} {A : Around} (r : Room (k + 1) A) : Room k A.in1 :=
  ⟨r.hd, by have := r.dp; show A.depth + 3 * k + 5 < _; omega, by have := r.un; show A.units + 1 + 16 * k + 200 < _; omega⟩
theorem Room.depth {k : Nat} {A : Around} (r : Room k A) : A.depth < recursionLimit := by have := r.dp; omega
theorem Room.units {k : Nat} {A : Around} (r : Room k A) : A.units + 64 < cLine := by have := r.un; omega
def tNil : TA := fun _ H Q => Q [] H
def tCons (ta : TE) (tr : TA) : TA := fun σ H Q => ta σ H fun x H1 => tr σ H1 fun xs H2 => Q (x :: xs) H2
section
variable {X : Cx} {e : Expr} {es : List Expr} {te : TE} {t : TA} {pos : Pos}
theorem pa_nil : PA X [] tNil := fun _ _ _ _ H Q I h => Calls.spliced_nil ⟨[], H, I, .nil, h⟩
theorem pa_cons (ha : PE X e te) (hr : PA X es t) (hs : starEach (e :: es) X.env = (false, eval e X.env) :: starEach es X.env := by rfl) : PA X (e :: es) (tCons te t) := by
  intro pos pins s σ H Q I h
  rw [hs]
  show wpAny _ _ (spliced ((false, eval e X.env) :: backTo pos (starEach es X.env))) _ _ s
  refine Calls.spliced_cons (thn (ha pins s σ H _ I h) fun u s1 ⟨x, H1, I1, r1, q1⟩ => ?_)
  exact thn (hr pos pins s1 σ H1 _ I1 q1) fun us s2 ⟨xs, H2, I2, r2, q2⟩ => ⟨x :: xs, H2, I2, .cons r1 r2, q2⟩

def tTup (t : TA) : TE := fun σ H Q => t σ H fun xs H1 => xs.length ≤ sizeLine ∧ ∀ p, H1 p = none → Q (.ref p) (upd H1 p (.tup xs))
def tLst (t : TA) : TE := fun σ H Q => t σ H fun xs H1 => xs.length ≤ sizeLine ∧ ∀ p, H1 p = none → Q (.ref p) (upd H1 p (.lst xs))
theorem pe_tup {x1} (h : PA X es t) : PE X (.Tuple es x1 pos) (tTup t) := by
  intro pins s σ H Q I hq
  refine wpAny_Tuple_spliced (thn (h pos pins s σ H _ I hq) fun us s1 ⟨xs, H1, I1, r, z, q⟩ => ⟨by rw [← r.length]; exact z, ?_⟩)
  have hf : H1 s1.heap.objs.size = none := I1.hok.fresh (Nat.le_refl _)
  refine ⟨.ref s1.heap.objs.size, upd H1 s1.heap.objs.size (.tup xs), I1.laid (t' := s1.toks) (fun b u e => Heap.get?_push_of_some _ e) (Nat.le_refl _) ?_, rfl, q _ hf⟩
  exact ⟨z, us, r, ⟨_, Heap.get?_push_size _ rfl, rfl, _, rfl⟩⟩
theorem pe_lst (h : PA X es t) : PE X (.List es pos) (tLst t) := by
  intro pins s σ H Q I hq
  refine wpAny_List_spliced (thn (h pos pins s σ H _ I hq) fun us s1 ⟨xs, H1, I1, r, z, q⟩ => ⟨by rw [← r.length]; exact z, ?_⟩)
  have hf : H1 s1.heap.objs.size = none := I1.hok.fresh (Nat.le_refl _)
  refine ⟨.ref s1.heap.objs.size, upd H1 s1.heap.objs.size (.lst xs), I1.laid (t' := s1.toks) (fun b u e => Heap.get?_push_of_some _ e) (Nat.le_refl _) ?_, rfl, q _ hf⟩
  exact ⟨z, us, 0, r, Heap.get?_push_size _ rfl⟩
end

abbrev Sp := List V → Hp → VK → XK → Prop
abbrev CXT := List Env → Hp → Shared → XK → Value → Shared → Prop

structure Env0 (P : Program) (w : World) (K : PySem.W.Frag) (mg : Str → Option Value) (base : Heap) (A : Around) (outer : List Env) (s : Shared) (H : Hp) : Prop where
  frames : A.frames = some outer
  mod : Mod K mg base
  bs : ∀ b o, base.get? b = some o → s.heap.get? b = some o ∧ H b = none
  bsz : base.objs.size ≤ s.heap.objs.size
  funs : s.heap.FunFrames base outer
  frf : ∀ b ∈ frs outer, H b = none
  hok : HOk P w H s.heap
  bare : AllBare s.gens
def CE (outer : List Env) (P : Program) (w : World) (H : Hp) (s : Shared) (Q : VK) (u : Value) (s' : Shared) : Prop :=
  ∃ v H', s'.os = s.os ∧ AllBare s'.gens ∧ Un (frs outer) [] H H' s.heap s'.heap ∧ HOk P w H' s'.heap ∧ RelV v u ∧ Q v H'
def CR (CX : CXT) (outer : List Env) (P : Program) (w : World) (H : Hp) (s : Shared) (Q : VK) (E : XK) (r : Result) (s' : Shared) : Prop :=
  match r with
  | .ok (.ret u) => CE outer P w H s Q u s'
  | .ok _ => False
  | .error e => CX outer H s E e s'
structure FnOk (P : Program) (w : World) (K : PySem.W.Frag) (mg : Str → Option Value) (base : Heap) (CX : CXT) (k : Nat) (f : Addr) (fd : FuncData) (ps : List Str) (sp : Sp) : Prop where
  len : ∀ vs H Q E, sp vs H Q E → vs.length = ps.length
  run : ∀ (A : Around) (outer : List Env) (s : Shared) (H : Hp) (args : Args) (us : List Value) (vs : List V) (Q : VK) (E : XK), Room k A → Env0 P w K mg base A outer s H → BindsTo s fd args (ps.zip us) → Vals vs us → sp vs H Q E →
    codeAny (model P w) A (.call (.ref f) args) (CR CX outer P w H s Q E) s
theorem FnOk.mono {P : Program} {w : World} {K : PySem.W.Frag} {mg : Str → Option Value} {base : Heap} {CX : CXT} {j k : Nat} {f : Addr} {fd : FuncData} {ps : List Str} {sp : Sp} (F : FnOk P w K mg base CX j f fd ps sp) (h : j ≤ k) :
    FnOk P w K mg base CX k f fd ps sp := ⟨F.len, fun A outer s H args us vs Q E hr => F.run A outer s H args us vs Q E (hr.mono h)⟩
theorem FnOk.imp {P : Program} {w : World} {K : PySem.W.Frag} {mg : Str → Option Value} {base : Heap} {CX : CXT} {k : Nat} {f : Addr} {fd : FuncData} {ps : List Str} {sp sp' : Sp} (F : FnOk P w K mg base CX k f fd ps sp)
    (h : ∀ vs H Q E, sp' vs H Q E → sp vs H Q E) : FnOk P w K mg base CX k f fd ps sp' :=
  ⟨fun vs H Q E q => F.len vs H Q E (h _ _ _ _ q), fun A outer s H args us vs Q E hr he hb hv hs => F.run A outer s H args us vs Q E hr he hb hv (h _ _ _ _ hs)⟩

theorem Env0.in1 {P : Program} {w : World} {K : PySem.W.Frag} {mg : Str → Option Value} {base : Heap} {A : Around} {outer : List Env} {s : Shared} {H : Hp} (e : Env0 P w K mg base A outer s H) :
    Env0 P w K mg base A.in1 outer s H := ⟨e.frames, e.mod, e.bs, e.bsz, e.funs, e.frf, e.hok, e.bare⟩

section
variable {X : Cx} {pins : List (Addr × Obj)} {σ : St} {H : Hp} {s s' : Shared}
theorem Inv.env0 (I : Inv X pins σ H s) : Env0 X.prog X.w X.K X.mg X.base X.A X.stack s H :=
  ⟨I.ok.frames, I.ok.mod, I.bs, Nat.le_trans I.ok.bsz I.sz, I.stack, I.stkFree, I.hok, I.bare⟩
theorem Inv.after {Q : VK} {u : Value} (I : Inv X pins σ H s) (h : CE X.stack X.prog X.w H s Q u s') : EP X pins σ Q u s' := by
  obtain ⟨v, H', os, bare, un, hok, r, q⟩ := h
  obtain ⟨hh, g, d, t, os'⟩ := s'
  obtain rfl : os' = s.os := os
  exact ⟨v, H', I.call (h' := hh) (g' := g) (d' := d) (t' := t) (ch := []) un hok bare (fun b z => absurd z (by simp)), r, q⟩
end

def tCall (sp : Sp) (dvs : List V) (E : XK) (t : TA) : TE := fun σ H Q => t σ H fun vs H1 => sp (vs ++ dvs) H1 Q E
def Binds (K : PySem.W.Frag) (fd : FuncData) (ps : List Str) (ds : List Value) : Prop :=
  ∀ (s : Shared) (us : List Value), K.In s.heap → (us ++ ds).length = ps.length → BindsTo s fd ⟨us, []⟩ (ps.zip (us ++ ds))
theorem Binds.all {K : PySem.W.Frag} {fd : FuncData} {ps : List Str} (h : ∀ us : List Value, us.length = ps.length → bindArgs fd ⟨us, []⟩ = pure (ps.zip us)) : Binds K fd ps [] := fun s us _ hl => by
  rw [List.append_nil] at hl ⊢
  exact .of_eq (h us hl)

def Passes (CX : CXT) (X : Cx) (E : XK) : Prop := ∀ (pins : List (Addr × Obj)) (σ : St) (H : Hp) (s : Shared) (e : Value) (s' : Shared), Inv X pins σ H s → CX X.stack H s E e s' → X.xe e s'

section
variable {X : Cx} {CX : CXT} {k : Nat} {f C : Addr} {fd : FuncData} {ps : List Str} {sp : Sp} {dvs : List V} {ds : List Value} {E : XK} {x m : Str} {p pos apos : Pos} {e o : Expr} {es : List Expr} {ta : TE} {t : TA}

theorem run_fn {pins : List (Addr × Obj)} {σ : St} {H : Hp} {s : Shared} {Q : VK} {us : List Value} {vs : List V} (F : FnOk X.prog X.w X.K X.mg X.base CX k f fd ps sp) (hr : Room k X.A) (hb : Binds X.K fd ps ds) (hd : Vals dvs ds) (hx : Passes CX X E)
    (I : Inv X pins σ H s) (r : Vals vs us) (h : sp (vs ++ dvs) H Q E) : wpAny (model X.prog X.w) X.A (call (.ref f) us) (EP X pins σ Q) X.xe s := by
  have r2 : Vals (vs ++ dvs) (us ++ ds) := r.append hd
  have hl : (us ++ ds).length = ps.length := by rw [← r2.length]; exact F.len _ _ _ _ h
  refine wpAny_call (codeAny_mono (F.run X.A X.stack s H ⟨us, []⟩ (us ++ ds) (vs ++ dvs) Q E hr I.env0 (hb s us I.kIn hl) r2 h) fun r s' hq => ?_)
  cases r with
  | error e => exact hx pins σ H s e s' I hq
  | ok fl =>
    cases fl with
    | ret u => exact I.after hq
    | next => exact False.elim hq
    | brk => exact False.elim hq
    | cont => exact False.elim hq

theorem pe_call (F : FnOk X.prog X.w X.K X.mg X.base CX k f fd ps sp) (hr : Room k X.A) (hg : Gl X x) (hm : X.mg x = some (.ref f)) (hk : PySem.W.keepIn X.K (.ref f) = true) (hb : Binds X.K fd ps ds) (hd : Vals dvs ds) (hx : Passes CX X E)
    (ha : PA X (e :: es) t) (hdb : (x == ("__debug__" : Str)) = false := by decide) (he : starEach (e :: es) X.env = (false, eval e X.env) :: starEach es X.env := by rfl) (hpl : (backTo pos (starEach es X.env)).any (·.1) = false := by rfl) :
    PE X (.Call (.Name x p) (e :: es) [] pos) (tCall sp dvs E t) := by
  intro pins s σ H Q I h
  refine wpAny_Call_Name_kw (ld_glob I hg hm ?_ hdb)
  refine PySem.W.callWith_K (h₀ := X.base) I.ok.mod.kin hk (thn (ha pos pins s σ H _ I h) fun us s1 ⟨vs, H1, I1, r, q⟩ => ⟨I1.kIn, ?_⟩) he hpl
  exact run_fn F hr hb hd hx I1 r q
structure Mk (K : PySem.W.Frag) (C f : Addr) : Prop where
  makes : PySem.W.makesIn K C = true
  init : PySem.W.findIn K (.ref C) "__init__" = some (some (.ref f))
  fn : PySem.W.isFn K (.ref f) = true
  kp : PySem.W.keepIn K (.ref C) = true

end

section
variable {X : Cx} {CX : CXT} {k : Nat} {f C : Addr} {fd : FuncData} {ps ks : List Str} {sp : Sp} {E : XK} {x m : Str} {p pos apos kpos : Pos} {e o : Expr} {es : List Expr} {kws : List Keyword} {te ta : TE} {t tk : TA} {nm : Option Str}
structure KBinds (K : PySem.W.Frag) (fd : FuncData) (ps ks : List Str) (g : List Value → List Value → List Value) (gV : List V → List V → List V) : Prop where
  to : ∀ (s : Shared) (us ws : List Value), K.In s.heap → (g us ws).length = ps.length → BindsTo s fd ⟨us, ks.zip ws⟩ (ps.zip (g us ws))
  rel : ∀ {vs : List V} {us : List Value} {zs : List V} {ws : List Value}, Vals vs us → Vals zs ws → Vals (gV vs zs) (g us ws)
variable {g : List Value → List Value → List Value} {gV : List V → List V → List V}
end

structure FnScope (N P : List Str) (sc : Scope) : Prop where
  kind : sc.kind = .function
  co : sc.isCoroutine = false
  gen : sc.isGenerator = false
  nd : N.Nodup
  pre : N.take P.length = P
  par : ∀ x ∈ P, sc.names.lookup x = some .local ∨ sc.names.lookup x = some .cell
  nofree : ∀ y ∈ sc.names, y.2 ≠ .free

theorem bindL_out {kindOf : Str → Option NameKind} {x : Str} : ∀ {binds : List (Str × Value)} {m : Str → Option Value}, (∀ v, (x, v) ∉ binds) → bindL kindOf binds m x = m x
  | [], _, _ => rfl
  | (n, v) :: r, m, h => by
    unfold bindL
    rw [bindL_out fun w hw => h w (List.mem_cons_of_mem _ hw)]
    split
    · have : x ≠ n := by rintro rfl; exact h v List.mem_cons_self
      simp [this]
    · rfl
theorem bindC_out {kindOf : Str → Option NameKind} {x : Str} : ∀ {binds : List (Str × Value)} {m : Str → Option Value}, (∀ v, (x, v) ∉ binds) → bindC kindOf binds m x = m x
  | [], _, _ => rfl
  | (n, v) :: r, m, h => by
    unfold bindC
    rw [bindC_out fun w hw => h w (List.mem_cons_of_mem _ hw)]
    split
    · rfl
    · have : x ≠ n := by rintro rfl; exact h v List.mem_cons_self
      simp [this]
theorem bindL_get {kindOf : Str → Option NameKind} {x : Str} {v : Value} : ∀ {P : List Str} {vs : List Value} {i : Nat} {m : Str → Option Value}, P.Nodup → P[i]? = some x → vs[i]? = some v → kindOf x = some .local →
    bindL kindOf (P.zip vs) m x = some v
  | [], _, _, _, _, h, _, _ => by simp at h
  | _ :: _, [], _, _, _, _, h, _ => by simp at h
  | p :: P, w :: vs, 0, m, nd, h1, h2, hk => by
    simp at h1 h2; subst h1; subst h2
    show bindL kindOf ((p, w) :: P.zip vs) m p = _
    unfold bindL
    rw [bindL_out fun v hv => (List.nodup_cons.mp nd).1 (List.of_mem_zip hv).1, if_pos hk]
    simp
  | p :: P, w :: vs, i + 1, m, nd, h1, h2, hk => by
    show bindL kindOf ((p, w) :: P.zip vs) m x = _
    unfold bindL
    exact bindL_get (i := i) (List.nodup_cons.mp nd).2 (by simpa using h1) (by simpa using h2) hk
theorem bindC_get {kindOf : Str → Option NameKind} {x : Str} {v : Value} : ∀ {P : List Str} {vs : List Value} {i : Nat} {m : Str → Option Value}, P.Nodup → P[i]? = some x → vs[i]? = some v → kindOf x ≠ some .local →
    bindC kindOf (P.zip vs) m x = some v
  | [], _, _, _, _, h, _, _ => by simp at h
  | _ :: _, [], _, _, _, _, h, _ => by simp at h
  | p :: P, w :: vs, 0, m, nd, h1, h2, hk => by
    simp at h1 h2; subst h1; subst h2
    show bindC kindOf ((p, w) :: P.zip vs) m p = _
    unfold bindC
    rw [bindC_out fun v hv => (List.nodup_cons.mp nd).1 (List.of_mem_zip hv).1, if_neg hk]
    simp
  | p :: P, w :: vs, i + 1, m, nd, h1, h2, hk => by
    show bindC kindOf ((p, w) :: P.zip vs) m x = _
    unfold bindC
    exact bindC_get (i := i) (List.nodup_cons.mp nd).2 (by simpa using h1) (by simpa using h2) hk

def start (N : List Str) (vs : List V) : St := vs.map some ++ List.replicate (N.length - vs.length) none

def cxOf (CX : CXT) (P : Program) (w : World) (K : PySem.W.Frag) (mg : Str → Option Value) (base : Heap) (N : List Str) (qual : Str) (scope : Scope) (f : Addr) (cd : Value) (A : Around) (outer : List Env) (s : Shared) (H : Hp) (E : XK) : Cx where
  prog := P
  w := w
  K := K
  mg := mg
  base := base
  A := A.deeper (envOfC qual scope s.heap.objs.size f cd)
  N := N
  s₀ := s
  H₀ := H
  env := envOfC qual scope s.heap.objs.size f cd
  outer := outer
  stack := envOfC qual scope s.heap.objs.size f cd :: outer
  ex := []
  calm := true
  fn := fun _ => true
  pn := []
  xe := fun e s' => wpAny (model P w) (A.deeper (envOfC qual scope s.heap.objs.size f cd)) (leaving (envOfC qual scope s.heap.objs.size f cd) e) (fun _ s'' => CX outer H s E e s'') (fun e' s'' => CX outer H s E e' s'') s'

theorem cell_has {sc : Scope} {n : Nat} {x : Str} (h : sc.names.lookup x = some .cell) : ∃ c, (cellsFrom n sc.names []).lookup x = some c := by
  have q := PySem.W.cellsFrom_some sc.names n [] (.inl h)
  exact Option.isSome_iff_exists.mp q

theorem inv_start {CX : CXT} {P : Program} {w : World} {K : PySem.W.Frag} {mg : Str → Option Value} {base : Heap} {N ps : List Str} {qual : Str} {scope : Scope} {f : Addr} {cd : Value} {A : Around} {outer : List Env} {s s1 : Shared} {H : Hp} {E : XK} {us : List Value} {vs : List V}
    (S : FnScope N ps scope) (hd : A.handled = none) (e0 : Env0 P w K mg base A outer s H) (hl : vs.length = ps.length) (r : Vals vs us)
    (x : InCallC s s.heap.objs.size (bindL (envOfC qual scope s.heap.objs.size f cd).kindOf (ps.zip us) fun _ => none) (cellsFrom (s.heap.objs.size + 1) scope.names []) (bindC (envOfC qual scope s.heap.objs.size f cd).kindOf (ps.zip us) fun _ => none) s1) :
    Inv (cxOf CX P w K mg base N qual scope f cd A outer s H E) [] (start N vs) H s1 := by
  have hpl : ps.length ≤ N.length := by have := congrArg List.length S.pre; rw [List.length_take] at this; omega
  obtain ⟨h1, tk, rfl, hk⟩ := x.done
  have noA : ∀ b : Addr, b ∉ (cxOf CX P w K mg base N qual scope f cd A outer s H E).ex := fun b z => absurd (show b ∈ ([] : List Addr) from z) (by simp)
  refine ⟨⟨e0.mod, S.kind, rfl, rfl, Nat.le_refl _, fun y z c h1 h2 => ?_, fun y hy => ?_, fun y c _ h => ?_, fun _ => hd, Around.frames_deeper e0.frames, .inr ⟨rfl, rfl⟩, fun b z => absurd z (noA b), e0.bs, e0.bsz, fun b _ _ => noA b, fun b z => absurd z (noA b), e0.funs, e0.frf⟩,
    rfl, e0.bare, Un.kept hk, ⟨_, x.toInCall.ns, fun i y v h1 h2 h3 => ?_⟩, fun y c h => ⟨_, x.cell y c h⟩, e0.hok.fresh (Nat.le_refl _), fun y c h => ?_, fun p hp => absurd (show p ∈ ([] : List (Addr × Obj)) from hp) (by simp), e0.hok.kept hk, ?_⟩
  · exact name_of_addr x.apart (PySem.mem_of_lookup h1) (PySem.mem_of_lookup h2)
  · have hy : scope.names.lookup y = some .cell ∨ scope.names.lookup y = some .free := hy
    rcases hy with hy | hy
    · exact cell_has hy
    · exact absurd rfl (S.nofree _ (PySem.mem_of_lookup hy))
  · exact Nat.le_of_lt (x.above y c (PySem.mem_of_lookup h))
  · have hi : i < vs.length := by
      unfold start at h2
      by_cases hi : i < vs.length
      · exact hi
      · rw [List.getElem?_append_right (by simpa using hi)] at h2
        rw [List.getElem?_replicate] at h2
        split at h2 <;> cases h2
    have ha : vs[i]? = some v := by
      unfold start at h2
      rw [List.getElem?_append_left (by simpa using hi), List.getElem?_map] at h2
      cases e : vs[i]? with
      | none => rw [e] at h2; cases h2
      | some a => rw [e] at h2; cases h2; rfl
    obtain ⟨u, hu, rv⟩ := r.get ha
    have hp : ps[i]? = some y := by
      rw [← S.pre, List.getElem?_take_of_lt (by omega)]; exact h1
    have ndP : ps.Nodup := by rw [← S.pre]; exact S.nd.sublist (List.take_sublist _ _)
    refine ⟨u, rv, ?_⟩
    rcases S.par y (List.mem_of_getElem? hp) with k | k
    · exact .inl ⟨k, bindL_get ndP hp hu k⟩
    · obtain ⟨c, e⟩ := cell_has (n := s.heap.objs.size + 1) k
      refine .inr ⟨.inl k, c, e, ?_⟩
      have q := x.cell y c e
      rw [bindC_get ndP hp hu (by show scope.names.lookup y ≠ _; rw [k]; decide)] at q
      exact q
  · exact e0.hok.fresh (Nat.le_of_lt (x.above y c (PySem.mem_of_lookup h)))
  · unfold start
    show _ = N.length
    rw [List.length_append, List.length_map, List.length_replicate]
    omega

theorem fn_of {CX : CXT} {P : Program} {w : World} {K : PySem.W.Frag} {mg : Str → Option Value} {base : Heap} {k : Nat} {f : Addr} {name qual : Str} {params : Arguments} {body : List Stmt} {scope : Scope} {dV kV doc pm cdv ct oc : Value} {an od : Option Addr}
    {osl : Array (Option Value)} {N ps : List Str} {sp : Sp} (lk : K.lookup f = some ⟨oc, od, .func (PySem.W.fnOf name qual params body scope dV kV doc pm an cdv ct), osl⟩) (hcd : PySem.W.codeIn K cdv qual = true) (S : FnScope N ps scope)
    (len : ∀ vs H Q E, sp vs H Q E → vs.length = ps.length)
    (hbody : ∀ (A : Around) (outer : List Env) (s : Shared) (H : Hp) (vs : List V) (Q : VK) (E : XK), Room k (A.deeper (envOfC qual scope s.heap.objs.size f cdv)) → sp vs H Q E →
      ∃ t, PSs (cxOf CX P w K mg base N qual scope f cdv A outer s H E) body t ∧ t { nx := fun _ H' => Q .non H', rt := Q } (start N vs) H) :
    FnOk P w K mg base CX (k + 1) f (PySem.W.fnOf name qual params body scope dV kV doc pm an cdv ct) ps sp := by
  refine ⟨len, fun A outer s H args us vs Q E hr e0 hb r hsp => ?_⟩
  have hl := len _ _ _ _ hsp
  have KX : K.In s.heap := e0.mod.kin.keeps fun b o e => (e0.bs b o e).1
  have lim : s.heap.NoLimit := e0.mod.nolimit.keeps fun b o e => (e0.bs b o e).1
  have hkind : ∀ y ∈ ps.zip us, scope.names.lookup y.1 = some .local ∨ (scope.names.lookup y.1 = some .cell ∧ ((cellsFrom (s.heap.objs.size + 1) scope.names []).lookup y.1).isSome = true) := fun ⟨n, v⟩ hy => by
    rcases S.par n (List.of_mem_zip hy).1 with q | q
    · exact .inl q
    · exact .inr ⟨q, PySem.W.cellsFrom_some _ _ _ (.inl q)⟩
  refine codeAny_call_function hr.depth (KX _ _ lk) rfl S.co S.gen rfl (PySem.W.codeRec_of KX hcd) (hb _ _ _ _ ?_)
  refine wpAny_newFunctionEnv_cells S.kind hkind fun env he s1 x => ?_
  subst he
  refine ⟨lim.keeps x.toInCall.keep, codeAny_func ?_⟩
  obtain ⟨t, ht, hq⟩ := hbody A outer s H vs Q E (hr.deeper _) hsp
  have I : Inv (cxOf CX P w K mg base N qual scope f cdv A outer s H E) [] (start N vs) H s1 := inv_start S hr.hd e0 hl r x
  refine wpAny_mono (ht [] s1 (start N vs) H _ I hq) (fun fl s' hs => ?_) fun e s' hs => hs
  have fin : ∀ {σ' : St} {H' : Hp} {v : V} {u : Value}, Inv (cxOf CX P w K mg base N qual scope f cdv A outer s H E) [] σ' H' s' → RelV v u → Q v H' → CE outer P w H s Q u s' :=
    fun {σ' H' v u} J rv q => ⟨v, H', J.os, J.bare, J.base, J.hok, rv, q⟩
  cases fl with
  | ret u =>
    obtain ⟨v, σ', H', J, rv, q⟩ := hs
    exact fin J rv q
  | next =>
    obtain ⟨σ', H', J, q⟩ := hs
    exact fin (v := V.non) (u := Value.none) J rfl q
  | brk =>
    obtain ⟨_, _, _, q⟩ := hs
    exact False.elim q
  | cont =>
    obtain ⟨_, _, _, q⟩ := hs
    exact False.elim q
end L2

namespace L2
open PySem PySem.Spec PyProof.Rows
section
variable {X : Cx} {x : Str} {p pos : Pos} {e : Expr} {es : List Expr} {t : TA} {id T : String} {r : List V → Hp → VK → Prop}

def tCB (r : List V → Hp → VK → Prop) (t : TA) : TE := fun σ H Q => t σ H fun vs H1 => r vs H1 Q
theorem pe_callB (hc : CallR X (.builtin id) r) (hg : Gl X x) (hm : X.mg x = none) (hv : bootBuiltins x = some (.builtin id)) (ha : PA X (e :: es) t) (hn : x ≠ "__name__" := by decide) (hdb : (x == ("__debug__" : Str)) = false := by decide)
    (he : starEach (e :: es) X.env = (false, eval e X.env) :: starEach es X.env := by rfl) (hpl : (backTo pos (starEach es X.env)).any (·.1) = false := by rfl) : PE X (.Call (.Name x p) (e :: es) [] pos) (tCB r t) := by
  intro pins s σ H Q I h
  refine wpAny_Call_Name_kw (ld_blt I hg hm hv ?_ hn hdb)
  exact PyProof.Rows.callWith_builtin1 (thn (ha pos pins s σ H _ I h) fun us s1 ⟨vs, H1, I1, r1, q1⟩ => hc pins s1 σ H1 vs us Q I1 r1 q1) he hpl
theorem pe_callTy (hc : CallR X (.type T) r) (hg : Gl X x) (hm : X.mg x = none) (hv : bootBuiltins x = some (.type T)) (ha : PA X (e :: es) t) (hn : x ≠ "__name__" := by decide) (hdb : (x == ("__debug__" : Str)) = false := by decide)
    (he : starEach (e :: es) X.env = (false, eval e X.env) :: starEach es X.env := by rfl) (hpl : (backTo pos (starEach es X.env)).any (·.1) = false := by rfl) : PE X (.Call (.Name x p) (e :: es) [] pos) (tCB r t) := by
  intro pins s σ H Q I h
  refine wpAny_Call_Name_kw (ld_blt I hg hm hv ?_ hn hdb)
  exact PyProof.Rows.callWith_type1 (thn (ha pos pins s σ H _ I h) fun us s1 ⟨vs, H1, I1, r1, q1⟩ => hc pins s1 σ H1 vs us Q I1 r1 q1) he hpl
end
end L2

namespace HT
open PySem PyProof.Rows

section
open PySem.SeqAt
open PySem.AutoSeq1 (wpAny_loadPart')
open PySem.MeetsSeq PySem.MeetsSeq2 PySem.MeetsSeq3

end

section
variable {prog : Program} {w : World} {A : Around} {E : Value → Shared → Prop} {s : Shared}

def sIx (n d : Nat) : Option Int → Nat
  | none => d
  | some v => if v < 0 then (v + (n : Int)).toNat else min v.toNat n
theorem sIx_none (n d : Nat) : sIx n d none = d := rfl
theorem sIx_nat (n d k : Nat) : sIx n d (some (k : Int)) = min k n := by
  show (if (k : Int) < 0 then ((k : Int) + (n : Int)).toNat else min (k : Int).toNat n) = min k n
  rw [if_neg (by omega), Int.toNat_natCast]
end
end HT

namespace L2
open PySem PySem.Spec PyProof.Rows

abbrev TO := St → Hp → (Option Int → Hp → Prop) → Prop
def PO (X : Cx) (e : Option Expr) (t : TO) : Prop :=
  ∀ (pins : List (Addr × Obj)) (s : Shared) (σ : St) (H : Hp) (Q : Option Int → Hp → Prop), Inv X pins σ H s → t σ H Q →
    wpAny (model X.prog X.w) X.A (evalPart e X.env) (fun u s' => ∃ o H', Inv X pins σ H' s' ∧ IsPart u o ∧ Q o H') X.xe s
def tNoPart : TO := fun _ H Q => Q none H
def tPart (t : TE) : TO := fun σ H Q => t σ H fun x H1 => ∃ i, x = .int i ∧ Q (some i) H1

theorem intsAre_of {ns : List Int} : ∀ {us : List Value}, Vals (ns.map V.int) us → IntsAre us ns := by
  induction ns with
  | nil => intro us r; rw [List.map_nil] at r; cases r; exact .nil
  | cons n ns ih =>
    intro us r
    rw [List.map_cons] at r
    cases r with
    | cons r1 r2 =>
      obtain ⟨t, e⟩ := r1
      subst e
      exact .cons n t (ih r2)

section
variable {X : Cx} {e : Expr} {te : TE} {lo hi : Option Expr} {tl th : TO} {pos p2 : Pos}

theorem po_none : PO X none tNoPart := by
  intro pins s σ H Q I h
  rw [evalPart_none]
  exact wpAny_pure ⟨none, H, I, .none, h⟩
theorem po_some (h : PE X e te) : PO X (some e) (tPart te) := by
  intro pins s σ H Q I hw
  rw [evalPart_some]
  refine thn (h pins s σ H _ I hw) fun u s1 ⟨x, H1, I1, r1, q1⟩ => ?_
  obtain ⟨i, rfl, q⟩ := q1
  obtain ⟨t, rfl⟩ := r1
  exact ⟨some i, H1, I1, .int i t, q⟩

def SlR (X : Cx) (r : V → Option Int → Option Int → Hp → VK → Prop) : Prop :=
  ∀ (pins : List (Addr × Obj)) (s : Shared) (σ : St) (H : Hp) (x : V) (v vl vu : Value) (lo hi : Option Int) (sl : Addr) (Q : VK), Inv X pins σ H s → RelV x v → s.heap.IsSliceOf sl vl vu .none → IsPart vl lo → IsPart vu hi → r x lo hi H Q →
    ∃ T id, typeLookup (.type T) "__getitem__" = pure (some (.builtin id)) ∧ s.TypeIs v T ∧ wpAny (model X.prog X.w) X.A (getItem v (.ref sl)) (EP X pins σ Q) X.xe s
theorem SlR.or {r r' : V → Option Int → Option Int → Hp → VK → Prop} (h : SlR X r) (h' : SlR X r') : SlR X (fun x lo hi H Q => r x lo hi H Q ∨ r' x lo hi H Q) := by
  intro pins s σ H x v vl vu lo hi sl Q I rx hs pl pu q
  rcases q with q | q
  · exact h pins s σ H x v vl vu lo hi sl Q I rx hs pl pu q
  · exact h' pins s σ H x v vl vu lo hi sl Q I rx hs pl pu q
def tSl (r : V → Option Int → Option Int → Hp → VK → Prop) (te : TE) (tl th : TO) : TE := fun σ H Q => te σ H fun x H1 => tl σ H1 fun l H2 => th σ H2 fun u H3 => r x l u H3 Q
theorem pe_slice {r : V → Option Int → Option Int → Hp → VK → Prop} (hr : SlR X r) (he : PE X e te) (hl : PO X lo tl) (hu : PO X hi th) : PE X (.Subscript e (.Slice lo hi none p2) pos) (tSl r te tl th) := by
  intro pins s σ H Q I h
  refine Subscript_ (thn (he pins s σ H _ I h) fun v s1 ⟨x, H1, I1, r1, q1⟩ => ?_)
  refine wpAny_Slice (thn (hl pins s1 σ H1 _ I1 q1) fun vl s2 ⟨l, H2, I2, pl, q2⟩ => thn (hu pins s2 σ H2 _ I2 q2) fun vu s3 ⟨u, H3, I3, pu, q3⟩ => ?_)
  rw [evalPart_none]
  refine wpAny_pure ?_
  have I4 : Inv X pins σ H3 { s3 with heap := s3.heap.push { cls := .type "slice", data := .fields #[vl, vu, .none] } } := I3.kept (t' := s3.toks) fun b ob q => Heap.get?_push_of_some _ q
  obtain ⟨T, id, hT, ht, hg⟩ := hr pins { s3 with heap := s3.heap.push { cls := .type "slice", data := .fields #[vl, vu, .none] } } σ H3 x v vl vu l u s3.heap.objs.size Q I4 r1 (Heap.IsSliceOf.new ..) pl pu q3
  show wpAny (model X.prog X.w) X.A (subscriptTail e (.Slice lo hi none p2) v (.ref s3.heap.objs.size)) (EP X pins σ Q) X.xe { s3 with heap := s3.heap.push { cls := .type "slice", data := .fields #[vl, vu, .none] } }
  exact tail_any (ops := [.ref s3.heap.objs.size, v]) ht hT hg (by with_unfolding_all rfl)

def cutV (xs : List V) (lo hi : Option Int) : List V := (xs.drop (HT.sIx xs.length 0 lo)).take (HT.sIx xs.length xs.length hi - HT.sIx xs.length 0 lo)
theorem cutV_length (xs : List V) (lo hi : Option Int) : (cutV xs lo hi).length ≤ xs.length := by
  unfold cutV
  rw [List.length_take, List.length_drop]
  omega
end
end L2

namespace L2
open PySem PySem.Spec PyProof.Rows

def ixN (n : Nat) (i : Int) : Option Nat := if 0 ≤ i then (if i < n then some i.toNat else none) else if -(n : Int) ≤ i then some (i + n).toNat else none
def atI {α : Type} (xs : List α) (i : Int) : Option α := (ixN xs.length i).bind fun j => xs[j]?
theorem ixN_seq {n : Nat} {i : Int} {j : Nat} (h : ixN n i = some j) : seqIndex? i n = some j ∧ j < n ∧ -(n : Int) ≤ i ∧ i < n := by
  unfold ixN at h
  by_cases h0 : 0 ≤ i
  · rw [if_pos h0] at h
    by_cases h1 : i < n
    · rw [if_pos h1] at h
      have e : i.toNat = j := Option.some.inj h
      exact ⟨by rw [seqIndex_of h0 h1, e], by omega, by omega, h1⟩
    · rw [if_neg h1] at h; cases h
  · rw [if_neg h0] at h
    by_cases h1 : -(n : Int) ≤ i
    · rw [if_pos h1] at h
      have e : (i + n).toNat = j := Option.some.inj h
      exact ⟨by rw [seqIndex_neg (by omega) h1, e], by omega, h1, by omega⟩
    · rw [if_neg h1] at h; cases h
theorem atI_get {α : Type} {xs : List α} {i : Int} {v : α} (h : atI xs i = some v) : ∃ j, seqIndex? i xs.length = some j ∧ xs[j]? = some v ∧ j < xs.length ∧ -(xs.length : Int) ≤ i ∧ i < xs.length := by
  unfold atI at h
  cases e : ixN xs.length i with
  | none => rw [e] at h; cases h
  | some j =>
    rw [e] at h
    obtain ⟨h1, h2, h3, h4⟩ := ixN_seq e
    exact ⟨j, h1, h, h2, h3, h4⟩
def PlainIx (b : Expr) : Prop := ∀ o i, subscripted b false o i = operate [o, i] (getItem o i)
def IxR (X : Cx) (r : R2) : Prop :=
  ∀ (value slice : Expr) (pins : List (Addr × Obj)) (s : Shared) (σ : St) (H : Hp) (x y : V) (v u : Value) (Q : VK), Inv X pins σ H s → RelV x v → RelV y u → r x y H Q →
    subscripted slice false v u = operate [v, u] (getItem v u) → wpAny (model X.prog X.w) X.A (subscriptTail value slice v u) (EP X pins σ Q) X.xe s
def MtR (X : Cx) (id : String) (r : V → List V → Hp → VK → Prop) : Prop :=
  ∀ (pins : List (Addr × Obj)) (s : Shared) (σ : St) (H : Hp) (x : V) (xs : List V) (v : Value) (us : List Value) (Q : VK), Inv X pins σ H s → RelV x v → Vals xs us → r x xs H Q →
    wpAny (model X.prog X.w) X.A (call (.builtin id) (v :: us)) (EP X pins σ Q) X.xe s
section
variable {X : Cx} {a b : Expr} {ta tb : TE} {pos : Pos}
theorem IxR.or {r r' : R2} (h : IxR X r) (h' : IxR X r') : IxR X (fun x y H Q => r x y H Q ∨ r' x y H Q) := by
  intro value slice pins s σ H x y v u Q I rx ry q hs
  rcases q with q | q
  · exact h value slice pins s σ H x y v u Q I rx ry q hs
  · exact h' value slice pins s σ H x y v u Q I rx ry q hs
theorem MtR.or {id : String} {r r' : V → List V → Hp → VK → Prop} (h : MtR X id r) (h' : MtR X id r') : MtR X id (fun x xs H Q => r x xs H Q ∨ r' x xs H Q) := by
  intro pins s σ H x xs v us Q I rx rs q
  rcases q with q | q
  · exact h pins s σ H x xs v us Q I rx rs q
  · exact h' pins s σ H x xs v us Q I rx rs q
theorem pe_ix {r : R2} (hr : IxR X r) (ha : PE X a ta) (hb : PE X b tb) (hs : PlainIx b) : PE X (.Subscript a b pos) (tOp r ta tb) := by
  intro pins s σ H Q I h
  exact Subscript_ (binT ha hb I h fun v u s2 x y H2 I2 rx ry q => hr a b pins s2 σ H2 x y v u Q I2 rx ry q (hs _ _))

def rIxL (K : PySem.W.Frag) : R2 := fun x y H Q => ∃ p xs i v, x = .ref p ∧ y = .int i ∧ SqL K H p xs ∧ atI xs i = some v ∧ Q v H
def rIxT (K : PySem.W.Frag) : R2 := fun x y H Q => ∃ p xs i v, x = .ref p ∧ y = .int i ∧ SqT K H p xs ∧ atI xs i = some v ∧ Q v H
def rIxS : R2 := fun x y H Q => ∃ z i c, x = .str z ∧ y = .int i ∧ z.length ≤ sizeLine ∧ atI z.cps.toList i = some c ∧ Q (.str ⟨#[c]⟩) H
theorem ix_list : IxR X (rIxL X.K) := by
  intro value slice pins s σ H x y v u Q I rx ry h hs
  obtain ⟨p, xs, i, z, rfl, rfl, hq, he, q⟩ := h
  cases rx
  obtain ⟨t, rfl⟩ := ry
  obtain ⟨its, r, pl, hz⟩ := I.list hq
  obtain ⟨j, h1, h2, h3, h4, h5⟩ := atI_get he
  obtain ⟨w, ew, rw'⟩ := r.get h2
  have hl := r.length
  have hn := line63
  have fin : EP X pins σ Q w s := ⟨z, H, I, rw', q⟩
  by_cases h0 : 0 ≤ i
  · have hj : i.toNat = j := by
      rw [seqIndex_of h0 h5] at h1
      exact Option.some.inj h1
    exact item_listR pl.isList h0 (by omega) (by rw [hj]; simpa using ew) fin hs
  · have hj : (i + (its.toArray.size : Int)).toNat = j := by
      rw [seqIndex_neg (by omega) h4] at h1
      rw [List.size_toArray, ← hl]
      exact Option.some.inj h1
    exact subscriptTail_builtinR (x := w) pl.isList.typeIs slot_list_getitem.lookup
      (wpAny_getItem_list_neg (Q := fun r s' => r = w ∧ EP X pins σ Q r s') pl.isList (by omega) (by rw [List.size_toArray] <;> omega) (by omega) (by rw [hj]; simpa using ew) ⟨rfl, fin⟩) hs
theorem ix_tup : IxR X (rIxT X.K) := by
  intro value slice pins s σ H x y v u Q I rx ry h hs
  obtain ⟨p, xs, i, z, rfl, rfl, hq, he, q⟩ := h
  cases rx
  obtain ⟨t, rfl⟩ := ry
  obtain ⟨its, r, pl, hz⟩ := I.tuple hq
  obtain ⟨j, h1, h2, h3, h4, h5⟩ := atI_get he
  obtain ⟨w, ew, rw'⟩ := r.get h2
  have hl := r.length
  have hn := line63
  have fin : EP X pins σ Q w s := ⟨z, H, I, rw', q⟩
  exact subscriptTail_builtinR (x := w) pl.typeIs slot_tuple_getitem.lookup
    (getItem_tuple (j := j) (Q := fun r s' => r = w ∧ EP X pins σ Q r s') pl (by omega) (by omega) (by rw [List.size_toArray, ← hl]; exact h1) (by simpa using ew) ⟨rfl, fin⟩) hs
theorem ix_str : IxR X rIxS := by
  intro value slice pins s σ H x y v u Q I rx ry h hs
  obtain ⟨z, i, c, rfl, rfl, hz, he, q⟩ := h
  obtain ⟨t, rfl⟩ := rx
  obtain ⟨t', rfl⟩ := ry
  obtain ⟨j, h1, h2, h3, h4, h5⟩ := atI_get he
  have hl : z.cps.toList.length = z.length := by simp [Str.length]
  rw [hl] at h1 h4 h5
  have hn := line63
  exact tail_any (typeIs_str s z t) slot_str_getitem.lookup (getItem_str (c := c) (by
    have e1 : decide (i < -(2 ^ 63 : Int)) = false := decide_eq_false (by omega)
    have e2 : decide (i ≥ 2 ^ 63) = false := decide_eq_false (by omega)
    rw [e1, e2, Bool.or_false]) (by rw [h1]; simpa using h2) ⟨.str ⟨#[c]⟩, H, I.tok _, ⟨_, rfl⟩, q⟩) hs
def rIx (K : PySem.W.Frag) : R2 := fun x y H Q => rIxL K x y H Q ∨ rIxT K x y H Q ∨ rIxS x y H Q
theorem ix_seq : IxR X (rIx X.K) := ix_list.or (ix_tup.or ix_str)

theorem mapSeq_set (its : List Value) (n j : Nat) (u : Value) : Obj.mapSeq (·.setIfInBounds j u) { cls := .type "list", data := .seq its.toArray n } = { cls := .type "list", data := .seq (its.set j u).toArray n } := by
  simp [Obj.mapSeq]
theorem Inv.lst {pins : List (Addr × Obj)} {σ : St} {H : Hp} {s : Shared} {p : Addr} {xs : List V} (I : Inv X pins σ H s) (h : H p = some (.lst xs)) :
    ∃ (its : List Value) (n : Nat), Vals xs its ∧ s.heap.get? p = some { cls := .type "list", data := .seq its.toArray n } ∧ xs.length ≤ sizeLine := by
  obtain ⟨z, its, n, r, e⟩ := I.hok p _ h
  exact ⟨its, n, r, e, z⟩
theorem Inv.lstUpd {pins : List (Addr × Obj)} {σ : St} {H : Hp} {s : Shared} {p : Addr} {xs ys : List V} {its its' : List Value} {n n' : Nat} {f : Obj → Obj} (I : Inv X pins σ H s) (h : H p = some (.lst xs))
    (ho : s.heap.get? p = some { cls := .type "list", data := .seq its.toArray n }) (hf : f { cls := .type "list", data := .seq its.toArray n } = { cls := .type "list", data := .seq its'.toArray n' }) (r : Vals ys its') (hz : ys.length ≤ sizeLine) (t : Nat) :
    Inv X pins σ (upd H p (.lst ys)) { s with heap := s.heap.update p f, toks := t } := by
  have e : (s.heap.update p f).get? p = some { cls := .type "list", data := .seq its'.toArray n' } := by
    rw [Heap.get?_update_self f ho (by rw [hf] <;> rfl), hf]
  refine I.write (x := p) (e := p) (by rw [h]; trivial) (.inl rfl) (fun b u hb q => (Heap.get?_update_other _ _ (Ne.symm hb)).trans q) ⟨_, e⟩ ?_
  exact ⟨hz, its', n', r, e⟩
def rSetL : V → V → V → Hp → (Hp → Prop) → Prop := fun o i v H Q => ∃ p xs k j, o = .ref p ∧ i = .int k ∧ H p = some (.lst xs) ∧ ixN xs.length k = some j ∧ Q (upd H p (.lst (xs.set j v)))
theorem set_list : PSet X rSetL := by
  intro pins s σ H o i v ov iv u Q I ro ri rv h
  obtain ⟨p, xs, k, j, rfl, rfl, hp, hj, q⟩ := h
  cases ro
  obtain ⟨t, rfl⟩ := ri
  obtain ⟨its, n, r, ho, hz⟩ := I.lst hp
  obtain ⟨h1, h2, h3, h4⟩ := ixN_seq hj
  have hl := r.length
  have hn := line63
  have I' : Inv X pins σ (upd H p (.lst (xs.set j v))) { s with heap := s.heap.update p (Obj.mapSeq (·.setIfInBounds j u)) } :=
    I.lstUpd hp ho (mapSeq_set its n j u) (r.set rv j) (by rw [List.length_set]; exact hz) s.toks
  by_cases h0 : 0 ≤ k
  · have hk : k.toNat = j := by
      rw [seqIndex_of h0 h4] at h1
      exact Option.some.inj h1
    exact PySem.W.ki_setAt ho h0 (by omega) (by rw [List.size_toArray, ← hl]; exact h4) (by rw [hk]; exact ⟨_, I', q⟩)
  · have hk : (k + (its.toArray.size : Int)).toNat = j := by
      rw [seqIndex_neg (by omega) h3] at h1
      rw [List.size_toArray, ← hl]
      exact Option.some.inj h1
    exact PySem.W.ki_setBack ho (by omega) (by rw [List.size_toArray, ← hl]; exact h3) (by omega) (by rw [hk]; exact ⟨_, I', q⟩)

theorem slice_bounds (lo hi : Option Int) (n : Nat) : (sliceBounds lo hi none n).1 = ((HT.sIx n 0 lo : Nat) : Int) ∧ (sliceBounds lo hi none n).2.1 = ((HT.sIx n n hi : Nat) : Int) ∧ (sliceBounds lo hi none n).2.2 = 1 := by
  refine ⟨?_, ?_, rfl⟩
  · cases lo with
    | none => simp [sliceBounds, HT.sIx]
    | some i =>
      simp only [sliceBounds, HT.sIx, Option.getD_none, show (1 : Int) > 0 by decide, if_true]
      by_cases h : i < 0
      · simp only [h, if_true] <;> omega
      · simp only [h, if_false] <;> omega
  · cases hi with
    | none => simp [sliceBounds, HT.sIx]
    | some i =>
      simp only [sliceBounds, HT.sIx, Option.getD_none, show (1 : Int) > 0 by decide, if_true]
      by_cases h : i < 0
      · simp only [h, if_true] <;> omega
      · simp only [h, if_false] <;> omega
theorem slicePick_cut (its : List Value) (lo hi : Option Int) : slicePick its.toArray lo hi none = ((its.drop (HT.sIx its.length 0 lo)).take (HT.sIx its.length its.length hi - HT.sIx its.length 0 lo)).toArray := by
  obtain ⟨h1, h2, h3⟩ := slice_bounds lo hi its.toArray.size
  unfold slicePick
  rw [h1, h2, h3]
  simp only [sliceRange_one, pick_run, List.size_toArray] <;> rfl
def rSlL (K : PySem.W.Frag) : V → Option Int → Option Int → Hp → VK → Prop := fun x lo hi H Q => ∃ a xs, x = .ref a ∧ SqL K H a xs ∧ ∀ p, H p = none → Q (.ref p) (upd H p (.lst (cutV xs lo hi)))
theorem sl_list : SlR X (rSlL X.K) := by
  intro pins s σ H x v vl vu lo hi sl Q I rx hs pl pu h
  obtain ⟨a, xs, rfl, hx, q⟩ := h
  cases rx
  obtain ⟨its, r, ht, hz⟩ := I.list hx
  have hlen := r.length
  refine ⟨"list", _, slot_list_getitem.lookup, ht.isList.typeIs, ?_⟩
  refine wpAny_getItem_list_slice ht.isList hs pl pu .none (by simp) ?_ (by rw [List.size_toArray] <;> omega)
  rw [slicePick_cut, ← hlen]
  refine ⟨.ref s.heap.objs.size, _, I.laid (t' := s.toks) (o := .lst (cutV xs lo hi)) (fun b ob q => Heap.get?_push_of_some _ q) (Nat.le_refl _) ?_, rfl, q _ (I.hok.fresh (Nat.le_refl _))⟩
  exact ⟨Nat.le_trans (cutV_length xs lo hi) hz, _, 0, (r.drop (HT.sIx xs.length 0 lo)).take (HT.sIx xs.length xs.length hi - HT.sIx xs.length 0 lo), Heap.get?_push_size _ rfl⟩

theorem CallR.or {f : Value} {r r' : List V → Hp → VK → Prop} (h : CallR X f r) (h' : CallR X f r') : CallR X f (fun xs H Q => r xs H Q ∨ r' xs H Q) := by
  intro pins s σ H xs us Q I rs q
  rcases q with q | q
  · exact h pins s σ H xs us Q I rs q
  · exact h' pins s σ H xs us Q I rs q
theorem call_list_of : CallR X (.type "list") (fun xs H Q => ∃ p ys, xs = [.ref p] ∧ (SqL X.K H p ys ∨ SqT X.K H p ys) ∧ ∀ l, H l = none → Q (.ref l) (upd H l (.lst ys))) := by
  intro pins s σ H xs us Q I r h
  obtain ⟨p, ys, rfl, hq, q⟩ := h
  obtain ⟨u, rfl, rx⟩ := vals1 r
  cases rx
  have fin : ∀ (its : List Value), Vals ys its → ys.length ≤ sizeLine → ∀ (h' : Heap) (c' : Nat), (∀ b o', s.heap.get? b = some o' → h'.get? b = some o') →
      h'.get? s.heap.objs.size = some { cls := .type "list", dict := none, data := .seq its.toArray c', slots := #[] } → EP X pins σ Q (.ref s.heap.objs.size) { s with heap := h' } := fun its r' hz h' c' kp e =>
    ⟨.ref s.heap.objs.size, _, I.laid (t' := s.toks) kp (Nat.le_refl _) (show ObjOk X.prog X.w _ h' _ (.lst ys) from ⟨hz, its, c', r', e⟩), rfl, q _ (I.hok.fresh (Nat.le_refl _))⟩
  rcases hq with hq | hq
  · obtain ⟨its, r', pl, hz⟩ := I.list hq
    have hlen := r'.length
    obtain ⟨o, ho, hc, n, hd⟩ := pl.isList
    exact call_list_seq p (.inl rfl) ho hc hd (fun h' c' kp e => fin its r' hz h' c' kp e) (by simp only [List.size_toArray] <;> omega)
  · obtain ⟨its, r', pl, hz⟩ := I.tuple hq
    have hlen := r'.length
    obtain ⟨o, ho, hc, n, hd⟩ := pl
    exact call_list_seq p (.inr rfl) ho hc hd (fun h' c' kp e => fin its r' hz h' c' kp e) (by simp only [List.size_toArray] <;> omega)
def tyV (K : PySem.W.Frag) (T : String) (x : V) (H : Hp) : Prop := match x with
  | .str _ => T = "str"
  | .int _ => T = "int"
  | .ref p => (T = "list" ∧ ∃ xs, SqL K H p xs) ∨ (T = "tuple" ∧ ∃ o, K.lookup p = some o ∧ o.cls = .type "tuple" ∧ o.dict = none) ∨
      (T = "dict" ∧ ((∃ kvs, H p = some (.dK kvs)) ∨ ∃ kvs, H p = some (.dT kvs))) ∨ (T = "set" ∧ ∃ S n, H p = some (.set S n))
  | _ => False
theorem tyV_is {pins : List (Addr × Obj)} {σ : St} {H : Hp} {s : Shared} {T : String} {x : V} {v : Value} (I : Inv X pins σ H s) (r : RelV x v) (ty : tyV X.K T x H) :
    s.TypeIs v T ∧ ∀ a, v = .ref a → ∃ ob, s.heap.get? a = some ob ∧ ob.dict = none := by
  cases x with
  | str z =>
    obtain ⟨t, rfl⟩ := r
    cases (show T = "str" from ty)
    exact ⟨typeIs_str s z t, fun _ e => nomatch e⟩
  | int i =>
    obtain ⟨t, rfl⟩ := r
    cases (show T = "int" from ty)
    exact ⟨typeIs_int s i t, fun _ e => nomatch e⟩
  | ref p =>
    cases r
    rcases ty with ⟨rfl, xs, hq⟩ | ⟨rfl, o, hk, hc, hd⟩ | ⟨rfl, hk⟩ | ⟨rfl, S, n, hk⟩
    · obtain ⟨its, _, pl, _⟩ := I.list hq
      refine ⟨pl.isList.typeIs, fun a e => ?_⟩
      cases e
      obtain ⟨o, n, e, c, hd, _⟩ := pl
      exact ⟨o, e, hd⟩
    · refine ⟨⟨o, I.kIn p o hk, hc⟩, fun a e => ?_⟩
      cases e
      exact ⟨o, I.kIn _ o hk, hd⟩
    · have z : ∃ o, s.heap.get? p = some o ∧ o.ExactDict := by
        rcases hk with ⟨kvs, hk⟩ | ⟨kvs, hk⟩
        · obtain ⟨_, _, _, _, o, _, _, e, ex, _⟩ := I.hok p _ hk
          exact ⟨o, e, ex⟩
        · obtain ⟨_, _, _, _, o, _, _, e, ex, _⟩ := I.hok p _ hk
          exact ⟨o, e, ex⟩
      obtain ⟨o, e, ex⟩ := z
      refine ⟨⟨o, e, ex.1⟩, fun a e2 => ?_⟩
      cases e2
      exact ⟨o, e, ex.2.1⟩
    · obtain ⟨o, _, _, _, e, ex, _⟩ := I.hok p _ hk
      refine ⟨⟨o, e, ex.1⟩, fun a e2 => ?_⟩
      cases e2
      exact ⟨o, e, ex.2.1⟩
  | _ => exact False.elim ty
def tBM (K : PySem.W.Frag) (T : String) (r : V → List V → Hp → VK → Prop) (to : TE) (t : TA) : TE := fun σ H Q => to σ H fun x H1 => tyV K T x H1 ∧ t σ H1 fun xs H2 => r x xs H2 Q
variable {o e : Expr} {es : List Expr} {to : TE} {t : TA} {name : Str} {apos cpos : Pos} {T id : String} {r : V → List V → Hp → VK → Prop}
theorem pe_bm (pa : PlainAttrs T) (slot : Slot T name id) (hty : typeOf (.builtin id) = pure (.type "method_descriptor")) (hm : MtR X id r) (ho : PE X o to) (ha : PA X (e :: es) t)
    (hbase : attributeBase o name X.env (eval o X.env) = eval o X.env := by rfl)
    (hfew : ((backTo cpos (starEach (e :: es) X.env)).all (fun x => !x.1) && (backToKw cpos (keywordEach [] X.env)).all (fun x => x.1.isSome)
      && decide ((e :: es).length + ([] : List Keyword).length + (if ([] : List Keyword).isEmpty then 0 else 1) < 30)) = true := by rfl)
    (hline : (apos.endLine == cpos.line) = true := by rfl) (hs : starEach (e :: es) X.env = (false, eval e X.env) :: starEach es X.env := by rfl) (hplain : (backTo cpos (starEach es X.env)).any (·.1) = false := by rfl) :
    PE X (.Call (.Attribute o name apos) (e :: es) [] cpos) (tBM X.K T r to t) := by
  intro pins s σ H Q I h
  refine wpAny_Call_method_late hbase hfew hline rfl (thn (ho pins s σ H _ I h) fun v s1 ⟨x, H1, I1, r1, ty, q1⟩ => ?_)
  obtain ⟨h1, h2⟩ := tyV_is I1 r1 ty
  refine ⟨T, id, pa, slot, hty, h1, h2, ?_⟩
  have hA := ha cpos pins s1 σ H1 _ I1 q1
  rw [hs] at hA ⊢
  refine Calls.callWith_builtin (by show (false || (backTo cpos (starEach es X.env)).any (·.1)) = false; rw [hplain] <;> rfl) (Calls.evalArgs_plain ?_)
  exact thn hA fun us s2 ⟨vs, H2, I2, r2, q2⟩ => hm pins s2 σ H2 x vs v us Q I2 r1 r2 q2
/- xs.append(e), list.index on a module's tuple .. are MtR facts of 06m -/
end
end L2

namespace L2
open PySem PySem.Spec PyProof.Rows

def MtM (X : Cx) (id : String) (r : V → List V → Hp → VK → Prop) : Prop :=
  ∀ (pins : List (Addr × Obj)) (s : Shared) (σ : St) (H : Hp) (x : V) (xs : List V) (v : Value) (us : List Value) (Q : VK), Inv X pins σ H s → RelV x v → Vals xs us → r x xs H Q →
    wpAny (model X.prog X.w) X.A (call (.builtin id) (v :: us)) (EP X pins σ Q) X.xe s

theorem Vals.one : ∀ {x : V} {us : List Value}, Vals [x] us → ∃ u, us = [u] ∧ RelV x u
  | _, _, .cons r .nil => ⟨_, rfl, r⟩
theorem Vals.two : ∀ {x y : V} {us : List Value}, Vals [x, y] us → ∃ u v, us = [u, v] ∧ RelV x u ∧ RelV y v
  | _, _, _, .cons r (.cons q .nil) => ⟨_, _, rfl, r, q⟩
theorem Vals.zero : ∀ {us : List Value}, Vals [] us → us = []
  | _, .nil => rfl
theorem Vals.reverse {xs : List V} {us : List Value} (h : Vals xs us) : Vals xs.reverse us.reverse := by
  induction h with
  | nil => exact .nil
  | cons r t ih => rw [List.reverse_cons, List.reverse_cons]; exact Vals.append ih (.cons r .nil)
theorem Vals.rep {xs : List V} {us : List Value} (h : Vals xs us) : ∀ k : Nat, Vals (List.replicate k xs).flatten (List.replicate k us).flatten
  | 0 => .nil
  | k + 1 => by
    rw [List.replicate_succ, List.replicate_succ, List.flatten_cons, List.flatten_cons]
    exact Vals.append h (Vals.rep h k)
theorem foldl_rep (its : List Value) : ∀ (k : Nat) (acc : List Value),
    List.foldl (fun x1 x2 => x1 ++ x2) acc.toArray (List.replicate k its.toArray) = (acc ++ (List.replicate k its).flatten).toArray
  | 0, acc => by simp
  | k + 1, acc => by
    have e : acc.toArray ++ its.toArray = (acc ++ its).toArray := by simp
    have e2 : (acc ++ its) ++ (List.replicate k its).flatten = acc ++ (List.replicate (k + 1) its).flatten := by
      rw [List.replicate_succ, List.flatten_cons, List.append_assoc]
    rw [← e2, ← foldl_rep its k (acc ++ its), ← e, List.replicate_succ, List.foldl_cons]

section
variable {X : Cx} {pins : List (Addr × Obj)} {σ : St} {H : Hp} {s : Shared} {l b : Addr} {xs ys zs : List V}

theorem Inv.lset {its its' : List Value} {n : Nat} {f : Array Value → Array Value} {t' : Nat} (I : Inv X pins σ H s) (hH : H l = some (.lst xs))
    (e : s.heap.get? l = some { cls := .type "list", data := .seq its.toArray n }) (hf : f its.toArray = its'.toArray) (hv : Vals ys its') (hz : ys.length ≤ sizeLine) :
    Inv X pins σ (upd H l (.lst ys)) { s with heap := s.heap.update l (Obj.mapSeq f), toks := t' } := by
  have q := PySem.IsL.update e f
  rw [hf] at q
  refine I.write (x := l) (e := l) (by rw [hH]; exact trivial) (.inl rfl) (fun b' u hb hu => (Heap.get?_update_other s.heap (Obj.mapSeq f) (Ne.symm hb)).trans hu) ⟨_, q⟩ ?_
  exact ⟨hz, its', _, hv, q⟩
theorem Inv.lnew {its : List Value} {t' : Nat} (I : Inv X pins σ H s) (hv : Vals ys its) (hz : ys.length ≤ sizeLine) :
    Inv X pins σ (upd H s.heap.objs.size (.lst ys)) { s with heap := s.heap.push { cls := .type "list", data := .seq its.toArray }, toks := t' } :=
  I.laid (fun _ _ q => Heap.get?_push_of_some _ q) (Nat.le_refl _) ⟨hz, its, 0, hv, Heap.get?_push_size _ rfl⟩
theorem Inv.fresh (I : Inv X pins σ H s) : H s.heap.objs.size = none := I.hok.fresh (Nat.le_refl _)
theorem Inv.lstM (I : Inv X pins σ H s) (hH : H l = some (.lst xs)) : xs.length ≤ sizeLine ∧ ∃ (its : List Value) (n : Nat), Vals xs its ∧ xs.length = its.length ∧ s.heap.get? l = some { cls := .type "list", data := .seq its.toArray n } := by
  obtain ⟨z, its, n, r, e⟩ := I.hok l _ hH
  exact ⟨z, its, n, r, r.length, e⟩

theorem notLongL {n : Nat} (h : n ≤ sizeLine) : Builtin.List.listTooLong n = false := by
  unfold Builtin.List.listTooLong
  exact decide_eq_false (by omega)
end

section
variable {X : Cx}

def rAppend : V → List V → Hp → VK → Prop := fun x vs H Q => ∃ l xs y, x = .ref l ∧ vs = [y] ∧ H l = some (.lst xs) ∧ xs.length < sizeLine ∧ Q .non (upd H l (.lst (xs ++ [y])))
theorem mt_append : MtM X "list.append" rAppend := by
  intro pins s σ H x vs v us Q I rx rv h
  obtain ⟨l, xs, y, rfl, rfl, hH, hz, q⟩ := h
  cases rx
  obtain ⟨u, rfl, ru⟩ := rv.one
  obtain ⟨z, its, n, r, hl, e⟩ := I.lstM hH
  refine call_meets F.slot_list_append ⟨_, e, rfl⟩ F.entry_list_append (F.args_list_append_2 _ _) (PySem.list_append l its.toArray n u (by rw [List.size_toArray]; omega)) ⟨e, ?_⟩
  refine ⟨.non, _, I.lset (its' := its ++ [u]) hH e (by simp) (r.append (.cons ru .nil)) ?_, rfl, q⟩
  rw [List.length_append, List.length_singleton]
  omega

def rRep : R2 := fun x y H Q => ∃ l k xs, x = .ref l ∧ y = .int k ∧ H l = some (.lst xs) ∧ -(2 ^ 63) ≤ k ∧ k < 2 ^ 63 ∧ xs.length * k.toNat ≤ sizeLine ∧
  ∀ p, H p = none → Q (.ref p) (upd H p (.lst (List.replicate k.toNat xs).flatten))
theorem len_rep {α : Type} (xs : List α) (k : Nat) : (List.replicate k xs).flatten.length = k * xs.length := by
  induction k with
  | zero => simp
  | succ k ih => rw [List.replicate_succ, List.flatten_cons, List.length_append, ih, Nat.succ_mul, Nat.add_comm]
theorem op_rep : OpR X (binaryOp .Mult) rRep := by
  intro pins s σ H x y v u Q I rx ry h
  obtain ⟨l, k, xs, rfl, rfl, hH, h1, h2, hz, q⟩ := h
  cases rx
  obtain ⟨t, rfl⟩ := ry
  obtain ⟨z, its, n, r, hl, e⟩ := I.lstM hH
  have hlen : its.toArray.size * k.toNat ≤ sizeLine := by rw [List.size_toArray, ← hl]; exact hz
  have hcap : ¬ its.toArray.size * k.toNat > (2 ^ 63 - 1) / 8 := by
    have : (sizeLine : Nat) ≤ (2 ^ 63 - 1) / 8 := by decide
    omega
  have hfit : ¬ (!Builtin.List.listFitsIndex k) = true := by
    rw [fitsIndex_both h1 h2]
    exact Bool.false_ne_true
  have hlong : ¬ Builtin.List.listTooLong (its.toArray.size * k.toNat) = true := by
    rw [notLongL hlen]
    exact Bool.false_ne_true
  have hnew : List.foldl (fun x1 x2 => x1 ++ x2) #[] (List.replicate (if its.toArray.isEmpty = true then 0 else k.toNat) its.toArray) = (List.replicate k.toNat its).flatten.toArray := by
    have f0 : ∀ m : Nat, List.foldl (fun x1 x2 => x1 ++ x2) #[] (List.replicate m its.toArray) = (List.replicate m its).flatten.toArray := fun m => by
      have := foldl_rep its m []
      rw [List.nil_append] at this
      exact this
    rw [f0]
    cases its with
    | nil => simp
    | cons a r' => rw [if_neg (by simp)]
  refine wpAny_binaryOp_repeat_ref (T := "list") (U := "int") (by decide) ⟨_, e, rfl⟩ (fun s' => typeIs_int s' k t) noFill_list_mul F.fills_int_mul F.slot_int_rmul repeat_list F.slot_int_index.lookup
    (call_meets F.slot_int_rmul (typeIs_int s k t) F.entry_int_rmul (F.args_int_rmul_2 _ _) (int___rmul___int_list k t l its.toArray n)
      ⟨e, rfl, ⟨_, e, rfl⟩, call_meets F.slot_list_mul ⟨_, e, rfl⟩ F.entry_list_mul (F.args_list_mul_2 _ _) (AutoListH.list___mul___list_int_3 l its.toArray n k t hfit hcap hlong) ⟨e, ?_⟩⟩)
  rw [hnew]
  exact ⟨.ref _, _, I.lnew (t' := s.toks) (r.rep k.toNat) (by rw [len_rep, Nat.mul_comm]; exact hz), rfl, q _ I.fresh⟩

end

section
variable {prog : Program} {w : World} {A : Around} {E : Value → Shared → Prop} {s : Shared}
set_option maxRecDepth 100000 in
end

section
variable {X : Cx}
end
end L2

namespace Att
open PySem PySem.W PySem.Calls PyProof.Rows

theorem ints_of_wellAll {P : Params} {h : Heap} : ∀ (ns : List Int) (vs : List Value), WellAll P h vs (ns.map WData.int) → IntsAre vs ns := by
  intro ns
  induction ns with
  | nil =>
    intro vs w
    rw [List.map_nil] at w
    cases w
    exact .nil
  | cons n ns ih =>
    intro vs w
    rw [List.map_cons] at w
    cases w with
    | cons a b =>
      cases a
      exact .cons _ _ (ih _ b)

theorem script_of {l : OpenLaw} {n : Nat} (hn : l.most = some n) {P : Params} {h : Heap} {args : List WData} {vals : List Value}
    (hpre : l.row.toRowW.claim.pre args = true) (hwl : WellAll P h vals args) :
    ∃ a vs ns, vals = [Value.ref a] ∧ args = [WData.list (ns.map WData.int)] ∧ h.get? a = some { cls := .type "list", data := .seq vs.toArray } ∧ IntsAre vs ns ∧ ns.length ≤ n := by
  have hsh : WShape.hasAll [] args [.list .int] = true := (pre_splitW hpre).1
  have hc : l.pre.holds [] { args := args } = true := (pre_splitW hpre).2
  obtain ⟨d, r, rfl, h1, h2⟩ := hasAllW_cons hsh
  obtain rfl := hasAllW_nil h2
  obtain ⟨xs, rfl, h3⟩ := hasW_list h1
  obtain ⟨ns, rfl⟩ := items_int h3
  have hlen : ns.length ≤ n := by
    unfold OpenLaw.pre at hc
    have h4 : (WTm.not (.lt (.lit (.int (n : Int))) (.len (.arg 0)))).holds [] { args := [.list (ns.map .int)] } = true := by
      have h4 := (holds_andW hc).1
      rw [hn] at h4
      exact h4
    have h5 := condW_of h4 (w_not (w_lt w_lit (w_len_list (w_arg rfl))))
    rw [List.length_map] at h5
    refine Nat.le_of_not_lt fun q => ?_
    have q' : (n : Int) < ((ns.length : Nat) : Int) := by omega
    first
      | (rw [decide_eq_true q'] at h5; exact absurd h5 (by decide))
      | (simp at h5; omega)
  cases hwl with
  | cons w1 w2 =>
    cases w2
    cases w1 with
    | list ho hall => exact ⟨_, _, ns, rfl, rfl, ho, ints_of_wellAll ns _ hall, hlen⟩

theorem post_true (l : OpenLaw) (args : List WData) : l.row.toRowW.claim.post args (.bool true) args = true :=
  postW_of (r := l.row.toRowW) (X := (true == true))
    (show WShape.has [] (.bool true) .bool = true by first | rfl | decide | simp [WShape.has, WShape.arms, WShape.armsAll])
    (show (WTm.eq .res (.lit (.bool true))).value [] { args := args, res := some (.bool true), after := args } = some (.bool (true == true)) from w_eq_bool (w_res rfl) w_lit) rfl

theorem attach_call {l : OpenLaw} {n : Nat} {q : Program} {loose : List Str} {XP : (Str → Option Value) → Heap → Prop} {YP : World → Heap → Prop} {d : DefRec}
    (hn : l.most = some n) (hdf : d.params.defaults = [])
    (call : ∀ (w : World) (s₀ s₁ : Shared) (mg mb : Str → Option Value) (fa : Addr) (o : Obj) (pm cd doc : Value) (a : Addr) (vs : List Value) (ns : List Int),
      Ground q loose [] XP w s₀ mg mb s₁.heap → YP w s₁.heap →
      s₁.heap.get? fa = some o → o.data = .func (docDef d.name d.params d.body d.scope pm cd doc) → s₁.heap.CodeRec cd d.name → mg d.name = some (.ref fa) →
      s₁.heap.get? a = some { cls := .type "list", data := .seq vs.toArray } → IntsAre vs ns → ns.length ≤ n → s₁.gens = #[] →
      codeAny (model l.prog w) callerA (.call (.ref fa) ⟨[.ref a], []⟩) (fun r s' => r = .ok (.ret (.bool true)) ∧ OldK s₁.heap s'.heap ∧ s'.os = s₁.os ∧ AllBare s'.gens) s₁) :
    WalkO q loose XP YP l.row.toRowW d [] (fun f vs => PySem.call f vs) := by
  intro w s₀ s₁ mg mb G Y fa o pm cd doc dV kV ho hd hcd hD hmg hg args vals as hpre hlay hrd hwl hlo
  obtain rfl : dV = .none := Dflts.none hD hdf
  obtain rfl : kV = .none := Dflts.noKw hD
  obtain ⟨a, vs, ns, rfl, rfl, hobj, hints, hlen⟩ := script_of hn hpre hwl
  refine enter_call (codeAny_mono (call w s₀ s₁ mg mb fa o pm cd doc a vs ns G Y ho (fd_plain hd) hcd hmg hobj hints hlen hg) fun r s' hq => ?_)
  obtain ⟨rfl, h2, h3, h4⟩ := hq
  exact ⟨.inl ⟨.bool true, .bool true, [], rfl, fun _ => rfl, .bool true, post_true l _, fun _ => ⟨List.Pairwise.nil, fun _ hm => (nomatch hm)⟩⟩, h2, h3, h4⟩

section
variable {prog : Program} {w : World} {A : Around} {E : Value → Shared → Prop} {s : Shared} {K : Frag}

def ledger (h : Heap) (L d : Addr) : List (Addr × Obj) := (List.range h.objs.size).filterMap fun a => if a = L ∨ a = d then none else (h.get? a).map fun o => (a, o)
end
end Att

namespace L2
open PySem PySem.Spec PyProof.Rows

theorem vals_ints : ∀ {vs : List Value} {ns : List Int}, IntsAre vs ns → Vals (ns.map V.int) vs
  | _, _, .nil => .nil
  | _, _, .cons n t h => .cons ⟨t, rfl⟩ (vals_ints h)

def Only (H : Hp) : Prop := ∀ b, H b = none ∨ ∃ o xs, H b = some (.frz o (.lst xs))

theorem law_call {P : Program} {w : World} {K : PySem.W.Frag} {mg mb : Str → Option Value} {CX : CXT} {k : Nat} {fa a : Addr} {fd : FuncData} {x : Str} {sp : Sp} {s₁ : Shared} {vs : List Value} {ns : List Int}
    (KX : K.In s₁.heap) (hns : s₁.heap.Ns mainGlobals mg) (hb : s₁.heap.Ns builtinsNs mb) (hbb : ∀ x : Str, x ≠ "__name__" → mb x = bootBuiltins x) (hlim : s₁.heap.NoLimit) (hg : s₁.gens = #[])
    (ha : s₁.heap.get? a = some { cls := .type "list", data := .seq vs.toArray }) (hi : IntsAre vs ns) (hl : ns.length ≤ sizeLine) (hr : Room k callerA)
    (F : ∀ base : Heap, K.In base → base.Ns mainGlobals mg → FnOk P w K mg base CX k fa fd [x] sp) (hbind : ∀ (s : Shared) (u : Value), BindsTo s fd ⟨[u], []⟩ [(x, u)])
    (hsp : ∀ H : Hp, Only H → SqL K H a (ns.map V.int) → sp [.ref a] H (fun v _ => v = .bl true) fun _ _ _ => False)
    (hCX : ∀ H e s', CX [] H s₁ (fun _ _ _ => False) e s' → False) :
    codeAny (model P w) callerA (.call (.ref fa) ⟨[.ref a], []⟩) (fun r s' => r = .ok (.ret (.bool true)) ∧ OldK s₁.heap s'.heap ∧ s'.os = s₁.os ∧ AllBare s'.gens) s₁ := by
  have rv := vals_ints hi
  have lenV := hi.length
  -- from an abstract heap in which nothing but the script may be tracked
  have core : ∀ H : Hp, Only H → SqL K H a (ns.map V.int) → HOk P w H s₁.heap → (∀ b, H b ≠ none → b = a) → (H a ≠ none → K.lookup a = none) →
      codeAny (model P w) callerA (.call (.ref fa) ⟨[.ref a], []⟩) (fun r s' => r = .ok (.ret (.bool true)) ∧ OldK s₁.heap s'.heap ∧ s'.os = s₁.os ∧ AllBare s'.gens) s₁ := by
    intro H hO hS hok hA hK
    have base_of : ∀ {b : Addr} {o : Obj}, s₁.heap.get? b = some o → H b = none → (hidT s₁.heap H).get? b = some o := fun e n => hidT_get e n
    have noA : ∀ {b : Addr} {o : Obj} {es : Array DictEntry} {ep : Nat}, s₁.heap.get? b = some o → o.data = .dict es ep → H b = none := fun {b o es ep} e d => by
      cases q : H b with
      | none => rfl
      | some u =>
        have e' : b = a := hA b (by rw [q]; simp)
        subst e'
        rw [ha] at e; cases e
        have d' : Data.seq vs.toArray _ = Data.dict es ep := d
        cases d'
    have nsK : ∀ {b : Addr} {m : Str → Option Value}, s₁.heap.Ns b m → (hidT s₁.heap H).Ns b m := fun {b m} ⟨o, es, ep, e, d, r⟩ => ⟨o, es, ep, base_of e (noA e d), d, r⟩
    have hKb : K.In (hidT s₁.heap H) := fun b o e => base_of (KX b o e) (by
      cases q : H b with
      | none => rfl
      | some u =>
        have e' : b = a := hA b (by rw [q]; simp)
        subst e'
        rw [hK (by rw [q]; simp)] at e; cases e)
    have hM : Mod K mg (hidT s₁.heap H) := ⟨hKb, nsK hns, ⟨mb, nsK hb, hbb⟩, let ⟨mc, h1, h2⟩ := hlim; ⟨mc, nsK h1, h2⟩⟩
    have e0 : Env0 P w K mg (hidT s₁.heap H) callerA [] s₁ H := ⟨rfl, hM, fun b o e => of_hidT e, Nat.le_of_eq (hidT_size _ _), trivial, fun b hb => absurd (show b ∈ ([] : List Addr) from hb) (by simp), hok, .of_eq hg⟩
    refine codeAny_mono ((F _ hKb (nsK hns)).run callerA [] s₁ H ⟨[.ref a], []⟩ [.ref a] [.ref a] _ _ hr e0 (hbind s₁ (.ref a)) (.cons rfl .nil) (hsp H hO hS)) fun r s' h => ?_
    cases r with
    | error e => exact (hCX H e s' h).elim
    | ok fl =>
      cases fl with
      | next => exact False.elim h
      | brk => exact False.elim h
      | cont => exact False.elim h
      | ret u =>
        obtain ⟨v, H', os, bare, un, hok', r', q⟩ := h
        have q' : v = .bl true := q
        subst q'
        obtain rfl : u = Value.bool true := r'
        refine ⟨rfl, OldK.of_keep fun b o e => ?_, os, bare⟩
        cases q : H b with
        | none => exact un.keep b o e q (by intro z; exact absurd (show b ∈ ([] : List Addr) from z) (by simp)) (by simp)
        | some u =>
          rcases hO b with z | ⟨ob, xs, z⟩
          · rw [q] at z; cases z
          · have z2 := un.frzs b ob _ z
            obtain ⟨e1, _⟩ := hok b _ z
            obtain ⟨e2, _⟩ := hok' b _ z2
            rw [e] at e1; cases e1
            exact e2
  cases hk : K.lookup a with
  | some o =>
    -- the script is one of the module's own objects
    have e := KX a o hk
    rw [ha] at e
    cases e
    refine core (fun _ => none) (fun _ => .inl rfl) (.inr ⟨_, vs.toArray, _, hk, rfl, rfl, rfl, by rw [List.size_toArray, lenV]; exact hl, by simpa using rv⟩) (fun b u z => by have z' : (none : Option HO) = some u := z; cases z') (fun b z => absurd rfl z) fun z => absurd rfl z
  | none =>
    refine core (fun b => if b = a then some (.frz { cls := .type "list", data := .seq vs.toArray } (.lst (ns.map V.int))) else none) (fun b => ?_) (.inl (.inr ⟨{ cls := .type "list", data := .seq vs.toArray }, if_pos rfl⟩)) (fun b u z => ?_) (fun b z => ?_) fun _ => hk
    · by_cases hb : b = a
      · exact .inr ⟨_, _, if_pos hb⟩
      · exact .inl (if_neg hb)
    · by_cases hb : b = a
      · have z' := (if_pos hb).symm.trans z
        cases z'
        subst hb
        exact ⟨ha, by rw [List.length_map]; exact hl, vs, _, rv, ha⟩
      · have z' := (if_neg hb).symm.trans z
        cases z'
    · by_cases hb : b = a
      · exact hb
      · exact absurd (if_neg hb) z
end L2

namespace L2
open PySem PySem.Spec PyProof.Rows

abbrev KOf {K : PySem.W.Frag} {h : Heap} (_ : K.In h) : PySem.W.Frag := K

theorem walk_of {l : PySem.W.OpenLaw} {n k : Nat} {q : Program} {loose : List Str} {XP : (Str → Option Value) → Heap → Prop} {YP : World → Heap → Prop} {d : DefRec} {K : Params → PySem.W.Frag} {CX : World → CXT} {sp : World → Sp} {x : Str}
    (hn : l.most = some n) (hn2 : n ≤ sizeLine) (hdf : d.params.defaults = []) (hr : Room k callerA)
    (hY : ∀ (w : World) (h : Heap), YP w h → (K w.params).In h)
    (F : ∀ (w : World) (mg : Str → Option Value) (fa : Addr) (h : Heap), (K w.params).In h → h.Ns mainGlobals mg → mg d.name = some (.ref fa) →
      ∃ fd : FuncData, (∀ (s : Shared) (u : Value), BindsTo s fd ⟨[u], []⟩ [(x, u)]) ∧
        ∀ base : Heap, (K w.params).In base → base.Ns mainGlobals mg → FnOk l.prog w (K w.params) mg base (CX w) k fa fd [x] (sp w))
    (hsp : ∀ (w : World) (H : Hp) (a : Addr) (ns : List Int), ns.length ≤ n → Only H → SqL (K w.params) H a (ns.map V.int) → sp w [.ref a] H (fun v _ => v = .bl true) fun _ _ _ => False)
    (hCX : ∀ (w : World) (H : Hp) (s : Shared) (e : Value) (s' : Shared), CX w [] H s (fun _ _ _ => False) e s' → False) :
    PySem.W.WalkO q loose XP YP l.row.toRowW d [] (fun f vs => PySem.call f vs) := by
  refine Att.attach_call hn hdf fun w s₀ s₁ mg mb fa o pm cd doc a vs ns G Y ho hd hcd hmg hobj hints hlen hg => ?_
  have KX := hY w _ Y
  obtain ⟨fd, hb, hF⟩ := F w mg fa _ KX G.T.g hmg
  exact law_call KX G.T.g G.T.b G.T.builtins G.T.nolimit hg hobj hints (Nat.le_trans hlen hn2) hr hF hb (fun H hO hS => hsp w H a ns hlen hO hS) fun H e s' => hCX w H s₁ e s'
end L2

/- THE LAST THEOREM (shape; LID, My.* are yours):
   My.Adr: a structure of the addresses that your layer names (classes, functions); My.Txt K t: a structure (Prop) of the equations over K;
   My.txt_mk : {K} {implicit addresses ..} (e1 : nsIn K mainGlobals "law" = some (some (.ref f))) (e2 : K.lookup f = some ⟨oc, od, .func (fnOf "law" "law" params body scope dV kV doc pm an cdv ct), sl⟩) (e3 : codeIn K cdv "law" = true) .. : ∃ t, My.Txt K t

set_option maxRecDepth 100000 in
set_option maxHeartbeats 0 in
theorem PySem.Challenge.cw_LID_holds : PySem.Challenge.rw_LID.Holds := by
  w_on; o_law; k_head; (case hw => w_witness2)
  k_fill
  refine L2.walk_of (l := PySem.Challenge.rw_LID) (n := 63) (k := 40) (x := "script") (CX := fun w => ..) (sp := fun _ => My.sp_law) rfl (by decide) rfl ⟨rfl, by decide, by decide⟩ (fun w h Y => PySem.W.kIn_of Y) ?F ?S ?C
  case F =>
    intro w mg fa h KX G hmg
    have T : ∃ t, My.Txt (L2.KOf KX) t := by
      dsimp only [L2.KOf]                          -- K must stand as «<heap const> w.params» for k_is
      refine' My.txt_mk ?e1 ?e2 ?e3 ..
      (case e1 => PySem.W.k_is)                    -- in the order: a name -> its address -> its object -> its parts
      (case e2 => PySem.W.k_is)
      ..
    obtain ⟨t, T⟩ := T
    have e0 := hmg.symm.trans (PySem.W.mg_of KX G T.law)
    cases e0                                       -- fa is the law's own address
    exact ⟨_, fun s u => .of_eq rfl, fun base kb nb => My.law_fn T kb nb⟩     -- if «.of_eq rfl» comes too early: refine' ⟨_, ?b, fun base kb nb => My.law_fn T kb nb⟩; exact fun s u => .of_eq rfl
  case S => exact fun w H a ns hl hO hS => ..
  case C => exact ..
(the tactic k_is has no namespace: write k_is) -/

namespace L2
open PySem PySem.Spec PyProof.Rows

def defArgs (s : Stmt) : Arguments := match s with
  | .FunctionDef _ a _ _ _ _ _ _ _ _ => a
  | _ => { posonlyargs := [], args := [], vararg := none, kwonlyargs := [], kw_defaults := [], kwarg := none, defaults := [] }
def defBody (s : Stmt) : List Stmt := match s with
  | .FunctionDef _ _ b _ _ _ _ _ _ _ => b
  | _ => []
def defScope (s : Stmt) : Scope := match s with
  | .FunctionDef _ _ _ _ _ _ sc _ _ _ => sc
  | _ => { kind := .function, names := [], isGenerator := false, isCoroutine := false }

abbrev CX0 : CXT := fun _ _ _ _ _ _ => False
structure Fun (K : PySem.W.Frag) (x qual : Str) (st : Stmt) (f : Addr) (fd : FuncData) : Prop where
  ex : ∃ (oc : Value) (od : Option Addr) (kV doc pm : Value) (an : Option Addr) (cdv ct : Value) (osl : Array (Option Value)),
    fd = PySem.W.fnOf x qual (defArgs st) (defBody st) (defScope st) .none kV doc pm an cdv ct ∧ K.lookup f = some ⟨oc, od, .func fd, osl⟩ ∧ PySem.W.codeIn K cdv qual = true
  kp : PySem.W.keepIn K (.ref f) = true
section
variable {P : Program} {w : World} {K : PySem.W.Frag} {mg : Str → Option Value} {base : Heap}
theorem Fun.ok {x qual : Str} {st : Stmt} {f : Addr} {fd : FuncData} {N ps : List Str} {k : Nat} {sp : Sp} (F : Fun K x qual st f fd) (S : FnScope N ps (defScope st)) (len : ∀ vs H Q E, sp vs H Q E → vs.length = ps.length)
    (hbody : ∀ (cdv : Value) (A : Around) (outer : List Env) (s : Shared) (H : Hp) (vs : List V) (Q : VK) (E : XK), Room k (A.deeper (envOfC qual (defScope st) s.heap.objs.size f cdv)) → sp vs H Q E →
      ∃ t, PSs (cxOf CX0 P w K mg base N qual (defScope st) f cdv A outer s H E).nox (defBody st) t ∧ t { nx := fun _ H' => Q .non H', rt := Q } (start N vs) H) : FnOk P w K mg base CX0 (k + 1) f fd ps sp := by
  obtain ⟨oc, od, kV, doc, pm, an, cdv, ct, osl, rfl, lk, hcd⟩ := F.ex
  refine fn_of lk hcd S len fun A outer s H vs Q E hr hsp => ?_
  obtain ⟨t, h, q⟩ := hbody cdv A outer s H vs Q E hr hsp
  exact ⟨t, h.nox, q⟩
theorem Fun.binds {x qual : Str} {st : Stmt} {f : Addr} {fd : FuncData} {ps : List Str} (F : Fun K x qual st f fd)
    (h : ∀ (kV doc pm : Value) (an : Option Addr) (cdv ct : Value) (us : List Value), us.length = ps.length → bindArgs (PySem.W.fnOf x qual (defArgs st) (defBody st) (defScope st) .none kV doc pm an cdv ct) ⟨us, []⟩ = pure (ps.zip us)) : Binds K fd ps [] := by
  obtain ⟨oc, od, kV, doc, pm, an, cdv, ct, osl, rfl, lk, hcd⟩ := F.ex
  exact .all (h kV doc pm an cdv ct)
theorem fun_mk {x qual : Str} {st : Stmt} {f : Addr} {oc : Value} {od an : Option Addr} {osl : Array (Option Value)} {kV doc pm cdv ct : Value} (l : K.lookup f = some ⟨oc, od, .func (PySem.W.fnOf x qual (defArgs st) (defBody st) (defScope st) .none kV doc pm an cdv ct), osl⟩)
    (c : PySem.W.codeIn K cdv qual = true) (k : PySem.W.keepIn K (.ref f) = true) : Fun K x qual st f (PySem.W.fnOf x qual (defArgs st) (defBody st) (defScope st) .none kV doc pm an cdv ct) := ⟨⟨oc, od, kV, doc, pm, an, cdv, ct, osl, rfl, l, c⟩, k⟩
end
section
variable {X : Cx}
end

def Same (H H' : Hp) : Prop := ∀ b o, H b = some o → H' b = some o
theorem Same.refl (H : Hp) : Same H H := fun _ _ h => h
theorem Same.trans {H H1 H2 : Hp} (a : Same H H1) (b : Same H1 H2) : Same H H2 := fun c o h => b c o (a c o h)
theorem Same.free {H H' : Hp} (e : Same H H') {l : Addr} (h : H' l = Option.none) : H l = Option.none := by
  cases q : H l with
  | none => rfl
  | some o =>
    rw [e l o q] at h
    cases h
theorem Same.seq {K : PySem.W.Frag} {H H' : Hp} {a : Addr} {xs : List V} (e : Same H H') (h : SqL K H a xs) : SqL K H' a xs := by
  rcases h with (h | ⟨o, h⟩) | h
  · exact .inl (.inl (e _ _ h))
  · exact .inl (.inr ⟨o, e _ _ h⟩)
  · exact .inr h

end L2
set_option maxHeartbeats 4000000
namespace L2
open PySem PySem.Spec PyProof.Rows

section
variable {κ : Type} [DecidableEq κ]
def valV (kvs : List (κ × V)) (k : κ) : Option V := (kvs.find? fun kv => decide (kv.1 = k)).map (·.2)
def putK (kvs : List (κ × V)) (k : κ) (v : V) : List (κ × V) :=
  if (kvs.any fun kv => decide (kv.1 = k)) = true then kvs.map (fun kv => if kv.1 = k then (kv.1, v) else kv) else kvs ++ [(k, v)]
def dropK (kvs : List (κ × V)) (k : κ) : List (κ × V) := kvs.filter fun kv => decide (kv.1 ≠ k)

theorem valV_pos {p : κ × V} {r : List (κ × V)} {k : κ} (e : p.1 = k) : valV (p :: r) k = some p.2 := by simp [valV, List.find?_cons, e]
theorem valV_neg {p : κ × V} {r : List (κ × V)} {k : κ} (e : ¬ p.1 = k) : valV (p :: r) k = valV r k := by simp [valV, List.find?_cons, e]
theorem valV_any (k : κ) : ∀ kvs : List (κ × V), (kvs.any fun kv => decide (kv.1 = k)) = (valV kvs k).isSome
  | [] => rfl
  | p :: r => by
    rw [List.any_cons]
    by_cases e : p.1 = k
    · simp only [valV_pos e, decide_eq_true e, Bool.true_or, Option.isSome_some]
    · rw [valV_neg e, decide_eq_false e, Bool.false_or]; exact valV_any k r
theorem length_putK (kvs : List (κ × V)) (k : κ) (v : V) : (putK kvs k v).length ≤ kvs.length + 1 := by
  unfold putK
  split
  · rw [List.length_map]; omega
  · rw [List.length_append, List.length_cons, List.length_nil]; omega
theorem RelO.isSome_eq {o : Option V} {u : Option Value} (r : RelO o u) : o.isSome = u.isSome := by
  cases o with
  | none => cases u with
    | none => rfl
    | some _ => exact (show False from r).elim
  | some _ => cases u with
    | none => exact (show False from r).elim
    | some _ => rfl
theorem RelO.getD {o : Option V} {u : Option Value} {d : V} {d' : Value} (r : RelO o u) (rd : RelV d d') : RelV (o.getD d) (u.getD d') := by
  cases o with
  | none => cases u with
    | none => exact rd
    | some _ => exact (show False from r).elim
  | some _ => cases u with
    | none => exact (show False from r).elim
    | some _ => exact r

theorem KV.val {kvs : List (κ × V)} {vs : List (κ × Value)} (r : KV kvs vs) (k : κ) : RelO (valV kvs k) (valueAt vs k) := by
  unfold KV at r
  induction r with
  | nil => exact True.intro
  | @cons p q ps qs h t ih =>
    obtain ⟨h1, h2⟩ := h
    by_cases e : p.1 = k
    · have e' : q.1 = k := h1.symm.trans e
      have b : valueAt (q :: qs) k = some q.2 := by simp [valueAt, List.find?_cons, e']
      rw [valV_pos e, b]; exact h2
    · have e' : ¬ q.1 = k := fun z => e (h1.trans z)
      have b : valueAt (q :: qs) k = valueAt qs k := by simp [valueAt, List.find?_cons, e']
      rw [valV_neg e, b]; exact ih
theorem KV.any {kvs : List (κ × V)} {vs : List (κ × Value)} (r : KV kvs vs) (k : κ) : (kvs.any fun kv => decide (kv.1 = k)) = vs.any fun kv => decide (kv.1 = k) := by
  unfold KV at r
  induction r with
  | nil => rfl
  | cons h t ih => rw [List.any_cons, List.any_cons, ih, h.1]
theorem KV.repl {kvs : List (κ × V)} {vs : List (κ × Value)} (r : KV kvs vs) (k : κ) {y : V} {u : Value} (ry : RelV y u) :
    KV (kvs.map fun kv => if kv.1 = k then (kv.1, y) else kv) (vs.map fun kv => if kv.1 = k then (kv.1, u) else kv) := by
  unfold KV at r ⊢
  induction r with
  | nil => exact .nil
  | @cons p q ps qs h t ih =>
    rw [List.map_cons, List.map_cons]
    refine .cons ?_ ih
    obtain ⟨h1, h2⟩ := h
    by_cases e : p.1 = k
    · rw [if_pos e, if_pos (h1.symm.trans e)]; exact ⟨h1, ry⟩
    · rw [if_neg e, if_neg (fun z => e (h1.trans z))]; exact ⟨h1, h2⟩
theorem KV.put {kvs : List (κ × V)} {vs : List (κ × Value)} (r : KV kvs vs) (k : κ) {y : V} {u : Value} (ry : RelV y u) : KV (putK kvs k y) (stored vs k u) := by
  unfold putK stored
  rw [r.any k]
  by_cases e : (vs.any fun kv => decide (kv.1 = k)) = true
  · rw [if_pos e, if_pos e]; exact r.repl k ry
  · rw [if_neg e, if_neg e]; exact Paired.snoc r ⟨rfl, ry⟩
theorem KV.drop {kvs : List (κ × V)} {vs : List (κ × Value)} (r : KV kvs vs) (k : κ) : KV (dropK kvs k) (without vs k) := by
  unfold KV at r ⊢
  unfold dropK without
  induction r with
  | nil => exact .nil
  | @cons p q ps qs h t ih =>
    obtain ⟨h1, h2⟩ := h
    rw [List.filter_cons, List.filter_cons]
    by_cases e : p.1 = k
    · have a : ¬ decide (p.1 ≠ k) = true := by simp [e]
      have b : ¬ decide (q.1 ≠ k) = true := by simp [h1.symm.trans e]
      rw [if_neg a, if_neg b]; exact ih
    · have e' : ¬ q.1 = k := fun z => e (h1.trans z)
      have a : decide (p.1 ≠ k) = true := by simp [e]
      have b : decide (q.1 ≠ k) = true := by simp [e']
      rw [if_pos a, if_pos b]; exact .cons ⟨h1, h2⟩ ih
theorem KV.keys {kvs : List (κ × V)} {vs : List (κ × Value)} (r : KV kvs vs) : kvs.map (·.1) = vs.map (·.1) := by
  unfold KV at r
  induction r with
  | nil => rfl
  | cons h t ih => rw [List.map_cons, List.map_cons, ih, h.1]
theorem KV.length {kvs : List (κ × V)} {vs : List (κ × Value)} (r : KV kvs vs) : kvs.length = vs.length := Paired.length r
end


theorem kV_is {P : Program} {w : World} {k : Key} {u : Value} (r : RelV (kV k) u) : (mixKind P w).is k u = true := by
  cases k with
  | inl i => obtain ⟨t, e⟩ := (show ∃ t, u = Value.int i t from r); subst e; exact mixKind_int P w i t
  | inr x => obtain ⟨t, e⟩ := (show ∃ t, u = Value.str x t from r); subst e; exact mixKind_str P w x t
theorem items_are {P : Program} {w : World} : ∀ {ks : List Key} {us : List Value}, Vals (ks.map kV) us → ItemsAre (mixKind P w) ks us
  | [], _, r => by rw [List.map_nil] at r; cases r; exact .nil
  | k :: ks, _, r => by
    rw [List.map_cons] at r
    cases r with
    | cons h t => exact .cons (kV_is h) (items_are t)

abbrev KT (H : Hp) : List (List Key × V) → List (List Key × Addr × Value) → Prop := Paired fun p q => p.1 = q.1 ∧ H q.2.1 = some (.tup (p.1.map kV)) ∧ RelV p.2 q.2.2
theorem KT.val {H : Hp} {kvs : List (List Key × V)} {xs : List (List Key × Addr × Value)} (r : KT H kvs xs) (k : List Key) : RelO (valV kvs k) ((atKey xs k).map (·.2)) := by
  induction r with
  | nil => exact True.intro
  | @cons p q ps qs h t ih =>
    obtain ⟨h1, _, h2⟩ := h
    by_cases e : p.1 = k
    · have e' : q.1 = k := h1.symm.trans e
      have b : atKey (q :: qs) k = some q.2 := by simp [atKey, List.find?_cons, e']
      rw [valV_pos e, b]; exact h2
    · have e' : ¬ q.1 = k := fun z => e (h1.trans z)
      have b : atKey (q :: qs) k = atKey qs k := by simp [atKey, List.find?_cons, e']
      rw [valV_neg e, b]; exact ih
theorem KT.repl {H : Hp} {kvs : List (List Key × V)} {xs : List (List Key × Addr × Value)} (r : KT H kvs xs) (k : List Key) {y : V} {u : Value} (ry : RelV y u) :
    KT H (kvs.map fun kv => if kv.1 = k then (kv.1, y) else kv) (xs.map (putAt k u)) := by
  induction r with
  | nil => exact .nil
  | @cons p q ps qs h t ih =>
    rw [List.map_cons, List.map_cons]
    refine .cons ?_ ih
    obtain ⟨h1, h2, h3⟩ := h
    unfold putAt
    by_cases e : p.1 = k
    · rw [if_pos e, if_pos (h1.symm.trans e)]; exact ⟨h1, h2, ry⟩
    · rw [if_neg e, if_neg (fun z => e (h1.trans z))]; exact ⟨h1, h2, h3⟩
theorem KT.put {H : Hp} {kvs : List (List Key × V)} {xs : List (List Key × Addr × Value)} (r : KT H kvs xs) (k : List Key) {b : Addr} {y : V} {u : Value} (hb : H b = some (.tup (k.map kV))) (ry : RelV y u) :
    KT H (putK kvs k y) (storedH xs k b u) := by
  have e : (kvs.any fun kv => decide (kv.1 = k)) = (atKey xs k).isSome := by
    rw [valV_any, (r.val k).isSome_eq, Option.isSome_map]
  unfold putK storedH
  rw [e]
  by_cases q : (atKey xs k).isSome = true
  · rw [if_pos q, if_pos q]; exact r.repl k ry
  · rw [if_neg q, if_neg q]; exact Paired.snoc r ⟨rfl, hb, ry⟩
theorem KT.keeps {H H' : Hp} {kvs : List (List Key × V)} {xs : List (List Key × Addr × Value)} (r : KT H kvs xs) (ht : ∀ b ys, H b = some (.tup ys) → H' b = some (.tup ys)) : KT H' kvs xs :=
  Paired.mapP r fun _ _ z => ⟨z.1, ht _ _ z.2.1, z.2.2⟩

section
variable {P : Program} {w : World} {H : Hp} {h : Heap} {a : Addr}
theorem rd_of {u : HO} (ok : HOk P w H h) (e : Rd H a u) : ObjOk P w H h a u := e.ok ok
theorem dk_rd {kvs : List (Key × V)} (ok : HOk P w H h) (e : Rd H a (.dK kvs)) : kvs.length ≤ sizeLine ∧ (a == sysModules) = false ∧ ∃ vs, KV kvs vs ∧ h.DictOf (mixKind P w) a vs :=
  show ObjOk P w H h a (.dK kvs) from rd_of ok e
theorem dk_of {kvs : List (Key × V)} (ok : HOk P w H h) (e : H a = some (.dK kvs)) : kvs.length ≤ sizeLine ∧ (a == sysModules) = false ∧ ∃ vs, KV kvs vs ∧ h.DictOf (mixKind P w) a vs := dk_rd ok (.inl e)
theorem key_of {ks : List Key} (ok : HOk P w H h) (e : H a = some (.tup (ks.map kV))) : (tupleKind (mixKind P w)).is h ks a := by
  obtain ⟨_, its, r, o, h1, h2, n, h3⟩ := (show ObjOk P w H h a (.tup (ks.map kV)) from ok a _ e)
  exact ⟨o, its.toArray, n, h1, h2, h3, by simpa using items_are r⟩
theorem dt_rd {kvs : List (List Key × V)} (ok : HOk P w H h) (e : Rd H a (.dT kvs)) : kvs.length ≤ sizeLine ∧ (a == sysModules) = false ∧
    ∃ xs, KT H kvs xs ∧ h.DictOfH (tupleKind (mixKind P w)) a xs := by
  obtain ⟨z, y, xs, r, o, es, ep, h1, h2, h3, h4, h5⟩ := (show ObjOk P w H h a (.dT kvs) from rd_of ok e)
  refine ⟨z, y, xs, r, o, es, ep, h1, h2, h3, h4, fun x hx => ?_, h5⟩
  have all : ∀ {l : List (List Key × V)} {m : List (List Key × Addr × Value)}, KT H l m → ∀ x ∈ m, (tupleKind (mixKind P w)).is h x.1 x.2.1 := by
    intro l m q
    induction q with
    | nil => intro x hx; exact nomatch hx
    | @cons p q ps qs hq t ih =>
      intro x hx
      rcases List.mem_cons.mp hx with e | hx
      · subst e
        exact key_of ok (by rw [← hq.1]; exact hq.2.1)
      · exact ih x hx
  exact all r x hx
theorem dt_of {kvs : List (List Key × V)} (ok : HOk P w H h) (e : H a = some (.dT kvs)) : kvs.length ≤ sizeLine ∧ (a == sysModules) = false ∧
    ∃ xs, KT H kvs xs ∧ h.DictOfH (tupleKind (mixKind P w)) a xs := dt_rd ok (.inl e)
end

def DGet (H : Hp) (a : Addr) (y : V) (r : Option V) : Prop :=
  (∃ kvs k, Rd H a (.dK kvs) ∧ y = kV k ∧ r = valV kvs k) ∨ ∃ kvs k b, Rd H a (.dT kvs) ∧ y = .ref b ∧ H b = some (.tup (k.map kV)) ∧ r = valV kvs k
def DPut (H : Hp) (a : Addr) (y v : V) (H' : Hp) : Prop :=
  (∃ kvs k, H a = some (.dK kvs) ∧ y = kV k ∧ kvs.length < sizeLine ∧ H' = upd H a (.dK (putK kvs k v))) ∨
  ∃ kvs k b, H a = some (.dT kvs) ∧ y = .ref b ∧ H b = some (.tup (k.map kV)) ∧ kvs.length < sizeLine ∧ H' = upd H a (.dT (putK kvs k v))
theorem DGet.k {H : Hp} {a : Addr} {kvs : List (Key × V)} {k : Key} (e : H a = some (.dK kvs)) : DGet H a (kV k) (valV kvs k) := .inl ⟨kvs, k, .inl e, rfl, rfl⟩
theorem DGet.t {H : Hp} {a b : Addr} {kvs : List (List Key × V)} {k : List Key} (e : H a = some (.dT kvs)) (eb : H b = some (.tup (k.map kV))) : DGet H a (.ref b) (valV kvs k) := .inr ⟨kvs, k, b, .inl e, rfl, eb, rfl⟩
theorem DPut.k {H : Hp} {a : Addr} {kvs : List (Key × V)} {k : Key} {v : V} (e : H a = some (.dK kvs)) (hl : kvs.length < sizeLine) : DPut H a (kV k) v (upd H a (.dK (putK kvs k v))) := .inl ⟨kvs, k, e, rfl, hl, rfl⟩
theorem DPut.t {H : Hp} {a b : Addr} {kvs : List (List Key × V)} {k : List Key} {v : V} (e : H a = some (.dT kvs)) (eb : H b = some (.tup (k.map kV))) (hl : kvs.length < sizeLine) :
    DPut H a (.ref b) v (upd H a (.dT (putK kvs k v))) := .inr ⟨kvs, k, b, e, rfl, eb, hl, rfl⟩


section
variable {X : Cx} {pins : List (Addr × Obj)} {σ : St} {H : Hp} {s : Shared} {a : Addr} {y v : V} {u r : Value} {o : Option V} {A : Around} {E : Value → Shared → Prop}

theorem Inv.big (I : Inv X pins σ H s) : sysModules < s.heap.objs.size := by
  have h : mainGlobals < s.heap.objs.size := (I.mod.glob.keeps I.bk).lt
  exact Nat.lt_trans (by decide) h

theorem d_notIn {Q : Value → Shared → Prop} (hu : A.units + 1 < cLine) (I : Inv X pins σ H s) (g : DGet H a y o) (ry : RelV y u) (h : ∀ s', Inv X pins σ H s' → Q (.bool (!o.isSome)) s') :
    wpAny (model X.prog X.w) A (compareOp .NotIn u (.ref a)) Q E s := by
  rcases g with ⟨kvs, k, e, ey, l⟩ | ⟨kvs, k, b, e, ey, eb, l⟩
  · subst ey
    obtain ⟨z, hd, vs, rel, dd⟩ := dk_rd I.hok e
    refine wpAny_notIn_of (kV_is ry) hd dd.mapOf ?_
    rw [← (rel.val k).isSome_eq, ← l]
    exact h _ (I.tok _)
  · subst ey
    cases (show u = Value.ref b from ry)
    obtain ⟨z, hd, xs, rel, dd⟩ := dt_rd I.hok e
    refine wpAny_notIn_heap (tupleKind_room_in1 hu) (key_of I.hok eb) hd dd ?_
    have q := (rel.val k).isSome_eq
    rw [Option.isSome_map] at q
    rw [← q, ← l]
    exact h _ (I.tok _)
theorem d_write {h' : Heap} {t' : Nat} {ob : HO} (I : Inv X pins σ H s) (mu : Mut (H a)) (hs : Heap.SameBut a s.heap h') (he : ∃ q, h'.get? a = some q) (new : ObjOk X.prog X.w (upd H a ob) h' a ob) :
    Inv X pins σ (upd H a ob) { s with heap := h', toks := t' } :=
  I.write (x := a) (e := a) mu (.inl rfl) (fun b q hb z => (hs.2 b hb).trans z) he new
theorem dk_new {P : Program} {w : World} {H' : Hp} {h' : Heap} {kvs : List (Key × V)} {vs : List (Key × Value)} (z : kvs.length ≤ sizeLine) (hd : (a == sysModules) = false) (rel : KV kvs vs) (dd : h'.DictOf (mixKind P w) a vs) :
    ObjOk P w H' h' a (.dK kvs) := ⟨z, hd, vs, rel, dd⟩
theorem d_setItem {H' : Hp} {Q : Unit → Shared → Prop} (hu : A.units + 1 < cLine) (I : Inv X pins σ H s) (g : DPut H a y v H') (ry : RelV y u) (rv : RelV v r) (h : ∀ s', Inv X pins σ H' s' → Q () s') :
    wpAny (model X.prog X.w) A (setItem (.ref a) u r) Q E s := by
  rcases g with ⟨kvs, k, e, ey, l, eH⟩ | ⟨kvs, k, b, e, ey, eb, l, eH⟩
  · subst ey eH
    obtain ⟨z, hd, vs, rel, dd⟩ := dk_of I.hok e
    have hz : vs.length ≤ sizeLine := by rw [← rel.length]; exact z
    have hl : (putK kvs k v).length ≤ sizeLine := by have := length_putK kvs k v; omega
    refine wpAny_setItem_pairs (hsz := hz) (kV_is ry) dd fun h' dd' hs => h _ ?_
    have he : ∃ q, h'.get? a = some q := let ⟨q, _, _, hq, _⟩ := dd'; ⟨q, hq⟩
    exact d_write I (by rw [e]; exact True.intro) hs he (dk_new hl hd (rel.put k rv) dd')
  · subst ey eH
    cases (show u = Value.ref b from ry)
    obtain ⟨z, hd, xs, rel, dd⟩ := dt_of I.hok e
    have hz : xs.length ≤ sizeLine := by rw [← Paired.length rel]; exact z
    have hl : (putK kvs k v).length ≤ sizeLine := by have := length_putK kvs k v; omega
    refine wpAny_setItem_heap (hsz := hz) (tupleKind_room_in1 hu) (key_of I.hok eb) dd fun h' dd' hs => h _ ?_
    obtain ⟨q, es, ep, hq, h2, h3, h4, _, h5⟩ := dd'
    refine d_write I (by rw [e]; exact True.intro) hs ⟨q, hq⟩ ⟨hl, hd, _, (rel.put k eb rv).keeps fun c ys ec => ?_, q, es, ep, hq, h2, h3, h4, h5⟩
    rw [upd_ne (ne_of ec e (fun z => nomatch z))]
    exact ec
end

section
variable {X : Cx} {pins : List (Addr × Obj)} {σ : St} {H : Hp} {s : Shared} {a : Addr} {kvs : List (Key × V)} {k : Key} {u : Value} {A : Around} {E : Value → Shared → Prop}
end


def tDNotIn (ty td : TE) : TE := fun σ H Q => ty σ H fun y H1 => td σ H1 fun x H2 => ∃ a o, x = .ref a ∧ DGet H2 a y o ∧ Q (.bl (!o.isSome)) H2
def sDPut (td ty tv : TE) : TS := fun D σ H => tv σ H fun v H1 => td σ H1 fun x H2 => ty σ H2 fun y H3 => ∃ a H4, x = .ref a ∧ DPut H3 a y v H4 ∧ D.nx σ H4
section
variable {X : Cx} {o i e value : Expr} {pos pos' tpos : Pos} {td ty tv : TE}
theorem pc_dnotin (hu : X.A.units + 1 < cLine) (hi : PE X i ty) (ho : PE X o td) : PC X .NotIn i o (tDNotIn ty td) := by
  intro pins s σ H Q I h
  refine thn (hi pins s σ H _ I h) fun iv s1 ⟨y, H1, I1, ry, q1⟩ => thn (ho pins s1 σ H1 _ I1 q1) fun u s2 ⟨x, H2, I2, rx, a, ov, ex, g, q2⟩ => ?_
  subst ex
  obtain rfl : u = Value.ref a := rx
  exact d_notIn hu I2 g ry fun s3 I3 => ⟨.bl (!ov.isSome), H2, I3, rfl, q2⟩
theorem ps_dput (hu : X.A.units + 1 < cLine) (ho : PE X o td) (hi : PE X i ty) (hv : PE X value tv) (hs : swapsWith value (some (.Subscript o i pos')) pos.line X.env = pure false) :
    PS X (.Assign [.Subscript o i pos'] value pos) (sDPut td ty tv) := by
  intro pins s σ H D I h
  refine wpAny_Assign_Subscript (thn (hv pins s σ H _ I h) fun r s1 ⟨v, H1, I1, rv, q1⟩ => thn (ho pins s1 σ H1 _ I1 q1) fun u s2 ⟨x, H2, I2, rx, q2⟩ => thn (hi pins s2 σ H2 _ I2 q2) fun iv s3 ⟨y, H3, I3, ry, a, H4, ex, g, q3⟩ => ?_) hs
  subst ex
  obtain rfl : u = Value.ref a := rx
  exact d_setItem hu I3 g ry rv fun s4 I4 => ⟨σ, H4, I4, q3⟩
end


theorem dk_empty {P : Program} {w : World} {H : Hp} (h : Heap) (hb : sysModules < h.objs.size) : ObjOk P w H (h.push { cls := .type "dict", data := .dict #[] }) h.objs.size (.dK []) :=
  ⟨Nat.zero_le _, beq_eq_false_iff_ne.mpr (Ne.symm (Nat.ne_of_lt hb)), [], .nil, Heap.DictOf.new h⟩
def tDNewK : TE := fun _ H Q => ∀ p, H p = none → Q (.ref p) (upd H p (.dK []))
section
variable {X : Cx} {pos : Pos}
theorem pe_dnewK : PE X (.Dict [] [] pos) tDNewK := fun pins s σ H Q I h =>
  wpAny_Dict_empty ⟨.ref s.heap.objs.size, _, I.laid (a := s.heap.objs.size) (o := .dK []) (t' := s.toks) (fun _ _ q => Heap.get?_push_of_some _ q) (Nat.le_refl _) (dk_empty s.heap I.big), rfl, h _ (I.hok.fresh (Nat.le_refl _))⟩
end

end L2

namespace DL
open PySem PySem.Spec PyProof.Rows L2

abbrev St := L2.St
inductive D where
  | non | bl (b : Bool) | int (i : Int) | str (x : Str) | lst (xs : List D) | tup (xs : List D) | exc (n : Str) | fn (n : Str)
  deriving Inhabited

inductive R (α : Type) where
  | ok (a : α) | err (c : Str) | bad
def R.bind {α β : Type} (r : R α) (f : α → R β) : R β := match r with
  | .ok a => f a
  | .err c => .err c
  | .bad => .bad
def R.of {α : Type} : Option α → R α
  | some a => .ok a
  | none => .bad
theorem R.ok_bind {α β : Type} (a : α) (f : α → R β) : (R.ok a).bind f = f a := rfl
theorem R.of_some {α : Type} (a : α) : R.of (some a) = .ok a := rfl
def Good {α : Type} (E : Str → Hp → Prop) (H₀ : Hp) (r : R α) (post : α → Prop) : Prop := match r with
  | .ok a => post a
  | .err c => ∀ H', Same H₀ H' → E c H'
  | .bad => False
theorem Good.bind {α β : Type} {E : Str → Hp → Prop} {H₀ : Hp} {r : R α} {k : α → R β} {post : β → Prop} (h : Good E H₀ (r.bind k) post) : Good E H₀ r (fun a => Good E H₀ (k a) post) := by
  cases r with
  | ok a => exact h
  | err c => exact h
  | bad => exact h
theorem Good.mono {α : Type} {E : Str → Hp → Prop} {H₀ : Hp} {r : R α} {p q : α → Prop} (h : Good E H₀ r p) (w : ∀ a, r = .ok a → p a → q a) : Good E H₀ r q := by
  cases r with
  | ok a => exact w a rfl h
  | err c => exact h
  | bad => exact h
theorem Good.of_bind {α β : Type} {E : Str → Hp → Prop} {H₀ : Hp} {r : R α} {k : α → R β} {p : α → Prop} {q : β → Prop} (h : Good E H₀ r p) (w : ∀ a, r = .ok a → p a → Good E H₀ (k a) q) : Good E H₀ (r.bind k) q := by
  cases r with
  | ok a => exact w a rfl h
  | err c => exact h
  | bad => exact h
theorem Good.of {α : Type} {E : Str → Hp → Prop} {H₀ : Hp} {o : Option α} {p : α → Prop} (h : Good E H₀ (R.of o) p) : ∃ a, o = some a ∧ p a := by
  cases o with
  | none => exact False.elim h
  | some a => exact ⟨a, rfl, h⟩

def KL (K : PySem.W.Frag) (a : Addr) (xs : List V) : Prop := ∃ (o : Obj) (its : Array Value) (n : Nat), K.lookup a = some o ∧ o.cls = .type "list" ∧ o.dict = none ∧ o.data = .seq its n ∧ its.size ≤ sizeLine ∧ Vals xs its.toList
def KT (K : PySem.W.Frag) (a : Addr) (xs : List V) : Prop := ∃ (o : Obj) (its : Array Value) (n : Nat), K.lookup a = some o ∧ o.cls = .type "tuple" ∧ o.data = .seq its n ∧ its.size ≤ sizeLine ∧ Vals xs its.toList
def LsAt (K : PySem.W.Frag) (P : Addr → Prop) (H : Hp) (a : Addr) (vs : List V) : Prop := (P a ∧ Rd H a (.lst vs)) ∨ KL K a vs
def TpAt (K : PySem.W.Frag) (P : Addr → Prop) (H : Hp) (a : Addr) (vs : List V) : Prop := (P a ∧ Rd H a (.tup vs)) ∨ KT K a vs
theorem LsAt.sq {K : PySem.W.Frag} {P : Addr → Prop} {H : Hp} {a : Addr} {vs : List V} (h : LsAt K P H a vs) : SqL K H a vs := h.elim (fun z => .inl z.2) .inr
theorem TpAt.sq {K : PySem.W.Frag} {P : Addr → Prop} {H : Hp} {a : Addr} {vs : List V} (h : TpAt K P H a vs) : SqT K H a vs := h.elim (fun z => .inl z.2) .inr
theorem LsAt.any {K : PySem.W.Frag} {H : Hp} {a : Addr} {vs : List V} (h : SqL K H a vs) : LsAt K (fun _ => True) H a vs := h.elim (fun z => .inl ⟨trivial, z⟩) .inr

def excP (a C : Addr) : Heap → Prop := fun h => ∃ vs, h.get? a = some { cls := .ref C, data := .fields vs }
def Is (K : PySem.W.Frag) (P : Addr → Prop) (H : Hp) : D → V → Prop
  | .non, v => v = .non
  | .bl b, v => v = .bl b
  | .int i, v => v = .int i
  | .str x, v => v = .str x
  | .lst ds, v => ∃ a vs, v = .ref a ∧ LsAt K P H a vs ∧ IsL ds vs
  | .tup ds, v => ∃ a vs, v = .ref a ∧ TpAt K P H a vs ∧ IsL ds vs
  | .exc n, v => ∃ a C, v = .ref a ∧ P a ∧ PySem.W.nsIn K mainGlobals n = some (some (.ref C)) ∧ H a = some (.ext (excP a C))
  | .fn n, v => ∃ a, v = .ref a ∧ PySem.W.nsIn K mainGlobals n = some (some (.ref a))
where
  IsL : List D → List V → Prop
  | [], vs => vs = []
  | d :: ds, vs => ∃ v r, vs = v :: r ∧ Is K P H d v ∧ IsL ds r
abbrev IsL (K : PySem.W.Frag) (P : Addr → Prop) (H : Hp) : List D → List V → Prop := Is.IsL K P H

section
variable {K : PySem.W.Frag} {P P' : Addr → Prop} {H H' : Hp}
structure Ext (P P' : Addr → Prop) (H H' : Hp) : Prop where
  p : ∀ a o, P a → H a = some o → P' a
  h : ∀ a o, P a → H a = some o → H' a = some o
theorem Ext.rd (e : Ext P P' H H') {a : Addr} {u : HO} (p : P a) (r : Rd H a u) : P' a ∧ Rd H' a u := by
  rcases r with r | ⟨o, r⟩
  · exact ⟨e.p a _ p r, .inl (e.h a _ p r)⟩
  · exact ⟨e.p a _ p r, .inr ⟨o, e.h a _ p r⟩⟩
theorem LsAt.ext (e : Ext P P' H H') {a : Addr} {vs : List V} (h : LsAt K P H a vs) : LsAt K P' H' a vs := h.elim (fun z => .inl (e.rd z.1 z.2)) .inr
theorem TpAt.ext (e : Ext P P' H H') {a : Addr} {vs : List V} (h : TpAt K P H a vs) : TpAt K P' H' a vs := h.elim (fun z => .inl (e.rd z.1 z.2)) .inr
mutual
theorem Is.ext (e : Ext P P' H H') : ∀ (d : D) (v : V), Is K P H d v → Is K P' H' d v
  | .non, _, h => h
  | .bl _, _, h => h
  | .int _, _, h => h
  | .str _, _, h => h
  | .lst ds, _, ⟨a, vs, e1, l, q⟩ => ⟨a, vs, e1, l.ext e, IsL.ext e ds vs q⟩
  | .tup ds, _, ⟨a, vs, e1, l, q⟩ => ⟨a, vs, e1, l.ext e, IsL.ext e ds vs q⟩
  | .exc n, _, ⟨a, C, e1, p, c, q⟩ => ⟨a, C, e1, e.p a _ p q, c, e.h a _ p q⟩
  | .fn _, _, h => h
theorem IsL.ext (e : Ext P P' H H') : ∀ (ds : List D) (vs : List V), IsL K P H ds vs → IsL K P' H' ds vs
  | [], _, h => h
  | d :: ds, _, ⟨v, r, e1, p, q⟩ => ⟨v, r, e1, Is.ext e d v p, IsL.ext e ds r q⟩
end
theorem Ext.same (s : Same H H') : Ext P P H H' := ⟨fun _ _ p _ => p, fun a o _ h => s a o h⟩
theorem Is.same (s : Same H H') {d : D} {v : V} (h : Is K P H d v) : Is K P H' d v := Is.ext (.same s) d v h
theorem IsL.same (s : Same H H') {d : List D} {v : List V} (h : IsL K P H d v) : IsL K P H' d v := IsL.ext (.same s) d v h
theorem Is.weak {d : D} {v : V} (h : Is K P H d v) : Is K (fun _ => True) H d v := Is.ext ⟨fun _ _ _ _ => trivial, fun _ _ _ q => q⟩ d v h
theorem IsL.weak {d : List D} {v : List V} (h : IsL K P H d v) : IsL K (fun _ => True) H d v := IsL.ext ⟨fun _ _ _ _ => trivial, fun _ _ _ q => q⟩ d v h

def toV : D → Option V
  | .non => some .non
  | .bl b => some (.bl b)
  | .int i => some (.int i)
  | .str x => some (.str x)
  | _ => none
theorem Is.sc {d : D} {z : V} (h : toV d = some z) : Is K P H d z := by
  cases d with
  | non => cases h; rfl
  | bl b => cases h; rfl
  | int b => cases h; rfl
  | str b => cases h; rfl
  | lst b => cases h
  | exc _ => cases h
  | fn _ => cases h
  | tup b => cases h
theorem Is.of_sc {d : D} {z v : V} (h : toV d = some z) (i : Is K P H d v) : v = z := by
  cases d with
  | non => cases h; exact i
  | bl b => cases h; exact i
  | int b => cases h; exact i
  | str b => cases h; exact i
  | lst b => cases h
  | exc _ => cases h
  | fn _ => cases h
  | tup b => cases h
theorem IsL.length : ∀ {ds : List D} {vs : List V}, IsL K P H ds vs → vs.length = ds.length
  | [], _, h => by subst h; rfl
  | d :: ds, _, ⟨v, r, e, _, q⟩ => by subst e; simp [IsL.length q]
theorem IsL.get : ∀ {ds : List D} {vs : List V} {i : Nat} {d : D}, IsL K P H ds vs → ds[i]? = some d → ∃ v, vs[i]? = some v ∧ Is K P H d v
  | [], _, _, _, _, e => by simp at e
  | d :: ds, _, 0, _, ⟨v, r, e, p, q⟩, e2 => by subst e; simp at e2; subst e2; exact ⟨v, rfl, p⟩
  | d :: ds, _, i + 1, _, ⟨v, r, e, p, q⟩, e2 => by
    subst e
    obtain ⟨v', h1, h2⟩ := IsL.get (i := i) q (by simpa using e2)
    exact ⟨v', by simpa using h1, h2⟩
theorem IsL.app : ∀ {ds es : List D} {vs ws : List V}, IsL K P H ds vs → IsL K P H es ws → IsL K P H (ds ++ es) (vs ++ ws)
  | [], _, _, _, h, q => by
    have h' : _ = [] := h
    subst h'; exact q
  | d :: ds, _, _, _, ⟨v, r, e, p, q⟩, q2 => by subst e; exact ⟨v, _, rfl, p, IsL.app q q2⟩
theorem IsL.one {d : D} {v : V} (h : Is K P H d v) : IsL K P H [d] [v] := ⟨v, [], rfl, h, rfl⟩
theorem IsL.nil : IsL K P H [] [] := rfl
theorem IsL.cons {d : D} {v : V} {ds : List D} {vs : List V} (h : Is K P H d v) (q : IsL K P H ds vs) : IsL K P H (d :: ds) (v :: vs) := ⟨v, vs, rfl, h, q⟩
theorem IsL.drop : ∀ {ds : List D} {vs : List V} (n : Nat), IsL K P H ds vs → IsL K P H (ds.drop n) (vs.drop n)
  | _, _, 0, h => h
  | [], _, n + 1, h => by
    have h' : _ = [] := h
    subst h'; exact rfl
  | d :: ds, _, n + 1, ⟨v, r, e, p, q⟩ => by subst e; exact IsL.drop n q
theorem IsL.take : ∀ {ds : List D} {vs : List V} (n : Nat), IsL K P H ds vs → IsL K P H (ds.take n) (vs.take n)
  | _, _, 0, _ => rfl
  | [], _, n + 1, h => by
    have h' : _ = [] := h
    subst h'; exact rfl
  | d :: ds, _, n + 1, ⟨v, r, e, p, q⟩ => by subst e; exact ⟨v, _, rfl, p, IsL.take n q⟩
theorem IsL.set : ∀ {ds : List D} {vs : List V} {d : D} {v : V} (i : Nat), IsL K P H ds vs → Is K P H d v → IsL K P H (ds.set i d) (vs.set i v)
  | [], _, _, _, _, h, _ => by
    have h' : _ = [] := h
    subst h'; exact rfl
  | d :: ds, _, _, _, 0, ⟨v, r, e, p, q⟩, h => by subst e; exact ⟨_, _, rfl, h, q⟩
  | d :: ds, _, _, _, i + 1, ⟨v, r, e, p, q⟩, h => by subst e; exact ⟨v, _, rfl, p, IsL.set i q h⟩
end

abbrev Trp := Int × Int × List Int
inductive Ct where
  | ls (nss : List (List Int)) | tp (nss : List (List Int)) | dk (ks : List Int) | tq (n : Int) (ns : List Int) | tr (ts : List Trp)
instance : Coe (List (List Int)) Ct := ⟨Ct.ls⟩
inductive Sl where
  | no | val (d : D) | own (xs : List D) | raw (v : V) | deep (c : Ct)
abbrev DE := List Sl
structure Gh where
  P₀ : Addr → Prop
  H₀ : Hp
def Gh.P (g : Gh) (os : List Addr) (a : Addr) : Prop := (g.P₀ a ∨ g.H₀ a = none) ∧ a ∉ os
structure DpG (hd : List V → HO) (H : Hp) (os : List Addr) (a : Addr) (as : List Addr) (nss : List (List Int)) : Prop where
  ma : a ∈ os
  ha : H a = some (hd (as.map V.ref))
  len : as.length = nss.length
  nd : (a :: as).Nodup
  it : ∀ (k : Nat) (b : Addr) (ns : List Int), as[k]? = some b → nss[k]? = some ns → b ∈ os ∧ H b = some (.lst (ns.map V.int))
theorem DpG.mem {hd : List V → HO} {H : Hp} {os : List Addr} {a : Addr} {as : List Addr} {nss : List (List Int)} (d : DpG hd H os a as nss) : ∀ x ∈ a :: as, x ∈ os ∧ ∃ o, H x = some o := fun x hx => by
  rcases List.mem_cons.mp hx with rfl | hx
  · exact ⟨d.ma, _, d.ha⟩
  · obtain ⟨k, hk, rfl⟩ := List.getElem_of_mem hx
    have hk' : k < nss.length := by rw [← d.len]; exact hk
    have q := d.it k _ _ (List.getElem?_eq_getElem hk) (List.getElem?_eq_getElem hk')
    exact ⟨q.1, _, q.2⟩
theorem DpG.to {hd : List V → HO} {H H' : Hp} {os os' : List Addr} {a : Addr} {as : List Addr} {nss : List (List Int)} (d : DpG hd H os a as nss) (h : ∀ x ∈ a :: as, x ∈ os' ∧ H' x = H x) : DpG hd H' os' a as nss :=
  ⟨(h a (by simp)).1, by rw [(h a (by simp)).2]; exact d.ha, d.len, d.nd, fun k b ns e1 e2 => by
    have q := d.it k b ns e1 e2
    have hb := h b (List.mem_cons_of_mem _ (List.mem_of_getElem? e1))
    exact ⟨hb.1, by rw [hb.2]; exact q.2⟩⟩
def TrI (H : Hp) (as : List Addr) (t : Trp) (v : V) : Prop := ∃ b c, v = .ref b ∧ b ∈ as ∧ c ∈ as ∧ H b = some (.tup [.int t.1, .int t.2.1, .ref c]) ∧ H c = some (.lst (t.2.2.map V.int))
structure DpR (H : Hp) (os : List Addr) (a : Addr) (as : List Addr) (ts : List Trp) : Prop where
  ma : a ∈ os
  na : a ∉ as
  mem : ∀ x ∈ as, x ∈ os ∧ ∃ o, H x = some o
  at_ : ∃ vs, H a = some (.lst vs) ∧ vs.length = ts.length ∧ ∀ (k : Nat) (t : Trp) (v : V), ts[k]? = some t → vs[k]? = some v → TrI H as t v
theorem TrI.to {H H' : Hp} {as as' : List Addr} {t : Trp} {v : V} (d : TrI H as t v) (h : ∀ x ∈ as, x ∈ as' ∧ H' x = H x) : TrI H' as' t v := by
  obtain ⟨b, c, e, h1, h2, h3, h4⟩ := d
  exact ⟨b, c, e, (h b h1).1, (h c h2).1, by rw [(h b h1).2]; exact h3, by rw [(h c h2).2]; exact h4⟩
theorem DpR.to {H H' : Hp} {os os' : List Addr} {a : Addr} {as : List Addr} {ts : List Trp} (d : DpR H os a as ts) (h : ∀ x ∈ a :: as, x ∈ os' ∧ H' x = H x) : DpR H' os' a as ts := by
  obtain ⟨vs, h1, h2, h3⟩ := d.at_
  refine ⟨(h a (by simp)).1, d.na, fun x hx => ?_, vs, by rw [(h a (by simp)).2]; exact h1, h2, fun k t v e1 e2 => (h3 k t v e1 e2).to fun x hx => ⟨hx, (h x (List.mem_cons_of_mem _ hx)).2⟩⟩
  obtain ⟨q1, o, q2⟩ := d.mem x hx
  have q := h x (List.mem_cons_of_mem _ hx)
  exact ⟨q.1, o, by rw [q.2]; exact q2⟩
def kvT (ks : List Int) : List (Key × V) := ks.map fun k => (Sum.inl k, V.bl true)
abbrev Dp (H : Hp) (os : List Addr) (a : Addr) (as : List Addr) (c : Ct) : Prop := match c with
  | .ls nss => DpG HO.lst H os a as nss
  | .tp nss => DpG HO.tup H os a as nss
  | .dk ks => a ∈ os ∧ as = [] ∧ H a = some (.dK (kvT ks))
  | .tq n ns => ∃ b, as = [b] ∧ a ∈ os ∧ b ∈ os ∧ a ≠ b ∧ H a = some (.tup [.int n, .ref b]) ∧ H b = some (.lst (ns.map V.int))
  | .tr ts => DpR H os a as ts
theorem Dp.mem {H : Hp} {os : List Addr} {a : Addr} {as : List Addr} {c : Ct} (d : Dp H os a as c) : ∀ x ∈ a :: as, x ∈ os ∧ ∃ o, H x = some o := by
  cases c with
  | ls nss => exact DpG.mem d
  | tp nss => exact DpG.mem d
  | dk ks =>
    obtain ⟨h1, rfl, h2⟩ := d
    intro x hx
    rcases List.mem_cons.mp hx with rfl | hx
    · exact ⟨h1, _, h2⟩
    · cases hx
  | tq n ns =>
    obtain ⟨b, rfl, h1, h2, h3, h4, h5⟩ := d
    intro x hx
    rcases List.mem_cons.mp hx with rfl | hx
    · exact ⟨h1, _, h4⟩
    · rcases List.mem_cons.mp hx with rfl | hx
      · exact ⟨h2, _, h5⟩
      · cases hx
  | tr ts =>
    have d' : DpR H os a as ts := d
    intro x hx
    rcases List.mem_cons.mp hx with rfl | hx
    · obtain ⟨vs, h1, _⟩ := d'.at_
      exact ⟨d'.ma, _, h1⟩
    · exact d'.mem x hx
theorem Dp.to {H H' : Hp} {os os' : List Addr} {a : Addr} {as : List Addr} {c : Ct} (d : Dp H os a as c) (h : ∀ x ∈ a :: as, x ∈ os' ∧ H' x = H x) : Dp H' os' a as c := by
  cases c with
  | ls nss => exact DpG.to d h
  | tp nss => exact DpG.to d h
  | dk ks =>
    obtain ⟨h1, rfl, h2⟩ := d
    exact ⟨(h a (by simp)).1, rfl, by rw [(h a (by simp)).2]; exact h2⟩
  | tq n ns =>
    obtain ⟨b, rfl, h1, h2, h3, h4, h5⟩ := d
    exact ⟨b, rfl, (h a (by simp)).1, (h b (by simp)).1, h3, by rw [(h a (by simp)).2]; exact h4, by rw [(h b (by simp)).2]; exact h5⟩
  | tr ts => exact DpR.to d h
theorem Dp.ma {H : Hp} {os : List Addr} {a : Addr} {as : List Addr} {nss : List (List Int)} (d : Dp H os a as (.ls nss)) : a ∈ os := DpG.ma d
theorem Dp.ha {H : Hp} {os : List Addr} {a : Addr} {as : List Addr} {nss : List (List Int)} (d : Dp H os a as (.ls nss)) : H a = some (.lst (as.map V.ref)) := DpG.ha d
theorem Dp.len {H : Hp} {os : List Addr} {a : Addr} {as : List Addr} {nss : List (List Int)} (d : Dp H os a as (.ls nss)) : as.length = nss.length := DpG.len d
theorem Dp.nd {H : Hp} {os : List Addr} {a : Addr} {as : List Addr} {nss : List (List Int)} (d : Dp H os a as (.ls nss)) : (a :: as).Nodup := DpG.nd d
theorem Dp.it {H : Hp} {os : List Addr} {a : Addr} {as : List Addr} {nss : List (List Int)} (d : Dp H os a as (.ls nss)) : ∀ (k : Nat) (b : Addr) (ns : List Int), as[k]? = some b → nss[k]? = some ns → b ∈ os ∧ H b = some (.lst (ns.map V.int)) := DpG.it d
structure Dps (A : Nat → List Addr) (env : DE) (σ : St) (H : Hp) (os : List Addr) : Prop where
  dp : ∀ (i : Nat) (nss : Ct), env[i]? = some (.deep nss) → ∃ a as, A i = a :: as ∧ σ[i]? = some (some (.ref a)) ∧ Dp H os a as nss
  ow : ∀ (i : Nat) (nss : Ct) (j : Nat) (xs : List D) (b : Addr), env[i]? = some (.deep nss) → env[j]? = some (.own xs) → σ[j]? = some (some (.ref b)) → b ∉ A i
  dj : ∀ (i j : Nat) (nss mss : Ct), i ≠ j → env[i]? = some (.deep nss) → env[j]? = some (.deep mss) → ∀ x ∈ A i, x ∉ A j
theorem Dps.mem {A : Nat → List Addr} {env : DE} {σ : St} {H : Hp} {os : List Addr} (d : Dps A env σ H os) {i : Nat} {nss : Ct} (e : env[i]? = some (.deep nss)) : ∀ x ∈ A i, x ∈ os ∧ ∃ o, H x = some o := fun x hx => by
  obtain ⟨a, as, h1, _, h3⟩ := d.dp i nss e
  rw [h1] at hx
  exact h3.mem x hx
theorem Dps.to {A : Nat → List Addr} {env env' : DE} {σ σ' : St} {H H' : Hp} {os os' : List Addr} (d : Dps A env σ H os)
    (hd : ∀ (j : Nat) (nss : Ct), env'[j]? = some (.deep nss) → env[j]? = some (.deep nss) ∧ σ'[j]? = σ[j]?)
    (ho : ∀ (j : Nat) (xs : List D) (b : Addr), env'[j]? = some (.own xs) → σ'[j]? = some (some (.ref b)) → (∃ ys, env[j]? = some (.own ys) ∧ σ[j]? = some (some (.ref b))) ∨ b ∉ os)
    (hH : ∀ (i : Nat) (nss : Ct), env[i]? = some (.deep nss) → ∀ x ∈ A i, x ∈ os' ∧ H' x = H x) : Dps A env' σ' H' os' where
  dp i nss e := by
    obtain ⟨e', q⟩ := hd i nss e
    obtain ⟨a, as, h1, h2, h3⟩ := d.dp i nss e'
    exact ⟨a, as, h1, by rw [q]; exact h2, h3.to fun x hx => hH i nss e' x (by rw [h1]; exact hx)⟩
  ow i nss j xs b e1 e2 e3 := by
    obtain ⟨e1', _⟩ := hd i nss e1
    rcases ho j xs b e2 e3 with ⟨ys, q1, q2⟩ | q
    · exact d.ow i nss j ys b e1' q1 q2
    · exact fun z => q (d.mem e1' b z).1
  dj i j nss mss hij e1 e2 := d.dj i j nss mss hij (hd i nss e1).1 (hd j mss e2).1
def Deep (env : DE) (σ : St) (H : Hp) (os : List Addr) : Prop := ∃ A, Dps A env σ H os
theorem Deep.none {env : DE} {σ : St} {H : Hp} {os : List Addr} (h : ∀ (i : Nat) (nss : Ct), env[i]? ≠ some (.deep nss)) : Deep env σ H os :=
  ⟨fun _ => [], fun i nss e => (h i nss e).elim, fun i nss _ _ _ e => (h i nss e).elim, fun i _ nss _ _ e => (h i nss e).elim⟩
structure Rel (K : PySem.W.Frag) (g : Gh) (env : DE) (σ : St) (H : Hp) (os : List Addr) : Prop where
  len : σ.length = env.length
  ext : Same g.H₀ H
  val : ∀ (i : Nat) (d : D), env[i]? = some (.val d) → ∃ v, σ[i]? = some (some v) ∧ Is K (g.P os) H d v
  own : ∀ (i : Nat) (xs : List D), env[i]? = some (.own xs) → ∃ a vs, σ[i]? = some (some (.ref a)) ∧ a ∈ os ∧ H a = some (.lst vs) ∧ IsL K (g.P os) H xs vs
  inj : ∀ (i j : Nat) (xs ys : List D) (a : Addr), env[i]? = some (.own xs) → env[j]? = some (.own ys) → σ[i]? = some (some (.ref a)) → σ[j]? = some (some (.ref a)) → i = j
  new : ∀ a ∈ os, g.H₀ a = none ∧ ∃ o, H a = some o
  raw : ∀ (i : Nat) (v : V), env[i]? = some (.raw v) → σ[i]? = some (some v)
  dps : Deep env σ H os
section
variable {K : PySem.W.Frag} {g : Gh} {env : DE} {σ : St} {H H' : Hp} {os : List Addr}
theorem Rel.same (r : Rel K g env σ H os) (s : Same H H') : Rel K g env σ H' os :=
  ⟨r.len, r.ext.trans s, fun i d e => let ⟨v, h1, h2⟩ := r.val i d e; ⟨v, h1, h2.same s⟩,
    fun i xs e => let ⟨a, vs, h1, h2, h3, h4⟩ := r.own i xs e; ⟨a, vs, h1, h2, s a _ h3, h4.same s⟩, r.inj, fun a ha => ⟨(r.new a ha).1, let ⟨o, h⟩ := (r.new a ha).2; ⟨o, s a o h⟩⟩, r.raw, by
    obtain ⟨A, d⟩ := r.dps
    exact ⟨A, d.to (fun j nss e => ⟨e, rfl⟩) (fun j xs b e q => .inl ⟨xs, e, q⟩) fun i nss e x hx => by
      obtain ⟨q1, o, q2⟩ := d.mem e x hx
      exact ⟨q1, by rw [s x o q2, q2]⟩⟩⟩
theorem Rel.fresh (r : Rel K g env σ H os) {a : Addr} (h : H a = none) : g.P os a := by
  refine ⟨.inr (r.ext.free h), fun hm => ?_⟩
  obtain ⟨o, e⟩ := (r.new a hm).2
  rw [h] at e; cases e
theorem same_new {p : Addr} (h : H p = none) (o : HO) : Same H (upd H p o) := fun b u q => by rw [upd_ne (ne_of_none q h)]; exact q
theorem Rel.set (r : Rel K g env σ H os) (i : Nat) {d : D} {v : V} (h : Is K (g.P os) H d v) : Rel K g (env.set i (.val d)) (σ.set i (some v)) H os := by
  refine ⟨by simp [r.len], r.ext, fun j d' e => ?_, fun j xs e => ?_, fun j k xs ys a e1 e2 e3 e4 => ?_, r.new, fun j w e => ?_, ?_⟩
  · by_cases hj : i = j
    · subst hj
      have hi : i < env.length := by
        have := (List.getElem?_eq_some_iff.mp e).1
        simpa using this
      rw [List.getElem?_set_self hi] at e
      cases e
      exact ⟨v, by rw [List.getElem?_set_self (by rw [r.len]; exact hi)], h⟩
    · rw [List.getElem?_set_ne hj] at e
      obtain ⟨v', h1, h2⟩ := r.val j d' e
      exact ⟨v', by rw [List.getElem?_set_ne hj]; exact h1, h2⟩
  · by_cases hj : i = j
    · subst hj
      have hi : i < env.length := by
        have := (List.getElem?_eq_some_iff.mp e).1
        simpa using this
      rw [List.getElem?_set_self hi] at e
      cases e
    · rw [List.getElem?_set_ne hj] at e
      obtain ⟨a, vs, h1, h2⟩ := r.own j xs e
      exact ⟨a, vs, by rw [List.getElem?_set_ne hj]; exact h1, h2⟩
  · have f : ∀ (j : Nat) (xs : List D), (env.set i (Sl.val d))[j]? = some (.own xs) → i ≠ j := fun j xs e hj => by
      subst hj
      have hi : i < env.length := by
        have := (List.getElem?_eq_some_iff.mp e).1
        simpa using this
      rw [List.getElem?_set_self hi] at e
      cases e
    have hj := f j xs e1
    have hk := f k ys e2
    rw [List.getElem?_set_ne hj] at e1 e3
    rw [List.getElem?_set_ne hk] at e2 e4
    exact r.inj j k xs ys a e1 e2 e3 e4
  · by_cases hj : i = j
    · subst hj
      have hi : i < env.length := by
        have := (List.getElem?_eq_some_iff.mp e).1
        simpa using this
      rw [List.getElem?_set_self hi] at e
      cases e
    · rw [List.getElem?_set_ne hj] at e ⊢
      exact r.raw j w e
  · obtain ⟨A, dd⟩ := r.dps
    have f : ∀ (j : Nat) (sl : Sl), (env.set i (Sl.val d))[j]? = some sl → (∀ d', sl ≠ .val d') → i ≠ j ∧ env[j]? = some sl := fun j sl q hn => by
      by_cases hj : i = j
      · subst hj
        have hi : i < env.length := by
          have := (List.getElem?_eq_some_iff.mp q).1
          simpa using this
        rw [List.getElem?_set_self hi] at q
        exact (hn d (Option.some.inj q).symm).elim
      · rw [List.getElem?_set_ne hj] at q
        exact ⟨hj, q⟩
    refine ⟨A, dd.to (fun j nss q => ?_) (fun j xs b q z => ?_) fun j nss q x hx => ⟨(dd.mem q x hx).1, rfl⟩⟩
    · obtain ⟨hj, q⟩ := f j _ q (fun _ z => nomatch z)
      exact ⟨q, by rw [List.getElem?_set_ne hj]⟩
    · obtain ⟨hj, q⟩ := f j _ q (fun _ z => nomatch z)
      rw [List.getElem?_set_ne hj] at z
      exact .inl ⟨xs, q, z⟩
theorem Rel.apart (r : Rel K g env σ H os) {a : Addr} (s : Same H H') (hn : H a = none) : Ext (g.P os) (g.P (a :: os)) H H' :=
  ⟨fun b o p e => ⟨p.1, fun hm => by
    rcases List.mem_cons.mp hm with z | z
    · rw [z, hn] at e; cases e
    · exact p.2 z⟩, fun b o _ e => s b o e⟩
theorem get_set_eq {α : Type} {l : List α} {i : Nat} {x y : α} (e : (l.set i x)[i]? = some y) : y = x := by
  have hi : i < l.length := by
    have := (List.getElem?_eq_some_iff.mp e).1
    simpa using this
  rw [List.getElem?_set_self hi] at e
  cases e; rfl
theorem lt_of_set {α : Type} {l : List α} {i j : Nat} {x y : α} (e : (l.set i x)[j]? = some y) : j < l.length := by
  have := (List.getElem?_eq_some_iff.mp e).1
  simpa using this
theorem Rel.setF (r : Rel K g env σ H os) (s : Same H H') (i : Nat) {xs : List D} {vs : List V} {a : Addr} (hn : H a = none) (hH : H' a = some (.lst vs)) (h : IsL K (g.P (a :: os)) H' xs vs) :
    Rel K g (env.set i (.own xs)) (σ.set i (some (.ref a))) H' (a :: os) := by
  have ap := r.apart s hn
  have old : ∀ (j : Nat) (ys : List D), env[j]? = some (.own ys) → σ[j]? = some (some (.ref a)) → False := fun j ys e q => by
    obtain ⟨b, ws, h1, h2, h3, _⟩ := r.own j ys e
    rw [q] at h1
    cases h1
    rw [hn] at h3; cases h3
  refine ⟨by simp [r.len], r.ext.trans s, fun j d' e => ?_, fun j ys e => ?_, fun j k ys zs b e1 e2 e3 e4 => ?_, fun b hb => ?_, fun j w e => ?_, ?_⟩
  · by_cases hj : i = j
    · subst hj
      exact nomatch get_set_eq e
    · rw [List.getElem?_set_ne hj] at e
      obtain ⟨v, h1, h2⟩ := r.val j d' e
      exact ⟨v, by rw [List.getElem?_set_ne hj]; exact h1, Is.ext ap _ _ h2⟩
  · by_cases hj : i = j
    · subst hj
      have hi := lt_of_set e
      have e' := get_set_eq e
      cases e'
      exact ⟨a, vs, by rw [List.getElem?_set_self (by rw [r.len]; exact hi)], by simp, hH, h⟩
    · rw [List.getElem?_set_ne hj] at e
      obtain ⟨b, ws, h1, h2, h3, h4⟩ := r.own j ys e
      exact ⟨b, ws, by rw [List.getElem?_set_ne hj]; exact h1, List.mem_cons_of_mem _ h2, s _ _ h3, IsL.ext ap _ _ h4⟩
  · by_cases hj : i = j
    · subst hj
      by_cases hk : i = k
      · exact hk
      · have e3' := get_set_eq e3
        cases e3'
        rw [List.getElem?_set_ne hk] at e2 e4
        exact (old k zs e2 e4).elim
    · by_cases hk : i = k
      · subst hk
        have e4' := get_set_eq e4
        cases e4'
        rw [List.getElem?_set_ne hj] at e1 e3
        exact (old j ys e1 e3).elim
      · rw [List.getElem?_set_ne hj] at e1 e3
        rw [List.getElem?_set_ne hk] at e2 e4
        exact r.inj j k ys zs b e1 e2 e3 e4
  · rcases List.mem_cons.mp hb with rfl | hb
    · exact ⟨r.ext.free hn, _, hH⟩
    · obtain ⟨h1, o, h2⟩ := r.new b hb
      exact ⟨h1, o, s _ _ h2⟩
  · by_cases hj : i = j
    · subst hj
      exact nomatch get_set_eq e
    · rw [List.getElem?_set_ne hj] at e ⊢
      exact r.raw j w e
  · obtain ⟨A, dd⟩ := r.dps
    have f : ∀ (j : Nat) (sl : Sl), (env.set i (Sl.own xs))[j]? = some sl → i ≠ j → env[j]? = some sl := fun j sl q hj => by
      rwa [List.getElem?_set_ne hj] at q
    refine ⟨A, dd.to (fun j nss q => ?_) (fun j ys b q z => ?_) fun j nss q x hx => ?_⟩
    · by_cases hj : i = j
      · subst hj
        exact nomatch get_set_eq q
      · exact ⟨f j _ q hj, by rw [List.getElem?_set_ne hj]⟩
    · by_cases hj : i = j
      · subst hj
        have z' := get_set_eq z
        cases z'
        exact .inr fun hm => by
          obtain ⟨o, ho⟩ := (r.new a hm).2
          rw [hn] at ho
          cases ho
      · rw [List.getElem?_set_ne hj] at z
        exact .inl ⟨ys, f j _ q hj, z⟩
    · obtain ⟨q1, o, q2⟩ := dd.mem q x hx
      exact ⟨List.mem_cons_of_mem _ q1, by rw [s x o q2, q2]⟩
theorem Rel.mut (r : Rel K g env σ H os) {i : Nat} {xs xs' : List D} {vs' : List V} {a : Addr} (e : env[i]? = some (.own xs)) (hσ : σ[i]? = some (some (.ref a))) (ha : a ∈ os) (h : IsL K (g.P os) H xs' vs') :
    Rel K g (env.set i (.own xs')) σ (upd H a (.lst vs')) os := by
  have ex : Ext (g.P os) (g.P os) H (upd H a (.lst vs')) := ⟨fun _ _ p _ => p, fun b o p q => by rw [upd_ne (fun z => p.2 (by rw [z]; exact ha))]; exact q⟩
  refine ⟨by simp [r.len], fun b o q => ?_, fun j d' e' => ?_, fun j ys e' => ?_, fun j k ys zs b e1 e2 e3 e4 => ?_, fun b hb => ?_, fun j w e' => ?_, ?_⟩
  · rw [upd_ne (fun z => by rw [z, (r.new a ha).1] at q; cases q)]
    exact r.ext b o q
  · by_cases hj : i = j
    · subst hj
      exact nomatch get_set_eq e'
    · rw [List.getElem?_set_ne hj] at e'
      obtain ⟨v, h1, h2⟩ := r.val j d' e'
      exact ⟨v, h1, Is.ext ex _ _ h2⟩
  · by_cases hj : i = j
    · subst hj
      have e2 := get_set_eq e'
      cases e2
      exact ⟨a, vs', hσ, ha, upd_same, IsL.ext ex _ _ h⟩
    · rw [List.getElem?_set_ne hj] at e'
      obtain ⟨b, ws, h1, h2, h3, h4⟩ := r.own j ys e'
      have hb : b ≠ a := fun z => by
        subst z
        exact hj (r.inj i j xs ys b e e' hσ h1)
      exact ⟨b, ws, h1, h2, by rw [upd_ne hb]; exact h3, IsL.ext ex _ _ h4⟩
  · have f : ∀ (j : Nat) (ys : List D), (env.set i (Sl.own xs'))[j]? = some (.own ys) → ∃ ys', env[j]? = some (.own ys') := fun j ys q => by
      by_cases hj : i = j
      · subst hj; exact ⟨xs, e⟩
      · rw [List.getElem?_set_ne hj] at q; exact ⟨ys, q⟩
    obtain ⟨y1, f1⟩ := f j ys e1
    obtain ⟨y2, f2⟩ := f k zs e2
    exact r.inj j k y1 y2 b f1 f2 e3 e4
  · obtain ⟨h1, o, h2⟩ := r.new b hb
    refine ⟨h1, ?_⟩
    by_cases z : b = a
    · exact ⟨_, by rw [z]; exact upd_same⟩
    · exact ⟨o, by rw [upd_ne z]; exact h2⟩
  · by_cases hj : i = j
    · subst hj
      exact nomatch get_set_eq e'
    · rw [List.getElem?_set_ne hj] at e'
      exact r.raw j w e'
  · obtain ⟨A, dd⟩ := r.dps
    refine ⟨A, dd.to (fun j nss q => ?_) (fun j ys b q z => ?_) fun j nss q x hx => ⟨(dd.mem q x hx).1, ?_⟩⟩
    · by_cases hj : i = j
      · subst hj
        exact nomatch get_set_eq q
      · rw [List.getElem?_set_ne hj] at q
        exact ⟨q, rfl⟩
    · by_cases hj : i = j
      · subst hj
        exact .inl ⟨xs, e, z⟩
      · rw [List.getElem?_set_ne hj] at q
        exact .inl ⟨ys, q, z⟩
    · have hxa : x ≠ a := fun z => dd.ow j nss i xs a q e hσ (by rw [← z]; exact hx)
      rw [upd_ne hxa]
theorem Rel.freeze' (r : Rel K g env σ H os) {i : Nat} {xs : List D} (e : env[i]? = some (.own xs)) : ∃ os', Rel K g (env.set i (.val (.lst xs))) σ H os' ∧ ∀ a ∈ os', a ∈ os := by
  obtain ⟨a, vs, h1, h2, h3, h4⟩ := r.own i xs e
  have ex : Ext (g.P os) (g.P (os.filter (· ≠ a))) H H := ⟨fun b o p _ => ⟨p.1, fun z => p.2 (List.mem_filter.mp z).1⟩, fun _ _ _ q => q⟩
  refine ⟨os.filter (· ≠ a), ⟨by simp [r.len], r.ext, fun j d' e' => ?_, fun j ys e' => ?_, fun j k ys zs b e1 e2 e3 e4 => ?_, fun b hb => r.new b (List.mem_filter.mp hb).1, fun j w e' => ?_, ?_⟩, fun b hb => (List.mem_filter.mp hb).1⟩
  · by_cases hj : i = j
    · subst hj
      have e2 := get_set_eq e'
      cases e2
      exact ⟨.ref a, h1, a, vs, rfl, .inl ⟨⟨.inr (r.new a h2).1, fun z => by simpa using (List.mem_filter.mp z).2⟩, .inl h3⟩, IsL.ext ex _ _ h4⟩
    · rw [List.getElem?_set_ne hj] at e'
      obtain ⟨v, q1, q2⟩ := r.val j d' e'
      exact ⟨v, q1, Is.ext ex _ _ q2⟩
  · by_cases hj : i = j
    · subst hj
      exact nomatch get_set_eq e'
    · rw [List.getElem?_set_ne hj] at e'
      obtain ⟨b, ws, q1, q2, q3, q4⟩ := r.own j ys e'
      have hb : b ≠ a := fun z => by
        subst z
        exact hj (r.inj i j xs ys b e e' h1 q1)
      exact ⟨b, ws, q1, List.mem_filter.mpr ⟨q2, by simpa using hb⟩, q3, IsL.ext ex _ _ q4⟩
  · have f : ∀ (j : Nat) (ys : List D), (env.set i (Sl.val (.lst xs)))[j]? = some (.own ys) → env[j]? = some (.own ys) := fun j ys q => by
      by_cases hj : i = j
      · subst hj; exact nomatch get_set_eq q
      · rw [List.getElem?_set_ne hj] at q; exact q
    exact r.inj j k ys zs b (f j ys e1) (f k zs e2) e3 e4
  · by_cases hj : i = j
    · subst hj; exact nomatch get_set_eq e'
    · rw [List.getElem?_set_ne hj] at e'
      exact r.raw j w e'
  · obtain ⟨A, dd⟩ := r.dps
    refine ⟨A, dd.to (fun j nss q => ?_) (fun j ys b q z => ?_) fun j nss q x hx => ⟨List.mem_filter.mpr ⟨(dd.mem q x hx).1, ?_⟩, rfl⟩⟩
    · by_cases hj : i = j
      · subst hj
        exact nomatch get_set_eq q
      · rw [List.getElem?_set_ne hj] at q
        exact ⟨q, rfl⟩
    · by_cases hj : i = j
      · subst hj
        exact nomatch get_set_eq q
      · rw [List.getElem?_set_ne hj] at q
        exact .inl ⟨ys, q, z⟩
    · have : x ≠ a := fun z => dd.ow j nss i xs a q e h1 (z ▸ hx)
      simpa using this
end

section
variable (K : PySem.W.Frag) (E : Str → Hp → Prop)
def tD (f : DE → R D) : TE := fun σ H Q => ∃ g env os, Rel K g env σ H os ∧ Good E g.H₀ (f env) fun d => ∀ v H', Same H H' → Is K (g.P os) H' d v → Q v H'
def tB (f : DE → R D) : TE := fun σ H Q => ∃ g env os, Rel K g env σ H os ∧ Good E g.H₀ (f env) fun d => ∀ v H', Same H H' → Is K (fun _ => True) H' d v → Q v H'
def tF (f : DE → R (List D)) : TE := fun σ H Q => ∃ g env os, Rel K g env σ H os ∧ Good E g.H₀ (f env) fun xs => ∀ a vs H', Same H H' → H a = none → H' a = some (.lst vs) → IsL K (g.P (a :: os)) H' xs vs → Q (.ref a) H'
def tL (f : DE → R (List D)) : TE := fun σ H Q => ∃ g env os, Rel K g env σ H os ∧ Good E g.H₀ (f env) fun xs => ∀ a vs H', Same H H' → SqL K H' a vs → IsL K (g.P os) H' xs vs → Q (.ref a) H'
def tT (f : DE → R Bool) : TT := fun σ H Q => ∃ g env os, Rel K g env σ H os ∧ Good E g.H₀ (f env) fun b => ∀ H', Same H H' → Q b H'
def tAr (f : DE → R (List D)) : TA := fun σ H Q => ∃ g env os, Rel K g env σ H os ∧ Good E g.H₀ (f env) fun ds => ∀ vs H', Same H H' → IsL K (g.P os) H' ds vs → Q vs H'
def tArB (f : DE → R (List D)) : TA := fun σ H Q => ∃ g env os, Rel K g env σ H os ∧ Good E g.H₀ (f env) fun ds => ∀ vs H', Same H H' → IsL K (fun _ => True) H' ds vs → Q vs H'
end
inductive Out where
  | nx (e : DE) | bk (e : DE) | ct (e : DE) | rt (d : D) | rtF (xs : List D) | rtT (nss : List (List Int)) | rtP (nss : List (List Int)) | rtQ (q : Int × List Int) | rtC (c : Ct)
structure Stp (H : Hp) (os : List Addr) (H' : Hp) (os' : List Addr) : Prop where
  own : ∀ a ∈ os', a ∈ os ∨ H a = none
  grow : ∀ a, H' a = none → H a = none
  keep : ∀ a o, a ∉ os → H a = some o → H' a = some o
theorem Stp.refl (H : Hp) (os : List Addr) : Stp H os H os := ⟨fun _ h => .inl h, fun _ h => h, fun _ _ _ h => h⟩
theorem Stp.same {H H' : Hp} (s : Same H H') (os : List Addr) : Stp H os H' os := ⟨fun _ h => .inl h, fun _ h => s.free h, fun _ _ _ h => s _ _ h⟩
theorem Stp.trans {H H1 H2 : Hp} {os os1 os2 : List Addr} (a : Stp H os H1 os1) (b : Stp H1 os1 H2 os2) : Stp H os H2 os2 where
  own := fun x h => (b.own x h).elim (fun z => a.own x z) fun z => .inr (a.grow x z)
  grow := fun x h => a.grow x (b.grow x h)
  keep := fun x o hn h => b.keep x o (fun z => (a.own x z).elim hn fun q => by rw [h] at q; cases q) (a.keep x o hn h)
theorem Stp.ext {g : Gh} {H H' : Hp} {os os' : List Addr} (s : Stp H os H' os') : Ext (g.P os) (g.P os') H H' :=
  ⟨fun a o p h => ⟨p.1, fun z => (s.own a z).elim p.2 fun q => by rw [h] at q; cases q⟩, fun a o p h => s.keep a o p.2 h⟩
structure NewG (hd : List V → HO) (H₀ H : Hp) (a : Addr) (as : List Addr) (nss : List (List Int)) : Prop where
  fr : ∀ b ∈ a :: as, H₀ b = none
  nd : (a :: as).Nodup
  len : as.length = nss.length
  ha : H a = some (hd (as.map V.ref))
  it : ∀ (k : Nat) (b : Addr) (ns : List Int), as[k]? = some b → nss[k]? = some ns → H b = some (.lst (ns.map V.int))
theorem NewG.back {hd : List V → HO} {H₀ H1 H : Hp} {a : Addr} {as : List Addr} {nss : List (List Int)} (d : NewG hd H1 H a as nss) (s : Same H₀ H1) : NewG hd H₀ H a as nss := ⟨fun b hb => s.free (d.fr b hb), d.nd, d.len, d.ha, d.it⟩
abbrev NewD := NewG HO.lst
abbrev NewP := NewG HO.tup
structure NewQ (H₀ H : Hp) (a b : Addr) (q : Int × List Int) : Prop where
  fa : H₀ a = none
  fb : H₀ b = none
  ne : a ≠ b
  ha : H a = some (.tup [.int q.1, .ref b])
  hb : H b = some (.lst (q.2.map V.int))
theorem NewQ.back {H₀ H1 H : Hp} {a b : Addr} {q : Int × List Int} (d : NewQ H1 H a b q) (s : Same H₀ H1) : NewQ H₀ H a b q := ⟨s.free d.fa, s.free d.fb, d.ne, d.ha, d.hb⟩
def NewC (H₀ H : Hp) (a : Addr) (c : Ct) : Prop := ∃ as, (∀ x ∈ a :: as, H₀ x = none) ∧ Dp H (a :: as) a as c
theorem NewC.back {H₀ H1 H : Hp} {a : Addr} {c : Ct} (d : NewC H1 H a c) (s : Same H₀ H1) : NewC H₀ H a c := by
  obtain ⟨as, h1, h2⟩ := d
  exact ⟨as, fun x hx => s.free (h1 x hx), h2⟩
def PostO (K : PySem.W.Frag) (g : Gh) (H : Hp) (os : List Addr) (De : Ends) : Out → Prop
  | .nx e => ∀ σ' H' os', Rel K g e σ' H' os' → Stp H os H' os' → De.nx σ' H'
  | .bk e => ∀ σ' H' os', Rel K g e σ' H' os' → Stp H os H' os' → De.bk σ' H'
  | .ct e => ∀ σ' H' os', Rel K g e σ' H' os' → Stp H os H' os' → De.ct σ' H'
  | .rt d => ∀ v H', Same g.H₀ H' → Is K (g.P []) H' d v → De.rt v H'
  | .rtF xs => ∀ a vs H', Same g.H₀ H' → g.H₀ a = none → H' a = some (.lst vs) → IsL K (g.P [a]) H' xs vs → De.rt (.ref a) H'
  | .rtP nss => ∀ (a : Addr) (as : List Addr) (H' : Hp), Same g.H₀ H' → NewP g.H₀ H' a as nss → De.rt (.ref a) H'
  | .rtQ q => ∀ (a b : Addr) (H' : Hp), Same g.H₀ H' → NewQ g.H₀ H' a b q → De.rt (.ref a) H'
  | .rtT nss => ∀ (a : Addr) (as : List Addr) (H' : Hp), Same g.H₀ H' → NewD g.H₀ H' a as nss → De.rt (.ref a) H'
  | .rtC c => ∀ (a : Addr) (H' : Hp), Same g.H₀ H' → NewC g.H₀ H' a c → De.rt (.ref a) H'
theorem PostO.step {K : PySem.W.Frag} {g : Gh} {H H1 : Hp} {os os1 : List Addr} {De : Ends} (s : Stp H os H1 os1) : ∀ {o : Out}, PostO K g H os De o → PostO K g H1 os1 De o
  | .nx e, h => fun σ' H' os' r z => h σ' H' os' r (s.trans z)
  | .bk e, h => fun σ' H' os' r z => h σ' H' os' r (s.trans z)
  | .ct e, h => fun σ' H' os' r z => h σ' H' os' r (s.trans z)
  | .rt d, h => h
  | .rtF xs, h => h
  | .rtP xs, h => h
  | .rtQ xs, h => h
  | .rtT xs, h => h
  | .rtC xs, h => h
def tS (K : PySem.W.Frag) (E : Str → Hp → Prop) (f : DE → R Out) : TS := fun De σ H => ∃ g env os, Rel K g env σ H os ∧ Good E g.H₀ (f env) (PostO K g H os De)
end DL

namespace DL
open PySem PySem.Spec PyProof.Rows L2
section
variable {X : Cx} {E : Str → Hp → Prop} {pos : Pos}
theorem imp {e : Expr} {t t' : TE} (h : PE X e t) (w : ∀ σ H Q, t' σ H Q → t σ H Q) : PE X e t' := fun pins s σ H Q I q => h pins s σ H Q I (w σ H Q q)
theorem impT {e : Expr} {t t' : TT} (h : PT X e t) (w : ∀ σ H Q, t' σ H Q → t σ H Q) : PT X e t' := fun pins s σ H Q I q => h pins s σ H Q I (w σ H Q q)
theorem impW {e : Expr} {t t' : TT} (h : PW X e t) (w : ∀ σ H Q, t' σ H Q → t σ H Q) : PW X e t' := fun wh pins s σ H Q I q => h wh pins s σ H Q I (w σ H Q q)
theorem impA {e : List Expr} {t t' : TA} (h : PA X e t) (w : ∀ σ H Q, t' σ H Q → t σ H Q) : PA X e t' := fun pos pins s σ H Q I q => h pos pins s σ H Q I (w σ H Q q)
theorem impS {e : Stmt} {t t' : TS} (h : PS X e t) (w : ∀ De σ H, t' De σ H → t De σ H) : PS X e t' := fun pins s σ H Q I q => h pins s σ H Q I (w Q σ H q)
theorem impSs {e : List Stmt} {t t' : TS} (h : PSs X e t) (w : ∀ De σ H, t' De σ H → t De σ H) : PSs X e t' := fun pins s σ H Q I q => h pins s σ H Q I (w Q σ H q)

def slV (i : Nat) (env : DE) : R D := match env[i]? with
  | some (.val d) => .ok d
  | _ => .bad
def dT (t : Trp) : D := .tup [.int t.1, .int t.2.1, .lst (t.2.2.map .int)]
def slB (i : Nat) (env : DE) : R D := match env[i]? with
  | some (.val d) => .ok d
  | some (.own xs) => .ok (.lst xs)
  | some (.deep (.ls nss)) => .ok (.lst (nss.map fun ns => .lst (ns.map .int)))
  | some (.deep (.tp nss)) => .ok (.tup (nss.map fun ns => .lst (ns.map .int)))
  | some (.deep (.tq n ns)) => .ok (.tup [.int n, .lst (ns.map .int)])
  | some (.deep (.tr ts)) => .ok (.lst (ts.map dT))
  | _ => .bad
theorem isl_ints {K : PySem.W.Frag} {P : Addr → Prop} {H : Hp} : ∀ (ns : List Int), IsL K P H (ns.map D.int) (ns.map V.int)
  | [] => rfl
  | n :: ns => ⟨_, _, rfl, rfl, isl_ints ns⟩
theorem isl_deep {K : PySem.W.Frag} {H : Hp} {os : List Addr} : ∀ {as : List Addr} {nss : List (List Int)}, as.length = nss.length → (∀ (k : Nat) (b : Addr) (ns : List Int), as[k]? = some b → nss[k]? = some ns → b ∈ os ∧ H b = some (.lst (ns.map V.int))) → IsL K (fun _ => True) H (nss.map fun ns => .lst (ns.map D.int)) (as.map V.ref)
  | [], [], _, _ => rfl
  | [], _ :: _, h, _ => by simp at h
  | _ :: _, [], h, _ => by simp at h
  | a :: as, ns :: nss, h, hi => ⟨_, _, rfl, ⟨a, _, rfl, .inl ⟨trivial, .inl (hi 0 a ns rfl rfl).2⟩, isl_ints ns⟩, isl_deep (by simpa using h) fun k b ms e1 e2 => hi (k + 1) b ms e1 e2⟩
theorem isl_trip {K : PySem.W.Frag} {P : Addr → Prop} {H : Hp} {as : List Addr} (hp : ∀ x ∈ as, P x) : ∀ {ts : List Trp} {vs : List V}, vs.length = ts.length → (∀ (k : Nat) (t : Trp) (v : V), ts[k]? = some t → vs[k]? = some v → TrI H as t v) → IsL K P H (ts.map dT) vs
  | [], [], _, _ => rfl
  | [], _ :: _, h, _ => by simp at h
  | _ :: _, [], h, _ => by simp at h
  | t :: ts, v :: vs, h, hi => by
    obtain ⟨b, c, rfl, h1, h2, h3, h4⟩ := hi 0 t v rfl rfl
    exact ⟨_, _, rfl, ⟨b, _, rfl, .inl ⟨hp b h1, .inl h3⟩, ⟨_, _, rfl, rfl, ⟨_, _, rfl, rfl, ⟨_, _, rfl, ⟨c, _, rfl, .inl ⟨hp c h2, .inl h4⟩, isl_ints t.2.2⟩, rfl⟩⟩⟩⟩, isl_trip hp (by simpa using h) fun k t v e1 e2 => hi (k + 1) t v e1 e2⟩
def slL (i : Nat) (env : DE) : R (List D) := match env[i]? with
  | some (.val (.lst xs)) => .ok xs
  | some (.own xs) => .ok xs
  | _ => .bad
theorem nD (i : Nat) {x : Str} (hN : X.N[i]? = some x := by rfl) (hv : Vis X.env.scope x := by first | exact Or.inl rfl | exact Or.inr (Or.inl rfl) | exact Or.inr (Or.inr rfl)) (hd : (x == ("__debug__" : Str)) = false := by decide)
    (hcd : (x == ("__classdict__" : Str)) = false := by decide) : PE X (.Name x pos) (tD X.K E (slV i)) := imp (pe_var hN hv hd hcd) fun σ H Q ⟨g, env, os, r, m⟩ => by
  unfold slV at m
  cases e : env[i]? with
  | none => rw [e] at m; exact m.elim
  | some sl =>
    cases sl with
    | no => rw [e] at m; exact m.elim
    | raw _ => rw [e] at m; exact m.elim
    | deep _ => rw [e] at m; exact m.elim
    | own xs => rw [e] at m; exact m.elim
    | val d =>
      rw [e] at m
      obtain ⟨v, h1, h2⟩ := r.val i d e
      exact ⟨v, h1, m v H (Same.refl H) h2⟩
theorem nB (i : Nat) {x : Str} (hN : X.N[i]? = some x := by rfl) (hv : Vis X.env.scope x := by first | exact Or.inl rfl | exact Or.inr (Or.inl rfl) | exact Or.inr (Or.inr rfl)) (hd : (x == ("__debug__" : Str)) = false := by decide)
    (hcd : (x == ("__classdict__" : Str)) = false := by decide) : PE X (.Name x pos) (tB X.K E (slB i)) := imp (pe_var hN hv hd hcd) fun σ H Q ⟨g, env, os, r, m⟩ => by
  unfold slB at m
  cases e : env[i]? with
  | none => rw [e] at m; exact m.elim
  | some sl =>
    cases sl with
    | no => rw [e] at m; exact m.elim
    | raw _ => rw [e] at m; exact m.elim
    | own xs =>
      rw [e] at m
      obtain ⟨a, vs, h1, _, h3, h4⟩ := r.own i xs e
      exact ⟨.ref a, h1, m _ H (Same.refl H) ⟨a, vs, rfl, .inl ⟨trivial, .inl h3⟩, h4.weak⟩⟩
    | deep c =>
      obtain ⟨A, dd⟩ := r.dps
      obtain ⟨a, as, _, h1, h3⟩ := dd.dp i c e
      cases c with
      | ls nss =>
        rw [e] at m
        exact ⟨.ref a, h1, m _ H (Same.refl H) ⟨a, _, rfl, .inl ⟨trivial, .inl h3.ha⟩, isl_deep h3.len h3.it⟩⟩
      | tp nss =>
        rw [e] at m
        have h4 : DpG HO.tup H os a as nss := h3
        exact ⟨.ref a, h1, m _ H (Same.refl H) ⟨a, _, rfl, .inl ⟨trivial, .inl h4.ha⟩, isl_deep h4.len h4.it⟩⟩
      | dk ks => rw [e] at m; exact m.elim
      | tq n ns =>
        rw [e] at m
        obtain ⟨b, _, _, _, _, h4, h5⟩ := h3
        exact ⟨.ref a, h1, m _ H (Same.refl H) ⟨a, _, rfl, .inl ⟨trivial, .inl h4⟩, ⟨_, _, rfl, rfl, ⟨_, _, rfl, ⟨b, _, rfl, .inl ⟨trivial, .inl h5⟩, isl_ints ns⟩, rfl⟩⟩⟩⟩
      | tr ts =>
        rw [e] at m
        have h4 : DpR H os a as ts := h3
        obtain ⟨vs, q1, q2, q3⟩ := h4.at_
        exact ⟨.ref a, h1, m _ H (Same.refl H) ⟨a, _, rfl, .inl ⟨trivial, .inl q1⟩, isl_trip (fun _ _ => trivial) q2 q3⟩⟩
    | val d =>
      rw [e] at m
      obtain ⟨v, h1, h2⟩ := r.val i d e
      exact ⟨v, h1, m v H (Same.refl H) h2.weak⟩
theorem nL (i : Nat) {x : Str} (hN : X.N[i]? = some x := by rfl) (hv : Vis X.env.scope x := by first | exact Or.inl rfl | exact Or.inr (Or.inl rfl) | exact Or.inr (Or.inr rfl)) (hd : (x == ("__debug__" : Str)) = false := by decide)
    (hcd : (x == ("__classdict__" : Str)) = false := by decide) : PE X (.Name x pos) (tL X.K E (slL i)) := imp (pe_var hN hv hd hcd) fun σ H Q ⟨g, env, os, r, m⟩ => by
  unfold slL at m
  cases e : env[i]? with
  | none => rw [e] at m; exact m.elim
  | some sl =>
    cases sl with
    | no => rw [e] at m; exact m.elim
    | raw _ => rw [e] at m; exact m.elim
    | deep _ => rw [e] at m; exact m.elim
    | own xs =>
      rw [e] at m
      obtain ⟨a, vs, h1, _, h3, h4⟩ := r.own i xs e
      exact ⟨.ref a, h1, m _ _ H (Same.refl H) (SqL.of h3) h4⟩
    | val d =>
      cases d with
      | lst xs =>
        rw [e] at m
        obtain ⟨v, h1, a, vs, rfl, h3, h4⟩ := r.val i _ e
        exact ⟨_, h1, m _ _ H (Same.refl H) h3.sq h4⟩
      | non => rw [e] at m; exact m.elim
      | bl _ => rw [e] at m; exact m.elim
      | int _ => rw [e] at m; exact m.elim
      | str _ => rw [e] at m; exact m.elim
      | exc _ => rw [e] at m; exact m.elim
      | fn _ => rw [e] at m; exact m.elim
      | tup _ => rw [e] at m; exact m.elim
theorem cI {i j} : PE X (.Constant (.int i) j pos) (tD X.K E fun _ => .ok (.int i)) := imp pe_int fun σ H Q ⟨g, env, os, r, m⟩ => m _ H (Same.refl H) rfl
theorem cBl {i j} : PE X (.Constant (.bool i) j pos) (tD X.K E fun _ => .ok (.bl i)) := imp pe_bl fun σ H Q ⟨g, env, os, r, m⟩ => m _ H (Same.refl H) rfl
theorem PE.toB {e : Expr} {f : DE → R D} (h : PE X e (tD X.K E f)) : PE X e (tB X.K E f) := imp h fun σ H Q ⟨g, env, os, r, m⟩ => ⟨g, env, os, r, m.mono fun d _ q v H' s i => q v H' s i.weak⟩
theorem PE.FtoD {e : Expr} {f : DE → R (List D)} (h : PE X e (tF X.K E f)) : PE X e (tD X.K E fun env => (f env).bind fun xs => .ok (.lst xs)) := imp h fun σ H Q ⟨g, env, os, r, m⟩ => ⟨g, env, os, r, m.bind.mono fun d _ q a vs H' s hn hH i => by
  refine q _ H' s ⟨a, vs, rfl, .inl ⟨r.fresh hn, .inl hH⟩, IsL.ext ⟨fun b o p _ => ⟨p.1, fun z => p.2 (List.mem_cons_of_mem _ z)⟩, fun _ _ _ q => q⟩ _ _ i⟩⟩
theorem PE.FtoL {e : Expr} {f : DE → R (List D)} (h : PE X e (tF X.K E f)) : PE X e (tL X.K E f) := imp h fun σ H Q ⟨g, env, os, r, m⟩ => ⟨g, env, os, r, m.mono fun d _ q a vs H' s hn hH i =>
  q _ vs H' s (SqL.of hH) (IsL.ext ⟨fun b o p _ => ⟨p.1, fun z => p.2 (List.mem_cons_of_mem _ z)⟩, fun _ _ _ q => q⟩ _ _ i)⟩
def asL : D → R (List D)
  | .lst xs => .ok xs
  | _ => .bad
theorem PE.DtoL {e : Expr} {f : DE → R D} (h : PE X e (tD X.K E f)) : PE X e (tL X.K E fun env => (f env).bind asL) := imp h fun σ H Q ⟨g, env, os, r, m⟩ => ⟨g, env, os, r, m.bind.mono fun d _ q v H' s i => by
  cases d with
  | lst xs =>
    obtain ⟨a, vs, rfl, h3, h4⟩ := i
    exact q a vs H' s h3.sq h4
  | non => exact q.elim
  | bl _ => exact q.elim
  | int _ => exact q.elim
  | str _ => exact q.elim
  | exc _ => exact q.elim
  | fn _ => exact q.elim
  | tup _ => exact q.elim⟩

abbrev Tr : Addr → Prop := fun _ => True
def Ker2 (X : Cx) (r : R2) (k : D → D → Option D) : Prop := ∀ x y d, k x y = some d → ∃ z, toV d = some z ∧ ∀ H v w (Q : VK), Is X.K Tr H x v → Is X.K Tr H y w → Q z H → r v w H Q
theorem oBin {op : Operator} {r : R2} {a b : Expr} {fa fb : DE → R D} {k : D → D → Option D} (ho : OpR X (binaryOp op) r) (hk : Ker2 X r k) (ha : PE X a (tB X.K E fa)) (hb : PE X b (tB X.K E fb)) :
    PE X (.BinOp a op b pos) (tD X.K E fun env => (fa env).bind fun x => (fb env).bind fun y => R.of (k x y)) :=
  imp (pe_op ho ha hb) fun σ H Q ⟨g, env, os, r, m⟩ => ⟨g, env, os, r, m.bind.mono fun x _ m1 v H1 s1 i1 => ⟨g, env, os, r.same s1, m1.bind.mono fun y _ m2 w H2 s2 i2 => by
    obtain ⟨d, e, q⟩ := m2.of
    obtain ⟨z, hz, hk⟩ := hk x y d e
    exact hk H2 v w Q (i1.same s2) i2 (q z H2 (s1.trans s2) (Is.sc hz))⟩⟩
theorem oCmp {op : CmpOp} {r : R2} {a b : Expr} {fa fb : DE → R D} {k : D → D → Option D} (ho : OpR X (compareOp op) r) (hk : Ker2 X r k) (ha : PE X a (tB X.K E fa)) (hb : PE X b (tB X.K E fb)) (hm : behindInMarks op b = false) :
    PE X (.Compare a [op] [b] pos) (tD X.K E fun env => (fa env).bind fun x => (fb env).bind fun y => R.of (k x y)) :=
  imp (pe_cmpR ho ha hb hm) fun σ H Q ⟨g, env, os, r, m⟩ => ⟨g, env, os, r, m.bind.mono fun x _ m1 v H1 s1 i1 => ⟨g, env, os, r.same s1, m1.bind.mono fun y _ m2 w H2 s2 i2 => by
    obtain ⟨d, e, q⟩ := m2.of
    obtain ⟨z, hz, hk⟩ := hk x y d e
    exact hk H2 v w Q (i1.same s2) i2 (q z H2 (s1.trans s2) (Is.sc hz))⟩⟩
def asB : D → R Bool
  | .bl b => .ok b
  | _ => .bad
theorem oCmpT {op : CmpOp} {r : R2} {a b : Expr} {fa fb : DE → R D} {k : D → D → Option D} (ho : OpR X (compareOp op) r) (hk : Ker2 X r k) (ha : PE X a (tB X.K E fa)) (hb : PE X b (tB X.K E fb)) (hm : behindInMarks op b = false) :
    PT X (.Compare a [op] [b] pos) (tT X.K E fun env => (fa env).bind fun x => (fb env).bind fun y => (R.of (k x y)).bind asB) :=
  impT (pt_cmpR ho ha hb hm) fun σ H Q ⟨g, env, os, r, m⟩ => ⟨g, env, os, r, m.bind.mono fun x _ m1 v H1 s1 i1 => ⟨g, env, os, r.same s1, m1.bind.mono fun y _ m2 w H2 s2 i2 => by
    obtain ⟨d, e, q⟩ := m2.bind.of
    obtain ⟨z, hz, hk⟩ := hk x y d e
    refine hk H2 v w _ (i1.same s2) i2 ?_
    cases d with
    | bl b =>
      cases hz
      exact ⟨b, rfl, q H2 (s1.trans s2)⟩
    | non => exact q.elim
    | lst _ => exact q.elim
    | int _ => exact q.elim
    | str _ => exact q.elim
    | exc _ => exact q.elim
    | fn _ => exact q.elim
    | tup _ => exact q.elim⟩⟩
def Ker1 (X : Cx) (r : V → Hp → VK → Prop) (k : D → Option D) : Prop := ∀ x d, k x = some d → ∃ z, toV d = some z ∧ ∀ H v (Q : VK), Is X.K Tr H x v → Q z H → r v H Q
theorem oUn {op : UnaryOp} {r : V → Hp → VK → Prop} {a : Expr} {fa : DE → R D} {k : D → Option D} (ho : UnR X (unaryOp op) r) (hk : Ker1 X r k) (ha : PE X a (tB X.K E fa)) :
    PE X (.UnaryOp op a pos) (tD X.K E fun env => (fa env).bind fun x => R.of (k x)) :=
  imp (pe_un ho ha) fun σ H Q ⟨g, env, os, r, m⟩ => ⟨g, env, os, r, m.bind.mono fun x _ m1 v H1 s1 i1 => by
    obtain ⟨d, e, q⟩ := m1.of
    obtain ⟨z, hz, hk⟩ := hk x d e
    exact hk H1 v Q i1 (q z H1 s1 (Is.sc hz))⟩

def kSub : D → D → Option D
  | .int i, .int j => some (.int (i - j))
  | _, _ => none
noncomputable def kMul : D → D → Option D
  | .int i, .int j => @ite _ ((-(2 ^ 64) < i ∧ i < 2 ^ 64) ∨ (-(2 ^ 64) < j ∧ j < 2 ^ 64)) (Classical.propDecidable _) (some (.int (i * j))) (none)
  | _, _ => none
noncomputable def kDiv : D → D → Option D
  | .int i, .int j => @ite _ (0 < j ∧ j < 1073741824) (Classical.propDecidable _) (some (.int (i / j))) (none)
  | _, _ => none
noncomputable def kMod : D → D → Option D
  | .int i, .int j => @ite _ (0 < j) (Classical.propDecidable _) (some (.int (i % j))) (none)
  | _, _ => none
noncomputable def kPow : D → D → Option D
  | .int i, .int j => @ite _ (0 ≤ j ∧ j ≤ 1000000 ∧ i.natAbs < 2 ^ 64) (Classical.propDecidable _) (some (.int (i ^ j.toNat))) (none)
  | _, _ => none
def kNeg : D → Option D
  | .int i => some (.int (-i))
  | _ => none
def kLt : D → D → Option D
  | .int i, .int j => some (.bl (decide (i < j)))
  | _, _ => none
def kLe : D → D → Option D
  | .int i, .int j => some (.bl (decide (i ≤ j)))
  | _, _ => none
def kGt : D → D → Option D
  | .int i, .int j => some (.bl (decide (j < i)))
  | _, _ => none
def kGe : D → D → Option D
  | .int i, .int j => some (.bl (decide (j ≤ i)))
  | _, _ => none
theorem ker_int0 {g : Int → Int → V} {h : Int → Int → D} {k : D → D → Option D} (hg : ∀ i j, toV (h i j) = some (g i j)) (hk : ∀ x y d, k x y = some d → ∃ i j, x = .int i ∧ y = .int j ∧ d = h i j) : Ker2 X (rI0 g) k := fun x y d e => by
  obtain ⟨i, j, rfl, rfl, rfl⟩ := hk x y d e
  refine ⟨g i j, hg i j, fun H v w Q h1 h2 q => ⟨i, j, h1, h2, q⟩⟩
theorem ker_int {C : Int → Int → Prop} {g : Int → Int → V} {h : Int → Int → D} {k : D → D → Option D} (hg : ∀ i j, toV (h i j) = some (g i j)) (hk : ∀ x y d, k x y = some d → ∃ i j, x = .int i ∧ y = .int j ∧ C i j ∧ d = h i j) : Ker2 X (rI C g) k := fun x y d e => by
  obtain ⟨i, j, rfl, rfl, c, rfl⟩ := hk x y d e
  refine ⟨g i j, hg i j, fun H v w Q h1 h2 q => ⟨i, j, h1, h2, c, q⟩⟩
theorem ker_sub : Ker2 X (rI0 fun i j => .int (i - j)) kSub := ker_int0 (h := fun i j => .int (i - j)) (fun _ _ => rfl) fun x y d e => by
  unfold kSub at e
  split at e <;> cases e
  exact ⟨_, _, rfl, rfl, rfl⟩
theorem ker_lt : Ker2 X (rI0 fun i j => .bl (decide (i < j))) kLt := ker_int0 (h := fun i j => .bl (decide (i < j))) (fun _ _ => rfl) fun x y d e => by
  unfold kLt at e
  split at e <;> cases e
  exact ⟨_, _, rfl, rfl, rfl⟩
theorem ker_gt : Ker2 X (rI0 fun i j => .bl (decide (j < i))) kGt := ker_int0 (h := fun i j => .bl (decide (j < i))) (fun _ _ => rfl) fun x y d e => by
  unfold kGt at e
  split at e <;> cases e
  exact ⟨_, _, rfl, rfl, rfl⟩
theorem ker_mul : Ker2 X (rI CMul fun i j => .int (i * j)) kMul := ker_int (h := fun i j => .int (i * j)) (fun _ _ => rfl) fun x y d e => by
  unfold kMul at e
  split at e
  · split at e
    · rename_i i j c
      cases e
      exact ⟨i, j, rfl, rfl, c, rfl⟩
    · cases e
  · cases e
theorem ker_div : Ker2 X (rI CDiv fun i j => .int (i / j)) kDiv := ker_int (h := fun i j => .int (i / j)) (fun _ _ => rfl) fun x y d e => by
  unfold kDiv at e
  split at e
  · split at e
    · rename_i i j c
      cases e
      exact ⟨i, j, rfl, rfl, c, rfl⟩
    · cases e
  · cases e
theorem ker_mod : Ker2 X (rI (fun _ j => 0 < j) fun i j => .int (i % j)) kMod := ker_int (h := fun i j => .int (i % j)) (fun _ _ => rfl) fun x y d e => by
  unfold kMod at e
  split at e
  · split at e
    · rename_i i j c
      cases e
      exact ⟨i, j, rfl, rfl, c, rfl⟩
    · cases e
  · cases e
theorem ker_pow : Ker2 X (rI CPow fun i j => .int (i ^ j.toNat)) kPow := ker_int (h := fun i j => .int (i ^ j.toNat)) (fun _ _ => rfl) fun x y d e => by
  unfold kPow at e
  split at e
  · split at e
    · rename_i i j c
      cases e
      exact ⟨i, j, rfl, rfl, c, rfl⟩
    · cases e
  · cases e
theorem ker_neg : Ker1 X (rU fun i => .int (-i)) kNeg := fun x d e => by
  unfold kNeg at e
  split at e <;> cases e
  exact ⟨_, rfl, fun H v Q h1 q => ⟨_, h1, q⟩⟩
theorem tNotD {a : Expr} {f : DE → R Bool} (h : PT X a (tT X.K E f)) : PT X (.UnaryOp .Not a pos) (tT X.K E fun env => (f env).bind fun b => .ok (!b)) :=
  impT (pt_not h) fun σ H Q ⟨g, env, os, r, m⟩ => ⟨g, env, os, r, m.bind.mono fun b _ q H' s => q H' s⟩
theorem tAnd1 {a : Expr} {f : DE → R Bool} (h : PT X a (tT X.K E f)) : PW X (.BoolOp .And [a] pos) (tT X.K E f) := pw_and1 h
theorem tOr1 {a : Expr} {f : DE → R Bool} (h : PT X a (tT X.K E f)) : PW X (.BoolOp .Or [a] pos) (tT X.K E f) := pw_or1 h
theorem tAndD {a b : Expr} {rest : List Expr} {f k : DE → R Bool} (h : PT X a (tT X.K E f)) (h2 : PW X (.BoolOp .And (b :: rest) pos) (tT X.K E k)) : PW X (.BoolOp .And (a :: b :: rest) pos) (tT X.K E fun env => (f env).bind fun t => if t = true then k env else .ok false) :=
  impW (pw_and h h2) fun σ H Q ⟨g, env, os, r, m⟩ => ⟨g, env, os, r, m.bind.mono fun t _ q H' s => by
    cases t with
    | true => exact ⟨g, env, os, r.same s, Good.mono (show Good E g.H₀ (k env) _ from q) fun b _ q2 H2 s2 => q2 H2 (s.trans s2)⟩
    | false => exact q H' s⟩
theorem tOrD {a b : Expr} {rest : List Expr} {f k : DE → R Bool} (h : PT X a (tT X.K E f)) (h2 : PW X (.BoolOp .Or (b :: rest) pos) (tT X.K E k)) : PW X (.BoolOp .Or (a :: b :: rest) pos) (tT X.K E fun env => (f env).bind fun t => if t = true then .ok true else k env) :=
  impW (pw_or h h2) fun σ H Q ⟨g, env, os, r, m⟩ => ⟨g, env, os, r, m.bind.mono fun t _ q H' s => by
    cases t with
    | false => exact ⟨g, env, os, r.same s, Good.mono (show Good E g.H₀ (k env) _ from q) fun b _ q2 H2 s2 => q2 H2 (s.trans s2)⟩
    | true => exact q H' s⟩
theorem tVal {e : Expr} {f : DE → R D} (h : PE X e (tB X.K E f)) (he : ∀ whole, isTrue e X.env whole = (do let v ← whole; standAt e.pos; holding [v] (truthy v)) := by intro _; rfl) : PT X e (tT X.K E fun env => (f env).bind asB) :=
  impT (pt_val h he) fun σ H Q ⟨g, env, os, r, m⟩ => ⟨g, env, os, r, m.bind.mono fun d _ q v H' s i => by
    cases d with
    | bl b => exact ⟨b, i, q H' s⟩
    | non => exact q.elim
    | lst _ => exact q.elim
    | int _ => exact q.elim
    | str _ => exact q.elim
    | exc _ => exact q.elim
    | fn _ => exact q.elim
    | tup _ => exact q.elim⟩
theorem vOne {op} {a : Expr} {f : DE → R D} (h : PE X a (tD X.K E f)) : PE X (.BoolOp op [a] pos) (tD X.K E f) := pe_one h
theorem vAnd {a b : Expr} {rest : List Expr} {f k : DE → R D} (h : PE X a (tB X.K E f)) (h2 : PE X (.BoolOp .And (b :: rest) pos) (tD X.K E k)) : PE X (.BoolOp .And (a :: b :: rest) pos) (tD X.K E fun env => (f env).bind fun x => (asB x).bind fun t => if t = true then k env else .ok (.bl false)) :=
  imp (pe_and h h2) fun σ H Q ⟨g, env, os, r, m⟩ => ⟨g, env, os, r, m.bind.mono fun d _ q v H' s i => by
    cases d with
    | bl b =>
      refine ⟨b, i, ?_⟩
      cases b with
      | true =>
        rw [if_pos rfl]
        exact ⟨g, env, os, r.same s, Good.mono (show Good E g.H₀ (k env) _ from q) fun b _ q2 v2 H2 s2 i2 => q2 v2 H2 (s.trans s2) i2⟩
      | false =>
        rw [if_neg Bool.false_ne_true]
        exact q _ H' s rfl
    | non => exact q.elim
    | lst _ => exact q.elim
    | int _ => exact q.elim
    | str _ => exact q.elim
    | exc _ => exact q.elim
    | fn _ => exact q.elim
    | tup _ => exact q.elim⟩
theorem vNot {a : Expr} {f : DE → R D} (h : PE X a (tB X.K E f)) : PE X (.UnaryOp .Not a pos) (tD X.K E fun env => (f env).bind fun x => (asB x).bind fun t => .ok (.bl (!t))) :=
  imp (pe_not h) fun σ H Q ⟨g, env, os, r, m⟩ => ⟨g, env, os, r, m.bind.mono fun d _ q v H' s i => by
    cases d with
    | bl b => exact ⟨b, i, q _ H' s rfl⟩
    | non => exact q.elim
    | lst _ => exact q.elim
    | int _ => exact q.elim
    | str _ => exact q.elim
    | exc _ => exact q.elim
    | fn _ => exact q.elim
    | tup _ => exact q.elim⟩
theorem vIf {c a b : Expr} {fc : DE → R Bool} {fa fb : DE → R D} (hc : PT X c (tT X.K E fc)) (ha : PE X a (tD X.K E fa)) (hb : PE X b (tD X.K E fb)) : PE X (.IfExp c a b pos) (tD X.K E fun env => (fc env).bind fun t => if t = true then fa env else fb env) :=
  imp (pe_ifExp hc ha hb) fun σ H Q ⟨g, env, os, r, m⟩ => ⟨g, env, os, r, m.bind.mono fun t _ q H' s => by
    cases t with
    | true =>
      rw [if_pos rfl]
      exact ⟨g, env, os, r.same s, Good.mono (show Good E g.H₀ (fa env) _ from q) fun b _ q2 v2 H2 s2 i2 => q2 v2 H2 (s.trans s2) i2⟩
    | false =>
      rw [if_neg Bool.false_ne_true]
      exact ⟨g, env, os, r.same s, Good.mono (show Good E g.H₀ (fb env) _ from q) fun b _ q2 v2 H2 s2 i2 => q2 v2 H2 (s.trans s2) i2⟩⟩

theorem aNil : PA X [] (tAr X.K E fun _ => .ok []) := impA pa_nil fun σ H Q ⟨g, env, os, r, m⟩ => m [] H (Same.refl H) rfl
theorem aNilB : PA X [] (tArB X.K E fun _ => .ok []) := impA pa_nil fun σ H Q ⟨g, env, os, r, m⟩ => m [] H (Same.refl H) rfl
theorem aCons {e : Expr} {es : List Expr} {f : DE → R D} {k : DE → R (List D)} (ha : PE X e (tD X.K E f)) (hr : PA X es (tAr X.K E k)) (hs : starEach (e :: es) X.env = (false, eval e X.env) :: starEach es X.env := by rfl) :
    PA X (e :: es) (tAr X.K E fun env => (f env).bind fun x => (k env).bind fun xs => .ok (x :: xs)) :=
  impA (pa_cons ha hr hs) fun σ H Q ⟨g, env, os, r, m⟩ => ⟨g, env, os, r, m.bind.mono fun x _ m1 v H1 s1 i1 => ⟨g, env, os, r.same s1, m1.bind.mono fun xs _ m2 vs H2 s2 i2 => m2 (v :: vs) H2 (s1.trans s2) (.cons (i1.same s2) i2)⟩⟩
theorem aConsB {e : Expr} {es : List Expr} {f : DE → R D} {k : DE → R (List D)} (ha : PE X e (tB X.K E f)) (hr : PA X es (tArB X.K E k)) (hs : starEach (e :: es) X.env = (false, eval e X.env) :: starEach es X.env := by rfl) :
    PA X (e :: es) (tArB X.K E fun env => (f env).bind fun x => (k env).bind fun xs => .ok (x :: xs)) :=
  impA (pa_cons ha hr hs) fun σ H Q ⟨g, env, os, r, m⟩ => ⟨g, env, os, r, m.bind.mono fun x _ m1 v H1 s1 i1 => ⟨g, env, os, r.same s1, m1.bind.mono fun xs _ m2 vs H2 s2 i2 => m2 (v :: vs) H2 (s1.trans s2) (.cons (i1.same s2) i2)⟩⟩
noncomputable def fit {α : Type} (xs : List α) : R (List α) := @ite _ (xs.length ≤ sizeLine) (Classical.propDecidable _) (.ok xs) (.bad)
theorem Good.fit {α : Type} {H₀ : Hp} {xs : List α} {p : List α → Prop} (h : Good E H₀ (fit xs) p) : xs.length ≤ sizeLine ∧ p xs := by
  unfold DL.fit at h
  split at h
  · rename_i c
    exact ⟨c, h⟩
  · exact h.elim
theorem newL {K : PySem.W.Frag} {g : Gh} {env : DE} {σ : St} {H H1 : Hp} {os : List Addr} {ds : List D} {vs : List V} {p : Addr} (r : Rel K g env σ H os) (s1 : Same H H1) (hp : H1 p = none) (i : IsL K (g.P os) H1 ds vs) :
    Same H (upd H1 p (.lst vs)) ∧ H p = none ∧ upd H1 p (.lst vs) p = some (.lst vs) ∧ IsL K (g.P (p :: os)) (upd H1 p (.lst vs)) ds vs :=
  ⟨s1.trans (same_new hp _), s1.free hp, upd_same, IsL.ext ((r.same s1).apart (same_new hp _) hp) _ _ i⟩
theorem dLst {es : List Expr} {f : DE → R (List D)} (h : PA X es (tAr X.K E f)) : PE X (.List es pos) (tF X.K E fun env => (f env).bind fit) :=
  imp (pe_lst h) fun σ H Q ⟨g, env, os, r, m⟩ => ⟨g, env, os, r, m.bind.mono fun ds _ m1 vs H1 s1 i1 => by
    obtain ⟨z, q⟩ := m1.fit
    refine ⟨by rw [i1.length]; exact z, fun p hp => ?_⟩
    obtain ⟨a1, a2, a3, a4⟩ := newL r s1 hp i1
    exact q p vs _ a1 a2 a3 a4⟩
theorem dTup {es : List Expr} {x1} {f : DE → R (List D)} (h : PA X es (tAr X.K E f)) : PE X (.Tuple es x1 pos) (tD X.K E fun env => ((f env).bind fit).bind fun ds => .ok (.tup ds)) :=
  imp (pe_tup h) fun σ H Q ⟨g, env, os, r, m⟩ => ⟨g, env, os, r, m.bind.bind.mono fun ds _ m1 vs H1 s1 i1 => by
    obtain ⟨z, q⟩ := m1.fit
    refine ⟨by rw [i1.length]; exact z, fun p hp => ?_⟩
    exact q _ _ (s1.trans (same_new hp _)) ⟨p, vs, rfl, .inl ⟨(r.same s1).fresh hp, .inl upd_same⟩, i1.same (same_new hp _)⟩⟩
end
end DL

namespace DL
open PySem PySem.Spec PyProof.Rows L2
section
variable {X : Cx} {E : Str → Hp → Prop} {pos : Pos}

def rCat2 (K : PySem.W.Frag) : R2 := fun x y H Q => ∃ l b xs zs, x = .ref l ∧ y = .ref b ∧ SqL K H l xs ∧ SqL K H b zs ∧ xs.length + zs.length ≤ sizeLine ∧ ∀ p, H p = none → Q (.ref p) (upd H p (.lst (xs ++ zs)))
theorem op_cat2 : OpR X (binaryOp .Add) (rCat2 X.K) := by
  intro pins s σ H x y v u Q I rx ry h
  obtain ⟨l, b, xs, zs, rfl, rfl, hH, hB, hz, q⟩ := h
  cases rx
  cases ry
  obtain ⟨its, r, p1, z1⟩ := I.list hH
  obtain ⟨its2, r2, p2, z2⟩ := I.list hB
  have hl := r.length
  have hl2 := r2.length
  obtain ⟨o1, n1, e1, c1, d1, t1⟩ := p1
  obtain ⟨o2, n2, e2, c2, d2, t2⟩ := p2
  obtain ⟨oc, od, oda, osl⟩ := o1
  obtain ⟨oc2, od2, oda2, osl2⟩ := o2
  have c1' : oc = _ := c1
  have d1' : od = _ := d1
  have t1' : oda = _ := t1
  have c2' : oc2 = _ := c2
  have d2' : od2 = _ := d2
  have t2' : oda2 = _ := t2
  subst c1' d1' t1' c2' d2' t2'
  have ea : its.toArray ++ its2.toArray = (its ++ its2).toArray := by simp
  refine concat_meets ⟨_, e1, rfl⟩ ⟨_, e2, rfl⟩ noFill_list_add seq_list_add PySem.F.slot_list_add PySem.F.entry_list_add (PySem.F.args_list_add_2 _ _) (list_addW l b its.toArray its2.toArray n1 n2 none none osl osl2 (by rw [List.size_toArray, List.size_toArray]; omega)) ⟨e1, e2, ?_⟩
  rw [ea]
  exact ⟨.ref _, _, I.lnew (t' := s.toks) (r.append r2) (by rw [List.length_append]; omega), rfl, q _ I.fresh⟩
theorem lCat {a b : Expr} {fa fb : DE → R (List D)} (ha : PE X a (tL X.K E fa)) (hb : PE X b (tL X.K E fb)) : PE X (.BinOp a .Add b pos) (tF X.K E fun env => (fa env).bind fun x => (fb env).bind fun y => fit (x ++ y)) :=
  imp (pe_op op_cat2 ha hb) fun σ H Q ⟨g, env, os, r, m⟩ => ⟨g, env, os, r, m.bind.mono fun x _ m1 a1 v1 H1 s1 q1 i1 => ⟨g, env, os, r.same s1, m1.bind.mono fun y _ m2 a2 v2 H2 s2 q2 i2 => by
    obtain ⟨z, q⟩ := m2.fit
    rw [List.length_append] at z
    refine ⟨a1, a2, v1, v2, rfl, rfl, s2.seq q1, q2, by rw [i1.length, i2.length]; exact z, fun p hp => ?_⟩
    obtain ⟨b1, b2, b3, b4⟩ := newL r (s1.trans s2) hp ((i1.same s2).app i2)
    exact q p _ _ b1 b2 b3 b4⟩⟩
def tO (K : PySem.W.Frag) (E : Str → Hp → Prop) (f : DE → R (Option Int)) : TO := fun σ H Q => ∃ g env os, Rel K g env σ H os ∧ Good E g.H₀ (f env) fun o => ∀ H', Same H H' → Q o H'
theorem impO {e : Option Expr} {t t' : TO} (h : L2.PO X e t) (w : ∀ σ H Q, t' σ H Q → t σ H Q) : L2.PO X e t' := fun pins s σ H Q I q => h pins s σ H Q I (w σ H Q q)
theorem oNo : L2.PO X none (tO X.K E fun _ => .ok none) := impO po_none fun σ H Q ⟨g, env, os, r, m⟩ => m H (Same.refl H)
def asI : D → R (Option Int)
  | .int i => .ok (some i)
  | _ => .bad
theorem oYes {e : Expr} {f : DE → R D} (h : PE X e (tB X.K E f)) : L2.PO X (some e) (tO X.K E fun env => (f env).bind asI) := impO (po_some h) fun σ H Q ⟨g, env, os, r, m⟩ => ⟨g, env, os, r, m.bind.mono fun d _ q v H' s i => by
  cases d with
  | int k => exact ⟨k, i, q H' s⟩
  | non => exact q.elim
  | bl _ => exact q.elim
  | lst _ => exact q.elim
  | str _ => exact q.elim
  | exc _ => exact q.elim
  | fn _ => exact q.elim
  | tup _ => exact q.elim⟩
def cut {α : Type} (xs : List α) (lo hi : Option Int) : List α := (xs.drop (HT.sIx xs.length 0 lo)).take (HT.sIx xs.length xs.length hi - HT.sIx xs.length 0 lo)
theorem IsL.cut {K : PySem.W.Frag} {P : Addr → Prop} {H : Hp} {ds : List D} {vs : List V} (h : IsL K P H ds vs) (lo hi : Option Int) : IsL K P H (DL.cut ds lo hi) (cutV vs lo hi) := by
  unfold DL.cut cutV
  rw [h.length]
  exact (h.drop _).take _
theorem lSlice {e : Expr} {lo hi : Option Expr} {f : DE → R (List D)} {fl fh : DE → R (Option Int)} {p2 : Pos} (he : PE X e (tL X.K E f)) (hl : L2.PO X lo (tO X.K E fl)) (hh : L2.PO X hi (tO X.K E fh)) :
    PE X (.Subscript e (.Slice lo hi none p2) pos) (tF X.K E fun env => (f env).bind fun x => (fl env).bind fun l => (fh env).bind fun h => .ok (cut x l h)) :=
  imp (pe_slice sl_list he hl hh) fun σ H Q ⟨g, env, os, r, m⟩ => ⟨g, env, os, r, m.bind.mono fun x _ m1 a1 v1 H1 s1 q1 i1 => ⟨g, env, os, r.same s1, m1.bind.mono fun l _ m2 H2 s2 => ⟨g, env, os, r.same (s1.trans s2), m2.bind.mono fun h _ m3 H3 s3 => by
    refine ⟨a1, v1, rfl, s3.seq (s2.seq q1), fun p hp => ?_⟩
    obtain ⟨b1, b2, b3, b4⟩ := newL r (s1.trans (s2.trans s3)) hp (((i1.same s2).same s3).cut l h)
    exact m3 p _ _ b1 b2 b3 b4⟩⟩⟩
theorem IsL.atI {K : PySem.W.Frag} {P : Addr → Prop} {H : Hp} {ds : List D} {vs : List V} {i : Int} {d : D} (h : IsL K P H ds vs) (e : L2.atI ds i = some d) : ∃ v, L2.atI vs i = some v ∧ Is K P H d v := by
  unfold L2.atI at e ⊢
  rw [h.length]
  cases q : ixN ds.length i with
  | none => rw [q] at e; cases e
  | some j =>
    rw [q] at e
    exact h.get e
def ixD : D → D → R D
  | .lst xs, .int i => R.of (atI xs i)
  | .tup xs, .int i => R.of (atI xs i)
  | _, _ => .bad
theorem dIx {a b : Expr} {fa fb : DE → R D} (ha : PE X a (tD X.K E fa)) (hb : PE X b (tB X.K E fb)) (hs : PlainIx b := by exact fun _ _ => rfl) : PE X (.Subscript a b pos) (tD X.K E fun env => (fa env).bind fun x => (fb env).bind fun y => ixD x y) :=
  imp (pe_ix ix_seq ha hb hs) fun σ H Q ⟨g, env, os, r, m⟩ => ⟨g, env, os, r, m.bind.mono fun x _ m1 v H1 s1 i1 => ⟨g, env, os, r.same s1, m1.bind.mono fun y _ m2 w H2 s2 i2 => by
    unfold ixD at m2
    split at m2
    · rename_i xs i _ _
      obtain ⟨d, e, q⟩ := m2.of
      have i1' := i1.same s2
      obtain ⟨a, vs, rfl, h1, h2⟩ := i1'
      obtain ⟨z, e2, h3⟩ := IsL.atI h2 e
      exact .inl ⟨a, vs, i, z, rfl, i2, h1.sq, e2, q z H2 (s1.trans s2) h3⟩
    · rename_i xs i _ _
      obtain ⟨d, e, q⟩ := m2.of
      have i1' := i1.same s2
      obtain ⟨a, vs, rfl, h1, h2⟩ := i1'
      obtain ⟨z, e2, h3⟩ := IsL.atI h2 e
      exact .inr (.inl ⟨a, vs, i, z, rfl, i2, h1.sq, e2, q z H2 (s1.trans s2) h3⟩)
    · exact m2.elim⟩⟩
def ixL (xs : List D) : D → R D
  | .int i => R.of (atI xs i)
  | _ => .bad
theorem lIx {a b : Expr} {fa : DE → R (List D)} {fb : DE → R D} (ha : PE X a (tL X.K E fa)) (hb : PE X b (tB X.K E fb)) (hs : PlainIx b := by exact fun _ _ => rfl) : PE X (.Subscript a b pos) (tD X.K E fun env => (fa env).bind fun x => (fb env).bind fun y => ixL x y) :=
  imp (pe_ix ix_list ha hb hs) fun σ H Q ⟨g, env, os, r, m⟩ => ⟨g, env, os, r, m.bind.mono fun x _ m1 a1 v1 H1 s1 q1 i1 => ⟨g, env, os, r.same s1, m1.bind.mono fun y _ m2 w H2 s2 i2 => by
    unfold ixL at m2
    split at m2
    · rename_i i _
      obtain ⟨d, e, q⟩ := m2.of
      obtain ⟨z, e2, h3⟩ := (i1.same s2).atI e
      exact ⟨a1, v1, i, z, rfl, i2, s2.seq q1, e2, q z H2 (s1.trans s2) h3⟩
    · exact m2.elim⟩⟩
def KerC (X : Cx) (r : List V → Hp → VK → Prop) (k : List D → Option D) : Prop := ∀ ds d, k ds = some d → ∃ z, toV d = some z ∧ ∀ H vs (Q : VK), IsL X.K Tr H ds vs → Q z H → r vs H Q
theorem oCall {id : String} {x : Str} {p : Pos} {e : Expr} {es : List Expr} {f : DE → R (List D)} {r : List V → Hp → VK → Prop} {k : List D → Option D} (hc : CallR X (.builtin id) r) (hk : KerC X r k) (hm : X.mg x = none) (hv : bootBuiltins x = some (.builtin id)) (ha : PA X (e :: es) (tArB X.K E f))
    (hg : Gl X x := by rfl) (hn : x ≠ "__name__" := by decide) (hdb : (x == ("__debug__" : Str)) = false := by decide)
    (he : starEach (e :: es) X.env = (false, eval e X.env) :: starEach es X.env := by rfl) (hpl : (backTo pos (starEach es X.env)).any (·.1) = false := by rfl) : PE X (.Call (.Name x p) (e :: es) [] pos) (tD X.K E fun env => (f env).bind fun ds => R.of (k ds)) :=
  imp (pe_callB hc hg hm hv ha hn hdb he hpl) fun σ H Q ⟨g, env, os, r, m⟩ => ⟨g, env, os, r, m.bind.mono fun ds _ m1 vs H1 s1 i1 => by
    obtain ⟨d, e, q⟩ := m1.of
    obtain ⟨z, hz, hk⟩ := hk ds d e
    exact hk H1 vs Q i1 (q z H1 s1 (Is.sc hz))⟩
theorem IsL.one' {K : PySem.W.Frag} {P : Addr → Prop} {H : Hp} {d : D} {vs : List V} (h : IsL K P H [d] vs) : ∃ v, vs = [v] ∧ Is K P H d v := by
  obtain ⟨v, r, rfl, p, q⟩ := h
  have q' : r = [] := q
  subst q'
  exact ⟨v, rfl, p⟩
theorem IsL.two' {K : PySem.W.Frag} {P : Addr → Prop} {H : Hp} {d d2 : D} {vs : List V} (h : IsL K P H [d, d2] vs) : ∃ v w, vs = [v, w] ∧ Is K P H d v ∧ Is K P H d2 w := by
  obtain ⟨v, r, rfl, p, q⟩ := h
  obtain ⟨w, rfl, p2⟩ := IsL.one' q
  exact ⟨v, w, rfl, p, p2⟩
noncomputable def kLen : List D → Option D
  | [.lst xs] => some (.int xs.length)
  | [.tup xs] => some (.int xs.length)
  | [.str x] => @ite _ (x.length ≤ sizeLine) (Classical.propDecidable _) (some (.int x.length)) (none)
  | _ => none
theorem ker_len : KerC X (fun xs H Q => ∃ x n, xs = [x] ∧ LenV X.K x H n ∧ Q (.int n) H) kLen := fun ds d e => by
  unfold kLen at e
  split at e
  · rename_i xs
    cases e
    refine ⟨_, rfl, fun H vs Q i q => ?_⟩
    obtain ⟨v, rfl, a, ws, rfl, h1, h2⟩ := IsL.one' i
    exact ⟨_, _, rfl, .inl ⟨ws, h1.sq, (IsL.length h2).symm⟩, q⟩
  · rename_i xs
    cases e
    refine ⟨_, rfl, fun H vs Q i q => ?_⟩
    obtain ⟨v, rfl, a, ws, rfl, h1, h2⟩ := IsL.one' i
    exact ⟨_, _, rfl, .inr ⟨ws, h1.sq, (IsL.length h2).symm⟩, q⟩
  · split at e
    · rename_i x c
      cases e
      refine ⟨_, rfl, fun H vs Q i q => ?_⟩
      obtain ⟨v, rfl, i2⟩ := IsL.one' i
      have i' : v = .str x := i2
      subst i'
      exact ⟨_, _, rfl, ⟨c, rfl⟩, q⟩
    · cases e
  · cases e
def kAbs : List D → Option D
  | [.int i] => some (.int (if i < 0 then -i else i))
  | _ => none
theorem ker_abs : KerC X (fun xs H Q => ∃ i, xs = [.int i] ∧ Q (.int (if i < 0 then -i else i)) H) kAbs := fun ds d e => by
  unfold kAbs at e
  split at e
  · rename_i i
    cases e
    refine ⟨_, rfl, fun H vs Q h q => ?_⟩
    obtain ⟨v, rfl, h1⟩ := IsL.one' h
    have h' : v = .int i := h1
    subst h'
    exact ⟨i, rfl, q⟩
  · cases e
def kMax2 : List D → Option D
  | [.int i, .int j] => some (.int (if j > i then j else i))
  | _ => none
theorem ker_max2 : KerC X (fun xs H Q => ∃ i j, xs = [.int i, .int j] ∧ Q (.int (if j > i then j else i)) H) kMax2 := fun ds d e => by
  unfold kMax2 at e
  split at e
  · rename_i i j
    cases e
    refine ⟨_, rfl, fun H vs Q h q => ?_⟩
    obtain ⟨v, w, rfl, h1, h2⟩ := IsL.two' h
    have h' : v = .int i := h1
    have h2' : w = .int j := h2
    subst h' h2'
    exact ⟨i, j, rfl, q⟩
  · cases e
theorem lList {p : Pos} {a : Expr} {f : DE → R (List D)} (hm : X.mg "list" = none) (ha : PE X a (tL X.K E f)) (hg : Gl X "list" := by rfl)
    (he : starEach [a] X.env = (false, eval a X.env) :: starEach [] X.env := by rfl) (hpl : (backTo pos (starEach [] X.env)).any (·.1) = false := by rfl) : PE X (.Call (.Name "list" p) [a] [] pos) (tF X.K E f) :=
  imp (pe_callTy call_list_of hg hm (by decide +kernel) (pa_cons ha pa_nil he) (by decide) (by decide) he hpl) fun σ H Q ⟨g, env, os, r, m⟩ => ⟨g, env, os, r, m.mono fun x _ m1 a1 v1 H1 s1 q1 i1 =>
    ⟨a1, v1, rfl, .inl q1, fun p hp => by
      obtain ⟨b1, b2, b3, b4⟩ := newL r s1 hp i1
      exact m1 p _ _ b1 b2 b3 b4⟩⟩

def spD (K : PySem.W.Frag) (xc : Str → Value) (m : List D → R D) : Sp := fun vs H Q E => ∃ P ds, IsL K P H ds vs ∧ (match m ds with
  | .ok d => ∀ v H', Same H H' → Is K (fun a => P a ∨ H a = none) H' d v → Q v H'
  | .err c => ∀ H', Same H H' → E (xc c) none H'
  | .bad => False)
def spF (K : PySem.W.Frag) (xc : Str → Value) (m : List D → R (List D)) : Sp := fun vs H Q E => ∃ P ds, IsL K P H ds vs ∧ (match m ds with
  | .ok xs => ∀ a ws H', Same H H' → H a = none → H' a = some (.lst ws) → IsL K (fun b => (P b ∨ H b = none) ∧ b ≠ a) H' xs ws → Q (.ref a) H'
  | .err c => ∀ H', Same H H' → E (xc c) none H'
  | .bad => False)
def EX (xc : Str → Value) (E : Str → Hp → Prop) : XK := fun c _ H' => ∃ n, c = xc n ∧ E n H'
theorem passN {E : XK} : Passes CX0 X E := fun _ _ _ _ _ _ _ h => h.elim
variable {CX : CXT} {k : Nat} {fa : Addr} {fd : FuncData} {ps : List Str} {xc : Str → Value} {x : Str} {p : Pos} {e : Expr} {es : List Expr} {f : DE → R (List D)}
theorem fD {m : List D → R D} (F : FnOk X.prog X.w X.K X.mg X.base CX k fa fd ps (spD X.K xc m)) (hm : X.mg x = some (.ref fa)) (hk : PySem.W.keepIn X.K (.ref fa) = true) (hb : Binds X.K fd ps []) (hr : Room k X.A) (hx : Passes CX X (EX xc E))
    (ha : PA X (e :: es) (tAr X.K E f)) (hg : Gl X x := by rfl) (hdb : (x == ("__debug__" : Str)) = false := by decide) (he : starEach (e :: es) X.env = (false, eval e X.env) :: starEach es X.env := by rfl) (hpl : (backTo pos (starEach es X.env)).any (·.1) = false := by rfl) :
    PE X (.Call (.Name x p) (e :: es) [] pos) (tD X.K E fun env => (f env).bind m) :=
  imp (pe_call F hr hg hm hk hb .nil hx ha hdb he hpl) fun σ H Q ⟨g, env, os, r, q⟩ => ⟨g, env, os, r, q.bind.mono fun ds _ q1 vs H1 s1 i1 => by
    show spD X.K xc m (vs ++ []) H1 Q _
    rw [List.append_nil]
    refine ⟨g.P os, ds, i1, ?_⟩
    cases em : m ds with
    | ok d =>
      rw [em] at q1
      intro v H' s' i'
      exact q1 v H' (s1.trans s') (Is.ext ⟨fun a o pa _ => pa.elim (fun z => z) fun z => (r.same s1).fresh z, fun _ _ _ z => z⟩ _ _ i')
    | err c =>
      rw [em] at q1
      intro H' s'
      exact ⟨c, rfl, q1 H' (r.ext.trans (s1.trans s'))⟩
    | bad => rw [em] at q1; exact q1⟩
theorem fB {m : List D → R D} (F : FnOk X.prog X.w X.K X.mg X.base CX k fa fd ps (spD X.K xc m)) (hsc : ∀ ds d, m ds = .ok d → ∃ z, toV d = some z) (hm : X.mg x = some (.ref fa)) (hk : PySem.W.keepIn X.K (.ref fa) = true) (hb : Binds X.K fd ps []) (hr : Room k X.A) (hx : Passes CX X (EX xc E))
    (ha : PA X (e :: es) (tArB X.K E f)) (hg : Gl X x := by rfl) (hdb : (x == ("__debug__" : Str)) = false := by decide) (he : starEach (e :: es) X.env = (false, eval e X.env) :: starEach es X.env := by rfl) (hpl : (backTo pos (starEach es X.env)).any (·.1) = false := by rfl) :
    PE X (.Call (.Name x p) (e :: es) [] pos) (tD X.K E fun env => (f env).bind m) :=
  imp (pe_call F hr hg hm hk hb .nil hx ha hdb he hpl) fun σ H Q ⟨g, env, os, r, q⟩ => ⟨g, env, os, r, q.bind.mono fun ds _ q1 vs H1 s1 i1 => by
    show spD X.K xc m (vs ++ []) H1 Q _
    rw [List.append_nil]
    refine ⟨Tr, ds, i1, ?_⟩
    cases em : m ds with
    | ok d =>
      rw [em] at q1
      intro v H' s' i'
      obtain ⟨z, hz⟩ := hsc ds d em
      have e2 := Is.of_sc hz i'
      subst e2
      exact q1 _ H' (s1.trans s') (Is.sc hz)
    | err c =>
      rw [em] at q1
      intro H' s'
      exact ⟨c, rfl, q1 H' (r.ext.trans (s1.trans s'))⟩
    | bad => rw [em] at q1; exact q1⟩
theorem fF {m : List D → R (List D)} (F : FnOk X.prog X.w X.K X.mg X.base CX k fa fd ps (spF X.K xc m)) (hm : X.mg x = some (.ref fa)) (hk : PySem.W.keepIn X.K (.ref fa) = true) (hb : Binds X.K fd ps []) (hr : Room k X.A) (hx : Passes CX X (EX xc E))
    (ha : PA X (e :: es) (tAr X.K E f)) (hg : Gl X x := by rfl) (hdb : (x == ("__debug__" : Str)) = false := by decide) (he : starEach (e :: es) X.env = (false, eval e X.env) :: starEach es X.env := by rfl) (hpl : (backTo pos (starEach es X.env)).any (·.1) = false := by rfl) :
    PE X (.Call (.Name x p) (e :: es) [] pos) (tF X.K E fun env => (f env).bind m) :=
  imp (pe_call F hr hg hm hk hb .nil hx ha hdb he hpl) fun σ H Q ⟨g, env, os, r, q⟩ => ⟨g, env, os, r, q.bind.mono fun ds _ q1 vs H1 s1 i1 => by
    show spF X.K xc m (vs ++ []) H1 Q _
    rw [List.append_nil]
    refine ⟨g.P os, ds, i1, ?_⟩
    cases em : m ds with
    | ok d =>
      rw [em] at q1
      intro a ws H' s' hn hH i'
      exact q1 a ws H' (s1.trans s') (s1.free hn) hH (IsL.ext ⟨fun b o pb _ => by
        have z : g.P os b := pb.1.elim (fun z => z) fun z => (r.same s1).fresh z
        exact ⟨z.1, fun hm => (List.mem_cons.mp hm).elim pb.2 z.2⟩, fun _ _ _ z => z⟩ _ _ i')
    | err c =>
      rw [em] at q1
      intro H' s'
      exact ⟨c, rfl, q1 H' (r.ext.trans (s1.trans s'))⟩
    | bad => rw [em] at q1; exact q1⟩
end
end DL

namespace DL
open PySem PySem.Spec PyProof.Rows L2
def seqO (r : R Out) (k : DE → R Out) : R Out := r.bind fun o => match o with
  | .nx e => k e
  | o => .ok o
def forD (b : D → DE → R Out) : List D → DE → R Out
  | [], e => .ok (.nx e)
  | x :: xs, e => (b x e).bind fun o => match o with
    | .nx e' => forD b xs e'
    | .ct e' => forD b xs e'
    | .bk e' => .ok (.nx e')
    | .rt d => .ok (.rt d)
    | .rtF ys => .ok (.rtF ys)
    | .rtC ys => .ok (.rtC ys)
    | .rtP ys => .ok (.rtP ys)
    | .rtQ ys => .ok (.rtQ ys)
    | .rtT ys => .ok (.rtT ys)
def whileD (c : DE → R Bool) (b : DE → R Out) : Nat → DE → R Out
  | 0, _ => .bad
  | n + 1, e => (c e).bind fun t => if t = true then (b e).bind fun o => match o with
    | .nx e' => whileD c b n e'
    | .ct e' => whileD c b n e'
    | .bk e' => .ok (.nx e')
    | .rt d => .ok (.rt d)
    | .rtF ys => .ok (.rtF ys)
    | .rtC ys => .ok (.rtC ys)
    | .rtP ys => .ok (.rtP ys)
    | .rtQ ys => .ok (.rtQ ys)
    | .rtT ys => .ok (.rtT ys) else .ok (.nx e)
section
variable {X : Cx} {E : Str → Hp → Prop} {pos : Pos}
theorem sNil : PSs X [] (tS X.K E fun e => .ok (.nx e)) := impSs pss_nil fun De σ H ⟨g, env, os, r, m⟩ => m σ H os r (.refl H os)
theorem sCons {st : Stmt} {rest : List Stmt} {f k : DE → R Out} (h1 : PS X st (tS X.K E f)) (h2 : PSs X rest (tS X.K E k)) : PSs X (st :: rest) (tS X.K E fun e => seqO (f e) k) :=
  impSs (pss_cons h1 h2) fun De σ H ⟨g, env, os, r, m⟩ => ⟨g, env, os, r, (show Good E g.H₀ ((f env).bind _) _ from m).bind.mono fun o _ q => by
    cases o with
    | nx e' => exact fun σ' H' os' r' z => ⟨g, e', os', r', Good.mono (show Good E g.H₀ (k e') _ from q) fun o _ q => PostO.step z q⟩
    | bk e' => exact q
    | ct e' => exact q
    | rt d => exact q
    | rtF xs => exact q
    | rtC xs => exact q
    | rtP xs => exact q
    | rtQ xs => exact q
    | rtT xs => exact q⟩
theorem sOne {st : Stmt} {f : DE → R Out} (h1 : PS X st (tS X.K E f)) : PSs X [st] (tS X.K E f) := pss_one h1
theorem P_nil {g : Gh} {os : List Addr} {K : PySem.W.Frag} {H : Hp} {d : D} {v : V} (h : Is K (g.P os) H d v) : Is K (g.P []) H d v := Is.ext ⟨fun _ _ p _ => ⟨p.1, by simp⟩, fun _ _ _ q => q⟩ _ _ h
theorem sRet {e : Expr} {f : DE → R D} (he : PE X e (tD X.K E f)) : PS X (.Return (some e) pos) (tS X.K E fun env => (f env).bind fun d => .ok (.rt d)) :=
  impS (ps_ret he) fun De σ H ⟨g, env, os, r, m⟩ => ⟨g, env, os, r, m.bind.mono fun d _ q v H' s i => q v H' (r.ext.trans s) (P_nil i)⟩
theorem sRetF {e : Expr} {f : DE → R (List D)} (he : PE X e (tF X.K E f)) : PS X (.Return (some e) pos) (tS X.K E fun env => (f env).bind fun d => .ok (.rtF d)) :=
  impS (ps_ret he) fun De σ H ⟨g, env, os, r, m⟩ => ⟨g, env, os, r, m.bind.mono fun xs _ q a vs H' s hn hH i =>
    q a vs H' (r.ext.trans s) (r.ext.free hn) hH (IsL.ext ⟨fun b o p _ => ⟨p.1, fun z => p.2 (by simp at z; simp [z])⟩, fun _ _ _ q => q⟩ _ _ i)⟩
def ownAt (i : Nat) (env : DE) : R (List D) := match env[i]? with
  | some (.own xs) => .ok xs
  | _ => .bad
theorem Good.own {H₀ : Hp} {i : Nat} {env : DE} {p : List D → Prop} (h : Good E H₀ (ownAt i env) p) : ∃ xs, env[i]? = some (.own xs) ∧ p xs := by
  unfold ownAt at h
  split at h
  · rename_i xs e
    exact ⟨xs, e, h⟩
  · exact h.elim
theorem sRetO (i : Nat) {x : Str} {p : Pos} (hN : X.N[i]? = some x := by rfl) (hv : Vis X.env.scope x := by first | exact Or.inl rfl | exact Or.inr (Or.inl rfl) | exact Or.inr (Or.inr rfl)) (hd : (x == ("__debug__" : Str)) = false := by decide)
    (hcd : (x == ("__classdict__" : Str)) = false := by decide) : PS X (.Return (some (.Name x p)) pos) (tS X.K E fun env => (ownAt i env).bind fun xs => .ok (.rtF xs)) :=
  impS (ps_ret (pe_var hN hv hd hcd)) fun De σ H ⟨g, env, os, r, m⟩ => by
    obtain ⟨xs, e, q⟩ := m.bind.own
    obtain ⟨a, vs, h1, h2, h3, h4⟩ := r.own i xs e
    exact ⟨.ref a, h1, q a vs H r.ext (r.new a h2).1 h3 (IsL.ext ⟨fun b o p _ => ⟨p.1, fun z => p.2 (by simp at z; rw [z]; exact h2)⟩, fun _ _ _ q => q⟩ _ _ h4)⟩
theorem sIf {c : Expr} {a b : List Stmt} {fc : DE → R Bool} {fa fb : DE → R Out} (hc : PT X c (tT X.K E fc)) (ha : PSs X a (tS X.K E fa)) (hb : PSs X b (tS X.K E fb)) : PS X (.If c a b pos) (tS X.K E fun env => (fc env).bind fun t => if t = true then fa env else fb env) :=
  impS (ps_if hc ha hb) fun De σ H ⟨g, env, os, r, m⟩ => ⟨g, env, os, r, m.bind.mono fun t _ q H' s => by
    cases t with
    | true =>
      rw [if_pos rfl]
      exact ⟨g, env, os, r.same s, Good.mono (show Good E g.H₀ (fa env) _ from q) fun o _ q2 => PostO.step (.same s os) q2⟩
    | false =>
      rw [if_neg Bool.false_ne_true]
      exact ⟨g, env, os, r.same s, Good.mono (show Good E g.H₀ (fb env) _ from q) fun o _ q2 => PostO.step (.same s os) q2⟩⟩
theorem sSet (i : Nat) {x : Str} {e : Expr} {f : DE → R D} {pos' : Pos} (he : PE X e (tD X.K E f)) (hN : X.N.Nodup) (hi : X.N[i]? = some x := by rfl) (hx : Loc X.env.scope x := by first | exact Or.inl rfl | exact Or.inr rfl) (hs : swapsWith e (some (.Name x pos')) pos.line X.env = pure false := by rfl)
    (hf : X.fn x = true ∨ X.env.scope.names.lookup x = some .local := by first | exact .inl rfl | exact .inr rfl | assumption) : PS X (.Assign [.Name x pos'] e pos) (tS X.K E fun env => (f env).bind fun d => .ok (.nx (env.set i (.val d)))) :=
  impS (ps_set hN hi hx he hs hf) fun De σ H ⟨g, env, os, r, m⟩ => ⟨g, env, os, r, m.bind.mono fun d _ q v H' s h => q _ H' os ((r.same s).set i h) (.same s os)⟩
theorem Stp.new {H H' : Hp} {os : List Addr} {a : Addr} (s : Same H H') (hn : H a = none) : Stp H os H' (a :: os) :=
  ⟨fun b hb => (List.mem_cons.mp hb).elim (fun z => .inr (by rw [z]; exact hn)) .inl, fun _ h => s.free h, fun _ _ _ h => s _ _ h⟩
theorem sSetF (i : Nat) {x : Str} {e : Expr} {f : DE → R (List D)} {pos' : Pos} (he : PE X e (tF X.K E f)) (hN : X.N.Nodup) (hi : X.N[i]? = some x := by rfl) (hx : Loc X.env.scope x := by first | exact Or.inl rfl | exact Or.inr rfl) (hs : swapsWith e (some (.Name x pos')) pos.line X.env = pure false := by rfl)
    (hf : X.fn x = true ∨ X.env.scope.names.lookup x = some .local := by first | exact .inl rfl | exact .inr rfl | assumption) : PS X (.Assign [.Name x pos'] e pos) (tS X.K E fun env => (f env).bind fun d => .ok (.nx (env.set i (.own d)))) :=
  impS (ps_set hN hi hx he hs hf) fun De σ H ⟨g, env, os, r, m⟩ => ⟨g, env, os, r, m.bind.mono fun d _ q a vs H' s hn hH h => q _ H' (a :: os) (r.setF s i hn hH h) (.new s hn)⟩
theorem Stp.mut {H : Hp} {os : List Addr} {a : Addr} {o : HO} (ha : a ∈ os) : Stp H os (upd H a o) os :=
  ⟨fun b hb => .inl hb, fun b h => by
    by_cases z : b = a
    · subst z; rw [upd_same] at h; cases h
    · rw [upd_ne z] at h; exact h, fun b u hb h => by rw [upd_ne (fun z => hb (by rw [z]; exact ha))]; exact h⟩
def frz (i : Nat) (env : DE) : DE := match env[i]? with
  | some (.own xs) => env.set i (.val (.lst xs))
  | _ => env
theorem sFrz (i : Nat) {st : Stmt} {f : DE → R Out} (h : PS X st (tS X.K E f)) : PS X st (tS X.K E fun env => f (frz i env)) := impS h fun De σ H ⟨g, env, os, r, m⟩ => by
  dsimp only [frz] at m
  split at m
  · rename_i xs e
    obtain ⟨os', r', hs⟩ : ∃ os', Rel X.K g (env.set i (.val (.lst xs))) σ H os' ∧ ∀ a ∈ os', a ∈ os := r.freeze' e
    exact ⟨g, _, os', r', m.mono fun o _ q => PostO.step ⟨fun a ha => .inl (hs a ha), fun _ h => h, fun _ _ _ h => h⟩ q⟩
  · exact ⟨g, env, os, r, m⟩
theorem sApp (i : Nat) {x : Str} {e : Expr} {f : DE → R D} {p apos cpos : Pos} (he : PE X e (tD X.K E f)) (hN : X.N[i]? = some x := by rfl) (hv : Vis X.env.scope x := by first | exact Or.inl rfl | exact Or.inr (Or.inl rfl) | exact Or.inr (Or.inr rfl)) (hd : (x == ("__debug__" : Str)) = false := by decide)
    (hcd : (x == ("__classdict__" : Str)) = false := by decide)
    (hbase : attributeBase (.Name x p) "append" X.env (eval (.Name x p) X.env) = eval (.Name x p) X.env := by rfl)
    (hfew : ((backTo cpos (starEach [e] X.env)).all (fun x => !x.1) && (backToKw cpos (keywordEach [] X.env)).all (fun x => x.1.isSome)
      && decide ([e].length + ([] : List Keyword).length + (if ([] : List Keyword).isEmpty then 0 else 1) < 30)) = true := by rfl)
    (hline : (apos.endLine == cpos.line) = true := by rfl) (hst : starEach [e] X.env = (false, eval e X.env) :: starEach [] X.env := by rfl) (hplain : (backTo cpos (starEach [] X.env)).any (·.1) = false := by rfl)
    (hs : swapsWith (.Call (.Attribute (.Name x p) "append" apos) [e] [] cpos) none pos.line X.env = pure false := by rfl) :
    PS X (.Expr (.Call (.Attribute (.Name x p) "append" apos) [e] [] cpos) pos) (tS X.K E fun env => (ownAt i env).bind fun xs => (f env).bind fun d => @ite _ (xs.length < sizeLine) (Classical.propDecidable _) (.ok (.nx (env.set i (.own (xs ++ [d]))))) (.bad)) :=
  impS (ps_expr (pe_bm PySem.F.plainAttrs_list PySem.F.slot_list_append PySem.F.type_list_append mt_append (pe_var hN hv hd hcd) (pa_cons he pa_nil hst) hbase hfew hline hst hplain) hs) fun De σ H ⟨g, env, os, r, m⟩ => by
    obtain ⟨xs, e, m1⟩ := m.bind.own
    obtain ⟨a, vs, h1, h2, h3, h4⟩ := r.own i xs e
    refine ⟨.ref a, h1, .inl ⟨rfl, vs, SqL.of h3⟩, g, env, os, r, m1.bind.mono fun d _ q v H' s hi => ?_⟩
    split at q
    · rename_i c
      refine ⟨a, vs, v, rfl, rfl, s _ _ h3, by rw [h4.length]; exact c, ?_⟩
      exact q σ _ os ((r.same s).mut e h1 h2 ((h4.same s).app (.one hi))) ((Stp.same s os).trans (.mut h2))
    · exact q.elim
theorem sSetIx (i : Nat) {x : Str} {ek e : Expr} {fk f : DE → R D} {p tp : Pos} (hk : PE X ek (tB X.K E fk)) (he : PE X e (tD X.K E f)) (hN : X.N[i]? = some x := by rfl) (hv : Vis X.env.scope x := by first | exact Or.inl rfl | exact Or.inr (Or.inl rfl) | exact Or.inr (Or.inr rfl)) (hd : (x == ("__debug__" : Str)) = false := by decide)
    (hcd : (x == ("__classdict__" : Str)) = false := by decide)
    (ha : ∀ v, assign (.Subscript (.Name x p) ek tp) X.env v = (do
      let ov ← holding [v] (eval (.Name x p) X.env)
      let iv ← holding [v, ov] (eval ek X.env)
      standAt tp
      holding [v, ov, iv] (setItem ov iv v)
      release [v, ov, iv] []) := by intro _; rfl)
    (hs : swapsWithSole [.Subscript (.Name x p) ek tp] e pos.line X.env = pure false := by rfl) (hw : swappedStores [.Subscript (.Name x p) ek tp] e X.env = pure none := by rfl)
    (h1 : (assignEach [.Subscript (.Name x p) ek tp] X.env).map (·.2) = [assign (.Subscript (.Name x p) ek tp) X.env] := by rfl) :
    PS X (.Assign [.Subscript (.Name x p) ek tp] e pos) (tS X.K E fun env => (f env).bind fun d => (ownAt i env).bind fun xs => (fk env).bind fun kd => match kd with
      | .int j => (match ixN xs.length j with
        | some n => .ok (.nx (env.set i (.own (xs.set n d))))
        | none => .bad)
      | _ => .bad) :=
  impS (ps_asg he (pg_sub (pe_var hN hv hd hcd) hk set_list ha) hs hw h1) fun De σ H ⟨g, env, os, r, m⟩ => ⟨g, env, os, r, m.bind.mono fun d _ m1 v H1 s1 i1 => by
    obtain ⟨xs, e, m2⟩ := m1.bind.own
    obtain ⟨a, vs, h1, h2, h3, h4⟩ := (r.same s1).own i xs e
    refine ⟨.ref a, h1, g, env, os, r.same s1, m2.bind.mono fun kd _ m3 w H2 s2 i2 => ?_⟩
    cases kd with
    | int j =>
      cases q : ixN xs.length j with
      | none =>
        simp only [q] at m3
        exact m3.elim
      | some n =>
        simp only [q] at m3
        refine ⟨a, vs, j, n, rfl, i2, s2 _ _ h3, by rw [h4.length]; exact q, ?_⟩
        exact m3 σ _ os ((r.same (s1.trans s2)).mut e h1 h2 ((h4.same s2).set n (i1.same s2))) ((Stp.same (s1.trans s2) os).trans (.mut h2))
    | non => exact m3.elim
    | bl _ => exact m3.elim
    | lst _ => exact m3.elim
    | str _ => exact m3.elim
    | exc _ => exact m3.elim
    | fn _ => exact m3.elim
    | tup _ => exact m3.elim⟩
theorem sAug (i : Nat) {x : Str} {e : Expr} {op : Operator} {h : Int → Int → Int} {f : DE → R D} {pos' : Pos} (ho : PIp X op (ipI h)) (he : PE X e (tB X.K E f)) (hN : X.N.Nodup) (hi : X.N[i]? = some x := by rfl) (hx : Loc X.env.scope x := by first | exact Or.inl rfl | exact Or.inr rfl)
    (hf : X.fn x = true ∨ X.env.scope.names.lookup x = some .local := by first | exact .inl rfl | exact .inr rfl | assumption) :
    PS X (.AugAssign (.Name x pos') op e pos) (tS X.K E fun env => (slV i env).bind fun a => (f env).bind fun b => match a, b with
      | .int u, .int w => .ok (.nx (env.set i (.val (.int (h u w)))))
      | _, _ => .bad) :=
  impS (ps_aug hN hi hx he ho hf) fun De σ H ⟨g, env, os, r, m⟩ => by
    dsimp only [slV] at m
    cases q : env[i]? with
    | none => rw [q] at m; exact m.elim
    | some sl =>
      cases sl with
      | no => rw [q] at m; exact m.elim
      | raw _ => rw [q] at m; exact m.elim
      | deep _ => rw [q] at m; exact m.elim
      | own _ => rw [q] at m; exact m.elim
      | val a =>
        rw [q] at m
        obtain ⟨v, h1, h2⟩ := r.val i a q
        have m' : Good E g.H₀ ((f env).bind _) _ := m
        refine ⟨v, h1, g, env, os, r, m'.bind.mono fun b _ m2 w H' s i2 => ?_⟩
        cases a with
        | int u =>
          cases b with
          | int w' => exact ⟨u, w', h2, i2, m2 _ H' os ((r.same s).set i rfl) (.same s os)⟩
          | non => exact m2.elim
          | bl _ => exact m2.elim
          | lst _ => exact m2.elim
          | str _ => exact m2.elim
          | exc _ => exact m2.elim
          | fn _ => exact m2.elim
          | tup _ => exact m2.elim
        | non => exact m2.elim
        | bl _ => exact m2.elim
        | lst _ => exact m2.elim
        | str _ => exact m2.elim
        | exc _ => exact m2.elim
        | fn _ => exact m2.elim
        | tup _ => exact m2.elim

def Yl (K : PySem.W.Frag) (P : Addr → Prop) (J : It) (H : Hp) (xs : List D) : Prop :=
  ∀ (i : Nat) (H' : Hp) (P' : Addr → Prop), Ext P P' H H' → (∀ d, xs[i]? = some d → J.go i H' ∧ ∀ x H'', J.yld i H' x H'' → Same H' H'' ∧ Is K (fun a => P' a ∨ H' a = none) H'' d x) ∧ (xs.length = i → J.stop i H')
def tI (K : PySem.W.Frag) (E : Str → Hp → Prop) (f : DE → R (List D)) : TI := fun σ H Rr => ∃ g env os, Rel K g env σ H os ∧ Good E g.H₀ (f env) fun xs => ∀ J H1, Same H H1 → Yl K (g.P os) J H1 xs → Rr J H1
theorem impI {tg e : Expr} {t t' : TI} (h : PI X tg e t) (w : ∀ σ H Q, t' σ H Q → t σ H Q) : PI X tg e t' := fun pins s σ H Q I q => h pins s σ H Q I (w σ H Q q)
def Yls (K : PySem.W.Frag) (P : Addr → Prop) (J : It) (H : Hp) (xs : List D) : Prop :=
  ∀ (i : Nat) (H' : Hp) (P' : Addr → Prop), Same H H' → Ext P P' H H' → (∀ d, xs[i]? = some d → J.go i H' ∧ ∀ x H'', J.yld i H' x H'' → Same H' H'' ∧ Is K (fun a => P' a ∨ H' a = none) H'' d x) ∧ (xs.length = i → J.stop i H')
def tIS (K : PySem.W.Frag) (E : Str → Hp → Prop) (f : DE → R (List D)) : TI := fun σ H Rr => ∃ g env os, Rel K g env σ H os ∧ Good E g.H₀ (f env) fun xs => ∀ J H1, Same H H1 → Yls K (g.P os) J H1 xs → Rr J H1
theorem toIS {tg e : Expr} {f : DE → R (List D)} (h : PI X tg e (tI X.K E f)) : PI X tg e (tIS X.K E f) := impI h fun σ H Q ⟨g, env, os, r, m⟩ => ⟨g, env, os, r, m.mono fun xs _ q J H1 s1 yl => q J H1 s1 fun i H' P' _ ex => yl i H' P' ex⟩
theorem iL {tg e : Expr} {f : DE → R D} (he : PE X e (tD X.K E f)) : PI X tg e (tI X.K E fun env => (f env).bind asL) :=
  impI (pi_list he) fun σ H Q ⟨g, env, os, r, m⟩ => ⟨g, env, os, r, m.bind.mono fun d _ q v H' s i => by
    cases d with
    | lst xs =>
      obtain ⟨a, vs, rfl, h1, h2⟩ := i
      refine ⟨a, rfl, ⟨vs, h1.sq⟩, q _ H' s fun j H2 P' ex => ⟨fun d hd => ?_, fun hj => ?_⟩⟩
      · obtain ⟨x, hx, hi⟩ := (IsL.ext ex _ _ h2).get hd
        refine ⟨⟨vs, x, (h1.ext ex).sq, hx⟩, fun y H3 hy => ?_⟩
        obtain ⟨rfl, hy⟩ := hy
        have e2 := hy vs (h1.ext ex).sq
        rw [hx] at e2
        cases e2
        exact ⟨Same.refl _, Is.ext ⟨fun _ _ p _ => .inl p, fun _ _ _ z => z⟩ _ _ hi⟩
      · exact ⟨vs, (h1.ext ex).sq, by rw [IsL.length h2]; exact Nat.le_of_eq hj⟩
    | non => exact q.elim
    | bl _ => exact q.elim
    | int _ => exact q.elim
    | str _ => exact q.elim
    | exc _ => exact q.elim
    | fn _ => exact q.elim
    | tup _ => exact q.elim⟩
def rngL (lo : Int) (n : Nat) : List D := (List.range n).map fun i => .int (lo + (i : Nat))
noncomputable def rng1 : List D → R (List D)
  | [.int j] => @ite _ (-(2 ^ 62) ≤ j ∧ j < 2 ^ 62) (Classical.propDecidable _) (.ok (rngL 0 j.toNat)) (.bad)
  | _ => .bad
theorem yl_rng {K : PySem.W.Frag} {P : Addr → Prop} {H : Hp} (lo : Int) (n : Nat) : Yl K P (Itr lo n) H (rngL lo n) := fun i H' P' ex => ⟨fun d hd => by
  unfold rngL at hd
  rw [List.getElem?_map] at hd
  have hi : i < n := by
    cases q : (List.range n)[i]? with
    | none => rw [q] at hd; cases hd
    | some j => simpa using (List.getElem?_eq_some_iff.mp q).1
  rw [List.getElem?_range hi] at hd
  cases hd
  refine ⟨hi, fun x H2 hy => ?_⟩
  obtain ⟨rfl, rfl⟩ := hy
  exact ⟨Same.refl _, rfl⟩, fun h => by
  unfold rngL at h
  exact Nat.le_of_eq (by simpa using h)⟩
theorem iR1 {tg a : Expr} {p : Pos} {f : DE → R (List D)} (hm : X.mg "range" = none) (ha : PA X [a] (tArB X.K E f)) (hg : Gl X "range" := by rfl) (hs : starEach [a] X.env = [(false, eval a X.env)] := by rfl) :
    PI X tg (.Call (.Name "range" p) [a] [] pos) (tI X.K E fun env => (f env).bind rng1) :=
  impI (pi_range1 hg hm ha hs) fun σ H Q ⟨g, env, os, r, m⟩ => ⟨g, env, os, r, m.bind.mono fun ds _ q vs H' s i => by
    unfold rng1 at q
    split at q
    · rename_i j _
      split at q
      · rename_i c
        obtain ⟨v, rfl, h1⟩ := IsL.one' i
        have h' : v = .int j := h1
        subst h'
        exact ⟨j, rfl, c.1, c.2, q _ H' s (yl_rng 0 _)⟩
      · exact q.elim
    · exact q.elim⟩
def tG (K : PySem.W.Frag) (E : Str → Hp → Prop) (b : D → DE → R DE) : TG := fun v σ H Q => ∃ g env os d, Rel K g env σ H os ∧ Is K (g.P os) H d v ∧ Good E g.H₀ (b d env) fun e' => ∀ σ', Rel K g e' σ' H os → Q σ' H
def tGs (K : PySem.W.Frag) (E : Str → Hp → Prop) (b : List D → DE → R DE) : TGs := fun vs σ H Q => ∃ g env os ds, Rel K g env σ H os ∧ IsL K (g.P os) H ds vs ∧ Good E g.H₀ (b ds env) fun e' => ∀ σ', Rel K g e' σ' H os → Q σ' H
theorem impG {e : Expr} {t t' : TG} (h : PG X e t) (w : ∀ v σ H Q, t' v σ H Q → t v σ H Q) : PG X e t' := fun pins s σ H v u Q I r q => h pins s σ H v u Q I r (w v σ H Q q)
theorem impGs {e : List Expr} {t t' : TGs} (h : PGs X e t) (w : ∀ v σ H Q, t' v σ H Q → t v σ H Q) : PGs X e t' := fun pins s σ H v u Q I r q => h pins s σ H v u Q I r (w v σ H Q q)
theorem gN (i : Nat) {x : Str} (hN : X.N.Nodup) (hi : X.N[i]? = some x := by rfl) (hx : Loc X.env.scope x := by first | exact Or.inl rfl | exact Or.inr rfl) (hf : X.fn x = true ∨ X.env.scope.names.lookup x = some .local := by first | exact .inl rfl | exact .inr rfl | assumption) :
    PG X (.Name x pos) (tG X.K E fun d env => .ok (env.set i (.val d))) := impG (pg_name hN hi hx hf) fun v σ H Q ⟨g, env, os, d, r, h, m⟩ => m _ (r.set i h)
theorem gsNil : PGs X [] (tGs X.K E fun ds env => match ds with
    | [] => .ok env
    | _ => .bad) := impGs pgs_nil fun vs σ H Q ⟨g, env, os, ds, r, h, m⟩ => by
  cases ds with
  | nil => exact ⟨h, m σ r⟩
  | cons _ _ => exact m.elim
theorem gsCons {e : Expr} {es : List Expr} {b : D → DE → R DE} {k : List D → DE → R DE} (h1 : PG X e (tG X.K E b)) (h2 : PGs X es (tGs X.K E k)) (hs : (assignEach (e :: es) X.env).map (·.2) = assign e X.env :: (assignEach es X.env).map (·.2) := by rfl) :
    PGs X (e :: es) (tGs X.K E fun ds env => match ds with
      | d :: r => (b d env).bind fun e' => k r e'
      | _ => .bad) := impGs (pgs_cons h1 h2 hs) fun vs σ H Q ⟨g, env, os, ds, r, h, m⟩ => by
  cases ds with
  | nil => exact m.elim
  | cons d rest =>
    obtain ⟨v, vr, rfl, p, q⟩ := h
    have m' : Good E g.H₀ ((b d env).bind fun e' => k rest e') _ := m
    exact ⟨v, vr, rfl, g, env, os, d, r, p, m'.bind.mono fun e' _ m2 σ' r' => ⟨g, e', os, rest, r', q, m2⟩⟩
theorem gT {es : List Expr} {kk : Nat} {b : List D → DE → R DE} {n : Nat} (hc : X.calm = true) (h : PGs X es (tGs X.K E b)) (hn : (assignEach es X.env).length = n := by rfl) (hst : (assignEach es X.env).findIdx? (·.1) = none := by rfl) :
    PG X (.Tuple es kk pos) (tG X.K E fun d env => match d with
      | .tup ds => if ds.length = n then b ds env else .bad
      | _ => .bad) := impG (pg_tup hc h hn hst) fun v σ H Q ⟨g, env, os, d, r, h, m⟩ => by
  cases d with
  | tup ds =>
    obtain ⟨a, vs, rfl, h1, h2⟩ := h
    have m' : Good E g.H₀ (if ds.length = n then b ds env else .bad) _ := m
    split at m'
    · rename_i c
      exact ⟨a, vs, rfl, h1.sq, by rw [IsL.length h2]; exact c, g, env, os, ds, r, h2, m'⟩
    · exact m'.elim
  | non => exact m.elim
  | bl _ => exact m.elim
  | int _ => exact m.elim
  | str _ => exact m.elim
  | lst _ => exact m.elim
  | exc _ => exact m.elim
  | fn _ => exact m.elim
theorem sFor {tg iter : Expr} {body : List Stmt} {f : DE → R (List D)} {b : D → DE → R DE} {k : DE → R Out} (hp : PassesOwn (model X.prog X.w) X.A X.env X.xe) (hc : X.calm = true) (hi : PI X tg iter (tI X.K E f)) (hg : PG X tg (tG X.K E b)) (hb : PSs X body (tS X.K E k))
    (hs : ∀ x, foldedSetIterable iter X.env x = pure x := by intro _; rfl) : PS X (.For tg iter body [] pos) (tS X.K E fun env => (f env).bind fun xs => forD (fun d e => (b d e).bind k) xs env) :=
  impS (ps_for hp hc hi hg hb hs) fun De σ H ⟨g, env, os, r, m⟩ => ⟨g, env, os, r, m.bind.mono fun xs _ m1 J H1 s1 yl => by
    refine ⟨fun i n σ' H' => n = xs.length - i ∧ i ≤ xs.length ∧ ∃ env' os', Rel X.K g env' σ' H' os' ∧ Stp H1 os H' os' ∧ Good E g.H₀ (forD (fun d e => (b d e).bind k) (xs.drop i) env') (PostO X.K g H' os' De),
      ⟨xs.length, by simp, Nat.zero_le _, env, os, r.same s1, .refl _ _, by rw [List.drop_zero]; exact m1.mono fun o _ q => PostO.step (.same s1 os) q⟩, ?_⟩
    rintro i n σ' H' ⟨rfl, hi, env', os', r', st, m2⟩
    obtain ⟨y1, y2⟩ := yl i H' (g.P os') st.ext
    by_cases hlt : i < xs.length
    · have hx : xs[i]? = some xs[i] := List.getElem?_eq_getElem hlt
      obtain ⟨go, y3⟩ := y1 _ hx
      rw [List.drop_eq_getElem_cons hlt] at m2
      refine .inr ⟨go, fun σ2 H2 => ∃ env2 os2, Rel X.K g env2 σ2 H2 os2 ∧ Stp H1 os H2 os2 ∧ Good E g.H₀ (forD (fun d e => (b d e).bind k) (xs.drop (i + 1)) env2) (PostO X.K g H2 os2 De), fun σ2 H2 ⟨e2, o2, r2, t2, g2⟩ => ⟨xs.length - (i + 1), by omega, rfl, hlt, e2, o2, r2, t2, g2⟩, fun x H2 hy => ?_⟩
      obtain ⟨s2, hx2⟩ := y3 x H2 hy
      have r2 := r'.same s2
      have ix : Is X.K (g.P os') H2 xs[i] x := Is.ext ⟨fun a o p _ => p.elim (fun z => z) fun z => r'.fresh z, fun _ _ _ z => z⟩ _ _ hx2
      have m3 : Good E g.H₀ (((b xs[i] env').bind k).bind _) _ := m2
      refine ⟨g, env', os', xs[i], r2, ix, m3.bind.bind.mono fun e3 _ m4 σ3 r3 => ⟨g, e3, os', r3, Good.mono m4 fun o _ q => ?_⟩⟩
      have st2 := st.trans (Stp.same s2 os')
      cases o with
      | nx e4 => exact fun σ4 H4 os4 r4 z => ⟨e4, os4, r4, st2.trans z, Good.mono (show Good E g.H₀ (forD _ _ e4) _ from q) fun o _ q => PostO.step ((Stp.same s2 os').trans z) q⟩
      | ct e4 => exact fun σ4 H4 os4 r4 z => ⟨e4, os4, r4, st2.trans z, Good.mono (show Good E g.H₀ (forD _ _ e4) _ from q) fun o _ q => PostO.step ((Stp.same s2 os').trans z) q⟩
      | bk e4 => exact fun σ4 H4 os4 r4 z => (show PostO X.K g H' os' De (.nx e4) from q) σ4 H4 os4 r4 ((Stp.same s2 os').trans z)
      | rt d => exact q
      | rtF ys => exact q
      | rtC ys => exact q
      | rtP ys => exact q
      | rtQ ys => exact q
      | rtT ys => exact q
    · have e : i = xs.length := by omega
      subst e
      rw [List.drop_length] at m2
      exact .inl ⟨y2 rfl, (show PostO X.K g H' os' De (.nx env') from m2) σ' H' os' r' (.refl _ _)⟩⟩
theorem sWhile {c : Expr} {body : List Stmt} {fc : DE → R Bool} {k : DE → R Out} (fuel : DE → Nat) (hp : PassesOwn (model X.prog X.w) X.A X.env X.xe) (hc : PT X c (tT X.K E fc)) (hb : PSs X body (tS X.K E k)) :
    PS X (.While c body [] pos) (tS X.K E fun env => whileD fc k (fuel env) env) :=
  impS (ps_while hp hc hb) fun De σ H ⟨g, env, os, r, m⟩ => by
    refine ⟨fun n σ' H' => ∃ env' os', Rel X.K g env' σ' H' os' ∧ Good E g.H₀ (whileD fc k n env') (PostO X.K g H' os' De), ⟨fuel env, env, os, r, m⟩, ?_⟩
    rintro n σ' H' ⟨env', os', r', m2⟩
    cases n with
    | zero => exact m2.elim
    | succ n =>
      have m3 : Good E g.H₀ ((fc env').bind _) _ := m2
      refine ⟨g, env', os', r', m3.bind.mono fun t _ m4 H2 s2 => ?_⟩
      cases t with
      | false =>
        rw [if_neg Bool.false_ne_true]
        exact (show PostO X.K g H' os' De (.nx env') from m4) σ' H2 os' (r'.same s2) (.same s2 os')
      | true =>
        rw [if_pos rfl]
        have m5 : Good E g.H₀ ((k env').bind _) _ := m4
        refine ⟨fun σ2 H2' => ∃ env2 os2, Rel X.K g env2 σ2 H2' os2 ∧ Good E g.H₀ (whileD fc k n env2) (PostO X.K g H2' os2 De), fun σ2 H3 q => ⟨n, Nat.lt_succ_self n, q⟩, g, env', os', r'.same s2, m5.bind.mono fun o _ q => ?_⟩
        cases o with
        | nx e4 => exact fun σ4 H4 os4 r4 z => ⟨e4, os4, r4, Good.mono (show Good E g.H₀ (whileD _ _ n e4) _ from q) fun o _ q => PostO.step ((Stp.same s2 os').trans z) q⟩
        | ct e4 => exact fun σ4 H4 os4 r4 z => ⟨e4, os4, r4, Good.mono (show Good E g.H₀ (whileD _ _ n e4) _ from q) fun o _ q => PostO.step ((Stp.same s2 os').trans z) q⟩
        | bk e4 => exact fun σ4 H4 os4 r4 z => (show PostO X.K g H' os' De (.nx e4) from q) σ4 H4 os4 r4 ((Stp.same s2 os').trans z)
        | rt d => exact q
        | rtF ys => exact q
        | rtC ys => exact q
        | rtP ys => exact q
        | rtQ ys => exact q
        | rtT ys => exact q
end

def initE (n : Nat) (ds : List D) : DE := ds.map .val ++ List.replicate (n - ds.length) .no
theorem rel_start {K : PySem.W.Frag} {N : List Str} {P : Addr → Prop} {H : Hp} {ds : List D} {vs : List V} (h : IsL K P H ds vs) : Rel K ⟨P, H⟩ (initE N.length ds) (L2.start N vs) H [] := by
  have hl := h.length
  refine ⟨by simp [initE, L2.start, hl], Same.refl H, fun i d e => ?_, fun i xs e => ?_, fun i j xs ys a e => ?_, (fun a ha => nomatch ha), fun i v e => ?_, Deep.none fun i v e => ?_⟩
  · unfold initE at e
    by_cases hi : i < ds.length
    · rw [List.getElem?_append_left (by simpa using hi), List.getElem?_map, List.getElem?_eq_getElem hi] at e
      have e' : Sl.val ds[i] = Sl.val d := Option.some.inj e
      cases e'
      obtain ⟨v, h1, h2⟩ := h.get (List.getElem?_eq_getElem hi)
      refine ⟨v, ?_, Is.ext ⟨fun a o p _ => ⟨.inl p, by simp⟩, fun _ _ _ z => z⟩ _ _ h2⟩
      unfold L2.start
      rw [List.getElem?_append_left (by simp; omega), List.getElem?_map, h1] <;> rfl
    · rw [List.getElem?_append_right (by simp; omega)] at e
      have := List.getElem?_replicate (n := N.length - ds.length) (a := Sl.no) (i := i - (ds.map Sl.val).length)
      rw [this] at e
      split at e <;> cases e
  · exfalso
    unfold initE at e
    by_cases hi : i < ds.length
    · rw [List.getElem?_append_left (by simpa using hi), List.getElem?_map, List.getElem?_eq_getElem hi] at e
      cases e
    · rw [List.getElem?_append_right (by simp; omega)] at e
      have := List.getElem?_replicate (n := N.length - ds.length) (a := Sl.no) (i := i - (ds.map Sl.val).length)
      rw [this] at e
      split at e <;> cases e
  · exfalso
    unfold initE at e
    by_cases hi : i < ds.length
    · rw [List.getElem?_append_left (by simpa using hi), List.getElem?_map, List.getElem?_eq_getElem hi] at e
      cases e
    · rw [List.getElem?_append_right (by simp; omega)] at e
      have := List.getElem?_replicate (n := N.length - ds.length) (a := Sl.no) (i := i - (ds.map Sl.val).length)
      rw [this] at e
      split at e <;> cases e
  · exfalso
    unfold initE at e
    by_cases hi : i < ds.length
    · rw [List.getElem?_append_left (by simpa using hi), List.getElem?_map, List.getElem?_eq_getElem hi] at e
      cases e
    · rw [List.getElem?_append_right (by simp; omega)] at e
      have := List.getElem?_replicate (n := N.length - ds.length) (a := Sl.no) (i := i - (ds.map Sl.val).length)
      rw [this] at e
      split at e <;> cases e
  · exfalso
    unfold initE at e
    by_cases hi : i < ds.length
    · rw [List.getElem?_append_left (by simpa using hi), List.getElem?_map, List.getElem?_eq_getElem hi] at e
      cases e
    · rw [List.getElem?_append_right (by simp; omega)] at e
      have := List.getElem?_replicate (n := N.length - ds.length) (a := Sl.no) (i := i - (ds.map Sl.val).length)
      rw [this] at e
      split at e <;> cases e
def valO : Out → R D
  | .rt d => .ok d
  | .rtF xs => .ok (.lst xs)
  | .nx _ => .ok .non
  | _ => .bad
def lstO : Out → R (List D)
  | .rtF xs => .ok xs
  | _ => .bad
abbrev EN : Str → Hp → Prop := fun _ _ => False
section
variable {P : Program} {w : World} {K : PySem.W.Frag} {mg : Str → Option Value} {base : Heap}
theorem Is.P0 {Q : Addr → Prop} {H H' : Hp} {d : D} {v : V} (h : Is K ((⟨Q, H⟩ : Gh).P []) H' d v) : Is K (fun a => Q a ∨ H a = none) H' d v := Is.ext ⟨fun _ _ p _ => p.1, fun _ _ _ z => z⟩ _ _ h
theorem defD {x qual : Str} {st : Stmt} {f : Addr} {fd : FuncData} {N ps : List Str} {k : Nat} {xc : Str → Value} {m : List D → R D} {b : DE → R Out} (F : Fun K x qual st f fd) (S : FnScope N ps (defScope st))
    (hm : ∀ ds d, m ds = .ok d → ds.length = ps.length ∧ (b (initE N.length ds)).bind valO = .ok d) (hne : ∀ ds c, m ds ≠ .err c)
    (hb : ∀ (cdv : Value) (A : Around) (outer : List Env) (s : Shared) (H : Hp) (E : XK), Room k (A.deeper (envOfC qual (defScope st) s.heap.objs.size f cdv)) → PSs (cxOf CX0 P w K mg base N qual (defScope st) f cdv A outer s H E).nox (defBody st) (tS K EN b)) :
    FnOk P w K mg base CX0 (k + 1) f fd ps (spD K xc m) := by
  refine F.ok S (fun vs H Q E h => ?_) (fun cdv A outer s H vs Q E hr h => ?_)
  · obtain ⟨Pa, ds, i, h⟩ := h
    cases e : m ds with
    | ok d => rw [i.length]; exact (hm ds d e).1
    | err c => exact (hne ds c e).elim
    | bad => rw [e] at h; exact h.elim
  · obtain ⟨Pa, ds, i, h⟩ := h
    refine ⟨_, hb cdv A outer s H E hr, ⟨⟨Pa, H⟩, initE N.length ds, [], rel_start i, ?_⟩⟩
    cases e : m ds with
    | err c => exact (hne ds c e).elim
    | bad => rw [e] at h; exact h.elim
    | ok d =>
      rw [e] at h
      obtain ⟨_, q⟩ := hm ds d e
      cases eb : b (initE N.length ds) with
      | bad => rw [eb] at q; cases q
      | err c => rw [eb] at q; cases q
      | ok o =>
        rw [eb] at q
        cases o with
        | rt d' =>
          cases q
          exact fun v H' s' i' => h v H' s' i'.P0
        | rtF xs =>
          cases q
          intro a vs' H' s' hn hH i'
          exact h _ H' s' ⟨a, vs', rfl, .inl ⟨.inr hn, .inl hH⟩, IsL.ext ⟨fun b o p _ => p.1, fun _ _ _ z => z⟩ _ _ i'⟩
        | nx e' =>
          cases q
          exact fun σ' H' os' r' _ => h _ H' r'.ext rfl
        | rtC _ => cases q
        | rtP _ => cases q
        | rtQ _ => cases q
        | rtT _ => cases q
        | bk _ => cases q
        | ct _ => cases q
theorem defF {x qual : Str} {st : Stmt} {f : Addr} {fd : FuncData} {N ps : List Str} {k : Nat} {xc : Str → Value} {m : List D → R (List D)} {b : DE → R Out} (F : Fun K x qual st f fd) (S : FnScope N ps (defScope st))
    (hm : ∀ ds d, m ds = .ok d → ds.length = ps.length ∧ (b (initE N.length ds)).bind lstO = .ok d) (hne : ∀ ds c, m ds ≠ .err c)
    (hb : ∀ (cdv : Value) (A : Around) (outer : List Env) (s : Shared) (H : Hp) (E : XK), Room k (A.deeper (envOfC qual (defScope st) s.heap.objs.size f cdv)) → PSs (cxOf CX0 P w K mg base N qual (defScope st) f cdv A outer s H E).nox (defBody st) (tS K EN b)) :
    FnOk P w K mg base CX0 (k + 1) f fd ps (spF K xc m) := by
  refine F.ok S (fun vs H Q E h => ?_) (fun cdv A outer s H vs Q E hr h => ?_)
  · obtain ⟨Pa, ds, i, h⟩ := h
    cases e : m ds with
    | ok d => rw [i.length]; exact (hm ds d e).1
    | err c => exact (hne ds c e).elim
    | bad => rw [e] at h; exact h.elim
  · obtain ⟨Pa, ds, i, h⟩ := h
    refine ⟨_, hb cdv A outer s H E hr, ⟨⟨Pa, H⟩, initE N.length ds, [], rel_start i, ?_⟩⟩
    cases e : m ds with
    | err c => exact (hne ds c e).elim
    | bad => rw [e] at h; exact h.elim
    | ok d =>
      rw [e] at h
      obtain ⟨_, q⟩ := hm ds d e
      cases eb : b (initE N.length ds) with
      | bad => rw [eb] at q; cases q
      | err c => rw [eb] at q; cases q
      | ok o =>
        rw [eb] at q
        cases o with
        | rt d' => cases q
        | rtF xs =>
          cases q
          intro a vs' H' s' hn hH i'
          exact h a vs' H' s' hn hH (IsL.ext ⟨fun b o p _ => ⟨p.1, fun z => p.2 (by simp [z])⟩, fun _ _ _ z => z⟩ _ _ i')
        | nx e' => cases q
        | rtC _ => cases q
        | rtP _ => cases q
        | rtQ _ => cases q
        | rtT _ => cases q
        | bk _ => cases q
        | ct _ => cases q
end
end DL

namespace DL
open PySem PySem.Spec PyProof.Rows L2
def clL (cells : List (Str × Addr)) : List (Str × NameKind) → List (Str × Addr) → List (Str × Addr)
  | [], acc => acc
  | (n, k) :: r, acc => if (k == NameKind.free) = true then clL cells r ((n, (cells.lookup n).getD 0) :: acc) else clL cells r acc
theorem closureFor_eq {scope : Scope} {env : Env} (h : ∀ y ∈ scope.names, y.2 = .free → ∃ c, env.cells.lookup y.1 = some c) : closureFor scope env = pure (clL env.cells scope.names []) := by
  have gen : ∀ (l : List (Str × NameKind)) (acc : List (Str × Addr)), (∀ y ∈ l, y.2 = .free → ∃ c, env.cells.lookup y.1 = some c) →
      (forIn l acc fun (x : Str × NameKind) (r : List (Str × Addr)) => (if (x.2 == NameKind.free) = true then (do let a ← cellOf env x.1; pure (ForInStep.yield ((x.1, a) :: r))) else pure (ForInStep.yield r) : Sem (ForInStep (List (Str × Addr))))) = pure (clL env.cells l acc) := by
    intro l
    induction l with
    | nil => intro acc _; rfl
    | cons y r ih =>
      intro acc hy
      obtain ⟨n, k⟩ := y
      rw [List.forIn_cons]
      have hr : ∀ y ∈ r, y.2 = .free → ∃ c, env.cells.lookup y.1 = some c := fun y h => hy y (List.mem_cons_of_mem _ h)
      by_cases hk : (k == NameKind.free) = true
      · obtain ⟨c, hc⟩ := hy (n, k) List.mem_cons_self (by simpa using hk)
        have hc' : env.cells.lookup n = some c := hc
        simp only [hk, if_true, clL, cellOf, hc', Option.getD_some]
        exact ih _ hr
      · simp only [hk, clL]
        exact ih _ hr
  show ((forIn scope.names ([] : List (Str × Addr)) fun (x : Str × NameKind) (r : List (Str × Addr)) => (if (x.2 == NameKind.free) = true then (do let a ← cellOf env x.1; pure (ForInStep.yield ((x.1, a) :: r))) else pure (ForInStep.yield r) : Sem (ForInStep (List (Str × Addr))))) >>= fun s => pure s) = _
  rw [gen scope.names [] h]
  rfl
theorem clL_lookup {cells : List (Str × Addr)} {x : Str} : ∀ (l : List (Str × NameKind)) (acc : List (Str × Addr)), (∀ y ∈ l, y.2 = .free → ∃ c, cells.lookup y.1 = some c) → (∀ c, acc.lookup x = some c → cells.lookup x = some c) →
    ∀ c, (clL cells l acc).lookup x = some c → cells.lookup x = some c
  | [], acc, _, h, c, e => h c e
  | (n, k) :: r, acc, hy, h, c, e => by
    unfold clL at e
    have hr : ∀ y ∈ r, y.2 = .free → ∃ c, cells.lookup y.1 = some c := fun y h => hy y (List.mem_cons_of_mem _ h)
    split at e
    · rename_i hk
      refine clL_lookup r _ hr (fun c' e' => ?_) c e
      rw [List.lookup_cons] at e'
      obtain ⟨c0, hc0⟩ := hy (n, k) List.mem_cons_self (by simpa using hk)
      have hc0' : cells.lookup n = some c0 := hc0
      cases hx : x == n with
      | true =>
        rw [hx] at e'
        have ex : x = n := by simpa using hx
        rw [hc0'] at e'
        cases e'
        rw [ex]; exact hc0'
      | false =>
        rw [hx] at e'
        exact h c' e'
    · exact clL_lookup r _ hr h c e
theorem clL_has {cells : List (Str × Addr)} {x : Str} : ∀ (l : List (Str × NameKind)) (acc : List (Str × Addr)), ((∃ c, acc.lookup x = some c) ∨ (x, NameKind.free) ∈ l) → ∃ c, (clL cells l acc).lookup x = some c
  | [], acc, h => h.elim (fun z => z) fun z => nomatch z
  | (n, k) :: r, acc, h => by
    unfold clL
    split
    · rename_i hk
      refine clL_has r _ ?_
      by_cases hx : x = n
      · exact .inl ⟨_, by rw [List.lookup_cons, beq_iff_eq.mpr hx]⟩
      · rcases h with ⟨c, h⟩ | h
        · refine .inl ⟨c, ?_⟩
          rw [List.lookup_cons, beq_eq_false_iff_ne.mpr hx]; exact h
        · rcases List.mem_cons.mp h with z | z
          · cases z; exact absurd rfl hx
          · exact .inr z
    · rename_i hk
      refine clL_has r _ ?_
      rcases h with h | h
      · exact .inl h
      · rcases List.mem_cons.mp h with z | z
        · cases z; exact absurd (by simp) hk
        · exact .inr z
def cpCx (X : Cx) (scope : Scope) (N : List Str) (s : Shared) (H : Hp) (fp : List Addr) (C : Addr) (pl : List (Addr × Obj)) : Cx where
  prog := X.prog
  w := X.w
  K := X.K
  mg := X.mg
  base := X.base
  A := X.A
  N := N
  s₀ := s
  H₀ := H
  env := compEnvC scope (clL X.env.cells scope.names []) C X.env
  outer := X.stack
  stack := X.stack
  ex := fp
  fn := fun _ => false
  calm := X.calm
  pn := pl
  xe := fun _ _ => False
structure CpScope (X : Cx) (scope : Scope) (N : List Str) (nt : Nat) (caps : List Nat) : Prop where
  kind : scope.kind = .function
  cell : ∀ y ∈ scope.names, y.2 ≠ .cell
  names : ∀ y ∈ scope.names, y.2 = .local → scope.names.lookup y.1 = some .local
  free : ∀ y ∈ scope.names, y.2 = .free → X.env.kindOf y.1 = some .cell ∨ X.env.kindOf y.1 = some .free
  len : N.length = nt + caps.length
  nd : N.Nodup
  caps : ∀ (j i : Nat), caps[j]? = some i → ∃ x, N[nt + j]? = some x ∧ X.N[i]? = some x ∧ scope.names.lookup x = some .free ∧ Vis X.env.scope x
theorem relabel_names_kind {scope : Scope} {env : Env} {x : Str} {k : NameKind} (h : (relabel scope env).names.lookup x = some k) : ∃ k', scope.names.lookup x = some k' ∧ (k = k' ∨ (k' = .free ∧ k = .cell)) := by
  unfold relabel at h
  dsimp only at h
  generalize scope.names = l at h
  induction l with
  | nil => cases h
  | cons y r ih =>
    obtain ⟨n, kk⟩ := y
    rw [List.map_cons] at h
    by_cases hc : (kk == NameKind.free && env.scope.kind == .function && env.kindOf n == some .cell) = true
    · simp only [hc, if_true] at h
      rw [List.lookup_cons] at h ⊢
      cases hx : x == n with
      | true =>
        rw [hx] at h
        cases h
        simp only [Bool.and_eq_true] at hc
        exact ⟨kk, rfl, .inr ⟨by simpa using hc.1.1, rfl⟩⟩
      | false =>
        rw [hx] at h
        exact ih h
    · simp only [hc, Bool.false_eq_true, if_false] at h
      rw [List.lookup_cons] at h ⊢
      cases hx : x == n with
      | true =>
        rw [hx] at h
        exact ⟨kk, rfl, .inl (Option.some.inj h).symm⟩
      | false =>
        rw [hx] at h
        exact ih h
theorem mem_of_lookup {α : Type} {l : List (Str × α)} {x : Str} {k : α} (h : l.lookup x = some k) : (x, k) ∈ l := by
  induction l with
  | nil => cases h
  | cons y r ih =>
    obtain ⟨n, kk⟩ := y
    rw [List.lookup_cons] at h
    cases hx : x == n with
    | true =>
      rw [hx] at h
      cases h
      have ex : x = n := by simpa using hx
      rw [ex]; exact List.mem_cons_self
    | false =>
      rw [hx] at h
      exact List.mem_cons_of_mem _ (ih h)
section
variable {X : Cx} {scope : Scope} {N : List Str} {nt : Nat} {caps : List Nat} {pins : List (Addr × Obj)} {σ : St} {H : Hp} {s : Shared}
theorem CpScope.cells (S : CpScope X scope N nt caps) (I : Inv X pins σ H s) : ∀ y ∈ scope.names, y.2 = .free → ∃ c, X.env.cells.lookup y.1 = some c := fun y hy hf => I.ok.has y.1 (S.free y hy hf)
theorem CpScope.lk (S : CpScope X scope N nt caps) (I : Inv X pins σ H s) {x : Str} {c : Addr} (h : (clL X.env.cells scope.names []).lookup x = some c) : X.env.cells.lookup x = some c :=
  clL_lookup scope.names [] (S.cells I) (fun c e => by cases e) c h
theorem CpScope.start (S : CpScope X scope N nt caps) (I : Inv X pins σ H s) {fp : List Addr} (hf : ∀ b ∈ fp, FpOk X pins H b) {C : Addr} {h' : Heap} {m : Str → Option Value} {t' : Nat} (hC : s.heap.objs.size ≤ C) (hn : h'.Ns C m) (k : ∀ b o, s.heap.get? b = some o → h'.get? b = some o)
    (hpin : ∀ b ∈ fp, ∃ o, s.heap.get? b = some o)
    {vs : List V} (hv : vs.length = caps.length) (hvs : ∀ (j i : Nat) (v : V), caps[j]? = some i → vs[j]? = some v → σ[i]? = some (some v)) (σ' : St) (hσ : σ' = List.replicate nt none ++ vs.map some) :
    Inv (cpCx X scope N s H fp C (X.pn ++ pins)) [] σ' H { s with heap := h', toks := t' } := by
  subst hσ
  have hH : ∀ b, s.heap.objs.size ≤ b → H b = none := fun b hb => I.hok.fresh hb
  have lk := fun {x c} (h : (clL X.env.cells scope.names []).lookup x = some c) => S.lk I h
  have ok : (cpCx X scope N s H fp C (X.pn ++ pins)).Ok := {
    mod := I.ok.mod
    kind := S.kind
    glob := I.ok.glob
    blt := I.ok.blt
    above := hC
    inj := fun x y c h1 h2 => I.ok.inj x y c (lk h1) (lk h2)
    has := fun x h => by
      have h' : (relabel scope X.env).names.lookup x = some .cell ∨ (relabel scope X.env).names.lookup x = some .free := h
      have hfree : scope.names.lookup x = some .free := by
        rcases h' with h' | h'
        · obtain ⟨k', e, q⟩ := relabel_names_kind h'
          rcases q with rfl | ⟨rfl, _⟩
          · exact absurd rfl (S.cell _ (mem_of_lookup e))
          · exact e
        · obtain ⟨k', e, q⟩ := relabel_names_kind h'
          rcases q with rfl | ⟨rfl, q⟩
          · exact e
          · exact e
      exact clL_has scope.names [] (.inr (mem_of_lookup hfree))
    cab := fun x c h => nomatch h
    hd := I.ok.hd
    frames := I.ok.frames
    stk := .inl rfl
    exf := fun b hb => by
      obtain ⟨o, e⟩ := hpin b hb
      exact ⟨fun z => absurd (Nat.lt_of_lt_of_le (Heap.lt_size e) (by rw [z]; exact hC)) (Nat.lt_irrefl _), fun x c h => (hf b hb).2.2.2.2.1 x c (lk h)⟩
    bs := I.bs
    bsz := Nat.le_trans I.ok.bsz I.sz
    noex := fun b o e hb => by
      rcases (hf b hb).2.2.2.1 with z | z
      · exact I.ok.noex b o e z
      · exact absurd (Nat.lt_of_lt_of_le (Heap.lt_size e) (Nat.le_trans I.ok.bsz z)) (Nat.lt_irrefl _)
    exfs := fun b hb z => by
      rcases List.mem_cons.mp (I.stkSub b z) with q | q
      · exact (hf b hb).2.1 q
      · exact (hf b hb).2.2.1 q
    funs := I.stack
    frf := I.stkFree }
  refine ⟨ok, rfl, I.bare, Un.kept k, ⟨m, hn, fun i x v e1 e2 e3 => ?_⟩, fun x c e => ?_, hH C hC, fun x c e => I.freeC x c (lk e), fun p hp => ?_, I.hok.kept k, ?_⟩
  · have hi : nt ≤ i := by
      refine Nat.le_of_not_lt fun z => ?_
      rw [List.getElem?_append_left (by simpa using z), List.getElem?_replicate] at e2
      split at e2 <;> cases e2
    rw [List.getElem?_append_right (by simpa using hi), List.getElem?_map] at e2
    have e2' : (vs[i - nt]?).map some = some (some v) := by simpa using e2
    cases q : vs[i - nt]? with
    | none => rw [q] at e2'; cases e2'
    | some v' =>
      rw [q] at e2'
      cases e2'
      have hj : i - nt < caps.length := by rw [← hv]; exact (List.getElem?_eq_some_iff.mp q).1
      obtain ⟨x', h1, h2, h3, h4⟩ := S.caps (i - nt) caps[i - nt] (List.getElem?_eq_getElem hj)
      have ex : x' = x := by
        have e1' : N[i]? = some x := e1
        rw [show nt + (i - nt) = i by omega, e1'] at h1
        exact (Option.some.inj h1).symm
      subst ex
      have hs := hvs (i - nt) _ v (List.getElem?_eq_getElem hj) q
      obtain ⟨m0, hn0, hl0⟩ := I.loc
      obtain ⟨u, r, l⟩ := hl0 _ x' v h2 hs h4
      refine ⟨u, r, ?_⟩
      have hkx := S.free _ (mem_of_lookup h3) rfl
      rcases l with ⟨k1, _⟩ | ⟨k1, c, hc, hcell⟩
      · have k1' : X.env.kindOf x' = some .local := k1
        rcases hkx with z | z
        · have z' : X.env.kindOf x' = some .cell := z
          rw [k1'] at z'; cases z'
        · have z' : X.env.kindOf x' = some .free := z
          rw [k1'] at z'; cases z'
      · obtain ⟨c', hc'⟩ := clL_has (cells := X.env.cells) (x := x') scope.names [] (.inr (mem_of_lookup h3))
        have := lk hc'
        rw [hc] at this
        cases this
        refine .inr ⟨?_, c, hc', let ⟨o, ho, hd⟩ := hcell; ⟨o, k _ o ho, hd⟩⟩
        rcases e3 with z | z | z
        · exfalso
          obtain ⟨k', e, q⟩ := relabel_names_kind (show (relabel scope X.env).names.lookup x' = some .local from z)
          rcases q with rfl | ⟨_, q⟩
          · rw [h3] at e; cases e
          · cases q
        · exact .inl z
        · exact .inr z
  · obtain ⟨v, z⟩ := I.cell x c (lk e)
    exact ⟨v, let ⟨o, ho, hd⟩ := z; ⟨o, k _ o ho, hd⟩⟩
  · have hp' : p ∈ X.pn ++ pins := by simpa [cpCx] using hp
    obtain ⟨e, n, ne, nf, d⟩ := I.pin p hp'
    refine ⟨k _ _ e, n, fun z => absurd (Nat.lt_of_lt_of_le (Heap.lt_size e) (by rw [z]; exact hC)) (Nat.lt_irrefl _), fun z => ?_, d⟩
    rcases List.mem_cons.mp (I.stkSub _ z) with q | q
    · exact ne q
    · exact nf q
  · show (List.replicate nt none ++ vs.map some).length = N.length
    rw [S.len]; simp [hv]
end

section
variable {prog : Program} {w : World} {A : Around} {E : Value → Shared → Prop} {R : Result → Shared → Prop} {s : Shared}
theorem compLoop_go {elt target iter : Expr} {ifs : List Expr} {scope : Scope} {pos : Pos} {it acc : Value} {env : Env} (I : Nat → Shared → Prop)
    (turn : ∀ n s, I n s → wpAny (model prog w) A (pyNext it) (fun r s₁ => match r with
      | none => R (.ok .next) s₁
      | some v => wpAny (model prog w) A (letOwnedTupleGo target it v) (fun _ s₁' => wpAny (model prog w) A (assign target env v) (fun _ s₂ =>
          wpAny (model prog w) A (forIn ifs true fun c r => if r = true then do let ok ← isTrue c env (eval c env); pure (ForInStep.yield ok) else pure (ForInStep.yield r)) (fun ok s₃ =>
            if ok = true then wpAny (model prog w) A (eval elt env) (fun x s₄ =>
              wpAny (model prog w) A (call (.builtin "list.append") [acc, x]) (fun _ s₅ => ∃ m, m < n ∧ I m s₅) (fun _ _ => False) s₄) (fun _ _ => False) s₃
            else ∃ m, m < n ∧ I m s₃) (fun _ _ => False) s₂) (fun _ _ => False) s₁') (fun _ _ => False) s₁) (fun _ _ => False) s)
    (n : Nat) (h : I n s) :
    codeAny (model prog w) A (.compLoop (.ListComp elt [⟨target, iter, ifs, 0⟩] scope pos) 0 it acc env) R s := by
  refine codeAny_loop rfl I (fun n s hI => ?_) n h
  show wpAny _ A ((compTurn (.ListComp elt [⟨target, iter, ifs, 0⟩] scope pos) 0 it acc env).onRaise (fun x => do noteFrame x env; theTreesLotGoes x)) _ _ s
  refine wpAny_noted ?_
  rw [compTurn_list]
  refine wpAny_bind (wpAny_standAt (wpAny_bind (wpAny_mono (turn n s hI) (fun r s₁ h₁ => ?_) fun _ _ h' => h'.elim)))
  cases r with
  | none => exact wpAny_pure h₁
  | some v =>
    refine wpAny_bind (wpAny_mono h₁ (fun _ s₁' h₁' => ?_) fun _ _ h' => h'.elim)
    refine wpAny_bind (wpAny_mono h₁' (fun _ s₂ h₂ => wpAny_bind (wpAny_mono h₂ (fun ok s₃ h₃ => ?_) fun _ _ h' => h'.elim)) fun _ _ h' => h'.elim)
    cases ok with
    | false => exact wpAny_pure ⟨rfl, h₃⟩
    | true =>
      exact wpAny_bind (wpAny_bind (wpAny_mono h₃ (fun x s₄ h₄ => wpAny_bind (wpAny_mono h₄ (fun _ s₅ h₅ => wpAny_pure (wpAny_pure ⟨rfl, h₅⟩)) fun _ _ h' => h'.elim)) fun _ _ h' => h'.elim))
end
def PTs (X : Cx) (ifs : List Expr) (t : TT) : Prop :=
  ∀ (pins : List (Addr × Obj)) (s : Shared) (σ : St) (H : Hp) (Q : Bool → Hp → Prop), Inv X pins σ H s → t σ H Q →
    wpAny (model X.prog X.w) X.A (forIn ifs true fun c r => if r = true then do let ok ← isTrue c X.env (eval c X.env); pure (ForInStep.yield ok) else pure (ForInStep.yield r)) (TP X pins σ Q) X.xe s
theorem ts0 {X : Cx} {E : Str → Hp → Prop} : PTs X [] (tT X.K E fun _ => .ok true) := fun pins s σ H Q I ⟨g, env, os, r, m⟩ => wpAny_tests_nil ⟨H, I, m H (Same.refl H)⟩
def compD (b : D → DE → R DE) (ct : DE → R Bool) (fe : DE → R D) (e₀ : DE) : List D → R (List D)
  | [] => .ok []
  | x :: xs => (b x e₀).bind fun e => (ct e).bind fun t => if t = true then (fe e).bind fun d => (compD b ct fe e₀ xs).bind fun ds => .ok (d :: ds) else compD b ct fe e₀ xs
def capt (env : DE) : List Nat → R (List D)
  | [] => .ok []
  | i :: r => (slV i env).bind fun d => (capt env r).bind fun ds => .ok (d :: ds)
theorem Good.capt {K : PySem.W.Frag} {E : Str → Hp → Prop} {H₀ H : Hp} {g : Gh} {σ : St} {os : List Addr} {env : DE} (r : Rel K g env σ H os) : ∀ {caps : List Nat} {p : List D → Prop}, Good E H₀ (capt env caps) p →
    ∃ ds vs, p ds ∧ vs.length = caps.length ∧ ds.length = caps.length ∧ IsL K (g.P os) H ds vs ∧ ∀ (j i : Nat) (v : V), caps[j]? = some i → vs[j]? = some v → σ[i]? = some (some v)
  | [], p, h => ⟨[], [], h, rfl, rfl, rfl, fun j i v e => by simp at e⟩
  | i :: rest, p, h => by
    have h1 := h.bind
    unfold slV at h1
    split at h1
    · rename_i d e
      have h2 : Good E H₀ ((DL.capt env rest).bind fun ds => .ok (d :: ds)) p := h1
      obtain ⟨ds, vs, q1, q2, q3, q4, q5⟩ := Good.capt r h2.bind
      obtain ⟨v, s1, s2⟩ := r.val i d e
      refine ⟨d :: ds, v :: vs, q1, by simp [q2], by simp [q3], .cons s2 q4, fun j i' v' e1 e2 => ?_⟩
      cases j with
      | zero => simp at e1 e2; subst e1 e2; exact s1
      | succ j => exact q5 j i' v' (by simpa using e1) (by simpa using e2)
    · exact h1.elim
def cpE (nt : Nat) (ds : List D) : DE := List.replicate nt Sl.no ++ ds.map .val
theorem cpE_get {nt : Nat} {ds : List D} {i : Nat} {d : D} (h : (cpE nt ds)[i]? = some (.val d)) : nt ≤ i ∧ ds[i - nt]? = some d := by
  unfold cpE at h
  have hi : nt ≤ i := by
    refine Nat.le_of_not_lt fun z => ?_
    rw [List.getElem?_append_left (by simpa using z), List.getElem?_replicate] at h
    split at h <;> cases h
  rw [List.getElem?_append_right (by simpa using hi), List.getElem?_map] at h
  refine ⟨hi, ?_⟩
  simp only [List.length_replicate] at h
  cases q : ds[i - nt]? with
  | none => rw [q] at h; cases h
  | some d' => rw [q] at h; cases h; rfl
theorem cpE_own {nt : Nat} {ds : List D} {i : Nat} {xs : List D} (h : (cpE nt ds)[i]? = some (.own xs)) : False := by
  unfold cpE at h
  by_cases hi : i < nt
  · rw [List.getElem?_append_left (by simpa using hi), List.getElem?_replicate] at h
    split at h <;> cases h
  · rw [List.getElem?_append_right (by simp; omega), List.getElem?_map] at h
    cases q : ds[i - (List.replicate nt Sl.no).length]? with
    | none => rw [q] at h; cases h
    | some d' => rw [q] at h; cases h
theorem cpE_deep {nt : Nat} {ds : List D} {i : Nat} {w : Ct} (h : (cpE nt ds)[i]? = some (.deep w)) : False := by
  unfold cpE at h
  by_cases hi : i < nt
  · rw [List.getElem?_append_left (by simpa using hi), List.getElem?_replicate] at h
    split at h <;> cases h
  · rw [List.getElem?_append_right (by simp; omega), List.getElem?_map] at h
    cases q : ds[i - (List.replicate nt Sl.no).length]? with
    | none => rw [q] at h; cases h
    | some d' => rw [q] at h; cases h
theorem cpE_raw {nt : Nat} {ds : List D} {i : Nat} {w : V} (h : (cpE nt ds)[i]? = some (.raw w)) : False := by
  unfold cpE at h
  by_cases hi : i < nt
  · rw [List.getElem?_append_left (by simpa using hi), List.getElem?_replicate] at h
    split at h <;> cases h
  · rw [List.getElem?_append_right (by simp; omega), List.getElem?_map] at h
    cases q : ds[i - (List.replicate nt Sl.no).length]? with
    | none => rw [q] at h; cases h
    | some d' => rw [q] at h; cases h
section
variable {X : Cx} {pins : List (Addr × Obj)} {σ : St} {H : Hp} {s : Shared} {h' : Heap}
theorem turnL {fp : List Addr} {t' : Nat} (I : Inv X pins σ H s) (hf : ∀ b ∈ fp, FpOk X pins H b) (k : ∀ b u, b ∉ fp → s.heap.get? b = some u → h'.get? b = some u) : Inv X pins σ H { s with heap := h', toks := t' } := by
  have nfp : ∀ b u, H b = some u → b ∉ fp := fun b u e z => by rw [(hf b z).1] at e; cases e
  refine I.step (g' := s.gens) (d' := s.drawn) (ch := fp) (fun b hb => ⟨(hf b hb).2.2.2.1, (hf b hb).2.1, (hf b hb).2.2.2.2.1, (hf b hb).2.2.2.2.2⟩) (fun b u _ _ hc e _ => k b u hc e) (fun b u _ _ hc e _ => ⟨u.slots, k b u hc e⟩)
    (fun b u _ e n => n) (fun b u hc e => ⟨u, k b u hc e⟩) (fun b xs e => e) (fun b u xs e => e) (fun b ps e => ⟨#[], by rw [e]; simp⟩) (fun m hm => ?_) (fun b u e => ?_) I.bare
  · obtain ⟨ob, es, ep, ho, r⟩ := hm
    exact ⟨ob, es, ep, k _ ob (fun z => (hf _ z).2.1 rfl) ho, r⟩
  · refine (I.hok b u e).stay (fun c v hc q => k c v ?_ q) (fun c q => q) fun c xs q => q
    rcases hc with z | z
    · rw [z]; exact nfp b u e
    · exact nfp c _ z
end
end DL

namespace DL
open PySem PySem.Spec PyProof.Rows L2
def R.ne {α : Type} : R α → R α
  | .ok a => .ok a
  | _ => .bad
theorem R.ne_ok {α : Type} (a : α) : (R.ok a).ne = .ok a := rfl
theorem R.bind_ok {α β : Type} {r : R α} {k : α → R β} {y : β} (h : r.bind k = .ok y) : ∃ a, r = .ok a ∧ k a = .ok y := by
  cases r with
  | ok a => exact ⟨a, rfl, h⟩
  | err c => cases h
  | bad => cases h
theorem good_ok {α : Type} {E : Str → Hp → Prop} {H₀ : Hp} {r : R α} {a : α} {p : α → Prop} (e : r = .ok a) (h : p a) : Good E H₀ r p := by rw [e]; exact h
section
variable {X : Cx} {E : Str → Hp → Prop} {pos : Pos} {scope : Scope} {N : List Str} {nt : Nat} {caps : List Nat}
theorem rel_cpE {K : PySem.W.Frag} {g : Gh} {e : DE} {σ : St} {H H' : Hp} {a : Addr} {ds : List D} {ts : DE} (r : Rel K g e σ H [a]) (he : e = ts ++ ds.map .val) (hl : ts.length = nt) (x : Ext (g.P [a]) (g.P [a]) H H') (s : Same g.H₀ H') (hn : ∃ o, H' a = some o) :
    Rel K g (cpE nt ds) σ H' [a] := by
  subst he
  refine ⟨by rw [r.len]; simp [cpE, hl], s, fun i d e => ?_, fun i xs e => (cpE_own e).elim, fun i j xs ys b e => (cpE_own e).elim, fun b hb => ?_, fun i w e => (cpE_raw e).elim, Deep.none fun i w e => cpE_deep e⟩
  · obtain ⟨h1, h2⟩ := cpE_get e
    obtain ⟨v, q1, q2⟩ := r.val i d (by rw [List.getElem?_append_right (by omega), hl, List.getElem?_map, h2]; rfl)
    exact ⟨v, q1, Is.ext x _ _ q2⟩
  · have e : b = a := by simpa using hb
    subst e
    exact ⟨(r.new b hb).1, hn⟩
def CEnd (X : Cx) (pins : List (Addr × Obj)) (σ : St) (g : Gh) (os : List Addr) (H : Hp) (use : Option (Value → Sem Unit)) (Qv : Value → Shared → Prop) (ys : List D) : Prop :=
  ∀ (Dd C : Addr) (acc : List V) (Hx : Hp) (s6 : Shared), Inv X pins σ Hx s6 → (∃ m, s6.heap.Ns C m) → FpOk X pins Hx C → Same H Hx → H Dd = none → Hx Dd = some (.lst acc) → IsL X.K (g.P (Dd :: os)) Hx ys acc →
    compPost (model X.prog X.w) X.A X.xe use Qv (.ref Dd) C (.ok .next) s6
theorem compRun {elt tg iter : Expr} {ifs : List Expr} {fi : DE → R (List D)} {b : D → DE → R DE} {ct : DE → R Bool} {fe : DE → R D} (S : CpScope X scope N nt caps) (hcalm : X.calm = true) (hi : PI X tg iter (tIS X.K E fi))
    (hb1 : ∀ ds d e, b d (cpE nt ds) = .ok e → ∃ ts, e = ts ++ ds.map .val ∧ ts.length = nt)
    (hg : ∀ s H fp C pl, PG (cpCx X scope N s H fp C pl) tg (tG X.K EN b)) (ht : ∀ s H fp C pl, PTs (cpCx X scope N s H fp C pl) ifs (tT X.K EN ct)) (he : ∀ s H fp C pl, PE (cpCx X scope N s H fp C pl) elt (tD X.K EN fe))
    (hs : ∀ x, foldedSetIterable iter X.env x = pure x) {use : Option (Value → Sem Unit)} {Qv : Value → Shared → Prop} {pins : List (Addr × Obj)} {s : Shared} {σ : St} {H : Hp} {env : DE} {os : List Addr} {g : Gh} (I : Inv X pins σ H s) (r : Rel X.K g env σ H os)
    (m : Good E g.H₀ ((fi env).bind fun xs => (capt env caps).bind fun ds => (compD b ct fe (cpE nt ds) xs).ne.bind fit) (CEnd X pins σ g os H use Qv)) {ps : Pos} :
    wpAny (model X.prog X.w) X.A (comprehension (.ListComp elt [⟨tg, iter, ifs, 0⟩] scope pos) scope X.env ps (newList []) false (eval iter X.env) use) Qv X.xe s := by
  refine wpAny_comprehension_free (use := use) rfl hs (closureFor_eq (S.cells I)) S.kind S.names ?_
  refine thn (hi pins s σ H (fun J H1 => ∃ xs, Same H H1 ∧ Yls X.K (g.P os) J H1 xs ∧ Good E g.H₀ ((capt env caps).bind fun ds => (compD b ct fe (cpE nt ds) xs).ne.bind fit) _) I ⟨g, env, os, r, m.bind.mono fun xs _ m1 J H1 s1 yl => ⟨xs, s1, yl, m1⟩⟩) fun v s1 h1 => thn h1 fun itv s2 h2 => ?_
  obtain ⟨it, fp, tn, J, H2, rfl, I2, T, st2, f2, xs, s12, yl, m1⟩ := h2
  have r2 := r.same s12
  obtain ⟨ds, vs, m2, hvl, hdl, hds, hvs⟩ := m1.bind.capt r2
  cases ec : compD b ct fe (cpE nt ds) xs with
  | bad => rw [ec] at m2; exact m2.elim
  | err c => rw [ec] at m2; exact m2.elim
  | ok ys =>
  rw [ec] at m2
  obtain ⟨hz, q⟩ := (show Good E g.H₀ (fit ys) _ from m2).fit
  refine wpAny_newObj_type (wpAny_newFunctionEnv S.cell (by intro y hy; simp at hy) (fun h₁ hns₁ hsb₁ => ?_) S.kind)
  dsimp only at hns₁ hsb₁ ⊢
  -- the list that grows stands at Dd, the block's names at C
  have hDn : H2 s2.heap.objs.size = none := I2.hok.fresh (Nat.le_refl _)
  have I3 : Inv X pins σ (upd H2 s2.heap.objs.size (.lst [])) { s2 with heap := s2.heap.push { cls := .type "list", dict := none, data := .seq ([] : List Value).toArray } } :=
    I2.laid (t' := s2.toks) (fun b u e => Heap.get?_push_of_some _ e) (Nat.le_refl _) ⟨Nat.zero_le _, [], 0, .nil, Heap.get?_push_size _ rfl⟩
  generalize hs3 : ({ s2 with heap := s2.heap.push { cls := .type "list", dict := none, data := .seq ([] : List Value).toArray } } : Shared) = s3 at I3
  have hh3 : s3.heap = s2.heap.push { cls := .type "list", dict := none, data := .seq ([] : List Value).toArray } := by rw [← hs3]
  rw [← hh3] at hns₁ hsb₁ ⊢
  generalize hDd : s2.heap.objs.size = Dd at *
  have k3 : ∀ b o, s3.heap.get? b = some o → h₁.get? b = some o := fun b o e => hsb₁.extBut b o (Nat.ne_of_lt (Heap.lt_size e)) (Heap.get?_push_of_some _ e)
  have hfpo : ∀ b ∈ fp, ∃ o, s2.heap.get? b = some o := fun b hb => let ⟨o, e, _⟩ := T.obj 0 _ st2 b hb; ⟨o, e⟩
  have hfp3 : ∀ b ∈ fp, ∃ o, s3.heap.get? b = some o := fun b hb => let ⟨o, e⟩ := hfpo b hb; ⟨o, by rw [hh3]; exact Heap.get?_push_of_some _ e⟩
  have hfD : ∀ b ∈ fp, b ≠ Dd := fun b hb => let ⟨o, e⟩ := hfpo b hb; by rw [← hDd]; exact Nat.ne_of_lt (Heap.lt_size e)
  have f3 : ∀ b ∈ fp, FpOk X pins (upd H2 Dd (.lst [])) b := fun b hb => ⟨by rw [upd_ne (hfD b hb)]; exact (f2 b hb).1, (f2 b hb).2⟩
  have sD : Same H2 (upd H2 Dd (.lst [])) := same_new hDn _
  have I4 := S.start (t' := s2.toks + ([] : List (Str × Value)).length) I3 f3 (Nat.le_refl _) hns₁ k3 hfp3 hvl (fun j i v e1 e2 => hvs j i v e1 e2) _ rfl
  generalize hX : cpCx X scope N s3 (upd H2 Dd (.lst [])) fp s3.heap.objs.size (X.pn ++ pins) = X' at I4
  have hg' := hg s3 (upd H2 Dd (.lst [])) fp s3.heap.objs.size (X.pn ++ pins)
  have ht' := ht s3 (upd H2 Dd (.lst [])) fp s3.heap.objs.size (X.pn ++ pins)
  have he' := he s3 (upd H2 Dd (.lst [])) fp s3.heap.objs.size (X.pn ++ pins)
  rw [hX] at hg' ht' he'
  have eK : X'.K = X.K := by rw [← hX]; rfl
  have eP : X'.prog = X.prog := by rw [← hX]; rfl
  have eW : X'.w = X.w := by rw [← hX]; rfl
  have eA : X'.A = X.A := by rw [← hX]; rfl
  have eE : X'.xe = fun _ _ => False := by rw [← hX]; rfl
  have eC : X'.calm = true := by rw [← hX]; exact hcalm
  have eL : X'.env.locals = s3.heap.objs.size := by rw [← hX]; rfl
  have eS : X'.s₀ = s3 := by rw [← hX]; rfl
  have eX : X'.ex = fp := by rw [← hX]; rfl
  have eF : X'.fs = frs X.stack := by rw [← hX]; rfl
  have eN : X'.pn = X.pn ++ pins := by rw [← hX]; rfl
  have eH : X'.H₀ = upd H2 Dd (.lst []) := by rw [← hX]; rfl
  have eV : X'.env = compEnvC scope (clL X.env.cells scope.names []) s3.heap.objs.size X.env := by rw [← hX]; rfl
  -- the iterator's objects through the block
  have fpX : ∀ {Hx : Hp}, (∀ b ∈ fp, Hx b = none) → ∀ b ∈ fp, FpOk X' [] Hx b := fun {Hx} hn b hb => by
    obtain ⟨_, c1, c2, c3, c4, c5⟩ := f3 b hb
    have q := I4.ok.exf b (by rw [eX]; exact hb)
    refine ⟨hn b hb, q.1, I4.ok.exfs b (by rw [eX]; exact hb), .inl (by rw [eX]; exact hb), q.2, fun p hp => ?_⟩
    rw [eN, List.append_nil] at hp
    exact c5 p hp
  let g' : Gh := ⟨g.P os, H2⟩
  have exP : ∀ {Hx : Hp}, Same H2 Hx → Ext (g.P os) (g'.P [Dd]) H2 Hx := fun sx => ⟨fun a o p e => ⟨.inl p, fun z => by
    have z' : a = Dd := by simpa using z
    rw [z', hDn] at e; cases e⟩, fun a o _ e => sx a o e⟩
  have rel0 : Rel X.K g' (cpE nt ds) (List.replicate nt none ++ vs.map some) (upd H2 Dd (.lst [])) [Dd] := by
    refine ⟨by simp [cpE, hvl, hdl], sD, fun i d e => ?_, fun i xs e => (cpE_own e).elim, fun i j xs ys b e => (cpE_own e).elim, fun b hb => ?_, fun i w e => (cpE_raw e).elim, Deep.none fun i w e => cpE_deep e⟩
    · obtain ⟨h1, h2⟩ := cpE_get e
      obtain ⟨v, q1, q2⟩ := hds.get h2
      refine ⟨v, ?_, Is.ext (exP sD) _ _ q2⟩
      rw [List.getElem?_append_right (by simpa using h1), List.getElem?_map, List.length_replicate, q1] <;> rfl
    · have e : b = Dd := by simpa using hb
      subst e
      exact ⟨hDn, _, upd_same⟩
  have loop : ∀ s4 : Shared, Inv X' [] (List.replicate nt none ++ vs.map some) (upd H2 Dd (.lst [])) s4 → tn 0 s4.heap →
      codeAny (model X.prog X.w) X.A (.compLoop (.ListComp elt [⟨tg, iter, ifs, 0⟩] scope pos) 0 (.ref it) (.ref Dd) (compEnvC scope (clL X.env.cells scope.names []) s3.heap.objs.size X.env))
        (compPost (model X.prog X.w) X.A X.xe use Qv (.ref Dd) s3.heap.objs.size) s4 := by
    intro s4 J4 st4
    refine compLoop_go (fun n s' => ∃ i acc as rest Hx σ', n = xs.length - i ∧ i ≤ xs.length ∧ Inv X' [] σ' Hx s' ∧ tn i s'.heap ∧ (∀ b ∈ fp, Hx b = none) ∧ Hx Dd = some (.lst acc) ∧ IsL X.K (g'.P [Dd]) Hx as acc ∧
      compD b ct fe (cpE nt ds) (xs.drop i) = .ok rest ∧ as ++ rest = ys ∧ Rel X.K g' (cpE nt ds) σ' Hx [Dd]) ?_ xs.length
      ⟨0, [], [], ys, _, _, by simp, Nat.zero_le _, J4, st4, fun b hb => (f3 b hb).1, upd_same, rfl, by rw [List.drop_zero]; exact ec, rfl, rel0⟩
    rintro n s5 ⟨i, acc, as, rest, Hx, σ5, rfl, hi5, J5, st5, fr5, hD5, ia5, c5, e5, r5⟩
    obtain ⟨y1, y2⟩ := yl i Hx (g'.P [Dd]) r5.ext (exP r5.ext)
    by_cases hlt : i < xs.length
    · have hx : xs[i]? = some xs[i] := List.getElem?_eq_getElem hlt
      obtain ⟨go, y3⟩ := y1 _ hx
      rw [List.drop_eq_getElem_cons hlt] at c5
      obtain ⟨e1, hb5, c6⟩ := R.bind_ok (show (b xs[i] (cpE nt ds)).bind _ = .ok rest from c5)
      obtain ⟨t, ht5, c7⟩ := R.bind_ok c6
      have TI := T.item X' eP eW eK eC i [] s5 σ5 Hx (fun _ _ => False) J5 (fpX fr5) st5 go
      rw [eA] at TI
      refine thn TI fun r s6 h6 => ?_
      obtain ⟨u, rfl, h6⟩ := h6
      refine thn h6 fun _ s7 h7 => ?_
      obtain ⟨x, H7, J7, rx, hy, st7, fr7⟩ := h7
      obtain ⟨s57, hix⟩ := y3 x H7 hy
      have ix : Is X.K (g'.P [Dd]) H7 xs[i] x := Is.ext ⟨fun a o p _ => p.elim (fun z => z) fun z => r5.fresh z, fun _ _ _ z => z⟩ _ _ hix
      have J7' := J7.pinned (fpX fr7) (T.obj _ _ st7)
      have TG := hg' _ s7 σ5 H7 x u (fun σ8 H8 => ∃ e8, b xs[i] (cpE nt ds) = .ok e8 ∧ Rel X.K g' e8 σ8 H8 [Dd] ∧ H8 = H7) J7' rx ⟨g', cpE nt ds, [Dd], xs[i], r5.same s57, ix, good_ok hb5 fun σ8 r8 => ⟨e1, hb5, r8, rfl⟩⟩
      rw [eP, eW, eA, eE, eV] at TG
      refine thn TG fun _ s8 h8 => ?_
      obtain ⟨σ8, H8, J8, e8, hb8, r8, hH8⟩ := h8
      rw [hH8] at J8 r8
      rw [hb5] at hb8
      cases hb8
      have TT := ht' _ s8 σ8 H7 (fun t' H9 => t' = t ∧ Same H7 H9) J8 ⟨g', e1, [Dd], r8, good_ok ht5 fun H9 s9 => ⟨rfl, s9⟩⟩
      rw [eP, eW, eA, eE, eV] at TT
      refine thn TT fun ok s9 h9 => ?_
      obtain ⟨H9, J9, rfl, s79⟩ := h9
      obtain ⟨ts, hts, htl⟩ := hb1 ds _ _ hb5
      have keepT : ∀ {σx : St} {Hy : Hp} {sx : Shared}, Inv X' ([] ++ pinsAt fp s7.heap) σx Hy sx → tn (i + 1) sx.heap ∧ ∀ b ∈ fp, Hy b = none := fun {σx Hy sx} Jx =>
        ⟨T.keep _ _ _ st7 fun b hb o e => (Jx.pin (b, o) (List.mem_append_right _ (List.mem_append_right _ (mem_pinsAt hb e)))).1, fun b hb => by
          obtain ⟨o, e, d⟩ := T.obj _ _ st7 b hb
          exact (Jx.pin (b, o) (List.mem_append_right _ (List.mem_append_right _ (mem_pinsAt hb e)))).2.1⟩
      cases ok with
      | false =>
        rw [if_neg Bool.false_ne_true]
        have c8 : compD b ct fe (cpE nt ds) (xs.drop (i + 1)) = .ok rest := c7
        obtain ⟨k1, k2⟩ := keepT J9
        exact ⟨xs.length - (i + 1), by omega, i + 1, acc, as, rest, H9, σ8, rfl, hlt, J9.unpinned, k1, k2, s79 _ _ (s57 _ _ hD5), (ia5.same s57).same s79, c8, e5,
          rel_cpE r8 hts htl (.same s79) (r8.ext.trans s79) ⟨_, s79 _ _ (s57 _ _ hD5)⟩⟩
      | true =>
        rw [if_pos rfl]
        obtain ⟨d, he5, c8⟩ := R.bind_ok (show (fe e1).bind _ = .ok rest from c7)
        obtain ⟨rest', hr5, c9⟩ := R.bind_ok c8
        have c9' : rest = d :: rest' := by cases c9; rfl
        subst c9'
        have TE := he' _ s9 σ8 H9 (fun v H10 => Same H9 H10 ∧ Is X.K (g'.P [Dd]) H10 d v) J9 ⟨g', e1, [Dd], r8.same s79, good_ok he5 fun v H10 s10 i10 => ⟨s10, i10⟩⟩
        rw [eP, eW, eA, eE, eV] at TE
        refine thn TE fun y s10 h10 => ?_
        obtain ⟨v, H10, J10, rv, s910, iv⟩ := h10
        have hD10 : H10 Dd = some (.lst acc) := s910 _ _ (s79 _ _ (s57 _ _ hD5))
        have ia10 : IsL X.K (g'.P [Dd]) H10 as acc := ((ia5.same s57).same s79).same s910
        have TM := mt_append (X := X') _ s10 σ8 H10 (.ref Dd) [v] (.ref Dd) [y] (fun _ H11 => H11 = upd H10 Dd (.lst (acc ++ [v]))) J10 rfl (.cons rv .nil) ⟨Dd, acc, v, rfl, rfl, hD10, by
          rw [ia10.length]
          have : (as ++ d :: rest').length ≤ sizeLine := by rw [e5]; exact hz
          rw [List.length_append, List.length_cons] at this
          omega, rfl⟩
        rw [eP, eW, eA, eE] at TM
        refine thn TM fun _ s11 h11 => ?_
        obtain ⟨v', H11, J11, _, rfl⟩ := h11
        obtain ⟨k1, k2⟩ := keepT J11
        have exD : Ext (g'.P [Dd]) (g'.P [Dd]) H10 (upd H10 Dd (.lst (acc ++ [v]))) := ⟨fun _ _ p _ => p, fun a o p e => by rw [upd_ne (fun z => p.2 (by simp [z]))]; exact e⟩
        have s10' : Same H2 H10 := (r8.ext.trans s79).trans s910
        refine ⟨xs.length - (i + 1), by omega, i + 1, acc ++ [v], as ++ [d], rest', _, σ8, rfl, hlt, J11.unpinned, k1, k2, upd_same, IsL.ext exD _ _ (ia10.app (.one iv)), hr5, by rw [List.append_assoc]; exact e5, ?_⟩
        exact rel_cpE (r8.same (s79.trans s910)) hts htl exD (fun a o e => by rw [upd_ne (ne_of_none (show H2 a = some o from e) hDn)]; exact s10' a o e) ⟨_, upd_same⟩
    · have e : i = xs.length := by omega
      subst e
      rw [List.drop_length] at c5
      have c5' : rest = [] := by cases c5; rfl
      subst c5'
      rw [List.append_nil] at e5
      subst e5
      have TD := T.done X' eP eW eK eC xs.length [] s5 σ5 Hx (fun _ _ => False) J5 (fpX fr5) st5 (y2 rfl)
      rw [eA] at TD
      refine thn TD fun r s6 h6 => ?_
      obtain ⟨rfl, J6⟩ := h6
      obtain ⟨m6, hn6, _⟩ := J6.loc
      rw [eL] at hn6
      have un6 : Un (frs X.stack) fp (upd H2 Dd (.lst [])) Hx s3.heap s6.heap := by
        have u := J6.base
        rw [eF, eX, eH, eS] at u
        exact u
      have hxC : Hx s3.heap.objs.size = none := by have := J6.free; rw [eL] at this; exact this
      have hok6 : HOk X.prog X.w Hx s6.heap := by
        have z := J6.hok
        rw [eP, eW] at z
        exact z
      have os6 : s6.os = s3.os := by have := J6.os; rw [eS] at this; exact this
      have I6 : Inv X pins σ Hx s6 := I3.call' (s' := s6) os6 un6 hok6 J6.bare fun b hb => by
        obtain ⟨_, c1, c2, c3, c4, c5⟩ := f3 b hb
        exact ⟨c3, c1, c4, c5⟩
      have fC : FpOk X pins Hx s3.heap.objs.size := ⟨hxC, (I3.fpOk (Nat.le_refl _) (I3.hok.fresh (Nat.le_refl _))).2⟩
      refine q Dd s3.heap.objs.size acc Hx s6 I6 ⟨m6, hn6⟩ fC (s12.trans r5.ext) (s12.free hDn) hD5 (IsL.ext ⟨fun a o p _ => ?_, fun _ _ _ z => z⟩ _ _ ia5)
      have z : g.P os a := p.1.elim (fun z => z) fun z => r2.fresh z
      exact ⟨z.1, fun hm => (List.mem_cons.mp hm).elim (fun z => p.2 (by simp [z])) z.2⟩
  have st4 : tn 0 h₁ := T.keep _ _ _ st2 fun b hb o e => k3 b o (by rw [hh3]; exact Heap.get?_push_of_some _ e)
  have eG : ({ heap := h₁, gens := s3.gens, drawn := s3.drawn, toks := s2.toks + ([] : List (Str × Value)).length, os := s3.os } : Shared) = { heap := h₁, gens := s2.gens, drawn := s2.drawn, toks := s2.toks + ([] : List (Str × Value)).length, os := s2.os } := by rw [← hs3]
  rw [eG] at I4
  exact codeAny_compStart_list (loop _ I4 st4) (T.self _ 0 _ _ _ st4 (loop _ I4 st4))
variable {elt tg iter : Expr} {ifs : List Expr} {fi : DE → R (List D)} {b : D → DE → R DE} {ct : DE → R Bool} {fe : DE → R D}
theorem lComp (S : CpScope X scope N nt caps) (hcalm : X.calm = true) (hi : PI X tg iter (tIS X.K E fi))
    (hb1 : ∀ ds d e, b d (cpE nt ds) = .ok e → ∃ ts, e = ts ++ ds.map .val ∧ ts.length = nt)
    (hg : ∀ s H fp C pl, PG (cpCx X scope N s H fp C pl) tg (tG X.K EN b)) (ht : ∀ s H fp C pl, PTs (cpCx X scope N s H fp C pl) ifs (tT X.K EN ct)) (he : ∀ s H fp C pl, PE (cpCx X scope N s H fp C pl) elt (tD X.K EN fe))
    (hs : ∀ x, foldedSetIterable iter X.env x = pure x := by intro _; rfl) :
    PE X (.ListComp elt [⟨tg, iter, ifs, 0⟩] scope pos) (tF X.K E fun env => (fi env).bind fun xs => (capt env caps).bind fun ds => (compD b ct fe (cpE nt ds) xs).ne.bind fit) := by
  intro pins s σ H Q I h
  obtain ⟨g, env, os, r, m⟩ := h
  rw [eval_ListComp]
  refine compRun S hcalm hi hb1 hg ht he hs I r (m.mono fun ys _ q Dd C acc Hx s6 I6 hn fC sm hD hx ia => ?_)
  obtain ⟨m6, hn6⟩ := hn
  refine ⟨m6, hn6, fun h7 hs7 => ⟨.ref Dd, Hx, turnL (fp := [C]) (t' := s6.toks) I6 (fun b hb => by
    have z : b = C := by simpa using hb
    rw [z]; exact fC) (fun b u hb e => (hs7.2 b (fun z => hb (by simp [z]))).trans e), rfl, q Dd acc Hx sm hD hx ia⟩⟩
end
end DL

namespace DL
open PySem PySem.Spec PyProof.Rows L2
section
variable {X : Cx} {pins : List (Addr × Obj)} {σ : St} {H : Hp} {s : Shared} {h' : Heap}
theorem turnNew {fp : List Addr} {t : Addr} {o : HO} {t' : Nat} (I : Inv X pins σ H s) (hf : ∀ b ∈ fp, FpOk X pins H b) (k : ∀ b u, b ∉ fp → s.heap.get? b = some u → h'.get? b = some u) (hex : ∀ b ∈ fp, ∀ u, s.heap.get? b = some u → ∃ u', h'.get? b = some u') (ht : s.heap.objs.size ≤ t)
    (new : ObjOk X.prog X.w (upd H t o) h' t o) : Inv X pins σ (upd H t o) { s with heap := h', toks := t' } := by
  have hn : H t = none := I.hok.fresh ht
  have nfp : ∀ b u, H b = some u → b ∉ fp := fun b u e z => by rw [(hf b z).1] at e; cases e
  refine I.step (g' := s.gens) (d' := s.drawn) (ch := fp) (fun b hb => ⟨(hf b hb).2.2.2.1, (hf b hb).2.1, (hf b hb).2.2.2.2.1, (hf b hb).2.2.2.2.2⟩) (fun b u _ _ hc e _ => k b u hc e) (fun b u _ _ hc e _ => ⟨u.slots, k b u hc e⟩)
    (fun b u _ e n => by rw [upd_ne (Nat.ne_of_lt (Nat.lt_of_lt_of_le (Heap.lt_size e) ht))]; exact n) (fun b u hc e => ⟨u, k b u hc e⟩)
    (fun b xs e => by rw [upd_ne (ne_of_none e hn)]; exact e) (fun b u xs e => by rw [upd_ne (ne_of_none e hn)]; exact e) (fun b ps e => ⟨#[], by rw [upd_ne (ne_of_none e hn), e]; simp⟩)
    (fun m hm => ?_) (fun b u e => ?_) I.bare
  · obtain ⟨ob, es, ep, ho, r⟩ := hm
    exact ⟨ob, es, ep, k _ ob (fun z => (hf _ z).2.1 rfl) ho, r⟩
  · by_cases hb : b = t
    · subst hb; rw [upd_same] at e; cases e; exact new
    · rw [upd_ne hb] at e
      refine (I.hok b u e).stay (fun c v hc q => k c v ?_ q) (fun c q => by rw [upd_ne (ne_of_none q hn)]; exact q) fun c xs q => by rw [upd_ne (ne_of_none q hn)]; exact q
      rcases hc with z | z
      · rw [z]; exact nfp b u e
      · exact nfp c _ z
end
def Ite (K : PySem.W.Frag) (l : Addr) : It :=
  ⟨fun i H => ∃ xs x, SqL K H l xs ∧ xs[i]? = some x, fun i H x H' => ∃ t y, H t = none ∧ H' = upd H t (.tup [.int (i : Nat), y]) ∧ x = .ref t ∧ ∀ xs, SqL K H l xs → xs[i]? = some y, fun i H => ∃ xs, SqL K H l xs ∧ xs.length ≤ i⟩
theorem turn_enum {P : Program} {w : World} {K : PySem.W.Frag} {elts : List Expr} {kk : Nat} {pp : Pos} (l e it : Addr) (hei : e ≠ it) :
    Turn P w K (.Tuple elts kk pp) (Ite K l) [e, it] e (fun i h => (∃ old, IsEnum h e it (i : Nat) old) ∧ h.IsListIter it l i) where
  mem := by simp
  obj := fun i h st b hb => by
    obtain ⟨⟨old, he⟩, o, e2, c, d⟩ := st
    rcases List.mem_cons.mp hb with rfl | hb
    · exact ⟨_, he, fun v z => by cases z⟩
    · have z : b = it := by simpa using hb
      subst z
      exact ⟨o, e2, fun v z => by rw [d] at z; cases z⟩
  keep := fun i h h' st k => by
    obtain ⟨⟨old, he⟩, hit⟩ := st
    exact ⟨⟨old, k e (by simp) _ he⟩, hit.at fun o q => k it (by simp) o q⟩
  item := by
    intro X hP hw hK hc i pins s σ H E I hf st hg
    subst hP hw hK
    obtain ⟨xs, x, hq, hx⟩ := hg
    obtain ⟨its, rv, p, hz⟩ := I.list hq
    obtain ⟨u, hu, ru⟩ := rv.get hx
    obtain ⟨⟨old, he⟩, hit⟩ := st
    refine wpAny_pyNext_enum_item he hit p.isList (x := u) (by simpa using hu) hei fun h' ho hit' hT hsz hk => ?_
    refine ⟨_, rfl, wpAny_letOwnedTupleGo_enum ho fun h'' he'' hs'' => ?_⟩
    have hlt : e < s.heap.objs.size := Heap.lt_size he
    have hlt2 : it < s.heap.objs.size := by obtain ⟨_, z, _⟩ := hit; exact Heap.lt_size z
    have kk : ∀ b o, b ∉ [e, it] → s.heap.get? b = some o → h''.get? b = some o := fun b o hb q => by
      have h1 : b ≠ e := fun z => hb (by simp [z])
      have h2 : b ≠ it := fun z => hb (by simp [z])
      exact (hs''.2 b h1).trans (hk b o h1 h2 q)
    have hT'' : h''.get? s.heap.objs.size = some { cls := .type "tuple", data := .seq #[.int i s.toks, u] } := (hs''.2 _ (Nat.ne_of_gt hlt)).trans hT
    have hn : H s.heap.objs.size = none := I.hok.fresh (Nat.le_refl _)
    refine ⟨.ref s.heap.objs.size, upd H s.heap.objs.size (.tup [.int (i : Nat), x]), ?_, rfl, ⟨_, x, hn, rfl, rfl, fun ys hy => by rw [I.list_inj hy hq]; exact hx⟩, ⟨⟨u, by simpa using he''⟩, hit'.at fun o q => (hs''.2 it hei.symm).trans q⟩, fun b hb => ?_⟩
    · refine turnNew (s := s) I hf kk (fun b hb u hu => ?_) (Nat.le_refl _) ⟨(by show 2 ≤ sizeLine; decide), [.int i s.toks, u], .cons ⟨_, rfl⟩ (.cons ru .nil), ⟨_, hT'', rfl, _, rfl⟩⟩
      rcases List.mem_cons.mp hb with rfl | hb
      · exact ⟨_, he''⟩
      · have z : b = it := by simpa using hb
        subst z
        obtain ⟨o, q, _⟩ := hit'
        exact ⟨o, (hs''.2 b hei.symm).trans q⟩
    · rw [upd_ne]
      · exact (hf b hb).1
      · rcases List.mem_cons.mp hb with rfl | hb
        · exact Nat.ne_of_lt hlt
        · have z : b = it := by simpa using hb
          subst z
          exact Nat.ne_of_lt hlt2
  done := by
    intro X hP hw hK hc i pins s σ H E I hf st hg
    subst hP hw hK
    obtain ⟨xs, hq, hx⟩ := hg
    obtain ⟨its, rv, p, hz⟩ := I.list hq
    obtain ⟨⟨old, he⟩, hit⟩ := st
    have hl := rv.length
    refine wpAny_pyNext_enum_end (I.ok.hd hc) he hit p.isList (by simp; omega) fun h' eb => ⟨rfl, ?_⟩
    exact turnL (fp := [e, it]) (t' := s.toks) I hf fun b o hb q => eb b o (fun z => hb (by simp [z])) q
  self := fun _ _ _ _ _ st h => by
    obtain ⟨⟨old, he⟩, _⟩ := st
    exact wpAny_pyIter_enum he h
def Itz (K : PySem.W.Frag) (l1 l2 : Addr) : It :=
  ⟨fun i H => ∃ xs ys x y, SqL K H l1 xs ∧ SqL K H l2 ys ∧ xs[i]? = some x ∧ ys[i]? = some y, fun i H x H' => ∃ t y z, H t = none ∧ H' = upd H t (.tup [y, z]) ∧ x = .ref t ∧ (∀ xs, SqL K H l1 xs → xs[i]? = some y) ∧ ∀ xs, SqL K H l2 xs → xs[i]? = some z,
    fun i H => ∃ xs ys, SqL K H l1 xs ∧ SqL K H l2 ys ∧ (xs.length ≤ i ∨ ys.length ≤ i)⟩
theorem turn_zip {P : Program} {w : World} {K : PySem.W.Frag} {elts : List Expr} {kk : Nat} {pp : Pos} (z TI TO i1 i2 l1 l2 : Addr) (Dz : ZipApart z TI TO i1 i2 l1 l2) :
    Turn P w K (.Tuple elts kk pp) (Itz K l1 l2) [z, TI, TO, i1, i2] z (fun i h => IsZip h z TI TO .none ∧ IsPair h TI (.ref i1) (.ref i2) ∧ (∃ a b, IsPair h TO a b) ∧ h.IsListIter i1 l1 i ∧ h.IsListIter i2 l2 i) where
  mem := by simp
  obj := fun i h st b hb => by
    obtain ⟨hz, hTI, ⟨a, c, hTO⟩, ⟨o1, e1, c1, d1⟩, ⟨o2, e2, c2, d2⟩⟩ := st
    simp only [List.mem_cons, List.not_mem_nil, or_false] at hb
    rcases hb with rfl | rfl | rfl | rfl | rfl
    · exact ⟨_, hz, fun v q => by cases q⟩
    · exact ⟨_, hTI, fun v q => by cases q⟩
    · exact ⟨_, hTO, fun v q => by cases q⟩
    · exact ⟨o1, e1, fun v q => by rw [d1] at q; cases q⟩
    · exact ⟨o2, e2, fun v q => by rw [d2] at q; cases q⟩
  keep := fun i h h' st k => by
    obtain ⟨hz, hTI, ⟨a, c, hTO⟩, h1, h2⟩ := st
    exact ⟨k z (by simp) _ hz, k TI (by simp) _ hTI, ⟨a, c, k TO (by simp) _ hTO⟩, h1.at fun o q => k i1 (by simp) o q, h2.at fun o q => k i2 (by simp) o q⟩
  item := by
    intro X hP hw hK hc i pins s σ H E I hf st hg
    subst hP hw hK
    obtain ⟨xs, ys, x, y, hq1, hq2, hx, hy⟩ := hg
    obtain ⟨its, rv, p, hzz⟩ := I.list hq1
    obtain ⟨its2, rv2, p2, hzz2⟩ := I.list hq2
    obtain ⟨u, hu, ru⟩ := rv.get hx
    obtain ⟨u2, hu2, ru2⟩ := rv2.get hy
    obtain ⟨hz, hTI, ⟨a, c, hTO⟩, h1, h2⟩ := st
    refine wpAny_pyNext_zip_item Dz hz hTI hTO h1 h2 p.isList p2.isList (x := u) (y := u2) (by simpa using hu) (by simpa using hu2) fun h' a1 a2 a3 a4 a5 a6 hk => ?_
    refine ⟨_, rfl, wpAny_letOwnedTupleGo_zip a1 fun h'' hz'' hs'' => ?_⟩
    have lz : z < s.heap.objs.size := Heap.lt_size hz
    have lTI : TI < s.heap.objs.size := Heap.lt_size hTI
    have lTO : TO < s.heap.objs.size := Heap.lt_size hTO
    have l1' : i1 < s.heap.objs.size := by obtain ⟨_, q, _⟩ := h1; exact Heap.lt_size q
    have l2' : i2 < s.heap.objs.size := by obtain ⟨_, q, _⟩ := h2; exact Heap.lt_size q
    have kk : ∀ b o, b ∉ [z, TI, TO, i1, i2] → s.heap.get? b = some o → h''.get? b = some o := fun b o hb q => by
      have e1 : b ≠ z := fun q => hb (by simp [q])
      have e2 : b ≠ TO := fun q => hb (by simp [q])
      have e3 : b ≠ i1 := fun q => hb (by simp [q])
      have e4 : b ≠ i2 := fun q => hb (by simp [q])
      exact (hs''.2 b e1).trans (hk b o e1 e2 e3 e4 q)
    have hT'' : h''.get? s.heap.objs.size = some { cls := .type "tuple", data := .seq #[u, u2] } := (hs''.2 _ (Nat.ne_of_gt lz)).trans a5
    have hn : H s.heap.objs.size = none := I.hok.fresh (Nat.le_refl _)
    have tTI : IsPair h'' TI (.ref i1) (.ref i2) := (hs''.2 _ Dz.TIz).trans (hk _ _ Dz.TIz Dz.TITO Dz.TIi1 Dz.TIi2 hTI)
    have tTO : IsPair h'' TO u u2 := (hs''.2 _ Dz.TOz).trans a2
    have t1 : h''.IsListIter i1 l1 (i + 1) := a3.at fun o q => (hs''.2 i1 Dz.i1z).trans q
    have t2 : h''.IsListIter i2 l2 (i + 1) := a4.at fun o q => (hs''.2 i2 Dz.i2z).trans q
    refine ⟨.ref s.heap.objs.size, upd H s.heap.objs.size (.tup [x, y]), ?_, rfl, ⟨_, x, y, hn, rfl, rfl, (fun zs hz => by rw [I.list_inj hz hq1]; exact hx), fun zs hz => by rw [I.list_inj hz hq2]; exact hy⟩,
      ⟨hz'', tTI, ⟨_, _, tTO⟩, t1, t2⟩, fun b hb => ?_⟩
    · refine turnNew (s := s) I hf kk (fun b hb w hw => ?_) (Nat.le_refl _) ⟨(by show 2 ≤ sizeLine; decide), [u, u2], .cons ru (.cons ru2 .nil), ⟨_, hT'', rfl, _, rfl⟩⟩
      simp only [List.mem_cons, List.not_mem_nil, or_false] at hb
      rcases hb with rfl | rfl | rfl | rfl | rfl
      · exact ⟨_, hz''⟩
      · exact ⟨_, tTI⟩
      · exact ⟨_, tTO⟩
      · obtain ⟨o, q, _⟩ := t1; exact ⟨o, q⟩
      · obtain ⟨o, q, _⟩ := t2; exact ⟨o, q⟩
    · rw [upd_ne]
      · exact (hf b hb).1
      · simp only [List.mem_cons, List.not_mem_nil, or_false] at hb
        rcases hb with rfl | rfl | rfl | rfl | rfl <;> exact Nat.ne_of_lt (by assumption)
  done := by
    intro X hP hw hK hc i pins s σ H E I hf st hg
    subst hP hw hK
    obtain ⟨xs, ys, hq1, hq2, hx⟩ := hg
    obtain ⟨its, rv, p, hzz⟩ := I.list hq1
    obtain ⟨its2, rv2, p2, hzz2⟩ := I.list hq2
    obtain ⟨hz, hTI, ⟨a, c, hTO⟩, h1, h2⟩ := st
    have hl := rv.length
    have hl2 := rv2.length
    refine wpAny_pyNext_zip_end (I.ok.hd hc) Dz hz hTI hTO h1 h2 p.isList p2.isList (hx.elim (fun q => .inl (by simp; omega)) fun q => .inr (by simp; omega)) fun h' eb => ⟨rfl, ?_⟩
    exact turnL (fp := [z, TI, TO, i1, i2]) (t' := s.toks) I hf fun b o hb q => eb b o (fun z => hb (by simp [z])) (fun z => hb (by simp [z])) (fun z => hb (by simp [z])) (fun z => hb (by simp [z])) q
  self := fun _ _ _ _ _ st h => wpAny_pyIter_zip st.1 h
section
variable {X : Cx} {E : Str → Hp → Prop} {pos : Pos}
def enumL (xs : List D) : List D := xs.zipIdx.map fun p => .tup [.int (p.2 : Nat), p.1]
theorem enumL_get {xs : List D} {i : Nat} {d : D} (h : (enumL xs)[i]? = some d) : ∃ x, xs[i]? = some x ∧ d = .tup [.int (i : Nat), x] := by
  unfold enumL at h
  rw [List.getElem?_map, List.getElem?_zipIdx] at h
  cases q : xs[i]? with
  | none => rw [q] at h; cases h
  | some x =>
    rw [q] at h
    refine ⟨x, rfl, ?_⟩
    have h' : some (D.tup [.int ((0 + i : Nat) : Int), x]) = some d := h
    rw [Nat.zero_add] at h'
    exact (Option.some.inj h').symm
theorem iE {a : Expr} {elts : List Expr} {kk : Nat} {pp p : Pos} {f : DE → R D} (hm : X.mg "enumerate" = none) (ha : PE X a (tD X.K E f)) (hg : Gl X "enumerate" := by rfl) (hs : starEach [a] X.env = [(false, eval a X.env)] := by rfl) :
    PI X (.Tuple elts kk pp) (.Call (.Name "enumerate" p) [a] [] pos) (tI X.K E fun env => (f env).bind fun d => (asL d).bind fun xs => .ok (enumL xs)) := by
  intro pins s σ H Rr I h
  obtain ⟨g, env, os, r, m⟩ := h
  have hpa : PA X [a] (tAr X.K E fun env => (f env).bind fun x => (R.ok []).bind fun xs => .ok (x :: xs)) := aCons ha aNil hs
  refine Call_ (ld_blt I hg hm boot_enumerate (PyProof.Rows.callWith_type1 (thn (hpa pos pins s σ H (fun vs H1 => Same H H1 ∧ ∃ d, f env = .ok d ∧ ∃ v, vs = [v] ∧ Is X.K (g.P os) H1 d v ∧ Good E g.H₀ ((asL d).bind fun xs => .ok (enumL xs)) (fun xs => ∀ J H1, Same H H1 → Yl X.K (g.P os) J H1 xs → Rr J H1)) I
    ⟨g, env, os, r, ?_⟩) fun us s1 ⟨vs, H1, I1, r1, q1⟩ => ?_) hs rfl))
  · exact Good.of_bind m.bind (fun d e q => by
      show Good E g.H₀ (R.ok [d]) _
      exact fun vs H' s' i' => by
        obtain ⟨v, rfl, iv⟩ := IsL.one' i'
        exact ⟨s', d, e, v, rfl, iv, q⟩)
  · obtain ⟨s1', d, _, v, rfl, iv, q⟩ := q1
    cases d with
    | lst xs =>
      obtain ⟨l, ws, rfl, h1, h2⟩ := iv
      obtain ⟨u, rfl, ru⟩ := vals1 r1
      cases ru
      obtain ⟨its, rv, pl, hz⟩ := I1.list h1.sq
      refine call_enumerate_list pl.isList fun h' he hit hsz hk => ?_
      refine wpAny_pyIter_enum he ?_
      have I2 : Inv X pins σ H1 { s1 with heap := h' } := I1.kept (t' := s1.toks) hk
      have f1 : ∀ b ∈ [s1.heap.objs.size + 1, s1.heap.objs.size], FpOk X pins H1 b := fun b hb => by
        have hb' : s1.heap.objs.size ≤ b := by
          simp only [List.mem_cons, List.not_mem_nil, or_false] at hb
          rcases hb with rfl | rfl <;> omega
        exact I1.fpOk hb' (I1.hok.fresh hb')
      refine ⟨s1.heap.objs.size + 1, [s1.heap.objs.size + 1, s1.heap.objs.size], _, Ite X.K l, H1, rfl, I2, turn_enum l _ _ (Nat.ne_of_gt (Nat.lt_succ_self _)), ⟨⟨_, he⟩, hit⟩, f1, ?_⟩
      refine (show ∀ J H1, Same H H1 → Yl X.K (g.P os) J H1 (enumL xs) → Rr J H1 from q) _ H1 s1' fun i H' P' ex => ⟨fun d hd => ?_, fun hi => ?_⟩
      · obtain ⟨x, hx, rfl⟩ := enumL_get hd
        obtain ⟨y, hy, iy⟩ := (IsL.ext ex _ _ h2).get hx
        refine ⟨⟨ws, y, (h1.ext ex).sq, hy⟩, fun z H2 hyl => ?_⟩
        obtain ⟨t, y', ht, rfl, rfl, hall⟩ := hyl
        have e2 := hall ws (h1.ext ex).sq
        rw [hy] at e2
        cases e2
        refine ⟨same_new ht _, t, _, rfl, .inl ⟨.inr ht, .inl upd_same⟩, IsL.cons rfl (IsL.one (Is.ext ⟨fun _ _ p _ => .inl p, fun a o _ e => same_new ht _ a o e⟩ _ _ iy))⟩
      · refine ⟨ws, (h1.ext ex).sq, ?_⟩
        rw [IsL.length h2]
        refine Nat.le_of_eq ?_
        have : (enumL xs).length = xs.length := by simp [enumL]
        omega
    | non => exact q.elim
    | bl _ => exact q.elim
    | int _ => exact q.elim
    | str _ => exact q.elim
    | exc _ => exact q.elim
    | fn _ => exact q.elim
    | tup _ => exact q.elim
def zipL (xs ys : List D) : List D := (xs.zip ys).map fun p => .tup [p.1, p.2]
theorem zipL_get {xs ys : List D} {i : Nat} {d : D} (h : (zipL xs ys)[i]? = some d) : ∃ x y, xs[i]? = some x ∧ ys[i]? = some y ∧ d = .tup [x, y] := by
  unfold zipL at h
  rw [List.getElem?_map] at h
  cases q : (xs.zip ys)[i]? with
  | none => rw [q] at h; cases h
  | some p =>
    rw [q] at h
    rw [List.getElem?_zip_eq_some] at q
    exact ⟨p.1, p.2, q.1, q.2, (Option.some.inj h).symm⟩
def zip2 : List D → R (List D)
  | [.lst xs, .lst ys] => .ok (zipL xs ys)
  | _ => .bad
theorem bt_zip : bootBuiltins "zip" = some (.type "zip") := by decide +kernel
theorem iZ {a b : Expr} {elts : List Expr} {kk : Nat} {pp p : Pos} {f : DE → R (List D)} (hm : X.mg "zip" = none) (ha : PA X [a, b] (tAr X.K E f)) (hg : Gl X "zip" := by rfl) (hs : starEach [a, b] X.env = [(false, eval a X.env), (false, eval b X.env)] := by rfl) (hs2 : starEach [b] X.env = [(false, eval b X.env)] := by rfl) :
    PI X (.Tuple elts kk pp) (.Call (.Name "zip" p) [a, b] [] pos) (tI X.K E fun env => (f env).bind zip2) := by
  intro pins s σ H Rr I h
  obtain ⟨g, env, os, r, m⟩ := h
  refine Call_ (ld_blt I hg hm bt_zip (PyProof.Rows.callWith_type1 (thn (ha pos pins s σ H (fun vs H1 => Same H H1 ∧ ∃ ds, IsL X.K (g.P os) H1 ds vs ∧ Good E g.H₀ (zip2 ds) (fun xs => ∀ J H1, Same H H1 → Yl X.K (g.P os) J H1 xs → Rr J H1)) I
    ⟨g, env, os, r, m.bind.mono fun ds _ q vs H' s' i' => ⟨s', ds, i', q⟩⟩) fun us s1 ⟨vs, H1, I1, r1, q1⟩ => ?_) (by rw [hs, hs2]) (by rw [hs2]; rfl)))
  obtain ⟨s1', ds, iv, q⟩ := q1
  unfold zip2 at q
  split at q
  · rename_i xs ys
    obtain ⟨v, v2, rfl, iv1, iv2⟩ := IsL.two' iv
    obtain ⟨l1, ws1, rfl, h1, g1⟩ := iv1
    obtain ⟨l2, ws2, rfl, h2, g2⟩ := iv2
    obtain ⟨u, u2, rfl, ru, ru2⟩ := vals2 r1
    cases ru
    cases ru2
    obtain ⟨its, rv, pl, hz⟩ := I1.list h1.sq
    obtain ⟨its2, rv2, pl2, hz2⟩ := I1.list h2.sq
    refine call_zip_2 pl.isList pl2.isList fun h' z1 z2 z3 z4 z5 hsz hk => ?_
    refine wpAny_pyIter_zip z1 ?_
    have I2 : Inv X pins σ H1 { s1 with heap := h' } := I1.kept (t' := s1.toks) hk
    have lt1 : l1 < s1.heap.objs.size := by obtain ⟨o, _, e, _⟩ := pl; exact Heap.lt_size e
    have lt2 : l2 < s1.heap.objs.size := by obtain ⟨o, _, e, _⟩ := pl2; exact Heap.lt_size e
    have f1 : ∀ b ∈ [s1.heap.objs.size + 4, s1.heap.objs.size + 2, s1.heap.objs.size + 3, s1.heap.objs.size, s1.heap.objs.size + 1], FpOk X pins H1 b := fun b hb => by
      have hb' : s1.heap.objs.size ≤ b := by
        simp only [List.mem_cons, List.not_mem_nil, or_false] at hb
        rcases hb with rfl | rfl | rfl | rfl | rfl
        · exact Nat.le_add_right _ _
        · exact Nat.le_add_right _ _
        · exact Nat.le_add_right _ _
        · exact Nat.le_refl _
        · exact Nat.le_add_right _ _
      exact I1.fpOk hb' (I1.hok.fresh hb')
    refine ⟨_, _, _, Itz X.K l1 l2, H1, rfl, I2, turn_zip (s1.heap.objs.size + 4) (s1.heap.objs.size + 2) (s1.heap.objs.size + 3) s1.heap.objs.size (s1.heap.objs.size + 1) l1 l2 (zipApart_new lt1 lt2), ⟨z1, z2, ⟨_, _, z3⟩, z4, z5⟩, f1, ?_⟩
    refine (show ∀ J H1, Same H H1 → Yl X.K (g.P os) J H1 (zipL xs ys) → Rr J H1 from q) _ H1 s1' fun i H' P' ex => ⟨fun d hd => ?_, fun hi => ?_⟩
    · obtain ⟨x, y, hx, hy, rfl⟩ := zipL_get hd
      obtain ⟨x', hx', ix⟩ := (IsL.ext ex _ _ g1).get hx
      obtain ⟨y', hy', iy⟩ := (IsL.ext ex _ _ g2).get hy
      refine ⟨⟨ws1, ws2, x', y', (h1.ext ex).sq, (h2.ext ex).sq, hx', hy'⟩, fun z H2 hyl => ?_⟩
      obtain ⟨t, a1, a2, ht, rfl, rfl, hall, hall2⟩ := hyl
      have e1 := hall ws1 (h1.ext ex).sq
      have e2 := hall2 ws2 (h2.ext ex).sq
      rw [hx'] at e1
      rw [hy'] at e2
      cases e1
      cases e2
      have ext2 : Ext P' (fun a => P' a ∨ H' a = none) H' (upd H' t (.tup [x', y'])) := ⟨fun _ _ p _ => .inl p, fun a o _ e => same_new ht _ a o e⟩
      exact ⟨same_new ht _, t, _, rfl, .inl ⟨.inr ht, .inl upd_same⟩, IsL.cons (Is.ext ext2 _ _ ix) (IsL.one (Is.ext ext2 _ _ iy))⟩
    · refine ⟨ws1, ws2, (h1.ext ex).sq, (h2.ext ex).sq, ?_⟩
      rw [IsL.length g1, IsL.length g2]
      have : (zipL xs ys).length = min xs.length ys.length := by simp [zipL]
      omega
  · exact q.elim
end
end DL

namespace DL
open PySem PySem.Spec PyProof.Rows L2
def tyN : D → String
  | .non => "NoneType"
  | .bl _ => "bool"
  | .int _ => "int"
  | .str _ => "str"
  | .lst _ => "list"
  | .tup _ => "tuple"
  | .exc _ => "tuple"
  | .fn _ => "tuple"
def subT (t T : String) : Bool := t == T || (t == "bool" && T == "int")
def kitB (t T : String) : Option Bool := if ((Value.type t) == (Value.type T)) = true then some true else if PySem.W.kitMeta T = true then (fastBuiltinMro t).map (·.contains (.type T)) else none
theorem kitB_eq (K : PySem.W.Frag) (t T : String) : PySem.W.kitOne K (.type t) (.type T) = kitB t T := rfl
def KitT (T : String) : Prop := ∀ d : D, kitB (tyN d) T = some (subT (tyN d) T)
theorem kitT_of {T : String} (h : kitB "NoneType" T = some (subT "NoneType" T) ∧ kitB "bool" T = some (subT "bool" T) ∧ kitB "int" T = some (subT "int" T) ∧ kitB "str" T = some (subT "str" T) ∧ kitB "list" T = some (subT "list" T) ∧ kitB "tuple" T = some (subT "tuple" T)) : KitT T := fun d => by
  cases d with
  | non => exact h.1
  | bl _ => exact h.2.1
  | int _ => exact h.2.2.1
  | str _ => exact h.2.2.2.1
  | lst _ => exact h.2.2.2.2.1
  | tup _ => exact h.2.2.2.2.2
  | exc _ => exact h.2.2.2.2.2
  | fn _ => exact h.2.2.2.2.2
theorem kt_int : KitT "int" := kitT_of (by decide +kernel)
theorem kt_bool : KitT "bool" := kitT_of (by decide +kernel)
theorem kt_list : KitT "list" := kitT_of (by decide +kernel)
theorem kt_tuple : KitT "tuple" := kitT_of (by decide +kernel)
section
variable {X : Cx} {E : Str → Hp → Prop} {pos : Pos}
theorem isi_ok {pins : List (Addr × Obj)} {σ : St} {H : Hp} {s : Shared} {A : Around} {E : Value → Shared → Prop} {Q : Value → Shared → Prop} {d : D} {x : V} {u : Value} {T : String} {P : Addr → Prop} (I : Inv X pins σ H s) (rx : RelV x u) (hd : Is X.K P H d x) (hne : ∀ n, d ≠ .exc n ∧ d ≠ .fn n) (kt : KitT T) (h : ∀ tk, Q (.bool (subT (tyN d) T)) { s with toks := tk }) :
    wpAny (model X.prog X.w) A (call (.builtin "isinstance") [u, .type T]) Q E s := by
  have e : PySem.W.kitOne X.K (.type (tyN d)) (.type T) = some (subT (tyN d) T) := (kitB_eq _ _ _).trans (kt d)
  cases d with
  | non => cases hd; exact isinst_ok I rx .non e h
  | bl b => cases hd; exact isinst_ok I rx (.bl b) e h
  | int b => cases hd; exact isinst_ok I rx (.int b) e h
  | str b => cases hd; exact isinst_ok I rx (.str b) e h
  | lst ds =>
    obtain ⟨a, vs, rfl, h1, h2⟩ := hd
    cases rx
    obtain ⟨its, rv, ⟨o, n, e1, c1, d1, t1⟩, hz⟩ := I.list h1.sq
    exact PySem.W.kia_one PySem.W.kitx_list I.kIn ⟨o, e1, c1⟩ e (fun z => nomatch z) h
  | tup ds =>
    obtain ⟨a, vs, rfl, h1, h2⟩ := hd
    cases rx
    obtain ⟨its, rv, ⟨o, e1, c1, d1⟩, hz⟩ := I.tuple h1.sq
    exact PySem.W.kia_one PySem.W.kitx_tuple I.kIn ⟨o, e1, c1⟩ e (fun z => nomatch z) h
  | exc n => exact ((hne n).1 rfl).elim
  | fn n => exact ((hne n).2 rfl).elim
def isi (T : String) (d : D) : R D := match d with
  | .exc _ => .bad
  | .fn _ => .bad
  | d => .ok (.bl (subT (tyN d) T))
theorem isi_ne {T : String} {d : D} (h : ∀ n, d ≠ .exc n ∧ d ≠ .fn n) : isi T d = .ok (.bl (subT (tyN d) T)) := by
  cases d with
  | exc n => exact ((h n).1 rfl).elim
  | fn n => exact ((h n).2 rfl).elim
  | _ => rfl
theorem bt_isinstance : bootBuiltins "isinstance" = some (.builtin "isinstance") := by decide +kernel
theorem bt_int : bootBuiltins "int" = some (.type "int") := by decide +kernel
theorem bt_bool : bootBuiltins "bool" = some (.type "bool") := by decide +kernel
theorem bt_list : bootBuiltins "list" = some (.type "list") := by decide +kernel
theorem bt_tuple : bootBuiltins "tuple" = some (.type "tuple") := by decide +kernel
theorem bt_all : bootBuiltins "all" = some (.builtin "all") := by decide +kernel
theorem bt_len : bootBuiltins "len" = some (.builtin "len") := by decide +kernel
theorem bt_abs : bootBuiltins "abs" = some (.builtin "abs") := by decide +kernel
theorem bt_max : bootBuiltins "max" = some (.builtin "max") := by decide +kernel
theorem oIsi {T : String} {x : Str} {p p2 : Pos} {a : Expr} {f : DE → R D} (kt : KitT T) (hv : bootBuiltins x = some (.type T)) (hm : X.mg "isinstance" = none) (hmt : X.mg x = none) (ha : PE X a (tB X.K E f)) (hg : Gl X "isinstance" := by rfl) (hgt : Gl X x := by rfl)
    (hn : x ≠ "__name__" := by decide) (hdb : (x == ("__debug__" : Str)) = false := by decide)
    (hs : starEach [a, .Name x p2] X.env = (false, eval a X.env) :: starEach [.Name x p2] X.env := by rfl) (hpl : (backTo pos (starEach [.Name x p2] X.env)).any (·.1) = false := by rfl) (hs2 : starEach [.Name x p2] X.env = (false, eval (.Name x p2) X.env) :: starEach [] X.env := by rfl) :
    PE X (.Call (.Name "isinstance" p) [a, .Name x p2] [] pos) (tD X.K E fun env => (f env).bind (isi T)) := by
  have hty : PE X (.Name x p2) (tC (.ty T)) := pe_bltn hgt hmt hv rfl hn hdb
  refine imp (pe_callB (r := fun xs H Q => ∃ d v, xs = [v, .ty T] ∧ (∀ n, d ≠ .exc n ∧ d ≠ .fn n) ∧ Is X.K Tr H d v ∧ Q (.bl (subT (tyN d) T)) H) ?_ hg hm bt_isinstance (pa_cons ha (pa_cons hty pa_nil hs2) hs) (by decide) (by decide) hs hpl) fun σ H Q ⟨g, env, os, r, m⟩ => ⟨g, env, os, r, m.bind.mono fun d _ q v H' s i => ?_⟩
  · intro pins s σ H xs us Q I r h
    obtain ⟨d, v, rfl, hne, hd, q⟩ := h
    obtain ⟨u, w, rfl, ru, rw'⟩ := vals2 r
    have e : w = .type T := rw'
    subst e
    exact isi_ok I ru hd hne kt fun tk => ⟨.bl _, H, I.tok _, rfl, q⟩
  · by_cases hne : ∀ n, d ≠ .exc n ∧ d ≠ .fn n
    · rw [isi_ne hne] at q
      exact ⟨d, v, rfl, hne, i, q _ H' s rfl⟩
    · cases d with
      | exc n => exact q.elim
      | fn n => exact q.elim
      | _ => exact (hne fun n => ⟨fun z => (nomatch z), fun z => (nomatch z)⟩).elim
def bools : List D → Option (List Bool)
  | [] => some []
  | .bl b :: r => (bools r).map (b :: ·)
  | _ :: _ => none
theorem bools_get {K : PySem.W.Frag} {P : Addr → Prop} {H : Hp} : ∀ {ds : List D} {vs : List V} {bs : List Bool}, bools ds = some bs → IsL K P H ds vs → vs = bs.map V.bl
  | [], _, _, e, h => by cases e; exact h
  | .bl b :: r, _, bs, e, ⟨v, w, rfl, p, q⟩ => by
    unfold bools at e
    cases e1 : bools r with
    | none => rw [e1] at e; cases e
    | some bs' =>
      rw [e1] at e
      cases e
      have p' : v = .bl b := p
      have := bools_get e1 q
      rw [p', this]; rfl
  | .non :: r, _, _, e, _ => by cases e
  | .int _ :: r, _, _, e, _ => by cases e
  | .str _ :: r, _, _, e, _ => by cases e
  | .lst _ :: r, _, _, e, _ => by cases e
  | .tup _ :: r, _, _, e, _ => by cases e
theorem bools_vals : ∀ {bs : List Bool} {us : List Value}, Vals (bs.map V.bl) us → us = bs.map Value.bool
  | [], _, h => by cases h; rfl
  | b :: r, _, h => by
    cases h with
    | cons h1 h2 =>
      have := bools_vals h2
      rw [this]
      have h1' : _ = Value.bool b := h1
      rw [h1']; rfl
theorem bools_all (bs : List Bool) (F : Nat → Bool) (hF : ∀ i b, bs[i]? = some b → F i = b) : (List.range bs.length).all F = bs.all id := by
  rw [Bool.eq_iff_iff, List.all_eq_true, List.all_eq_true]
  constructor
  · intro h b hb
    obtain ⟨i, hi, e⟩ := List.getElem_of_mem hb
    have := h i (by simpa using hi)
    rw [hF i b (by rw [List.getElem?_eq_getElem hi, e])] at this
    exact this
  · intro h i hi
    have hi' : i < bs.length := by simpa using hi
    rw [hF i _ (List.getElem?_eq_getElem hi')]
    exact h _ (List.getElem_mem hi')
def kAll (xs : List D) : Option D := (bools xs).map fun bs => .bl (bs.all id)
theorem oAll {p : Pos} {a : Expr} {f : DE → R (List D)} (hc : X.calm = true) (hm : X.mg "all" = none) (ha : PE X a (tL X.K E f)) (hg : Gl X "all" := by rfl)
    (he : starEach [a] X.env = (false, eval a X.env) :: starEach [] X.env := by rfl) (hpl : (backTo pos (starEach [] X.env)).any (·.1) = false := by rfl) : PE X (.Call (.Name "all" p) [a] [] pos) (tD X.K E fun env => (f env).bind fun xs => R.of (kAll xs)) := by
  refine imp (pe_callB (r := fun xs H Q => ∃ (l : Addr) (vs : List V) (bs : List Bool), xs = [.ref l] ∧ SqL X.K H l vs ∧ vs = bs.map V.bl ∧ Q (.bl (bs.all id)) H) ?_ hg hm bt_all (pa_cons ha pa_nil he) (by decide) (by decide) he hpl) fun σ H Q ⟨g, env, os, r, m⟩ => ⟨g, env, os, r, m.bind.mono fun xs _ q l vs H' s hl i => ?_⟩
  · intro pins s σ H xs us Q I r h
    obtain ⟨l, vs, bs, rfl, hl, rfl, q⟩ := h
    obtain ⟨u, rfl, ru⟩ := vals1 r
    have e : u = .ref l := ru
    subst e
    obtain ⟨its, rv, pl, hz⟩ := I.list hl
    have ei := bools_vals rv
    subst ei
    have hli := pl.isList
    have hhd : X.A.in1.handled = none := by
      have := I.ok.hd hc
      exact this
    refine call_all_walk (wpAny_pyIter_list hli ?_)
    have hlt : l < s.heap.objs.size := by obtain ⟨o, n, e, _⟩ := pl; exact Heap.lt_size e
    refine ⟨s.heap.objs.size, [s.heap.objs.size, l], [s.heap.objs.size], _, _, _, fun i => (bs[i]?).getD false, rfl, Walks.list hhd _ l (Nat.ne_of_lt hlt) _, ⟨⟨_, Heap.get?_push_size _ rfl, rfl, rfl⟩, hli.at fun o e => Heap.get?_push_of_some _ e⟩, ?_, ?_⟩
    · intro i v s' Q' E' hv hq
      have hv' : (bs.map Value.bool)[i]? = some v := by simpa using hv
      rw [List.getElem?_map] at hv'
      cases eb : bs[i]? with
      | none => rw [eb] at hv'; cases hv'
      | some b =>
        rw [eb] at hv'
        cases hv'
        have hq' : Q' b s' := by
          have e2 : (fun i => (bs[i]?).getD false) i = b := by show (bs[i]?).getD false = b; rw [eb]; rfl
          rw [← e2]; exact hq
        exact wpAny_truthy_bool hq'
    · intro h' tk hk
      have e1 : ((List.range (List.toArray (bs.map Value.bool)).size).all fun i => (bs[i]?).getD false) = bs.all id := by
        have : (List.toArray (bs.map Value.bool)).size = bs.length := by simp
        rw [this]
        exact bools_all bs _ fun i b e => by rw [e]; rfl
      rw [e1]
      exact ⟨.bl _, H, I.kept (s := s) fun b o e => hk b o (fun z => by
        have z' : b = s.heap.objs.size := by simpa using z
        rw [z'] at e
        exact Nat.lt_irrefl _ (Heap.lt_size e)) (Heap.get?_push_of_some _ e), rfl, q⟩
  · obtain ⟨d, e, q'⟩ := q.of
    unfold kAll at e
    cases eb : bools xs with
    | none => rw [eb] at e; cases e
    | some bs =>
      rw [eb] at e
      cases e
      exact ⟨l, vs, bs, rfl, hl, bools_get eb i, q' _ H' s rfl⟩
end
end DL

namespace DL
open PySem PySem.Spec PyProof.Rows L2
def eqA : D → D → Option Bool
  | .non, .non => some true
  | .bl a, .bl b => some (a == b)
  | .int a, .int b => some (a == b)
  | .str a, .str b => some (a == b)
  | .bl a, .int b => some ((if a then 1 else 0) == b)
  | .int a, .bl b => some (a == (if b then 1 else 0))
  | .non, .bl _ => some false
  | .non, .int _ => some false
  | .non, .str _ => some false
  | .bl _, .non => some false
  | .bl _, .str _ => some false
  | .int _, .non => some false
  | .int _, .str _ => some false
  | .str _, .non => some false
  | .str _, .bl _ => some false
  | .str _, .int _ => some false
  | _, _ => none
def zipB (f : D → D → Option Bool) : List D → List D → Option Bool
  | x :: xs, y :: ys => (f x y).bind fun b => (zipB f xs ys).map (b && ·)
  | _, _ => some true
def eqF : Nat → D → D → Option Bool
  | 0, x, y => eqA x y
  | n + 1, x, y => match x, y with
    | .lst xs, .lst ys => if xs.length = ys.length then zipB (eqF n) xs ys else some false
    | .tup xs, .tup ys => (zipB (eqF n) xs ys).map (· && xs.length == ys.length)
    | x, y => eqA x y
def eqJ (f : D → D → Option Bool) (xs ys : List D) (j : Nat) : Bool := ((xs[j]?).bind fun x => (ys[j]?).bind fun y => f x y).getD false
theorem range_all_succ (n : Nat) (e : Nat → Bool) : (List.range (n + 1)).all e = (e 0 && (List.range n).all fun j => e (j + 1)) := by
  rw [List.range_succ_eq_map, List.all_cons, List.all_map]
  rfl
theorem zipB_spec {f : D → D → Option Bool} : ∀ {xs ys : List D} {b : Bool}, zipB f xs ys = some b → (∀ (j : Nat) (x y : D), xs[j]? = some x → ys[j]? = some y → f x y = some (eqJ f xs ys j)) ∧ b = (List.range (min xs.length ys.length)).all (eqJ f xs ys)
  | [], ys, b, h => by
    have h' : some true = some b := by cases ys <;> exact h
    cases h'
    exact ⟨fun j x y e => by simp at e, by simp⟩
  | x :: xs, [], b, h => by
    cases h
    exact ⟨fun j x y _ e => by simp at e, by simp⟩
  | x :: xs, y :: ys, b, h => by
    unfold zipB at h
    cases e1 : f x y with
    | none => rw [e1] at h; cases h
    | some c =>
      cases e2 : zipB f xs ys with
      | none => rw [e1, e2] at h; cases h
      | some d =>
        rw [e1, e2] at h
        have h' : (c && d) = b := Option.some.inj h
        obtain ⟨q1, q2⟩ := zipB_spec e2
        refine ⟨fun j x' y' h1 h2 => ?_, ?_⟩
        · cases j with
          | zero =>
            simp at h1 h2
            subst h1 h2
            show f x y = some (((some x).bind fun x => (some y).bind fun y => f x y).getD false)
            simp [e1]
          | succ j => exact q1 j x' y' (by simpa using h1) (by simpa using h2)
        · have e3 : min (x :: xs).length (y :: ys).length = min xs.length ys.length + 1 := by simp [Nat.succ_min_succ]
          rw [e3, range_all_succ, ← h', q2]
          have e4 : eqJ f (x :: xs) (y :: ys) 0 = c := by
            show (((some x).bind fun x => (some y).bind fun y => f x y).getD false) = c
            simp [e1]
          rw [e4]; rfl
section
variable {X : Cx} {pins : List (Addr × Obj)} {σ : St} {H : Hp} {s : Shared}
theorem eqA_at {A : Around} {P : Addr → Prop} {x y : D} {v w : V} {u u' : Value} {b : Bool} (hx : Is X.K P H x v) (hy : Is X.K P H y w) (rv : RelV v u) (rw' : RelV w u') (e : eqA x y = some b) : SeqAt.EqAt A s u u' b ∧ SeqAt.RcAt A s u u' b ∧ SeqAt.RcNeAt A s u u' (!b) := by
  unfold eqA at e
  split at e <;> first | cases e | skip
  · cases hx; cases hy; cases rv; cases rw'; exact ⟨.same _, .none_none, .none_none⟩
  · cases hx; cases hy; cases rv; cases rw'; exact ⟨.bool_bool _ _, .bool_bool _ _, .bool_bool _ _⟩
  · cases hx; cases hy; obtain ⟨t, rfl⟩ := rv; obtain ⟨t', rfl⟩ := rw'; exact ⟨.int_int _ _ _ _, .int_int _ _ _ _, .int_int _ _ _ _⟩
  · cases hx; cases hy; obtain ⟨t, rfl⟩ := rv; obtain ⟨t', rfl⟩ := rw'; exact ⟨.str_str _ _ _ _, .str_str _ _ _ _, .str_str _ _ _ _⟩
  · cases hx; cases hy; cases rv; obtain ⟨t', rfl⟩ := rw'; exact ⟨.bool_int _ _ _, .bool_int _ _ _, .bool_int _ _ _⟩
  · cases hx; cases hy; obtain ⟨t, rfl⟩ := rv; cases rw'; exact ⟨.int_bool _ _ _, .int_bool _ _ _, .int_bool _ _ _⟩
  · cases hx; cases hy; cases rv; cases rw'; exact ⟨.none_bool _, .none_bool _, .none_bool _⟩
  · cases hx; cases hy; cases rv; obtain ⟨t', rfl⟩ := rw'; exact ⟨.none_int _ _, .none_int _ _, .none_int _ _⟩
  · cases hx; cases hy; cases rv; obtain ⟨t', rfl⟩ := rw'; exact ⟨.none_str _ _, .none_str _ _, .none_str _ _⟩
  · cases hx; cases hy; cases rv; cases rw'; exact ⟨.bool_none _, .bool_none _, .bool_none _⟩
  · cases hx; cases hy; cases rv; obtain ⟨t', rfl⟩ := rw'; exact ⟨.bool_str _ _ _, .bool_str _ _ _, .bool_str _ _ _⟩
  · cases hx; cases hy; obtain ⟨t, rfl⟩ := rv; cases rw'; exact ⟨.int_none _ _, .int_none _ _, .int_none _ _⟩
  · cases hx; cases hy; obtain ⟨t, rfl⟩ := rv; obtain ⟨t', rfl⟩ := rw'; exact ⟨.int_str _ _ _ _, .int_str _ _ _ _, .int_str _ _ _ _⟩
  · cases hx; cases hy; obtain ⟨t, rfl⟩ := rv; cases rw'; exact ⟨.str_none _ _, .str_none _ _, .str_none _ _⟩
  · cases hx; cases hy; obtain ⟨t, rfl⟩ := rv; cases rw'; exact ⟨.str_bool _ _ _, .str_bool _ _ _, .str_bool _ _ _⟩
  · cases hx; cases hy; obtain ⟨t, rfl⟩ := rv; obtain ⟨t', rfl⟩ := rw'; exact ⟨.str_int _ _ _ _, .str_int _ _ _ _, .str_int _ _ _ _⟩
theorem eqA_refl {P : Addr → Prop} {x y : D} {v : V} {b : Bool} (hx : Is X.K P H x v) (hy : Is X.K P H y v) (e : eqA x y = some b) : b = true := by
  unfold eqA at e
  split at e <;> first | cases e | skip
  all_goals cases hx
  all_goals cases hy
  all_goals simp
theorem zip_refl {P : Addr → Prop} {f : D → D → Option Bool} : ∀ {xs ys : List D} {vs : List V} {b : Bool}, (∀ x y v b, Is X.K P H x v → Is X.K P H y v → f x y = some b → b = true) → IsL X.K P H xs vs → IsL X.K P H ys vs → zipB f xs ys = some b → b = true ∧ xs.length = ys.length
  | [], ys, vs, b, _, hx, hy, e => by
    have e' : vs = [] := hx
    subst e'
    have := IsL.length hy
    cases ys with
    | nil => cases e; exact ⟨rfl, rfl⟩
    | cons _ _ => simp at this
  | x :: xs, [], vs, b, _, hx, hy, e => by
    have := IsL.length hx
    have e' : vs = [] := hy
    subst e'
    simp at this
  | x :: xs, y :: ys, vs, b, hf, ⟨v, r, e1, p1, q1⟩, ⟨v', r', e2, p2, q2⟩, e => by
    subst e1
    cases e2
    unfold zipB at e
    cases h1 : f x y with
    | none => rw [h1] at e; cases e
    | some c =>
      cases h2 : zipB f xs ys with
      | none => rw [h1, h2] at e; cases e
      | some d =>
        rw [h1, h2] at e
        have e' : (c && d) = b := Option.some.inj e
        obtain ⟨z1, z2⟩ := zip_refl hf q1 q2 h2
        have z3 := hf x y v c p1 p2 h1
        subst z1 z3 e'
        exact ⟨rfl, by simp [z2]⟩
theorem eqF_refl (I : Inv X pins σ H s) {P : Addr → Prop} : ∀ (n : Nat) (x y : D) (v : V) (b : Bool), Is X.K P H x v → Is X.K P H y v → eqF n x y = some b → b = true
  | 0, x, y, v, b, hx, hy, e => eqA_refl hx hy e
  | n + 1, x, y, v, b, hx, hy, e => by
    unfold eqF at e
    split at e
    · rename_i xs ys
      obtain ⟨a, vs, rfl, h1, h2⟩ := hx
      obtain ⟨a', vs', ea, h3, h4⟩ := hy
      cases ea
      have ev := I.list_inj h1.sq h3.sq
      subst ev
      split at e
      · exact (zip_refl (eqF_refl I n) h2 h4 e).1
      · rename_i c
        exact absurd ((IsL.length h2).symm.trans (IsL.length h4)) c
    · rename_i xs ys
      obtain ⟨a, vs, rfl, h1, h2⟩ := hx
      obtain ⟨a', vs', ea, h3, h4⟩ := hy
      cases ea
      have ev := I.tuple_inj h1.sq h3.sq
      subst ev
      cases ez : zipB (eqF n) xs ys with
      | none => rw [ez] at e; cases e
      | some c =>
        rw [ez] at e
        obtain ⟨z1, z2⟩ := zip_refl (eqF_refl I n) h2 h4 ez
        subst z1
        have e' : (true && (xs.length == ys.length)) = b := Option.some.inj e
        rw [← e', z2]; simp
    · exact eqA_refl hx hy e
theorem in1_units (A : Around) : A.in1.units = A.units + 1 := rfl
theorem eq_at (I : Inv X pins σ H s) {P : Addr → Prop} : ∀ (n : Nat) (A : Around) (x y : D) (v w : V) (u u' : Value) (b : Bool), A.units + n < cLine → Is X.K P H x v → Is X.K P H y w → RelV v u → RelV w u' → eqF n x y = some b → SeqAt.EqAt A s u u' b ∧ SeqAt.RcAt A s u u' b ∧ SeqAt.RcNeAt A s u u' (!b)
  | 0, A, x, y, v, w, u, u', b, hu, hx, hy, rv, rw', e => eqA_at hx hy rv rw' e
  | n + 1, A, x, y, v, w, u, u', b, hu, hx, hy, rv, rw', e => by
    have e0 := e
    unfold eqF at e
    have hu1 : A.in1.units + n < cLine := by rw [in1_units]; omega
    have hu0 : A.units < cLine := by omega
    split at e
    · rename_i xs ys
      have hx0 := hx
      have hy0 := hy
      obtain ⟨a, vs, rfl, h1, h2⟩ := hx
      obtain ⟨a', vs', rfl, h3, h4⟩ := hy
      cases rv
      cases rw'
      obtain ⟨its, rvs, pl, hz⟩ := I.list h1.sq
      obtain ⟨its', rvs', pl', hz'⟩ := I.list h3.sq
      have l1 := rvs.length
      have l2 := rvs'.length
      have l3 : vs.length = xs.length := IsL.length h2
      have l4 : vs'.length = ys.length := IsL.length h4
      have main : SeqAt.RcAt A s (.ref a) (.ref a') b ∧ SeqAt.RcNeAt A s (.ref a) (.ref a') (!b) := by
        split at e
        · rename_i c
          obtain ⟨q1, q2⟩ := zipB_spec e
          have hsz : its.toArray.size = its'.toArray.size := by simp; omega
          have hmin : min xs.length ys.length = its.toArray.size := by simp; omega
          rw [hmin] at q2
          subst q2
          have he : ∀ j (g1 : j < its.toArray.size) (g2 : j < its'.toArray.size), SeqAt.EqAt A.in1 s its.toArray[j] its'.toArray[j] (eqJ (eqF n) xs ys j) := fun j g1 g2 => by
            have j1 : j < xs.length := by simp at g1; omega
            have j2 : j < ys.length := by simp at g2; omega
            have f := q1 j _ _ (List.getElem?_eq_getElem j1) (List.getElem?_eq_getElem j2)
            obtain ⟨v1, hv1, iv1⟩ := IsL.get h2 (List.getElem?_eq_getElem j1)
            obtain ⟨v2, hv2, iv2⟩ := IsL.get h4 (List.getElem?_eq_getElem j2)
            obtain ⟨u1, hu1', ru1⟩ := rvs.get hv1
            obtain ⟨u2, hu2', ru2⟩ := rvs'.get hv2
            have E1 : its.toArray[j] = u1 := by
              have := List.getElem?_eq_some_iff.mp hu1'
              obtain ⟨_, h⟩ := this
              simpa using h
            have E2 : its'.toArray[j] = u2 := by
              have := List.getElem?_eq_some_iff.mp hu2'
              obtain ⟨_, h⟩ := this
              simpa using h
            rw [E1, E2]
            exact (eq_at I n A.in1 _ _ _ _ _ _ _ hu1 iv1 iv2 ru1 ru2 f).1
          exact ⟨SeqAt.RcAt.lists pl.isList pl'.isList hsz hu0 he, SeqAt.RcNeAt.lists pl.isList pl'.isList hsz hu0 he⟩
        · rename_i c
          cases e
          have hsz : (its.toArray.size != its'.toArray.size) = true := by simp; omega
          exact ⟨SeqAt.RcAt.lists_lengths pl.isList pl'.isList hsz hu0, SeqAt.RcNeAt.lists_lengths pl.isList pl'.isList hsz hu0⟩
      refine ⟨?_, main⟩
      by_cases ha : a = a'
      · subst ha
        have := eqF_refl I (n + 1) _ _ _ _ hx0 hy0 e0
        subst this
        exact .same _
      · exact .of_refs ha main.1
    · rename_i xs ys
      have hx0 := hx
      have hy0 := hy
      obtain ⟨a, vs, rfl, h1, h2⟩ := hx
      obtain ⟨a', vs', rfl, h3, h4⟩ := hy
      cases rv
      cases rw'
      obtain ⟨its, rvs, pl, hz⟩ := I.tuple h1.sq
      obtain ⟨its', rvs', pl', hz'⟩ := I.tuple h3.sq
      have l1 := rvs.length
      have l2 := rvs'.length
      have l3 : vs.length = xs.length := IsL.length h2
      have l4 : vs'.length = ys.length := IsL.length h4
      have main : SeqAt.RcAt A s (.ref a) (.ref a') b ∧ SeqAt.RcNeAt A s (.ref a) (.ref a') (!b) := by
        cases ez : zipB (eqF n) xs ys with
        | none => rw [ez] at e; cases e
        | some c =>
          rw [ez] at e
          obtain ⟨q1, q2⟩ := zipB_spec ez
          have s1 : xs.length = its.toArray.size := by simp; omega
          have s2 : ys.length = its'.toArray.size := by simp; omega
          have e' : (c && (xs.length == ys.length)) = b := Option.some.inj e
          rw [q2] at e'
          have he : ∀ j (g1 : j < its.toArray.size) (g2 : j < its'.toArray.size), SeqAt.EqAt A.in1 s its.toArray[j] its'.toArray[j] (eqJ (eqF n) xs ys j) := fun j g1 g2 => by
            have j1 : j < xs.length := by simp at g1; omega
            have j2 : j < ys.length := by simp at g2; omega
            have f := q1 j _ _ (List.getElem?_eq_getElem j1) (List.getElem?_eq_getElem j2)
            obtain ⟨v1, hv1, iv1⟩ := IsL.get h2 (List.getElem?_eq_getElem j1)
            obtain ⟨v2, hv2, iv2⟩ := IsL.get h4 (List.getElem?_eq_getElem j2)
            obtain ⟨u1, hu1', ru1⟩ := rvs.get hv1
            obtain ⟨u2, hu2', ru2⟩ := rvs'.get hv2
            have E1 : its.toArray[j] = u1 := by
              have := List.getElem?_eq_some_iff.mp hu1'
              obtain ⟨_, h⟩ := this
              simpa using h
            have E2 : its'.toArray[j] = u2 := by
              have := List.getElem?_eq_some_iff.mp hu2'
              obtain ⟨_, h⟩ := this
              simpa using h
            rw [E1, E2]
            exact (eq_at I n A.in1 _ _ _ _ _ _ _ hu1 iv1 iv2 ru1 ru2 f).1
          subst e'
          have R1 := SeqAt.RcAt.tuples (A := A) (e := eqJ (eqF n) xs ys) pl pl' hu0 he
          have R2 := SeqAt.RcNeAt.tuples (A := A) (e := eqJ (eqF n) xs ys) pl pl' hu0 he
          rw [← s1, ← s2] at R1 R2
          exact ⟨R1, R2⟩
      refine ⟨?_, main⟩
      by_cases ha : a = a'
      · subst ha
        have := eqF_refl I (n + 1) _ _ _ _ hx0 hy0 e0
        subst this
        exact .same _
      · exact .of_refs ha main.1
    · exact eqA_at hx hy rv rw' e
end
section
variable {X : Cx} {E : Str → Hp → Prop} {pos : Pos}
def rEqD (K : PySem.W.Frag) (ne : Bool) : R2 := fun v w H Q => ∃ x y b, Is K Tr H x v ∧ Is K Tr H y w ∧ eqF 6 x y = some b ∧ Q (.bl (if ne = true then !b else b)) H
theorem op_eqD (hu : X.A.units + 6 < cLine) : OpR X (compareOp .Eq) (rEqD X.K false) := by
  intro pins s σ H v w u u' Q I rx ry h
  obtain ⟨x, y, b, hx, hy, e, q⟩ := h
  exact (eq_at I 6 X.A x y v w u u' b hu hx hy rx ry e).2.1 X.prog X.w _ _ ⟨.bl b, H, I, rfl, q⟩
theorem op_neD (hu : X.A.units + 6 < cLine) : OpR X (compareOp .NotEq) (rEqD X.K true) := by
  intro pins s σ H v w u u' Q I rx ry h
  obtain ⟨x, y, b, hx, hy, e, q⟩ := h
  exact (eq_at I 6 X.A x y v w u u' b hu hx hy rx ry e).2.2 X.prog X.w _ _ ⟨.bl (!b), H, I, rfl, q⟩
def kEq (x y : D) : Option D := (eqF 6 x y).map .bl
def kNe (x y : D) : Option D := (eqF 6 x y).map fun b => .bl (!b)
theorem ker_eqD : Ker2 X (rEqD X.K false) kEq := fun x y d e => by
  unfold kEq at e
  cases h : eqF 6 x y with
  | none => rw [h] at e; cases e
  | some b =>
    rw [h] at e; cases e
    exact ⟨_, rfl, fun H v w Q i1 i2 q => ⟨x, y, b, i1, i2, h, q⟩⟩
theorem ker_neD : Ker2 X (rEqD X.K true) kNe := fun x y d e => by
  unfold kNe at e
  cases h : eqF 6 x y with
  | none => rw [h] at e; cases e
  | some b =>
    rw [h] at e; cases e
    exact ⟨_, rfl, fun H v w Q i1 i2 q => ⟨x, y, b, i1, i2, h, q⟩⟩
theorem Room.u6 {k : Nat} {A : Around} (r : Room k A) : A.units + 6 < cLine := by have := r.un; omega
end
end DL

namespace DL
open PySem PySem.Spec PyProof.Rows L2
def Kp (nt : Nat) (b : D → DE → R DE) : Prop := ∀ (d : D) (r ts e' : DE), ts.length = nt → b d (ts ++ r) = .ok e' → ∃ ts', e' = ts' ++ r ∧ ts'.length = nt
def KpL (nt : Nat) (b : List D → DE → R DE) : Prop := ∀ (d : List D) (r ts e' : DE), ts.length = nt → b d (ts ++ r) = .ok e' → ∃ ts', e' = ts' ++ r ∧ ts'.length = nt
theorem kpN {nt : Nat} (i : Nat) (hi : i < nt := by decide) : Kp nt fun d env => .ok (env.set i (.val d)) := fun d r ts e' hl h => by
  cases h
  exact ⟨ts.set i (.val d), by rw [List.set_append_left _ _ (by omega)], by simp [hl]⟩
theorem kpNil {nt : Nat} : KpL nt fun ds env => match ds with
    | [] => .ok env
    | _ => .bad := fun d r ts e' hl h => by
  cases d with
  | nil => cases h; exact ⟨ts, rfl, hl⟩
  | cons _ _ => cases h
theorem kpCons {nt : Nat} {b : D → DE → R DE} {k : List D → DE → R DE} (hb : Kp nt b) (hk : KpL nt k) : KpL nt fun ds env => match ds with
      | d :: r => (b d env).bind fun e' => k r e'
      | _ => .bad := fun d r ts e' hl h => by
  cases d with
  | nil => cases h
  | cons x xs =>
    obtain ⟨e1, h1, h2⟩ := R.bind_ok (show (b x (ts ++ r)).bind (fun e' => k xs e') = .ok e' from h)
    obtain ⟨t1, rfl, l1⟩ := hb x r ts e1 hl h1
    exact hk xs r t1 e' l1 h2
theorem kpT {nt n : Nat} {b : List D → DE → R DE} (hb : KpL nt b) : Kp nt fun d env => match d with
      | .tup ds => if ds.length = n then b ds env else .bad
      | _ => .bad := fun d r ts e' hl h => by
  cases d with
  | tup ds =>
    have h' : (if ds.length = n then b ds (ts ++ r) else .bad) = .ok e' := h
    split at h'
    · exact hb ds r ts e' hl h'
    · cases h'
  | non => cases h
  | bl _ => cases h
  | int _ => cases h
  | str _ => cases h
  | lst _ => cases h
  | exc _ => cases h
  | fn _ => cases h
theorem Kp.ok {nt : Nat} {b : D → DE → R DE} (h : Kp nt b) : ∀ ds d e, b d (cpE nt ds) = .ok e → ∃ ts, e = ts ++ ds.map Sl.val ∧ ts.length = nt := fun ds d e q => h d _ _ e (by simp) q
structure Df (K : PySem.W.Frag) (mg : Str → Option Value) (x : Str) (st : Stmt) (ps : List Str) (f : Addr) (fd : FuncData) : Prop where
  F : Fun K x x st f fd
  b : Binds K fd ps []
  m : mg x = some (.ref f)
  ns : PySem.W.nsIn K mainGlobals x = some (some (.ref f))
abbrev xc0 : Str → Value := fun _ => .none
section
variable {X : Cx} {E : Str → Hp → Prop} {pos : Pos} {k : Nat} {fa : Addr} {fd : FuncData} {st : Stmt} {ps : List Str} {x : Str} {p : Pos} {e : Expr} {es : List Expr} {f : DE → R (List D)}
theorem fD1 {m : List D → R D} (d : Df X.K X.mg x st ps fa fd) (F : FnOk X.prog X.w X.K X.mg X.base CX0 k fa fd ps (spD X.K xc0 m)) (hr : Room k X.A)
    (ha : PA X (e :: es) (tAr X.K E f)) (hg : Gl X x := by rfl) (hdb : (x == ("__debug__" : Str)) = false := by decide) (he : starEach (e :: es) X.env = (false, eval e X.env) :: starEach es X.env := by rfl) (hpl : (backTo pos (starEach es X.env)).any (·.1) = false := by rfl) :
    PE X (.Call (.Name x p) (e :: es) [] pos) (tD X.K E fun env => (f env).bind m) := fD F d.m d.F.kp d.b hr passN ha hg hdb he hpl
def ScD (m : List D → R D) : Prop := ∀ ds d, m ds = .ok d → ∃ z, toV d = some z
def ScL (m : List D → R (List D)) : Prop := ∀ ds xs, m ds = .ok xs → ∀ d ∈ xs, ∃ z, toV d = some z
theorem fB1 {m : List D → R D} (hsc : ScD m) (d : Df X.K X.mg x st ps fa fd) (F : FnOk X.prog X.w X.K X.mg X.base CX0 k fa fd ps (spD X.K xc0 m)) (hr : Room k X.A)
    (ha : PA X (e :: es) (tArB X.K E f)) (hg : Gl X x := by rfl) (hdb : (x == ("__debug__" : Str)) = false := by decide) (he : starEach (e :: es) X.env = (false, eval e X.env) :: starEach es X.env := by rfl) (hpl : (backTo pos (starEach es X.env)).any (·.1) = false := by rfl) :
    PE X (.Call (.Name x p) (e :: es) [] pos) (tD X.K E fun env => (f env).bind m) := fB F hsc d.m d.F.kp d.b hr passN ha hg hdb he hpl
theorem fF1 {m : List D → R (List D)} (d : Df X.K X.mg x st ps fa fd) (F : FnOk X.prog X.w X.K X.mg X.base CX0 k fa fd ps (spF X.K xc0 m)) (hr : Room k X.A)
    (ha : PA X (e :: es) (tAr X.K E f)) (hg : Gl X x := by rfl) (hdb : (x == ("__debug__" : Str)) = false := by decide) (he : starEach (e :: es) X.env = (false, eval e X.env) :: starEach es X.env := by rfl) (hpl : (backTo pos (starEach es X.env)).any (·.1) = false := by rfl) :
    PE X (.Call (.Name x p) (e :: es) [] pos) (tF X.K E fun env => (f env).bind m) := fF F d.m d.F.kp d.b hr passN ha hg hdb he hpl
end
abbrev Ok (P : Program) (w : World) (K : PySem.W.Frag) (mg : Str → Option Value) (base : Heap) (k : Nat) (f : Addr) (fd : FuncData) (ps : List Str) (m : List D → R D) : Prop := FnOk P w K mg base CX0 k f fd ps (spD K xc0 m)
abbrev OkF (P : Program) (w : World) (K : PySem.W.Frag) (mg : Str → Option Value) (base : Heap) (k : Nat) (f : Addr) (fd : FuncData) (ps : List Str) (m : List D → R (List D)) : Prop := FnOk P w K mg base CX0 k f fd ps (spF K xc0 m)
section
variable {P : Program} {w : World} {K : PySem.W.Frag} {mg : Str → Option Value} {base : Heap}
theorem mkD {x : Str} {st : Stmt} {f : Addr} {fd : FuncData} {N ps : List Str} {k : Nat} {m : List D → R D} {b : DE → R Out} (S : FnScope N ps (defScope st)) (d : Df K mg x st ps f fd)
    (hb : ∀ (cdv : Value) (A : Around) (outer : List Env) (s : Shared) (H : Hp) (E : XK), Room k (A.deeper (envOfC x (defScope st) s.heap.objs.size f cdv)) → PSs (cxOf CX0 P w K mg base N x (defScope st) f cdv A outer s H E).nox (defBody st) (tS K EN b))
    (hm : ∀ ds d, m ds = .ok d → ds.length = ps.length ∧ (b (initE N.length ds)).bind valO = .ok d) (hne : ∀ ds c, m ds ≠ .err c) :
    Ok P w K mg base (k + 1) f fd ps m := defD d.F S hm hne hb
theorem mkF {x : Str} {st : Stmt} {f : Addr} {fd : FuncData} {N ps : List Str} {k : Nat} {m : List D → R (List D)} {b : DE → R Out} (S : FnScope N ps (defScope st)) (d : Df K mg x st ps f fd)
    (hb : ∀ (cdv : Value) (A : Around) (outer : List Env) (s : Shared) (H : Hp) (E : XK), Room k (A.deeper (envOfC x (defScope st) s.heap.objs.size f cdv)) → PSs (cxOf CX0 P w K mg base N x (defScope st) f cdv A outer s H E).nox (defBody st) (tS K EN b))
    (hm : ∀ ds d, m ds = .ok d → ds.length = ps.length ∧ (b (initE N.length ds)).bind lstO = .ok d) (hne : ∀ ds c, m ds ≠ .err c) :
    OkF P w K mg base (k + 1) f fd ps m := defF d.F S hm hne hb
theorem Ok.mono {f : Addr} {fd : FuncData} {ps : List Str} {j k : Nat} {sp : Sp} (h : FnOk P w K mg base CX0 j f fd ps sp) (hl : j ≤ k) : FnOk P w K mg base CX0 k f fd ps sp := by
  obtain ⟨h1, h2⟩ := h
  exact ⟨h1, fun A outer s H args us vs Q E hr => h2 A outer s H args us vs Q E (hr.mono hl)⟩
end
section
variable {X : Cx} {E : Str → Hp → Prop} {pos : Pos}
noncomputable def repL (xs : List D) : D → R (List D)
  | .int k => @ite _ (-(2 ^ 63) ≤ k ∧ k < 2 ^ 63 ∧ xs.length * k.toNat ≤ sizeLine) (Classical.propDecidable _) (.ok (List.replicate k.toNat xs).flatten) .bad
  | _ => .bad
theorem IsL.rep {K : PySem.W.Frag} {P : Addr → Prop} {H : Hp} {ds : List D} {vs : List V} (h : IsL K P H ds vs) : ∀ n : Nat, IsL K P H (List.replicate n ds).flatten (List.replicate n vs).flatten
  | 0 => rfl
  | n + 1 => by
    rw [List.replicate_succ, List.replicate_succ, List.flatten_cons, List.flatten_cons]
    exact h.app (IsL.rep h n)
theorem lRep {a b : Expr} {fa : DE → R (List D)} {fb : DE → R D} (ha : PE X a (tF X.K E fa)) (hb : PE X b (tB X.K E fb)) : PE X (.BinOp a .Mult b pos) (tF X.K E fun env => (fa env).bind fun x => (fb env).bind fun y => repL x y) :=
  imp (pe_op op_rep ha hb) fun σ H Q ⟨g, env, os, r, m⟩ => ⟨g, env, os, r, m.bind.mono fun x _ m1 a1 v1 H1 s1 hn hH i1 => ⟨g, env, os, r.same s1, m1.bind.mono fun y _ m2 w H2 s2 i2 => by
    unfold repL at m2
    split at m2
    · rename_i k _
      split at m2
      · rename_i c
        have i1' : IsL X.K (g.P os) H1 x v1 := IsL.ext ⟨fun b o p _ => ⟨p.1, fun z => p.2 (List.mem_cons_of_mem _ z)⟩, fun _ _ _ q => q⟩ _ _ i1
        refine ⟨a1, k, v1, rfl, i2, s2 _ _ hH, c.1, c.2.1, by rw [i1'.length]; exact c.2.2, fun p hp => ?_⟩
        obtain ⟨b1, b2, b3, b4⟩ := newL r (s1.trans s2) hp ((i1'.same s2).rep k.toNat)
        exact m2 p _ _ b1 b2 b3 b4
      · exact m2.elim
    · exact m2.elim⟩⟩
theorem bt_range : bootBuiltins "range" = some (.type "range") := by decide +kernel
noncomputable def rngList : List D → R (List D)
  | [.int j] => @ite _ (0 ≤ j ∧ j ≤ 1000000) (Classical.propDecidable _) (.ok (rngL 0 j.toNat)) .bad
  | _ => .bad
theorem rngL_is {K : PySem.W.Frag} {P : Addr → Prop} {H : Hp} {n : Nat} : IsL K P H (rngL 0 n) ((List.range n).map fun i => V.int (0 + (i : Nat))) := by
  unfold rngL
  induction (List.range n) with
  | nil => rfl
  | cons x r ih => exact ⟨_, _, rfl, rfl, ih⟩
theorem vals_of_items {acc : List Value} {n : Nat} (h1 : acc.length = n) (h2 : ∀ (j : Nat) (v : Value), acc[j]? = some v → ∃ t, v = .int (0 + (j : Nat)) t) : Vals ((List.range n).map fun i => V.int (0 + (i : Nat))) acc := by
  have gen : ∀ (l : List Value) (k : Nat), (∀ (j : Nat) (v : Value), l[j]? = some v → ∃ t, v = .int (0 + ((k + j : Nat) : Int)) t) → Vals ((List.range' k l.length).map fun i => V.int (0 + (i : Nat))) l := by
    intro l
    induction l with
    | nil => intro k _; exact .nil
    | cons x r ih =>
      intro k hk
      rw [List.length_cons, List.range'_succ, List.map_cons]
      refine .cons ?_ (ih (k + 1) fun j v e => ?_)
      · obtain ⟨t, e⟩ := hk 0 x (by simp)
        exact ⟨t, e⟩
      · obtain ⟨t, e⟩ := hk (j + 1) v (by simpa using e)
        exact ⟨t, by rw [e]; congr 2; omega⟩
  subst h1
  rw [List.range_eq_range']
  exact gen acc 0 fun j v e => by
    obtain ⟨t, q⟩ := h2 j v e
    exact ⟨t, by rw [q]; congr 2; omega⟩
theorem lListR {a : Expr} {p p2 pos2 : Pos} {f : DE → R (List D)} (hc : X.calm = true) (hml : X.mg "list" = none) (hmr : X.mg "range" = none) (ha : PA X [a] (tArB X.K E f)) (hgl : Gl X "list" := by rfl) (hgr : Gl X "range" := by rfl)
    (hs : starEach [a] X.env = [(false, eval a X.env)] := by rfl) (he : starEach [.Call (.Name "range" p2) [a] [] pos2] X.env = (false, eval (.Call (.Name "range" p2) [a] [] pos2) X.env) :: starEach [] X.env := by rfl) (hpl : (backTo pos (starEach [] X.env)).any (·.1) = false := by rfl) :
    PE X (.Call (.Name "list" p) [.Call (.Name "range" p2) [a] [] pos2] [] pos) (tF X.K E fun env => (f env).bind rngList) := by
  intro pins s σ H Q I h
  obtain ⟨g, env, os, r, m⟩ := h
  refine wpAny_Call_Name_kw (ld_blt I hgl hml bt_list ?_)
  refine PyProof.Rows.callWith_type1 ?_ he hpl
  rw [he]
  refine Calls.spliced_cons ?_
  refine Call_ (ld_blt I hgr hmr bt_range (PyProof.Rows.callWith_type1 (thn (ha pos2 pins s σ H _ I ⟨g, env, os, r, m.bind.mono fun ds _ q vs H1 s1 i1 => (⟨ds, s1, i1, q⟩ : ∃ ds, Same H H1 ∧ IsL X.K Tr H1 ds vs ∧ Good E g.H₀ (rngList ds) _)⟩) fun us s1 ⟨vs, H1, I1, r1, ds, sm, i1, q⟩ => ?_) hs rfl))
  unfold rngList at q
  split at q
  · rename_i j
    split at q
    · rename_i c
      obtain ⟨v, rfl, iv⟩ := IsL.one' i1
      have iv' : v = .int j := iv
      subst iv'
      obtain ⟨u, rfl, t, rfl⟩ := vals1 r1
      refine call_range_1 ?_
      have I2 : Inv X pins σ H1 { s1 with heap := s1.heap.push { cls := .type "range", data := .fields #[.int 0 s1.toks, .int j t, .int 1 (s1.toks + 1)] }, toks := s1.toks + 1 + 1 } := I1.kept fun b o e => Heap.get?_push_of_some _ e
      refine Calls.spliced_nil ?_
      have hd : X.A.handled = none := I.ok.hd hc
      have hsz : Builtin.Range.rangeSize 0 j 1 = (j.toNat : Nat) := by rw [rangeSize_one]; split <;> omega
      refine call_list_range hd (IsRange.new ..) (small_one (by omega) (by omega) (by omega) (by omega)) hsz (by omega) fun h' tk acc' c' hk hl hit => ?_
      obtain ⟨hi1, hi2⟩ := hit
      have hv : Vals ((List.range j.toNat).map fun i => V.int (0 + (i : Nat))) acc'.toList := vals_of_items (by simpa using hi1) fun i v e => by
        obtain ⟨t, q⟩ := hi2 i v (by simpa using e)
        exact ⟨t, by rw [q]; congr 1; omega⟩
      have hlen : ((List.range j.toNat).map fun i => V.int (0 + (i : Nat))).length ≤ sizeLine := by
        rw [List.length_map, List.length_range]
        exact Nat.le_trans (show j.toNat ≤ 1000000 by omega) (by decide)
      refine ⟨.ref _, upd H1 _ (.lst ((List.range j.toNat).map fun i => V.int (0 + (i : Nat)))), I2.laid (a := _) hk (Nat.le_refl _) ⟨hlen, acc'.toList, c', hv, by simpa using hl⟩, rfl, ?_⟩
      have hn : H1 (s1.heap.push { cls := .type "range", data := .fields #[.int 0 s1.toks, .int j t, .int 1 (s1.toks + 1)] }).objs.size = none := I2.hok.fresh (Nat.le_refl _)
      exact q _ _ _ (sm.trans (same_new hn _)) (sm.free hn) upd_same rngL_is
    · exact q.elim
  · exact q.elim
end
end DL

namespace DL
open PySem PySem.Spec PyProof.Rows L2
def kAddI : D → D → Option D
  | .int i, .int j => some (.int (i + j))
  | _, _ => none
theorem ker_addI {X : Cx} : Ker2 X (rI0 fun i j => .int (i + j)) kAddI := ker_int0 (h := fun i j => .int (i + j)) (fun _ _ => rfl) fun x y d e => by
  unfold kAddI at e
  split at e <;> cases e
  exact ⟨_, _, rfl, rfl, rfl⟩
def cpChk (osc sc : Scope) (XN N : List Str) (nt : Nat) (caps : List Nat) : Bool :=
  sc.kind == .function && sc.names.all (fun y => y.2 != .cell && (y.2 != .local || sc.names.lookup y.1 == some .local) && (y.2 != .free || osc.names.lookup y.1 == some .cell || osc.names.lookup y.1 == some .free)) &&
  N.length == nt + caps.length && decide N.Nodup && (List.range caps.length).all fun j => match caps[j]?, N[nt + j]? with
    | some i, some x => XN[i]? == some x && sc.names.lookup x == some .free && (osc.names.lookup x == some .local || osc.names.lookup x == some .cell || osc.names.lookup x == some .free)
    | _, _ => false
theorem cpS {X : Cx} {sc : Scope} {N : List Str} {nt : Nat} {caps : List Nat} (osc : Scope) (XN : List Str) (h : cpChk osc sc XN N nt caps = true) (hsc : X.env.scope = osc := by rfl) (hN : X.N = XN := by rfl) : CpScope X sc N nt caps := by
  subst hsc hN
  unfold cpChk at h
  simp only [Bool.and_eq_true, List.all_eq_true, Bool.or_eq_true, decide_eq_true_eq, beq_iff_eq, bne_iff_ne, ne_eq] at h
  obtain ⟨⟨⟨⟨h1, h2⟩, h3⟩, h4⟩, h5⟩ := h
  refine ⟨by simpa using h1, fun y hy => (h2 y hy).1.1, fun y hy e => ?_, fun y hy e => ?_, h3, h4, fun j i e => ?_⟩
  · rcases (h2 y hy).1.2 with q | q
    · exact absurd e q
    · exact q
  · rcases (h2 y hy).2 with (q | q) | q
    · exact absurd e q
    · exact .inl q
    · exact .inr q
  · have hj : j < caps.length := (List.getElem?_eq_some_iff.mp e).1
    have q := h5 j (by simpa using hj)
    rw [e] at q
    cases hx : N[nt + j]? with
    | none => rw [hx] at q; exact absurd q (by simp)
    | some x =>
      rw [hx] at q
      simp only [Bool.and_eq_true, Bool.or_eq_true, beq_iff_eq] at q
      obtain ⟨⟨q1, q2⟩, q3⟩ := q
      refine ⟨x, rfl, q1, q2, ?_⟩
      rcases q3 with (q3 | q3) | q3
      · exact .inl q3
      · exact .inr (.inl q3)
      · exact .inr (.inr q3)
def frzO (i : Nat) : Out → R Out
  | .nx e => .ok (.nx (frz i e))
  | o => .ok o
theorem kAddI_i (i j : Int) : kAddI (.int i) (.int j) = some (.int (i + j)) := rfl
theorem kSub_i (i j : Int) : kSub (.int i) (.int j) = some (.int (i - j)) := rfl
theorem kNeg_i (i : Int) : kNeg (.int i) = some (.int (-i)) := rfl
theorem kLt_i (i j : Int) : kLt (.int i) (.int j) = some (.bl (decide (i < j))) := rfl
theorem kLe_i (i j : Int) : kLe (.int i) (.int j) = some (.bl (decide (i ≤ j))) := rfl
theorem kGt_i (i j : Int) : kGt (.int i) (.int j) = some (.bl (decide (j < i))) := rfl
theorem kGe_i (i j : Int) : kGe (.int i) (.int j) = some (.bl (decide (j ≤ i))) := rfl
theorem kEq_i (i j : Int) : kEq (.int i) (.int j) = some (.bl (i == j)) := rfl
theorem kNe_i (i j : Int) : kNe (.int i) (.int j) = some (.bl (!(i == j))) := rfl
theorem kEq_s (i j : Str) : kEq (.str i) (.str j) = some (.bl (i == j)) := rfl
theorem kNe_s (i j : Str) : kNe (.str i) (.str j) = some (.bl (!(i == j))) := rfl
theorem kMul_i (i j : Int) (h : (-(2 ^ 64) < i ∧ i < 2 ^ 64) ∨ (-(2 ^ 64) < j ∧ j < 2 ^ 64)) : kMul (.int i) (.int j) = some (.int (i * j)) := if_pos h
theorem kDiv_i (i j : Int) (h : 0 < j ∧ j < 1073741824) : kDiv (.int i) (.int j) = some (.int (i / j)) := if_pos h
theorem kMod_i (i j : Int) (h : 0 < j) : kMod (.int i) (.int j) = some (.int (i % j)) := if_pos h
theorem kPow_i (i j : Int) (h : 0 ≤ j ∧ j ≤ 1000000 ∧ i.natAbs < 2 ^ 64) : kPow (.int i) (.int j) = some (.int (i ^ j.toNat)) := if_pos h
theorem ten9 : (10 : Int) ^ (9 : Nat) = 1000000000 := by
  rw [show (10 : Int) = ((10 : Nat) : Int) from rfl, ← Int.natCast_pow]
  rfl
theorem ten9' : (10 : Int) ^ (9 : Int).toNat = 1000000000 := ten9
theorem kPow_109 : kPow (.int 10) (.int 9) = some (.int 1000000000) := (kPow_i 10 9 (by decide)).trans (by rw [ten9'])
theorem kAbs_i (i : Int) : kAbs [.int i] = some (.int (if i < 0 then -i else i)) := rfl
theorem kMax2_i (i j : Int) : kMax2 [.int i, .int j] = some (.int (if j > i then j else i)) := rfl
theorem kLen_l (xs : List D) : kLen [.lst xs] = some (.int xs.length) := rfl
theorem kLen_t (xs : List D) : kLen [.tup xs] = some (.int xs.length) := rfl
theorem asB_b (b : Bool) : asB (.bl b) = .ok b := rfl
theorem asL_l (xs : List D) : asL (.lst xs) = .ok xs := rfl
theorem asI_i (i : Int) : asI (.int i) = .ok (some i) := rfl
theorem ixL_i (xs : List D) (i : Int) : ixL xs (.int i) = R.of (atI xs i) := rfl
theorem ixD_l (xs : List D) (i : Int) : ixD (.lst xs) (.int i) = R.of (atI xs i) := rfl
theorem ixD_t (xs : List D) (i : Int) : ixD (.tup xs) (.int i) = R.of (atI xs i) := rfl
theorem fit_ok {α : Type} {xs : List α} (h : xs.length ≤ sizeLine) : fit xs = .ok xs := if_pos h
theorem big {n : Nat} (h : n ≤ 1000000) : n ≤ sizeLine := Nat.le_trans h (by decide)
theorem fit0 {α : Type} : fit ([] : List α) = .ok [] := fit_ok (big (by simp))
theorem fit1 {α : Type} (a : α) : fit [a] = .ok [a] := fit_ok (big (by simp))
theorem fit2 {α : Type} (a b : α) : fit [a, b] = .ok [a, b] := fit_ok (big (by simp))
theorem fit3 {α : Type} (a b c : α) : fit [a, b, c] = .ok [a, b, c] := fit_ok (big (by simp))
theorem fit4 {α : Type} (a b c d : α) : fit [a, b, c, d] = .ok [a, b, c, d] := fit_ok (big (by simp))
theorem rng1_i (j : Int) (h : -(2 ^ 62) ≤ j ∧ j < 2 ^ 62) : rng1 [.int j] = .ok (rngL 0 j.toNat) := if_pos h
theorem rngList_i (j : Int) (h : 0 ≤ j ∧ j ≤ 1000000) : rngList [.int j] = .ok (rngL 0 j.toNat) := if_pos h
theorem repL_i (xs : List D) (k : Int) (h : -(2 ^ 63) ≤ k ∧ k < 2 ^ 63 ∧ xs.length * k.toNat ≤ sizeLine) : repL xs (.int k) = .ok (List.replicate k.toNat xs).flatten := if_pos h
theorem zip2_l (xs ys : List D) : zip2 [.lst xs, .lst ys] = .ok (zipL xs ys) := rfl
theorem kAll_b (bs : List Bool) : kAll (bs.map .bl) = some (.bl (bs.all id)) := by
  unfold kAll
  have : bools (bs.map D.bl) = some bs := by
    induction bs with
    | nil => rfl
    | cons b r ih => rw [List.map_cons]; unfold bools; rw [ih]; rfl
  rw [this]; rfl
theorem seqO_nx (e : DE) (k : DE → R Out) : seqO (.ok (.nx e)) k = k e := rfl
theorem seqO_rt (d : D) (k : DE → R Out) : seqO (.ok (.rt d)) k = .ok (.rt d) := rfl
theorem seqO_rtT (d : List (List Int)) (k : DE → R Out) : seqO (.ok (.rtT d)) k = .ok (.rtT d) := rfl
theorem seqO_rtF (d : List D) (k : DE → R Out) : seqO (.ok (.rtF d)) k = .ok (.rtF d) := rfl
theorem frzO_nx (i : Nat) (e : DE) : frzO i (.nx e) = .ok (.nx (frz i e)) := rfl
theorem for_at {S : Type} {b : D → DE → R Out} (J : Nat → S → Prop) (Ev : S → DE) : ∀ (xs : List D) (i : Nat) (s : S), J i s → (∀ (j : Nat) (s : S) (x : D), J (i + j) s → xs[j]? = some x → ∃ s', b x (Ev s) = .ok (.nx (Ev s')) ∧ J (i + j + 1) s') → ∃ s', forD b xs (Ev s) = .ok (.nx (Ev s')) ∧ J (i + xs.length) s'
  | [], i, s, hI, h => ⟨s, rfl, hI⟩
  | x :: xs, i, s, hI, h => by
    obtain ⟨s1, h1, h2⟩ := h 0 s x hI rfl
    obtain ⟨s2, h3, h4⟩ := for_at J Ev xs (i + 1) s1 (by simpa using h2) fun j s y hs hy => by
      have e : i + 1 + j = i + (j + 1) := by omega
      rw [e] at hs ⊢
      exact h (j + 1) s y hs (by simpa using hy)
    refine ⟨s2, ?_, by rw [List.length_cons]; have e : i + (xs.length + 1) = i + 1 + xs.length := by omega
                       rw [e]; exact h4⟩
    unfold forD
    rw [h1]
    exact h3
theorem compD_map {b : D → DE → R DE} {ct : DE → R Bool} {fe : DE → R D} {e₀ : DE} (g : D → D) : ∀ (xs : List D), (∀ x ∈ xs, ∃ e, b x e₀ = .ok e ∧ ct e = .ok true ∧ fe e = .ok (g x)) → compD b ct fe e₀ xs = .ok (xs.map g)
  | [], _ => rfl
  | x :: xs, h => by
    obtain ⟨e, h1, h2, h3⟩ := h x (by simp)
    have ih := compD_map g xs fun y hy => h y (by simp [hy])
    unfold compD
    rw [h1, R.ok_bind, h2, R.ok_bind, if_pos rfl, h3, R.ok_bind, ih]
    rfl
def ofI (ns : List Int) : List D := ns.map .int
theorem ofI_len (ns : List Int) : (ofI ns).length = ns.length := List.length_map _
def toI : List D → Option (List Int)
  | [] => some []
  | .int i :: r => (toI r).map (i :: ·)
  | _ :: _ => none
theorem toI_of (ns : List Int) : toI (ofI ns) = some ns := by
  induction ns with
  | nil => rfl
  | cons x r ih => show (toI (ofI r)).map (x :: ·) = _; rw [ih]; rfl
theorem of_toI : ∀ {xs : List D} {ns : List Int}, toI xs = some ns → xs = ofI ns
  | [], ns, h => by cases h; rfl
  | .int i :: r, ns, h => by
    unfold toI at h
    cases e : toI r with
    | none => rw [e] at h; cases h
    | some ms => rw [e] at h; cases h; rw [of_toI e]; rfl
  | .non :: r, _, h => by cases h
  | .bl _ :: r, _, h => by cases h
  | .str _ :: r, _, h => by cases h
  | .lst _ :: r, _, h => by cases h
  | .tup _ :: r, _, h => by cases h
theorem zipB_ints (n : Nat) : ∀ (a b : List Int), a.length = b.length → zipB (eqF n) (ofI a) (ofI b) = some (decide (a = b))
  | [], [], _ => rfl
  | [], _ :: _, h => by simp at h
  | _ :: _, [], h => by simp at h
  | x :: a, y :: b, h => by
    have ih := zipB_ints n a b (by simpa using h)
    show (eqF n (.int x) (.int y)).bind _ = _
    have e : eqF n (.int x) (.int y) = some (x == y) := by cases n <;> rfl
    rw [e]
    show (zipB (eqF n) (ofI a) (ofI b)).map ((x == y) && ·) = _
    rw [ih]
    show some ((x == y) && decide (a = b)) = some (decide (x :: a = y :: b))
    congr 1
    rw [Bool.eq_iff_iff]
    simp
theorem eqF_ints (n : Nat) (a b : List Int) : eqF (n + 1) (.lst (ofI a)) (.lst (ofI b)) = some (decide (a = b)) := by
  show (if (ofI a).length = (ofI b).length then zipB (eqF n) (ofI a) (ofI b) else some false) = _
  split
  · rename_i h
    exact zipB_ints n a b (by simpa [ofI_len] using h)
  · rename_i h
    congr 1
    symm
    rw [decide_eq_false_iff_not]
    rintro rfl
    exact h rfl
theorem kEq_l (a b : List Int) : kEq (.lst (ofI a)) (.lst (ofI b)) = some (.bl (decide (a = b))) := by unfold kEq; rw [eqF_ints]; rfl
theorem atI_ofI (ns : List Int) (i : Int) : atI (ofI ns) i = (atI ns i).map .int := by
  unfold L2.atI
  rw [ofI_len]
  cases ixN ns.length i with
  | none => rfl
  | some j => exact List.getElem?_map
theorem cut_ofI (ns : List Int) (lo hi : Option Int) : cut (ofI ns) lo hi = ofI (cut ns lo hi) := by
  unfold cut
  rw [ofI_len]
  simp only [ofI, List.map_take, List.map_drop]
theorem rngL_eq (lo : Int) (n : Nat) : rngL lo n = ofI ((List.range n).map fun i => lo + (i : Nat)) := by
  unfold rngL ofI
  rw [List.map_map]; rfl
end DL

namespace DL
open PySem PySem.Spec PyProof.Rows L2
def bN (i : Nat) (d : D) (env : DE) : R DE := .ok (env.set i (.val d))
def bNil : List D → DE → R DE
  | [], env => .ok env
  | _ :: _, _ => .bad
def bCons (b : D → DE → R DE) (k : List D → DE → R DE) : List D → DE → R DE
  | d :: r, env => (b d env).bind fun e' => k r e'
  | [], _ => .bad
def bT (n : Nat) (b : List D → DE → R DE) : D → DE → R DE
  | .tup ds, env => if ds.length = n then b ds env else .bad
  | _, _ => .bad
noncomputable def appO (i : Nat) (env : DE) (xs : List D) (d : D) : R Out := @ite _ (xs.length < sizeLine) (Classical.propDecidable _) (.ok (.nx (env.set i (.own (xs ++ [d]))))) (.bad)
def setO (i : Nat) (env : DE) (d : D) (xs : List D) : D → R Out
  | .int j => (match ixN xs.length j with
    | some n => .ok (.nx (env.set i (.own (xs.set n d))))
    | none => .bad)
  | _ => .bad
def augO (h : Int → Int → Int) (i : Nat) (env : DE) : D → D → R Out
  | .int u, .int w => .ok (.nx (env.set i (.val (.int (h u w)))))
  | _, _ => .bad
section
variable {X : Cx} {E : Str → Hp → Prop} {pos : Pos}
theorem gN2 (i : Nat) {x : Str} (hN : X.N.Nodup) (hi : X.N[i]? = some x := by rfl) (hx : Loc X.env.scope x := by first | exact Or.inl rfl | exact Or.inr rfl) (hf : X.fn x = true ∨ X.env.scope.names.lookup x = some .local := by first | exact .inl rfl | exact .inr rfl | assumption) :
    PG X (.Name x pos) (tG X.K E (bN i)) := gN i hN hi hx hf
theorem gsNil2 : PGs X [] (tGs X.K E bNil) := by
  have e : bNil = fun ds env => match ds with
    | [] => .ok env
    | _ => .bad := by funext ds env; cases ds <;> rfl
  rw [e]; exact gsNil
theorem gsCons2 {e : Expr} {es : List Expr} {b : D → DE → R DE} {k : List D → DE → R DE} (h1 : PG X e (tG X.K E b)) (h2 : PGs X es (tGs X.K E k)) (hs : (assignEach (e :: es) X.env).map (·.2) = assign e X.env :: (assignEach es X.env).map (·.2) := by rfl) :
    PGs X (e :: es) (tGs X.K E (bCons b k)) := by
  have e' : bCons b k = fun ds env => match ds with
      | d :: r => (b d env).bind fun e' => k r e'
      | _ => .bad := by funext ds env; cases ds <;> rfl
  rw [e']; exact gsCons h1 h2 hs
theorem gT2 {es : List Expr} {kk : Nat} {b : List D → DE → R DE} (n : Nat) (hc : X.calm = true) (h : PGs X es (tGs X.K E b)) (hn : (assignEach es X.env).length = n := by rfl) (hst : (assignEach es X.env).findIdx? (·.1) = none := by rfl) :
    PG X (.Tuple es kk pos) (tG X.K E (bT n b)) := by
  have e' : bT n b = fun d env => match d with
      | .tup ds => if ds.length = n then b ds env else .bad
      | _ => .bad := by funext d env; cases d <;> rfl
  rw [e']; exact gT hc h hn hst
theorem kpN2 {nt : Nat} (i : Nat) (hi : i < nt := by decide) : Kp nt (bN i) := kpN i hi
theorem kpNil2 {nt : Nat} : KpL nt bNil := by
  have e : bNil = fun ds env => match ds with
    | [] => .ok env
    | _ => .bad := by funext ds env; cases ds <;> rfl
  rw [e]; exact kpNil
theorem kpCons2 {nt : Nat} {b : D → DE → R DE} {k : List D → DE → R DE} (hb : Kp nt b) (hk : KpL nt k) : KpL nt (bCons b k) := by
  have e' : bCons b k = fun ds env => match ds with
      | d :: r => (b d env).bind fun e' => k r e'
      | _ => .bad := by funext ds env; cases ds <;> rfl
  rw [e']; exact kpCons hb hk
theorem kpT2 {nt : Nat} {b : List D → DE → R DE} (n : Nat) (hb : KpL nt b) : Kp nt (bT n b) := by
  have e' : bT n b = fun d env => match d with
      | .tup ds => if ds.length = n then b ds env else .bad
      | _ => .bad := by funext d env; cases d <;> rfl
  rw [e']; exact kpT hb
theorem sApp2 (i : Nat) {x : Str} {e : Expr} {f : DE → R D} {p apos cpos : Pos} (he : PE X e (tD X.K E f)) (hN : X.N[i]? = some x := by rfl) (hv : Vis X.env.scope x := by first | exact Or.inl rfl | exact Or.inr (Or.inl rfl) | exact Or.inr (Or.inr rfl)) (hd : (x == ("__debug__" : Str)) = false := by decide)
    (hcd : (x == ("__classdict__" : Str)) = false := by decide)
    (hbase : attributeBase (.Name x p) "append" X.env (eval (.Name x p) X.env) = eval (.Name x p) X.env := by rfl)
    (hfew : ((backTo cpos (starEach [e] X.env)).all (fun x => !x.1) && (backToKw cpos (keywordEach [] X.env)).all (fun x => x.1.isSome)
      && decide ([e].length + ([] : List Keyword).length + (if ([] : List Keyword).isEmpty then 0 else 1) < 30)) = true := by rfl)
    (hline : (apos.endLine == cpos.line) = true := by rfl) (hst : starEach [e] X.env = (false, eval e X.env) :: starEach [] X.env := by rfl) (hplain : (backTo cpos (starEach [] X.env)).any (·.1) = false := by rfl)
    (hs : swapsWith (.Call (.Attribute (.Name x p) "append" apos) [e] [] cpos) none pos.line X.env = pure false := by rfl) :
    PS X (.Expr (.Call (.Attribute (.Name x p) "append" apos) [e] [] cpos) pos) (tS X.K E fun env => (ownAt i env).bind fun xs => (f env).bind fun d => appO i env xs d) := sApp i he hN hv hd hcd hbase hfew hline hst hplain hs
theorem sSetIx2 (i : Nat) {x : Str} {ek e : Expr} {fk f : DE → R D} {p tp : Pos} (hk : PE X ek (tB X.K E fk)) (he : PE X e (tD X.K E f)) (hN : X.N[i]? = some x := by rfl) (hv : Vis X.env.scope x := by first | exact Or.inl rfl | exact Or.inr (Or.inl rfl) | exact Or.inr (Or.inr rfl)) (hd : (x == ("__debug__" : Str)) = false := by decide)
    (hcd : (x == ("__classdict__" : Str)) = false := by decide)
    (ha : ∀ v, assign (.Subscript (.Name x p) ek tp) X.env v = (do
      let ov ← holding [v] (eval (.Name x p) X.env)
      let iv ← holding [v, ov] (eval ek X.env)
      standAt tp
      holding [v, ov, iv] (setItem ov iv v)
      release [v, ov, iv] []) := by intro _; rfl)
    (hs : swapsWithSole [.Subscript (.Name x p) ek tp] e pos.line X.env = pure false := by rfl) (hw : swappedStores [.Subscript (.Name x p) ek tp] e X.env = pure none := by rfl)
    (h1 : (assignEach [.Subscript (.Name x p) ek tp] X.env).map (·.2) = [assign (.Subscript (.Name x p) ek tp) X.env] := by rfl) :
    PS X (.Assign [.Subscript (.Name x p) ek tp] e pos) (tS X.K E fun env => (f env).bind fun d => (ownAt i env).bind fun xs => (fk env).bind fun kd => setO i env d xs kd) := by
  have h := sSetIx (pos := pos) i hk he hN hv hd hcd ha hs hw h1
  have e' : (fun env : DE => (f env).bind fun d => (ownAt i env).bind fun xs => (fk env).bind fun kd => setO i env d xs kd) = (fun env => (f env).bind fun d => (ownAt i env).bind fun xs => (fk env).bind fun kd => match kd with
      | .int j => (match ixN xs.length j with
        | some n => .ok (.nx (env.set i (.own (xs.set n d))))
        | none => .bad)
      | _ => .bad) := by
    funext env
    refine congrArg (R.bind (f env)) (funext fun d => congrArg (R.bind _) (funext fun xs => congrArg (R.bind _) (funext fun kd => ?_)))
    cases kd <;> rfl
  rw [e']; exact h
theorem sAug2 (i : Nat) {x : Str} {e : Expr} {op : Operator} {h : Int → Int → Int} {f : DE → R D} {pos' : Pos} (ho : PIp X op (ipI h)) (he : PE X e (tB X.K E f)) (hN : X.N.Nodup) (hi : X.N[i]? = some x := by rfl) (hx : Loc X.env.scope x := by first | exact Or.inl rfl | exact Or.inr rfl)
    (hf : X.fn x = true ∨ X.env.scope.names.lookup x = some .local := by first | exact .inl rfl | exact .inr rfl | assumption) :
    PS X (.AugAssign (.Name x pos') op e pos) (tS X.K E fun env => (slV i env).bind fun a => (f env).bind fun b => augO h i env a b) := by
  have h' := sAug (pos := pos) (pos' := pos') i ho he hN hi hx hf
  have e' : (fun env : DE => (slV i env).bind fun a => (f env).bind fun b => augO h i env a b) = (fun env => (slV i env).bind fun a => (f env).bind fun b => match a, b with
      | .int u, .int w => .ok (.nx (env.set i (.val (.int (h u w)))))
      | _, _ => .bad) := by
    funext env
    refine congrArg (R.bind _) (funext fun a => congrArg (R.bind _) (funext fun b => ?_))
    cases a <;> cases b <;> rfl
  rw [e']; exact h'
end
def scO (d : D) : R D := match toV d with
  | some _ => .ok d
  | none => .bad
theorem scO_ok {x d : D} (h : scO x = .ok d) : x = d ∧ ∃ z, toV d = some z := by
  unfold scO at h
  cases e : toV x with
  | none => rw [e] at h; cases h
  | some z => rw [e] at h; cases h; exact ⟨rfl, z, e⟩
def scL : List D → R (List D)
  | [] => .ok []
  | x :: r => (scO x).bind fun y => (scL r).bind fun ys => .ok (y :: ys)
theorem scL_ok : ∀ {xs ys : List D}, scL xs = .ok ys → xs = ys ∧ ∀ d ∈ ys, ∃ z, toV d = some z
  | [], ys, h => by cases h; exact ⟨rfl, fun d hd => nomatch hd⟩
  | x :: r, ys, h => by
    unfold scL at h
    obtain ⟨y, h1, h2⟩ := R.bind_ok h
    obtain ⟨zs, h3, h4⟩ := R.bind_ok h2
    cases h4
    obtain ⟨rfl, hz⟩ := scO_ok h1
    obtain ⟨rfl, hs⟩ := scL_ok h3
    exact ⟨rfl, fun d hd => (List.mem_cons.mp hd).elim (fun e => by rw [e]; exact hz) (hs d)⟩
theorem scO_i (i : Int) : scO (.int i) = .ok (.int i) := rfl
theorem scO_b (i : Bool) : scO (.bl i) = .ok (.bl i) := rfl
theorem scO_s (i : Str) : scO (.str i) = .ok (.str i) := rfl
theorem scO_n : scO .non = .ok .non := rfl
theorem scL_i (ns : List Int) : scL (ofI ns) = .ok (ofI ns) := by
  induction ns with
  | nil => rfl
  | cons x r ih => show (scO (.int x)).bind (fun y => (scL (ofI r)).bind fun ys => .ok (y :: ys)) = _; rw [ih]; rfl
def mD (n N : Nat) (b : DE → R Out) (ds : List D) : R D := if ds.length = n then ((b (initE N ds)).bind valO).ne else .bad
def mS (n N : Nat) (b : DE → R Out) (ds : List D) : R D := if ds.length = n then (((b (initE N ds)).bind valO).bind scO).ne else .bad
def mF (n N : Nat) (b : DE → R Out) (ds : List D) : R (List D) := if ds.length = n then ((b (initE N ds)).bind lstO).ne else .bad
def mFS (n N : Nat) (b : DE → R Out) (ds : List D) : R (List D) := if ds.length = n then (((b (initE N ds)).bind lstO).bind scL).ne else .bad
theorem R.ne_of {α : Type} {r : R α} {a : α} (h : r.ne = .ok a) : r = .ok a := by
  cases r with
  | ok b => exact h
  | err c => cases h
  | bad => cases h
theorem R.ne_ne {α : Type} {r : R α} {c : Str} : r.ne ≠ .err c := by
  cases r <;> intro h <;> cases h
theorem scd {n N : Nat} {b : DE → R Out} : ScD (mS n N b) := fun ds d h => by
  unfold mS at h
  split at h
  · obtain ⟨x, _, h2⟩ := R.bind_ok (R.ne_of h)
    exact (scO_ok h2).2
  · cases h
section
variable {P : Program} {w : World} {K : PySem.W.Frag} {mg : Str → Option Value} {base : Heap}
variable {x : Str} {st : Stmt} {f : Addr} {fd : FuncData} {N ps : List Str} {k : Nat} {b : DE → R Out} 
theorem okD (S : FnScope N ps (defScope st)) (d : Df K mg x st ps f fd)
    (hb : ∀ (cdv : Value) (A : Around) (outer : List Env) (s : Shared) (H : Hp) (E : XK), Room k (A.deeper (envOfC x (defScope st) s.heap.objs.size f cdv)) → PSs (cxOf CX0 P w K mg base N x (defScope st) f cdv A outer s H E).nox (defBody st) (tS K EN b)) :
    Ok P w K mg base (k + 1) f fd ps (mD ps.length N.length b) := mkD S d hb (fun ds e h => by
  unfold mD at h
  split at h
  · rename_i c
    exact ⟨c, R.ne_of h⟩
  · cases h) fun ds c h => by
  unfold mD at h
  split at h
  · exact R.ne_ne h
  · cases h
theorem okS (S : FnScope N ps (defScope st)) (d : Df K mg x st ps f fd)
    (hb : ∀ (cdv : Value) (A : Around) (outer : List Env) (s : Shared) (H : Hp) (E : XK), Room k (A.deeper (envOfC x (defScope st) s.heap.objs.size f cdv)) → PSs (cxOf CX0 P w K mg base N x (defScope st) f cdv A outer s H E).nox (defBody st) (tS K EN b)) :
    Ok P w K mg base (k + 1) f fd ps (mS ps.length N.length b) := mkD S d hb (fun ds e h => by
  unfold mS at h
  split at h
  · rename_i c
    obtain ⟨y, h1, h2⟩ := R.bind_ok (R.ne_of h)
    obtain ⟨rfl, _⟩ := scO_ok h2
    exact ⟨c, h1⟩
  · cases h) fun ds c h => by
  unfold mS at h
  split at h
  · exact R.ne_ne h
  · cases h
theorem okFS (S : FnScope N ps (defScope st)) (d : Df K mg x st ps f fd)
    (hb : ∀ (cdv : Value) (A : Around) (outer : List Env) (s : Shared) (H : Hp) (E : XK), Room k (A.deeper (envOfC x (defScope st) s.heap.objs.size f cdv)) → PSs (cxOf CX0 P w K mg base N x (defScope st) f cdv A outer s H E).nox (defBody st) (tS K EN b)) :
    OkF P w K mg base (k + 1) f fd ps (mFS ps.length N.length b) := mkF S d hb (fun ds e h => by
  unfold mFS at h
  split at h
  · rename_i c
    obtain ⟨y, h1, h2⟩ := R.bind_ok (R.ne_of h)
    obtain ⟨rfl, _⟩ := scL_ok h2
    exact ⟨c, h1⟩
  · cases h) fun ds c h => by
  unfold mFS at h
  split at h
  · exact R.ne_ne h
  · cases h
end
section
variable {d : D} {xs : List D} {r : DE} {a : Sl} {i : Nat}
theorem slV_0 : slV 0 (.val d :: r) = .ok d := rfl
theorem slV_s : slV (i + 1) (a :: r) = slV i r := rfl
theorem slB_0 : slB 0 (.val d :: r) = .ok d := rfl
theorem slB_0o : slB 0 (.own xs :: r) = .ok (.lst xs) := rfl
theorem slB_s : slB (i + 1) (a :: r) = slB i r := rfl
theorem slL_0 : slL 0 (.val (.lst xs) :: r) = .ok xs := rfl
theorem slL_0o : slL 0 (.own xs :: r) = .ok xs := rfl
theorem slL_s : slL (i + 1) (a :: r) = slL i r := rfl
theorem own_0 : ownAt 0 (.own xs :: r) = .ok xs := rfl
theorem own_s : ownAt (i + 1) (a :: r) = ownAt i r := rfl
theorem frz_0 : frz 0 (.own xs :: r) = .val (.lst xs) :: r := rfl
theorem frz_s : frz (i + 1) (a :: r) = a :: frz i r := by
  unfold frz
  rw [List.getElem?_cons_succ]
  cases e : r[i]? with
  | none => rfl
  | some sl => cases sl <;> rfl
end
theorem bT2 (i j : Nat) (a b : D) (env : DE) : bT 2 (bCons (bN i) (bCons (bN j) bNil)) (.tup [a, b]) env = .ok ((env.set i (.val a)).set j (.val b)) := rfl
theorem bN_ok (i : Nat) (a : D) (env : DE) : bN i a env = .ok (env.set i (.val a)) := rfl
theorem fit_ofI {ns : List Int} (h : ns.length ≤ 1000000) : fit (ofI ns) = .ok (ofI ns) := fit_ok (by rw [ofI_len]; exact big h)
theorem ofI_app (a b : List Int) : ofI a ++ ofI b = ofI (a ++ b) := (List.map_append ..).symm
theorem sIx_none (n d : Nat) : HT.sIx n d none = d := rfl
theorem sIx_nat (n d : Nat) (i : Int) (h : 0 ≤ i) : HT.sIx n d (some i) = min i.toNat n := by
  unfold HT.sIx
  dsimp only
  split <;> omega
theorem cut_to {α : Type} (xs : List α) (m : Int) (h : 0 ≤ m) : cut xs none (some m) = xs.take m.toNat := by
  unfold cut
  rw [sIx_none, sIx_nat _ _ _ h, List.drop_zero, Nat.sub_zero]
  rcases Nat.le_total m.toNat xs.length with q | q
  · rw [Nat.min_eq_left q]
  · rw [Nat.min_eq_right q, List.take_length, List.take_of_length_le q]
theorem cut_from {α : Type} (xs : List α) (m : Int) (h : 0 ≤ m) : cut xs (some m) none = xs.drop m.toNat := by
  unfold cut
  rw [sIx_none, sIx_nat _ _ _ h]
  rcases Nat.le_total m.toNat xs.length with q | q
  · rw [Nat.min_eq_left q, List.take_of_length_le (by rw [List.length_drop]; exact Nat.le_refl _)]
  · rw [Nat.min_eq_right q, Nat.sub_self, List.take_zero, List.drop_eq_nil_of_le q]
theorem enumL_ofI {cells : List Int} {j : Nat} {x : D} (h : (enumL (ofI cells))[j]? = some x) : ∃ c, cells[j]? = some c ∧ x = .tup [.int (j : Nat), .int c] := by
  obtain ⟨d, hd, rfl⟩ := enumL_get h
  unfold ofI at hd
  rw [List.getElem?_map] at hd
  cases q : cells[j]? with
  | none => rw [q] at hd; cases hd
  | some c => rw [q] at hd; cases hd; exact ⟨c, rfl, rfl⟩
theorem enumL_len (xs : List D) : (enumL xs).length = xs.length := by simp [enumL]
theorem appO_ok {i : Nat} {env : DE} {xs : List D} {d : D} (h : xs.length < 1000000) : appO i env xs d = .ok (.nx (env.set i (.own (xs ++ [d])))) := if_pos (Nat.lt_of_lt_of_le h (by decide))
theorem setO_nat {i : Nat} {env : DE} {d : D} {xs : List D} {j : Int} (h : 0 ≤ j) (h2 : j < xs.length) : setO i env d xs (.int j) = .ok (.nx (env.set i (.own (xs.set j.toNat d)))) := by
  unfold setO
  have : ixN xs.length j = some j.toNat := by unfold L2.ixN; rw [if_pos h, if_pos h2]
  simp only [this]
theorem atI_pos {α : Type} {xs : List α} {j : Int} (h : 0 ≤ j) : atI xs j = xs[j.toNat]? := by
  unfold L2.atI L2.ixN
  rw [if_pos h]
  split
  · rfl
  · rename_i c
    symm
    show _ = none
    rw [List.getElem?_eq_none_iff]
    omega
theorem ofI_set (ns : List Int) (j : Nat) (x : Int) : (ofI ns).set j (.int x) = ofI (ns.set j x) := List.map_set.symm
theorem ofI_get (ns : List Int) (j : Nat) : (ofI ns)[j]? = (ns[j]?).map .int := List.getElem?_map
theorem ofI_cons (a : Int) (ns : List Int) : D.int a :: ofI ns = ofI (a :: ns) := rfl
theorem isi_i (T : String) (i : Int) : isi T (.int i) = .ok (.bl (subT (tyN (.int i)) T)) := rfl
theorem isi_b (T : String) (i : Bool) : isi T (.bl i) = .ok (.bl (subT (tyN (.bl i)) T)) := rfl
theorem isi_s (T : String) (i : Str) : isi T (.str i) = .ok (.bl (subT (tyN (.str i)) T)) := rfl
theorem isi_n (T : String) : isi T .non = .ok (.bl (subT (tyN .non) T)) := rfl
theorem isi_l (T : String) (i : List D) : isi T (.lst i) = .ok (.bl (subT (tyN (.lst i)) T)) := rfl
theorem isi_t (T : String) (i : List D) : isi T (.tup i) = .ok (.bl (subT (tyN (.tup i)) T)) := rfl
theorem q1 : (type_of% @List.length_cons.{0}) ∧ (type_of% @List.length_nil.{0}) ∧ (type_of% @List.map_cons.{0, 0}) ∧ (type_of% @List.map_nil.{0, 0}) ∧ (type_of% @List.cons_append.{0}) ∧ (type_of% @List.nil_append.{0}) ∧ (type_of% @List.replicate_zero.{0}) ∧ (type_of% @List.replicate_succ.{0}) ∧ (type_of% @if_true.{1}) ∧ (type_of% @ite_true.{1}) ∧ (type_of% @Bool.false_eq_true) ∧ (type_of% @Bool.true_eq_false) ∧ (type_of% @slV_0) ∧ (type_of% @slV_s) ∧ (type_of% @slB_0) ∧ (type_of% @slB_0o) ∧ (type_of% @slB_s) ∧ (type_of% @slL_0) ∧ (type_of% @slL_0o) ∧ (type_of% @slL_s) := ⟨@List.length_cons.{0}, @List.length_nil.{0}, @List.map_cons.{0, 0}, @List.map_nil.{0, 0}, @List.cons_append.{0}, @List.nil_append.{0}, @List.replicate_zero.{0}, @List.replicate_succ.{0}, @if_true.{1}, @ite_true.{1}, @Bool.false_eq_true, @Bool.true_eq_false, @slV_0, @slV_s, @slB_0, @slB_0o, @slB_s, @slL_0, @slL_0o, @slL_s⟩
theorem q2 : (type_of% @own_0) ∧ (type_of% @own_s) ∧ (type_of% @frz_0) ∧ (type_of% @frz_s) ∧ (type_of% @List.set_cons_zero.{0}) ∧ (type_of% @List.set_cons_succ.{0}) ∧ (type_of% @R.ok_bind) ∧ (type_of% @R.of_some) ∧ (type_of% @R.ne_ok) ∧ (type_of% @asB_b) ∧ (type_of% @asL_l) ∧ (type_of% @asI_i) ∧ (type_of% @kAddI_i) ∧ (type_of% @kSub_i) ∧ (type_of% @kNeg_i) ∧ (type_of% @kLt_i) ∧ (type_of% @kLe_i) ∧ (type_of% @kGt_i) ∧ (type_of% @kGe_i) ∧ (type_of% @kEq_i) := ⟨@own_0, @own_s, @frz_0, @frz_s, @List.set_cons_zero.{0}, @List.set_cons_succ.{0}, @R.ok_bind, @R.of_some, @R.ne_ok, @asB_b, @asL_l, @asI_i, @kAddI_i, @kSub_i, @kNeg_i, @kLt_i, @kLe_i, @kGt_i, @kGe_i, @kEq_i⟩
theorem q3 : (type_of% @kNe_i) ∧ (type_of% @kEq_s) ∧ (type_of% @kNe_s) ∧ (type_of% @kAbs_i) ∧ (type_of% @kMax2_i) ∧ (type_of% @kLen_l) ∧ (type_of% @kLen_t) ∧ (type_of% @ixL_i) ∧ (type_of% @ixD_l) ∧ (type_of% @ixD_t) ∧ (type_of% @fit0) ∧ (type_of% @fit1) ∧ (type_of% @fit2) ∧ (type_of% @fit3) ∧ (type_of% @fit4) ∧ (type_of% @seqO_nx) ∧ (type_of% @seqO_rt) ∧ (type_of% @seqO_rtF) ∧ (type_of% @scO_i) ∧ (type_of% @scO_b) := ⟨@kNe_i, @kEq_s, @kNe_s, @kAbs_i, @kMax2_i, @kLen_l, @kLen_t, @ixL_i, @ixD_l, @ixD_t, @fit0, @fit1, @fit2, @fit3, @fit4, @seqO_nx, @seqO_rt, @seqO_rtF, @scO_i, @scO_b⟩
theorem q4 : (type_of% @scO_s) ∧ (type_of% @scO_n) ∧ (type_of% @frzO_nx) ∧ (type_of% @isi_i) ∧ (type_of% @isi_b) ∧ (type_of% @isi_s) ∧ (type_of% @isi_n) ∧ (type_of% @isi_l) ∧ (type_of% @isi_t) := ⟨@scO_s, @scO_n, @frzO_nx, @isi_i, @isi_b, @isi_s, @isi_n, @isi_l, @isi_t⟩
end DL
namespace DL
open PySem PySem.Spec PyProof.Rows L2
section
variable {X : Cx} {E : Str → Hp → Prop} {pos : Pos}
end
end DL

namespace DL
open PySem PySem.Spec PyProof.Rows L2
section
variable {prog : Program} {w : World} {A : Around} {E : Value → Shared → Prop} {s : Shared}
end
section
variable {X : Cx} {E : Str → Hp → Prop} {pos : Pos}
theorem IsL.rev {K : PySem.W.Frag} {P : Addr → Prop} {H : Hp} : ∀ {ds : List D} {vs : List V}, IsL K P H ds vs → IsL K P H ds.reverse vs.reverse
  | [], _, h => by
    have h' : _ = [] := h
    subst h'; exact rfl
  | d :: ds, _, ⟨v, r, e, p, q⟩ => by
    subst e
    rw [List.reverse_cons, List.reverse_cons]
    exact IsL.app (IsL.rev q) (.one p)
end
end DL

namespace DL
open PySem PySem.Spec PyProof.Rows L2
section
variable {X : Cx} {E : Str → Hp → Prop} {pos : Pos}
end
end DL

namespace DL
open PySem PySem.Spec PyProof.Rows L2
def Kep (fs xs : List Addr) (h h' : Heap) : Prop := ∀ b o, h.get? b = some o → b ∉ xs → (b ∉ fs → h'.get? b = some o) ∧ ∃ sl, h'.get? b = some { o with slots := sl }
theorem Kep.trans {fs xs ys zs : List Addr} {h h1 h2 : Heap} (a : Kep fs xs h h1) (b : Kep fs ys h1 h2) (s1 : ∀ c ∈ xs, c ∈ zs) (s2 : ∀ c ∈ ys, c ∈ zs) : Kep fs zs h h2 := fun c o e hn => by
  obtain ⟨p1, sl, p2⟩ := a c o e fun z => hn (s1 c z)
  obtain ⟨q1, sl2, q2⟩ := b c _ p2 fun z => hn (s2 c z)
  refine ⟨fun hf => ?_, sl2, q2⟩
  exact (b c o (p1 hf) fun z => hn (s2 c z)).1 hf
theorem Kep.of_eq {fs xs : List Addr} {h h' : Heap} (k : ∀ b o, h.get? b = some o → b ∉ xs → h'.get? b = some o) : Kep fs xs h h' := fun b o e hn => ⟨fun _ => k b o e hn, o.slots, k b o e hn⟩
structure Exc (h : Heap) (e T C : Addr) (fl : Value) : Prop where
  at_ : ∃ vs, h.get? e = some { cls := .ref C, data := .fields vs } ∧ vs[1]? = some (.ref T)
  ne : T ≠ e
  tb : ∃ oT ts, h.get? T = some oT ∧ oT.data = .fields ts ∧ ts[3]? = some fl
section
variable {M : Model} {A : Around} {E : Value → Shared → Prop} {s : Shared} {base : Heap} {env : Env} {outer : List Env} {L e T C : Addr} {Q : Unit → Shared → Prop}
theorem exc_set {fl : Value} (x : Exc s.heap e T C fl) (hQ : ∀ h', Exc h' e T C .none → Kep [] [T] s.heap h' → Q () { s with heap := h' }) : wpAny M A (setFlight (.ref e) none) Q E s := by
  obtain ⟨⟨vs, x1, x2⟩, x3, oT, ts, x4, x5, x6⟩ := x
  have y3 : 3 < ts.size := (Array.getElem?_eq_some_iff.mp x6).1
  unfold setFlight
  refine wpAny_bind (wpAny_field x1 rfl x2 ?_)
  rw [if_pos (show (Value.ref T != Value.none) = true from rfl)]
  refine wpAny_setField x4 x5 y3 (hQ _ ?_ (.of_eq fun b o q hn => ?_))
  · refine ⟨⟨vs, ?_, x2⟩, x3, _, _, Heap.get?_update_self _ x4 (Obj.isFreed_of_fields (Obj.data_mapFields x5 _)), Obj.data_mapFields x5 _, by simp [y3]⟩
    rw [Heap.get?_update_other _ _ x3]
    exact x1
  · rw [Heap.get?_update_other _ _ (fun z => hn (by simp [z]))]
    exact q
theorem exc_entry {head : Value} {vs : Array Value} {nx : Bool} (hfr : A.frames = some (env :: outer)) (hl : s.heap.FunFrames base (env :: outer)) (hf : env.frame = some L)
    (he : s.heap.get? e = some { cls := .ref C, data := .fields vs }) (hz : 1 < vs.size)
    (hQ : ∀ h' T', s.heap.get? T' = none → Exc h' e T' C (rawInt L) → Kep ((env :: outer).filterMap (·.frame)) [e] s.heap h' → Q () { s with heap := h' }) :
    wpAny M A (do let fo ← frameOf env; let pl ← entryPlaceOf L nx; let en ← EntryCells.newEntry head fo .none (rawInt L) .none pl; setField (.ref e) 1 en) Q E s := by
  have out : e ∉ (env :: outer).filterMap (·.frame) := fun z => by
    obtain ⟨_, o, q, nf⟩ := hl.mem z
    rw [he] at q; cases q
    exact nf vs rfl
  refine wpAny_bind (wpAny_frameOf_fun hfr hl hf fun hA sA => wpAny_bind (wpAny_entryPlaceOf fun pl ip => ?_))
  unfold EntryCells.newEntry newFields
  refine wpAny_bind (wpAny_newObj_type ?_ (ip.sizeOk5 _ _ _ _ _))
  have eA : hA.get? e = some { cls := .ref C, data := .fields vs } := (sA.2.1 e out).trans he
  have eB := Heap.get?_push_of_some (h := hA) { cls := .type "traceback", dict := none, data := .fields ([head, .ref L, .none, rawInt L, .none] ++ (if pl.isEmpty then List.replicate 6 Value.none else pl)).toArray } eA
  have nT : hA.objs.size ≠ e := Nat.ne_of_gt (Heap.lt_size eA)
  refine wpAny_setField eB rfl hz (hQ _ hA.objs.size (Heap.get?_none_of_le (Nat.le_of_eq sA.1.symm)) ⟨⟨vs.setIfInBounds 1 (.ref hA.objs.size), ?_, by simp [hz]⟩, nT, ?_⟩ fun b o q hn => ?_)
  · rw [Heap.get?_update_self _ eB rfl]
    rfl
  · refine ⟨_, _, (Heap.get?_update_other _ _ (Ne.symm nT)).trans (Heap.get?_push_size hA rfl), rfl, ?_⟩
    simp
  · have hb : e ≠ b := fun z => hn (by simp [z])
    obtain ⟨sl, q2⟩ := sA.2.2 b o q
    refine ⟨fun nf => ?_, sl, ?_⟩
    · rw [Heap.get?_update_other _ _ hb]
      exact Heap.get?_push_of_some _ ((sA.2.1 b nf).trans q)
    · rw [Heap.get?_update_other _ _ hb]
      exact Heap.get?_push_of_some _ q2
theorem exc_note1 {vs : Array Value} (hfr : A.frames = some (env :: outer)) (hl : s.heap.FunFrames base (env :: outer)) (hf : env.frame = some L)
    (he : s.heap.get? e = some { cls := .ref C, data := .fields vs }) (h1 : vs[1]? = some .none)
    (hQ : ∀ h' T', s.heap.get? T' = none → Exc h' e T' C (rawInt L) → Kep ((env :: outer).filterMap (·.frame)) [e] s.heap h' → Q () { s with heap := h' }) : wpAny M A (noteFrame (.ref e) env) Q E s := by
  unfold noteFrame
  simp only [hf]
  refine wpAny_bind (wpAny_field he rfl h1 ?_)
  rw [if_neg (by decide)]
  exact exc_entry hfr hl hf he (Array.getElem?_eq_some_iff.mp h1).1 hQ
end
end DL
namespace DL
open PySem PySem.Spec PyProof.Rows L2
section
variable {P : Program} {w : World} {H H' : Hp} {h h1 h2 : Heap} {fs fs' xs : List Addr}
theorem obj_ex {a : Addr} {o : HO} (x : ObjOk P w H h a o) : ∃ ob, h.get? a = some ob := by
  cases o with
  | lst xs => obtain ⟨_, _, _, _, e⟩ := x; exact ⟨_, e⟩
  | tup xs => obtain ⟨_, _, _, p⟩ := x; obtain ⟨o, e, _⟩ := p; exact ⟨_, e⟩
  | dK kvs => obtain ⟨_, _, _, _, o, _, _, e, _⟩ := x; exact ⟨_, e⟩
  | dT kvs => obtain ⟨_, _, _, _, o, _, _, e, _⟩ := x; exact ⟨_, e⟩
  | set S n => obtain ⟨o, _, _, _, e, _⟩ := x; exact ⟨_, e⟩
  | ins C dx fs => obtain ⟨_, _, _, e, _⟩ := x; exact ⟨_, e⟩
  | own y => exact x
  | xd fs => obtain ⟨_, ⟨_, _, _, e, _⟩, _⟩ := x; exact ⟨_, e⟩
  | rng lo hi => obtain ⟨_, _, _, e⟩ := x; exact ⟨_, e⟩
  | frz ob u => obtain ⟨e, _⟩ := x; exact ⟨_, e⟩
  | tbl ps => exact ⟨_, (show h.get? a = some _ from x)⟩
  | met f y => exact ⟨_, (show h.get? a = some _ from x)⟩
  | ext φ => exact x.2.1
theorem free_of_none (x : HOk P w H h) {a : Addr} (e : h.get? a = none) : H a = none := by
  cases q : H a with
  | none => rfl
  | some o =>
    obtain ⟨ob, z⟩ := obj_ex (x a o q)
    rw [e] at z; cases z
theorem un_kep (u : Un fs [] H H' h h1) (k : Kep fs' xs h1 h2) (hx : ∀ b ∈ xs, h.get? b = none) (hf : ∀ b ∈ fs', b ∈ fs ∨ h.get? b = none) : Un fs [] H H' h h2 where
  keep := fun b o e n hb hc => (k b o (u.keep b o e n hb hc) fun z => by rw [hx b z] at e; cases e).1 fun z => (hf b z).elim hb fun q => by rw [q] at e; cases e
  slot := fun b o e n hb hc => by
    obtain ⟨sl, q⟩ := u.slot b o e n hb hc
    obtain ⟨_, sl2, q2⟩ := k b _ q fun z => by rw [hx b z] at e; cases e
    exact ⟨sl2, q2⟩
  free := u.free
  there := fun b o e hc => by
    obtain ⟨o', q⟩ := u.there b o e hc
    obtain ⟨_, sl2, q2⟩ := k b _ q fun z => by rw [hx b z] at e; cases e
    exact ⟨_, q2⟩
  tups := u.tups
  frzs := u.frzs
  tbls := u.tbls
theorem hok_kep (x : HOk P w H h1) (k : Kep fs xs h1 h2) (hx : ∀ b ∈ xs, H b = none) (hf : ∀ b ∈ fs, H b = none) : HOk P w H h2 := fun a o e => by
  have no : ∀ b u, H b = some u → b ∉ xs ∧ b ∉ fs := fun b u q => ⟨fun z => (by rw [hx b z] at q; cases q), fun z => (by rw [hf b z] at q; cases q)⟩
  refine (x a o e).stay (fun b u hb q => ?_) (fun _ q => q) fun _ _ q => q
  have nb : b ∉ xs ∧ b ∉ fs := by
    rcases hb with z | z
    · rw [z]; exact no a o e
    · exact no b _ z
  exact (k b u q nb.1).1 nb.2
def CXF (P : Program) (w : World) : CXT := fun outer H s E ev s' => ∃ e T C H', ev = .ref e ∧ Exc s'.heap e T C .none ∧ s.heap.get? e = none ∧ s.heap.get? T = none ∧ H' e = none ∧ H' T = none ∧ s'.os = s.os ∧ AllBare s'.gens ∧
  Un (frs outer) [] H H' s.heap s'.heap ∧ HOk P w H' s'.heap ∧ E (.ref C) none H'
end
section
variable {P : Program} {w : World} {K : PySem.W.Frag} {mg : Str → Option Value} {base : Heap} {N : List Str} {qual : Str} {scope : Scope} {f : Addr} {cd : Value} {A : Around} {outer : List Env} {s : Shared} {H : Hp} {E : XK}
theorem none_there {fs : List Addr} {H H' : Hp} {h h' : Heap} (u : Un fs [] H H' h h') {b : Addr} (e : h'.get? b = none) : h.get? b = none := by
  cases q : h.get? b with
  | none => rfl
  | some o =>
    obtain ⟨o', z⟩ := u.there b o q (by simp)
    rw [e] at z; cases z
theorem fly_on {pins : List (Addr × Obj)} {σ : St} {H1 H2 : Hp} {s1 s2 : Shared} {e C : Addr} (I : Inv (cxOf (CXF P w) P w K mg base N qual scope f cd A outer s H E) pins σ H1 s1)
    (n1 : s1.heap.get? e = none) (h2e : H2 e = none) (ho : s2.os = s1.os) (hb : AllBare s2.gens) (un : Un (frs (envOfC qual scope s.heap.objs.size f cd :: outer)) [] H1 H2 s1.heap s2.heap) (hok : HOk P w H2 s2.heap) (hE : E (.ref C) none H2)
    {h' : Heap} {T' : Addr} (xs : List Addr) (hxs : ∀ b ∈ xs, s1.heap.get? b = none) (hxh : ∀ b ∈ xs, H2 b = none) (k : Kep ((envOfC qual scope s.heap.objs.size f cd :: outer).filterMap (·.frame)) xs s2.heap h') (hT : s1.heap.get? T' = none) (hTh : H2 T' = none) (hx : Exc h' e T' C .none) :
    CXF P w outer H s E (.ref e) { s2 with heap := h' } := by
  have I2 : Inv (cxOf (CXF P w) P w K mg base N qual scope f cd A outer s H E) pins σ H2 s2 := I.call' ho un hok hb (fun b z => nomatch z)
  have fr : ∀ b ∈ (envOfC qual scope s.heap.objs.size f cd :: outer).filterMap (·.frame), b ∈ frs outer ∨ s.heap.get? b = none := fun b hb => by
    rcases List.mem_cons.mp (I2.stkSub b hb) with z | z
    · refine .inr ?_
      have hn : (s.heap.get? b) = none := by
        rw [z]
        exact Heap.get?_none_of_le (Nat.le_refl _)
      exact hn
    · exact .inl z
  have hu := I2.base
  have nn : ∀ b, s1.heap.get? b = none → s.heap.get? b = none := fun b q => none_there I.base q
  refine ⟨e, T', C, H2, rfl, hx, nn e n1, nn T' hT, h2e, hTh, I2.os, hb, un_kep hu k (fun b hb => nn b (hxs b hb)) fr, hok_kep hok k hxh (fun b hb => I2.stkFree b hb), hE⟩
theorem raised {pins : List (Addr × Obj)} {σ : St} {H1 : Hp} {s1 : Shared} {e C : Addr} {h1 : Heap} {args : List Value} (I : Inv (cxOf (CXF P w) P w K mg base N qual scope f cd A outer s H E) pins σ H1 s1)
    (mx : Heap.MadeExcOf s1.heap h1 e (.ref C) args) (hE : E (.ref C) none H1) : (cxOf (CXF P w) P w K mg base N qual scope f cd A outer s H E).xe (.ref e) { s1 with heap := h1 } := by
  obtain ⟨t, q1, q2, q3⟩ := mx.there
  have I2 := I.kept (t' := s1.toks) mx.keeps
  show wpAny _ _ (leaving _ (.ref e)) _ _ _
  unfold leaving
  refine wpAny_bind (exc_note1 (L := s.heap.objs.size) I.ok.frames I2.stack rfl q1 rfl fun h' T' t1 t2 t3 => exc_set t2 fun h'' u1 u2 => ?_)
  have kn : ∀ b, h1.get? b = none → s1.heap.get? b = none := fun b q => by
    cases z : s1.heap.get? b with
    | none => rfl
    | some o => rw [mx.keeps b o z] at q; cases q
  have t1' : s1.heap.get? T' = none := kn T' t1
  have fe : H1 e = none := free_of_none I.hok mx.new
  refine fly_on (s2 := { s1 with heap := h1 }) I mx.new fe rfl I.bare (Un.kept mx.keeps) I2.hok hE [e, T'] ?_ ?_ (t3.trans (ys := [T']) (fun b o q hn => ?_) ?_ ?_) t1' (free_of_none I2.hok t1) u1
  · intro b hb
    simp at hb
    rcases hb with rfl | rfl
    · exact mx.new
    · exact t1'
  · intro b hb
    simp at hb
    rcases hb with rfl | rfl
    · exact fe
    · exact free_of_none I2.hok t1
  · exact ⟨fun _ => (u2 b o q hn).1 (by simp), (u2 b o q hn).2⟩
  · intro c hc; simp at hc; simp [hc]
  · intro c hc; simp at hc; simp [hc]
end
end DL

namespace DL
open PySem PySem.Spec PyProof.Rows L2
def xcK (K : PySem.W.Frag) (n : Str) : Value := match PySem.W.nsIn K mainGlobals n with
  | some (some v) => v
  | _ => .none
abbrev bmV : List Value := [.type "ValueError", .type "Exception", .type "BaseException", .type "object"]
structure Xc (K : PySem.W.Frag) (mg : Str → Option Value) (x : Str) (C : Addr) : Prop where
  m : mg x = some (.ref C)
  n : PySem.W.nsIn K mainGlobals x = some (some (.ref C))
  i : PySem.W.excIn K C bmV "ValueError.__new__" = true
section
variable {P : Program} {w : World} {K : PySem.W.Frag} {mg : Str → Option Value} {base : Heap} {N : List Str} {qual : Str} {scope : Scope} {f : Addr} {cd : Value} {A : Around} {outer : List Env} {s : Shared} {H : Hp} {E : XK}
abbrev EW (K : PySem.W.Frag) (E : XK) : Str → Hp → Prop := fun n H' => E (xcK K n) none H'
end
abbrev OkX (P : Program) (w : World) (K : PySem.W.Frag) (mg : Str → Option Value) (base : Heap) (k : Nat) (f : Addr) (fd : FuncData) (ps : List Str) (m : List D → R D) : Prop := FnOk P w K mg base (CXF P w) k f fd ps (spD K (xcK K) m)
abbrev OkFX (P : Program) (w : World) (K : PySem.W.Frag) (mg : Str → Option Value) (base : Heap) (k : Nat) (f : Addr) (fd : FuncData) (ps : List Str) (m : List D → R (List D)) : Prop := FnOk P w K mg base (CXF P w) k f fd ps (spF K (xcK K) m)
section
variable {P : Program} {w : World} {K : PySem.W.Frag} {mg : Str → Option Value} {base : Heap}
variable {x : Str} {st : Stmt} {f : Addr} {fd : FuncData} {N ps : List Str} {k : Nat} {b : DE → R Out}
variable (S : FnScope N ps (defScope st)) (d : Df K mg x st ps f fd)
    (hb : ∀ (cdv : Value) (A : Around) (outer : List Env) (s : Shared) (H : Hp) (E : XK), Room k (A.deeper (envOfC x (defScope st) s.heap.objs.size f cdv)) → PSs (cxOf (CXF P w) P w K mg base N x (defScope st) f cdv A outer s H E) (defBody st) (tS K (EW K E) b))
include S d hb
end
section
variable {P : Program} {w : World} {K : PySem.W.Frag} {mg : Str → Option Value} {base : Heap} {f : Addr} {fd : FuncData} {ps : List Str} {k : Nat}
theorem FnOk.calm {sp sp' : Sp} (F : FnOk P w K mg base (CXF P w) k f fd ps sp) (h : ∀ vs H Q E, sp' vs H Q E → sp vs H Q fun _ _ _ => False) : FnOk P w K mg base CX0 k f fd ps sp' :=
  ⟨fun vs H Q E q => F.len vs H Q _ (h vs H Q E q), fun A outer s H args us vs Q E hr he hb hv hs => codeAny_mono (F.run A outer s H args us vs Q _ hr he hb hv (h vs H Q E hs)) fun r s' hq => by
    cases r with
    | ok fl => cases fl <;> exact hq
    | error e =>
      obtain ⟨_, _, _, _, _, _, _, _, _, _, _, _, _, _, z⟩ := hq
      exact z.elim⟩
theorem OkX.calm {m : List D → R D} (F : OkX P w K mg base k f fd ps m) : Ok P w K mg base k f fd ps (fun ds => (m ds).ne) := FnOk.calm F fun vs H Q E h => by
  obtain ⟨Pa, ds, i, h⟩ := h
  refine ⟨Pa, ds, i, ?_⟩
  cases e : m ds with
  | ok d => simp only [e, R.ne] at h; exact h
  | err c => simp only [e, R.ne] at h
  | bad => simp only [e, R.ne] at h
theorem OkFX.calm {m : List D → R (List D)} (F : OkFX P w K mg base k f fd ps m) : OkF P w K mg base k f fd ps (fun ds => (m ds).ne) := FnOk.calm F fun vs H Q E h => by
  obtain ⟨Pa, ds, i, h⟩ := h
  refine ⟨Pa, ds, i, ?_⟩
  cases e : m ds with
  | ok d => simp only [e, R.ne] at h; exact h
  | err c => simp only [e, R.ne] at h
  | bad => simp only [e, R.ne] at h
end
end DL

namespace DL
open PySem PySem.Spec PyProof.Rows L2
section
variable {P : Program} {w : World} {K : PySem.W.Frag} {mg : Str → Option Value} {base : Heap} {N : List Str} {qual : Str} {scope : Scope} {f : Addr} {cd : Value} {A : Around} {outer : List Env} {s : Shared} {H : Hp} {E : XK}
variable {k : Nat} {fa : Addr} {fd : FuncData} {st : Stmt} {ps : List Str} {x : Str} {p pos : Pos} {e : Expr} {es : List Expr} {fr : DE → R (List D)}
theorem ScD.ne {m : List D → R D} (h : ScD m) : ScD (fun ds => (m ds).ne) := fun ds d e => h ds d (R.ne_of e)
theorem ScL.ne {m : List D → R (List D)} (h : ScL m) : ScL (fun ds => (m ds).ne) := fun ds d e => h ds d (R.ne_of e)
end
section
variable {X : Cx} {k : Nat} {fa : Addr} {fd : FuncData} {st : Stmt} {ps : List Str} {x : Str} {p pos cpos : Pos} {e : Expr} {es : List Expr} {fr : DE → R (List D)}
end
end DL

namespace DL
open PySem PySem.Spec PyProof.Rows L2
abbrev hdl (X : Cx) (e : Addr) : Cx := { X with A := X.A.mark (some (.ref e)), calm := false, xe := fun _ _ => False }
section
variable {X : Cx} {pins : List (Addr × Obj)} {σ : St} {H H1 : Hp} {s s1 : Shared} {e : Addr}
theorem Inv.hdl (I : Inv X pins σ H s) (e : Addr) : Inv (DL.hdl X e) pins σ H s :=
  ⟨⟨I.ok.mod, I.ok.kind, I.ok.glob, I.ok.blt, I.ok.above, I.ok.inj, I.ok.has, I.ok.cab, (fun z => by cases z), I.ok.frames, I.ok.stk, I.ok.exf, I.ok.bs, I.ok.bsz, I.ok.noex, I.ok.exfs, I.ok.funs, I.ok.frf⟩, I.os, I.bare, I.base, I.loc, I.cell, I.free, I.freeC, I.pin, I.hok, I.len⟩
end
theorem Rel.drop {K : PySem.W.Frag} {g : Gh} {env : DE} {σ : St} {H : Hp} {os : List Addr} (r : Rel K g env σ H os) (i : Nat) : Rel K g (env.set i .no) (σ.set i none) H os := by
  have f : ∀ (j : Nat) (sl : Sl), (env.set i Sl.no)[j]? = some sl → sl ≠ .no → i ≠ j ∧ env[j]? = some sl := fun j sl q hn => by
    by_cases hj : i = j
    · subst hj
      exact (hn (get_set_eq q)).elim
    · rw [List.getElem?_set_ne hj] at q
      exact ⟨hj, q⟩
  refine ⟨by simp [r.len], r.ext, fun j d q => ?_, fun j xs q => ?_, fun j k xs ys a q1 q2 q3 q4 => ?_, r.new, fun j v q => ?_, ?_⟩
  · obtain ⟨hj, q⟩ := f j _ q (fun z => nomatch z)
    obtain ⟨v, h1, h2⟩ := r.val j d q
    exact ⟨v, by rw [List.getElem?_set_ne hj]; exact h1, h2⟩
  · obtain ⟨hj, q⟩ := f j _ q (fun z => nomatch z)
    obtain ⟨a, vs, h1, h2⟩ := r.own j xs q
    exact ⟨a, vs, by rw [List.getElem?_set_ne hj]; exact h1, h2⟩
  · obtain ⟨hj, q1⟩ := f j _ q1 (fun z => nomatch z)
    obtain ⟨hk, q2⟩ := f k _ q2 (fun z => nomatch z)
    rw [List.getElem?_set_ne hj] at q3
    rw [List.getElem?_set_ne hk] at q4
    exact r.inj j k xs ys a q1 q2 q3 q4
  · obtain ⟨hj, q⟩ := f j _ q (fun z => nomatch z)
    rw [List.getElem?_set_ne hj]
    exact r.raw j v q
  · obtain ⟨A, dd⟩ := r.dps
    refine ⟨A, dd.to (fun j nss q => ?_) (fun j xs b q z => ?_) fun j nss q x hx => ⟨(dd.mem q x hx).1, rfl⟩⟩
    · obtain ⟨hj, q⟩ := f j _ q (fun z => nomatch z)
      exact ⟨q, by rw [List.getElem?_set_ne hj]⟩
    · obtain ⟨hj, q⟩ := f j _ q (fun z => nomatch z)
      rw [List.getElem?_set_ne hj] at z
      exact .inl ⟨xs, q, z⟩
structure Cat (K : PySem.W.Frag) (mg : Str → Option Value) (c : Str) (ms : List Str) : Prop where
  ex : ∃ C, mg c = some (.ref C) ∧ ∀ n ∈ ms, ∃ D, PySem.W.nsIn K mainGlobals n = some (some (.ref D)) ∧ PySem.W.exmOne K (.ref D) (.ref C) = some true
section
variable {X : Cx} {E : Str → Hp → Prop}
end
end DL

namespace DL
open PySem PySem.Spec PyProof.Rows L2
structure XcK (K : PySem.W.Frag) (D : Addr) : Prop where
  cl : (PySem.W.clsIn K D).isSome = true
  ga : PySem.W.findIn K (.ref D) "__getattribute__" = some (some (.builtin "BaseException.__getattribute__"))
  gh : PySem.W.findIn K (.ref D) "__getattr__" = some none
  ca : PySem.W.findIn K (.ref D) "__class__" = some (some (.builtin "object.__class__"))
  sp : PySem.W.specialIn K (.builtin "object.__class__") "__get__" = some (some (.builtin "getset_descriptor.__get__"))
  tk : PySem.W.takesIn K (.builtin "object.__class__") = some true
  mo : PySem.W.mroIn K D (.type "object") = some true
  mb : PySem.W.subIn K (.ref D) (.type "BaseException") = some true
section
variable {K : PySem.W.Frag} {x D : Addr}
end
def subX (c n : Str) : Bool := n == c || c == "BraidError" || c == "ValueError"
structure Isx (K : PySem.W.Frag) (ms : List Str) (c : Str) (v : Value) : Prop where
  no : PySem.W.kitOne K (.type "NoneType") v = some false
  ex : ∀ n ∈ ms, ∃ D, PySem.W.nsIn K mainGlobals n = some (some (.ref D)) ∧ XcK K D ∧ PySem.W.kitOne K (.ref D) v = some (subX c n)
section
variable {X : Cx} {pins : List (Addr × Obj)} {σ : St} {H : Hp} {s : Shared} {A : Around} {E : Value → Shared → Prop} {Q : Value → Shared → Prop}
end
end DL

namespace DL
open PySem PySem.Spec PyProof.Rows L2
structure IsxT (K : PySem.W.Frag) (ms cs : List Str) (Cs : List Addr) : Prop where
  no : PySem.W.kitAny K (.type "NoneType") (Cs.map Value.ref) = some false
  ex : ∀ n ∈ ms, ∃ D, PySem.W.nsIn K mainGlobals n = some (some (.ref D)) ∧ XcK K D ∧ PySem.W.kitAny K (.ref D) (Cs.map Value.ref) = some (cs.any (subX · n))
section
variable {X : Cx} {E : Str → Hp → Prop} {pos : Pos}
end
end DL

namespace DL
open PySem PySem.Spec PyProof.Rows L2
section
variable {X : Cx} {E : Str → Hp → Prop} {pos : Pos}
theorem sAsg {tg e : Expr} {f : DE → R D} {b : D → DE → R DE} (he : PE X e (tD X.K E f)) (hg : PG X tg (tG X.K E b)) (hs : swapsWithSole [tg] e pos.line X.env = pure false := by rfl) (hw : swappedStores [tg] e X.env = pure none := by rfl)
    (h1 : (assignEach [tg] X.env).map (·.2) = [assign tg X.env] := by rfl) : PS X (.Assign [tg] e pos) (tS X.K E fun env => (f env).bind fun d => (b d env).bind fun e' => .ok (.nx e')) :=
  impS (ps_asg he hg hs hw h1) fun De σ H ⟨g, env, os, r, m⟩ => ⟨g, env, os, r, m.bind.mono fun d _ q v H' s h => ⟨g, env, os, d, r.same s, h, q.bind.mono fun e' _ q2 σ' r' => q2 σ' H' os r' (.same s os)⟩⟩
end
end DL

namespace DL
open PySem PySem.Spec PyProof.Rows L2
theorem isl_ofI {K : PySem.W.Frag} {P : Addr → Prop} {H : Hp} : ∀ {ns : List Int} {vs : List V}, IsL K P H (ofI ns) vs → vs = ns.map V.int
  | [], _, h => h
  | n :: ns, _, ⟨v, r, e, p, q⟩ => by
    have p' : v = .int n := p
    rw [e, p', isl_ofI q]; rfl
theorem ofI_isl {K : PySem.W.Frag} {P : Addr → Prop} {H : Hp} : ∀ (ns : List Int), IsL K P H (ofI ns) (ns.map V.int)
  | [] => rfl
  | n :: ns => ⟨_, _, rfl, rfl, ofI_isl ns⟩
def kSumL (xs : List D) : Option D := (toI xs).map fun ns => .int ns.sum
def kMinL (xs : List D) : Option D := (toI xs).bind fun ns => (ns.min?).map .int
def sortI (ns : List Int) : List Int := ns.mergeSort (fun a b => decide (a ≤ b))
def sortL (xs : List D) : R (List D) := match toI xs with
  | some ns => if ns.length < 64 then .ok (ofI (sortI ns)) else .bad
  | none => .bad
def indexD (xs : List D) : D → R D
  | .int k => match toI xs with
    | some ns => if k ∈ ns then .ok (.int (ns.idxOf k : Nat)) else .bad
    | none => .bad
  | _ => .bad
theorem bt_sum : bootBuiltins "sum" = some (.builtin "sum") := by decide +kernel
theorem bt_min : bootBuiltins "min" = some (.builtin "min") := by decide +kernel
theorem bt_sorted : bootBuiltins "sorted" = some (.builtin "sorted") := by decide +kernel
theorem sortI_ok {a b : List Int} (p : a.Perm b) (o : a.Pairwise (· ≤ ·)) : a = sortI b := by
  refine PySem.W.lks_uniq (p.trans (List.mergeSort_perm b _).symm) o ?_
  have h := List.pairwise_mergeSort (le := fun a b : Int => decide (a ≤ b)) (fun a b c h1 h2 => by simp only [decide_eq_true_eq] at h1 h2 ⊢; omega) (fun a b => by simp only [Bool.or_eq_true, decide_eq_true_eq]; omega) b
  exact h.imp fun h => by simpa using h
section
variable {X : Cx} {E : Str → Hp → Prop} {pos : Pos}
theorem oSum {p : Pos} {a : Expr} {f : DE → R (List D)} (hc : X.calm = true) (hm : X.mg "sum" = none) (ha : PE X a (tL X.K E f)) (hg : Gl X "sum" := by rfl)
    (he : starEach [a] X.env = (false, eval a X.env) :: starEach [] X.env := by rfl) (hpl : (backTo pos (starEach [] X.env)).any (·.1) = false := by rfl) : PE X (.Call (.Name "sum" p) [a] [] pos) (tD X.K E fun env => (f env).bind fun xs => R.of (kSumL xs)) := by
  refine imp (pe_callB (r := fun xs H Q => ∃ (l : Addr) (ns : List Int), xs = [.ref l] ∧ SqL X.K H l (ns.map V.int) ∧ Q (.int ns.sum) H) ?_ hg hm bt_sum (pa_cons ha pa_nil he) (by decide) (by decide) he hpl) fun σ H Q ⟨g, env, os, r, m⟩ => ⟨g, env, os, r, m.bind.mono fun xs _ q l vs H' s hl i => ?_⟩
  · intro pins s σ H xs us Q I r h
    obtain ⟨l, ns, rfl, hl, q⟩ := h
    obtain ⟨u, rfl, ru⟩ := vals1 r
    have e : u = .ref l := ru
    subst e
    obtain ⟨its, rv, pl, hz⟩ := I.list hl
    have ia := intsAre_of rv
    obtain ⟨ys, hx⟩ := ia.allInts.items
    have hl' : s.heap.IsList l (intItems ys) := hx ▸ pl.isList
    have hh : X.A.handled = none := I.ok.hd hc
    have e1 : ns = ys.toList.map (·.1) := by
      rw [← nums_intItems, ← hx]
      exact (show numsOf its.toArray.toList = ns from ia.numsOf).symm
    refine sum_intListG hh hl' fun h' tk t' hk => ?_
    have e2 : preSum (numAt ys) ys.size = ns.sum := by
      rw [preSum_eq, List.take_of_length_le (by simp), e1]
    rw [e2]
    exact ⟨.int _, H, I.kept (s := s) (t' := tk) hk, ⟨_, rfl⟩, q⟩
  · obtain ⟨d, e, q2⟩ := q.of
    unfold kSumL at e
    cases z : toI xs with
    | none => rw [z] at e; cases e
    | some ns =>
      rw [z] at e
      have ex := of_toI z
      subst ex
      have ev := isl_ofI i
      subst ev
      cases e
      exact ⟨l, ns, rfl, hl, q2 _ H' s rfl⟩
theorem oMinL {p : Pos} {a : Expr} {f : DE → R (List D)} (hc : X.calm = true) (hm : X.mg "min" = none) (ha : PE X a (tL X.K E f)) (hg : Gl X "min" := by rfl)
    (he : starEach [a] X.env = (false, eval a X.env) :: starEach [] X.env := by rfl) (hpl : (backTo pos (starEach [] X.env)).any (·.1) = false := by rfl) : PE X (.Call (.Name "min" p) [a] [] pos) (tD X.K E fun env => (f env).bind fun xs => R.of (kMinL xs)) := by
  refine imp (pe_callB (r := fun xs H Q => ∃ (l : Addr) (ns : List Int) (k : Int), xs = [.ref l] ∧ SqL X.K H l (ns.map V.int) ∧ ns.min? = some k ∧ Q (.int k) H) ?_ hg hm bt_min (pa_cons ha pa_nil he) (by decide) (by decide) he hpl) fun σ H Q ⟨g, env, os, r, m⟩ => ⟨g, env, os, r, m.bind.mono fun xs _ q l vs H' s hl i => ?_⟩
  · intro pins s σ H xs us Q I r h
    obtain ⟨l, ns, k, rfl, hl, hk, q⟩ := h
    obtain ⟨u, rfl, ru⟩ := vals1 r
    have e : u = .ref l := ru
    subst e
    obtain ⟨its, rv, pl, hz⟩ := I.list hl
    have ia := intsAre_of rv
    obtain ⟨ys, hx⟩ := ia.allInts.items
    have hl' : s.heap.IsList l (intItems ys) := hx ▸ pl.isList
    have hh : X.A.handled = none := I.ok.hd hc
    have e1 : ns = ys.toList.map (·.1) := by
      rw [← nums_intItems, ← hx]
      exact (show numsOf its.toArray.toList = ns from ia.numsOf).symm
    have hne : 0 < ys.size := by
      have hl2 := congrArg List.length e1
      simp at hl2
      cases ns with
      | nil => cases hk
      | cons _ _ => simp at hl2; omega
    refine PySem.min_intList hh hl' hne fun v h' tk hv hkp => ?_
    obtain ⟨t, rfl⟩ := intItems_at hv
    obtain ⟨h1, h2⟩ := argBest_lt (numAt ys) (ys.size - 1)
    have mem : ∀ j, j < ys.size → numAt ys j ∈ ns := fun j hj => by rw [numAt_eq, e1]; exact getD_mem (by rw [List.length_map, Array.length_toList]; exact hj)
    have bst : ∀ b ∈ ns, numAt ys (argBest (fun i j => decide (numAt ys i < numAt ys j)) (ys.size - 1)) ≤ b := fun b hb => by
      rw [e1] at hb
      obtain ⟨j, hj, rfl⟩ := mem_getD hb
      rw [List.length_map, Array.length_toList] at hj
      rw [← numAt_eq]; exact h2 j (by omega)
    have ek : numAt ys (argBest (fun i j => decide (numAt ys i < numAt ys j)) (ys.size - 1)) = k := by
      have m1 := mem (argBest (fun i j => decide (numAt ys i < numAt ys j)) (ys.size - 1)) (by omega)
      have hk2 := hk
      rw [List.min?_eq_some_iff] at hk2
      have a1 := hk2.2 _ m1
      have a2 := bst k hk2.1
      omega
    rw [ek]
    exact ⟨.int _, H, I.kept (s := s) (t' := tk) hkp, ⟨_, rfl⟩, q⟩
  · obtain ⟨d, e, q2⟩ := q.of
    unfold kMinL at e
    cases z : toI xs with
    | none => rw [z] at e; cases e
    | some ns =>
      rw [z] at e
      have ex := of_toI z
      subst ex
      have ev := isl_ofI i
      subst ev
      cases z2 : ns.min? with
      | none => simp [z2] at e
      | some k =>
        simp [z2] at e
        subst e
        exact ⟨l, ns, k, rfl, hl, z2, q2 _ H' s rfl⟩
theorem lSorted {p : Pos} {a : Expr} {f : DE → R (List D)} (hm : X.mg "sorted" = none) (ha : PE X a (tL X.K E f)) (hg : Gl X "sorted" := by rfl)
    (he : starEach [a] X.env = (false, eval a X.env) :: starEach [] X.env := by rfl) (hpl : (backTo pos (starEach [] X.env)).any (·.1) = false := by rfl) : PE X (.Call (.Name "sorted" p) [a] [] pos) (tF X.K E fun env => (f env).bind sortL) := by
  refine imp (pe_callB (r := fun xs H Q => ∃ (l : Addr) (ns : List Int), xs = [.ref l] ∧ SqL X.K H l (ns.map V.int) ∧ ns.length < 64 ∧ ∀ p, H p = none → Q (.ref p) (upd H p (.lst ((sortI ns).map V.int)))) ?_ hg hm bt_sorted (pa_cons ha pa_nil he) (by decide) (by decide) he hpl) fun σ H Q ⟨g, env, os, r, m⟩ => ⟨g, env, os, r, m.bind.mono fun xs _ q l vs H' s hl i => ?_⟩
  · intro pins s σ H xs us Q I r h
    obtain ⟨l, ns, rfl, hl, h64, q⟩ := h
    obtain ⟨u, rfl, ru⟩ := vals1 r
    have e : u = .ref l := ru
    subst e
    obtain ⟨its, rv, pl, hz⟩ := I.list hl
    have ia := intsAre_of rv
    refine PyProof.Rows.sorted_ints pl.isList ia (by rw [IntsAre.length ia]; exact h64) fun out ns' a1 a2 a3 => ?_
    have es := sortI_ok a2 a3
    subst es
    obtain ⟨n, hn⟩ := sortedAll_at s.heap its out
    refine ⟨.ref _, _, I.laid (a := s.heap.objs.size + 1) (o := .lst ((sortI ns).map V.int)) (t' := s.toks) (fun _ _ => sortedAll_old) (Nat.le_succ _) ⟨?_, out.toList, n, vals_ints a1, ?_⟩, rfl, q _ (I.hok.fresh (Nat.le_succ _))⟩
    · rw [List.length_map, a2.length_eq]
      exact Nat.le_of_lt (Nat.lt_trans h64 (by decide))
    · rw [hn]
  · unfold sortL at q
    split at q
    · rename_i ns z
      split at q
      · rename_i c
        have ex := of_toI z
        subst ex
        have ev := isl_ofI i
        subst ev
        refine ⟨l, ns, rfl, hl, c, fun p hp => ?_⟩
        obtain ⟨b1, b2, b3, b4⟩ := newL r s hp (ofI_isl (K := X.K) (P := g.P os) (H := H') (sortI ns))
        exact q p _ _ b1 b2 b3 b4
      · exact q.elim
    · exact q.elim
def rIndex (K : PySem.W.Frag) : V → List V → Hp → VK → Prop := fun x xs H Q => ∃ (l : Addr) (ns : List Int) (k : Int), x = .ref l ∧ xs = [.int k] ∧ SqL K H l (ns.map V.int) ∧ k ∈ ns ∧ Q (.int (ns.idxOf k : Nat)) H
theorem mt_index : MtR X "list.index" (rIndex X.K) := by
  intro pins s σ H x xs v us Q I rx r h
  obtain ⟨l, ns, k, rfl, rfl, hl, hk, q⟩ := h
  obtain ⟨u, rfl, t, ru⟩ := vals1 r
  subst ru
  cases rx
  obtain ⟨its, rv, pl, hz⟩ := I.list hl
  have ia := intsAre_of rv
  obtain ⟨o, n, h1, h2, h3, h4⟩ := pl
  cases o
  simp only at h2 h3 h4
  subst h2 h3 h4
  have hlen := ia.length
  have hj : ns.idxOf k < ns.length := List.idxOf_lt_length_iff.mpr hk
  have hz2 : ns.length ≤ sizeLine := by simpa using hz
  refine call_meets PySem.F.slot_list_index ⟨_, h1, rfl⟩ PySem.F.entry_list_index (PySem.F.args_list_index_2 _ _)
    (SeqAt.list_indexAt l its.toArray n none _ (.int k t) (isInt k) (ns.idxOf k) (by simpa [hlen] using hj) (by have h63 := line63; omega) ?_ ?_) ⟨h1, fun y hy => (eq_isInt k t ia y (by simpa using hy)).at _ _, ⟨.int _, H, I.tok _, ⟨_, rfl⟩, q⟩⟩
  · show isInt k its[ns.idxOf k] = true
    rw [isInt_at k ia _ (by omega) hj]
    simpa using List.getElem_idxOf hj
  · intro j hjs hlt
    show isInt k its[j] = false
    rw [isInt_at k ia j (by simpa using hjs) (by simp at hjs; omega)]
    exact ne_of_lt_idxOf hlt _
theorem oIndex {o e : Expr} {apos cpos : Pos} {fo : DE → R (List D)} {f : DE → R D} (ho : PE X o (tL X.K E fo)) (he : PE X e (tB X.K E f))
    (hbase : attributeBase o "index" X.env (eval o X.env) = eval o X.env := by rfl)
    (hfew : ((backTo cpos (starEach [e] X.env)).all (fun x => !x.1) && (backToKw cpos (keywordEach [] X.env)).all (fun x => x.1.isSome)
      && decide ([e].length + ([] : List Keyword).length + (if ([] : List Keyword).isEmpty then 0 else 1) < 30)) = true := by rfl)
    (hline : (apos.endLine == cpos.line) = true := by rfl) (hst : starEach [e] X.env = (false, eval e X.env) :: starEach [] X.env := by rfl) (hplain : (backTo cpos (starEach [] X.env)).any (·.1) = false := by rfl) :
    PE X (.Call (.Attribute o "index" apos) [e] [] cpos) (tD X.K E fun env => (fo env).bind fun xs => (f env).bind fun k => indexD xs k) :=
  imp (pe_bm PySem.F.plainAttrs_list PySem.F.slot_list_index PySem.F.type_list_index mt_index ho (pa_cons he pa_nil hst) hbase hfew hline hst hplain) fun σ H Q ⟨g, env, os, r, m⟩ => ⟨g, env, os, r, m.bind.mono fun xs _ m1 l vs H1 s1 hl i => ⟨.inl ⟨rfl, vs, hl⟩, g, env, os, r.same s1, m1.bind.mono fun k _ q v H2 s2 i2 => by
    unfold indexD at q
    split at q
    · rename_i kk _
      split at q
      · rename_i ns z
        split at q
        · rename_i c
          have ex := of_toI z
          subst ex
          have ev := isl_ofI i
          subst ev
          have e2 : v = .int kk := i2
          subst e2
          exact ⟨l, ns, kk, rfl, rfl, s2.seq hl, c, q _ H2 (s1.trans s2) rfl⟩
        · exact q.elim
      · exact q.elim
    · exact q.elim⟩⟩
end
end DL

namespace DL
open PySem PySem.Spec PyProof.Rows L2
section
variable {X : Cx} {E : Str → Hp → Prop} {pos : Pos}
end
end DL

namespace DL
open PySem PySem.Spec PyProof.Rows L2
section
variable {X : Cx} {E : Str → Hp → Prop} {pos : Pos} {tg : Expr}
end
end DL

namespace DL
open PySem PySem.Spec PyProof.Rows L2
theorem cellsFrom_app : ∀ (names : List (Str × NameKind)) (n : Nat) (acc : List (Str × Addr)), cellsFrom n names acc = cellsFrom n names [] ++ acc
  | [], n, acc => rfl
  | (x, k) :: r, n, acc => by
    unfold cellsFrom
    split
    · rw [cellsFrom_app r (n + 1) ((x, n) :: acc), cellsFrom_app r (n + 1) [(x, n)], List.append_assoc]
      rfl
    · exact cellsFrom_app r n acc
theorem cellsFrom_name : ∀ (names : List (Str × NameKind)) (n : Nat) {x : Str} {c : Addr}, (x, c) ∈ cellsFrom n names [] → (x, NameKind.cell) ∈ names
  | [], n, x, c, h => by cases h
  | (y, k) :: r, n, x, c, h => by
    unfold cellsFrom at h
    split at h
    · rename_i hk
      rw [cellsFrom_app] at h
      rcases List.mem_append.mp h with z | z
      · exact List.mem_cons_of_mem _ (cellsFrom_name r (n + 1) z)
      · rw [List.mem_singleton] at z
        cases z
        have : k = .cell := by simpa using hk
        rw [this]
        exact List.mem_cons_self
    · exact List.mem_cons_of_mem _ (cellsFrom_name r n h)
theorem lk_app {α : Type} {a b : List (Str × α)} {x : Str} {c : α} (h : (a ++ b).lookup x = some c) : a.lookup x = some c ∨ (a.lookup x = none ∧ b.lookup x = some c) := by
  rw [List.lookup_append] at h
  cases q : a.lookup x with
  | some d => rw [q] at h; exact .inl h
  | none => rw [q] at h; exact .inr ⟨rfl, h⟩
theorem wpAny_newEnvCells {M : Model} {A : Around} {E : Value → Shared → Prop} {s : Shared} {scope : Scope} {globals : Addr} {cl : List (Str × Addr)} {qual : Str} {func : Option Addr} {code : Value} {around : Env} {builtins : Addr} {Q : Env → Shared → Prop}
    (hQ : Q { scope := scope, locals := s.heap.objs.size, globals := globals, cells := cellsFrom (s.heap.objs.size + 1) scope.names cl, qual := qual, func := func, code := around.code, frame := around.frame, builtins := around.builtins } { s with heap := pushCells (s.heap.push { cls := .type "dict", data := .dict #[] }) scope.names }) :
    wpAny M A (newFunctionEnv scope globals cl [] qual func code (some around) builtins) Q E s := by
  simp only [newFunctionEnv, Option.isSome_some, if_true]
  refine wpAny_bind (wpAny_alloc ?_)
  refine wpAny_bind (wpAny_layCells _ (fun name kind cells => by cases hkc : kind == NameKind.cell <;> simp [hkc]) _ _ _ _ ?_)
  rw [show ({ s with heap := s.heap.push { cls := .type "dict", data := .dict #[] } } : Shared).heap.objs.size = s.heap.objs.size + 1 from Heap.size_push ..]
  rw [List.forIn_nil]
  exact wpAny_bind (wpAny_pure (wpAny_pure hQ))
def cl2 (X : Cx) (scope : Scope) (C : Addr) : List (Str × Addr) := cellsFrom (C + 1) scope.names (clL X.env.cells scope.names [])
def cpCx2 (X : Cx) (scope : Scope) (N : List Str) (s : Shared) (H : Hp) (fp : List Addr) (C : Addr) (pl : List (Addr × Obj)) : Cx where
  prog := X.prog
  w := X.w
  K := X.K
  mg := X.mg
  base := X.base
  A := X.A
  N := N
  s₀ := s
  H₀ := H
  env := compEnvC scope (cl2 X scope C) C X.env
  outer := X.stack
  stack := X.stack
  ex := fp
  fn := fun x => scope.names.lookup x == some NameKind.cell
  calm := X.calm
  pn := pl
  xe := fun _ _ => False
structure CpScope2 (X : Cx) (scope : Scope) (N : List Str) (nt : Nat) (caps : List Nat) : Prop where
  kind : scope.kind = .function
  apart : ∀ x, scope.names.lookup x = some .free → (x, NameKind.cell) ∉ scope.names
  names : ∀ y ∈ scope.names, y.2 = .local → scope.names.lookup y.1 = some .local
  free : ∀ y ∈ scope.names, y.2 = .free → X.env.kindOf y.1 = some .cell ∨ X.env.kindOf y.1 = some .free
  len : N.length = nt + caps.length
  nd : N.Nodup
  caps : ∀ (j i : Nat), caps[j]? = some i → ∃ x, N[nt + j]? = some x ∧ X.N[i]? = some x ∧ scope.names.lookup x = some .free ∧ Vis X.env.scope x
section
variable {X : Cx} {scope : Scope} {N : List Str} {nt : Nat} {caps : List Nat} {pins : List (Addr × Obj)} {σ : St} {H : Hp} {s : Shared}
theorem CpScope2.cells (S : CpScope2 X scope N nt caps) (I : Inv X pins σ H s) : ∀ y ∈ scope.names, y.2 = .free → ∃ c, X.env.cells.lookup y.1 = some c := fun y hy hf => I.ok.has y.1 (S.free y hy hf)
theorem CpScope2.lk (S : CpScope2 X scope N nt caps) (I : Inv X pins σ H s) {x : Str} {c : Addr} (h : (clL X.env.cells scope.names []).lookup x = some c) : X.env.cells.lookup x = some c :=
  clL_lookup scope.names [] (S.cells I) (fun c e => by cases e) c h
theorem CpScope2.lk2 (S : CpScope2 X scope N nt caps) (I : Inv X pins σ H s) {C : Addr} (hC : s.heap.objs.size = C) {x : Str} {c : Addr} (h : (cl2 X scope C).lookup x = some c) :
    ((cellsFrom (C + 1) scope.names []).lookup x = some c ∧ C < c ∧ (pushCells (s.heap.push { cls := .type "dict", data := .dict #[] }) scope.names).IsCell c none) ∨ ((cellsFrom (C + 1) scope.names []).lookup x = none ∧ X.env.cells.lookup x = some c ∧ c < C) := by
  unfold cl2 at h
  rw [cellsFrom_app] at h
  have ok := cellsFrom_ok scope.names (s.heap.push { cls := .type "dict", data := .dict #[] }) (C + 1) [] ⟨fun _ _ hm => (nomatch hm), List.Pairwise.nil⟩ (by rw [Heap.size_push]; omega)
  rw [Heap.size_push, hC] at ok
  rcases lk_app h with z | ⟨z1, z⟩
  · have q := ok.empty x c (PySem.mem_of_lookup z)
    exact .inl ⟨z, q.2, q.1⟩
  · have q := S.lk I z
    refine .inr ⟨z1, q, ?_⟩
    obtain ⟨v, hv⟩ := I.cell x c q
    exact hC ▸ hv.lt
theorem CpScope2.newC (S : CpScope2 X scope N nt caps) {C : Addr} {x y : Str} {c : Addr} (h1 : (cellsFrom (C + 1) scope.names []).lookup x = some c) (h2 : (cellsFrom (C + 1) scope.names []).lookup y = some c) {h : Heap} (hC : h.objs.size = C + 1) : x = y := by
  have ok := cellsFrom_ok scope.names h (C + 1) [] ⟨fun _ _ hm => (nomatch hm), List.Pairwise.nil⟩ (by omega)
  rw [hC] at ok
  exact name_of_addr ok.apart (PySem.mem_of_lookup h1) (PySem.mem_of_lookup h2)
theorem CpScope2.start (S : CpScope2 X scope N nt caps) (I : Inv X pins σ H s) {fp : List Addr} (hf : ∀ b ∈ fp, FpOk X pins H b) {C : Addr} (hC : s.heap.objs.size = C)
    (hpin : ∀ b ∈ fp, ∃ o, s.heap.get? b = some o)
    {vs : List V} (hv : vs.length = caps.length) (hvs : ∀ (j i : Nat) (v : V), caps[j]? = some i → vs[j]? = some v → σ[i]? = some (some v)) (σ' : St) (hσ : σ' = List.replicate nt none ++ vs.map some) :
    Inv (cpCx2 X scope N s H fp C (X.pn ++ pins)) [] σ' H { s with heap := pushCells (s.heap.push { cls := .type "dict", data := .dict #[] }) scope.names } := by
  subst hσ
  have hH : ∀ b, s.heap.objs.size ≤ b → H b = none := fun b hb => I.hok.fresh hb
  have lk2 := fun {x c} (h : (cl2 X scope C).lookup x = some c) => S.lk2 I hC h
  have k : ∀ b o, s.heap.get? b = some o → (pushCells (s.heap.push { cls := .type "dict", data := .dict #[] }) scope.names).get? b = some o := fun b o e => pushCells_keeps _ _ b o (Heap.get?_push_of_some _ e)
  have hn : (pushCells (s.heap.push { cls := .type "dict", data := .dict #[] }) scope.names).Ns C (fun _ => none) := by
    rw [← hC]
    exact (Heap.Ns.new s.heap (.type "dict")).keeps (pushCells_keeps _ _)
  have ok : (cpCx2 X scope N s H fp C (X.pn ++ pins)).Ok := {
    mod := I.ok.mod
    kind := S.kind
    glob := I.ok.glob
    blt := I.ok.blt
    above := Nat.le_of_eq hC
    inj := fun x y c h1 h2 => by
      rcases lk2 h1 with ⟨a1, a2, _⟩ | ⟨_, a1, a2⟩ <;> rcases lk2 h2 with ⟨b1, b2, _⟩ | ⟨_, b1, b2⟩
      · exact S.newC a1 b1 (h := s.heap.push { cls := .type "dict", data := .dict #[] }) (by rw [Heap.size_push, hC])
      · exact absurd (Nat.lt_trans a2 b2) (Nat.lt_irrefl _)
      · exact absurd (Nat.lt_trans a2 b2) (Nat.lt_irrefl _)
      · exact I.ok.inj x y c a1 b1
    has := fun x h => by
      have h' : (relabel scope X.env).names.lookup x = some .cell ∨ (relabel scope X.env).names.lookup x = some .free := h
      have hk : scope.names.lookup x = some .free ∨ scope.names.lookup x = some .cell := by
        rcases h' with h' | h'
        · obtain ⟨k', e, q⟩ := relabel_names_kind h'
          rcases q with rfl | ⟨rfl, _⟩
          · exact .inr e
          · exact .inl e
        · obtain ⟨k', e, q⟩ := relabel_names_kind h'
          rcases q with rfl | ⟨rfl, q⟩
          · exact .inl e
          · exact .inl e
      show ∃ c, (cellsFrom (C + 1) scope.names (clL X.env.cells scope.names [])).lookup x = some c
      rw [cellsFrom_app, List.lookup_append]
      rcases hk with hk | hk
      · obtain ⟨c, hc⟩ := clL_has (cells := X.env.cells) (x := x) scope.names [] (.inr (mem_of_lookup hk))
        cases q : (cellsFrom (C + 1) scope.names []).lookup x with
        | some d => exact ⟨d, rfl⟩
        | none => exact ⟨c, hc⟩
      · have q := PySem.W.cellsFrom_some scope.names (C + 1) [] (.inl hk)
        obtain ⟨d, hd⟩ := Option.isSome_iff_exists.mp q
        rw [hd]
        exact ⟨d, rfl⟩
    cab := fun x c hx h => by
      have hk : scope.names.lookup x = some .cell := by
        have : (scope.names.lookup x == some NameKind.cell) = true := hx
        simpa using this
      rcases lk2 h with ⟨_, a2, _⟩ | ⟨a0, _, _⟩
      · show s.heap.objs.size ≤ c
        rw [hC]
        exact Nat.le_of_lt a2
      · have q := PySem.W.cellsFrom_some scope.names (C + 1) [] (.inl hk)
        obtain ⟨d, hd⟩ := Option.isSome_iff_exists.mp q
        rw [hd] at a0
        cases a0
    hd := I.ok.hd
    frames := I.ok.frames
    stk := .inl rfl
    exf := fun b hb => by
      obtain ⟨o, e⟩ := hpin b hb
      have hlt := Heap.lt_size e
      refine ⟨fun z => absurd (z ▸ hlt) (by show ¬ C < _; rw [hC]; exact Nat.lt_irrefl _), fun x c h z => ?_⟩
      rcases lk2 h with ⟨_, a2, _⟩ | ⟨_, a1, _⟩
      · rw [z] at a2
        exact absurd (Nat.lt_trans a2 (hC ▸ hlt)) (Nat.lt_irrefl _)
      · exact (hf b hb).2.2.2.2.1 x c a1 z
    bs := I.bs
    bsz := Nat.le_trans I.ok.bsz I.sz
    noex := fun b o e hb => by
      rcases (hf b hb).2.2.2.1 with z | z
      · exact I.ok.noex b o e z
      · exact absurd (Nat.lt_of_lt_of_le (Heap.lt_size e) (Nat.le_trans I.ok.bsz z)) (Nat.lt_irrefl _)
    exfs := fun b hb z => by
      rcases List.mem_cons.mp (I.stkSub b z) with q | q
      · exact (hf b hb).2.1 q
      · exact (hf b hb).2.2.1 q
    funs := I.stack
    frf := I.stkFree }
  refine ⟨ok, rfl, I.bare, Un.kept k, ⟨_, hn, fun i x v e1 e2 e3 => ?_⟩, fun x c e => ?_, hH C (Nat.le_of_eq hC), fun x c e => ?_, fun p hp => ?_, I.hok.kept k, ?_⟩
  · have hi : nt ≤ i := by
      refine Nat.le_of_not_lt fun z => ?_
      rw [List.getElem?_append_left (by simpa using z), List.getElem?_replicate] at e2
      split at e2 <;> cases e2
    rw [List.getElem?_append_right (by simpa using hi), List.getElem?_map] at e2
    have e2' : (vs[i - nt]?).map some = some (some v) := by simpa using e2
    cases q : vs[i - nt]? with
    | none => rw [q] at e2'; cases e2'
    | some v' =>
      rw [q] at e2'
      cases e2'
      have hj : i - nt < caps.length := by rw [← hv]; exact (List.getElem?_eq_some_iff.mp q).1
      obtain ⟨x', h1, h2, h3, h4⟩ := S.caps (i - nt) caps[i - nt] (List.getElem?_eq_getElem hj)
      have ex : x' = x := by
        have e1' : N[i]? = some x := e1
        rw [show nt + (i - nt) = i by omega, e1'] at h1
        exact (Option.some.inj h1).symm
      subst ex
      have hs := hvs (i - nt) _ v (List.getElem?_eq_getElem hj) q
      obtain ⟨m0, hn0, hl0⟩ := I.loc
      obtain ⟨u, r, l⟩ := hl0 _ x' v h2 hs h4
      refine ⟨u, r, ?_⟩
      have hkx := S.free _ (mem_of_lookup h3) rfl
      rcases l with ⟨k1, _⟩ | ⟨k1, c, hc, hcell⟩
      · have k1' : X.env.kindOf x' = some .local := k1
        rcases hkx with z | z
        · have z' : X.env.kindOf x' = some .cell := z
          rw [k1'] at z'; cases z'
        · have z' : X.env.kindOf x' = some .free := z
          rw [k1'] at z'; cases z'
      · obtain ⟨c', hc'⟩ := ok.has x' (by
          rcases e3 with z | z | z
          · exfalso
            obtain ⟨k', e, q⟩ := relabel_names_kind (show (relabel scope X.env).names.lookup x' = some .local from z)
            rcases q with rfl | ⟨_, q⟩
            · rw [h3] at e; cases e
            · cases q
          · exact .inl z
          · exact .inr z)
        have hc2 : X.env.cells.lookup x' = some c' := by
          rcases lk2 hc' with ⟨a1, _, _⟩ | ⟨_, a1, _⟩
          · exact absurd (cellsFrom_name _ _ (PySem.mem_of_lookup a1)) (S.apart x' h3)
          · exact a1
        rw [hc] at hc2
        cases hc2
        refine .inr ⟨?_, c, hc', let ⟨o, ho, hd⟩ := hcell; ⟨o, k _ o ho, hd⟩⟩
        rcases e3 with z | z | z
        · exfalso
          obtain ⟨k', e, q⟩ := relabel_names_kind (show (relabel scope X.env).names.lookup x' = some .local from z)
          rcases q with rfl | ⟨_, q⟩
          · rw [h3] at e; cases e
          · cases q
        · exact .inl z
        · exact .inr z
  · rcases lk2 e with ⟨_, _, a3⟩ | ⟨_, a1, _⟩
    · exact ⟨_, a3⟩
    · obtain ⟨v, z⟩ := I.cell x c a1
      exact ⟨v, let ⟨o, ho, hd⟩ := z; ⟨o, k _ o ho, hd⟩⟩
  · rcases lk2 e with ⟨_, a2, _⟩ | ⟨_, a1, _⟩
    · exact hH c (by rw [hC]; exact Nat.le_of_lt a2)
    · exact I.freeC x c a1
  · have hp' : p ∈ X.pn ++ pins := by simpa [cpCx2] using hp
    obtain ⟨e, n, ne, nf, d⟩ := I.pin p hp'
    refine ⟨k _ _ e, n, fun z => absurd (Heap.lt_size e) (by rw [z]; show ¬ C < _; rw [hC]; exact Nat.lt_irrefl _), fun z => ?_, d⟩
    rcases List.mem_cons.mp (I.stkSub _ z) with q | q
    · exact ne q
    · exact nf q
  · show (List.replicate nt none ++ vs.map some).length = N.length
    rw [S.len]; simp [hv]
end
section
variable {X : Cx} {E : Str → Hp → Prop} {pos : Pos} {scope : Scope} {N : List Str} {nt : Nat} {caps : List Nat}
theorem compRun2 {elt tg iter : Expr} {ifs : List Expr} {fi : DE → R (List D)} {b : D → DE → R DE} {ct : DE → R Bool} {fe : DE → R D} (S : CpScope2 X scope N nt caps) (hcalm : X.calm = true) (hi : PI X tg iter (tIS X.K E fi))
    (hb1 : ∀ ds d e, b d (cpE nt ds) = .ok e → ∃ ts, e = ts ++ ds.map .val ∧ ts.length = nt)
    (hg : ∀ s H fp C pl, PG (cpCx2 X scope N s H fp C pl) tg (tG X.K EN b)) (ht : ∀ s H fp C pl, PTs (cpCx2 X scope N s H fp C pl) ifs (tT X.K EN ct)) (he : ∀ s H fp C pl, PE (cpCx2 X scope N s H fp C pl) elt (tD X.K EN fe))
    (hs : ∀ x, foldedSetIterable iter X.env x = pure x) {use : Option (Value → Sem Unit)} {Qv : Value → Shared → Prop} {pins : List (Addr × Obj)} {s : Shared} {σ : St} {H : Hp} {env : DE} {os : List Addr} {g : Gh} (I : Inv X pins σ H s) (r : Rel X.K g env σ H os)
    (m : Good E g.H₀ ((fi env).bind fun xs => (capt env caps).bind fun ds => (compD b ct fe (cpE nt ds) xs).ne.bind fit) (CEnd X pins σ g os H use Qv)) {ps : Pos} :
    wpAny (model X.prog X.w) X.A (comprehension (.ListComp elt [⟨tg, iter, ifs, 0⟩] scope pos) scope X.env ps (newList []) false (eval iter X.env) use) Qv X.xe s := by
  refine wpAny_comprehension_free (use := use) rfl hs (closureFor_eq (S.cells I)) S.kind S.names ?_
  refine thn (hi pins s σ H (fun J H1 => ∃ xs, Same H H1 ∧ Yls X.K (g.P os) J H1 xs ∧ Good E g.H₀ ((capt env caps).bind fun ds => (compD b ct fe (cpE nt ds) xs).ne.bind fit) _) I ⟨g, env, os, r, m.bind.mono fun xs _ m1 J H1 s1 yl => ⟨xs, s1, yl, m1⟩⟩) fun v s1 h1 => thn h1 fun itv s2 h2 => ?_
  obtain ⟨it, fp, tn, J, H2, rfl, I2, T, st2, f2, xs, s12, yl, m1⟩ := h2
  have r2 := r.same s12
  obtain ⟨ds, vs, m2, hvl, hdl, hds, hvs⟩ := m1.bind.capt r2
  cases ec : compD b ct fe (cpE nt ds) xs with
  | bad => rw [ec] at m2; exact m2.elim
  | err c => rw [ec] at m2; exact m2.elim
  | ok ys =>
  rw [ec] at m2
  obtain ⟨hz, q⟩ := (show Good E g.H₀ (fit ys) _ from m2).fit
  refine wpAny_newObj_type (wpAny_newEnvCells ?_)
  dsimp only
  -- the list that grows stands at Dd, the block's names at C
  have hDn : H2 s2.heap.objs.size = none := I2.hok.fresh (Nat.le_refl _)
  have I3 : Inv X pins σ (upd H2 s2.heap.objs.size (.lst [])) { s2 with heap := s2.heap.push { cls := .type "list", dict := none, data := .seq ([] : List Value).toArray } } :=
    I2.laid (t' := s2.toks) (fun b u e => Heap.get?_push_of_some _ e) (Nat.le_refl _) ⟨Nat.zero_le _, [], 0, .nil, Heap.get?_push_size _ rfl⟩
  generalize hs3 : ({ s2 with heap := s2.heap.push { cls := .type "list", dict := none, data := .seq ([] : List Value).toArray } } : Shared) = s3 at I3
  have hh3 : s3.heap = s2.heap.push { cls := .type "list", dict := none, data := .seq ([] : List Value).toArray } := by rw [← hs3]
  rw [← hh3]
  generalize hDd : s2.heap.objs.size = Dd at *
  have k3 : ∀ b o, s3.heap.get? b = some o → (pushCells (s3.heap.push { cls := .type "dict", data := .dict #[] }) scope.names).get? b = some o := fun b o e => pushCells_keeps _ _ b o (Heap.get?_push_of_some _ e)
  have hfpo : ∀ b ∈ fp, ∃ o, s2.heap.get? b = some o := fun b hb => let ⟨o, e, _⟩ := T.obj 0 _ st2 b hb; ⟨o, e⟩
  have hfp3 : ∀ b ∈ fp, ∃ o, s3.heap.get? b = some o := fun b hb => let ⟨o, e⟩ := hfpo b hb; ⟨o, by rw [hh3]; exact Heap.get?_push_of_some _ e⟩
  have hfD : ∀ b ∈ fp, b ≠ Dd := fun b hb => let ⟨o, e⟩ := hfpo b hb; by rw [← hDd]; exact Nat.ne_of_lt (Heap.lt_size e)
  have f3 : ∀ b ∈ fp, FpOk X pins (upd H2 Dd (.lst [])) b := fun b hb => ⟨by rw [upd_ne (hfD b hb)]; exact (f2 b hb).1, (f2 b hb).2⟩
  have sD : Same H2 (upd H2 Dd (.lst [])) := same_new hDn _
  have I4 := S.start I3 f3 rfl hfp3 hvl (fun j i v e1 e2 => hvs j i v e1 e2) _ rfl
  generalize hX : cpCx2 X scope N s3 (upd H2 Dd (.lst [])) fp s3.heap.objs.size (X.pn ++ pins) = X' at I4
  have hg' := hg s3 (upd H2 Dd (.lst [])) fp s3.heap.objs.size (X.pn ++ pins)
  have ht' := ht s3 (upd H2 Dd (.lst [])) fp s3.heap.objs.size (X.pn ++ pins)
  have he' := he s3 (upd H2 Dd (.lst [])) fp s3.heap.objs.size (X.pn ++ pins)
  rw [hX] at hg' ht' he'
  have eK : X'.K = X.K := by rw [← hX]; rfl
  have eP : X'.prog = X.prog := by rw [← hX]; rfl
  have eW : X'.w = X.w := by rw [← hX]; rfl
  have eA : X'.A = X.A := by rw [← hX]; rfl
  have eE : X'.xe = fun _ _ => False := by rw [← hX]; rfl
  have eC : X'.calm = true := by rw [← hX]; exact hcalm
  have eL : X'.env.locals = s3.heap.objs.size := by rw [← hX]; rfl
  have eS : X'.s₀ = s3 := by rw [← hX]; rfl
  have eX : X'.ex = fp := by rw [← hX]; rfl
  have eF : X'.fs = frs X.stack := by rw [← hX]; rfl
  have eN : X'.pn = X.pn ++ pins := by rw [← hX]; rfl
  have eH : X'.H₀ = upd H2 Dd (.lst []) := by rw [← hX]; rfl
  have eV : X'.env = compEnvC scope (cl2 X scope s3.heap.objs.size) s3.heap.objs.size X.env := by rw [← hX]; rfl
  -- the iterator's objects through the block
  have fpX : ∀ {Hx : Hp}, (∀ b ∈ fp, Hx b = none) → ∀ b ∈ fp, FpOk X' [] Hx b := fun {Hx} hn b hb => by
    obtain ⟨_, c1, c2, c3, c4, c5⟩ := f3 b hb
    have q := I4.ok.exf b (by rw [eX]; exact hb)
    refine ⟨hn b hb, q.1, I4.ok.exfs b (by rw [eX]; exact hb), .inl (by rw [eX]; exact hb), q.2, fun p hp => ?_⟩
    rw [eN, List.append_nil] at hp
    exact c5 p hp
  let g' : Gh := ⟨g.P os, H2⟩
  have exP : ∀ {Hx : Hp}, Same H2 Hx → Ext (g.P os) (g'.P [Dd]) H2 Hx := fun sx => ⟨fun a o p e => ⟨.inl p, fun z => by
    have z' : a = Dd := by simpa using z
    rw [z', hDn] at e; cases e⟩, fun a o _ e => sx a o e⟩
  have rel0 : Rel X.K g' (cpE nt ds) (List.replicate nt none ++ vs.map some) (upd H2 Dd (.lst [])) [Dd] := by
    refine ⟨by simp [cpE, hvl, hdl], sD, fun i d e => ?_, fun i xs e => (cpE_own e).elim, fun i j xs ys b e => (cpE_own e).elim, fun b hb => ?_, fun i w e => (cpE_raw e).elim, Deep.none fun i w e => cpE_deep e⟩
    · obtain ⟨h1, h2⟩ := cpE_get e
      obtain ⟨v, q1, q2⟩ := hds.get h2
      refine ⟨v, ?_, Is.ext (exP sD) _ _ q2⟩
      rw [List.getElem?_append_right (by simpa using h1), List.getElem?_map, List.length_replicate, q1] <;> rfl
    · have e : b = Dd := by simpa using hb
      subst e
      exact ⟨hDn, _, upd_same⟩
  have loop : ∀ s4 : Shared, Inv X' [] (List.replicate nt none ++ vs.map some) (upd H2 Dd (.lst [])) s4 → tn 0 s4.heap →
      codeAny (model X.prog X.w) X.A (.compLoop (.ListComp elt [⟨tg, iter, ifs, 0⟩] scope pos) 0 (.ref it) (.ref Dd) (compEnvC scope (cl2 X scope s3.heap.objs.size) s3.heap.objs.size X.env))
        (compPost (model X.prog X.w) X.A X.xe use Qv (.ref Dd) s3.heap.objs.size) s4 := by
    intro s4 J4 st4
    refine compLoop_go (fun n s' => ∃ i acc as rest Hx σ', n = xs.length - i ∧ i ≤ xs.length ∧ Inv X' [] σ' Hx s' ∧ tn i s'.heap ∧ (∀ b ∈ fp, Hx b = none) ∧ Hx Dd = some (.lst acc) ∧ IsL X.K (g'.P [Dd]) Hx as acc ∧
      compD b ct fe (cpE nt ds) (xs.drop i) = .ok rest ∧ as ++ rest = ys ∧ Rel X.K g' (cpE nt ds) σ' Hx [Dd]) ?_ xs.length
      ⟨0, [], [], ys, _, _, by simp, Nat.zero_le _, J4, st4, fun b hb => (f3 b hb).1, upd_same, rfl, by rw [List.drop_zero]; exact ec, rfl, rel0⟩
    rintro n s5 ⟨i, acc, as, rest, Hx, σ5, rfl, hi5, J5, st5, fr5, hD5, ia5, c5, e5, r5⟩
    obtain ⟨y1, y2⟩ := yl i Hx (g'.P [Dd]) r5.ext (exP r5.ext)
    by_cases hlt : i < xs.length
    · have hx : xs[i]? = some xs[i] := List.getElem?_eq_getElem hlt
      obtain ⟨go, y3⟩ := y1 _ hx
      rw [List.drop_eq_getElem_cons hlt] at c5
      obtain ⟨e1, hb5, c6⟩ := R.bind_ok (show (b xs[i] (cpE nt ds)).bind _ = .ok rest from c5)
      obtain ⟨t, ht5, c7⟩ := R.bind_ok c6
      have TI := T.item X' eP eW eK eC i [] s5 σ5 Hx (fun _ _ => False) J5 (fpX fr5) st5 go
      rw [eA] at TI
      refine thn TI fun r s6 h6 => ?_
      obtain ⟨u, rfl, h6⟩ := h6
      refine thn h6 fun _ s7 h7 => ?_
      obtain ⟨x, H7, J7, rx, hy, st7, fr7⟩ := h7
      obtain ⟨s57, hix⟩ := y3 x H7 hy
      have ix : Is X.K (g'.P [Dd]) H7 xs[i] x := Is.ext ⟨fun a o p _ => p.elim (fun z => z) fun z => r5.fresh z, fun _ _ _ z => z⟩ _ _ hix
      have J7' := J7.pinned (fpX fr7) (T.obj _ _ st7)
      have TG := hg' _ s7 σ5 H7 x u (fun σ8 H8 => ∃ e8, b xs[i] (cpE nt ds) = .ok e8 ∧ Rel X.K g' e8 σ8 H8 [Dd] ∧ H8 = H7) J7' rx ⟨g', cpE nt ds, [Dd], xs[i], r5.same s57, ix, good_ok hb5 fun σ8 r8 => ⟨e1, hb5, r8, rfl⟩⟩
      rw [eP, eW, eA, eE, eV] at TG
      refine thn TG fun _ s8 h8 => ?_
      obtain ⟨σ8, H8, J8, e8, hb8, r8, hH8⟩ := h8
      rw [hH8] at J8 r8
      rw [hb5] at hb8
      cases hb8
      have TT := ht' _ s8 σ8 H7 (fun t' H9 => t' = t ∧ Same H7 H9) J8 ⟨g', e1, [Dd], r8, good_ok ht5 fun H9 s9 => ⟨rfl, s9⟩⟩
      rw [eP, eW, eA, eE, eV] at TT
      refine thn TT fun ok s9 h9 => ?_
      obtain ⟨H9, J9, rfl, s79⟩ := h9
      obtain ⟨ts, hts, htl⟩ := hb1 ds _ _ hb5
      have keepT : ∀ {σx : St} {Hy : Hp} {sx : Shared}, Inv X' ([] ++ pinsAt fp s7.heap) σx Hy sx → tn (i + 1) sx.heap ∧ ∀ b ∈ fp, Hy b = none := fun {σx Hy sx} Jx =>
        ⟨T.keep _ _ _ st7 fun b hb o e => (Jx.pin (b, o) (List.mem_append_right _ (List.mem_append_right _ (mem_pinsAt hb e)))).1, fun b hb => by
          obtain ⟨o, e, d⟩ := T.obj _ _ st7 b hb
          exact (Jx.pin (b, o) (List.mem_append_right _ (List.mem_append_right _ (mem_pinsAt hb e)))).2.1⟩
      cases ok with
      | false =>
        rw [if_neg Bool.false_ne_true]
        have c8 : compD b ct fe (cpE nt ds) (xs.drop (i + 1)) = .ok rest := c7
        obtain ⟨k1, k2⟩ := keepT J9
        exact ⟨xs.length - (i + 1), by omega, i + 1, acc, as, rest, H9, σ8, rfl, hlt, J9.unpinned, k1, k2, s79 _ _ (s57 _ _ hD5), (ia5.same s57).same s79, c8, e5,
          rel_cpE r8 hts htl (.same s79) (r8.ext.trans s79) ⟨_, s79 _ _ (s57 _ _ hD5)⟩⟩
      | true =>
        rw [if_pos rfl]
        obtain ⟨d, he5, c8⟩ := R.bind_ok (show (fe e1).bind _ = .ok rest from c7)
        obtain ⟨rest', hr5, c9⟩ := R.bind_ok c8
        have c9' : rest = d :: rest' := by cases c9; rfl
        subst c9'
        have TE := he' _ s9 σ8 H9 (fun v H10 => Same H9 H10 ∧ Is X.K (g'.P [Dd]) H10 d v) J9 ⟨g', e1, [Dd], r8.same s79, good_ok he5 fun v H10 s10 i10 => ⟨s10, i10⟩⟩
        rw [eP, eW, eA, eE, eV] at TE
        refine thn TE fun y s10 h10 => ?_
        obtain ⟨v, H10, J10, rv, s910, iv⟩ := h10
        have hD10 : H10 Dd = some (.lst acc) := s910 _ _ (s79 _ _ (s57 _ _ hD5))
        have ia10 : IsL X.K (g'.P [Dd]) H10 as acc := ((ia5.same s57).same s79).same s910
        have TM := mt_append (X := X') _ s10 σ8 H10 (.ref Dd) [v] (.ref Dd) [y] (fun _ H11 => H11 = upd H10 Dd (.lst (acc ++ [v]))) J10 rfl (.cons rv .nil) ⟨Dd, acc, v, rfl, rfl, hD10, by
          rw [ia10.length]
          have : (as ++ d :: rest').length ≤ sizeLine := by rw [e5]; exact hz
          rw [List.length_append, List.length_cons] at this
          omega, rfl⟩
        rw [eP, eW, eA, eE] at TM
        refine thn TM fun _ s11 h11 => ?_
        obtain ⟨v', H11, J11, _, rfl⟩ := h11
        obtain ⟨k1, k2⟩ := keepT J11
        have exD : Ext (g'.P [Dd]) (g'.P [Dd]) H10 (upd H10 Dd (.lst (acc ++ [v]))) := ⟨fun _ _ p _ => p, fun a o p e => by rw [upd_ne (fun z => p.2 (by simp [z]))]; exact e⟩
        have s10' : Same H2 H10 := (r8.ext.trans s79).trans s910
        refine ⟨xs.length - (i + 1), by omega, i + 1, acc ++ [v], as ++ [d], rest', _, σ8, rfl, hlt, J11.unpinned, k1, k2, upd_same, IsL.ext exD _ _ (ia10.app (.one iv)), hr5, by rw [List.append_assoc]; exact e5, ?_⟩
        exact rel_cpE (r8.same (s79.trans s910)) hts htl exD (fun a o e => by rw [upd_ne (ne_of_none (show H2 a = some o from e) hDn)]; exact s10' a o e) ⟨_, upd_same⟩
    · have e : i = xs.length := by omega
      subst e
      rw [List.drop_length] at c5
      have c5' : rest = [] := by cases c5; rfl
      subst c5'
      rw [List.append_nil] at e5
      subst e5
      have TD := T.done X' eP eW eK eC xs.length [] s5 σ5 Hx (fun _ _ => False) J5 (fpX fr5) st5 (y2 rfl)
      rw [eA] at TD
      refine thn TD fun r s6 h6 => ?_
      obtain ⟨rfl, J6⟩ := h6
      obtain ⟨m6, hn6, _⟩ := J6.loc
      rw [eL] at hn6
      have un6 : Un (frs X.stack) fp (upd H2 Dd (.lst [])) Hx s3.heap s6.heap := by
        have u := J6.base
        rw [eF, eX, eH, eS] at u
        exact u
      have hxC : Hx s3.heap.objs.size = none := by have := J6.free; rw [eL] at this; exact this
      have hok6 : HOk X.prog X.w Hx s6.heap := by
        have z := J6.hok
        rw [eP, eW] at z
        exact z
      have os6 : s6.os = s3.os := by have := J6.os; rw [eS] at this; exact this
      have I6 : Inv X pins σ Hx s6 := I3.call' (s' := s6) os6 un6 hok6 J6.bare fun b hb => by
        obtain ⟨_, c1, c2, c3, c4, c5⟩ := f3 b hb
        exact ⟨c3, c1, c4, c5⟩
      have fC : FpOk X pins Hx s3.heap.objs.size := ⟨hxC, (I3.fpOk (Nat.le_refl _) (I3.hok.fresh (Nat.le_refl _))).2⟩
      refine q Dd s3.heap.objs.size acc Hx s6 I6 ⟨m6, hn6⟩ fC (s12.trans r5.ext) (s12.free hDn) hD5 (IsL.ext ⟨fun a o p _ => ?_, fun _ _ _ z => z⟩ _ _ ia5)
      have z : g.P os a := p.1.elim (fun z => z) fun z => r2.fresh z
      exact ⟨z.1, fun hm => (List.mem_cons.mp hm).elim (fun z => p.2 (by simp [z])) z.2⟩
  have st4 : tn 0 (pushCells (s3.heap.push { cls := .type "dict", data := .dict #[] }) scope.names) := T.keep _ _ _ st2 fun b hb o e => k3 b o (by rw [hh3]; exact Heap.get?_push_of_some _ e)
  have eG : ({ s3 with heap := pushCells (s3.heap.push { cls := .type "dict", data := .dict #[] }) scope.names } : Shared) = { s2 with heap := pushCells (s3.heap.push { cls := .type "dict", data := .dict #[] }) scope.names } := by rw [← hs3]
  rw [eG] at I4
  exact codeAny_compStart_list (loop _ I4 st4) (T.self _ 0 _ _ _ st4 (loop _ I4 st4))
variable {elt tg iter : Expr} {ifs : List Expr} {fi : DE → R (List D)} {b : D → DE → R DE} {ct : DE → R Bool} {fe : DE → R D}
theorem lComp2 (S : CpScope2 X scope N nt caps) (hcalm : X.calm = true) (hi : PI X tg iter (tIS X.K E fi))
    (hb1 : ∀ ds d e, b d (cpE nt ds) = .ok e → ∃ ts, e = ts ++ ds.map .val ∧ ts.length = nt)
    (hg : ∀ s H fp C pl, PG (cpCx2 X scope N s H fp C pl) tg (tG X.K EN b)) (ht : ∀ s H fp C pl, PTs (cpCx2 X scope N s H fp C pl) ifs (tT X.K EN ct)) (he : ∀ s H fp C pl, PE (cpCx2 X scope N s H fp C pl) elt (tD X.K EN fe))
    (hs : ∀ x, foldedSetIterable iter X.env x = pure x := by intro _; rfl) :
    PE X (.ListComp elt [⟨tg, iter, ifs, 0⟩] scope pos) (tF X.K E fun env => (fi env).bind fun xs => (capt env caps).bind fun ds => (compD b ct fe (cpE nt ds) xs).ne.bind fit) := by
  intro pins s σ H Q I h
  obtain ⟨g, env, os, r, m⟩ := h
  rw [eval_ListComp]
  refine compRun2 S hcalm hi hb1 hg ht he hs I r (m.mono fun ys _ q Dd C acc Hx s6 I6 hn fC sm hD hx ia => ?_)
  obtain ⟨m6, hn6⟩ := hn
  refine ⟨m6, hn6, fun h7 hs7 => ⟨.ref Dd, Hx, turnL (fp := [C]) (t' := s6.toks) I6 (fun b hb => by
    have z : b = C := by simpa using hb
    rw [z]; exact fC) (fun b u hb e => (hs7.2 b (fun z => hb (by simp [z]))).trans e), rfl, q Dd acc Hx sm hD hx ia⟩⟩
end

def cpChk2 (osc sc : Scope) (XN N : List Str) (nt : Nat) (caps : List Nat) : Bool :=
  sc.kind == .function && sc.names.all (fun y => (y.2 != .free || sc.names.all fun z => !(z.1 == y.1 && z.2 == .cell)) && (y.2 != .local || sc.names.lookup y.1 == some .local) && (y.2 != .free || osc.names.lookup y.1 == some .cell || osc.names.lookup y.1 == some .free)) &&
  N.length == nt + caps.length && decide N.Nodup && (List.range caps.length).all fun j => match caps[j]?, N[nt + j]? with
    | some i, some x => XN[i]? == some x && sc.names.lookup x == some .free && (osc.names.lookup x == some .local || osc.names.lookup x == some .cell || osc.names.lookup x == some .free)
    | _, _ => false
theorem cpS2 {X : Cx} {sc : Scope} {N : List Str} {nt : Nat} {caps : List Nat} (osc : Scope) (XN : List Str) (h : cpChk2 osc sc XN N nt caps = true) (hsc : X.env.scope = osc := by rfl) (hN : X.N = XN := by rfl) : CpScope2 X sc N nt caps := by
  subst hsc hN
  unfold cpChk2 at h
  simp only [Bool.and_eq_true, List.all_eq_true, Bool.or_eq_true, decide_eq_true_eq, beq_iff_eq, bne_iff_ne, ne_eq, Bool.not_eq_true', Bool.and_eq_false_iff, beq_eq_false_iff_ne] at h
  obtain ⟨⟨⟨⟨h1, h2⟩, h3⟩, h4⟩, h5⟩ := h
  refine ⟨by simpa using h1, fun x hx hm => ?_, fun y hy e => ?_, fun y hy e => ?_, h3, h4, fun j i e => ?_⟩
  · rcases (h2 _ (mem_of_lookup hx)).1.1 with q | q
    · exact q rfl
    · rcases q _ hm with z | z
      · exact z rfl
      · exact z rfl
  · rcases (h2 y hy).1.2 with q | q
    · exact absurd e q
    · exact q
  · rcases (h2 y hy).2 with (q | q) | q
    · exact absurd e q
    · exact .inl q
    · exact .inr q
  · have hj : j < caps.length := (List.getElem?_eq_some_iff.mp e).1
    have q := h5 j (by simpa using hj)
    rw [e] at q
    cases hx : N[nt + j]? with
    | none => rw [hx] at q; exact absurd q (by simp)
    | some x =>
      rw [hx] at q
      simp only [Bool.and_eq_true, Bool.or_eq_true, beq_iff_eq] at q
      obtain ⟨⟨q1, q2⟩, q3⟩ := q
      refine ⟨x, rfl, q1, q2, ?_⟩
      rcases q3 with (q3 | q3) | q3
      · exact .inl q3
      · exact .inr (.inl q3)
      · exact .inr (.inr q3)
end DL

namespace DL
open PySem PySem.Spec PyProof.Rows L2
section
variable {K : PySem.W.Frag} {g : Gh} {env : DE} {σ : St} {H H' : Hp} {os : List Addr}
theorem get_set_ne' {α : Type} {l : List α} {i j : Nat} {x y : α} (e : (l.set i x)[j]? = some y) (h : y ≠ x) : i ≠ j ∧ l[j]? = some y := by
  by_cases hj : i = j
  · subst hj
    exact (h (get_set_eq e)).elim
  · rw [List.getElem?_set_ne hj] at e
    exact ⟨hj, e⟩
theorem map_ref_inj : ∀ {a b : List Addr}, a.map V.ref = b.map V.ref → a = b
  | [], [], _ => rfl
  | [], _ :: _, h => by cases h
  | _ :: _, [], h => by cases h
  | x :: a, y :: b, h => by
    injection h with h1 h2
    injection h1 with h1
    rw [h1, map_ref_inj h2]
theorem Rel.off (r : Rel K g env σ H os) (i : Nat) (x : Option V) : Rel K g (env.set i .no) (σ.set i x) H os := by
  have f : ∀ (j : Nat) (sl : Sl), (env.set i Sl.no)[j]? = some sl → sl ≠ .no → i ≠ j ∧ env[j]? = some sl := fun j sl q hn => get_set_ne' q hn
  refine ⟨by simp [r.len], r.ext, fun j d q => ?_, fun j xs q => ?_, fun j k xs ys a q1 q2 q3 q4 => ?_, r.new, fun j v q => ?_, ?_⟩
  · obtain ⟨hj, q⟩ := f j _ q (fun z => nomatch z)
    obtain ⟨v, h1, h2⟩ := r.val j d q
    exact ⟨v, by rw [List.getElem?_set_ne hj]; exact h1, h2⟩
  · obtain ⟨hj, q⟩ := f j _ q (fun z => nomatch z)
    obtain ⟨a, vs, h1, h2⟩ := r.own j xs q
    exact ⟨a, vs, by rw [List.getElem?_set_ne hj]; exact h1, h2⟩
  · obtain ⟨hj, q1⟩ := f j _ q1 (fun z => nomatch z)
    obtain ⟨hk, q2⟩ := f k _ q2 (fun z => nomatch z)
    rw [List.getElem?_set_ne hj] at q3
    rw [List.getElem?_set_ne hk] at q4
    exact r.inj j k xs ys a q1 q2 q3 q4
  · obtain ⟨hj, q⟩ := f j _ q (fun z => nomatch z)
    rw [List.getElem?_set_ne hj]
    exact r.raw j v q
  · obtain ⟨A, dd⟩ := r.dps
    refine ⟨A, dd.to (fun j nss q => ?_) (fun j xs b q z => ?_) fun j nss q x hx => ⟨(dd.mem q x hx).1, rfl⟩⟩
    · obtain ⟨hj, q⟩ := f j _ q (fun z => nomatch z)
      exact ⟨q, by rw [List.getElem?_set_ne hj]⟩
    · obtain ⟨hj, q⟩ := f j _ q (fun z => nomatch z)
      rw [List.getElem?_set_ne hj] at z
      exact .inl ⟨xs, q, z⟩
theorem set_get {α : Type} {l : List α} {i : Nat} {x : α} (h : l[i]? = some x) : l.set i x = l := by
  refine List.ext_getElem? fun j => ?_
  by_cases hj : i = j
  · subst hj
    rw [List.getElem?_set_self (List.getElem?_eq_some_iff.mp h).1, h]
  · rw [List.getElem?_set_ne hj]
theorem Rel.off0 (r : Rel K g env σ H os) (i : Nat) : Rel K g (env.set i .no) σ H os := by
  cases h : σ[i]? with
  | none =>
    have hl : ¬ i < env.length := fun z => by
      rw [← r.len] at z
      rw [List.getElem?_eq_getElem z] at h
      cases h
    rw [List.set_eq_of_length_le (by omega)]
    exact r
  | some x =>
    have := r.off i x
    rwa [set_get h] at this
theorem Rel.aparts (r : Rel K g env σ H os) {l : List Addr} (s : Same H H') (hn : ∀ a ∈ l, H a = none) : Ext (g.P os) (g.P (l ++ os)) H H' :=
  ⟨fun b o p e => ⟨p.1, fun hm => by
    rcases List.mem_append.mp hm with z | z
    · rw [hn b z] at e; cases e
    · exact p.2 z⟩, fun b o _ e => s b o e⟩
theorem Rel.setD (r : Rel K g env σ H os) (s : Same H H') (i : Nat) {nss : List (List Int)} {a : Addr} {as : List Addr} (hn : ∀ b ∈ a :: as, H b = none) (nd : (a :: as).Nodup) (hl : as.length = nss.length) (hH : H' a = some (.lst (as.map V.ref)))
    (hi : ∀ (k : Nat) (b : Addr) (ns : List Int), as[k]? = some b → nss[k]? = some ns → H' b = some (.lst (ns.map V.int))) :
    Rel K g (env.set i (.deep nss)) (σ.set i (some (.ref a))) H' ((a :: as) ++ os) := by
  have ap := r.aparts s hn
  have f : ∀ (j : Nat) (sl : Sl), (env.set i (Sl.deep nss))[j]? = some sl → sl ≠ .deep nss → i ≠ j ∧ env[j]? = some sl := fun j sl q hn => get_set_ne' q hn
  have dp : Dp H' ((a :: as) ++ os) a as nss := ⟨by simp, hH, hl, nd, fun k b ns e1 e2 => ⟨List.mem_append_left _ (List.mem_cons_of_mem _ (List.mem_of_getElem? e1)), hi k b ns e1 e2⟩⟩
  have hnew : ∀ x ∈ a :: as, x ∉ os := fun x hx hm => by
    obtain ⟨o, ho⟩ := (r.new x hm).2
    rw [hn x hx] at ho
    cases ho
  refine ⟨by simp [r.len], r.ext.trans s, fun j d q => ?_, fun j xs q => ?_, fun j k xs ys b q1 q2 q3 q4 => ?_, fun b hb => ?_, fun j v q => ?_, ?_⟩
  · obtain ⟨hj, q⟩ := f j _ q (fun z => nomatch z)
    obtain ⟨v, h1, h2⟩ := r.val j d q
    exact ⟨v, by rw [List.getElem?_set_ne hj]; exact h1, Is.ext ap _ _ h2⟩
  · obtain ⟨hj, q⟩ := f j _ q (fun z => nomatch z)
    obtain ⟨b, vs, h1, h2, h3, h4⟩ := r.own j xs q
    exact ⟨b, vs, by rw [List.getElem?_set_ne hj]; exact h1, List.mem_append_right _ h2, s _ _ h3, IsL.ext ap _ _ h4⟩
  · obtain ⟨hj, q1⟩ := f j _ q1 (fun z => nomatch z)
    obtain ⟨hk, q2⟩ := f k _ q2 (fun z => nomatch z)
    rw [List.getElem?_set_ne hj] at q3
    rw [List.getElem?_set_ne hk] at q4
    exact r.inj j k xs ys b q1 q2 q3 q4
  · rcases List.mem_append.mp hb with z | z
    · exact ⟨r.ext.free (hn b z), (dp.mem b z).2⟩
    · obtain ⟨h1, o, h2⟩ := r.new b z
      exact ⟨h1, o, s _ _ h2⟩
  · obtain ⟨hj, q⟩ := f j _ q (fun z => nomatch z)
    rw [List.getElem?_set_ne hj]
    exact r.raw j v q
  · obtain ⟨A, dd⟩ := r.dps
    refine ⟨fun j => if j = i then a :: as else A j, fun j mss q => ?_, fun j mss k xs b q1 q2 q3 => ?_, fun j k mss lss hjk q1 q2 x hx => ?_⟩
    · by_cases hj : j = i
      · subst hj
        have z := get_set_eq q
        cases z
        exact ⟨a, as, if_pos rfl, by rw [List.getElem?_set_self (by rw [r.len]; exact lt_of_set q)], dp⟩
      · have q' := q
        rw [List.getElem?_set_ne (Ne.symm hj)] at q'
        obtain ⟨b, bs, h1, h2, h3⟩ := dd.dp j mss q'
        refine ⟨b, bs, by rw [if_neg hj]; exact h1, by rw [List.getElem?_set_ne (Ne.symm hj)]; exact h2, h3.to fun x hx => ?_⟩
        obtain ⟨z1, o, z2⟩ := h3.mem x hx
        exact ⟨List.mem_append_right _ z1, by rw [s x o z2, z2]⟩
    · obtain ⟨hk, q2⟩ := f k _ q2 (fun z => nomatch z)
      rw [List.getElem?_set_ne hk] at q3
      show b ∉ if j = i then a :: as else A j
      by_cases hj : j = i
      · rw [if_pos hj]
        obtain ⟨c, vs, h1, h2, _⟩ := r.own k xs q2
        rw [q3] at h1
        cases h1
        exact fun z => hnew b z h2
      · rw [if_neg hj]
        rw [List.getElem?_set_ne (Ne.symm hj)] at q1
        exact dd.ow j mss k xs b q1 q2 q3
    · show x ∉ if k = i then a :: as else A k
      have hx' : x ∈ if j = i then a :: as else A j := hx
      by_cases hj : j = i
      · have hk : k ≠ i := fun z => hjk (by rw [hj, z])
        rw [if_pos hj] at hx'
        rw [if_neg hk]
        rw [List.getElem?_set_ne (Ne.symm hk)] at q2
        exact fun z => hnew x hx' (dd.mem q2 x z).1
      · rw [if_neg hj] at hx'
        rw [List.getElem?_set_ne (Ne.symm hj)] at q1
        by_cases hk : k = i
        · rw [if_pos hk]
          exact fun z => hnew x z (dd.mem q1 x hx').1
        · rw [if_neg hk]
          rw [List.getElem?_set_ne (Ne.symm hk)] at q2
          exact dd.dj j k mss lss hjk q1 q2 x hx'
theorem Rel.mutD (r : Rel K g env σ H os) {i : Nat} {nss : List (List Int)} (e : env[i]? = some (.deep nss)) {a : Addr} {as : List Addr} (hσ : σ[i]? = some (some (.ref a))) (ha : H a = some (.lst (as.map V.ref))) {k : Nat} {b : Addr} {ns : List Int} (hk : as[k]? = some b) (hns : k < nss.length) (ns' : List Int) :
    b ∈ os ∧ Rel K g (env.set i (.deep (nss.set k ns'))) σ (upd H b (.lst (ns'.map V.int))) os := by
  obtain ⟨A, dd⟩ := r.dps
  obtain ⟨a0, as0, hA, h1, h3⟩ := dd.dp i nss e
  rw [hσ] at h1
  cases h1
  have has : as0 = as := by
    have z := h3.ha
    rw [ha] at z
    have z2 : as.map V.ref = as0.map V.ref := by injection z with z; injection z
    exact (map_ref_inj z2).symm
  subst has
  have hbos : b ∈ os := (h3.it k b nss[k] hk (List.getElem?_eq_getElem hns)).1
  have hbA : b ∈ A i := by rw [hA]; exact List.mem_cons_of_mem _ (List.mem_of_getElem? hk)
  refine ⟨hbos, ?_⟩
  have ex : Ext (g.P os) (g.P os) H (upd H b (.lst (ns'.map V.int))) := ⟨fun _ _ p _ => p, fun c o p q => by rw [upd_ne (fun z => p.2 (by rw [z]; exact hbos))]; exact q⟩
  have f : ∀ (j : Nat) (sl : Sl), (env.set i (Sl.deep (nss.set k ns')))[j]? = some sl → sl ≠ .deep (nss.set k ns') → i ≠ j ∧ env[j]? = some sl := fun j sl q hn => get_set_ne' q hn
  have hba : b ≠ a := fun z => (List.nodup_cons.mp h3.nd).1 (by rw [← z]; exact List.mem_of_getElem? hk)
  refine ⟨by simp [r.len], fun c o q => ?_, fun j d q => ?_, fun j xs q => ?_, fun j k xs ys c q1 q2 q3 q4 => ?_, fun c hc => ?_, fun j v q => ?_, ?_⟩
  · rw [upd_ne (fun z => by rw [z, (r.new b hbos).1] at q; cases q)]
    exact r.ext c o q
  · obtain ⟨hj, q⟩ := f j _ q (fun z => nomatch z)
    obtain ⟨v, h1, h2⟩ := r.val j d q
    exact ⟨v, h1, Is.ext ex _ _ h2⟩
  · obtain ⟨hj, q⟩ := f j _ q (fun z => nomatch z)
    obtain ⟨c, vs, h1, h2, h3', h4⟩ := r.own j xs q
    have hcb : c ≠ b := fun z => dd.ow i nss j xs c e q h1 (by rw [z]; exact hbA)
    exact ⟨c, vs, h1, h2, by rw [upd_ne hcb]; exact h3', IsL.ext ex _ _ h4⟩
  · obtain ⟨hj, q1⟩ := f j _ q1 (fun z => nomatch z)
    obtain ⟨hk, q2⟩ := f k _ q2 (fun z => nomatch z)
    exact r.inj j k xs ys c q1 q2 q3 q4
  · obtain ⟨z1, o, z2⟩ := r.new c hc
    refine ⟨z1, ?_⟩
    by_cases z : c = b
    · exact ⟨_, by rw [z]; exact upd_same⟩
    · exact ⟨o, by rw [upd_ne z]; exact z2⟩
  · obtain ⟨hj, q⟩ := f j _ q (fun z => nomatch z)
    exact r.raw j v q
  · have h3k : ∀ (m : Nat), as0[m]? = some b → m = k := fun m hm => by
      have ndas := (List.nodup_cons.mp h3.nd).2
      have hm1 := (List.getElem?_eq_some_iff.mp hm).1
      have hk1 := (List.getElem?_eq_some_iff.mp hk).1
      exact (List.getElem_inj ndas).mp (by rw [(List.getElem?_eq_some_iff.mp hm).2, (List.getElem?_eq_some_iff.mp hk).2])
    refine ⟨A, fun j mss q => ?_, fun j mss m xs c q1 q2 q3 => ?_, fun j m mss lss hjm q1 q2 x hx => ?_⟩
    · by_cases hj : i = j
      · subst hj
        have z := get_set_eq q
        cases z
        refine ⟨a, as0, hA, hσ, h3.ma, by rw [upd_ne (Ne.symm hba)]; exact h3.ha, by rw [List.length_set]; exact h3.len, h3.nd, fun m c ms e1 e2 => ?_⟩
        by_cases hm : c = b
        · subst hm
          have hmk := h3k m e1
          subst hmk
          rw [List.getElem?_set_self hns] at e2
          cases e2
          exact ⟨hbos, upd_same⟩
        · have hmk : k ≠ m := fun z => hm (by rw [z] at hk; rw [hk] at e1; cases e1; rfl)
          rw [List.getElem?_set_ne hmk] at e2
          rw [upd_ne hm]
          exact h3.it m c ms e1 e2
      · rw [List.getElem?_set_ne hj] at q
        obtain ⟨c, cs, z1, z2, z3⟩ := dd.dp j mss q
        refine ⟨c, cs, z1, z2, z3.to fun x hx => ?_⟩
        have hxb : x ≠ b := fun z => dd.dj i j nss mss hj e q b hbA (by rw [z1, ← z]; exact hx)
        exact ⟨(z3.mem x hx).1, upd_ne hxb⟩
    · obtain ⟨_, q2⟩ := f m _ q2 (fun z => nomatch z)
      by_cases hj : i = j
      · subst hj
        exact dd.ow i nss m xs c e q2 q3
      · rw [List.getElem?_set_ne hj] at q1
        exact dd.ow j mss m xs c q1 q2 q3
    · have p1 : ∃ ms, env[j]? = some (.deep ms) := by
        by_cases hj : i = j
        · subst hj; exact ⟨nss, e⟩
        · rw [List.getElem?_set_ne hj] at q1; exact ⟨mss, q1⟩
      have p2 : ∃ ms, env[m]? = some (.deep ms) := by
        by_cases hj : i = m
        · subst hj; exact ⟨nss, e⟩
        · rw [List.getElem?_set_ne hj] at q2; exact ⟨lss, q2⟩
      obtain ⟨m1, p1⟩ := p1
      obtain ⟨m2, p2⟩ := p2
      exact dd.dj j m m1 m2 hjm p1 p2 x hx
end

section
variable {X : Cx} {E : Str → Hp → Prop} {pos : Pos}
def tFr (K : PySem.W.Frag) (E : Str → Hp → Prop) (f : DE → R (List (List Int))) : TA := fun σ H Q => ∃ g env os, Rel K g env σ H os ∧ Good E g.H₀ (f env) fun nss => ∀ (as : List Addr) (H' : Hp), Same H H' → (∀ b ∈ as, H b = none) → as.Nodup → as.length = nss.length →
  (∀ (k : Nat) (b : Addr) (ns : List Int), as[k]? = some b → nss[k]? = some ns → H' b = some (.lst (ns.map V.int))) → Q (as.map V.ref) H'
theorem frNil : PA X [] (tFr X.K E fun _ => .ok []) := impA pa_nil fun σ H Q ⟨g, env, os, r, m⟩ => m [] H (Same.refl H) (fun _ z => nomatch z) .nil rfl (fun _ _ _ z => by simp at z)
theorem sSetD (i : Nat) {x : Str} {es : List Expr} {f : DE → R (List (List Int))} {pos' p : Pos} (he : PA X es (tFr X.K E f)) (hN : X.N.Nodup) (hi : X.N[i]? = some x := by rfl) (hx : Loc X.env.scope x := by first | exact Or.inl rfl | exact Or.inr rfl) (hs : swapsWith (.List es p) (some (.Name x pos')) pos.line X.env = pure false := by rfl)
    (hf : X.fn x = true ∨ X.env.scope.names.lookup x = some .local := by first | exact .inl rfl | exact .inr rfl | assumption) : PS X (.Assign [.Name x pos'] (.List es p) pos) (tS X.K E fun env => (f env).bind fun nss => (fit nss).bind fun nss => .ok (.nx (env.set i (.deep nss)))) :=
  impS (ps_set hN hi hx (pe_lst he) hs hf) fun De σ H ⟨g, env, os, r, m⟩ => ⟨g, env, os, r, m.bind.mono fun nss _ m1 as H1 s1 hn nd hl hc => by
    obtain ⟨hz, q⟩ := m1.bind.fit
    refine ⟨by rw [List.length_map, hl]; exact hz, fun p hp => ?_⟩
    have hpas : p ∉ as := fun z => by
      obtain ⟨k, hk, rfl⟩ := List.getElem_of_mem z
      have := hc k _ _ (List.getElem?_eq_getElem hk) (List.getElem?_eq_getElem (by rw [← hl]; exact hk))
      rw [hp] at this
      cases this
    have sp := same_new hp (.lst (as.map V.ref))
    have hnew : ∀ b ∈ p :: as, H b = none := fun b hb => by
      rcases List.mem_cons.mp hb with rfl | hb
      · exact s1.free hp
      · exact hn b hb
    have s2 := s1.trans sp
    refine q _ _ ((p :: as) ++ os) (r.setD s2 i hnew (List.nodup_cons.mpr ⟨hpas, nd⟩) hl upd_same fun k b ns e1 e2 => sp _ _ (hc k b ns e1 e2)) ⟨fun b hb => ?_, fun b hb => s2.free hb, fun b o _ hb => s2 b o hb⟩
    rcases List.mem_append.mp hb with z | z
    · exact .inr (hnew b z)
    · exact .inl z⟩
end
end DL

namespace DL
open PySem PySem.Spec PyProof.Rows L2
def deepO : Out → R (List (List Int))
  | .rtT nss => .ok nss
  | _ => .bad
def spT (K : PySem.W.Frag) (m : List D → R (List (List Int))) : Sp := fun vs H Q E => ∃ P ds, IsL K P H ds vs ∧ (match m ds with
  | .ok nss => ∀ (a : Addr) (as : List Addr) (H' : Hp), Same H H' → NewD H H' a as nss → Q (.ref a) H'
  | _ => False)
def mT (n N : Nat) (b : DE → R Out) (ds : List D) : R (List (List Int)) := if ds.length = n then ((b (initE N ds)).bind deepO).ne else .bad
abbrev OkT (P : Program) (w : World) (K : PySem.W.Frag) (mg : Str → Option Value) (base : Heap) (k : Nat) (f : Addr) (fd : FuncData) (ps : List Str) (m : List D → R (List (List Int))) : Prop := FnOk P w K mg base CX0 k f fd ps (spT K m)
section
variable {P : Program} {w : World} {K : PySem.W.Frag} {mg : Str → Option Value} {base : Heap}
theorem okT {x : Str} {st : Stmt} {f : Addr} {fd : FuncData} {N ps : List Str} {k : Nat} {b : DE → R Out} (S : FnScope N ps (defScope st)) (d : Df K mg x st ps f fd)
    (hb : ∀ (cdv : Value) (A : Around) (outer : List Env) (s : Shared) (H : Hp) (E : XK), Room k (A.deeper (envOfC x (defScope st) s.heap.objs.size f cdv)) → PSs (cxOf CX0 P w K mg base N x (defScope st) f cdv A outer s H E).nox (defBody st) (tS K EN b)) :
    OkT P w K mg base (k + 1) f fd ps (mT ps.length N.length b) := by
  refine d.F.ok S (fun vs H Q E h => ?_) (fun cdv A outer s H vs Q E hr h => ?_)
  · obtain ⟨Pa, ds, i, h⟩ := h
    cases e : mT ps.length N.length b ds with
    | ok nss =>
      rw [i.length]
      unfold mT at e
      split at e
      · assumption
      · cases e
    | err c => rw [e] at h; exact h.elim
    | bad => rw [e] at h; exact h.elim
  · obtain ⟨Pa, ds, i, h⟩ := h
    refine ⟨_, hb cdv A outer s H E hr, ⟨⟨Pa, H⟩, initE N.length ds, [], rel_start i, ?_⟩⟩
    cases e : mT ps.length N.length b ds with
    | err c => rw [e] at h; exact h.elim
    | bad => rw [e] at h; exact h.elim
    | ok nss =>
      rw [e] at h
      unfold mT at e
      split at e
      · have q := R.ne_of e
        cases eb : b (initE N.length ds) with
        | bad => rw [eb] at q; cases q
        | err c => rw [eb] at q; cases q
        | ok o =>
          rw [eb] at q
          cases o with
          | rtT mss =>
            cases q
            exact fun a as H' s' nd => h a as H' s' nd
          | rtC _ => cases q
          | rtP _ => cases q
          | rtQ _ => cases q
          | rtF _ => cases q
          | rt _ => cases q
          | nx _ => cases q
          | bk _ => cases q
          | ct _ => cases q
      · cases e
end
section
variable {X : Cx} {E : Str → Hp → Prop} {pos : Pos}
def tDp (K : PySem.W.Frag) (E : Str → Hp → Prop) (f : DE → R (List (List Int))) : TE := fun σ H Q => ∃ g env os, Rel K g env σ H os ∧ Good E g.H₀ (f env) fun nss => ∀ (a : Addr) (as : List Addr) (H' : Hp), Same H H' → NewD H H' a as nss → Q (.ref a) H'
theorem fT1 {x : Str} {st : Stmt} {ps : List Str} {fa : Addr} {fd : FuncData} {k : Nat} {p : Pos} {e : Expr} {es : List Expr} {f : DE → R (List D)} {m : List D → R (List (List Int))} (d : Df X.K X.mg x st ps fa fd) (F : OkT X.prog X.w X.K X.mg X.base k fa fd ps m) (hr : Room k X.A)
    (ha : PA X (e :: es) (tArB X.K E f)) (hg : Gl X x := by rfl) (hdb : (x == ("__debug__" : Str)) = false := by decide) (he : starEach (e :: es) X.env = (false, eval e X.env) :: starEach es X.env := by rfl) (hpl : (backTo pos (starEach es X.env)).any (·.1) = false := by rfl) :
    PE X (.Call (.Name x p) (e :: es) [] pos) (tDp X.K E fun env => ((f env).bind m).ne) :=
  imp (pe_call (E := fun _ _ _ => False) F hr hg d.m d.F.kp d.b .nil passN ha hdb he hpl) fun σ H Q ⟨g, env, os, r, q⟩ => ⟨g, env, os, r, by
    dsimp only at q
    cases ef : f env with
    | bad => rw [ef] at q; exact q.elim
    | err c => rw [ef] at q; exact q.elim
    | ok ds =>
      rw [ef] at q
      cases em : m ds with
      | bad => rw [show ((R.ok ds).bind m) = m ds from rfl, em] at q; exact q.elim
      | err c => rw [show ((R.ok ds).bind m) = m ds from rfl, em] at q; exact q.elim
      | ok nss =>
        rw [show ((R.ok ds).bind m) = m ds from rfl, em] at q
        intro vs H1 s1 i1
        show spT X.K m (vs ++ []) H1 Q _
        rw [List.append_nil]
        refine ⟨_, ds, i1, ?_⟩
        rw [em]
        exact fun a as H' s' nd => q a as H' (s1.trans s') (nd.back s1)⟩
theorem sSetT (i : Nat) {x : Str} {e : Expr} {f : DE → R (List (List Int))} {pos' : Pos} (he : PE X e (tDp X.K E f)) (hN : X.N.Nodup) (hi : X.N[i]? = some x := by rfl) (hx : Loc X.env.scope x := by first | exact Or.inl rfl | exact Or.inr rfl) (hs : swapsWith e (some (.Name x pos')) pos.line X.env = pure false := by rfl)
    (hf : X.fn x = true ∨ X.env.scope.names.lookup x = some .local := by first | exact .inl rfl | exact .inr rfl | assumption) : PS X (.Assign [.Name x pos'] e pos) (tS X.K E fun env => (f env).bind fun nss => .ok (.nx (env.set i (.deep nss)))) :=
  impS (ps_set hN hi hx he hs hf) fun De σ H ⟨g, env, os, r, m⟩ => ⟨g, env, os, r, m.bind.mono fun nss _ q a as H' s nd => by
    refine q _ H' ((a :: as) ++ os) (r.setD s i nd.fr nd.nd nd.len nd.ha nd.it) ⟨fun b hb => ?_, fun b hb => s.free hb, fun b o _ hb => s b o hb⟩
    rcases List.mem_append.mp hb with z | z
    · exact .inr (nd.fr b z)
    · exact .inl z⟩
def deepAt (i : Nat) (env : DE) : R (List (List Int)) := match env[i]? with
  | some (.deep (.ls nss)) => .ok nss
  | _ => .bad
theorem Good.deep {H₀ : Hp} {i : Nat} {env : DE} {p : List (List Int) → Prop} (h : Good E H₀ (deepAt i env) p) : ∃ nss : List (List Int), env[i]? = some (.deep nss) ∧ p nss := by
  unfold deepAt at h
  split at h
  · rename_i nss e
    exact ⟨nss, e, h⟩
  · exact h.elim
theorem sRetT (i : Nat) {x : Str} {p : Pos} (hN : X.N[i]? = some x := by rfl) (hv : Vis X.env.scope x := by first | exact Or.inl rfl | exact Or.inr (Or.inl rfl) | exact Or.inr (Or.inr rfl)) (hd : (x == ("__debug__" : Str)) = false := by decide)
    (hcd : (x == ("__classdict__" : Str)) = false := by decide) : PS X (.Return (some (.Name x p)) pos) (tS X.K E fun env => (deepAt i env).bind fun nss => .ok (.rtT nss)) :=
  impS (ps_ret (pe_var hN hv hd hcd)) fun De σ H ⟨g, env, os, r, m⟩ => by
    obtain ⟨nss, e, q⟩ := m.bind.deep
    obtain ⟨A, dd⟩ := r.dps
    obtain ⟨a, as, hA, h1, h3⟩ := dd.dp i nss e
    exact ⟨.ref a, h1, (show PostO X.K g H os De (.rtT nss) from q) a as H r.ext ⟨fun b hb => (r.new b (h3.mem b hb).1).1, h3.nd, h3.len, h3.ha, fun k b ns e1 e2 => (h3.it k b ns e1 e2).2⟩⟩
end
end DL

namespace DL
open PySem PySem.Spec PyProof.Rows L2
section
variable {X : Cx} {E : Str → Hp → Prop} {pos : Pos}
def rGetL (K : PySem.W.Frag) : V → V → Hp → VK → Prop := fun o i H Q => ∃ p xs k v, o = .ref p ∧ i = .int k ∧ 0 ≤ k ∧ SqL K H p xs ∧ atI xs k = some v ∧ Q v H
theorem get_list : PGet X (rGetL X.K) := by
  intro pins s σ H x y v u Q I rx ry h
  obtain ⟨p, xs, i, z, rfl, rfl, h0, hq, he, q⟩ := h
  cases rx
  obtain ⟨t, rfl⟩ := ry
  obtain ⟨its, r, pl, hz⟩ := I.list hq
  obtain ⟨j, h1, h2, h3, h4, h5⟩ := atI_get he
  obtain ⟨w, ew, rw'⟩ := r.get h2
  have hl := r.length
  have hn := line63
  have fin : EP X pins σ Q w s := ⟨z, H, I, rw', q⟩
  have hj : i.toNat = j := by
    rw [seqIndex_of h0 h5] at h1
    exact Option.some.inj h1
  exact wpAny_getItem_list pl.isList h0 (by omega) (by rw [hj]; simpa using ew) fin

theorem Rel.at_deep {K : PySem.W.Frag} {g : Gh} {env : DE} {σ : St} {H : Hp} {os : List Addr} (r : Rel K g env σ H os) {ix : Nat} {nss : List (List Int)} (e : env[ix]? = some (.deep nss)) : ∃ (a : Addr) (as : List Addr), σ[ix]? = some (some (.ref a)) ∧ H a = some (.lst (as.map V.ref)) ∧ as.length = nss.length ∧ ∀ (k : Nat) (ns : List Int), nss[k]? = some ns → ∃ b, as[k]? = some b ∧ H b = some (.lst (ns.map V.int)) := by
  obtain ⟨A, dd⟩ := r.dps
  obtain ⟨a, as, _, h1, h3⟩ := dd.dp ix nss e
  refine ⟨a, as, h1, h3.ha, h3.len, fun k ns hk => ?_⟩
  have hl : k < as.length := by rw [h3.len]; exact (List.getElem?_eq_some_iff.mp hk).1
  exact ⟨as[k], List.getElem?_eq_getElem hl, (h3.it k _ ns (List.getElem?_eq_getElem hl) hk).2⟩
theorem ixN_lt {n k : Nat} {i : Int} (h : ixN n i = some k) : k < n := by
  have := (ixN_seq h).2.1
  exact this
def sub1 (nss : List (List Int)) : D → R (Nat × List Int)
  | .int i => (match ixN nss.length i with
    | some k => (match nss[k]? with
      | some ns => .ok (k, ns)
      | none => .bad)
    | none => .bad)
  | _ => .bad
theorem Good.sub1 {H₀ : Hp} {nss : List (List Int)} {a : D} {p : Nat × List Int → Prop} (h : Good E H₀ (sub1 nss a) p) : ∃ i k ns, a = .int i ∧ ixN nss.length i = some k ∧ nss[k]? = some ns ∧ p (k, ns) := by
  unfold DL.sub1 at h
  split at h
  · rename_i i
    split at h
    · rename_i k hk
      split at h
      · rename_i ns hns
        exact ⟨i, k, ns, rfl, hk, hns, h⟩
      · exact h.elim
    · exact h.elim
  · exact h.elim
theorem atI_of {α : Type} {xs : List α} {i : Int} {k : Nat} {x : α} (h : ixN xs.length i = some k) (hx : xs[k]? = some x) : atI xs i = some x := by
  unfold L2.atI
  rw [h]
  exact hx
def sub2 (ns : List Int) : D → R (Int × Nat)
  | .int j => if 0 ≤ j then (match ixN ns.length j with
    | some l => .ok (j, l)
    | none => .bad) else .bad
  | _ => .bad
theorem Good.sub2 {H₀ : Hp} {ns : List Int} {a : D} {p : Int × Nat → Prop} (h : Good E H₀ (sub2 ns a) p) : ∃ j l, a = .int j ∧ 0 ≤ j ∧ ixN ns.length j = some l ∧ p (j, l) := by
  unfold DL.sub2 at h
  split at h
  · rename_i j
    split at h
    · rename_i hj
      split at h
      · rename_i l hl
        exact ⟨j, l, rfl, hj, hl, h⟩
      · exact h.elim
    · exact h.elim
  · exact h.elim
def augP (ix : Nat) (env : DE) (nss : List (List Int)) (kn : Nat × List Int) (jl : Int × Nat) (h : Int → Int → Int) : D → R Out
  | .int v => .ok (.nx (env.set ix (.deep (nss.set kn.1 (kn.2.set jl.2 (h ((kn.2[jl.2]?).getD 0) v))))))
  | _ => .bad
theorem Good.augP {H₀ : Hp} {ix : Nat} {env : DE} {nss : List (List Int)} {kn : Nat × List Int} {jl : Int × Nat} {f : Int → Int → Int} {d : D} {p : Out → Prop} (h : Good E H₀ (augP ix env nss kn jl f d) p) : ∃ v, d = .int v ∧ p (.nx (env.set ix (.deep (nss.set kn.1 (kn.2.set jl.2 (f ((kn.2[jl.2]?).getD 0) v)))))) := by
  unfold DL.augP at h
  split at h
  · exact ⟨_, rfl, h⟩
  · exact h.elim
theorem sAugDD (ix : Nat) {x : Str} {ei ej e : Expr} {fi fj f : DE → R D} {op : Operator} {h : Int → Int → Int} {p tp tp2 : Pos} (ho : PIp X op (ipI h)) (hi : PE X ei (tB X.K E fi)) (hj : PE X ej (tB X.K E fj)) (he : PE X e (tB X.K E f)) (hN : X.N[ix]? = some x := by rfl) (hv : Vis X.env.scope x := by first | exact Or.inl rfl | exact Or.inr (Or.inl rfl) | exact Or.inr (Or.inr rfl)) (hd : (x == ("__debug__" : Str)) = false := by decide)
    (hcd : (x == ("__classdict__" : Str)) = false := by decide) (hpi : PlainIx ei := by exact fun _ _ => rfl)
    (ha : ∀ ov iv new, augStore ej ov iv new = (do holding [new, ov, iv] (setItem ov iv new); release [new, ov, iv] []; pure .next) := by intros; rfl) :
    PS X (.AugAssign (.Subscript (.Subscript (.Name x p) ei tp2) ej tp) op e pos) (tS X.K E fun env => (deepAt ix env).bind fun nss => (fi env).bind fun a => (sub1 nss a).bind fun kn => (fj env).bind fun b => (sub2 kn.2 b).bind fun jl => (f env).bind fun d => augP ix env nss kn jl h d) :=
  impS (ps_augS (pe_ix ix_list (pe_var hN hv hd hcd) hi hpi) hj get_list he ho set_list ha) fun De σ H ⟨g, env, os, r, m⟩ => by
    obtain ⟨nss, e1, m2⟩ := m.bind.deep
    obtain ⟨a, as, q1, q2, q3, q4⟩ := r.at_deep e1
    refine ⟨.ref a, q1, g, env, os, r, m2.bind.mono fun da _ m3 w H2 s2 i2 => ?_⟩
    obtain ⟨i, k, ns, rfl, hk, hns, m4⟩ := m3.bind.sub1
    obtain ⟨b, hb1, hb2⟩ := q4 k ns hns
    refine ⟨a, as.map V.ref, i, .ref b, rfl, i2, SqL.of (s2 _ _ q2), atI_of (by rw [List.length_map, q3]; exact hk) (by rw [List.getElem?_map, hb1]; rfl), g, env, os, r.same s2, m4.bind.mono fun db _ m5 w2 H3 s3 i3 => ?_⟩
    obtain ⟨j, l, rfl, hj0, hl, m6⟩ := m5.bind.sub2
    have hll : l < ns.length := ixN_lt hl
    have hb3 := s3 _ _ (s2 _ _ hb2)
    have hat : atI (ns.map V.int) j = some (.int ns[l]) := atI_of (by rw [List.length_map]; exact hl) (by rw [List.getElem?_map, List.getElem?_eq_getElem hll]; rfl)
    refine ⟨b, ns.map V.int, j, .int ns[l], rfl, i3, hj0, SqL.of hb3, hat, g, env, os, r.same (s2.trans s3), m6.bind.mono fun d _ m7 v H4 s4 i4 => ?_⟩
    obtain ⟨u, rfl, m8⟩ := m7.augP
    have iu : v = .int u := i4
    subst iu
    have r3 := r.same ((s2.trans s3).trans s4)
    have hb4 := s4 _ _ hb3
    obtain ⟨hbos, r4⟩ := r3.mutD (ns := ns) e1 q1 (s4 _ _ (s3 _ _ (s2 _ _ q2))) hb1 (List.getElem?_eq_some_iff.mp hns).1 (ns.set l (h ns[l] u))
    refine ⟨ns[l], u, rfl, rfl, b, ns.map V.int, j, l, rfl, i3, hb4, by rw [List.length_map]; exact hl, ?_⟩
    have m9 : PostO X.K g H os De (.nx (env.set ix (.deep (nss.set k (ns.set l (h ((ns[l]?).getD 0) u)))))) := m8
    rw [List.getElem?_eq_getElem hll, Option.getD_some] at m9
    rw [← List.map_set]
    exact m9 σ _ os r4 ((Stp.same ((s2.trans s3).trans s4) os).trans (.mut hbos))
end
end DL

namespace DL
open PySem PySem.Spec PyProof.Rows L2
section
variable {K : PySem.W.Frag} {g : Gh} {env : DE} {σ : St} {H H' : Hp} {os : List Addr}
theorem isl_deepP {K : PySem.W.Frag} {H : Hp} {P : Addr → Prop} : ∀ {as : List Addr} {nss : List (List Int)}, as.length = nss.length → (∀ b ∈ as, P b) → (∀ (k : Nat) (b : Addr) (ns : List Int), as[k]? = some b → nss[k]? = some ns → H b = some (.lst (ns.map V.int))) → IsL K P H (nss.map fun ns => .lst (ns.map D.int)) (as.map V.ref)
  | [], [], _, _, _ => rfl
  | [], _ :: _, h, _, _ => by simp at h
  | _ :: _, [], h, _, _ => by simp at h
  | a :: as, ns :: nss, h, hp, hi => ⟨_, _, rfl, ⟨a, _, rfl, .inl ⟨hp a (by simp), .inl (hi 0 a ns rfl rfl)⟩, isl_ints ns⟩, isl_deepP (by simpa using h) (fun b hb => hp b (by simp [hb])) fun k b ms e1 e2 => hi (k + 1) b ms e1 e2⟩
theorem Rel.freezeD (r : Rel K g env σ H os) {i : Nat} {nss : List (List Int)} (e : env[i]? = some (.deep nss)) : ∃ os', Rel K g (env.set i (.val (.lst (nss.map fun ns => .lst (ns.map .int))))) σ H os' ∧ ∀ a ∈ os', a ∈ os := by
  obtain ⟨A, dd⟩ := r.dps
  obtain ⟨a, as, hA, h1, h3⟩ := dd.dp i nss e
  have ex : Ext (g.P os) (g.P (os.filter fun b => decide (b ∉ a :: as))) H H := ⟨fun b o p _ => ⟨p.1, fun z => p.2 (List.mem_filter.mp z).1⟩, fun _ _ _ q => q⟩
  have hP : ∀ b ∈ a :: as, g.P (os.filter fun b => decide (b ∉ a :: as)) b := fun b hb => ⟨.inr (r.new b (h3.mem b hb).1).1, fun z => by
    have := (List.mem_filter.mp z).2
    rw [decide_eq_true_eq] at this
    exact this hb⟩
  have f : ∀ (j : Nat) (sl : Sl), (env.set i (Sl.val (.lst (nss.map fun ns => .lst (ns.map .int)))))[j]? = some sl → (∀ d, sl ≠ .val d) → i ≠ j ∧ env[j]? = some sl := fun j sl q hn => get_set_ne' q (hn _)
  refine ⟨os.filter fun b => decide (b ∉ a :: as), ⟨by simp [r.len], r.ext, fun j d' e' => ?_, fun j ys e' => ?_, fun j k ys zs b e1 e2 e3 e4 => ?_, fun b hb => r.new b (List.mem_filter.mp hb).1, fun j w e' => ?_, ?_⟩, fun b hb => (List.mem_filter.mp hb).1⟩
  · by_cases hj : i = j
    · subst hj
      have e2 := get_set_eq e'
      cases e2
      exact ⟨.ref a, h1, a, _, rfl, .inl ⟨hP a (by simp), .inl h3.ha⟩, isl_deepP h3.len (fun b hb => hP b (List.mem_cons_of_mem _ hb)) fun k b ns q1 q2 => (h3.it k b ns q1 q2).2⟩
    · rw [List.getElem?_set_ne hj] at e'
      obtain ⟨v, q1, q2⟩ := r.val j d' e'
      exact ⟨v, q1, Is.ext ex _ _ q2⟩
  · obtain ⟨hj, e'⟩ := f j _ e' (fun _ z => nomatch z)
    obtain ⟨b, ws, q1, q2, q3, q4⟩ := r.own j ys e'
    refine ⟨b, ws, q1, List.mem_filter.mpr ⟨q2, ?_⟩, q3, IsL.ext ex _ _ q4⟩
    have := dd.ow i nss j ys b e e' q1
    rw [hA] at this
    exact decide_eq_true this
  · exact r.inj j k ys zs b (f j _ e1 (fun _ z => nomatch z)).2 (f k _ e2 (fun _ z => nomatch z)).2 e3 e4
  · exact r.raw j w (f j _ e' (fun _ z => nomatch z)).2
  · refine ⟨A, fun j mss q => ?_, fun j mss k xs b q1 q2 q3 => dd.ow j mss k xs b (f j _ q1 (fun _ z => nomatch z)).2 (f k _ q2 (fun _ z => nomatch z)).2 q3, fun j k mss lss hjk q1 q2 => dd.dj j k mss lss hjk (f j _ q1 (fun _ z => nomatch z)).2 (f k _ q2 (fun _ z => nomatch z)).2⟩
    obtain ⟨hj, q⟩ := f j _ q (fun _ z => nomatch z)
    obtain ⟨c, cs, z1, z2, z3⟩ := dd.dp j mss q
    refine ⟨c, cs, z1, z2, z3.to fun x hx => ⟨List.mem_filter.mpr ⟨(z3.mem x hx).1, ?_⟩, rfl⟩⟩
    have := dd.dj j i mss nss (Ne.symm hj) q e x (by rw [z1]; exact hx)
    rw [hA] at this
    exact decide_eq_true this
end
section
variable {X : Cx} {E : Str → Hp → Prop} {pos : Pos}
def frzD (i : Nat) (env : DE) : DE := match env[i]? with
  | some (.deep (.ls nss)) => env.set i (.val (.lst (nss.map fun ns => .lst (ns.map .int))))
  | _ => env
end
end DL

namespace DL
open PySem PySem.Spec PyProof.Rows L2
def compT (b : D → DE → R DE) (ct : DE → R Bool) (fe : DE → R (List D)) (e₀ : DE) : List D → R (List (List Int))
  | [] => .ok []
  | x :: xs => (b x e₀).bind fun e => (ct e).bind fun t => if t = true then (fe e).bind fun d => (R.of (toI d)).bind fun ns => (compT b ct fe e₀ xs).bind fun ds => .ok (ns :: ds) else compT b ct fe e₀ xs
section
variable {X : Cx} {E : Str → Hp → Prop} {pos : Pos} {scope : Scope} {N : List Str} {nt : Nat} {caps : List Nat}
def CEndT (X : Cx) (pins : List (Addr × Obj)) (σ : St) (g : Gh) (os : List Addr) (H : Hp) (use : Option (Value → Sem Unit)) (Qv : Value → Shared → Prop) (ys : List (List Int)) : Prop :=
  ∀ (Dd C : Addr) (as : List Addr) (Hx : Hp) (s6 : Shared), Inv X pins σ Hx s6 → (∃ m, s6.heap.Ns C m) → FpOk X pins Hx C → Same H Hx → NewD H Hx Dd as ys →
    compPost (model X.prog X.w) X.A X.xe use Qv (.ref Dd) C (.ok .next) s6
theorem compRunT {elt tg iter : Expr} {ifs : List Expr} {fi : DE → R (List D)} {b : D → DE → R DE} {ct : DE → R Bool} {fe : DE → R (List D)} (S : CpScope X scope N nt caps) (hcalm : X.calm = true) (hi : PI X tg iter (tIS X.K E fi))
    (hb1 : ∀ ds d e, b d (cpE nt ds) = .ok e → ∃ ts, e = ts ++ ds.map .val ∧ ts.length = nt)
    (hg : ∀ s H fp C pl, PG (cpCx X scope N s H fp C pl) tg (tG X.K EN b)) (ht : ∀ s H fp C pl, PTs (cpCx X scope N s H fp C pl) ifs (tT X.K EN ct)) (he : ∀ s H fp C pl, PE (cpCx X scope N s H fp C pl) elt (tF X.K EN fe))
    (hs : ∀ x, foldedSetIterable iter X.env x = pure x) {use : Option (Value → Sem Unit)} {Qv : Value → Shared → Prop} {pins : List (Addr × Obj)} {s : Shared} {σ : St} {H : Hp} {env : DE} {os : List Addr} {g : Gh} (I : Inv X pins σ H s) (r : Rel X.K g env σ H os)
    (m : Good E g.H₀ ((fi env).bind fun xs => (capt env caps).bind fun ds => (compT b ct fe (cpE nt ds) xs).ne.bind fit) (CEndT X pins σ g os H use Qv)) {ps : Pos} :
    wpAny (model X.prog X.w) X.A (comprehension (.ListComp elt [⟨tg, iter, ifs, 0⟩] scope pos) scope X.env ps (newList []) false (eval iter X.env) use) Qv X.xe s := by
  refine wpAny_comprehension_free (use := use) rfl hs (closureFor_eq (S.cells I)) S.kind S.names ?_
  refine thn (hi pins s σ H (fun J H1 => ∃ xs, Same H H1 ∧ Yls X.K (g.P os) J H1 xs ∧ Good E g.H₀ ((capt env caps).bind fun ds => (compT b ct fe (cpE nt ds) xs).ne.bind fit) _) I ⟨g, env, os, r, m.bind.mono fun xs _ m1 J H1 s1 yl => ⟨xs, s1, yl, m1⟩⟩) fun v s1 h1 => thn h1 fun itv s2 h2 => ?_
  obtain ⟨it, fp, tn, J, H2, rfl, I2, T, st2, f2, xs, s12, yl, m1⟩ := h2
  have r2 := r.same s12
  obtain ⟨ds, vs, m2, hvl, hdl, hds, hvs⟩ := m1.bind.capt r2
  cases ec : compT b ct fe (cpE nt ds) xs with
  | bad => rw [ec] at m2; exact m2.elim
  | err c => rw [ec] at m2; exact m2.elim
  | ok ys =>
  rw [ec] at m2
  obtain ⟨hz, q⟩ := (show Good E g.H₀ (fit ys) _ from m2).fit
  refine wpAny_newObj_type (wpAny_newFunctionEnv S.cell (by intro y hy; simp at hy) (fun h₁ hns₁ hsb₁ => ?_) S.kind)
  dsimp only at hns₁ hsb₁ ⊢
  -- the list that grows stands at Dd, the block's names at C
  have hDn : H2 s2.heap.objs.size = none := I2.hok.fresh (Nat.le_refl _)
  have I3 : Inv X pins σ (upd H2 s2.heap.objs.size (.lst [])) { s2 with heap := s2.heap.push { cls := .type "list", dict := none, data := .seq ([] : List Value).toArray } } :=
    I2.laid (t' := s2.toks) (fun b u e => Heap.get?_push_of_some _ e) (Nat.le_refl _) ⟨Nat.zero_le _, [], 0, .nil, Heap.get?_push_size _ rfl⟩
  generalize hs3 : ({ s2 with heap := s2.heap.push { cls := .type "list", dict := none, data := .seq ([] : List Value).toArray } } : Shared) = s3 at I3
  have hh3 : s3.heap = s2.heap.push { cls := .type "list", dict := none, data := .seq ([] : List Value).toArray } := by rw [← hs3]
  rw [← hh3] at hns₁ hsb₁ ⊢
  generalize hDd : s2.heap.objs.size = Dd at *
  have k3 : ∀ b o, s3.heap.get? b = some o → h₁.get? b = some o := fun b o e => hsb₁.extBut b o (Nat.ne_of_lt (Heap.lt_size e)) (Heap.get?_push_of_some _ e)
  have hfpo : ∀ b ∈ fp, ∃ o, s2.heap.get? b = some o := fun b hb => let ⟨o, e, _⟩ := T.obj 0 _ st2 b hb; ⟨o, e⟩
  have hfp3 : ∀ b ∈ fp, ∃ o, s3.heap.get? b = some o := fun b hb => let ⟨o, e⟩ := hfpo b hb; ⟨o, by rw [hh3]; exact Heap.get?_push_of_some _ e⟩
  have hfD : ∀ b ∈ fp, b ≠ Dd := fun b hb => let ⟨o, e⟩ := hfpo b hb; by rw [← hDd]; exact Nat.ne_of_lt (Heap.lt_size e)
  have f3 : ∀ b ∈ fp, FpOk X pins (upd H2 Dd (.lst [])) b := fun b hb => ⟨by rw [upd_ne (hfD b hb)]; exact (f2 b hb).1, (f2 b hb).2⟩
  have sD : Same H2 (upd H2 Dd (.lst [])) := same_new hDn _
  have I4 := S.start (t' := s2.toks + ([] : List (Str × Value)).length) I3 f3 (Nat.le_refl _) hns₁ k3 hfp3 hvl (fun j i v e1 e2 => hvs j i v e1 e2) _ rfl
  generalize hX : cpCx X scope N s3 (upd H2 Dd (.lst [])) fp s3.heap.objs.size (X.pn ++ pins) = X' at I4
  have hg' := hg s3 (upd H2 Dd (.lst [])) fp s3.heap.objs.size (X.pn ++ pins)
  have ht' := ht s3 (upd H2 Dd (.lst [])) fp s3.heap.objs.size (X.pn ++ pins)
  have he' := he s3 (upd H2 Dd (.lst [])) fp s3.heap.objs.size (X.pn ++ pins)
  rw [hX] at hg' ht' he'
  have eK : X'.K = X.K := by rw [← hX]; rfl
  have eP : X'.prog = X.prog := by rw [← hX]; rfl
  have eW : X'.w = X.w := by rw [← hX]; rfl
  have eA : X'.A = X.A := by rw [← hX]; rfl
  have eE : X'.xe = fun _ _ => False := by rw [← hX]; rfl
  have eC : X'.calm = true := by rw [← hX]; exact hcalm
  have eL : X'.env.locals = s3.heap.objs.size := by rw [← hX]; rfl
  have eS : X'.s₀ = s3 := by rw [← hX]; rfl
  have eX : X'.ex = fp := by rw [← hX]; rfl
  have eF : X'.fs = frs X.stack := by rw [← hX]; rfl
  have eN : X'.pn = X.pn ++ pins := by rw [← hX]; rfl
  have eH : X'.H₀ = upd H2 Dd (.lst []) := by rw [← hX]; rfl
  have eV : X'.env = compEnvC scope (clL X.env.cells scope.names []) s3.heap.objs.size X.env := by rw [← hX]; rfl
  -- the iterator's objects through the block
  have fpX : ∀ {Hx : Hp}, (∀ b ∈ fp, Hx b = none) → ∀ b ∈ fp, FpOk X' [] Hx b := fun {Hx} hn b hb => by
    obtain ⟨_, c1, c2, c3, c4, c5⟩ := f3 b hb
    have q := I4.ok.exf b (by rw [eX]; exact hb)
    refine ⟨hn b hb, q.1, I4.ok.exfs b (by rw [eX]; exact hb), .inl (by rw [eX]; exact hb), q.2, fun p hp => ?_⟩
    rw [eN, List.append_nil] at hp
    exact c5 p hp
  let g' : Gh := ⟨g.P os, H2⟩
  have exP : ∀ {Hx : Hp}, Same H2 Hx → Ext (g.P os) (g'.P [Dd]) H2 Hx := fun sx => ⟨fun a o p e => ⟨.inl p, fun z => by
    have z' : a = Dd := by simpa using z
    rw [z', hDn] at e; cases e⟩, fun a o _ e => sx a o e⟩
  have rel0 : Rel X.K g' (cpE nt ds) (List.replicate nt none ++ vs.map some) (upd H2 Dd (.lst [])) [Dd] := by
    refine ⟨by simp [cpE, hvl, hdl], sD, fun i d e => ?_, fun i xs e => (cpE_own e).elim, fun i j xs ys b e => (cpE_own e).elim, fun b hb => ?_, fun i w e => (cpE_raw e).elim, Deep.none fun i w e => cpE_deep e⟩
    · obtain ⟨h1, h2⟩ := cpE_get e
      obtain ⟨v, q1, q2⟩ := hds.get h2
      refine ⟨v, ?_, Is.ext (exP sD) _ _ q2⟩
      rw [List.getElem?_append_right (by simpa using h1), List.getElem?_map, List.length_replicate, q1] <;> rfl
    · have e : b = Dd := by simpa using hb
      subst e
      exact ⟨hDn, _, upd_same⟩
  have loop : ∀ s4 : Shared, Inv X' [] (List.replicate nt none ++ vs.map some) (upd H2 Dd (.lst [])) s4 → tn 0 s4.heap →
      codeAny (model X.prog X.w) X.A (.compLoop (.ListComp elt [⟨tg, iter, ifs, 0⟩] scope pos) 0 (.ref it) (.ref Dd) (compEnvC scope (clL X.env.cells scope.names []) s3.heap.objs.size X.env))
        (compPost (model X.prog X.w) X.A X.xe use Qv (.ref Dd) s3.heap.objs.size) s4 := by
    intro s4 J4 st4
    refine compLoop_go (fun n s' => ∃ (i : Nat) (as : List Addr) (nsA rest : List (List Int)) (Hx : Hp) (σ' : St), n = xs.length - i ∧ i ≤ xs.length ∧ Inv X' [] σ' Hx s' ∧ tn i s'.heap ∧ (∀ b ∈ fp, Hx b = none) ∧ Hx Dd = some (.lst (as.map V.ref)) ∧ (as.length = nsA.length ∧ as.Nodup ∧ (∀ b ∈ as, H2 b = none ∧ b ≠ Dd ∧ ∃ o, Hx b = some o) ∧ ∀ (k : Nat) (b : Addr) (ns : List Int), as[k]? = some b → nsA[k]? = some ns → Hx b = some (.lst (ns.map V.int))) ∧
      compT b ct fe (cpE nt ds) (xs.drop i) = .ok rest ∧ nsA ++ rest = ys ∧ Rel X.K g' (cpE nt ds) σ' Hx [Dd]) ?_ xs.length
      ⟨0, [], [], ys, _, _, by simp, Nat.zero_le _, J4, st4, fun b hb => (f3 b hb).1, upd_same, ⟨rfl, .nil, (fun b hb => nomatch hb), fun k b ns z => by simp at z⟩, by rw [List.drop_zero]; exact ec, rfl, rel0⟩
    rintro n s5 ⟨i, as, nsA, rest, Hx, σ5, rfl, hi5, J5, st5, fr5, hD5, ⟨ia1, ia2, ia3, ia4⟩, c5, e5, r5⟩
    obtain ⟨y1, y2⟩ := yl i Hx (g'.P [Dd]) r5.ext (exP r5.ext)
    by_cases hlt : i < xs.length
    · have hx : xs[i]? = some xs[i] := List.getElem?_eq_getElem hlt
      obtain ⟨go, y3⟩ := y1 _ hx
      rw [List.drop_eq_getElem_cons hlt] at c5
      obtain ⟨e1, hb5, c6⟩ := R.bind_ok (show (b xs[i] (cpE nt ds)).bind _ = .ok rest from c5)
      obtain ⟨t, ht5, c7⟩ := R.bind_ok c6
      have TI := T.item X' eP eW eK eC i [] s5 σ5 Hx (fun _ _ => False) J5 (fpX fr5) st5 go
      rw [eA] at TI
      refine thn TI fun r s6 h6 => ?_
      obtain ⟨u, rfl, h6⟩ := h6
      refine thn h6 fun _ s7 h7 => ?_
      obtain ⟨x, H7, J7, rx, hy, st7, fr7⟩ := h7
      obtain ⟨s57, hix⟩ := y3 x H7 hy
      have ix : Is X.K (g'.P [Dd]) H7 xs[i] x := Is.ext ⟨fun a o p _ => p.elim (fun z => z) fun z => r5.fresh z, fun _ _ _ z => z⟩ _ _ hix
      have J7' := J7.pinned (fpX fr7) (T.obj _ _ st7)
      have TG := hg' _ s7 σ5 H7 x u (fun σ8 H8 => ∃ e8, b xs[i] (cpE nt ds) = .ok e8 ∧ Rel X.K g' e8 σ8 H8 [Dd] ∧ H8 = H7) J7' rx ⟨g', cpE nt ds, [Dd], xs[i], r5.same s57, ix, good_ok hb5 fun σ8 r8 => ⟨e1, hb5, r8, rfl⟩⟩
      rw [eP, eW, eA, eE, eV] at TG
      refine thn TG fun _ s8 h8 => ?_
      obtain ⟨σ8, H8, J8, e8, hb8, r8, hH8⟩ := h8
      rw [hH8] at J8 r8
      rw [hb5] at hb8
      cases hb8
      have TT := ht' _ s8 σ8 H7 (fun t' H9 => t' = t ∧ Same H7 H9) J8 ⟨g', e1, [Dd], r8, good_ok ht5 fun H9 s9 => ⟨rfl, s9⟩⟩
      rw [eP, eW, eA, eE, eV] at TT
      refine thn TT fun ok s9 h9 => ?_
      obtain ⟨H9, J9, rfl, s79⟩ := h9
      obtain ⟨ts, hts, htl⟩ := hb1 ds _ _ hb5
      have keepT : ∀ {σx : St} {Hy : Hp} {sx : Shared}, Inv X' ([] ++ pinsAt fp s7.heap) σx Hy sx → tn (i + 1) sx.heap ∧ ∀ b ∈ fp, Hy b = none := fun {σx Hy sx} Jx =>
        ⟨T.keep _ _ _ st7 fun b hb o e => (Jx.pin (b, o) (List.mem_append_right _ (List.mem_append_right _ (mem_pinsAt hb e)))).1, fun b hb => by
          obtain ⟨o, e, d⟩ := T.obj _ _ st7 b hb
          exact (Jx.pin (b, o) (List.mem_append_right _ (List.mem_append_right _ (mem_pinsAt hb e)))).2.1⟩
      cases ok with
      | false =>
        rw [if_neg Bool.false_ne_true]
        have c8 : compT b ct fe (cpE nt ds) (xs.drop (i + 1)) = .ok rest := c7
        obtain ⟨k1, k2⟩ := keepT J9
        exact ⟨xs.length - (i + 1), by omega, i + 1, as, nsA, rest, H9, σ8, rfl, hlt, J9.unpinned, k1, k2, s79 _ _ (s57 _ _ hD5), ⟨ia1, ia2, fun b hb => ⟨(ia3 b hb).1, (ia3 b hb).2.1, let ⟨o, ho⟩ := (ia3 b hb).2.2; ⟨o, s79 _ _ (s57 _ _ ho)⟩⟩, fun k b ns z1 z2 => s79 _ _ (s57 _ _ (ia4 k b ns z1 z2))⟩, c8, e5,
          rel_cpE r8 hts htl (.same s79) (r8.ext.trans s79) ⟨_, s79 _ _ (s57 _ _ hD5)⟩⟩
      | true =>
        rw [if_pos rfl]
        obtain ⟨d, he5, c8⟩ := R.bind_ok (show (fe e1).bind _ = .ok rest from c7)
        obtain ⟨ns, hns, c9⟩ := R.bind_ok c8
        obtain ⟨rest', hr5, c10⟩ := R.bind_ok c9
        have c10' : rest = ns :: rest' := by cases c10; rfl
        subst c10'
        have hns' : toI d = some ns := by
          cases q9 : toI d with
          | none => rw [q9] at hns; cases hns
          | some z => rw [q9] at hns; cases hns; rfl
        have hd' := of_toI hns'
        subst hd'
        have TE := he' _ s9 σ8 H9 (fun v H10 => Same H9 H10 ∧ ∃ b, v = .ref b ∧ H9 b = none ∧ H10 b = some (.lst (ns.map V.int))) J9 ⟨g', e1, [Dd], r8.same s79, good_ok he5 fun b vs' H10 s10 hn10 hH10 i10 => ⟨s10, b, rfl, hn10, by rw [hH10, isl_ofI i10]⟩⟩
        rw [eP, eW, eA, eE, eV] at TE
        refine thn TE fun y s10 h10 => ?_
        obtain ⟨v, H10, J10, rv, s910, nb, rfl, hn10, hH10⟩ := h10
        have hD9 : H9 Dd = some (.lst (as.map V.ref)) := s79 _ _ (s57 _ _ hD5)
        have hD10 : H10 Dd = some (.lst (as.map V.ref)) := s910 _ _ hD9
        have TM := mt_append (X := X') _ s10 σ8 H10 (.ref Dd) [.ref nb] (.ref Dd) [y] (fun _ H11 => H11 = upd H10 Dd (.lst (as.map V.ref ++ [.ref nb]))) J10 rfl (.cons rv .nil) ⟨Dd, as.map V.ref, .ref nb, rfl, rfl, hD10, by
          rw [List.length_map, ia1]
          have : (nsA ++ ns :: rest').length ≤ sizeLine := by rw [e5]; exact hz
          rw [List.length_append, List.length_cons] at this
          omega, rfl⟩
        rw [eP, eW, eA, eE] at TM
        refine thn TM fun _ s11 h11 => ?_
        obtain ⟨v', H11, J11, _, rfl⟩ := h11
        obtain ⟨k1, k2⟩ := keepT J11
        have hnbD : nb ≠ Dd := fun z => by rw [z, hD9] at hn10; cases hn10
        have exD : Ext (g'.P [Dd]) (g'.P [Dd]) H10 (upd H10 Dd (.lst (as.map V.ref ++ [.ref nb]))) := ⟨fun _ _ p _ => p, fun a o p e => by rw [upd_ne (fun z => p.2 (by simp [z]))]; exact e⟩
        have s10' : Same H2 H10 := (r8.ext.trans s79).trans s910
        have old9 : ∀ b ∈ as, ∃ o, H9 b = some o := fun b hb => let ⟨o, ho⟩ := (ia3 b hb).2.2; ⟨o, s79 _ _ (s57 _ _ ho)⟩
        have hnbas : nb ∉ as := fun z => by
          obtain ⟨o, ho⟩ := old9 nb z
          rw [hn10] at ho
          cases ho
        have hnb2 : H2 nb = none := (r8.ext.trans s79).free hn10
        refine ⟨xs.length - (i + 1), by omega, i + 1, as ++ [nb], nsA ++ [ns], rest', _, σ8, rfl, hlt, J11.unpinned, k1, k2, by rw [List.map_append]; exact upd_same, ⟨by rw [List.length_append, List.length_append, ia1]; rfl, ?_, fun b hb => ?_, fun k b ms z1 z2 => ?_⟩, hr5, by rw [List.append_assoc]; exact e5, ?_⟩
        · rw [List.nodup_append]
          refine ⟨ia2, by simp, fun a ha b hb => ?_⟩
          have hb' : b = nb := by simpa using hb
          rw [hb']
          exact fun z => hnbas (by rw [← z]; exact ha)
        · rcases List.mem_append.mp hb with z | z
          · obtain ⟨z1, z2, _⟩ := ia3 b z
            obtain ⟨o, ho⟩ := old9 b z
            exact ⟨z1, z2, o, by rw [upd_ne z2]; exact s910 _ _ ho⟩
          · have hb' : b = nb := by simpa using z
            rw [hb']
            exact ⟨hnb2, hnbD, _, by rw [upd_ne hnbD]; exact hH10⟩
        · by_cases hk : k < as.length
          · rw [List.getElem?_append_left hk] at z1
            rw [List.getElem?_append_left (by rw [← ia1]; exact hk)] at z2
            rw [upd_ne (ia3 b (List.mem_of_getElem? z1)).2.1]
            exact s910 _ _ (s79 _ _ (s57 _ _ (ia4 k b ms z1 z2)))
          · have hk2 : k = as.length := by
              have := (List.getElem?_eq_some_iff.mp z1).1
              rw [List.length_append] at this
              simp at this
              omega
            subst hk2
            have z1' : nb = b := by simpa using z1
            rw [ia1] at z2
            have z2' : ns = ms := by simpa using z2
            subst z1' z2'
            rw [upd_ne hnbD]
            exact hH10
        · exact rel_cpE (r8.same (s79.trans s910)) hts htl exD (fun a o e => by rw [upd_ne (ne_of_none (show H2 a = some o from e) hDn)]; exact s10' a o e) ⟨_, upd_same⟩
    · have e : i = xs.length := by omega
      subst e
      rw [List.drop_length] at c5
      have c5' : rest = [] := by cases c5; rfl
      subst c5'
      rw [List.append_nil] at e5
      subst e5
      have TD := T.done X' eP eW eK eC xs.length [] s5 σ5 Hx (fun _ _ => False) J5 (fpX fr5) st5 (y2 rfl)
      rw [eA] at TD
      refine thn TD fun r s6 h6 => ?_
      obtain ⟨rfl, J6⟩ := h6
      obtain ⟨m6, hn6, _⟩ := J6.loc
      rw [eL] at hn6
      have un6 : Un (frs X.stack) fp (upd H2 Dd (.lst [])) Hx s3.heap s6.heap := by
        have u := J6.base
        rw [eF, eX, eH, eS] at u
        exact u
      have hxC : Hx s3.heap.objs.size = none := by have := J6.free; rw [eL] at this; exact this
      have hok6 : HOk X.prog X.w Hx s6.heap := by
        have z := J6.hok
        rw [eP, eW] at z
        exact z
      have os6 : s6.os = s3.os := by have := J6.os; rw [eS] at this; exact this
      have I6 : Inv X pins σ Hx s6 := I3.call' (s' := s6) os6 un6 hok6 J6.bare fun b hb => by
        obtain ⟨_, c1, c2, c3, c4, c5⟩ := f3 b hb
        exact ⟨c3, c1, c4, c5⟩
      have fC : FpOk X pins Hx s3.heap.objs.size := ⟨hxC, (I3.fpOk (Nat.le_refl _) (I3.hok.fresh (Nat.le_refl _))).2⟩
      refine q Dd s3.heap.objs.size as Hx s6 I6 ⟨m6, hn6⟩ fC (s12.trans r5.ext) ⟨fun b hb => ?_, List.nodup_cons.mpr ⟨fun z => (ia3 Dd z).2.1 rfl, ia2⟩, ia1, hD5, ia4⟩
      rcases List.mem_cons.mp hb with z | z
      · rw [z]; exact s12.free hDn
      · exact s12.free (ia3 b z).1
  have st4 : tn 0 h₁ := T.keep _ _ _ st2 fun b hb o e => k3 b o (by rw [hh3]; exact Heap.get?_push_of_some _ e)
  have eG : ({ heap := h₁, gens := s3.gens, drawn := s3.drawn, toks := s2.toks + ([] : List (Str × Value)).length, os := s3.os } : Shared) = { heap := h₁, gens := s2.gens, drawn := s2.drawn, toks := s2.toks + ([] : List (Str × Value)).length, os := s2.os } := by rw [← hs3]
  rw [eG] at I4
  exact codeAny_compStart_list (loop _ I4 st4) (T.self _ 0 _ _ _ st4 (loop _ I4 st4))
variable {elt tg iter : Expr} {ifs : List Expr} {fi : DE → R (List D)} {b : D → DE → R DE} {ct : DE → R Bool} {fe : DE → R (List D)}
theorem sSetCT (i : Nat) {x : Str} {pos' p : Pos} (S : CpScope X scope N nt caps) (hcalm : X.calm = true) (hi : PI X tg iter (tIS X.K E fi))
    (hb1 : ∀ ds d e, b d (cpE nt ds) = .ok e → ∃ ts, e = ts ++ ds.map .val ∧ ts.length = nt)
    (hg : ∀ s H fp C pl, PG (cpCx X scope N s H fp C pl) tg (tG X.K EN b)) (ht : ∀ s H fp C pl, PTs (cpCx X scope N s H fp C pl) ifs (tT X.K EN ct)) (he : ∀ s H fp C pl, PE (cpCx X scope N s H fp C pl) elt (tF X.K EN fe)) (hN : X.N.Nodup)
    (hs : ∀ x, foldedSetIterable iter X.env x = pure x := by intro _; rfl) (hii : X.N[i]? = some x := by rfl) (hx : Loc X.env.scope x := by first | exact Or.inl rfl | exact Or.inr rfl)
    (hf : X.fn x = true ∨ X.env.scope.names.lookup x = some .local := by first | exact .inl rfl | exact .inr rfl | assumption)
    (hsw : swapsWith (.ListComp elt [⟨tg, iter, ifs, 0⟩] scope p) (some (.Name x pos')) pos.line X.env = pure true := by rfl) :
    PS X (.Assign [.Name x pos'] (.ListComp elt [⟨tg, iter, ifs, 0⟩] scope p) pos) (tS X.K E fun env => ((fi env).bind fun xs => (capt env caps).bind fun ds => (compT b ct fe (cpE nt ds) xs).ne.bind fit).bind fun ys => .ok (.nx (env.set i (.deep ys)))) := by
  intro pins s σ H De I h
  obtain ⟨g, env, os, r, m⟩ := h
  rw [exec_Assign_Name_used _ _ _ _ hsw, arm_evalThenUse_ListComp]
  refine wpAny_bind (wpAny_standAt (wpAny_bind (wpAny_bind ?_)))
  refine compRunT (use := some (assign (.Name x pos') X.env)) S hcalm hi hb1 hg ht he hs I r (m.bind.mono fun ys _ q Dd C as Hx s6 I6 hn fC sm nd => ?_)
  obtain ⟨m6, o6, es6, ep6, ho6, hd6, hk6⟩ := hn
  have fC' : ∀ b ∈ [C], FpOk X pins Hx b := fun b hb => by
    have z : b = C := by simpa using hb
    rw [z]; exact fC
  have J6 := I6.pinned fC' fun b hb => by
    have z : b = C := by simpa using hb
    subst z
    exact ⟨o6, ho6, fun v z => by rw [hd6] at z; cases z⟩
  have TG := pg_name (pos := pos') hN hii hx hf _ s6 σ Hx (.ref Dd) (.ref Dd) (fun σ7 H7 => σ7 = σ.set i (some (.ref Dd)) ∧ H7 = Hx) J6 rfl ⟨rfl, rfl⟩
  refine thn TG fun _ s7 h7 => ?_
  obtain ⟨σ7, H7, J7, rfl, rfl⟩ := h7
  have e7 : s7.heap.get? C = some o6 := (J7.pin (C, o6) (List.mem_append_right _ (List.mem_append_right _ (mem_pinsAt (by simp) ho6)))).1
  refine ⟨m6, ⟨o6, es6, ep6, e7, hd6, hk6⟩, fun h8 hs8 => wpAny_pure (wpAny_pure ?_)⟩
  refine ⟨_, H7, turnL (fp := [C]) (t' := s7.toks) J7.unpinned fC' (fun b u hb e => (hs8.2 b (fun z => hb (by simp [z]))).trans e), ?_⟩
  refine q _ H7 ((Dd :: as) ++ os) (r.setD sm i nd.fr nd.nd nd.len nd.ha nd.it) ⟨fun b hb => ?_, fun b hb => sm.free hb, fun b o _ hb => sm b o hb⟩
  rcases List.mem_append.mp hb with z | z
  · exact .inr (nd.fr b z)
  · exact .inl z
end
end DL

namespace DL
open PySem PySem.Spec PyProof.Rows L2
section
variable {X : Cx} {E : Str → Hp → Prop} {pos : Pos}
theorem sFrzE (i : Nat) {st : Stmt} {f : DE → R Out} (h : PS X st (tS X.K E f)) : PS X st (tS X.K E fun env => f (frzD i env)) := impS h fun De σ H ⟨g, env, os, r, m⟩ => by
  have m' : Good E g.H₀ (f (frzD i env)) (PostO X.K g H os De) := m
  unfold frzD at m'
  split at m'
  · rename_i nss he
    obtain ⟨os2, r2, hs⟩ := r.freezeD he
    exact ⟨g, _, os2, r2, m'.mono fun o _ q => PostO.step ⟨fun a ha => .inl (hs a ha), fun _ h => h, fun _ _ _ h => h⟩ q⟩
  · exact ⟨g, env, os, r, m'⟩
theorem PE.TtoB {e : Expr} {f : DE → R (List (List Int))} (h : PE X e (tDp X.K E f)) : PE X e (tB X.K E fun env => (f env).bind fun nss => .ok (.lst (nss.map fun ns => .lst (ns.map .int)))) :=
  imp h fun σ H Q ⟨g, env, os, r, m⟩ => ⟨g, env, os, r, m.bind.mono fun nss _ q a as H' s nd => (show (∀ v H', Same H H' → Is X.K (fun _ => True) H' (.lst (nss.map fun ns => .lst (ns.map .int))) v → Q v H') from q) _ H' s ⟨a, _, rfl, .inl ⟨trivial, .inl nd.ha⟩, isl_deepP nd.len (fun _ _ => trivial) nd.it⟩⟩
end
end DL

namespace DL
open PySem PySem.Spec PyProof.Rows L2
section
variable {K : PySem.W.Frag} {g : Gh} {env : DE} {σ : St} {H H1 : Hp} {os : List Addr}
end
section
variable {X : Cx} {E : Str → Hp → Prop} {pos : Pos}
noncomputable def appP (ix : Nat) (env : DE) (nss : List (List Int)) (kn : Nat × List Int) : D → R Out
  | .int v => @ite _ (kn.2.length < sizeLine) (Classical.propDecidable _) (.ok (.nx (env.set ix (.deep (nss.set kn.1 (kn.2 ++ [v])))))) .bad
  | _ => .bad
theorem Good.appP {H₀ : Hp} {ix : Nat} {env : DE} {nss : List (List Int)} {kn : Nat × List Int} {d : D} {p : Out → Prop} (h : Good E H₀ (appP ix env nss kn d) p) : ∃ v, d = .int v ∧ kn.2.length < sizeLine ∧ p (.nx (env.set ix (.deep (nss.set kn.1 (kn.2 ++ [v]))))) := by
  unfold DL.appP at h
  split at h
  · split at h
    · rename_i c
      exact ⟨_, rfl, c, h⟩
    · exact h.elim
  · exact h.elim
theorem sAppDD (ix : Nat) {x : Str} {ei e : Expr} {fi f : DE → R D} {p tp2 apos cpos : Pos} (hi : PE X ei (tB X.K E fi)) (he : PE X e (tB X.K E f)) (hN : X.N[ix]? = some x := by rfl) (hv : Vis X.env.scope x := by first | exact Or.inl rfl | exact Or.inr (Or.inl rfl) | exact Or.inr (Or.inr rfl)) (hd : (x == ("__debug__" : Str)) = false := by decide)
    (hcd : (x == ("__classdict__" : Str)) = false := by decide) (hpi : PlainIx ei := by exact fun _ _ => rfl)
    (hbase : attributeBase (.Subscript (.Name x p) ei tp2) "append" X.env (eval (.Subscript (.Name x p) ei tp2) X.env) = eval (.Subscript (.Name x p) ei tp2) X.env := by rfl)
    (hfew : ((backTo cpos (starEach [e] X.env)).all (fun x => !x.1) && (backToKw cpos (keywordEach [] X.env)).all (fun x => x.1.isSome)
      && decide ([e].length + ([] : List Keyword).length + (if ([] : List Keyword).isEmpty then 0 else 1) < 30)) = true := by rfl)
    (hline : (apos.endLine == cpos.line) = true := by rfl) (hst : starEach [e] X.env = (false, eval e X.env) :: starEach [] X.env := by rfl) (hplain : (backTo cpos (starEach [] X.env)).any (·.1) = false := by rfl)
    (hs : swapsWith (.Call (.Attribute (.Subscript (.Name x p) ei tp2) "append" apos) [e] [] cpos) none pos.line X.env = pure false := by rfl) :
    PS X (.Expr (.Call (.Attribute (.Subscript (.Name x p) ei tp2) "append" apos) [e] [] cpos) pos) (tS X.K E fun env => (deepAt ix env).bind fun nss => (fi env).bind fun a => (sub1 nss a).bind fun kn => (f env).bind fun d => appP ix env nss kn d) :=
  impS (ps_expr (pe_bm PySem.F.plainAttrs_list PySem.F.slot_list_append PySem.F.type_list_append mt_append (pe_ix ix_list (pe_var hN hv hd hcd) hi hpi) (pa_cons he pa_nil hst) hbase hfew hline hst hplain) hs) fun De σ H ⟨g, env, os, r, m⟩ => by
    obtain ⟨nss, e1, m2⟩ := m.bind.deep
    obtain ⟨a, as, q1, q2, q3, q4⟩ := r.at_deep e1
    refine ⟨.ref a, q1, g, env, os, r, m2.bind.mono fun da _ m3 w H2 s2 i2 => ?_⟩
    obtain ⟨i, k, ns, rfl, hk, hns, m4⟩ := m3.bind.sub1
    obtain ⟨b, hb1, hb2⟩ := q4 k ns hns
    refine ⟨a, as.map V.ref, i, .ref b, rfl, i2, SqL.of (s2 _ _ q2), atI_of (by rw [List.length_map, q3]; exact hk) (by rw [List.getElem?_map, hb1]; rfl), .inl ⟨rfl, _, SqL.of (s2 _ _ hb2)⟩, g, env, os, r.same s2, m4.bind.mono fun d _ m5 v H3 s3 i3 => ?_⟩
    obtain ⟨u, rfl, hl, m6⟩ := m5.appP
    have iu : v = .int u := i3
    subst iu
    have r3 := r.same (s2.trans s3)
    have hb3 := s3 _ _ (s2 _ _ hb2)
    obtain ⟨hbos, r4⟩ := r3.mutD (ns := ns) e1 q1 (s3 _ _ (s2 _ _ q2)) hb1 (List.getElem?_eq_some_iff.mp hns).1 (ns ++ [u])
    refine ⟨b, ns.map V.int, .int u, rfl, rfl, hb3, by rw [List.length_map]; exact hl, ?_⟩
    rw [List.map_append] at r4
    exact (show PostO X.K g H os De (.nx _) from m6) σ _ os r4 ((Stp.same (s2.trans s3) os).trans (.mut hbos))
end
end DL

namespace DL
open PySem PySem.Spec PyProof.Rows L2
section
variable {X : Cx} {E : Str → Hp → Prop} {pos : Pos} {k : Nat} {fa : Addr} {fd : FuncData} {st : Stmt} {ps : List Str} {x : Str} {p : Pos} {e : Expr} {es : List Expr} {f : DE → R (List D)}
abbrev FTab := List (Str × (List D → R (List D)))
def FnR (X : Cx) (n : Str) (m : List D → R (List D)) : Prop := ∃ st ps fa fd k, Df X.K X.mg n st ps fa fd ∧ FnOk X.prog X.w X.K X.mg X.base CX0 k fa fd ps (spF X.K xc0 m) ∧ Room k X.A
def FnT (X : Cx) (tab : FTab) : Prop := ∀ n m, tab.lookup n = some m → FnR X n m
theorem FnT.nil : FnT X [] := fun n m h => nomatch h
theorem FnT.cons {m : List D → R (List D)} {tab : FTab} (d : Df X.K X.mg x st ps fa fd) (F : FnOk X.prog X.w X.K X.mg X.base CX0 k fa fd ps (spF X.K xc0 m)) (hr : Room k X.A) (h : FnT X tab) : FnT X ((x, m) :: tab) := fun n m' q => by
  rw [List.lookup_cons] at q
  split at q
  · rename_i z
    have e : n = x := eq_of_beq z
    cases q
    subst e
    exact ⟨_, _, _, _, _, d, F, hr⟩
  · exact h n m' q
end
end DL

namespace DL
open PySem PySem.Spec PyProof.Rows L2
section
variable {X : Cx} {E : Str → Hp → Prop} {pos : Pos}
end
end DL

namespace DL
open PySem PySem.Spec PyProof.Rows L2
section
variable {X : Cx} {k : Nat} {fa : Addr} {fd : FuncData} {st : Stmt} {ps : List Str} {x y : Str} {p pos cpos pos' : Pos} {e : Expr} {es : List Expr} {fr : DE → R (List D)}
end
end DL

namespace DL
open PySem PySem.Spec PyProof.Rows L2
section
variable {K : PySem.W.Frag} {g : Gh} {env : DE} {σ : St} {H H' : Hp} {os : List Addr}
theorem Rel.setC (r : Rel K g env σ H os) (s : Same H H') (i : Nat) {c : Ct} {a : Addr} {as : List Addr} (hn : ∀ b ∈ a :: as, H b = none) (dp : Dp H' ((a :: as) ++ os) a as c) :
    Rel K g (env.set i (.deep c)) (σ.set i (some (.ref a))) H' ((a :: as) ++ os) := by
  have ap := r.aparts s hn
  have f : ∀ (j : Nat) (sl : Sl), (env.set i (Sl.deep c))[j]? = some sl → sl ≠ .deep c → i ≠ j ∧ env[j]? = some sl := fun j sl q hn => get_set_ne' q hn
  have hnew : ∀ x ∈ a :: as, x ∉ os := fun x hx hm => by
    obtain ⟨o, ho⟩ := (r.new x hm).2
    rw [hn x hx] at ho
    cases ho
  refine ⟨by simp [r.len], r.ext.trans s, fun j d q => ?_, fun j xs q => ?_, fun j k xs ys b q1 q2 q3 q4 => ?_, fun b hb => ?_, fun j v q => ?_, ?_⟩
  · obtain ⟨hj, q⟩ := f j _ q (fun z => nomatch z)
    obtain ⟨v, h1, h2⟩ := r.val j d q
    exact ⟨v, by rw [List.getElem?_set_ne hj]; exact h1, Is.ext ap _ _ h2⟩
  · obtain ⟨hj, q⟩ := f j _ q (fun z => nomatch z)
    obtain ⟨b, vs, h1, h2, h3, h4⟩ := r.own j xs q
    exact ⟨b, vs, by rw [List.getElem?_set_ne hj]; exact h1, List.mem_append_right _ h2, s _ _ h3, IsL.ext ap _ _ h4⟩
  · obtain ⟨hj, q1⟩ := f j _ q1 (fun z => nomatch z)
    obtain ⟨hk, q2⟩ := f k _ q2 (fun z => nomatch z)
    rw [List.getElem?_set_ne hj] at q3
    rw [List.getElem?_set_ne hk] at q4
    exact r.inj j k xs ys b q1 q2 q3 q4
  · rcases List.mem_append.mp hb with z | z
    · exact ⟨r.ext.free (hn b z), (dp.mem b z).2⟩
    · obtain ⟨h1, o, h2⟩ := r.new b z
      exact ⟨h1, o, s _ _ h2⟩
  · obtain ⟨hj, q⟩ := f j _ q (fun z => nomatch z)
    rw [List.getElem?_set_ne hj]
    exact r.raw j v q
  · obtain ⟨A, dd⟩ := r.dps
    refine ⟨fun j => if j = i then a :: as else A j, fun j mss q => ?_, fun j mss k xs b q1 q2 q3 => ?_, fun j k mss lss hjk q1 q2 x hx => ?_⟩
    · by_cases hj : j = i
      · subst hj
        have z := get_set_eq q
        cases z
        exact ⟨a, as, if_pos rfl, by rw [List.getElem?_set_self (by rw [r.len]; exact lt_of_set q)], dp⟩
      · have q' := q
        rw [List.getElem?_set_ne (Ne.symm hj)] at q'
        obtain ⟨b, bs, h1, h2, h3⟩ := dd.dp j mss q'
        refine ⟨b, bs, by rw [if_neg hj]; exact h1, by rw [List.getElem?_set_ne (Ne.symm hj)]; exact h2, h3.to fun x hx => ?_⟩
        obtain ⟨z1, o, z2⟩ := h3.mem x hx
        exact ⟨List.mem_append_right _ z1, by rw [s x o z2, z2]⟩
    · obtain ⟨hk, q2⟩ := f k _ q2 (fun z => nomatch z)
      rw [List.getElem?_set_ne hk] at q3
      show b ∉ if j = i then a :: as else A j
      by_cases hj : j = i
      · rw [if_pos hj]
        obtain ⟨c, vs, h1, h2, _⟩ := r.own k xs q2
        rw [q3] at h1
        cases h1
        exact fun z => hnew b z h2
      · rw [if_neg hj]
        rw [List.getElem?_set_ne (Ne.symm hj)] at q1
        exact dd.ow j mss k xs b q1 q2 q3
    · show x ∉ if k = i then a :: as else A k
      have hx' : x ∈ if j = i then a :: as else A j := hx
      by_cases hj : j = i
      · have hk : k ≠ i := fun z => hjk (by rw [hj, z])
        rw [if_pos hj] at hx'
        rw [if_neg hk]
        rw [List.getElem?_set_ne (Ne.symm hk)] at q2
        exact fun z => hnew x hx' (dd.mem q2 x z).1
      · rw [if_neg hj] at hx'
        rw [List.getElem?_set_ne (Ne.symm hj)] at q1
        by_cases hk : k = i
        · rw [if_pos hk]
          exact fun z => hnew x z (dd.mem q1 x hx').1
        · rw [if_neg hk]
          rw [List.getElem?_set_ne (Ne.symm hk)] at q2
          exact dd.dj j k mss lss hjk q1 q2 x hx'
theorem Rel.mutC (r : Rel K g env σ H os) {i : Nat} {c c' : Ct} (e : env[i]? = some (.deep c)) {a : Addr} (hσ : σ[i]? = some (some (.ref a))) {o : HO} (hp : ∀ as, Dp H os a as c → as = []) (hd : ∀ os, a ∈ os → Dp (upd H a o) os a [] c') :
    a ∈ os ∧ Rel K g (env.set i (.deep c')) σ (upd H a o) os := by
  obtain ⟨A, dd⟩ := r.dps
  obtain ⟨a0, as0, hA, h1, h3⟩ := dd.dp i c e
  rw [hσ] at h1
  cases h1
  have has := hp _ h3
  subst has
  have hbos : a ∈ os := (h3.mem a (by simp)).1
  have hbA : a ∈ A i := by rw [hA]; simp
  refine ⟨hbos, ?_⟩
  have ex : Ext (g.P os) (g.P os) H (upd H a o) := ⟨fun _ _ p _ => p, fun c o p q => by rw [upd_ne (fun z => p.2 (by rw [z]; exact hbos))]; exact q⟩
  have f : ∀ (j : Nat) (sl : Sl), (env.set i (Sl.deep c'))[j]? = some sl → sl ≠ .deep c' → i ≠ j ∧ env[j]? = some sl := fun j sl q hn => get_set_ne' q hn
  refine ⟨by simp [r.len], fun b o' q => ?_, fun j d q => ?_, fun j xs q => ?_, fun j k xs ys b q1 q2 q3 q4 => ?_, fun b hc => ?_, fun j v q => ?_, ?_⟩
  · rw [upd_ne (fun z => by rw [z, (r.new a hbos).1] at q; cases q)]
    exact r.ext b o' q
  · obtain ⟨hj, q⟩ := f j _ q (fun z => nomatch z)
    obtain ⟨v, h1, h2⟩ := r.val j d q
    exact ⟨v, h1, Is.ext ex _ _ h2⟩
  · obtain ⟨hj, q⟩ := f j _ q (fun z => nomatch z)
    obtain ⟨b, vs, h1, h2, h3', h4⟩ := r.own j xs q
    have hcb : b ≠ a := fun z => dd.ow i c j xs b e q h1 (by rw [z]; exact hbA)
    exact ⟨b, vs, h1, h2, by rw [upd_ne hcb]; exact h3', IsL.ext ex _ _ h4⟩
  · obtain ⟨hj, q1⟩ := f j _ q1 (fun z => nomatch z)
    obtain ⟨hk, q2⟩ := f k _ q2 (fun z => nomatch z)
    exact r.inj j k xs ys b q1 q2 q3 q4
  · obtain ⟨z1, o', z2⟩ := r.new b hc
    refine ⟨z1, ?_⟩
    by_cases z : b = a
    · exact ⟨_, by rw [z]; exact upd_same⟩
    · exact ⟨o', by rw [upd_ne z]; exact z2⟩
  · obtain ⟨hj, q⟩ := f j _ q (fun z => nomatch z)
    exact r.raw j v q
  · refine ⟨A, fun j mss q => ?_, fun j mss m xs b q1 q2 q3 => ?_, fun j m mss lss hjm q1 q2 x hx => ?_⟩
    · by_cases hj : i = j
      · subst hj
        have z := get_set_eq q
        cases z
        exact ⟨a, [], hA, hσ, hd os hbos⟩
      · rw [List.getElem?_set_ne hj] at q
        obtain ⟨b, cs, z1, z2, z3⟩ := dd.dp j mss q
        refine ⟨b, cs, z1, z2, z3.to fun x hx => ?_⟩
        have hxb : x ≠ a := fun z => dd.dj i j c mss hj e q a hbA (by rw [z1, ← z]; exact hx)
        exact ⟨(z3.mem x hx).1, upd_ne hxb⟩
    · obtain ⟨_, q2⟩ := f m _ q2 (fun z => nomatch z)
      by_cases hj : i = j
      · subst hj
        exact dd.ow i c m xs b e q2 q3
      · rw [List.getElem?_set_ne hj] at q1
        exact dd.ow j mss m xs b q1 q2 q3
    · have p1 : ∃ ms, env[j]? = some (.deep ms) := by
        by_cases hj : i = j
        · subst hj; exact ⟨c, e⟩
        · rw [List.getElem?_set_ne hj] at q1; exact ⟨mss, q1⟩
      have p2 : ∃ ms, env[m]? = some (.deep ms) := by
        by_cases hj : i = m
        · subst hj; exact ⟨c, e⟩
        · rw [List.getElem?_set_ne hj] at q2; exact ⟨lss, q2⟩
      obtain ⟨m1, p1⟩ := p1
      obtain ⟨m2, p2⟩ := p2
      exact dd.dj j m m1 m2 hjm p1 p2 x hx
end
theorem kvT_val (ks : List Int) (k : Int) : (valV (kvT ks) (Sum.inl k)).isSome = decide (k ∈ ks) := by
  induction ks with
  | nil => rfl
  | cons x ks ih =>
    by_cases h : x = k
    · subst h
      rw [show kvT (x :: ks) = (Sum.inl x, V.bl true) :: kvT ks from rfl, valV_pos rfl]
      simp
    · have h' : ¬ (Sum.inl x : Key) = Sum.inl k := fun z => h (Sum.inl.inj z)
      rw [show kvT (x :: ks) = (Sum.inl x, V.bl true) :: kvT ks from rfl, valV_neg h', ih]
      have : ¬ k = x := fun z => h z.symm
      simp [this]
def putI (ks : List Int) (k : Int) : List Int := if k ∈ ks then ks else ks ++ [k]
theorem kvT_put (ks : List Int) (k : Int) : putK (kvT ks) (Sum.inl k) (V.bl true) = kvT (putI ks k) := by
  unfold putK putI
  rw [valV_any, kvT_val]
  by_cases h : k ∈ ks
  · rw [if_pos (by simpa using h), if_pos h]
    have : ∀ kv ∈ kvT ks, (if kv.1 = (Sum.inl k : Key) then (kv.1, V.bl true) else kv) = kv := fun kv hk => by
      obtain ⟨x, _, rfl⟩ := List.mem_map.mp hk
      split <;> rfl
    rw [List.map_congr_left this, List.map_id']
  · rw [if_neg (by simpa using h), if_neg h]
    unfold kvT
    rw [List.map_append]
    rfl
theorem kvT_len (ks : List Int) : (kvT ks).length = ks.length := List.length_map _
def dicAt (i : Nat) (env : DE) : R (List Int) := match env[i]? with
  | some (.deep (.dk ks)) => .ok ks
  | _ => .bad
def asInt : D → R Int
  | .int i => .ok i
  | _ => .bad
section
variable {X : Cx} {E : Str → Hp → Prop} {pos : Pos}
theorem Good.dic {H₀ : Hp} {i : Nat} {env : DE} {p : List Int → Prop} (h : Good E H₀ (dicAt i env) p) : ∃ ks : List Int, env[i]? = some (.deep (.dk ks)) ∧ p ks := by
  unfold dicAt at h
  split at h
  · rename_i ks e
    exact ⟨ks, e, h⟩
  · exact h.elim
theorem Good.int {H₀ : Hp} {d : D} {p : Int → Prop} (h : Good E H₀ (asInt d) p) : ∃ i : Int, d = .int i ∧ p i := by
  unfold asInt at h
  split at h
  · rename_i i
    exact ⟨i, rfl, h⟩
  · exact h.elim
theorem sSetK (i : Nat) {x : Str} {pos' p : Pos} (hN : X.N.Nodup) (hi : X.N[i]? = some x := by rfl) (hx : Loc X.env.scope x := by first | exact Or.inl rfl | exact Or.inr rfl) (hs : swapsWith (.Dict [] [] p) (some (.Name x pos')) pos.line X.env = pure false := by rfl)
    (hf : X.fn x = true ∨ X.env.scope.names.lookup x = some .local := by first | exact .inl rfl | exact .inr rfl | assumption) : PS X (.Assign [.Name x pos'] (.Dict [] [] p) pos) (tS X.K E fun env => .ok (.nx (env.set i (.deep (.dk []))))) :=
  impS (ps_set hN hi hx pe_dnewK hs hf) fun De σ H ⟨g, env, os, r, m⟩ => fun p hp => by
    have sp := same_new hp (.dK [])
    have hn : ∀ b ∈ [p], H b = none := fun b hb => by
      have : b = p := by simpa using hb
      rw [this]; exact hp
    exact m _ _ ([p] ++ os) (r.setC sp i (c := .dk []) hn ⟨by simp, rfl, upd_same⟩) ⟨fun b hb => by
      rcases List.mem_append.mp hb with z | z
      · exact .inr (hn b z)
      · exact .inl z, fun b hb => sp.free hb, fun b o _ hb => sp b o hb⟩
theorem tNotK (i : Nat) {x : Str} {e : Expr} {f : DE → R D} {p : Pos} (hu : X.A.units + 6 < cLine) (he : PE X e (tB X.K E f)) (hN : X.N[i]? = some x := by rfl) (hv : Vis X.env.scope x := by first | exact Or.inl rfl | exact Or.inr (Or.inl rfl) | exact Or.inr (Or.inr rfl)) (hd : (x == ("__debug__" : Str)) = false := by decide)
    (hcd : (x == ("__classdict__" : Str)) = false := by decide) (h1 : behindInMarks .NotIn (.Name x p) = false := by rfl) :
    PT X (.Compare e [.NotIn] [.Name x p] pos) (tT X.K E fun env => (f env).bind fun d => (asInt d).bind fun k => (dicAt i env).bind fun ks => .ok (!decide (k ∈ ks))) :=
  impT (pt_cmp (pc_dnotin (by omega) he (pe_var hN hv hd hcd)) h1) fun σ H Q ⟨g, env, os, r, m⟩ => ⟨g, env, os, r, m.bind.mono fun d _ m1 v H1 s1 i1 => by
    obtain ⟨k, rfl, m2⟩ := m1.bind.int
    obtain ⟨ks, e, m3⟩ := m2.bind.dic
    obtain ⟨A, dd⟩ := (r.same s1).dps
    obtain ⟨a, as, _, h2, h3⟩ := dd.dp i _ e
    have i1' : v = .int k := i1
    subst i1'
    refine ⟨.ref a, h2, a, _, rfl, DGet.k (k := Sum.inl k) h3.2.2, _, rfl, ?_⟩
    rw [kvT_val]
    exact m3 H1 s1⟩
end
end DL

namespace DL
open PySem PySem.Spec PyProof.Rows L2
section
variable {K : PySem.W.Frag} {g : Gh} {env : DE} {σ : St} {H : Hp} {os : List Addr}
theorem Rel.moveD (r : Rel K g env σ H os) {i y : Nat} {nss : List (List Int)} (e : env[i]? = some (.deep nss)) {ns : List Int} (ey : env[y]? = some (.own (ofI ns))) {a b : Addr} {as : List Addr} (hσ : σ[i]? = some (some (.ref a))) (hσy : σ[y]? = some (some (.ref b))) (ha : H a = some (.lst (as.map V.ref))) :
    a ∈ os ∧ a ≠ b ∧ b ∈ os ∧ H b = some (.lst (ns.map V.int)) ∧ Rel K g ((env.set i (.deep (nss ++ [ns]))).set y .no) σ (upd H a (.lst (as.map V.ref ++ [.ref b]))) os := by
  obtain ⟨A, dd⟩ := r.dps
  obtain ⟨a0, as0, hA, h1, h3⟩ := dd.dp i nss e
  rw [hσ] at h1
  cases h1
  have has : as0 = as := by
    have z := h3.ha
    rw [ha] at z
    have z2 : as.map V.ref = as0.map V.ref := by injection z with z; injection z
    exact (map_ref_inj z2).symm
  subst has
  have hiy : i ≠ y := fun z => by rw [z, ey] at e; cases e
  have hbos : a ∈ os := h3.ma
  obtain ⟨b', vs, w1, hbo, hbl, hbi⟩ := r.own y _ ey
  rw [hσy] at w1
  cases w1
  have ev := isl_ofI hbi
  subst ev
  have hnA : ∀ (j : Nat) (mss : Ct), env[j]? = some (.deep mss) → b ∉ A j := fun j mss q => dd.ow j mss y _ b q ey hσy
  have hab : b ≠ a := fun z => hnA i nss e (by rw [hA, z]; exact List.mem_cons_self)
  refine ⟨hbos, Ne.symm hab, hbo, hbl, ?_⟩
  have ex : Ext (g.P os) (g.P os) H (upd H a (.lst (as0.map V.ref ++ [.ref b]))) := ⟨fun c o p q => p, fun c o p q => by rw [upd_ne (fun z => p.2 (by rw [z]; exact hbos))]; exact q⟩
  have f : ∀ (j : Nat) (sl : Sl), ((env.set i (Sl.deep (nss ++ [ns]))).set y .no)[j]? = some sl → sl ≠ .no → sl ≠ .deep (nss ++ [ns]) → i ≠ j ∧ y ≠ j ∧ env[j]? = some sl := fun j sl q hn hn2 => by
    obtain ⟨q1, q2⟩ := get_set_ne' q hn
    obtain ⟨q3, q4⟩ := get_set_ne' q2 hn2
    exact ⟨q3, q1, q4⟩
  have keep : ∀ c, c ≠ a → ∀ o, H c = some o → (upd H a (.lst (as0.map V.ref ++ [.ref b]))) c = some o := fun c hc o ho => by rw [upd_ne hc]; exact ho
  refine ⟨by simp [r.len], fun c o q => ?_, fun j d q => ?_, fun j xs q => ?_, fun j k xs ys c q1 q2 q3 q4 => ?_, fun c hc => ?_, fun j v q => ?_, ?_⟩
  · rw [upd_ne (fun z => by rw [z, (r.new a hbos).1] at q; cases q)]
    exact r.ext c o q
  · obtain ⟨_, _, q⟩ := f j _ q (fun z => nomatch z) (fun z => nomatch z)
    obtain ⟨v, h1, h2⟩ := r.val j d q
    exact ⟨v, h1, Is.ext ex _ _ h2⟩
  · obtain ⟨_, _, q⟩ := f j _ q (fun z => nomatch z) (fun z => nomatch z)
    obtain ⟨c, vs, h1, h2, h3', h4⟩ := r.own j xs q
    have hca : c ≠ a := fun z => dd.ow i nss j xs c e q h1 (by rw [z, hA]; exact List.mem_cons_self)
    exact ⟨c, vs, h1, h2, keep c hca _ h3', IsL.ext ex _ _ h4⟩
  · obtain ⟨_, _, q1⟩ := f j _ q1 (fun z => nomatch z) (fun z => nomatch z)
    obtain ⟨_, _, q2⟩ := f k _ q2 (fun z => nomatch z) (fun z => nomatch z)
    exact r.inj j k xs ys c q1 q2 q3 q4
  · obtain ⟨z1, o, z2⟩ := r.new c hc
    refine ⟨z1, ?_⟩
    by_cases w : c = a
    · exact ⟨_, by rw [w]; exact upd_same⟩
    · exact ⟨o, keep c w o z2⟩
  · obtain ⟨_, _, q⟩ := f j _ q (fun z => nomatch z) (fun z => nomatch z)
    exact r.raw j v q
  · have sub : ∀ (j' : Nat) (x : Addr), (x ∈ if j' = i then a :: (as0 ++ [b]) else A j') → x ∈ A j' ∨ (j' = i ∧ x = b) := fun j' x hy => by
      by_cases hj : j' = i
      · rw [if_pos hj] at hy
        rw [hj, hA]
        rcases List.mem_cons.mp hy with w | w
        · rw [w]; exact .inl List.mem_cons_self
        · rcases List.mem_append.mp w with w | w
          · exact .inl (List.mem_cons_of_mem _ w)
          · exact .inr ⟨rfl, by simpa using w⟩
      · rw [if_neg hj] at hy
        exact .inl hy
    have p1 : ∀ (j : Nat) (ms : Ct), ((env.set i (Sl.deep (nss ++ [ns]))).set y .no)[j]? = some (.deep ms) → ∃ ms', env[j]? = some (.deep ms') := fun j ms q => by
      obtain ⟨_, q⟩ := get_set_ne' q (fun z => nomatch z)
      by_cases hj : i = j
      · subst hj; exact ⟨nss, e⟩
      · rw [List.getElem?_set_ne hj] at q; exact ⟨ms, q⟩
    refine ⟨fun j => if j = i then a :: (as0 ++ [b]) else A j, fun j mss q => ?_, fun j mss m xs c q1 q2 q3 hx => ?_, fun j m mss lss hjm q1 q2 x hx hx2 => ?_⟩
    · obtain ⟨_, q⟩ := get_set_ne' q (fun z => nomatch z)
      by_cases hj : j = i
      · have q' := q
        rw [hj] at q'
        have z := get_set_eq q'
        cases z
        refine ⟨a, as0 ++ [b], if_pos hj, by rw [hj]; exact hσ, h3.ma, by rw [List.map_append]; exact upd_same, by rw [List.length_append, List.length_append, h3.len]; rfl, ?_, fun m c ms e1 e2 => ?_⟩
        · have hbas : b ∉ as0 := fun z => hnA i nss e (by rw [hA]; exact List.mem_cons_of_mem _ z)
          have nd := List.nodup_cons.mp h3.nd
          refine List.nodup_cons.mpr ⟨fun z => ?_, ?_⟩
          · rcases List.mem_append.mp z with w | w
            · exact nd.1 w
            · have : a = b := by simpa using w
              exact hab this.symm
          · rw [List.nodup_append]
            refine ⟨nd.2, by simp, fun x hx y hy => ?_⟩
            have hy' : y = b := by simpa using hy
            rw [hy']
            exact fun z => hbas (by rw [← z]; exact hx)
        · by_cases hm : m < as0.length
          · rw [List.getElem?_append_left hm] at e1
            rw [List.getElem?_append_left (by rw [← h3.len]; exact hm)] at e2
            obtain ⟨w1, w2⟩ := h3.it m c ms e1 e2
            have hca : c ≠ a := fun z => (List.nodup_cons.mp h3.nd).1 (by rw [← z]; exact List.mem_of_getElem? e1)
            exact ⟨w1, keep c hca _ w2⟩
          · have hk2 : m = as0.length := by
              have := (List.getElem?_eq_some_iff.mp e1).1
              rw [List.length_append] at this
              simp at this
              omega
            subst hk2
            have z1' : b = c := by simpa using e1
            rw [h3.len] at e2
            have z2' : ns = ms := by simpa using e2
            subst z1' z2'
            exact ⟨hbo, by rw [upd_ne hab]; exact hbl⟩
      · rw [List.getElem?_set_ne (Ne.symm hj)] at q
        obtain ⟨c, cs, z1, z2, z3⟩ := dd.dp j mss q
        refine ⟨c, cs, by rw [if_neg hj]; exact z1, z2, z3.to fun x hx => ?_⟩
        have hxa : x ≠ a := fun z => dd.dj i j nss mss (Ne.symm hj) e q a (by rw [hA]; exact List.mem_cons_self) (by rw [z1, ← z]; exact hx)
        obtain ⟨w1, o, w2⟩ := z3.mem x hx
        exact ⟨w1, by rw [keep x hxa o w2, w2]⟩
    · obtain ⟨_, hmy, q2'⟩ := f m _ q2 (fun z => nomatch z) (fun z => nomatch z)
      obtain ⟨ms', p⟩ := p1 j mss q1
      rcases sub j c hx with w | ⟨_, w⟩
      · exact dd.ow j ms' m xs c p q2' q3 w
      · rw [w] at q3
        exact hmy (r.inj y m _ _ b ey q2' hσy q3)
    · obtain ⟨m1, w1⟩ := p1 j mss q1
      obtain ⟨m2, w2⟩ := p1 m lss q2
      rcases sub j x hx with u | ⟨u1, u⟩ <;> rcases sub m x hx2 with v | ⟨v1, v⟩
      · exact dd.dj j m m1 m2 hjm w1 w2 x u v
      · exact hnA j m1 w1 (by rw [← v]; exact u)
      · exact hnA m m2 w2 (by rw [← u]; exact v)
      · exact hjm (by rw [u1, v1])
end
section
variable {X : Cx} {E : Str → Hp → Prop} {pos : Pos}
theorem Good.ownI {H₀ : Hp} {i : Nat} {env : DE} {p : List Int → Prop} (h : Good E H₀ ((ownAt i env).bind fun xs => R.of (toI xs)) p) : ∃ ns : List Int, env[i]? = some (.own (ofI ns)) ∧ p ns := by
  obtain ⟨xs, e, h1⟩ := h.bind.own
  obtain ⟨ns, e2, h2⟩ := h1.of
  have e3 := of_toI e2
  subst e3
  exact ⟨ns, e, h2⟩
noncomputable def mvT (ix iy : Nat) (env : DE) (nss : List (List Int)) (ns : List Int) : R Out := @ite _ (nss.length < sizeLine) (Classical.propDecidable _) (.ok (.nx ((env.set ix (.deep (nss ++ [ns]))).set iy .no))) .bad
theorem sMove (ix iy : Nat) {x y : Str} {p py apos cpos : Pos} (hN : X.N[ix]? = some x := by rfl) (hNy : X.N[iy]? = some y := by rfl) (hv : Vis X.env.scope x := by first | exact Or.inl rfl | exact Or.inr (Or.inl rfl) | exact Or.inr (Or.inr rfl)) (hvy : Vis X.env.scope y := by first | exact Or.inl rfl | exact Or.inr (Or.inl rfl) | exact Or.inr (Or.inr rfl)) (hd : (x == ("__debug__" : Str)) = false := by decide) (hdy : (y == ("__debug__" : Str)) = false := by decide)
    (hcd : (x == ("__classdict__" : Str)) = false := by decide) (hcdy : (y == ("__classdict__" : Str)) = false := by decide)
    (hbase : attributeBase (.Name x p) "append" X.env (eval (.Name x p) X.env) = eval (.Name x p) X.env := by rfl)
    (hfew : ((backTo cpos (starEach [.Name y py] X.env)).all (fun x => !x.1) && (backToKw cpos (keywordEach [] X.env)).all (fun x => x.1.isSome)
      && decide ([Expr.Name y py].length + ([] : List Keyword).length + (if ([] : List Keyword).isEmpty then 0 else 1) < 30)) = true := by rfl)
    (hline : (apos.endLine == cpos.line) = true := by rfl) (hst : starEach [.Name y py] X.env = (false, eval (.Name y py) X.env) :: starEach [] X.env := by rfl) (hplain : (backTo cpos (starEach [] X.env)).any (·.1) = false := by rfl)
    (hs : swapsWith (.Call (.Attribute (.Name x p) "append" apos) [.Name y py] [] cpos) none pos.line X.env = pure false := by rfl) :
    PS X (.Expr (.Call (.Attribute (.Name x p) "append" apos) [.Name y py] [] cpos) pos) (tS X.K E fun env => (deepAt ix env).bind fun nss => ((ownAt iy env).bind fun xs => R.of (toI xs)).bind fun ns => mvT ix iy env nss ns) :=
  impS (ps_expr (pe_bm PySem.F.plainAttrs_list PySem.F.slot_list_append PySem.F.type_list_append mt_append (pe_var hN hv hd hcd) (pa_cons (pe_var hNy hvy hdy hcdy) pa_nil hst) hbase hfew hline hst hplain) hs) fun De σ H ⟨g, env, os, r, m⟩ => by
    obtain ⟨nss, e1, m2⟩ := m.bind.deep
    obtain ⟨ns, e2, m3⟩ := m2.bind.ownI
    obtain ⟨a, as, q1, q2, q3, q4⟩ := r.at_deep e1
    obtain ⟨b, vs, b1, b2, b3, b4⟩ := r.own iy _ e2
    obtain ⟨hos, hab, hbo, hbl, r2⟩ := r.moveD e1 e2 q1 b1 q2
    unfold mvT at m3
    split at m3
    · rename_i c
      refine ⟨.ref a, q1, .inl ⟨rfl, _, SqL.of q2⟩, .ref b, b1, a, as.map V.ref, .ref b, rfl, rfl, q2, by rw [List.length_map, q3]; exact c, ?_⟩
      exact (show PostO X.K g H os De (.nx _) from m3) σ _ os r2 (.mut hos)
    · exact m3.elim
noncomputable def mvK (ix iy iz id : Nat) (env : DE) : R Out := (deepAt ix env).bind fun nss => ((ownAt iy env).bind fun xs => R.of (toI xs)).bind fun ns => (dicAt id env).bind fun ks =>
  @ite _ (nss.length < sizeLine ∧ ks.length + ns.length < sizeLine ∧ iz ≠ ix ∧ iz ≠ iy ∧ iz ≠ id ∧ iz < env.length) (Classical.propDecidable _) (.ok (.nx ((((env.set ix (.deep (nss ++ [ns]))).set iy .no).set iz .no).set id (.deep (.dk (ns.foldl putI ks)))))) .bad
theorem putI_len (ks : List Int) (k : Int) : (putI ks k).length ≤ ks.length + 1 := by
  unfold putI
  split
  · omega
  · simp
theorem foldI_len : ∀ (ns ks : List Int), (ns.foldl putI ks).length ≤ ks.length + ns.length
  | [], ks => by simp
  | n :: ns, ks => by
    have h1 := putI_len ks n
    have h2 := foldI_len ns (putI ks n)
    rw [List.foldl_cons, List.length_cons]
    omega
theorem pssMoveK (ix iy iz id : Nat) {x y z d : Str} {p py apos cpos pos1 p1 p2 p3 p4 tp bp pos3 : Pos} {bj} (hu : X.A.units + 6 < cLine) (hp : PassesOwn (model X.prog X.w) X.A X.env X.xe) (hc : X.calm = true) (hNd : X.N.Nodup)
    (hN : X.N[ix]? = some x := by rfl) (hNy : X.N[iy]? = some y := by rfl) (hNz : X.N[iz]? = some z := by rfl) (hNk : X.N[id]? = some d := by rfl)
    (hv : Vis X.env.scope x := by first | exact Or.inl rfl | exact Or.inr (Or.inl rfl) | exact Or.inr (Or.inr rfl)) (hvy : Vis X.env.scope y := by first | exact Or.inl rfl | exact Or.inr (Or.inl rfl) | exact Or.inr (Or.inr rfl)) (hvz : Vis X.env.scope z := by first | exact Or.inl rfl | exact Or.inr (Or.inl rfl) | exact Or.inr (Or.inr rfl)) (hvk : Vis X.env.scope d := by first | exact Or.inl rfl | exact Or.inr (Or.inl rfl) | exact Or.inr (Or.inr rfl))
    (lz : Loc X.env.scope z := by first | exact Or.inl rfl | exact Or.inr rfl) (hf : X.fn z = true ∨ X.env.scope.names.lookup z = some .local := by first | exact .inl rfl | exact .inr rfl | assumption)
    (hd : (x == ("__debug__" : Str)) = false := by decide) (hdy : (y == ("__debug__" : Str)) = false := by decide) (hdz : (z == ("__debug__" : Str)) = false := by decide) (hdk : (d == ("__debug__" : Str)) = false := by decide)
    (hcd : (x == ("__classdict__" : Str)) = false := by decide) (hcdy : (y == ("__classdict__" : Str)) = false := by decide) (hcdz : (z == ("__classdict__" : Str)) = false := by decide) (hcdk : (d == ("__classdict__" : Str)) = false := by decide)
    (hbase : attributeBase (.Name x p) "append" X.env (eval (.Name x p) X.env) = eval (.Name x p) X.env := by rfl)
    (hfew : ((backTo cpos (starEach [.Name y py] X.env)).all (fun x => !x.1) && (backToKw cpos (keywordEach [] X.env)).all (fun x => x.1.isSome)
      && decide ([Expr.Name y py].length + ([] : List Keyword).length + (if ([] : List Keyword).isEmpty then 0 else 1) < 30)) = true := by rfl)
    (hline : (apos.endLine == cpos.line) = true := by rfl) (hst : starEach [.Name y py] X.env = (false, eval (.Name y py) X.env) :: starEach [] X.env := by rfl) (hplain : (backTo cpos (starEach [] X.env)).any (·.1) = false := by rfl)
    (hs : swapsWith (.Call (.Attribute (.Name x p) "append" apos) [.Name y py] [] cpos) none pos1.line X.env = pure false := by rfl)
    (hs2 : swapsWith (.Constant (.bool true) bj bp) (some (.Subscript (.Name d p3) (.Name z p4) tp)) pos3.line X.env = pure false := by rfl)
    (hfo : ∀ v, foldedSetIterable (.Name y p2) X.env v = pure v := by intro _; rfl) :
    PSs X [.Expr (.Call (.Attribute (.Name x p) "append" apos) [.Name y py] [] cpos) pos1, .For (.Name z p1) (.Name y p2) [.Assign [.Subscript (.Name d p3) (.Name z p4) tp] (.Constant (.bool true) bj bp) pos3] [] pos] (tS X.K E (mvK ix iy iz id)) :=
  impSs (pss_cons (ps_expr (pe_bm PySem.F.plainAttrs_list PySem.F.slot_list_append PySem.F.type_list_append mt_append (pe_var hN hv hd hcd) (pa_cons (pe_var hNy hvy hdy hcdy) pa_nil hst) hbase hfew hline hst hplain) hs)
    (pss_one (ps_for hp hc (pi_list (pe_var hNy hvy hdy hcdy)) (pg_name hNd hNz lz hf) (pss_one (ps_dput (by omega) (pe_var hNk hvk hdk hcdk) (pe_var hNz hvz hdz hcdz) pe_bl hs2)) hfo))) fun De σ H ⟨g, env, os, r, m⟩ => by
    obtain ⟨nss, e1, m2⟩ := Good.deep (Good.bind m)
    obtain ⟨ns, e2, m3⟩ := m2.bind.ownI
    obtain ⟨ks, e3, m4⟩ := m3.bind.dic
    obtain ⟨a, as, q1, q2, q3, q4⟩ := r.at_deep e1
    obtain ⟨b, vs, b1, b2, b3, b4⟩ := r.own iy _ e2
    obtain ⟨hos, hab, hbo, hbl, r2⟩ := r.moveD e1 e2 q1 b1 q2
    split at m4
    · rename_i cnd
      obtain ⟨c1, c2, n1, n2, n3, n4⟩ := cnd
      have hiy : ix ≠ iy := fun w => by rw [w, e2] at e1; cases e1
      have hik : id ≠ ix := fun w => by rw [w, e1] at e3; cases e3
      have hyk : id ≠ iy := fun w => by rw [w, e2] at e3; cases e3
      have hb2 : (upd H a (.lst (as.map V.ref ++ [.ref b]))) b = some (.lst (ns.map V.int)) := by rw [upd_ne (Ne.symm hab)]; exact hbl
      refine ⟨.ref a, q1, .inl ⟨rfl, _, SqL.of q2⟩, .ref b, b1, a, as.map V.ref, .ref b, rfl, rfl, q2, by rw [List.length_map, q3]; exact c1, ?_⟩
      generalize hE : (env.set ix (.deep (nss ++ [ns]))).set iy .no = env1 at r2 m4
      have hk1 : env1[id]? = some (.deep (.dk ks)) := by rw [← hE, List.getElem?_set_ne (Ne.symm hyk), List.getElem?_set_ne (Ne.symm hik)]; exact e3
      have hl1 : env1.length = env.length := by rw [← hE, List.length_set, List.length_set]
      have hst1 : Stp H os (upd H a (.lst (as.map V.ref ++ [.ref b]))) os := .mut hos
      generalize upd H a (.lst (as.map V.ref ++ [.ref b])) = H1 at r2 hb2 hst1 ⊢
      have st1 : Stp H os H1 os := hst1
      refine ⟨.ref b, b1, b, rfl, ⟨_, SqL.of hb2⟩, fun i m' σ' H' => m' = ns.length - i ∧ i ≤ ns.length ∧ σ'[iy]? = some (some (.ref b)) ∧ H' b = some (.lst (ns.map V.int)) ∧ Rel X.K g ((env1.set iz .no).set id (.deep (.dk ((ns.take i).foldl putI ks)))) σ' H' os ∧ Stp H os H' os, ⟨ns.length, by simp, Nat.zero_le _, b1, hb2, ?_, st1⟩, ?_⟩
      · have q : (env1.set iz .no)[id]? = some (.deep (.dk ks)) := by rw [List.getElem?_set_ne n3]; exact hk1
        rw [List.take_zero, List.foldl_nil, set_get q]
        exact r2.off0 iz
      · rintro i m' σ' H' ⟨rfl, hi, w1, w2, w3, w4⟩
        by_cases hlt : i < ns.length
        · have hdl : id < (env1.set iz Sl.no).length := by
            rw [List.length_set]
            exact (List.getElem?_eq_some_iff.mp hk1).1
          have q0 : ((env1.set iz .no).set id (.deep (.dk ((ns.take i).foldl putI ks))))[id]? = some (.deep (.dk ((ns.take i).foldl putI ks))) := List.getElem?_set_self hdl
          have hgi : (ns.map V.int)[i]? = some (.int ns[i]) := by rw [List.getElem?_map, List.getElem?_eq_getElem hlt]; rfl
          refine .inr ⟨⟨_, _, SqL.of w2, hgi⟩, fun σ2 H2 => i + 1 ≤ ns.length ∧ σ2[iy]? = some (some (.ref b)) ∧ H2 b = some (.lst (ns.map V.int)) ∧ Rel X.K g ((env1.set iz .no).set id (.deep (.dk ((ns.take (i + 1)).foldl putI ks)))) σ2 H2 os ∧ Stp H os H2 os, fun σ2 H2 ⟨u1, u2, u3, u4, u5⟩ => ⟨ns.length - (i + 1), by omega, rfl, u1, u2, u3, u4, u5⟩, fun v H2 hy2 => ?_⟩
          obtain ⟨rfl, hy3⟩ := hy2
          have hv := hy3 _ (SqL.of w2)
          rw [hgi] at hv
          cases hv
          have eio : ((env1.set iz .no).set id (.deep (.dk ((ns.take i).foldl putI ks))))[iz]? = some .no := by
            rw [List.getElem?_set_ne (Ne.symm n3), List.getElem?_set_self (by rw [hl1]; exact n4)]
          have r3 := w3.off iz (some (.int ns[i]))
          rw [set_get eio] at r3
          have hzl : iz < σ'.length := by
            rw [w3.len]
            exact (List.getElem?_eq_some_iff.mp eio).1
          obtain ⟨A, dd⟩ := r3.dps
          obtain ⟨a2, as2, _, h2, h3⟩ := dd.dp id _ q0
          have h4 : H2 a2 = some (.dK (kvT ((ns.take i).foldl putI ks))) := h3.2.2
          have hba : b ≠ a2 := fun z => by rw [z, h4] at w2; cases w2
          obtain ⟨hos2, r4⟩ := r3.mutC (c' := .dk (putI ((ns.take i).foldl putI ks) ns[i])) (o := .dK (kvT (putI ((ns.take i).foldl putI ks) ns[i]))) q0 h2 (fun as hd => hd.2.1) fun os hos => ⟨hos, rfl, upd_same⟩
          have hlen := foldI_len (ns.take i) ks
          rw [List.length_take] at hlen
          refine ⟨.ref a2, h2, .int ns[i], List.getElem?_set_self hzl, a2, _, rfl, DPut.k (k := Sum.inl ns[i]) h4 (by rw [kvT_len]; omega), hlt, ?_, ?_, ?_, ?_⟩
          · rw [List.getElem?_set_ne n2]; exact w1
          · rw [upd_ne hba]; exact w2
          · rw [kvT_put]
            rw [List.set_set] at r4
            have eL : (ns.take (i + 1)).foldl putI ks = putI ((ns.take i).foldl putI ks) ns[i] := by
              rw [List.take_succ, List.getElem?_eq_getElem hlt, List.foldl_append]
              rfl
            rw [eL]
            exact r4
          · rw [kvT_put]
            exact w4.trans (.mut hos2)
        · have e : i = ns.length := by omega
          subst e
          rw [List.take_length] at w3
          exact .inl ⟨⟨_, SqL.of w2, by rw [List.length_map]; exact Nat.le_refl _⟩, m4 σ' H' os w3 w4⟩
    · exact m4.elim
end
end DL

namespace DL
open PySem PySem.Spec PyProof.Rows L2
section
variable {P : Program} {w : World} {K : PySem.W.Frag} {mg : Str → Option Value} {base : Heap}
end
section
variable {X : Cx} {E : Str → Hp → Prop} {pos : Pos}
end
section
variable {K : PySem.W.Frag} {g : Gh} {env : DE} {σ : St} {H H' : Hp} {os : List Addr}
end
section
variable {X : Cx} {E : Str → Hp → Prop} {pos : Pos}
end
end DL

namespace DL
open PySem PySem.Spec PyProof.Rows L2
section
variable {X : Cx} {E : Str → Hp → Prop} {pos : Pos}
def asStr : D → R Str
  | .str i => .ok i
  | _ => .bad
theorem Good.str {H₀ : Hp} {d : D} {p : Str → Prop} (h : Good E H₀ (asStr d) p) : ∃ i : Str, d = .str i ∧ p i := by
  unfold asStr at h
  split at h
  · rename_i i
    exact ⟨i, rfl, h⟩
  · exact h.elim
theorem isl_newT {K : PySem.W.Frag} {P : Addr → Prop} {H : Hp} : ∀ {as : List Addr} {nss : List (List Int)}, as.length = nss.length → (∀ b ∈ as, P b) → (∀ (k : Nat) (b : Addr) (ns : List Int), as[k]? = some b → nss[k]? = some ns → H b = some (.lst (ns.map V.int))) → IsL K P H (nss.map fun ns => D.lst (ns.map D.int)) (as.map V.ref)
  | [], [], _, _, _ => rfl
  | [], _ :: _, h, _, _ => by simp at h
  | _ :: _, [], h, _, _ => by simp at h
  | a :: as, ns :: nss, h, hp, hi => ⟨_, _, rfl, ⟨a, _, rfl, .inl ⟨hp a (by simp), .inl (hi 0 a ns rfl rfl)⟩, isl_ints ns⟩, isl_newT (by simpa using h) (fun b hb => hp b (by simp [hb])) fun k b ms e1 e2 => hi (k + 1) b ms e1 e2⟩
theorem PE.TtoD {e : Expr} {f : DE → R (List (List Int))} (h : PE X e (tDp X.K E f)) : PE X e (tD X.K E fun env => (f env).bind fun nss => .ok (.lst (nss.map fun ns => D.lst (ns.map D.int)))) :=
  imp h fun σ H Q ⟨g, env, os, r, m⟩ => ⟨g, env, os, r, m.bind.mono fun nss _ q a as H' s nd => q (.ref a) H' s ⟨a, _, rfl, .inl ⟨r.fresh (nd.fr a (by simp)), .inl nd.ha⟩, isl_newT nd.len (fun b hb => r.fresh (nd.fr b (List.mem_cons_of_mem _ hb))) nd.it⟩⟩
end
end DL

namespace DL
open PySem PySem.Spec PyProof.Rows L2
section
variable {X : Cx} {E : Str → Hp → Prop} {pos : Pos}
end
end DL

namespace DL
open PySem PySem.Spec PyProof.Rows L2
section
variable {X : Cx} {E : Str → Hp → Prop} {pos : Pos}
section
variable {prog : Program} {w : World} {A : Around} {Ex : Value → Shared → Prop} {s : Shared} {x y : Str} {t u : Tok} {Q : Value → Shared → Prop}
end
def figD (T : List (Str × Int)) : List (Str × PyData) := T.map fun p => (p.1, PyData.int p.2)
def FigIn (K : PySem.W.Frag) (a : Addr) (T : List (Str × Int)) : Prop := KTD.tabLook KTD.flatLooks (fun b => K.lookup b) a (figD T) = true
theorem FigIn.here {pins : List (Addr × Obj)} {σ : St} {H : Hp} {s : Shared} {a : Addr} {T : List (Str × Int)} (h : FigIn X.K a T) (I : Inv X pins σ H s) : KTD.Here X.base s.heap a ((figD T).map fun p => (p.1, KTD.Dat.flat p.2)) :=
  ⟨(KTD.tab_of_look (R := fun d v => PyProof.V.Flat v d) (fun d v => KTD.flat_of_looks) I.mod.kin h).text, I.bk⟩
end
end DL

namespace DL
open PySem PySem.Spec PyProof.Rows L2
section
variable {P : Program} {w : World} {K : PySem.W.Frag} {mg : Str → Option Value} {base : Heap}
end
section
variable {X : Cx} {E : Str → Hp → Prop} {pos : Pos}
end
section
variable {K : PySem.W.Frag} {g : Gh} {env : DE} {σ : St} {H H' : Hp} {os : List Addr}
end
section
variable {X : Cx} {E : Str → Hp → Prop} {pos : Pos}
def asOne : D → R Unit
  | .int 1 => .ok ()
  | _ => .bad
theorem Good.one {H₀ : Hp} {d : D} {p : Unit → Prop} (h : Good E H₀ (asOne d) p) : d = .int 1 ∧ p () := by
  unfold asOne at h
  split at h
  · exact ⟨rfl, h⟩
  · exact h.elim
end
end DL

namespace DL
open PySem PySem.Spec PyProof.Rows L2
section
variable {X : Cx} {E : Str → Hp → Prop} {pos : Pos}
def asTwo : D → R Unit
  | .int 2 => .ok ()
  | _ => .bad
theorem Good.two {H₀ : Hp} {d : D} {p : Unit → Prop} (h : Good E H₀ (asTwo d) p) : d = .int 2 ∧ p () := by
  unfold asTwo at h
  split at h
  · exact ⟨rfl, h⟩
  · exact h.elim
end
end DL

namespace DL
open PySem PySem.Spec PyProof.Rows L2
section
variable {X : Cx} {E : Str → Hp → Prop} {pos : Pos}
end
end DL

namespace DL
open PySem PySem.Spec PyProof.Rows L2
section
variable {M : Model} {A : Around} {E : Value → Shared → Prop} {s : Shared} {base : Heap} {env : Env} {outer : List Env} {L e T C : Addr} {Q : Unit → Shared → Prop}
end
section
variable {P : Program} {w : World} {K : PySem.W.Frag} {mg : Str → Option Value} {base : Heap} {N : List Str} {qual : Str} {scope : Scope} {f : Addr} {cd : Value} {A : Around} {outer : List Env} {s : Shared} {H : Hp} {E : XK}
end
end DL

namespace DL
open PySem PySem.Spec PyProof.Rows L2
section
variable {prog : Program} {w : World} {A : Around} {E : Value → Shared → Prop} {R : Result → Shared → Prop} {s : Shared}
end
theorem Inv.xe {X : Cx} {pins : List (Addr × Obj)} {σ : St} {H : Hp} {s : Shared} (I : Inv X pins σ H s) (xe : Value → Shared → Prop) : Inv { X with xe := xe } pins σ H s := by
  obtain ⟨ok, a, b, c, d, e, f, g, h, i, j⟩ := I
  obtain ⟨o1, o2, o3, o4, o5, o6, o7, o8, o9, o10, o11, o12, o13, o14, o15, o16, o17, o18⟩ := ok
  exact ⟨⟨o1, o2, o3, o4, o5, o6, o7, o8, o9, o10, o11, o12, o13, o14, o15, o16, o17, o18⟩, a, b, c, d, e, f, g, h, i, j⟩
section
variable {X : Cx} {E : Str → Hp → Prop} {pos : Pos} {scope : Scope} {N : List Str} {nt : Nat} {caps : List Nat}
end
end DL

namespace DL
open PySem PySem.Spec PyProof.Rows L2
section
variable {X : Cx} {E : Str → Hp → Prop} {pos : Pos}
end
end DL

namespace DL
open PySem PySem.Spec PyProof.Rows L2
def ltL : List Int → List Int → Bool
  | [], [] => false
  | [], _ :: _ => true
  | _ :: _, [] => false
  | a :: r, b :: q => if a == b then ltL r q else decide (a < b)
theorem ix_left (its : Array Value) (i : Nat) : its[((i : Nat) : Int).toNat]? = (its.toList.drop i)[0]? := by simp
theorem size_left {its : Array Value} {i : Nat} {p : List Value} (e : its.toList.drop i = p) (z : i ≤ its.size) : its.size = i + p.length := by
  rw [← e, List.length_drop, Array.length_toList]
  omega
theorem tail_left {its : Array Value} {i : Nat} {v : Value} {p : List Value} (e : its.toList.drop i = v :: p) : its.toList.drop (i + 1) = p := by
  rw [← List.drop_drop, e]
  rfl
section
open PySem.SeqAt PySem.AutoSeq1 PySem.MeetsSeq PySem.MeetsSeq2 PySem.MeetsSeq3
variable {l m : Addr} {its its' : Array Value}
def LtPre (l m : Addr) (its its' : Array Value) (v : Bool) : PySem.Spec := fun _ R s => s.heap.IsList l its ∧ s.heap.IsList m its' ∧ R (.ok (.ret (.bool v))) s
theorem lt_ends {i : Nat} {v : Bool} (h : (its.toList.drop i)[0]? = none ∨ (its'.toList.drop i)[0]? = none) (hv : v = decide (its.size < its'.size)) : Meets (Builtin.«list.__eq__.loop» ⟨[.ref l, .ref m, rawInt i, rawInt 0], []⟩) (LtPre l m its its' v) := by
  rintro prog w A R ⟨hp, g, d, tk, os⟩ ⟨⟨⟨c, dd, dt, sl⟩, hl, hc, n, hd⟩, ⟨⟨c', dd', dt', sl'⟩, hm, hc', n', hd'⟩, q⟩
  cases hc
  cases hd
  cases hc'
  cases hd'
  subst hv
  wp_walk using PySem.AutoSeq1.wpAny_loadPart' hl, PySem.AutoSeq1.wpAny_loadPart' hm
  rw [ix_left, ix_left]
  rcases h with h | h
  · rw [h]
    wp_walk using PySem.AutoSeq1.wpAny_loadPart' hl, PySem.AutoSeq1.wpAny_loadPart' hm
    exact q
  · rw [h]
    cases (its.toList.drop i)[0]? with
    | none =>
      wp_walk using PySem.AutoSeq1.wpAny_loadPart' hl, PySem.AutoSeq1.wpAny_loadPart' hm
      exact q
    | some x =>
      wp_walk using PySem.AutoSeq1.wpAny_loadPart' hl, PySem.AutoSeq1.wpAny_loadPart' hm
      exact q
theorem lt_turn : ∀ {p p' : List Value} {xs ys : List Int}, IntsAre p xs → IntsAre p' ys → ∀ i, its.toList.drop i = p → its'.toList.drop i = p' → i ≤ its.size → i ≤ its'.size →
    Meets (Builtin.«list.__eq__.loop» ⟨[.ref l, .ref m, rawInt i, rawInt 0], []⟩) (LtPre l m its its' (ltL xs ys))
  | _, _, _, _, .nil, .nil, i, e, e', z, z' => lt_ends (.inl (by rw [e]; rfl)) (by rw [size_left e z, size_left e' z']; simp [ltL])
  | _, _, _, _, .nil, .cons y u r', i, e, e', z, z' => lt_ends (.inl (by rw [e]; rfl)) (by rw [size_left e z, size_left e' z']; simp [ltL])
  | _, _, _, _, .cons x t r, .nil, i, e, e', z, z' => lt_ends (.inr (by rw [e']; rfl)) (by rw [size_left e z, size_left e' z']; simp [ltL])
  | _, _, _, _, .cons (ns := xs) x t r, .cons (ns := ys) y u r', i, e, e', z, z' => by
    have y1 := size_left e z
    have y2 := size_left e' z'
    rw [List.length_cons] at y1 y2
    have next := lt_turn r r' (i + 1) (tail_left e) (tail_left e') (by omega) (by omega)
    rintro prog w A R ⟨hp, g, d, tk, os⟩ ⟨hl, hm, q⟩
    have hl0 := hl
    have hm0 := hm
    obtain ⟨⟨c, dd, dt, sl⟩, hl, hc, n, hd⟩ := hl
    obtain ⟨⟨c', dd', dt', sl'⟩, hm, hc', n', hd'⟩ := hm
    cases hc
    cases hd
    cases hc'
    cases hd'
    have a1 := (ix_left its i).trans (congrArg (·[0]?) e)
    have a2 := (ix_left its' i).trans (congrArg (·[0]?) e')
    wp_walk using PySem.AutoSeq1.wpAny_loadPart' hl, PySem.AutoSeq1.wpAny_loadPart' hm
    rw [a1, a2]
    refine wpAny_bind (EqAt.int_int x t y u prog w _ _ ?_)
    by_cases hx : x = y
    · rw [ltL, if_pos (beq_iff_eq.mpr hx)] at q
      rw [show (x == y) = true from beq_iff_eq.mpr hx]
      wp_walk
      refine ⟨plainId_quiet plain_eq_loop _, codeAny_builtin entry_eq_loop ?_⟩
      rw [Around.under_plainId plain_eq_loop]
      have := next prog w A R _ ⟨hl0, hm0, q⟩
      rw [show ((i + 1 : Nat) : Int) = (i : Int) + 1 from by omega] at this
      exact this
    · have hx' : (x == y) = false := beq_false_of_ne hx
      rw [ltL, hx', if_neg (by decide)] at q
      rw [hx']
      wp_walk using PySem.AutoSeq1.wpAny_loadPart' hl, PySem.AutoSeq1.wpAny_loadPart' hm
      rw [a1, a2]
      refine wpAny_bind (wpAny_lt_int (t := t) (u := u) ?_)
      wp_walk
      exact q
theorem lt_call {xs ys : List Int} (i1 : IntsAre its.toList xs) (i2 : IntsAre its'.toList ys) : Meets (Builtin.«list.__lt__» ⟨[.ref l, .ref m], []⟩) (LtPre l m its its' (ltL xs ys)) := by
  rintro prog w A R ⟨hp, g, d, tk, os⟩ ⟨hl, hm, q⟩
  have sub := PySem.AutoSeq1.sub_list_list
  have next := lt_turn i1 i2 0 rfl rfl (Nat.zero_le _) (Nat.zero_le _) prog w A R _ ⟨hl, hm, q⟩
  obtain ⟨⟨c', dd', dt', sl'⟩, hm, hc', n', hd'⟩ := hm
  cases hc'
  cases hd'
  wp_walk using PySem.AutoSeq1.wpAny_loadPart' hm
  refine ⟨plainId_quiet plain_eq_loop _, codeAny_builtin entry_eq_loop ?_⟩
  rw [Around.under_plainId plain_eq_loop]
  exact next
theorem lt_lists {A : Around} {s : Shared} {xs ys : List Int} (hl : s.heap.IsList l its) (hm : s.heap.IsList m its') (i1 : IntsAre its.toList xs) (i2 : IntsAre its'.toList ys) (hu : A.units < cLine)
    {prog : Program} {w : World} {E : Value → Shared → Prop} {Q : Value → Shared → Prop} (h : Q (.bool (ltL xs ys)) s) : wpAny (model prog w) A (richCompare .Lt (.ref l) (.ref m)) Q E s :=
  richCompare_meets_room (op := .Lt) hl.typeIs hm.typeIs F.slot_list_lt F.entry_list_lt (F.args_list_lt_2 _ _) (lt_call i1 i2) ⟨hl, hm, (fun x => nomatch x), h⟩ hu
end
end DL

namespace DL
open PySem PySem.Spec PyProof.Rows L2
open PySem.W (KasT kas_sort kas_count kas_bin kas_place kas_desc kas_asc kas_tail3 kas_descPart kas_rev kas_ask kat_run kat_snds)
def runP {α : Type} (lt : Nat → Nat → Bool) : KasT α → α
  | .ret a => a
  | .ask i j k => runP lt (k (lt i j))
def InP {α : Type} (n : Nat) (P : α → Prop) : KasT α → Prop
  | .ret a => P a
  | .ask i j k => i < n ∧ j < n ∧ ∀ b, InP n P (k b)
theorem InP.bind {α β : Type} {n : Nat} {P : α → Prop} {P' : β → Prop} {f : α → KasT β} : ∀ {t : KasT α}, InP n P t → (∀ a, P a → InP n P' (f a)) → InP n P' (t.bind f)
  | .ret a, h, hf => hf a h
  | .ask i j k, h, hf => ⟨h.1, h.2.1, fun b => InP.bind (h.2.2 b) hf⟩
theorem InP.run {α : Type} {n : Nat} {P : α → Prop} {lt : Nat → Nat → Bool} : ∀ {t : KasT α}, InP n P t → P (runP lt t)
  | .ret a, h => h
  | .ask i j k, h => InP.run (t := k (lt i j)) (h.2.2 _)
theorem InP.wp {α : Type} {n : Nat} {P : α → Prop} {lt : Nat → Nat → Bool} {cmp : Nat → Nat → (Bool → Shared → Prop) → Shared → Prop} {s : Shared} {Q : α → Shared → Prop} (hc : ∀ i j, i < n → j < n → ∀ C : Bool → Shared → Prop, C (lt i j) s → cmp i j C s) :
    ∀ {t : KasT α}, InP n P t → Q (runP lt t) s → t.kasWp cmp Q s
  | .ret a, _, q => q
  | .ask i j k, h, q => hc i j h.1 h.2.1 _ (InP.wp hc (t := k (lt i j)) (h.2.2 _) q)
def Bd (n : Nat) (p : Array Nat) : Prop := p.Perm (List.range n).toArray
theorem Bd.lt {n : Nat} {p : Array Nat} (h : Bd n p) (h0 : 0 < n) (i : Nat) : p.getD i 0 < n := by
  by_cases hi : i < p.size
  · have e : p.getD i 0 = p[i] := by simp [Array.getD, hi]
    rw [e]
    have m : p[i] ∈ p := Array.getElem_mem hi
    have m2 := (Array.Perm.mem_iff h).mp m
    simpa using m2
  · have e : p.getD i 0 = 0 := by simp [Array.getD, hi]
    rw [e]; exact h0
theorem Bd.rev {n : Nat} {p : Array Nat} (h : Bd n p) (i j : Nat) : Bd n (kas_rev p i j) := Array.Perm.trans (mirror_perm _ _ _ _) h
theorem in_asc {n : Nat} {p : Array Nat} (h0 : 0 < n) (h : Bd n p) : ∀ (f m : Nat), InP n (fun _ => True) (kas_asc p f m)
  | 0, _ => trivial
  | f + 1, m => ⟨h.lt h0 _, h.lt h0 _, fun b => by
    cases b
    · exact in_asc h0 h f (m + 1)
    · exact trivial⟩
theorem in_desc {n : Nat} (h0 : 0 < n) : ∀ (f : Nat) (p : Array Nat) (m q : Nat), Bd n p → InP n (fun r : Array Nat × Nat × Nat => Bd n r.1) (kas_desc f p m q)
  | 0, p, m, q, h => h
  | f + 1, p, m, q, h => ⟨h.lt h0 _, h.lt h0 _, fun b => by
    cases b
    · refine ⟨h.lt h0 _, h.lt h0 _, fun d => ?_⟩
      cases d
      · exact in_desc h0 f p (m + 1) (q + 1) h
      · exact h
    · show InP n _ (if true = true then _ else _)
      rw [if_pos rfl]
      split
      · exact in_desc h0 f _ _ _ (h.rev _ _)
      · exact in_desc h0 f _ _ _ h⟩
theorem in_tail3 {n : Nat} (h0 : 0 < n) {p : Array Nat} (h : Bd n p) (a b : Nat) : InP n (fun r : Nat × Array Nat => Bd n r.2) (kas_tail3 a b p) :=
  (in_asc h0 (h.rev 0 a) _ _).bind fun _ _ => h.rev 0 a
theorem in_descPart {n : Nat} (h0 : 0 < n) {p : Array Nat} (h : Bd n p) (a b : Nat) : InP n (fun r : Nat × Array Nat => Bd n r.2) (kas_descPart a b p) :=
  (in_desc h0 _ _ _ _ h).bind fun r hr => by
    split
    · exact in_tail3 h0 (hr.rev _ _) _ _
    · exact in_tail3 h0 hr _ _
theorem in_count {n : Nat} (h0 : 0 < n) {p : Array Nat} (h : Bd n p) (a : Nat) : InP n (fun r : Nat × Array Nat => Bd n r.2) (kas_count a p) :=
  (in_asc h0 h _ _).bind fun m _ => by
    split
    · exact h
    · split
      · refine ⟨h.lt h0 _, h.lt h0 _, fun b => ?_⟩
        cases b
        · exact in_descPart h0 (h.rev _ _) _ _
        · exact h
      · exact in_descPart h0 h _ _
theorem in_place {n : Nat} {p : Array Nat} (h0 : 0 < n) (h : Bd n p) (k : Nat) : ∀ (f l r : Nat), InP n (fun _ => True) (kas_place p k f l r)
  | 0, _, _ => trivial
  | f + 1, l, r => by
    unfold kas_place
    split
    · exact trivial
    · refine ⟨h.lt h0 _, h.lt h0 _, fun b => ?_⟩
      cases b
      · exact in_place h0 h k f _ _
      · exact in_place h0 h k f _ _
theorem in_bin {n : Nat} (h0 : 0 < n) : ∀ (f : Nat) (p : Array Nat) (k : Nat), Bd n p → InP n (Bd n) (kas_bin f p k)
  | 0, _, _, h => h
  | f + 1, p, k, h => (in_place h0 h k _ _ _).bind fun l _ => in_bin h0 f _ _ (Array.Perm.trans (bubble_perm _ _ _) h)
theorem in_sort {n : Nat} (h0 : 0 < n) : InP n (Bd n) (kas_sort n) :=
  (in_count h0 (Array.Perm.refl _) n).bind fun r hr => by
    split
    · exact in_bin h0 _ _ _ hr
    · exact hr
def ordP (lt : Nat → Nat → Bool) (n : Nat) : List Nat := if n < 2 then List.range n else (runP lt (kas_sort n)).toList
theorem ordP_perm (lt : Nat → Nat → Bool) (n : Nat) : (ordP lt n).Perm (List.range n) := by
  unfold ordP
  split
  · exact List.Perm.refl _
  · exact Array.perm_iff_toList_perm.mp ((in_sort (by omega)).run (lt := lt))
theorem ordP_lt {lt : Nat → Nat → Bool} {n i : Nat} (h : i ∈ ordP lt n) : i < n := by
  have := (ordP_perm lt n).mem_iff.mp h
  simpa using this
section
variable {prog : Program} {w : World} {A : Around} {E : Value → Shared → Prop} {s : Shared} {vs : List Value} {κ : SortKind} {lt : Nat → Nat → Bool}
def outP (lt : Nat → Nat → Bool) (vs : List Value) : Array Value := ((ordP lt vs.length).map fun i => vs.getD i Value.none).toArray
theorem outP_size : (outP lt vs).size = vs.length := by
  unfold outP
  rw [List.size_toArray, List.length_map, (ordP_perm lt _).length_eq, List.length_range]
def duringH (h : Heap) (a : Addr) (vs : List Value) : Heap := ((h.update a (Obj.mapSeq fun _ => #[])).push (seqObj "tuple" vs.toArray 0)).push (seqObj "list" #[] 0)
theorem during_old {h : Heap} {a b : Addr} {o : Obj} (hb : b ≠ a) (q : h.get? b = some o) : (duringH h a vs).get? b = some o :=
  Heap.get?_push_of_some _ (Heap.get?_push_of_some _ ((Heap.get?_update_ne _ _ _ _ hb).trans q))
theorem during_self {h : Heap} {a : Addr} {n : Nat} (ho : h.get? a = some (seqObj "list" vs.toArray n)) : ∃ k, (h.update a (Obj.mapSeq fun _ => #[])).get? a = some (seqObj "list" #[] k) ∧ (duringH h a vs).get? a = some (seqObj "list" #[] k) :=
  ⟨_, get?_update_seq ho _, Heap.get?_push_of_some _ (Heap.get?_push_of_some _ (get?_update_seq ho _))⟩
theorem fits63 {n : Nat} (h : n < 64) : n ≤ sizeLine := Nat.le_of_lt (Nat.lt_of_lt_of_le h (by decide))
theorem pairs_few (h : vs.length < 2) : (vs.toArray.zip vs.toArray).map (·.2) = outP lt vs := by
  unfold outP ordP
  rw [if_pos h]
  rcases vs with _ | ⟨v, _ | ⟨v', r⟩⟩
  · simp
  · simp [List.range_succ]
  · rw [List.length_cons, List.length_cons] at h; omega
theorem list_sort_any {a : Addr} {n : Nat} {P : Fin → Shared → Prop} (ho : s.heap.get? a = some (seqObj "list" vs.toArray n)) (h64 : vs.length < 64)
    (hk : 2 ≤ vs.length → ∀ h' : Heap, (∀ b o, b ≠ a → s.heap.get? b = some o → h'.get? b = some o) → ∀ Q : SortKind → Shared → Prop, Q κ { s with heap := h' } → wpAny (model prog w) A (keyKind' vs.toArray) Q (fun _ _ => False) { s with heap := h' })
    (hc : ∀ h' : Heap, (∀ b o, b ≠ a → s.heap.get? b = some o → h'.get? b = some o) → ∀ i j, i < vs.length → j < vs.length → ∀ C : Bool → Shared → Prop, C (lt i j) { s with heap := h' } → wpAny (model prog w) A (keyLt' κ (vs.getD i Value.none) (vs.getD j Value.none)) C (fun _ _ => False) { s with heap := h' })
    (h : P (.done (.ret .none)) { s with heap := sortedHeap s.heap a vs (outP lt vs) }) : wpAny (model prog w) A (Builtin.«list.sort» ⟨[.ref a], []⟩) P E s := by
  obtain ⟨k, o1, o2⟩ := during_self (vs := vs) ho
  have room := fits63 h64
  have osz : (outP lt vs).size ≤ sizeLine + 1 := by rw [outP_size]; omega
  rw [list_sort_plain]
  refine wpAny_bind <| listItems_at ho rfl <| wpAny_bind <| listUpdate_at ho rfl ?_ (by simpa using room) (Nat.zero_le _)
  refine wpAny_bind <| seqEpoch_at o1 rfl <| wpAny_bind <| wpAny_newTuple ?_ room
  refine wpAny_bind <| wpAny_newList (wpAny_holding ?_) (Nat.zero_le _)
  show wpAny (model prog w) A _ P E { s with heap := duringH s.heap a vs }
  dsimp only
  rw [List.size_toArray]
  rcases Nat.lt_or_ge vs.length 2 with few | many
  · rw [if_pos few, if_pos few]
    refine wpAny_bind (m := pure general') <| wpAny_pure ?_
    rw [StateT.run_pure]
    refine wpAny_bind <| wpAny_pure <| wpAny_bind <| seqEpoch_at o2 rfl ?_
    rw [show (arrOf (SortSt.mk' general' (vs.toArray.zip vs.toArray) #[] 7 none)).map (·.2) = outP lt vs from pairs_few few]
    refine wpAny_bind <| listUpdate_at o2 rfl ?_ (Nat.zero_le _) osz
    rw [if_neg (by simp)]
    exact wpAny_pure h
  · rw [if_neg (Nat.not_lt.mpr many), if_neg (Nat.not_lt.mpr many)]
    refine wpAny_bind <| wpAny_mono (hk many _ (fun _ _ => during_old) (fun κ' s' => κ' = κ ∧ s' = { s with heap := duringH s.heap a vs }) ⟨rfl, rfl⟩) ?_ fun _ _ x => x.elim
    rintro _ _ ⟨rfl, rfl⟩
    have tree := InP.wp (Q := fun p s' => s' = { s with heap := duringH s.heap a vs } ∧ p = runP lt (kas_sort vs.length)) (fun i j hi hj C q => hc _ (fun _ _ => during_old) i j hi hj C q) (in_sort (show 0 < vs.length by omega)) ⟨rfl, rfl⟩
    refine wpAny_bind <| wpAny_mono (kat_run (Q := fun st s' => s' = { s with heap := duringH s.heap a vs } ∧ (arrOf st).map (·.2) = outP lt vs ∧ failedOf st = none) rfl many h64 ?_ tree) ?_ fun _ _ e => e
    · rintro p st s' - har hf ⟨hs, rfl⟩
      refine ⟨hs, ?_, hf⟩
      rw [kat_snds rfl har]
      unfold outP ordP
      rw [if_neg (Nat.not_lt.mpr many)]
    · rintro ⟨⟨⟩, st⟩ _ ⟨rfl, eo, hf⟩
      dsimp only
      rw [eo, hf]
      refine wpAny_bind <| seqEpoch_at o2 rfl <| wpAny_bind <| listUpdate_at o2 rfl ?_ (Nat.zero_le _) osz
      dsimp only
      rw [if_neg (by simp)]
      exact wpAny_pure h
def copiedH (h : Heap) (vs : List Value) : Heap := ((h.push (seqObj "list" #[] 0)).update h.objs.size (Obj.mapSeq (· ++ vs.toArray))).push (seqObj "list" vs.toArray 0)
theorem copied_size (h : Heap) (vs : List Value) : ((h.push (seqObj "list" #[] 0)).update h.objs.size (Obj.mapSeq (· ++ vs.toArray))).objs.size = h.objs.size + 1 := (Heap.size_update _ _ _).trans (size_push' _ _)
theorem copied_self (h : Heap) (vs : List Value) : (copiedH h vs).get? (h.objs.size + 1) = some (seqObj "list" vs.toArray 0) := copied_size h vs ▸ Heap.get?_push_size _ rfl
theorem copied_old {h : Heap} {b : Addr} {o : Obj} (q : h.get? b = some o) : b ≠ h.objs.size + 1 ∧ (copiedH h vs).get? b = some o := by
  have below := Heap.lt_size q
  exact ⟨Nat.ne_of_lt (Nat.lt_succ_of_lt below), Heap.get?_push_of_some _ ((Heap.get?_update_ne _ _ _ _ (Nat.ne_of_lt below)).trans (Heap.get?_push_of_some _ q))⟩
theorem sorted_any {l : Addr} {Q : Value → Shared → Prop} (hl : s.heap.IsList l vs.toArray) (h64 : vs.length < 64)
    (hk : 2 ≤ vs.length → ∀ h' : Heap, (∀ b o, s.heap.get? b = some o → h'.get? b = some o) → ∀ Q : SortKind → Shared → Prop, Q κ { s with heap := h' } → wpAny (model prog w) A.in1.in1 (keyKind' vs.toArray) Q (fun _ _ => False) { s with heap := h' })
    (hc : ∀ h' : Heap, (∀ b o, s.heap.get? b = some o → h'.get? b = some o) → ∀ i j, i < vs.length → j < vs.length → ∀ C : Bool → Shared → Prop, C (lt i j) { s with heap := h' } → wpAny (model prog w) A.in1.in1 (keyLt' κ (vs.getD i Value.none) (vs.getD j Value.none)) C (fun _ _ => False) { s with heap := h' })
    (h : Q (.ref (s.heap.objs.size + 1)) { s with heap := sortedAll s.heap vs (outP lt vs) }) : wpAny (model prog w) A (call (.builtin "sorted") [.ref l]) Q E s := by
  have room := fits63 h64
  have sorts := list_sort_any (s := { s with heap := copiedH s.heap vs }) (A := A.in1.in1) (E := fun e s' => E e s') (P := fun fin s' => fin = .done (.ret .none) ∧ s' = { s with heap := sortedAll s.heap vs (outP lt vs) }) (copied_self s.heap vs) h64
    (fun two h' kept Q q => hk two h' (fun b o e => kept b o (copied_old (vs := vs) e).1 (copied_old e).2) Q q)
    (fun h' kept i j hi hj C q => hc h' (fun b o e => kept b o (copied_old (vs := vs) e).1 (copied_old e).2) i j hi hj C q) ⟨rfl, rfl⟩
  refine Calls.call_function_entry kind_sorted plain_sorted entry_sorted (args_sorted1 (.ref l)) ?_
  unfold Builtin.«sorted»
  refine wpAny_bind (m := checkCount "sorted" 1 1 _) <| wpAny_pure <| wpAny_bind <| collect_list hl ?_ room
  refine wpAny_bind <| wpAny_newList ?_ room
  show wpAny _ _ _ _ _ { s with heap := copiedH s.heap vs }
  rw [copied_size]
  refine wpAny_bind <| wpAny_holding <| wpAny_call_entry slot_list_sort ⟨_, copied_self s.heap vs, rfl⟩ entry_list_sort (wpAny_mono sorts ?_ fun _ _ e => e) (args_list_sort _)
  rintro _ _ ⟨rfl, rfl⟩
  exact ⟨_, rfl, wpAny_pure ⟨_, rfl, h⟩⟩
end
end DL

namespace DL
open PySem PySem.Spec PyProof.Rows L2
def trip : D → Option Trp
  | .tup [.int a, .int b, .lst cs] => (toI cs).map fun ns => (a, b, ns)
  | _ => none
def trD (d : D) : Trp := (trip d).getD (0, 0, [])
def ltT (x y : Trp) : Bool := if x.1 == y.1 then (if x.2.1 == y.2.1 then ltL x.2.2 y.2.2 else decide (x.2.1 < y.2.1)) else decide (x.1 < y.1)
def ltI (xs : List D) (i j : Nat) : Bool := ltT (trD (xs.getD i .non)) (trD (xs.getD j .non))
def sortT (xs : List D) : R (List D) := if xs.length < 64 ∧ (xs.all fun d => (trip d).isSome) = true then .ok ((ordP (ltI xs) xs.length).map fun i => xs.getD i .non) else .bad
theorem of_trip {d : D} {t : Trp} (h : trip d = some t) : d = .tup [.int t.1, .int t.2.1, .lst (ofI t.2.2)] := by
  unfold trip at h
  split at h
  · rename_i a b cs
    cases z : toI cs with
    | none => rw [z] at h; cases h
    | some ns => rw [z] at h; cases h; rw [of_toI z]
  · cases h
theorem ltL_irrefl : ∀ xs : List Int, ltL xs xs = false
  | [] => rfl
  | x :: xs => by rw [ltL]; simp [ltL_irrefl xs]
theorem eqF_ofI : ∀ (xs ys : List Int), eqF 1 (.lst (ofI xs)) (.lst (ofI ys)) = some (xs == ys) := by
  have z : ∀ (xs ys : List Int), xs.length = ys.length → zipB (eqF 0) (ofI xs) (ofI ys) = some (xs == ys) := by
    intro xs
    induction xs with
    | nil => intro ys h; cases ys with
      | nil => rfl
      | cons _ _ => cases h
    | cons x xs ih => intro ys h; cases ys with
      | nil => cases h
      | cons y ys =>
        show (zipB (eqF 0) (.int x :: ofI xs) (.int y :: ofI ys)) = _
        unfold zipB
        rw [ih ys (by simpa using h)]
        show some ((x == y) && (xs == ys)) = _
        rfl
  intro xs ys
  show (if (ofI xs).length = (ofI ys).length then zipB (eqF 0) (ofI xs) (ofI ys) else some false) = _
  have l : ∀ zs : List Int, (ofI zs).length = zs.length := fun zs => by unfold ofI; simp
  rw [l, l]
  by_cases h : xs.length = ys.length
  · rw [if_pos h, z xs ys h]
  · rw [if_neg h]
    have : xs ≠ ys := fun e => h (by rw [e])
    simp [this]
section
variable {X : Cx} {pins : List (Addr × Obj)} {σ : St} {H : Hp} {s : Shared}
theorem trip_at (I : Inv X pins σ H s) {P : Addr → Prop} {d : D} {v : V} {u : Value} {t : Trp} (ht : trip d = some t) (hi : Is X.K P H d v) (r : RelV v u) :
    ∃ (a : Addr) (t1 t2 : Tok) (c : Addr) (cits : List Value), u = .ref a ∧ s.heap.IsTuple a #[.int t.1 t1, .int t.2.1 t2, .ref c] ∧ s.heap.IsList c cits.toArray ∧ IntsAre cits t.2.2 ∧ Is X.K P H (.lst (ofI t.2.2)) (.ref c) := by
  have e := of_trip ht
  subst e
  obtain ⟨a, vs, rfl, h1, v1, r1, rfl, i1, v2, r2, rfl, i2, v3, r3, rfl, i3, h4⟩ := hi
  have e1 : v1 = .int t.1 := i1
  have e2 : v2 = .int t.2.1 := i2
  have e4 : r3 = [] := h4
  subst e1 e2 e4
  obtain ⟨c, cs, rfl, h5, h6⟩ := id i3
  have e6 := isl_ofI h6
  subst e6
  have eu : u = .ref a := r
  subst eu
  obtain ⟨its, rvs, pl, hz⟩ := I.tuple h1.sq
  obtain ⟨cits, rc, plc, hzc⟩ := I.list h5.sq
  obtain ⟨u1, us, rfl, ⟨t1, rfl⟩, rvs2⟩ : ∃ u1 us, its = u1 :: us ∧ RelV (.int t.1) u1 ∧ Vals [.int t.2.1, .ref c] us := by
    cases its with
    | nil => exact nomatch rvs
    | cons u1 us => cases rvs with
      | cons p q => exact ⟨_, _, rfl, p, q⟩
  obtain ⟨u2, u3, rfl, ⟨t2, rfl⟩, r3⟩ := rvs2.two
  have e3 : u3 = .ref c := r3
  subst e3
  exact ⟨a, t1, t2, c, cits, rfl, pl, plc.isList, intsAre_of rc, i3⟩
theorem trip_lt (I : Inv X pins σ H s) {P : Addr → Prop} {d d' : D} {v v' : V} {u u' : Value} {t t' : Trp} {A : Around} {E : Value → Shared → Prop} {C : Bool → Shared → Prop} {prog : Program} {w : World} (hu : A.units + 1 < cLine)
    (ht : trip d = some t) (hi : Is X.K P H d v) (r : RelV v u) (ht' : trip d' = some t') (hi' : Is X.K P H d' v') (r' : RelV v' u') (h : C (ltT t t') s) : wpAny (model prog w) A (keyLt' (tuples' true) u u') C E s := by
  obtain ⟨a, t1, t2, c, cits, rfl, p1, p2, p3, p4⟩ := trip_at I ht hi r
  obtain ⟨a', t1', t2', c', cits', rfl, q1, q2, q3, q4⟩ := trip_at I ht' hi' r'
  obtain ⟨o, ho, hcl, n, hd⟩ := p1
  obtain ⟨o', ho', hcl', n', hd'⟩ := q1
  refine PySem.W.kat_lt ho hd ho' hd' ?_
  show PySem.W.KatLex prog w A true false C [(.int t.1 t1, .int t'.1 t1'), (.int t.2.1 t2, .int t'.2.1 t2'), (.ref c, .ref c')] 0 s
  unfold ltT at h
  refine PySem.W.kat_cons (wpAny_eqBool_int (PySem.W.kat_go (fun e => PySem.W.kat_yes ?_) (fun e => PySem.W.kat_no ?_)))
  · rw [if_pos e] at h
    refine PySem.W.kat_cons (wpAny_eqBool_int (PySem.W.kat_go (fun e => PySem.W.kat_yes ?_) (fun e => PySem.W.kat_no ?_)))
    · rw [if_pos e] at h
      refine PySem.W.kat_cons ((eq_at I 1 A _ _ _ _ (.ref c) (.ref c') _ (by omega) p4 q4 rfl rfl (eqF_ofI t.2.2 t'.2.2)).1 prog w _ _ (PySem.W.kat_go (fun e => PySem.W.kat_yes (PySem.W.kat_nil ?_)) (fun e => PySem.W.kat_no ?_)))
      · have e' : t.2.2 = t'.2.2 := by simpa using e
        rw [e', ltL_irrefl] at h
        exact h
      · show wpAny (model prog w) A (oneLt' false (.ref c) (.ref c')) C _ s
        refine PySem.W.kat_one _ _ (lt_lists p2 q2 (xs := t.2.2) (ys := t'.2.2) ?_ ?_ (by omega) h)
        · exact p3
        · exact q3
    · rw [if_neg (by rw [e]; decide)] at h
      show wpAny (model prog w) A (oneLt' false (.int t.2.1 t2) (.int t'.2.1 t2')) C _ s
      exact PySem.W.kat_one _ _ (wpAny_lt_int h)
  · rw [if_neg (by rw [e]; decide)] at h
    show wpAny (model prog w) A (oneLt' true (.int t.1 t1) (.int t'.1 t1')) C _ s
    exact oneLt_int h
theorem trip_tups (I : Inv X pins σ H s) {P : Addr → Prop} : ∀ {ds : List D} {vs : List V} {us : List Value}, (ds.all fun d => (trip d).isSome) = true → IsL X.K P H ds vs → Vals vs us →
    ∃ fs, PySem.W.KatTups s.heap us fs ∧ fs.length = ds.length ∧ ∀ v ∈ fs, ∃ n t, v = Value.int n t
  | [], vs, us, _, h, r => by
    have e : vs = [] := h
    subst e
    have e2 := r.zero
    subst e2
    exact ⟨[], trivial, rfl, fun v hv => by cases hv⟩
  | d :: ds, vs, us, ha, ⟨v, q, e, hi, hl⟩, r => by
    subst e
    cases us with
    | nil => exact nomatch r
    | cons u us => cases r with
      | cons p r =>
        rw [List.all_cons, Bool.and_eq_true] at ha
        obtain ⟨t, ht⟩ := Option.isSome_iff_exists.mp ha.1
        obtain ⟨a, t1, t2, c, cits, rfl, p1, p2, p3, p4⟩ := trip_at I ht hi p
        obtain ⟨o, ho, hcl, n, hd⟩ := p1
        obtain ⟨fs, k1, k2, k3⟩ := trip_tups I ha.2 hl r
        exact ⟨.int t.1 t1 :: fs, .cons ho hcl hd rfl k1, by simp [k2], fun v hv => by
          rcases List.mem_cons.mp hv with rfl | hv
          · exact ⟨_, _, rfl⟩
          · exact k3 v hv⟩
end
theorem isl_pick {K : PySem.W.Frag} {P : Addr → Prop} {H : Hp} {ds : List D} {vs : List V} (i : IsL K P H ds vs) : ∀ (is : List Nat), (∀ i ∈ is, i < ds.length) → IsL K P H (is.map fun i => ds.getD i .non) (is.map fun i => vs.getD i .non)
  | [], _ => rfl
  | k :: is, h => by
    have hk := h k (List.mem_cons_self ..)
    obtain ⟨v, hv, iv⟩ := IsL.get i (List.getElem?_eq_getElem hk)
    have e1 : ds.getD k .non = ds[k] := by simp [hk]
    have e2 : vs.getD k .non = v := by simp [hv]
    exact ⟨_, _, rfl, by dsimp only; rw [e1, e2]; exact iv, isl_pick i is fun i hi => h i (List.mem_cons_of_mem _ hi)⟩
theorem vals_pick {vs : List V} {us : List Value} (r : Vals vs us) : ∀ (is : List Nat), (∀ i ∈ is, i < vs.length) → Vals (is.map fun i => vs.getD i .non) (is.map fun i => us.getD i Value.none)
  | [], _ => .nil
  | k :: is, h => by
    have hk := h k (List.mem_cons_self ..)
    obtain ⟨u, hu, ru⟩ := r.get (List.getElem?_eq_getElem hk)
    have e1 : vs.getD k .non = vs[k] := by simp [hk]
    have e2 : us.getD k Value.none = u := by simp [hu]
    exact .cons (by dsimp only; rw [e1, e2]; exact ru) (vals_pick r is fun i hi => h i (List.mem_cons_of_mem _ hi))
section
variable {X : Cx} {E : Str → Hp → Prop} {pos : Pos}
def sortSp (K : PySem.W.Frag) : List V → Hp → VK → Prop := fun xs H Q => ∃ (l : Addr) (ds : List D) (vs : List V), xs = [.ref l] ∧ SqL K H l vs ∧ IsL K Tr H ds vs ∧ ds.length < 64 ∧ (ds.all fun d => (trip d).isSome) = true ∧ ∀ p, H p = none → Q (.ref p) (upd H p (.lst ((ordP (ltI ds) ds.length).map fun i => vs.getD i .non)))
theorem call_sortT (hu : X.A.units + 6 < cLine) : CallR X (.builtin "sorted") (sortSp X.K) := by
  intro pins s σ H xs us Q I r h
  obtain ⟨l, ds, vs, rfl, hl, il, h64, hall, q⟩ := h
  obtain ⟨u, rfl, ru⟩ := vals1 r
  have e : u = .ref l := ru
  subst e
  obtain ⟨its, rv, pl, hz⟩ := I.list hl
  have l1 : vs.length = ds.length := IsL.length il
  have l2 : vs.length = its.length := rv.length
  have l3 : ds.length = its.length := by omega
  refine sorted_any (κ := tuples' true) (lt := ltI ds) (vs := its) pl.isList (by omega) (fun h2 h' kp Q' q' => ?_) (fun h' kp i j hi hj C q' => ?_) ?_
  · have I' := I.kept (s := s) (t' := s.toks) kp
    obtain ⟨fs, k1, k2, k3⟩ := trip_tups I' hall il rv
    exact PySem.W.kat_kind (T := .type "int") k1 (by omega) (fun v hv => by obtain ⟨n, t, rfl⟩ := k3 v hv; exact .now) rfl q'
  · have I' := I.kept (s := s) (t' := s.toks) kp
    have hi' : i < ds.length := by omega
    have hj' : j < ds.length := by omega
    obtain ⟨v1, hv1, iv1⟩ := IsL.get il (List.getElem?_eq_getElem hi')
    obtain ⟨v2, hv2, iv2⟩ := IsL.get il (List.getElem?_eq_getElem hj')
    obtain ⟨u1, hu1, ru1⟩ := rv.get hv1
    obtain ⟨u2, hu2, ru2⟩ := rv.get hv2
    have e1 : its.getD i Value.none = u1 := by simp [hu1]
    have e2 : its.getD j Value.none = u2 := by simp [hu2]
    obtain ⟨t1, ht1⟩ := Option.isSome_iff_exists.mp (List.all_eq_true.mp hall _ (List.getElem_mem hi'))
    obtain ⟨t2, ht2⟩ := Option.isSome_iff_exists.mp (List.all_eq_true.mp hall _ (List.getElem_mem hj'))
    have e3 : ltI ds i j = ltT t1 t2 := by
      unfold ltI trD
      rw [show ds.getD i .non = ds[i] from by simp [hi'], show ds.getD j .non = ds[j] from by simp [hj'], ht1, ht2]
      rfl
    rw [e1, e2]
    rw [e3] at q'
    exact trip_lt I' (by show X.A.units + 1 + 1 + 1 < cLine; omega) ht1 iv1 ru1 ht2 iv2 ru2 q'
  · obtain ⟨n, hn⟩ := sortedAll_at s.heap its (outP (ltI ds) its)
    refine ⟨.ref _, _, I.laid (a := s.heap.objs.size + 1) (o := .lst ((ordP (ltI ds) ds.length).map fun i => vs.getD i .non)) (t' := s.toks) (fun _ _ => sortedAll_old) (Nat.le_succ _) ⟨?_, (outP (ltI ds) its).toList, n, ?_, ?_⟩, rfl, q _ (I.hok.fresh (Nat.le_succ _))⟩
    · rw [List.length_map, (ordP_perm _ _).length_eq, List.length_range]
      exact Nat.le_of_lt (Nat.lt_trans h64 (by decide))
    · unfold outP
      rw [← l3]
      exact vals_pick rv _ fun i hi => by rw [l1]; exact ordP_lt hi
    · rw [hn]
theorem lSortT {p : Pos} {a : Expr} {f : DE → R (List D)} (hu : X.A.units + 6 < cLine) (hm : X.mg "sorted" = none) (ha : PE X a (tL X.K E f)) (hg : Gl X "sorted" := by rfl)
    (he : starEach [a] X.env = (false, eval a X.env) :: starEach [] X.env := by rfl) (hpl : (backTo pos (starEach [] X.env)).any (·.1) = false := by rfl) : PE X (.Call (.Name "sorted" p) [a] [] pos) (tF X.K E fun env => (f env).bind sortT) := by
  refine imp (pe_callB (call_sortT hu) hg hm bt_sorted (pa_cons ha pa_nil he) (by decide) (by decide) he hpl) fun σ H Q ⟨g, env, os, r, m⟩ => ⟨g, env, os, r, m.bind.mono fun xs _ q l vs H' s hl i => ?_⟩
  unfold sortT at q
  split at q
  · rename_i c
    refine ⟨l, xs, vs, rfl, hl, i.weak, c.1, c.2, fun p hp => ?_⟩
    obtain ⟨b1, b2, b3, b4⟩ := newL r s hp (isl_pick i (ordP (ltI xs) xs.length) fun i hi => ordP_lt hi)
    exact q p _ _ b1 b2 b3 b4
  · exact q.elim
end
end DL

namespace DL
open PySem PySem.Spec PyProof.Rows L2
section
variable {K : PySem.W.Frag} {g : Gh} {env : DE} {σ : St} {H H1 : Hp} {os : List Addr}
theorem Rel.growC (r : Rel K g env σ H os) (s : Same H H1) {i : Nat} {c c' : Ct} (e : env[i]? = some (.deep c)) {a : Addr} (hσ : σ[i]? = some (some (.ref a))) {o : HO} {ns : List Addr} (hn : ∀ b ∈ ns, H b = none)
    (hd : ∀ as, Dp H os a as c → Dp (upd H1 a o) (ns ++ os) a (ns ++ as) c') : a ∈ os ∧ Rel K g (env.set i (.deep c')) σ (upd H1 a o) (ns ++ os) := by
  obtain ⟨A, dd⟩ := r.dps
  obtain ⟨a0, as0, hA, h1, h3⟩ := dd.dp i c e
  rw [hσ] at h1
  cases h1
  have hbos : a ∈ os := (h3.mem a (by simp)).1
  have hnew : ∀ b ∈ ns, b ∉ os := fun b hb hm => by
    obtain ⟨o, ho⟩ := (r.new b hm).2
    rw [hn b hb] at ho
    cases ho
  have hd' := hd as0 h3
  refine ⟨hbos, ?_⟩
  have ex : Ext (g.P os) (g.P (ns ++ os)) H (upd H1 a o) := ⟨fun c o p q => ⟨p.1, fun hm => by
    rcases List.mem_append.mp hm with z | z
    · rw [hn c z] at q; cases q
    · exact p.2 z⟩, fun c o p q => by rw [upd_ne (fun z => p.2 (by rw [z]; exact hbos))]; exact s c o q⟩
  have f : ∀ (j : Nat) (sl : Sl), (env.set i (Sl.deep c'))[j]? = some sl → sl ≠ .deep c' → i ≠ j ∧ env[j]? = some sl := fun j sl q hn => get_set_ne' q hn
  have keep : ∀ c ∈ os, c ≠ a → ∀ o', H c = some o' → (upd H1 a o) c = some o' := fun c _ hc o' ho => by rw [upd_ne hc]; exact s c o' ho
  refine ⟨by simp [r.len], fun c o' q => ?_, fun j d q => ?_, fun j xs q => ?_, fun j k xs ys c q1 q2 q3 q4 => ?_, fun c hc => ?_, fun j v q => ?_, ?_⟩
  · rw [upd_ne (fun z => by rw [z, (r.new a hbos).1] at q; cases q)]
    exact s _ _ (r.ext c o' q)
  · obtain ⟨hj, q⟩ := f j _ q (fun z => nomatch z)
    obtain ⟨v, h1, h2⟩ := r.val j d q
    exact ⟨v, h1, Is.ext ex _ _ h2⟩
  · obtain ⟨hj, q⟩ := f j _ q (fun z => nomatch z)
    obtain ⟨b, vs, h1, h2, h3', h4⟩ := r.own j xs q
    have hca : b ≠ a := fun z => dd.ow i c j xs b e q h1 (by rw [z, hA]; exact List.mem_cons_self)
    exact ⟨b, vs, h1, List.mem_append_right _ h2, keep b h2 hca _ h3', IsL.ext ex _ _ h4⟩
  · obtain ⟨hj, q1⟩ := f j _ q1 (fun z => nomatch z)
    obtain ⟨hk, q2⟩ := f k _ q2 (fun z => nomatch z)
    exact r.inj j k xs ys c q1 q2 q3 q4
  · rcases List.mem_append.mp hc with z | z
    · exact ⟨r.ext.free (hn c z), (hd'.mem c (List.mem_cons_of_mem _ (List.mem_append_left _ z))).2⟩
    · obtain ⟨z1, o', z2⟩ := r.new c z
      refine ⟨z1, ?_⟩
      by_cases w : c = a
      · exact ⟨_, by rw [w]; exact upd_same⟩
      · exact ⟨o', keep c z w o' z2⟩
  · obtain ⟨hj, q⟩ := f j _ q (fun z => nomatch z)
    exact r.raw j v q
  · have sub : ∀ (j' : Nat) (y : Addr), (y ∈ if j' = i then a :: (ns ++ as0) else A j') → y ∈ A j' ∨ (j' = i ∧ y ∈ ns) := fun j' y hy => by
      by_cases hj : j' = i
      · rw [if_pos hj] at hy
        rw [hj, hA]
        rcases List.mem_cons.mp hy with w | w
        · rw [w]; exact .inl List.mem_cons_self
        · rcases List.mem_append.mp w with w | w
          · exact .inr ⟨rfl, w⟩
          · exact .inl (List.mem_cons_of_mem _ w)
      · rw [if_neg hj] at hy
        exact .inl hy
    have p1 : ∀ (j : Nat) (ms : Ct), (env.set i (Sl.deep c'))[j]? = some (.deep ms) → ∃ ms', env[j]? = some (.deep ms') := fun j ms q => by
      by_cases hj : i = j
      · subst hj; exact ⟨c, e⟩
      · rw [List.getElem?_set_ne hj] at q; exact ⟨ms, q⟩
    refine ⟨fun j => if j = i then a :: (ns ++ as0) else A j, fun j mss q => ?_, fun j mss m xs b q1 q2 q3 hx => ?_, fun j m mss lss hjm q1 q2 x hx hx2 => ?_⟩
    · by_cases hj : j = i
      · have q' := q
        rw [hj] at q'
        have z := get_set_eq q'
        cases z
        exact ⟨a, ns ++ as0, if_pos hj, by rw [hj]; exact hσ, hd'⟩
      · rw [List.getElem?_set_ne (Ne.symm hj)] at q
        obtain ⟨b, cs, z1, z2, z3⟩ := dd.dp j mss q
        refine ⟨b, cs, by rw [if_neg hj]; exact z1, z2, z3.to fun x hx => ?_⟩
        have hxa : x ≠ a := fun z => dd.dj i j c mss (Ne.symm hj) e q a (by rw [hA]; exact List.mem_cons_self) (by rw [z1, ← z]; exact hx)
        obtain ⟨w1, o', w2⟩ := z3.mem x hx
        exact ⟨List.mem_append_right _ w1, by rw [keep x w1 hxa o' w2, w2]⟩
    · have q2' := (f m _ q2 (fun z => nomatch z)).2
      obtain ⟨ms', p⟩ := p1 j mss q1
      rcases sub j b hx with w | ⟨_, w⟩
      · exact dd.ow j ms' m xs b p q2' q3 w
      · obtain ⟨b', vs, w1, w2, _⟩ := r.own m xs q2'
        rw [q3] at w1
        cases w1
        exact hnew b w w2
    · obtain ⟨m1, w1⟩ := p1 j mss q1
      obtain ⟨m2, w2⟩ := p1 m lss q2
      rcases sub j x hx with u1 | ⟨u1, u2⟩
      · rcases sub m x hx2 with v1 | ⟨v1, v2⟩
        · exact dd.dj j m m1 m2 hjm w1 w2 x u1 v1
        · exact hnew x v2 (dd.mem w1 x u1).1
      · rcases sub m x hx2 with v1 | ⟨v1, v2⟩
        · exact hnew x u2 (dd.mem w2 x v1).1
        · exact hjm (by rw [u1, v1])
theorem Rel.dropC (r : Rel K g env σ H os) {i : Nat} {c : Ct} (e : env[i]? = some (.deep c)) {a : Addr} (hσ : σ[i]? = some (some (.ref a))) {b : Addr} {o : HO} (hb : ∀ as, Dp H os a as c → b ∈ a :: as) :
    b ∈ os ∧ Rel K g (env.set i .no) σ (upd H b o) os := by
  obtain ⟨A, dd⟩ := r.dps
  obtain ⟨a0, as0, hA, h1, h3⟩ := dd.dp i c e
  rw [hσ] at h1
  cases h1
  have hbA : b ∈ A i := by rw [hA]; exact hb _ h3
  have hbos : b ∈ os := (dd.mem e b hbA).1
  refine ⟨hbos, ?_⟩
  have ex : Ext (g.P os) (g.P os) H (upd H b o) := ⟨fun _ _ p _ => p, fun c o p q => by rw [upd_ne (fun z => p.2 (by rw [z]; exact hbos))]; exact q⟩
  have f : ∀ (j : Nat) (sl : Sl), (env.set i Sl.no)[j]? = some sl → sl ≠ .no → i ≠ j ∧ env[j]? = some sl := fun j sl q hn => get_set_ne' q hn
  refine ⟨by simp [r.len], fun c' o' q => ?_, fun j d q => ?_, fun j xs q => ?_, fun j k xs ys c' q1 q2 q3 q4 => ?_, fun c' hc => ?_, fun j v q => ?_, ?_⟩
  · rw [upd_ne (fun z => by rw [z, (r.new b hbos).1] at q; cases q)]
    exact r.ext c' o' q
  · obtain ⟨hj, q⟩ := f j _ q (fun z => nomatch z)
    obtain ⟨v, h1, h2⟩ := r.val j d q
    exact ⟨v, h1, Is.ext ex _ _ h2⟩
  · obtain ⟨hj, q⟩ := f j _ q (fun z => nomatch z)
    obtain ⟨c', vs, h1, h2, h3', h4⟩ := r.own j xs q
    have hcb : c' ≠ b := fun z => dd.ow i _ j xs c' e q h1 (by rw [z]; exact hbA)
    exact ⟨c', vs, h1, h2, by rw [upd_ne hcb]; exact h3', IsL.ext ex _ _ h4⟩
  · obtain ⟨hj, q1⟩ := f j _ q1 (fun z => nomatch z)
    obtain ⟨hk, q2⟩ := f k _ q2 (fun z => nomatch z)
    exact r.inj j k xs ys c' q1 q2 q3 q4
  · obtain ⟨z1, o', z2⟩ := r.new c' hc
    refine ⟨z1, ?_⟩
    by_cases z : c' = b
    · exact ⟨_, by rw [z]; exact upd_same⟩
    · exact ⟨o', by rw [upd_ne z]; exact z2⟩
  · obtain ⟨hj, q⟩ := f j _ q (fun z => nomatch z)
    exact r.raw j v q
  · refine ⟨A, fun j mss q => ?_, fun j mss m xs c' q1 q2 q3 => ?_, fun j m mss lss hjm q1 q2 x hx => ?_⟩
    · obtain ⟨hj, q⟩ := f j _ q (fun z => nomatch z)
      obtain ⟨c', cs, z1, z2, z3⟩ := dd.dp j mss q
      refine ⟨c', cs, z1, z2, z3.to fun x hx => ?_⟩
      have hxb : x ≠ b := fun z => dd.dj i j _ mss hj e q b hbA (by rw [z1, ← z]; exact hx)
      exact ⟨(z3.mem x hx).1, upd_ne hxb⟩
    · obtain ⟨_, q1⟩ := f j _ q1 (fun z => nomatch z)
      obtain ⟨_, q2⟩ := f m _ q2 (fun z => nomatch z)
      exact dd.ow j mss m xs c' q1 q2 q3
    · obtain ⟨_, q1⟩ := f j _ q1 (fun z => nomatch z)
      obtain ⟨_, q2⟩ := f m _ q2 (fun z => nomatch z)
      exact dd.dj j m mss lss hjm q1 q2 x hx
end
def trO : Out → R (List Trp)
  | .rtC (.tr ts) => .ok ts
  | _ => .bad
def spR (K : PySem.W.Frag) (m : List D → R (List Trp)) : Sp := fun vs H Q E => ∃ P ds, IsL K P H ds vs ∧ (match m ds with
  | .ok ts => ∀ (a : Addr) (H' : Hp), Same H H' → NewC H H' a (.tr ts) → Q (.ref a) H'
  | _ => False)
def mR (n N : Nat) (b : DE → R Out) (ds : List D) : R (List Trp) := if ds.length = n then ((b (initE N ds)).bind trO).ne else .bad
abbrev OkR (P : Program) (w : World) (K : PySem.W.Frag) (mg : Str → Option Value) (base : Heap) (k : Nat) (f : Addr) (fd : FuncData) (ps : List Str) (m : List D → R (List Trp)) : Prop := FnOk P w K mg base CX0 k f fd ps (spR K m)
section
variable {P : Program} {w : World} {K : PySem.W.Frag} {mg : Str → Option Value} {base : Heap}
theorem okR {x : Str} {st : Stmt} {f : Addr} {fd : FuncData} {N ps : List Str} {k : Nat} {b : DE → R Out} (S : FnScope N ps (defScope st)) (d : Df K mg x st ps f fd)
    (hb : ∀ (cdv : Value) (A : Around) (outer : List Env) (s : Shared) (H : Hp) (E : XK), Room k (A.deeper (envOfC x (defScope st) s.heap.objs.size f cdv)) → PSs (cxOf CX0 P w K mg base N x (defScope st) f cdv A outer s H E).nox (defBody st) (tS K EN b)) :
    OkR P w K mg base (k + 1) f fd ps (mR ps.length N.length b) := by
  refine d.F.ok S (fun vs H Q E h => ?_) (fun cdv A outer s H vs Q E hr h => ?_)
  · obtain ⟨Pa, ds, i, h⟩ := h
    cases e : mR ps.length N.length b ds with
    | ok nss =>
      rw [i.length]
      unfold mR at e
      split at e
      · assumption
      · cases e
    | err c => rw [e] at h; exact h.elim
    | bad => rw [e] at h; exact h.elim
  · obtain ⟨Pa, ds, i, h⟩ := h
    refine ⟨_, hb cdv A outer s H E hr, ⟨⟨Pa, H⟩, initE N.length ds, [], rel_start i, ?_⟩⟩
    cases e : mR ps.length N.length b ds with
    | err c => rw [e] at h; exact h.elim
    | bad => rw [e] at h; exact h.elim
    | ok nss =>
      rw [e] at h
      unfold mR at e
      split at e
      · have q := R.ne_of e
        cases eb : b (initE N.length ds) with
        | bad => rw [eb] at q; cases q
        | err c => rw [eb] at q; cases q
        | ok o =>
          rw [eb] at q
          cases o with
          | rtC c =>
            cases c with
            | tr ts => cases q; exact fun a H' s' nd => h a H' s' nd
            | ls _ => cases q
            | tp _ => cases q
            | dk _ => cases q
            | tq _ _ => cases q
          | rtQ _ => cases q
          | rtP _ => cases q
          | rtT _ => cases q
          | rtF _ => cases q
          | rt _ => cases q
          | nx _ => cases q
          | bk _ => cases q
          | ct _ => cases q
      · cases e
end
section
variable {X : Cx} {E : Str → Hp → Prop} {pos : Pos}
def tRp (K : PySem.W.Frag) (E : Str → Hp → Prop) (f : DE → R (List Trp)) : TE := fun σ H Q => ∃ g env os, Rel K g env σ H os ∧ Good E g.H₀ (f env) fun ts => ∀ (a : Addr) (H' : Hp), Same H H' → NewC H H' a (.tr ts) → Q (.ref a) H'
theorem fR1 {x : Str} {st : Stmt} {ps : List Str} {fa : Addr} {fd : FuncData} {k : Nat} {p : Pos} {e : Expr} {es : List Expr} {f : DE → R (List D)} {m : List D → R (List Trp)} (d : Df X.K X.mg x st ps fa fd) (F : OkR X.prog X.w X.K X.mg X.base k fa fd ps m) (hr : Room k X.A)
    (ha : PA X (e :: es) (tArB X.K E f)) (hg : Gl X x := by rfl) (hdb : (x == ("__debug__" : Str)) = false := by decide) (he : starEach (e :: es) X.env = (false, eval e X.env) :: starEach es X.env := by rfl) (hpl : (backTo pos (starEach es X.env)).any (·.1) = false := by rfl) :
    PE X (.Call (.Name x p) (e :: es) [] pos) (tRp X.K E fun env => ((f env).bind m).ne) :=
  imp (pe_call (E := fun _ _ _ => False) F hr hg d.m d.F.kp d.b .nil passN ha hdb he hpl) fun σ H Q ⟨g, env, os, r, q⟩ => ⟨g, env, os, r, by
    dsimp only at q
    cases ef : f env with
    | bad => rw [ef] at q; exact q.elim
    | err c => rw [ef] at q; exact q.elim
    | ok ds =>
      rw [ef] at q
      cases em : m ds with
      | bad => rw [show ((R.ok ds).bind m) = m ds from rfl, em] at q; exact q.elim
      | err c => rw [show ((R.ok ds).bind m) = m ds from rfl, em] at q; exact q.elim
      | ok nss =>
        rw [show ((R.ok ds).bind m) = m ds from rfl, em] at q
        intro vs H1 s1 i1
        show spR X.K m (vs ++ []) H1 Q _
        rw [List.append_nil]
        refine ⟨_, ds, i1, ?_⟩
        rw [em]
        exact fun a H' s' nd => q a H' (s1.trans s') (nd.back s1)⟩
theorem sSetR (i : Nat) {x : Str} {e : Expr} {f : DE → R (List Trp)} {pos' : Pos} (he : PE X e (tRp X.K E f)) (hN : X.N.Nodup) (hi : X.N[i]? = some x := by rfl) (hx : Loc X.env.scope x := by first | exact Or.inl rfl | exact Or.inr rfl) (hs : swapsWith e (some (.Name x pos')) pos.line X.env = pure false := by rfl)
    (hf : X.fn x = true ∨ X.env.scope.names.lookup x = some .local := by first | exact .inl rfl | exact .inr rfl | assumption) : PS X (.Assign [.Name x pos'] e pos) (tS X.K E fun env => (f env).bind fun ts => .ok (.nx (env.set i (.deep (.tr ts))))) :=
  impS (ps_set hN hi hx he hs hf) fun De σ H ⟨g, env, os, r, m⟩ => ⟨g, env, os, r, m.bind.mono fun ts _ q a H' s nd => by
    obtain ⟨as, fr, dp⟩ := nd
    refine q _ H' ((a :: as) ++ os) (r.setC s i (c := .tr ts) fr (dp.to fun x hx => ⟨List.mem_append_left _ hx, rfl⟩)) ⟨fun b hb => ?_, fun b hb => s.free hb, fun b o _ hb => s b o hb⟩
    rcases List.mem_append.mp hb with z | z
    · exact .inr (fr b z)
    · exact .inl z⟩
theorem PE.RtoD {e : Expr} {f : DE → R (List Trp)} (h : PE X e (tRp X.K E f)) : PE X e (tD X.K E fun env => (f env).bind fun ts => .ok (.lst (ts.map dT))) :=
  imp h fun σ H Q ⟨g, env, os, r, m⟩ => ⟨g, env, os, r, m.bind.mono fun ts _ q a H' s nd => by
    obtain ⟨as, fr, dp⟩ := nd
    obtain ⟨vs, q1, q2, q3⟩ := (show DpR H' (a :: as) a as ts from dp).at_
    exact q (.ref a) H' s ⟨a, _, rfl, .inl ⟨r.fresh (fr a (by simp)), .inl q1⟩, isl_trip (fun b hb => r.fresh (fr b (List.mem_cons_of_mem _ hb))) q2 q3⟩⟩
theorem sSetR0 (i : Nat) {x : Str} {pos' p : Pos} (hN : X.N.Nodup) (hi : X.N[i]? = some x := by rfl) (hx : Loc X.env.scope x := by first | exact Or.inl rfl | exact Or.inr rfl) (hs : swapsWith (.List [] p) (some (.Name x pos')) pos.line X.env = pure false := by rfl)
    (hf : X.fn x = true ∨ X.env.scope.names.lookup x = some .local := by first | exact .inl rfl | exact .inr rfl | assumption) : PS X (.Assign [.Name x pos'] (.List [] p) pos) (tS X.K E fun env => .ok (.nx (env.set i (.deep (.tr []))))) :=
  impS (ps_set hN hi hx (pe_lst pa_nil) hs hf) fun De σ H ⟨g, env, os, r, m⟩ => ⟨by show 0 ≤ sizeLine; decide, fun p hp => by
    have sp := same_new hp (.lst [])
    have hn : ∀ b ∈ [p], H b = none := fun b hb => by
      have : b = p := by simpa using hb
      rw [this]; exact hp
    exact m _ _ ([p] ++ os) (r.setC sp i (c := .tr []) hn ⟨by simp, by simp, fun x hx => by simp at hx, [], upd_same, rfl, fun k t v e1 _ => by simp at e1⟩) ⟨fun b hb => by
      rcases List.mem_append.mp hb with z | z
      · exact .inr (hn b z)
      · exact .inl z, fun b hb => sp.free hb, fun b o _ hb => sp b o hb⟩⟩
end
def trAt (i : Nat) (env : DE) : R (List Trp) := match env[i]? with
  | some (.deep (.tr ts)) => .ok ts
  | _ => .bad
section
variable {K : PySem.W.Frag} {g : Gh} {env : DE} {σ : St} {H H' : Hp} {os : List Addr}
theorem Rel.at_tr (r : Rel K g env σ H os) {ix : Nat} {ts : List Trp} (e : env[ix]? = some (.deep (.tr ts))) : ∃ (a : Addr) (as : List Addr), σ[ix]? = some (some (.ref a)) ∧ DpR H os a as ts := by
  obtain ⟨A, dd⟩ := r.dps
  obtain ⟨a, as, _, h1, h3⟩ := dd.dp ix _ e
  exact ⟨a, as, h1, h3⟩
end
section
variable {X : Cx} {E : Str → Hp → Prop} {pos : Pos}
theorem Good.trs {H₀ : Hp} {i : Nat} {env : DE} {p : List Trp → Prop} (h : Good E H₀ (trAt i env) p) : ∃ ts, env[i]? = some (.deep (.tr ts)) ∧ p ts := by
  unfold trAt at h
  split at h
  · rename_i ts e
    exact ⟨ts, e, h⟩
  · exact h.elim
noncomputable def appR (ix : Nat) (env : DE) (ts : List Trp) (t : Trp) : R Out := @ite _ (ts.length < sizeLine) (Classical.propDecidable _) (.ok (.nx (env.set ix (.deep (.tr (ts ++ [t])))))) .bad
theorem sAppR (ix : Nat) {x : Str} {e1 e2 e3 : Expr} {f1 f2 : DE → R D} {f3 : DE → R (List D)} {p tp apos cpos : Pos} {x1} (he1 : PE X e1 (tB X.K E f1)) (he2 : PE X e2 (tB X.K E f2)) (he3 : PE X e3 (tF X.K E f3)) (hN : X.N[ix]? = some x := by rfl) (hv : Vis X.env.scope x := by first | exact Or.inl rfl | exact Or.inr (Or.inl rfl) | exact Or.inr (Or.inr rfl)) (hd : (x == ("__debug__" : Str)) = false := by decide)
    (hcd : (x == ("__classdict__" : Str)) = false := by decide)
    (hbase : attributeBase (.Name x p) "append" X.env (eval (.Name x p) X.env) = eval (.Name x p) X.env := by rfl)
    (hfew : ((backTo cpos (starEach [.Tuple [e1, e2, e3] x1 tp] X.env)).all (fun x => !x.1) && (backToKw cpos (keywordEach [] X.env)).all (fun x => x.1.isSome)
      && decide ([Expr.Tuple [e1, e2, e3] x1 tp].length + ([] : List Keyword).length + (if ([] : List Keyword).isEmpty then 0 else 1) < 30)) = true := by rfl)
    (hline : (apos.endLine == cpos.line) = true := by rfl) (hst : starEach [.Tuple [e1, e2, e3] x1 tp] X.env = (false, eval (.Tuple [e1, e2, e3] x1 tp) X.env) :: starEach [] X.env := by rfl) (hplain : (backTo cpos (starEach [] X.env)).any (·.1) = false := by rfl)
    (hs1 : starEach [e1, e2, e3] X.env = (false, eval e1 X.env) :: starEach [e2, e3] X.env := by rfl) (hs2 : starEach [e2, e3] X.env = (false, eval e2 X.env) :: starEach [e3] X.env := by rfl) (hs3 : starEach [e3] X.env = (false, eval e3 X.env) :: starEach [] X.env := by rfl)
    (hs : swapsWith (.Call (.Attribute (.Name x p) "append" apos) [.Tuple [e1, e2, e3] x1 tp] [] cpos) none pos.line X.env = pure false := by rfl) :
    PS X (.Expr (.Call (.Attribute (.Name x p) "append" apos) [.Tuple [e1, e2, e3] x1 tp] [] cpos) pos) (tS X.K E fun env => (trAt ix env).bind fun ts => (f1 env).bind fun d1 => (asInt d1).bind fun i1 => (f2 env).bind fun d2 => (asInt d2).bind fun i2 => (f3 env).bind fun xs => (R.of (toI xs)).bind fun ns => appR ix env ts (i1, i2, ns)) :=
  impS (ps_expr (pe_bm PySem.F.plainAttrs_list PySem.F.slot_list_append PySem.F.type_list_append mt_append (pe_var hN hv hd hcd) (pa_cons (pe_tup (pa_cons he1 (pa_cons he2 (pa_cons he3 pa_nil hs3) hs2) hs1)) pa_nil hst) hbase hfew hline hst hplain) hs) fun De σ H ⟨g, env, os, r, m⟩ => by
    obtain ⟨ts, e1, m2⟩ := m.bind.trs
    obtain ⟨a, as, q1, dp⟩ := r.at_tr e1
    obtain ⟨vs, v1, v2, v3⟩ := dp.at_
    refine ⟨.ref a, q1, .inl ⟨rfl, _, SqL.of v1⟩, g, env, os, r, m2.bind.mono fun d1 _ m3 w1 H1 s1 i1 => ?_⟩
    obtain ⟨n1, rfl, m4⟩ := m3.bind.int
    have z1 : w1 = .int n1 := i1
    subst z1
    refine ⟨g, env, os, r.same s1, m4.bind.mono fun d2 _ m5 w2 H2 s2 i2 => ?_⟩
    obtain ⟨n2, rfl, m6⟩ := m5.bind.int
    have z2 : w2 = .int n2 := i2
    subst z2
    refine ⟨g, env, os, r.same (s1.trans s2), m6.bind.mono fun xs _ m7 b us H3 s3 hn hH i3 => ?_⟩
    obtain ⟨ns, e2, m8⟩ := m7.bind.of
    have e3 := of_toI e2
    subst e3
    have e4 := isl_ofI i3
    subst e4
    refine ⟨by show 3 ≤ sizeLine; decide, fun p hp => ?_⟩
    unfold appR at m8
    split at m8
    · rename_i c
      have s0 := (s1.trans s2).trans s3
      have sp := same_new hp (.tup [.int n1, .int n2, .ref b])
      have hbn : H b = none := (s1.trans s2).free hn
      have hpn : H p = none := s0.free hp
      have hpb : p ≠ b := fun z => by rw [z, hH] at hp; cases hp
      have hpa : p ≠ a := fun z => by rw [z, v1] at hpn; cases hpn
      have hba : b ≠ a := fun z => by rw [z, v1] at hbn; cases hbn
      obtain ⟨hos, r2⟩ := r.growC (s0.trans sp) (c' := .tr (ts ++ [(n1, n2, ns)])) (o := .lst (vs ++ [.ref p])) (ns := [p, b]) e1 q1 (fun c hc => by
        simp at hc
        rcases hc with rfl | rfl
        · exact hpn
        · exact hbn) (fun as' dp' => by
        have d : DpR H os a as' ts := dp'
        obtain ⟨vs', u1, u2, u3⟩ := d.at_
        have evs : vs' = vs := by rw [v1] at u1; injection u1 with u1; injection u1 with u1; exact u1.symm
        subst evs
        have kp : ∀ x ∈ as', (upd (upd H3 p (.tup [.int n1, .int n2, .ref b])) a (.lst (vs' ++ [.ref p]))) x = H x := fun x hx => by
          obtain ⟨_, o, ho⟩ := d.mem x hx
          rw [upd_ne (fun z => d.na (by rw [← z]; exact hx)), (s0.trans sp) x o ho, ho]
        refine ⟨List.mem_append_right _ d.ma, fun hx => ?_, fun x hx => ?_, vs' ++ [.ref p], upd_same, by rw [List.length_append, List.length_append, u2]; rfl, fun k t v k1 k2 => ?_⟩
        · simp at hx
          rcases hx with rfl | rfl | hx
          · exact hpa rfl
          · exact hba rfl
          · exact d.na hx
        · simp at hx
          rcases hx with rfl | rfl | hx
          · exact ⟨by simp, _, by rw [upd_ne hpa]; exact upd_same⟩
          · exact ⟨by simp, _, by rw [upd_ne hba]; exact sp _ _ hH⟩
          · obtain ⟨h1, o, ho⟩ := d.mem x hx
            exact ⟨List.mem_append_right _ h1, o, by rw [kp x hx]; exact ho⟩
        · by_cases hk : k < ts.length
          · rw [List.getElem?_append_left hk] at k1
            rw [List.getElem?_append_left (by rw [u2]; exact hk)] at k2
            exact (u3 k t v k1 k2).to fun x hx => ⟨List.mem_append_right _ hx, kp x hx⟩
          · have hk2 : k = ts.length := by
              have := (List.getElem?_eq_some_iff.mp k1).1
              rw [List.length_append] at this
              simp at this
              omega
            subst hk2
            have y1 : (n1, n2, ns) = t := by simpa using k1
            rw [← u2] at k2
            have y2 : V.ref p = v := by simpa using k2
            subst y1 y2
            exact ⟨p, b, rfl, by simp, by simp, by rw [upd_ne hpa]; exact upd_same, by rw [upd_ne hba]; exact sp _ _ hH⟩)
      refine ⟨a, vs, .ref p, rfl, rfl, sp _ _ (s0 _ _ v1), by rw [v2]; exact c, ?_⟩
      refine (show PostO X.K g H os De (.nx _) from m8) σ _ ([p, b] ++ os) r2 ⟨fun y hy => ?_, fun y hy => ?_, fun y o hy ho => ?_⟩
      · simp at hy
        rcases hy with rfl | rfl | hy
        · exact .inr hpn
        · exact .inr hbn
        · exact .inl hy
      · by_cases z : y = a
        · rw [z, upd_same] at hy; cases hy
        · rw [upd_ne z] at hy; exact (s0.trans sp).free hy
      · rw [upd_ne (fun z => hy (by rw [z]; exact hos))]; exact (s0.trans sp) _ _ ho
    · exact m8.elim
def sortR (ts : List Trp) : R (List Trp) := if ts.length < 64 then .ok ((ordP (ltI (ts.map dT)) ts.length).map fun i => ts.getD i (0, 0, [])) else .bad
theorem trip_dT (t : Trp) : trip (dT t) = some t := by
  unfold trip dT
  dsimp only
  rw [show List.map D.int t.2.2 = ofI t.2.2 from rfl, toI_of]
  rfl
theorem sRetR (i : Nat) {x : Str} {p q : Pos} (hu : X.A.units + 6 < cLine) (hm : X.mg "sorted" = none) (hN : X.N[i]? = some x := by rfl) (hv : Vis X.env.scope x := by first | exact Or.inl rfl | exact Or.inr (Or.inl rfl) | exact Or.inr (Or.inr rfl)) (hd : (x == ("__debug__" : Str)) = false := by decide)
    (hcd : (x == ("__classdict__" : Str)) = false := by decide) (hg : Gl X "sorted" := by rfl) {cp : Pos}
    (he : starEach [.Name x q] X.env = (false, eval (.Name x q) X.env) :: starEach [] X.env := by rfl) (hpl : (backTo cp (starEach [] X.env)).any (·.1) = false := by rfl) :
    PS X (.Return (some (.Call (.Name "sorted" p) [.Name x q] [] cp)) pos) (tS X.K E fun env => (trAt i env).bind fun ts => (sortR ts).bind fun us => .ok (.rtC (.tr us))) :=
  impS (ps_ret (pe_callB (call_sortT hu) hg hm bt_sorted (pa_cons (pe_var hN hv hd hcd) pa_nil he) (by decide) (by decide) he hpl)) fun De σ H ⟨g, env, os, r, m⟩ => by
    obtain ⟨ts, e1, m2⟩ := m.bind.trs
    obtain ⟨a, as, q1, dp⟩ := r.at_tr e1
    obtain ⟨vs, v1, v2, v3⟩ := dp.at_
    unfold sortR at m2
    split at m2
    · rename_i c
      refine ⟨.ref a, q1, a, ts.map dT, vs, rfl, SqL.of v1, isl_trip (fun _ _ => trivial) v2 v3, by rw [List.length_map]; exact c, by
        rw [List.all_eq_true]
        intro d hd
        obtain ⟨t, _, rfl⟩ := List.mem_map.mp hd
        rw [trip_dT]
        rfl, fun p hp => ?_⟩
      have sp := same_new hp (.lst ((ordP (ltI (ts.map dT)) (ts.map dT).length).map fun i => vs.getD i .non))
      have hpas : p ∉ as := fun z => by
        obtain ⟨_, o, ho⟩ := dp.mem p z
        rw [hp] at ho
        cases ho
      refine (show PostO X.K g H os De (.rtC (.tr _)) from m2) p _ (r.ext.trans sp) ⟨as, fun x hx => ?_, ?_⟩
      · rcases List.mem_cons.mp hx with rfl | hx
        · exact r.ext.free hp
        · exact (r.new x (dp.mem x hx).1).1
      · refine ⟨by simp, hpas, fun x hx => ?_, _, upd_same, by rw [List.length_map, List.length_map, List.length_map], fun k t v k1 k2 => ?_⟩
        · obtain ⟨_, o, ho⟩ := dp.mem x hx
          exact ⟨List.mem_cons_of_mem _ hx, o, sp _ _ ho⟩
        · rw [List.length_map] at k2
          rw [List.getElem?_map] at k1 k2
          cases hj : (ordP (ltI (ts.map dT)) ts.length)[k]? with
          | none => rw [hj] at k1; cases k1
          | some j =>
            rw [hj] at k1 k2
            have hjl : j < ts.length := ordP_lt (List.mem_of_getElem? hj)
            have y1 : ts.getD j (0, 0, []) = t := Option.some.inj k1
            have y2 : vs.getD j .non = v := Option.some.inj k2
            have hjv : j < vs.length := by rw [v2]; exact hjl
            refine (v3 j t v (by rw [← y1]; simp [hjl]) (by rw [← y2]; simp [hjv])).to fun x hx => ⟨hx, ?_⟩
            obtain ⟨_, o, ho⟩ := dp.mem x hx
            rw [sp _ _ ho, ho]
    · exact m2.elim
def asIx2 : D → R Unit
  | .int 2 => .ok ()
  | _ => .bad
theorem Good.ix2 {H₀ : Hp} {d : D} {p : Unit → Prop} (h : Good E H₀ (asIx2 d) p) : d = .int 2 ∧ p () := by
  unfold asIx2 at h
  split at h
  · exact ⟨rfl, h⟩
  · exact h.elim
def asNil : D → R Unit
  | .int 0 => .ok ()
  | _ => .bad
theorem Good.nil {H₀ : Hp} {d : D} {p : Unit → Prop} (h : Good E H₀ (asNil d) p) : d = .int 0 ∧ p () := by
  unfold asNil at h
  split at h
  · exact ⟨rfl, h⟩
  · exact h.elim
def hdR : List Trp → R Trp
  | t :: _ => .ok t
  | [] => .bad
theorem Good.hdR {H₀ : Hp} {ts : List Trp} {p : Trp → Prop} (h : Good E H₀ (hdR ts) p) : ∃ t us, ts = t :: us ∧ p t := by
  unfold DL.hdR at h
  split at h
  · exact ⟨_, _, rfl, h⟩
  · exact h.elim
noncomputable def appX (ix : Nat) (env : DE) (t : Trp) : D → R Out
  | .int _ => @ite _ (t.2.2.length < sizeLine) (Classical.propDecidable _) (.ok (.nx (env.set ix .no))) .bad
  | _ => .bad
theorem Good.appX {H₀ : Hp} {ix : Nat} {env : DE} {t : Trp} {d : D} {p : Out → Prop} (h : Good E H₀ (appX ix env t d) p) : ∃ v, d = .int v ∧ t.2.2.length < sizeLine ∧ p (.nx (env.set ix .no)) := by
  unfold DL.appX at h
  split at h
  · split at h
    · rename_i c
      exact ⟨_, rfl, c, h⟩
    · exact h.elim
  · exact h.elim
theorem sAppX (ix : Nat) {x : Str} {ei ej e : Expr} {fi fj f : DE → R D} {p tp2 tp3 apos cpos : Pos} (hi : PE X ei (tB X.K E fi)) (hj : PE X ej (tB X.K E fj)) (he : PE X e (tB X.K E f)) (hN : X.N[ix]? = some x := by rfl) (hv : Vis X.env.scope x := by first | exact Or.inl rfl | exact Or.inr (Or.inl rfl) | exact Or.inr (Or.inr rfl)) (hd : (x == ("__debug__" : Str)) = false := by decide)
    (hcd : (x == ("__classdict__" : Str)) = false := by decide) (hpi : PlainIx ei := by exact fun _ _ => rfl) (hpj : PlainIx ej := by exact fun _ _ => rfl)
    (hbase : attributeBase (.Subscript (.Subscript (.Name x p) ei tp2) ej tp3) "append" X.env (eval (.Subscript (.Subscript (.Name x p) ei tp2) ej tp3) X.env) = eval (.Subscript (.Subscript (.Name x p) ei tp2) ej tp3) X.env := by rfl)
    (hfew : ((backTo cpos (starEach [e] X.env)).all (fun x => !x.1) && (backToKw cpos (keywordEach [] X.env)).all (fun x => x.1.isSome)
      && decide ([e].length + ([] : List Keyword).length + (if ([] : List Keyword).isEmpty then 0 else 1) < 30)) = true := by rfl)
    (hline : (apos.endLine == cpos.line) = true := by rfl) (hst : starEach [e] X.env = (false, eval e X.env) :: starEach [] X.env := by rfl) (hplain : (backTo cpos (starEach [] X.env)).any (·.1) = false := by rfl)
    (hs : swapsWith (.Call (.Attribute (.Subscript (.Subscript (.Name x p) ei tp2) ej tp3) "append" apos) [e] [] cpos) none pos.line X.env = pure false := by rfl) :
    PS X (.Expr (.Call (.Attribute (.Subscript (.Subscript (.Name x p) ei tp2) ej tp3) "append" apos) [e] [] cpos) pos) (tS X.K E fun env => (trAt ix env).bind fun ts => (fi env).bind fun a => (asNil a).bind fun _ => (hdR ts).bind fun t => (fj env).bind fun b => (asIx2 b).bind fun _ => (f env).bind fun d => appX ix env t d) :=
  impS (ps_expr (pe_bm PySem.F.plainAttrs_list PySem.F.slot_list_append PySem.F.type_list_append mt_append (pe_ix ix_tup (pe_ix ix_list (pe_var hN hv hd hcd) hi hpi) hj hpj) (pa_cons he pa_nil hst) hbase hfew hline hst hplain) hs) fun De σ H ⟨g, env, os, r, m⟩ => by
    obtain ⟨ts, e1, m2⟩ := m.bind.trs
    obtain ⟨a, as, q1, dp⟩ := r.at_tr e1
    obtain ⟨vs, v1, v2, v3⟩ := dp.at_
    refine ⟨.ref a, q1, g, env, os, r, m2.bind.mono fun da _ m3 w H2 s2 i2 => ?_⟩
    obtain ⟨rfl, m4⟩ := m3.bind.nil
    have iw : w = .int 0 := i2
    obtain ⟨t, us, rfl, m5⟩ := m4.bind.hdR
    cases vs with
    | nil => cases v2
    | cons v0 vs =>
      obtain ⟨b, c, rfl, hb, hc, h4, h5⟩ := v3 0 t v0 rfl rfl
      refine ⟨a, .ref b :: vs, 0, .ref b, rfl, iw, SqL.of (s2 _ _ v1), (by unfold L2.atI L2.ixN; simp), g, env, os, r.same s2, m5.bind.mono fun db _ m6 w' H3 s3 i3 => ?_⟩
      obtain ⟨rfl, m7⟩ := m6.bind.ix2
      have iw' : w' = .int 2 := i3
      have s23 := s2.trans s3
      refine ⟨b, [.int t.1, .int t.2.1, .ref c], 2, .ref c, rfl, iw', SqT.of (s23 _ _ h4), rfl, .inl ⟨rfl, _, SqL.of (s23 _ _ h5)⟩, g, env, os, r.same s23, m7.bind.mono fun d _ m8 v H4 s4 i4 => ?_⟩
      obtain ⟨u, rfl, hl, m9⟩ := m8.appX
      have iu : v = .int u := i4
      subst iu
      have s24 := s23.trans s4
      have r4 := r.same s24
      obtain ⟨hbos, r5⟩ := r4.dropC (b := c) (o := .lst (t.2.2.map V.int ++ [.int u])) e1 q1 (fun as' dp' => by
        have d' : DpR H4 os a as' (t :: us) := dp'
        obtain ⟨vs', u1, u2, u3⟩ := d'.at_
        rw [s24 _ _ v1] at u1
        have evs : V.ref b :: vs = vs' := by injection u1 with u1; injection u1 with u1
        subst evs
        obtain ⟨b', c', z1, z2, z3, z4, z5⟩ := u3 0 t (.ref b) rfl rfl
        have zb : b = b' := by injection z1
        subst zb
        rw [s24 _ _ h4] at z4
        have zc : c = c' := by
          injection z4 with z4
          injection z4 with z4
          injection z4 with _ z4
          injection z4 with _ z4
          injection z4 with z4 _
          injection z4 with z4
        subst zc
        exact List.mem_cons_of_mem _ z3)
      refine ⟨c, t.2.2.map V.int, .int u, rfl, rfl, s24 _ _ h5, by rw [List.length_map]; exact hl, ?_⟩
      exact (show PostO X.K g H os De (.nx _) from m9) σ _ os r5 ((Stp.same s24 os).trans (.mut hbos))
theorem lCompT {X : Cx} {E : Str → Hp → Prop} {pos : Pos} {scope : Scope} {N : List Str} {nt : Nat} {caps : List Nat} {elt tg iter : Expr} {ifs : List Expr} {fi : DE → R (List D)} {b : D → DE → R DE} {ct : DE → R Bool} {fe : DE → R (List D)} (S : CpScope X scope N nt caps) (hcalm : X.calm = true) (hi : PI X tg iter (tIS X.K E fi))
    (hb1 : ∀ ds d e, b d (cpE nt ds) = .ok e → ∃ ts, e = ts ++ ds.map .val ∧ ts.length = nt)
    (hg : ∀ s H fp C pl, PG (cpCx X scope N s H fp C pl) tg (tG X.K EN b)) (ht : ∀ s H fp C pl, PTs (cpCx X scope N s H fp C pl) ifs (tT X.K EN ct)) (he : ∀ s H fp C pl, PE (cpCx X scope N s H fp C pl) elt (tF X.K EN fe))
    (hs : ∀ x, foldedSetIterable iter X.env x = pure x := by intro _; rfl) :
    PE X (.ListComp elt [⟨tg, iter, ifs, 0⟩] scope pos) (tDp X.K E fun env => (fi env).bind fun xs => (capt env caps).bind fun ds => (compT b ct fe (cpE nt ds) xs).ne.bind fit) := by
  intro pins s σ H Q I h
  obtain ⟨g, env, os, r, m⟩ := h
  rw [eval_ListComp]
  refine compRunT S hcalm hi hb1 hg ht he hs I r (m.mono fun ys _ q Dd C as Hx s6 I6 hn fC sm nd => ?_)
  obtain ⟨m6, hn6⟩ := hn
  exact ⟨m6, hn6, fun h7 hs7 => ⟨.ref Dd, Hx, turnL (fp := [C]) (t' := s6.toks) I6 (fun b hb => by
    have z : b = C := by simpa using hb
    rw [z]; exact fC) (fun b u hb e => (hs7.2 b (fun z => hb (by simp [z]))).trans e), rfl, q Dd as Hx sm nd⟩⟩
theorem sRetTE {e : Expr} {f : DE → R (List (List Int))} (he : PE X e (tDp X.K E f)) : PS X (.Return (some e) pos) (tS X.K E fun env => (f env).bind fun nss => .ok (.rtT nss)) :=
  impS (ps_ret he) fun De σ H ⟨g, env, os, r, m⟩ => ⟨g, env, os, r, m.bind.mono fun nss _ q a as H' s nd => (show PostO X.K g H os De (.rtT nss) from q) a as H' (r.ext.trans s) (nd.back r.ext)⟩
end
end DL

namespace DL
open PySem PySem.Spec PyProof.Rows L2
noncomputable def b__law_mix (env : DE) : R Out :=
  (R.bind (R.bind (R.bind (R.bind (R.bind (R.bind (R.bind (R.bind (slB 0 env) fun v14 => R.bind (R.ok (D.int 1000003)) fun v15 => R.of (kMod v14 v15)) fun v12 => R.bind (R.ok (D.int 7)) fun v13 => R.of (kMul v12 v13)) fun v10 => R.bind (R.bind (slB 1 env) fun v16 => R.bind (slB 1 env) fun v17 => R.of (kMul v16 v17)) fun v11 => R.of (kAddI v10 v11)) fun v8 => R.bind (R.ok (D.int 1)) fun v9 => R.of (kAddI v8 v9)) fun v6 => R.bind (slB 2 env) fun v7 => R.of (kMul v6 v7)) fun v4 => R.bind (R.ok (D.int 2147483647)) fun v5 => R.of (kMod v4 v5)) fun v2 => R.bind (R.ok (D.int 16)) fun v3 => R.of (kDiv v2 v3)) fun v1 => R.ok (Out.rt v1))
noncomputable def m__law_mix := mS 3 3 b__law_mix
noncomputable def b__law_strings (env : DE) : R Out :=
  (seqO (R.bind (R.bind (R.bind (slB 1 env) fun v4 => R.bind (R.ok (D.int 1)) fun v5 => R.bind (R.of (kEq v4 v5)) asB) fun v3 => if v3 = true then (R.bind (R.bind (slB 0 env) fun v8 => R.bind (R.ok (D.int 13)) fun v9 => R.of (kMod v8 v9)) fun v6 => R.bind (R.ok (D.int 5)) fun v7 => R.bind (R.of (kEq v6 v7)) asB) else R.ok false) fun v2 => if v2 = true then (R.bind (R.ok (D.int 1)) fun v10 => R.ok (Out.rt v10)) else (R.ok (Out.nx env))) fun v1 =>
  (seqO (R.bind (R.bind (R.bind (R.ok (D.int 2)) fun v14 => R.bind (R.bind (slB 1 v1) fun v16 => R.bind (R.ok []) fun v17 => R.ok (v16 :: v17)) fun v15 => R.ok (v14 :: v15)) fun v13 => R.of (kMax2 v13)) fun v12 => R.ok (Out.nx (List.set v1 1 (Sl.val v12)))) fun v11 =>
  (R.bind (R.bind (slB 1 v11) fun v19 => R.bind (R.bind (R.bind (slB 0 v11) fun v23 => R.bind (R.ok (D.int 13)) fun v24 => R.of (kDiv v23 v24)) fun v21 => R.bind (R.bind (R.bind (slB 2 v11) fun v27 => R.bind (slB 1 v11) fun v28 => R.of (kSub v27 v28)) fun v25 => R.bind (R.ok (D.int 1)) fun v26 => R.of (kAddI v25 v26)) fun v22 => R.of (kMod v21 v22)) fun v20 => R.of (kAddI v19 v20)) fun v18 => R.ok (Out.rt v18))))
noncomputable def m__law_strings := mS 3 3 b__law_strings
noncomputable def b__law_crossing (env : DE) : R Out :=
  (seqO (R.bind (R.bind (R.ok (D.int 1)) fun v3 => R.bind (R.bind (slB 0 env) fun v5 => R.bind (R.bind (slB 1 env) fun v7 => R.bind (R.ok (D.int 1)) fun v8 => R.of (kSub v7 v8)) fun v6 => R.of (kMod v5 v6)) fun v4 => R.of (kAddI v3 v4)) fun v2 => R.ok (Out.nx (List.set env 2 (Sl.val v2)))) fun v1 =>
  (seqO (R.bind (R.bind (R.bind (R.bind (slB 0 v1) fun v15 => R.bind (R.ok (D.int 8)) fun v16 => R.of (kDiv v15 v16)) fun v13 => R.bind (R.ok (D.int 2)) fun v14 => R.of (kMod v13 v14)) fun v11 => R.bind (R.ok (D.int 1)) fun v12 => R.bind (R.of (kEq v11 v12)) asB) fun v10 => if v10 = true then (R.bind (R.bind (slB 2 v1) fun v18 => R.of (kNeg v18)) fun v17 => R.ok (Out.rt v17)) else (R.ok (Out.nx v1))) fun v9 =>
  (R.bind (slV 2 v9) fun v19 => R.ok (Out.rt v19))))
noncomputable def m__law_crossing := mS 2 3 b__law_crossing
noncomputable def b__law_list_is_t1 (env : DE) : R Bool :=
  R.ok true
noncomputable def b__law_list_is_c2 (env : DE) : R D :=
  (R.bind (R.bind (slB 0 env) fun v22 => isi "int" v22) fun v21 => R.bind (asB v21) fun t => if t = true then (R.bind (R.bind (R.bind (slB 0 env) fun v25 => isi "bool" v25) fun v24 => R.bind (asB v24) fun t => R.ok (D.bl (!t))) fun v23 => R.bind (asB v23) fun t => if t = true then (R.bind (slB 0 env) fun v26 => R.bind (slB 1 env) fun v27 => R.of (kEq v26 v27)) else R.ok (D.bl false)) else R.ok (D.bl false))
noncomputable def b__law_list_is (env : DE) : R Out :=
  (seqO (R.bind (R.bind (R.bind (R.bind (R.bind (slB 0 env) fun v5 => isi "list" v5) asB) fun v4 => R.ok (!v4)) fun v3 => if v3 = true then R.ok true else (R.bind (R.bind (R.bind (slB 0 env) fun v9 => R.bind (R.ok []) fun v10 => R.ok (v9 :: v10)) fun v8 => R.of (kLen v8)) fun v6 => R.bind (R.bind (R.bind (slB 1 env) fun v12 => R.bind (R.ok []) fun v13 => R.ok (v12 :: v13)) fun v11 => R.of (kLen v11)) fun v7 => R.bind (R.of (kNe v6 v7)) asB)) fun v2 => if v2 = true then (R.bind (R.ok (D.bl false)) fun v14 => R.ok (Out.rt v14)) else (R.ok (Out.nx env))) fun v1 =>
  (R.bind (R.bind (R.bind (R.bind (R.bind (slV 0 v1) fun v28 => R.bind (R.bind (slV 1 v1) fun v30 => R.bind (R.ok []) fun v31 => R.ok (v30 :: v31)) fun v29 => R.ok (v28 :: v29)) zip2) fun v17 => R.bind (capt v1 []) fun v18 => R.bind (R.ne (compD (bT 2 (bCons (bN 0) (bCons (bN 1) bNil))) b__law_list_is_t1 b__law_list_is_c2 (cpE 2 v18) v17)) fit) fun v16 => R.of (kAll v16)) fun v15 => R.ok (Out.rt v15)))
noncomputable def m__law_list_is := mS 2 2 b__law_list_is
noncomputable def b__law_piece (env : DE) : R Out :=
  (seqO (R.bind (R.bind (R.bind (slB 0 env) fun v3 => R.bind (R.bind (slB 1 env) fun v5 => R.bind (R.ok []) fun v6 => R.ok (v5 :: v6)) fun v4 => R.ok (v3 :: v4)) m__law_crossing) fun v2 => R.ok (Out.nx (List.set env 2 (Sl.val v2)))) fun v1 =>
  (seqO (R.bind (R.bind (R.bind (R.bind (R.bind (slB 0 v1) fun v14 => R.bind (R.ok (D.int 16)) fun v15 => R.of (kDiv v14 v15)) fun v12 => R.bind (R.ok (D.int 4)) fun v13 => R.of (kMod v12 v13)) fun v10 => R.bind (R.ok (D.int 0)) fun v11 => R.bind (R.of (kGt v10 v11)) asB) fun v9 => if v9 = true then R.ok true else (R.bind (slB 1 v1) fun v16 => R.bind (R.ok (D.int 3)) fun v17 => R.bind (R.of (kLt v16 v17)) asB)) fun v8 => if v8 = true then (R.bind (R.bind (R.bind (R.bind (slV 2 v1) fun v20 => R.bind (R.ok []) fun v21 => R.ok (v20 :: v21)) fit) fun v19 => R.ok (D.lst v19)) fun v18 => R.ok (Out.rt v18)) else (R.ok (Out.nx v1))) fun v7 =>
  (seqO (R.bind (R.bind (R.bind (R.bind (R.bind (R.bind (R.bind (slB 2 v7) fun v31 => R.bind (R.ok (D.int 1)) fun v32 => R.of (kAddI v31 v32)) fun v29 => R.bind (R.ok []) fun v30 => R.ok (v29 :: v30)) fun v28 => R.of (kAbs v28)) fun v26 => R.bind (slB 1 v7) fun v27 => R.bind (R.of (kLt v26 v27)) asB) fun v25 => if v25 = true then (R.bind (R.bind (slB 2 v7) fun v35 => R.bind (R.ok (D.int 1)) fun v36 => R.of (kAddI v35 v36)) fun v33 => R.bind (R.ok (D.int 0)) fun v34 => R.bind (R.of (kNe v33 v34)) asB) else R.ok false) fun v24 => if v24 = true then (R.bind (slB 2 v7) fun v37 => R.bind (R.ok (D.int 1)) fun v38 => R.of (kAddI v37 v38)) else (R.bind (slB 2 v7) fun v39 => R.bind (R.ok (D.int 1)) fun v40 => R.of (kSub v39 v40))) fun v23 => R.ok (Out.nx (List.set v7 3 (Sl.val v23)))) fun v22 =>
  (R.bind (R.bind (R.bind (R.bind (R.bind (R.bind (R.bind (slV 2 v22) fun v47 => R.bind (R.bind (slV 3 v22) fun v49 => R.bind (R.bind (slV 2 v22) fun v51 => R.bind (R.ok []) fun v52 => R.ok (v51 :: v52)) fun v50 => R.ok (v49 :: v50)) fun v48 => R.ok (v47 :: v48)) fit) fun v46 => R.ok (D.lst v46)) fun v44 => R.bind (R.bind (R.bind (R.bind (R.bind (slV 2 v22) fun v56 => R.bind (R.bind (slV 3 v22) fun v58 => R.bind (R.ok []) fun v59 => R.ok (v58 :: v59)) fun v57 => R.ok (v56 :: v57)) fit) fun v55 => R.ok (D.lst v55)) fun v53 => R.bind (R.bind (R.bind (R.bind (R.bind (slV 2 v22) fun v63 => R.bind (R.bind (slV 2 v22) fun v65 => R.bind (R.ok []) fun v66 => R.ok (v65 :: v66)) fun v64 => R.ok (v63 :: v64)) fit) fun v62 => R.ok (D.lst v62)) fun v60 => R.bind (R.bind (R.bind (R.bind (R.bind (slV 2 v22) fun v70 => R.bind (R.bind (R.bind (slB 3 v22) fun v74 => R.of (kNeg v74)) fun v72 => R.bind (R.bind (slV 2 v22) fun v75 => R.bind (R.ok []) fun v76 => R.ok (v75 :: v76)) fun v73 => R.ok (v72 :: v73)) fun v71 => R.ok (v70 :: v71)) fit) fun v69 => R.ok (D.lst v69)) fun v67 => R.bind (R.ok []) fun v68 => R.ok (v67 :: v68)) fun v61 => R.ok (v60 :: v61)) fun v54 => R.ok (v53 :: v54)) fun v45 => R.ok (v44 :: v45)) fit) fun v42 => R.bind (R.bind (R.bind (slB 0 v22) fun v79 => R.bind (R.ok (D.int 64)) fun v80 => R.of (kDiv v79 v80)) fun v77 => R.bind (R.ok (D.int 4)) fun v78 => R.of (kMod v77 v78)) fun v43 => ixL v42 v43) fun v41 => R.ok (Out.rt v41)))))
noncomputable def m__law_piece := mD 2 4 b__law_piece
noncomputable def b__law_drawn_l1 (d : D) (env : DE) : R Out :=
  R.bind ((bT 2 (bCons (bN 4) (bCons (bN 5) bNil))) d env) fun v8 =>
    (R.bind (R.bind (slB 1 v8) fun v10 => R.bind (R.ok (D.int 1)) fun v11 => R.bind (R.of (kGt v10 v11)) asB) fun v9 => if v9 = true then (R.bind (R.bind (R.bind (slL 3 v8) fun v14 => R.bind (R.bind (R.bind (R.bind (R.bind (R.bind (slB 5 v8) fun v18 => R.bind (R.bind (slB 4 v8) fun v20 => R.bind (R.bind (R.ok (D.int 48271)) fun v22 => R.bind (R.ok []) fun v23 => R.ok (v22 :: v23)) fun v21 => R.ok (v20 :: v21)) fun v19 => R.ok (v18 :: v19)) m__law_mix) fun v16 => R.bind (R.bind (slV 1 v8) fun v24 => R.bind (R.ok []) fun v25 => R.ok (v24 :: v25)) fun v17 => R.ok (v16 :: v17)) m__law_piece) asL) fun v15 => fit (v14 ++ v15)) fun v13 => R.ok (D.lst v13)) fun v12 => R.ok (Out.nx (List.set v8 3 (Sl.val v12)))) else (R.ok (Out.nx v8)))
noncomputable def b__law_drawn (env : DE) : R Out :=
  (seqO (R.bind (R.bind (R.bind (R.ok []) fit) fun v3 => R.ok (D.lst v3)) fun v2 => R.ok (Out.nx (List.set env 3 (Sl.val v2)))) fun v1 =>
  (seqO (R.bind (R.bind (slV 0 v1) fun v26 => R.bind (asL v26) fun xs => R.ok (enumL xs)) fun v5 => forD b__law_drawn_l1 v5 v1) fun v4 =>
  (R.bind (R.bind (slL 3 v4) fun v28 => R.bind (R.ok none) fun v29 => R.bind (R.bind (slB 2 v4) asI) fun v30 => R.ok (cut v28 v29 v30)) fun v27 => R.ok (Out.rtF v27))))
noncomputable def m__law_drawn := mFS 3 6 b__law_drawn
end DL

namespace DL
open PySem PySem.Spec PyProof.Rows L2
def mixF (c k f : Int) : Int := (c % 1000003 * 7 + k * k + 1) * f % 2147483647 / 16
theorem mix_ok (c k f : Int) (hk : 0 ≤ k ∧ k < 1000000) (hf : 0 ≤ f ∧ f < 2147483647) : m__law_mix [.int c, .int k, .int f] = .ok (.int (mixF c k f)) := by
  have h1 := Int.emod_nonneg c (show (1000003 : Int) ≠ 0 by decide)
  have h2 := Int.emod_lt_of_pos c (show (0 : Int) < 1000003 by decide)
  unfold m__law_mix b__law_mix
  simp -implicitDefEqProofs only [mS, mD, mF, mFS, initE, Nat.reduceAdd, Nat.reduceSub, Nat.reduceEqDiff, reduceIte, valO, lstO, q1, q2, q3, q4]
  rw [kMod_i c 1000003 (by decide)]
  simp -implicitDefEqProofs only [R.of_some, R.ok_bind]
  rw [kMul_i _ 7 (.inr (by decide))]
  simp -implicitDefEqProofs only [R.of_some, R.ok_bind]
  rw [kMul_i k k (.inl (by omega))]
  simp -implicitDefEqProofs only [R.of_some, R.ok_bind, kAddI_i]
  rw [kMul_i _ f (.inr (by omega))]
  simp -implicitDefEqProofs only [R.of_some, R.ok_bind]
  rw [kMod_i _ 2147483647 (by decide)]
  simp -implicitDefEqProofs only [R.of_some, R.ok_bind]
  rw [kDiv_i _ 16 (by decide)]
  rfl
def stringsF (s : Int) : Int := if s % 13 = 5 then 1 else 2 + s / 13 % 6
theorem strings_ok (s : Int) : m__law_strings [.int s, .int 1, .int 7] = .ok (.int (stringsF s)) := by
  unfold m__law_strings b__law_strings stringsF
  simp -implicitDefEqProofs only [mS, mD, mF, mFS, initE, Nat.reduceAdd, Nat.reduceSub, Nat.reduceEqDiff, reduceIte, valO, lstO, q1, q2, q3, q4]
  rw [kMod_i s 13 (by decide)]
  simp -implicitDefEqProofs only [mS, mD, mF, mFS, initE, Nat.reduceAdd, Nat.reduceSub, Nat.reduceEqDiff, reduceIte, valO, lstO, q1, q2, q3, q4, beq_self_eq_true]
  by_cases h : s % 13 = 5
  · simp -implicitDefEqProofs only [h, beq_self_eq_true, mS, mD, mF, mFS, initE, Nat.reduceAdd, Nat.reduceSub, Nat.reduceEqDiff, reduceIte, valO, lstO, q1, q2, q3, q4]
  · have h' : (s % 13 == 5) = false := beq_false_of_ne h
    simp -implicitDefEqProofs only [h', h, mS, mD, mF, mFS, initE, Nat.reduceAdd, Nat.reduceSub, Nat.reduceEqDiff, reduceIte, valO, lstO, q1, q2, q3, q4]
    rw [kDiv_i s 13 (by decide)]
    simp -implicitDefEqProofs only [mS, mD, mF, mFS, initE, Nat.reduceAdd, Nat.reduceSub, Nat.reduceEqDiff, reduceIte, valO, lstO, q1, q2, q3, q4]
    rw [kMod_i _ _ (by decide)]
    rfl
theorem strings_rng (s : Int) : 1 ≤ stringsF s ∧ stringsF s ≤ 7 := by
  unfold stringsF
  split <;> omega
def crossF (x n : Int) : Int := if x / 8 % 2 = 1 then -(1 + x % (n - 1)) else 1 + x % (n - 1)
theorem cross_ok (x n : Int) (h : 2 ≤ n) : m__law_crossing [.int x, .int n] = .ok (.int (crossF x n)) := by
  unfold m__law_crossing b__law_crossing crossF
  simp -implicitDefEqProofs only [mS, mD, mF, mFS, initE, Nat.reduceAdd, Nat.reduceSub, Nat.reduceEqDiff, reduceIte, valO, lstO, q1, q2, q3, q4]
  rw [kMod_i x (n - 1) (by omega)]
  simp -implicitDefEqProofs only [mS, mD, mF, mFS, initE, Nat.reduceAdd, Nat.reduceSub, Nat.reduceEqDiff, reduceIte, valO, lstO, q1, q2, q3, q4]
  rw [kDiv_i x 8 (by decide)]
  simp -implicitDefEqProofs only [mS, mD, mF, mFS, initE, Nat.reduceAdd, Nat.reduceSub, Nat.reduceEqDiff, reduceIte, valO, lstO, q1, q2, q3, q4]
  rw [kMod_i _ 2 (by decide)]
  simp -implicitDefEqProofs only [mS, mD, mF, mFS, initE, Nat.reduceAdd, Nat.reduceSub, Nat.reduceEqDiff, reduceIte, valO, lstO, q1, q2, q3, q4]
  by_cases hc : x / 8 % 2 = 1
  · simp -implicitDefEqProofs only [hc, beq_self_eq_true, mS, mD, mF, mFS, initE, Nat.reduceAdd, Nat.reduceSub, Nat.reduceEqDiff, reduceIte, valO, lstO, q1, q2, q3, q4]
  · have hc' : (x / 8 % 2 == 1) = false := beq_false_of_ne hc
    simp -implicitDefEqProofs only [hc, hc', mS, mD, mF, mFS, initE, Nat.reduceAdd, Nat.reduceSub, Nat.reduceEqDiff, reduceIte, valO, lstO, q1, q2, q3, q4]
def IsX (n k : Int) : Prop := k ≠ 0 ∧ -n < k ∧ k < n
theorem cross_is (x n : Int) (h : 2 ≤ n) : IsX n (crossF x n) := by
  unfold crossF IsX
  have h1 := Int.emod_nonneg x (show n - 1 ≠ 0 by omega)
  have h2 := Int.emod_lt_of_pos x (show 0 < n - 1 by omega)
  split <;> omega
def otherF (k n : Int) : Int := if (if k + 1 < 0 then -(k + 1) else k + 1) < n ∧ k + 1 ≠ 0 then k + 1 else k - 1
def pieceF (x n : Int) : List Int :=
  if x / 16 % 4 > 0 ∨ n < 3 then [crossF x n] else
    let k := crossF x n
    let o := otherF k n
    if x / 64 % 4 = 0 then [k, o, k] else if x / 64 % 4 = 1 then [k, o] else if x / 64 % 4 = 2 then [k, k] else [k, -o, k]
theorem other_is {k n : Int} (h : 3 ≤ n) (hk : IsX n k) : IsX n (otherF k n) := by
  unfold otherF IsX at *
  split <;> split at * <;> omega
theorem piece_is {x n : Int} (h : 2 ≤ n) : ∀ k ∈ pieceF x n, IsX n k := by
  have h1 := cross_is x n h
  unfold pieceF
  split
  · simp [h1]
  · rename_i hc
    have h2 := other_is (n := n) (by omega) h1
    have h3 : IsX n (-otherF (crossF x n) n) := by unfold IsX at *; omega
    dsimp only
    split
    · simp [h1, h2]
    · split
      · simp [h1, h2]
      · split <;> simp [h1, h3]
theorem piece_len (x n : Int) : (pieceF x n).length ≤ 3 := by
  unfold pieceF
  split
  · simp
  · dsimp only
    split
    · simp
    · split
      · simp
      · split <;> simp
theorem piece_ok (x n : Int) (h : 2 ≤ n) : m__law_piece [.int x, .int n] = .ok (.lst (ofI (pieceF x n))) := by
  unfold m__law_piece b__law_piece pieceF
  simp -implicitDefEqProofs only [mS, mD, mF, mFS, initE, Nat.reduceAdd, Nat.reduceSub, Nat.reduceEqDiff, reduceIte, valO, lstO, q1, q2, q3, q4]
  rw [cross_ok x n h]
  simp -implicitDefEqProofs only [mS, mD, mF, mFS, initE, Nat.reduceAdd, Nat.reduceSub, Nat.reduceEqDiff, reduceIte, valO, lstO, q1, q2, q3, q4]
  rw [kDiv_i x 16 (by decide)]
  simp -implicitDefEqProofs only [mS, mD, mF, mFS, initE, Nat.reduceAdd, Nat.reduceSub, Nat.reduceEqDiff, reduceIte, valO, lstO, q1, q2, q3, q4]
  rw [kMod_i _ 4 (by decide)]
  simp -implicitDefEqProofs only [mS, mD, mF, mFS, initE, Nat.reduceAdd, Nat.reduceSub, Nat.reduceEqDiff, reduceIte, valO, lstO, q1, q2, q3, q4]
  by_cases h1 : 0 < x / 16 % 4
  · have h1' : x / 16 % 4 > 0 ∨ n < 3 := .inl h1
    rw [if_pos h1']
    simp -implicitDefEqProofs only [h1, decide_true, mS, mD, mF, mFS, initE, Nat.reduceAdd, Nat.reduceSub, Nat.reduceEqDiff, reduceIte, valO, lstO, q1, q2, q3, q4]
    rfl
  · by_cases h2 : n < 3
    · have h1' : x / 16 % 4 > 0 ∨ n < 3 := .inr h2
      rw [if_pos h1']
      simp -implicitDefEqProofs only [h1, h2, decide_true, decide_false, mS, mD, mF, mFS, initE, Nat.reduceAdd, Nat.reduceSub, Nat.reduceEqDiff, reduceIte, valO, lstO, q1, q2, q3, q4]
      rfl
    · have h1' : ¬ (x / 16 % 4 > 0 ∨ n < 3) := by omega
      rw [if_neg h1']
      simp -implicitDefEqProofs only [h1, h2, decide_false, mS, mD, mF, mFS, initE, Nat.reduceAdd, Nat.reduceSub, Nat.reduceEqDiff, reduceIte, valO, lstO, q1, q2, q3, q4]
      have ho : (R.bind (if decide ((if crossF x n + 1 < 0 then -(crossF x n + 1) else crossF x n + 1) < n) = true then R.ok (!(crossF x n + 1 == 0)) else R.ok false) fun t => if t = true then R.ok (D.int (crossF x n + 1)) else R.ok (D.int (crossF x n - 1))) = R.ok (D.int (otherF (crossF x n) n)) := by
        unfold otherF
        by_cases c1 : (if crossF x n + 1 < 0 then -(crossF x n + 1) else crossF x n + 1) < n
        · by_cases c2 : crossF x n + 1 = 0
          · simp [c1, c2, R.ok_bind]
          · simp [c1, c2, R.ok_bind]
        · simp [c1, R.ok_bind]
      rw [ho]
      simp -implicitDefEqProofs only [mS, mD, mF, mFS, initE, Nat.reduceAdd, Nat.reduceSub, Nat.reduceEqDiff, reduceIte, valO, lstO, q1, q2, q3, q4]
      rw [kDiv_i x 64 (by decide)]
      simp -implicitDefEqProofs only [mS, mD, mF, mFS, initE, Nat.reduceAdd, Nat.reduceSub, Nat.reduceEqDiff, reduceIte, valO, lstO, q1, q2, q3, q4]
      rw [kMod_i _ 4 (by decide)]
      simp -implicitDefEqProofs only [mS, mD, mF, mFS, initE, Nat.reduceAdd, Nat.reduceSub, Nat.reduceEqDiff, reduceIte, valO, lstO, q1, q2, q3, q4]
      have h5 := Int.emod_nonneg (x / 64) (show (4 : Int) ≠ 0 by decide)
      have h6 := Int.emod_lt_of_pos (x / 64) (show (0 : Int) < 4 by decide)
      have h7 : x / 64 % 4 = 0 ∨ x / 64 % 4 = 1 ∨ x / 64 % 4 = 2 ∨ x / 64 % 4 = 3 := by omega
      rcases h7 with q | q | q | q <;> simp [q, L2.atI, L2.ixN, R.of_some, R.ok_bind, R.ne_ok, valO, ofI]
end DL

namespace DL
open PySem PySem.Spec PyProof.Rows L2
def pcs (n : Int) (cells : List Int) (i : Nat) : List Int := ((List.range i).map fun k => match cells[k]? with
  | some c => pieceF (mixF c k 48271) n
  | none => []).flatten
theorem pcs_succ {n : Int} {cells : List Int} {i : Nat} {c : Int} (h : cells[i]? = some c) : pcs n cells (i + 1) = pcs n cells i ++ pieceF (mixF c i 48271) n := by
  unfold pcs
  rw [List.range_succ, List.map_append, List.flatten_append]
  simp [h]
theorem pcs_len (n : Int) (cells : List Int) : ∀ i : Nat, (pcs n cells i).length ≤ 3 * i
  | 0 => by simp [pcs]
  | i + 1 => by
    unfold pcs
    rw [List.range_succ, List.map_append, List.flatten_append, List.length_append]
    have ih := pcs_len n cells i
    unfold pcs at ih
    cases h : cells[i]? with
    | none => simp -implicitDefEqProofs only [h, List.map_cons, List.map_nil, List.flatten_cons, List.flatten_nil, List.length_append, List.length_nil]; omega
    | some c =>
      have := piece_len (mixF c i 48271) n
      simp -implicitDefEqProofs only [h, List.map_cons, List.map_nil, List.flatten_cons, List.flatten_nil, List.length_append, List.length_nil]; omega
theorem pcs_is {n : Int} (hn : 2 ≤ n) (cells : List Int) (i : Nat) : ∀ k ∈ pcs n cells i, IsX n k := by
  intro k hk
  unfold pcs at hk
  rw [List.mem_flatten] at hk
  obtain ⟨l, hl, hk⟩ := hk
  rw [List.mem_map] at hl
  obtain ⟨j, _, rfl⟩ := hl
  cases h : cells[j]? with
  | none => rw [h] at hk; cases hk
  | some c => rw [h] at hk; exact piece_is hn k hk
def drawnF (cells : List Int) (n most : Int) : List Int := (if 1 < n then pcs n cells cells.length else []).take most.toNat
theorem drawn_is {cells : List Int} {n most : Int} : ∀ k ∈ drawnF cells n most, IsX n k := by
  intro k hk
  unfold drawnF at hk
  have := List.mem_of_mem_take hk
  split at this
  · exact pcs_is (by omega) _ _ k this
  · cases this
theorem drawn_ok (cells : List Int) (n most : Int) (hc : cells.length ≤ 1000) (hn : 1 ≤ n) (hm : 0 ≤ most) : m__law_drawn [.lst (ofI cells), .int n, .int most] = .ok (ofI (drawnF cells n most)) := by
  unfold m__law_drawn b__law_drawn
  simp -implicitDefEqProofs only [mS, mD, mF, mFS, initE, Nat.reduceAdd, Nat.reduceSub, Nat.reduceEqDiff, reduceIte, valO, lstO, q1, q2, q3, q4]
  obtain ⟨s', e, hj⟩ := for_at (S := List Int × Sl × Sl) (b := b__law_drawn_l1)
    (fun i s => s.1 = if 1 < n then pcs n cells i else []) (fun s => [.val (.lst (ofI cells)), .val (.int n), .val (.int most), .val (.lst (ofI s.1)), s.2.1, s.2.2]) (enumL (ofI cells)) 0 ([], .no, .no) (by simp [pcs]) (by
      rintro j ⟨wd, s4, s5⟩ x hs hx
      obtain ⟨c, hcj, rfl⟩ := enumL_ofI hx
      have hj : j < cells.length := (List.getElem?_eq_some_iff.mp hcj).1
      rw [Nat.zero_add] at hs ⊢
      have hs' : wd = if 1 < n then pcs n cells j else [] := hs
      unfold b__law_drawn_l1
      simp -implicitDefEqProofs only [bT2, mS, mD, mF, mFS, initE, Nat.reduceAdd, Nat.reduceSub, Nat.reduceEqDiff, reduceIte, valO, lstO, q1, q2, q3, q4]
      by_cases h1 : 1 < n
      · rw [if_pos h1] at hs'
        subst hs'
        have hl := pcs_len n cells j
        have hl2 := piece_len (mixF c j 48271) n
        refine ⟨(pcs n cells (j + 1), .val (.int (j : Nat)), .val (.int c)), ?_, by simp [h1]⟩
        simp -implicitDefEqProofs only [h1, decide_true, mS, mD, mF, mFS, initE, Nat.reduceAdd, Nat.reduceSub, Nat.reduceEqDiff, reduceIte, valO, lstO, q1, q2, q3, q4]
        rw [mix_ok c j 48271 (by omega) (by decide)]
        simp -implicitDefEqProofs only [mS, mD, mF, mFS, initE, Nat.reduceAdd, Nat.reduceSub, Nat.reduceEqDiff, reduceIte, valO, lstO, q1, q2, q3, q4]
        rw [piece_ok _ n (by omega)]
        simp -implicitDefEqProofs only [mS, mD, mF, mFS, initE, Nat.reduceAdd, Nat.reduceSub, Nat.reduceEqDiff, reduceIte, valO, lstO, q1, q2, q3, q4, ofI_app]
        rw [fit_ofI (by rw [List.length_append]; omega)]
        simp -implicitDefEqProofs only [mS, mD, mF, mFS, initE, Nat.reduceAdd, Nat.reduceSub, Nat.reduceEqDiff, reduceIte, valO, lstO, q1, q2, q3, q4, pcs_succ hcj]
      · rw [if_neg h1] at hs'
        subst hs'
        exact ⟨([], .val (.int (j : Nat)), .val (.int c)), by simp -implicitDefEqProofs only [h1, decide_false, mS, mD, mF, mFS, initE, Nat.reduceAdd, Nat.reduceSub, Nat.reduceEqDiff, reduceIte, valO, lstO, q1, q2, q3, q4], by simp [h1]⟩)
  obtain ⟨wd, s4, s5⟩ := s'
  have hj' : wd = if 1 < n then pcs n cells (0 + (enumL (ofI cells)).length) else [] := hj
  have he : (enumL (ofI cells)).length = cells.length := by rw [enumL_len, ofI_len]
  rw [Nat.zero_add, he] at hj'
  rw [show ofI [] = [] from rfl] at e
  rw [e]
  simp -implicitDefEqProofs only [mS, mD, mF, mFS, initE, Nat.reduceAdd, Nat.reduceSub, Nat.reduceEqDiff, reduceIte, valO, lstO, q1, q2, q3, q4, cut_ofI]
  rw [cut_to _ _ hm, scL_i]
  simp -implicitDefEqProofs only [mS, mD, mF, mFS, initE, Nat.reduceAdd, Nat.reduceSub, Nat.reduceEqDiff, reduceIte, valO, lstO, q1, q2, q3, q4, hj']
  rfl
theorem zipL_ofI (a b : List Int) : zipL (ofI a) (ofI b) = (a.zip b).map fun p => .tup [.int p.1, .int p.2] := by
  unfold zipL ofI
  rw [List.zip_map, List.map_map]
  rfl
theorem zip_all : ∀ (a b : List Int), a.length = b.length → ((a.zip b).map fun p => p.1 == p.2).all id = decide (a = b)
  | [], [], _ => rfl
  | [], _ :: _, h => by simp at h
  | _ :: _, [], h => by simp at h
  | x :: a, y :: b, h => by
    rw [List.zip_cons_cons, List.map_cons, List.all_cons, zip_all a b (by simpa using h), Bool.eq_iff_iff]
    simp
theorem sub_ll {xs : List D} : subT (tyN (.lst xs)) "list" = true := rfl
theorem list_is_ok (a b : List Int) (hb : b.length ≤ 1000000) : m__law_list_is [.lst (ofI a), .lst (ofI b)] = .ok (.bl (decide (a = b))) := by
  unfold m__law_list_is b__law_list_is
  simp -implicitDefEqProofs only [mS, mD, mF, mFS, initE, Nat.reduceAdd, Nat.reduceSub, Nat.reduceEqDiff, reduceIte, valO, lstO, q1, q2, q3, q4, sub_ll, Bool.not_true, ofI_len]
  by_cases h : (a.length : Int) = b.length
  · have h' : (((a.length : Nat) : Int) == (b.length : Nat)) = true := by rw [beq_iff_eq]; exact h
    simp -implicitDefEqProofs only [h', Bool.not_true, mS, mD, mF, mFS, initE, Nat.reduceAdd, Nat.reduceSub, Nat.reduceEqDiff, reduceIte, valO, lstO, q1, q2, q3, q4, zip2_l, capt, zipL_ofI]
    have hl : a.length = b.length := by omega
    have hc : compD (bT 2 (bCons (bN 0) (bCons (bN 1) bNil))) b__law_list_is_t1 b__law_list_is_c2 (cpE 2 []) ((a.zip b).map fun p => .tup [.int p.1, .int p.2]) = .ok (((a.zip b).map fun p => D.tup [.int p.1, .int p.2]).map fun d => match d with
        | .tup [.int x, .int y] => .bl (x == y)
        | _ => .non) := by
      refine compD_map _ _ fun x hx => ?_
      obtain ⟨p, _, rfl⟩ := List.mem_map.mp hx
      refine ⟨_, bT2 _ _ _ _ _, rfl, ?_⟩
      unfold b__law_list_is_c2 cpE
      simp -implicitDefEqProofs only [mS, mD, mF, mFS, initE, Nat.reduceAdd, Nat.reduceSub, Nat.reduceEqDiff, reduceIte, valO, lstO, q1, q2, q3, q4, tyN]
      rfl
    rw [hc, List.map_map]
    have e2 : ((fun d => match d with
        | D.tup [.int x, .int y] => D.bl (x == y)
        | _ => .non) ∘ fun p : Int × Int => D.tup [.int p.1, .int p.2]) = fun p : Int × Int => D.bl (p.1 == p.2) := rfl
    rw [e2, R.ne_ok, R.ok_bind, fit_ok (by rw [List.length_map, List.length_zip]; exact big (by omega))]
    have e3 : ((a.zip b).map fun p : Int × Int => D.bl (p.1 == p.2)) = (((a.zip b).map fun p => p.1 == p.2)).map D.bl := by rw [List.map_map]; rfl
    simp -implicitDefEqProofs only [mS, mD, mF, mFS, initE, Nat.reduceAdd, Nat.reduceSub, Nat.reduceEqDiff, reduceIte, valO, lstO, q1, q2, q3, q4]
    rw [e3, kAll_b, zip_all a b hl]
    rfl
  · have h' : (((a.length : Nat) : Int) == (b.length : Nat)) = false := beq_false_of_ne h
    have hn : a ≠ b := fun e => h (by rw [e])
    simp -implicitDefEqProofs only [h', Bool.not_false, mS, mD, mF, mFS, initE, Nat.reduceAdd, Nat.reduceSub, Nat.reduceEqDiff, reduceIte, valO, lstO, q1, q2, q3, q4, hn, decide_false]
theorem get_ofI {w : List Int} {j : Nat} {x : D} (h : (ofI w)[j]? = some x) : ∃ k, w[j]? = some k ∧ x = .int k := by
  rw [ofI_get] at h
  cases q : w[j]? with
  | none => rw [q] at h; cases h
  | some k => rw [q] at h; cases h; exact ⟨k, rfl, rfl⟩
theorem head0 (ns : List Int) : ∃ c, (ns ++ [0])[0]? = some c := by cases ns <;> simp
theorem sp_of {K : PySem.W.Frag} {H : Hp} {a : Addr} {m : List D → R D} {ns : List Int} (h : m [.lst (ofI ns)] = .ok (.bl true)) (hS : SqL K H a (ns.map V.int)) : spD K xc0 m [.ref a] H (fun v _ => v = .bl true) fun _ _ _ => False := by
  refine ⟨Tr, [.lst (ofI ns)], IsL.one ⟨a, _, rfl, LsAt.any hS, ?_⟩, ?_⟩
  · clear h hS
    induction ns with
    | nil => rfl
    | cons x r ih => exact ⟨_, _, rfl, rfl, ih⟩
  · rw [h]
    intro v H' _ i
    exact i
end DL

namespace DL
open PySem PySem.Spec PyProof.Rows L2
noncomputable def b_order_of_l1 (d : D) (env : DE) : R Out :=
  R.bind ((bN 3) d env) fun v9 =>
    (seqO (R.bind (R.bind (R.bind (slB 3 v9) fun v13 => R.bind (R.ok []) fun v14 => R.ok (v13 :: v14)) fun v12 => R.of (kAbs v12)) fun v11 => R.ok (Out.nx (List.set v9 4 (Sl.val v11)))) fun v10 =>
  (seqO (R.bind (R.bind (slL 2 v10) fun v17 => R.bind (slB 4 v10) fun v18 => ixL v17 v18) fun v16 => R.ok (Out.nx (List.set v10 5 (Sl.val v16)))) fun v15 =>
  (seqO (R.bind (R.bind (slL 2 v15) fun v23 => R.bind (R.bind (slB 4 v15) fun v25 => R.bind (R.ok (D.int 1)) fun v26 => R.of (kSub v25 v26)) fun v24 => ixL v23 v24) fun v20 => R.bind (ownAt 2 v15) fun v21 => R.bind (slB 4 v15) fun v22 => setO 2 v15 v20 v21 v22) fun v19 =>
  (R.bind (slV 5 v19) fun v27 => R.bind (ownAt 2 v19) fun v28 => R.bind (R.bind (slB 4 v19) fun v30 => R.bind (R.ok (D.int 1)) fun v31 => R.of (kSub v30 v31)) fun v29 => setO 2 v19 v27 v28 v29))))
noncomputable def b_order_of (env : DE) : R Out :=
  (seqO (R.bind (R.bind (R.bind (slB 0 env) fun v3 => R.bind (R.ok []) fun v4 => R.ok (v3 :: v4)) rngList) fun v2 => R.ok (Out.nx (List.set env 2 (Sl.own v2)))) fun v1 =>
  (seqO (R.bind (R.bind (slV 1 v1) asL) fun v6 => forD b_order_of_l1 v6 v1) fun v5 =>
  (R.bind (ownAt 2 v5) fun v32 => R.ok (Out.rtF v32))))
noncomputable def m_order_of := mFS 2 6 b_order_of
noncomputable def b_table_t1 (env : DE) : R Bool :=
  R.ok true
noncomputable def b_table_c2 (env : DE) : R (List D) :=
  (R.bind (R.bind (R.bind (R.ok (D.int 0)) fun v9 => R.bind (R.ok []) fun v10 => R.ok (v9 :: v10)) fit) fun v7 => R.bind (slB 1 env) fun v8 => repL v7 v8)
noncomputable def b_table_l3 (d : D) (env : DE) : R Out :=
  R.bind ((bN 4) d env) fun v21 =>
    (seqO (R.bind (R.bind (R.bind (slB 4 v21) fun v25 => R.bind (R.ok []) fun v26 => R.ok (v25 :: v26)) fun v24 => R.of (kAbs v24)) fun v23 => R.ok (Out.nx (List.set v21 5 (Sl.val v23)))) fun v22 =>
  (seqO (R.bind (R.bind (slL 3 v22) fun v29 => R.bind (R.bind (slB 5 v22) fun v31 => R.bind (R.ok (D.int 1)) fun v32 => R.of (kSub v31 v32)) fun v30 => ixL v29 v30) fun v28 => R.ok (Out.nx (List.set v22 6 (Sl.val v28)))) fun v27 =>
  (seqO (R.bind (R.bind (slL 3 v27) fun v35 => R.bind (slB 5 v27) fun v36 => ixL v35 v36) fun v34 => R.ok (Out.nx (List.set v27 7 (Sl.val v34)))) fun v33 =>
  (seqO (R.bind (R.bind (slB 4 v33) fun v39 => R.bind (R.ok (D.int 0)) fun v40 => R.bind (R.of (kGt v39 v40)) asB) fun v38 => if v38 = true then (R.bind (deepAt 2 v33) fun v41 => R.bind (slB 6 v33) fun v42 => R.bind (sub1 v41 v42) fun v43 => R.bind (slB 7 v33) fun v44 => R.bind (sub2 v43.2 v44) fun v45 => R.bind (R.ok (D.int 1)) fun v46 => augP 2 v33 v41 v43 v45 (fun i j => i + j) v46) else (R.bind (deepAt 2 v33) fun v47 => R.bind (slB 7 v33) fun v48 => R.bind (sub1 v47 v48) fun v49 => R.bind (slB 6 v33) fun v50 => R.bind (sub2 v49.2 v50) fun v51 => R.bind (R.ok (D.int 1)) fun v52 => augP 2 v33 v47 v49 v51 (fun i j => i - j) v52)) fun v37 =>
  (seqO (R.bind (slV 7 v37) fun v54 => R.bind (ownAt 3 v37) fun v55 => R.bind (R.bind (slB 5 v37) fun v57 => R.bind (R.ok (D.int 1)) fun v58 => R.of (kSub v57 v58)) fun v56 => setO 3 v37 v54 v55 v56) fun v53 =>
  (R.bind (slV 6 v53) fun v59 => R.bind (ownAt 3 v53) fun v60 => R.bind (slB 5 v53) fun v61 => setO 3 v53 v59 v60 v61))))))
noncomputable def b_table (env : DE) : R Out :=
  (seqO (R.bind (R.bind (R.bind (R.bind (slB 0 env) fun v11 => R.bind (R.ok []) fun v12 => R.ok (v11 :: v12)) rng1) fun v3 => R.bind (capt env [0]) fun v4 => R.bind (R.ne (compT (bN 0) b_table_t1 b_table_c2 (cpE 1 v4) v3)) fit) fun v2 => R.ok (Out.nx (List.set env 2 (Sl.deep (Ct.ls v2))))) fun v1 =>
  (seqO (R.bind (R.bind (R.bind (slB 0 v1) fun v15 => R.bind (R.ok []) fun v16 => R.ok (v15 :: v16)) rngList) fun v14 => R.ok (Out.nx (List.set v1 3 (Sl.own v14)))) fun v13 =>
  (seqO (R.bind (R.bind (slV 1 v13) asL) fun v18 => forD b_table_l3 v18 v13) fun v17 =>
  (R.bind (deepAt 2 v17) fun v62 => R.ok (Out.rtT v62)))))
noncomputable def m_table := mT 2 8 b_table
noncomputable def b_ring_from_w1 (env : DE) : R Bool :=
  (R.bind (slB 3 env) fun v12 => R.bind (slB 1 env) fun v13 => R.bind (R.of (kNe v12 v13)) asB)
noncomputable def b_ring_from_l2 (env : DE) : R Out :=
  (seqO (R.bind (ownAt 2 env) fun v15 => R.bind (slV 3 env) fun v16 => appO 2 env v15 v16) fun v14 =>
  (R.bind (R.bind (slL 0 v14) fun v18 => R.bind (slB 3 v14) fun v19 => indexD v18 v19) fun v17 => R.ok (Out.nx (List.set v14 3 (Sl.val v17)))))
noncomputable def b_ring_from (env : DE) : R Out :=
  (seqO (R.bind (R.bind (R.bind (slV 1 env) fun v3 => R.bind (R.ok []) fun v4 => R.ok (v3 :: v4)) fit) fun v2 => R.ok (Out.nx (List.set env 2 (Sl.own v2)))) fun v1 =>
  (seqO (R.bind (R.bind (slL 0 v1) fun v7 => R.bind (slB 1 v1) fun v8 => indexD v7 v8) fun v6 => R.ok (Out.nx (List.set v1 3 (Sl.val v6)))) fun v5 =>
  (seqO (whileD b_ring_from_w1 b_ring_from_l2 ((fun _ => 8) v5) v5) fun v9 =>
  (R.bind (ownAt 2 v9) fun v20 => R.ok (Out.rtF v20)))))
noncomputable def m_ring_from := mFS 2 4 b_ring_from
noncomputable def b_sum_between_t1 (env : DE) : R Bool :=
  R.ok true
noncomputable def b_sum_between_c2 (env : DE) : R D :=
  (R.bind (R.bind (R.bind (slL 1 env) fun v17 => R.bind (slB 2 env) fun v18 => ixL v17 v18) asL) fun v15 => R.bind (slB 0 env) fun v16 => ixL v15 v16)
noncomputable def b_sum_between_l3 (d : D) (env : DE) : R Out :=
  R.bind ((bN 4) d env) fun v7 =>
    (R.bind (slV 3 v7) fun v8 => R.bind (R.bind (R.bind (R.bind (slV 2 v7) asL) fun v11 => R.bind (capt v7 [0, 4]) fun v12 => R.bind (R.ne (compD (bN 0) b_sum_between_t1 b_sum_between_c2 (cpE 1 v12) v11)) fit) fun v10 => R.of (kSumL v10)) fun v9 => augO (fun i j => i + j) 3 v7 v8 v9)
noncomputable def b_sum_between (env : DE) : R Out :=
  (seqO (R.bind (R.ok (D.int 0)) fun v2 => R.ok (Out.nx (List.set env 3 (Sl.val v2)))) fun v1 =>
  (seqO (R.bind (R.bind (slV 1 v1) asL) fun v4 => forD b_sum_between_l3 v4 v1) fun v3 =>
  (R.bind (slV 3 v3) fun v19 => R.ok (Out.rt v19))))
noncomputable def m_sum_between := mS 3 5 b_sum_between
noncomputable def b__law_counted_t1 (env : DE) : R Bool :=
  R.ok true
noncomputable def b__law_counted_c2 (env : DE) : R (List D) :=
  (R.bind (R.bind (R.bind (R.ok (D.int 0)) fun v9 => R.bind (R.ok []) fun v10 => R.ok (v9 :: v10)) fit) fun v7 => R.bind (slB 1 env) fun v8 => repL v7 v8)
noncomputable def b__law_counted_l3 (d : D) (env : DE) : R Out :=
  R.bind ((bN 4) d env) fun v21 =>
    (seqO (R.bind (R.bind (slL 3 v21) fun v24 => R.bind (R.bind (R.bind (R.bind (slB 4 v21) fun v29 => R.bind (R.ok []) fun v30 => R.ok (v29 :: v30)) fun v28 => R.of (kAbs v28)) fun v26 => R.bind (R.ok (D.int 1)) fun v27 => R.of (kSub v26 v27)) fun v25 => indexD v24 v25) fun v23 => R.ok (Out.nx (List.set v21 5 (Sl.val v23)))) fun v22 =>
  (seqO (R.bind (R.bind (slL 3 v22) fun v33 => R.bind (R.bind (R.bind (slB 4 v22) fun v36 => R.bind (R.ok []) fun v37 => R.ok (v36 :: v37)) fun v35 => R.of (kAbs v35)) fun v34 => indexD v33 v34) fun v32 => R.ok (Out.nx (List.set v22 6 (Sl.val v32)))) fun v31 =>
  (seqO (R.bind (R.bind (slB 4 v31) fun v40 => R.bind (R.ok (D.int 0)) fun v41 => R.bind (R.of (kGt v40 v41)) asB) fun v39 => if v39 = true then (R.bind (deepAt 2 v31) fun v42 => R.bind (slB 5 v31) fun v43 => R.bind (sub1 v42 v43) fun v44 => R.bind (slB 6 v31) fun v45 => R.bind (sub2 v44.2 v45) fun v46 => R.bind (R.ok (D.int 1)) fun v47 => augP 2 v31 v42 v44 v46 (fun i j => i + j) v47) else (R.bind (deepAt 2 v31) fun v48 => R.bind (slB 6 v31) fun v49 => R.bind (sub1 v48 v49) fun v50 => R.bind (slB 5 v31) fun v51 => R.bind (sub2 v50.2 v51) fun v52 => R.bind (R.ok (D.int 1)) fun v53 => augP 2 v31 v48 v50 v52 (fun i j => i - j) v53)) fun v38 =>
  (seqO (R.bind (R.bind (R.bind (slB 4 v38) fun v59 => R.bind (R.ok []) fun v60 => R.ok (v59 :: v60)) fun v58 => R.of (kAbs v58)) fun v55 => R.bind (ownAt 3 v38) fun v56 => R.bind (slB 5 v38) fun v57 => setO 3 v38 v55 v56 v57) fun v54 =>
  (R.bind (R.bind (R.bind (R.bind (slB 4 v54) fun v67 => R.bind (R.ok []) fun v68 => R.ok (v67 :: v68)) fun v66 => R.of (kAbs v66)) fun v64 => R.bind (R.ok (D.int 1)) fun v65 => R.of (kSub v64 v65)) fun v61 => R.bind (ownAt 3 v54) fun v62 => R.bind (slB 6 v54) fun v63 => setO 3 v54 v61 v62 v63)))))
noncomputable def b__law_counted (env : DE) : R Out :=
  (seqO (R.bind (R.bind (R.bind (R.bind (slB 0 env) fun v11 => R.bind (R.ok []) fun v12 => R.ok (v11 :: v12)) rng1) fun v3 => R.bind (capt env [0]) fun v4 => R.bind (R.ne (compT (bN 0) b__law_counted_t1 b__law_counted_c2 (cpE 1 v4) v3)) fit) fun v2 => R.ok (Out.nx (List.set env 2 (Sl.deep (Ct.ls v2))))) fun v1 =>
  (seqO (R.bind (R.bind (R.bind (slB 0 v1) fun v15 => R.bind (R.ok []) fun v16 => R.ok (v15 :: v16)) rngList) fun v14 => R.ok (Out.nx (List.set v1 3 (Sl.own v14)))) fun v13 =>
  (seqO (R.bind (R.bind (slV 1 v13) asL) fun v18 => forD b__law_counted_l3 v18 v13) fun v17 =>
  (R.bind (R.bind (R.bind (R.bind (slV 2 (frzD 2 (frz 3 v17))) fun v70 => R.bind (R.bind (slV 3 (frzD 2 (frz 3 v17))) fun v72 => R.bind (R.ok []) fun v73 => R.ok (v72 :: v73)) fun v71 => R.ok (v70 :: v71)) fit) fun ds => R.ok (D.tup ds)) fun v69 => R.ok (Out.rt v69)))))
noncomputable def m__law_counted := mD 2 7 b__law_counted
noncomputable def b__law_ringed_w1 (env : DE) : R Bool :=
  (R.bind (R.bind (slL 0 env) fun v17 => R.bind (R.bind (slL 3 env) fun v19 => R.bind (R.bind (R.ok (D.int 1)) fun v21 => R.of (kNeg v21)) fun v20 => ixL v19 v20) fun v18 => ixL v17 v18) fun v15 => R.bind (slB 2 env) fun v16 => R.bind (R.of (kNe v15 v16)) asB)
noncomputable def b__law_ringed_l2 (env : DE) : R Out :=
  (R.bind (ownAt 3 env) fun v22 => R.bind (R.bind (slL 0 env) fun v24 => R.bind (R.bind (slL 3 env) fun v26 => R.bind (R.bind (R.ok (D.int 1)) fun v28 => R.of (kNeg v28)) fun v27 => ixL v26 v27) fun v25 => ixL v24 v25) fun v23 => appO 3 env v22 v23)
noncomputable def b__law_ringed_l3 (d : D) (env : DE) : R Out :=
  R.bind ((bN 2) d env) fun v7 =>
    (seqO (R.bind (R.bind (R.bind (slV 2 v7) fun v10 => R.bind (R.ok []) fun v11 => R.ok (v10 :: v11)) fit) fun v9 => R.ok (Out.nx (List.set v7 3 (Sl.own v9)))) fun v8 =>
  (seqO (whileD b__law_ringed_w1 b__law_ringed_l2 ((fun _ => 8) v8) v8) fun v12 =>
  (R.bind (R.bind (R.bind (slL 3 v12) fun v32 => R.of (kMinL v32)) fun v30 => R.bind (slB 2 v12) fun v31 => R.bind (R.of (kEq v30 v31)) asB) fun v29 => if v29 = true then (R.bind (deepAt 1 v12) fun v33 => R.bind (R.bind (ownAt 3 v12) fun v34 => R.of (toI v34)) fun v35 => mvT 1 3 v12 v33 v35) else (R.ok (Out.nx v12)))))
noncomputable def b__law_ringed (env : DE) : R Out :=
  (seqO (R.bind (R.ok ([] : List (List Int))) fun v2 => (R.bind (fit v2) fun y => R.ok (Out.nx (List.set env 1 (Sl.deep (Ct.ls y)))))) fun v1 =>
  (seqO (R.bind (R.bind (R.bind (R.bind (R.bind (slB 0 v1) fun v39 => R.bind (R.ok []) fun v40 => R.ok (v39 :: v40)) fun v38 => R.of (kLen v38)) fun v36 => R.bind (R.ok []) fun v37 => R.ok (v36 :: v37)) rng1) fun v4 => forD b__law_ringed_l3 v4 v1) fun v3 =>
  (R.bind (deepAt 1 v3) fun v41 => R.ok (Out.rtT v41))))
noncomputable def m__law_ringed := mT 1 4 b__law_ringed
noncomputable def b__law_linked_t1 (env : DE) : R Bool :=
  R.ok true
noncomputable def b__law_linked_t2 (env : DE) : R Bool :=
  R.ok true
noncomputable def b__law_linked_c3 (env : DE) : R D :=
  (R.bind (R.bind (R.bind (slL 1 env) fun v29 => R.bind (slB 2 env) fun v30 => ixL v29 v30) asL) fun v27 => R.bind (slB 0 env) fun v28 => ixL v27 v28)
noncomputable def b__law_linked_c4 (env : DE) : R D :=
  (R.bind (R.bind (R.bind (slV 1 env) asL) fun v23 => R.bind (capt env [2, 0]) fun v24 => R.bind (R.ne (compD (bN 0) b__law_linked_t2 b__law_linked_c3 (cpE 1 v24) v23)) fit) fun v22 => R.of (kSumL v22))
noncomputable def b__law_linked_l5 (d : D) (env : DE) : R Out :=
  R.bind ((bN 5) d env) fun v14 =>
    (R.bind (ownAt 4 v14) fun v15 => R.bind (R.bind (R.bind (R.bind (slV 3 v14) asL) fun v18 => R.bind (capt v14 [5, 0]) fun v19 => R.bind (R.ne (compD (bN 0) b__law_linked_t1 b__law_linked_c4 (cpE 1 v19) v18)) fit) fun v17 => R.of (kSumL v17)) fun v16 => appO 4 v14 v15 v16)
noncomputable def b__law_linked_l6 (d : D) (env : DE) : R Out :=
  R.bind ((bN 3) d env) fun v7 =>
    (seqO (R.bind (R.bind (R.ok []) fit) fun v9 => R.ok (Out.nx (List.set v7 4 (Sl.own v9)))) fun v8 =>
  (seqO (R.bind (R.bind (slV 1 v8) asL) fun v11 => forD b__law_linked_l5 v11 v8) fun v10 =>
  (R.bind (deepAt 2 v10) fun v31 => R.bind (R.bind (ownAt 4 v10) fun v32 => R.of (toI v32)) fun v33 => mvT 2 4 v10 v31 v33)))
noncomputable def b__law_linked (env : DE) : R Out :=
  (seqO (R.bind (R.ok ([] : List (List Int))) fun v2 => (R.bind (fit v2) fun y => R.ok (Out.nx (List.set env 2 (Sl.deep (Ct.ls y)))))) fun v1 =>
  (seqO (R.bind (R.bind (slV 1 v1) asL) fun v4 => forD b__law_linked_l6 v4 v1) fun v3 =>
  (R.bind (deepAt 2 v3) fun v34 => R.ok (Out.rtT v34))))
noncomputable def m__law_linked := mT 2 6 b__law_linked
noncomputable def b__law_profile_l1 (d : D) (env : DE) : R Out :=
  R.bind ((bT 2 (bCons (bN 3) (bCons (bN 4) bNil))) d env) fun v7 =>
    (R.bind (ownAt 2 v7) fun v8 => R.bind (R.bind (R.bind (R.bind (R.bind (R.bind (slB 4 v7) fun v13 => R.bind (R.ok []) fun v14 => R.ok (v13 :: v14)) fun v12 => R.of (kLen v12)) fun v10 => R.bind (R.bind (R.bind (R.bind (R.bind (slL 0 v7) fun v19 => R.bind (slB 3 v7) fun v20 => ixL v19 v20) asL) fun v17 => R.bind (slB 3 v7) fun v18 => ixL v17 v18) fun v15 => R.bind (R.bind (R.bind (R.bind (R.bind (R.bind (R.bind (R.bind (slL 0 v7) fun v29 => R.bind (slB 3 v7) fun v30 => ixL v29 v30) asL) fun v26 => R.bind (R.ok none) fun v27 => R.bind (R.bind (slB 3 v7) asI) fun v28 => R.ok (cut v26 v27 v28)) fun v24 => R.bind (R.bind (R.bind (R.bind (slL 0 v7) fun v34 => R.bind (slB 3 v7) fun v35 => ixL v34 v35) asL) fun v31 => R.bind (R.bind (R.bind (slB 3 v7) fun v36 => R.bind (R.ok (D.int 1)) fun v37 => R.of (kAddI v36 v37)) asI) fun v32 => R.bind (R.ok none) fun v33 => R.ok (cut v31 v32 v33)) fun v25 => fit (v24 ++ v25)) sortL) fun v23 => R.ok (D.lst v23)) fun v21 => R.bind (R.ok []) fun v22 => R.ok (v21 :: v22)) fun v16 => R.ok (v15 :: v16)) fun v11 => R.ok (v10 :: v11)) fit) fun ds => R.ok (D.tup ds)) fun v9 => appO 2 v7 v8 v9)
noncomputable def b__law_profile (env : DE) : R Out :=
  (seqO (R.bind (R.bind (R.ok []) fit) fun v2 => R.ok (Out.nx (List.set env 2 (Sl.own v2)))) fun v1 =>
  (seqO (R.bind (R.bind (slV 1 v1) fun v38 => R.bind (asL v38) fun xs => R.ok (enumL xs)) fun v4 => forD b__law_profile_l1 v4 v1) fun v3 =>
  (R.bind (R.bind (R.bind (slL 2 v3) sortT) fun v40 => R.ok (D.lst v40)) fun v39 => R.ok (Out.rt v39))))
noncomputable def m__law_profile := mD 2 5 b__law_profile
noncomputable def b_rings_l1 (d : D) (env : DE) : R Out :=
  R.bind ((bN 5) d env) fun v15 =>
    (R.bind (R.bind (slB 5 v15) fun v17 => R.bind (asInt v17) fun v18 => R.bind (dicAt 4 v15) fun v19 => R.ok (!decide (v18 ∈ v19))) fun v16 => if v16 = true then (seqO (R.bind (R.bind (R.bind (slV 2 v15) fun v22 => R.bind (R.bind (slV 5 v15) fun v24 => R.bind (R.ok []) fun v25 => R.ok (v24 :: v25)) fun v23 => R.ok (v22 :: v23)) m_ring_from) fun v21 => R.ok (Out.nx (List.set v15 6 (Sl.own v21)))) fun v20 =>
  (mvK 3 6 7 4 v20)) else (R.ok (Out.nx v15)))
noncomputable def b_rings (env : DE) : R Out :=
  (seqO (R.bind (R.bind (R.bind (R.bind (slV 0 env) fun v4 => R.bind (R.bind (slV 1 env) fun v6 => R.bind (R.ok []) fun v7 => R.ok (v6 :: v7)) fun v5 => R.ok (v4 :: v5)) m_order_of) fun v3 => R.ok (D.lst v3)) fun v2 => R.ok (Out.nx (List.set env 2 (Sl.val v2)))) fun v1 =>
  (seqO (R.bind (R.ok ([] : List (List Int))) fun v9 => (R.bind (fit v9) fun y => R.ok (Out.nx (List.set v1 3 (Sl.deep (Ct.ls y)))))) fun v8 =>
  (seqO (R.ok (Out.nx (List.set v8 4 (Sl.deep (Ct.dk []))))) fun v10 =>
  (seqO (R.bind (R.bind (R.bind (slB 0 v10) fun v26 => R.bind (R.ok []) fun v27 => R.ok (v26 :: v27)) rng1) fun v12 => forD b_rings_l1 v12 v10) fun v11 =>
  (R.bind (deepAt 3 v11) fun v28 => R.ok (Out.rtT v28))))))
noncomputable def m_rings := mT 2 8 b_rings
noncomputable def b_sums_of_ring_t1 (env : DE) : R Bool :=
  R.ok true
noncomputable def b_sums_of_ring_c2 (env : DE) : R D :=
  (R.bind (R.bind (slB 1 env) fun v6 => R.bind (R.bind (slB 2 env) fun v8 => R.bind (R.bind (slB 0 env) fun v10 => R.bind (R.ok []) fun v11 => R.ok (v10 :: v11)) fun v9 => R.ok (v8 :: v9)) fun v7 => R.ok (v6 :: v7)) m_sum_between)
noncomputable def b_sums_of_ring (env : DE) : R Out :=
  (R.bind (R.bind (R.bind (slV 2 env) asL) fun v2 => R.bind (capt env [0, 1]) fun v3 => R.bind (R.ne (compD (bN 0) b_sums_of_ring_t1 b_sums_of_ring_c2 (cpE 1 v3) v2)) fit) fun v1 => R.ok (Out.rtF v1))
noncomputable def m_sums_of_ring := mFS 3 3 b_sums_of_ring
noncomputable def b__law_rows_are_t1 (env : DE) : R Bool :=
  R.ok true
noncomputable def b__law_rows_are_c2 (env : DE) : R D :=
  (R.bind (R.bind (slB 0 env) fun v21 => R.bind (R.bind (slB 1 env) fun v23 => R.bind (R.ok []) fun v24 => R.ok (v23 :: v24)) fun v22 => R.ok (v21 :: v22)) m__law_list_is)
noncomputable def b__law_rows_are (env : DE) : R Out :=
  (seqO (R.bind (R.bind (R.bind (R.bind (R.bind (slB 0 env) fun v5 => isi "list" v5) asB) fun v4 => R.ok (!v4)) fun v3 => if v3 = true then R.ok true else (R.bind (R.bind (R.bind (slB 0 env) fun v9 => R.bind (R.ok []) fun v10 => R.ok (v9 :: v10)) fun v8 => R.of (kLen v8)) fun v6 => R.bind (R.bind (R.bind (slB 1 env) fun v12 => R.bind (R.ok []) fun v13 => R.ok (v12 :: v13)) fun v11 => R.of (kLen v11)) fun v7 => R.bind (R.of (kNe v6 v7)) asB)) fun v2 => if v2 = true then (R.bind (R.ok (D.bl false)) fun v14 => R.ok (Out.rt v14)) else (R.ok (Out.nx env))) fun v1 =>
  (R.bind (R.bind (R.bind (R.bind (R.bind (slV 0 v1) fun v25 => R.bind (R.bind (slV 1 v1) fun v27 => R.bind (R.ok []) fun v28 => R.ok (v27 :: v28)) fun v26 => R.ok (v25 :: v26)) zip2) fun v17 => R.bind (capt v1 []) fun v18 => R.bind (R.ne (compD (bT 2 (bCons (bN 0) (bCons (bN 1) bNil))) b__law_rows_are_t1 b__law_rows_are_c2 (cpE 2 v18) v17)) fit) fun v16 => R.of (kAll v16)) fun v15 => R.ok (Out.rt v15)))
noncomputable def m__law_rows_are := mS 2 2 b__law_rows_are
noncomputable def b__law_profile_is_l1 (d : D) (env : DE) : R Out :=
  R.bind ((bT 2 (bCons (bN 2) (bCons (bN 3) bNil))) d env) fun v19 =>
    (seqO (R.bind (R.bind (R.bind (R.bind (R.bind (slB 2 v19) fun v24 => isi "tuple" v24) asB) fun v23 => R.ok (!v23)) fun v22 => if v22 = true then R.ok true else (R.bind (R.bind (R.bind (R.bind (slB 2 v19) fun v29 => R.bind (R.ok []) fun v30 => R.ok (v29 :: v30)) fun v28 => R.of (kLen v28)) fun v26 => R.bind (R.ok (D.int 3)) fun v27 => R.bind (R.of (kNe v26 v27)) asB) fun v25 => if v25 = true then R.ok true else (R.bind (R.bind (R.bind (R.bind (R.bind (R.bind (R.bind (R.bind (slV 2 v19) fun v37 => R.bind (R.ok (D.int 0)) fun v38 => ixD v37 v38) fun v35 => R.bind (R.bind (R.bind (slV 2 v19) fun v41 => R.bind (R.ok (D.int 1)) fun v42 => ixD v41 v42) fun v39 => R.bind (R.ok []) fun v40 => R.ok (v39 :: v40)) fun v36 => R.ok (v35 :: v36)) fit) fun v34 => R.ok (D.lst v34)) fun v32 => R.bind (R.bind (R.bind (R.bind (R.bind (R.bind (slV 3 v19) fun v48 => R.bind (R.ok (D.int 0)) fun v49 => ixD v48 v49) fun v46 => R.bind (R.bind (R.bind (slV 3 v19) fun v52 => R.bind (R.ok (D.int 1)) fun v53 => ixD v52 v53) fun v50 => R.bind (R.ok []) fun v51 => R.ok (v50 :: v51)) fun v47 => R.ok (v46 :: v47)) fit) fun v45 => R.ok (D.lst v45)) fun v43 => R.bind (R.ok []) fun v44 => R.ok (v43 :: v44)) fun v33 => R.ok (v32 :: v33)) m__law_list_is) asB) fun v31 => R.ok (!v31)))) fun v21 => if v21 = true then (R.bind (R.ok (D.bl false)) fun v54 => R.ok (Out.rt v54)) else (R.ok (Out.nx v19))) fun v20 =>
  (R.bind (R.bind (R.bind (R.bind (R.bind (R.bind (slV 2 v20) fun v59 => R.bind (R.ok (D.int 2)) fun v60 => ixD v59 v60) fun v57 => R.bind (R.bind (R.bind (slV 3 v20) fun v63 => R.bind (R.ok (D.int 2)) fun v64 => ixD v63 v64) fun v61 => R.bind (R.ok []) fun v62 => R.ok (v61 :: v62)) fun v58 => R.ok (v57 :: v58)) m__law_list_is) asB) fun v56 => R.ok (!v56)) fun v55 => if v55 = true then (R.bind (R.ok (D.bl false)) fun v65 => R.ok (Out.rt v65)) else (R.ok (Out.nx v20))))
noncomputable def b__law_profile_is (env : DE) : R Out :=
  (seqO (R.bind (R.bind (R.bind (R.bind (R.bind (slB 0 env) fun v5 => isi "list" v5) asB) fun v4 => R.ok (!v4)) fun v3 => if v3 = true then R.ok true else (R.bind (R.bind (R.bind (slB 0 env) fun v9 => R.bind (R.ok []) fun v10 => R.ok (v9 :: v10)) fun v8 => R.of (kLen v8)) fun v6 => R.bind (R.bind (R.bind (slB 1 env) fun v12 => R.bind (R.ok []) fun v13 => R.ok (v12 :: v13)) fun v11 => R.of (kLen v11)) fun v7 => R.bind (R.of (kNe v6 v7)) asB)) fun v2 => if v2 = true then (R.bind (R.ok (D.bl false)) fun v14 => R.ok (Out.rt v14)) else (R.ok (Out.nx env))) fun v1 =>
  (seqO (R.bind (R.bind (R.bind (slV 0 v1) fun v66 => R.bind (R.bind (slV 1 v1) fun v68 => R.bind (R.ok []) fun v69 => R.ok (v68 :: v69)) fun v67 => R.ok (v66 :: v67)) zip2) fun v16 => forD b__law_profile_is_l1 v16 v1) fun v15 =>
  (R.bind (R.ok (D.bl true)) fun v70 => R.ok (Out.rt v70))))
noncomputable def m__law_profile_is := mS 2 4 b__law_profile_is
noncomputable def b_linked_t1 (env : DE) : R Bool :=
  R.ok true
noncomputable def b_linked_c2 (env : DE) : R (List D) :=
  (R.bind (R.bind (slV 1 env) fun v20 => R.bind (R.bind (slV 0 env) fun v22 => R.bind (R.bind (slV 2 env) fun v24 => R.bind (R.ok []) fun v25 => R.ok (v24 :: v25)) fun v23 => R.ok (v22 :: v23)) fun v21 => R.ok (v20 :: v21)) m_sums_of_ring)
noncomputable def b_linked (env : DE) : R Out :=
  (seqO (R.bind (R.bind (R.ne (R.bind (R.bind (slB 0 env) fun v4 => R.bind (R.bind (slB 1 env) fun v6 => R.bind (R.ok []) fun v7 => R.ok (v6 :: v7)) fun v5 => R.ok (v4 :: v5)) m_table)) fun v3 => R.ok (D.lst (List.map (fun ns => D.lst (List.map D.int ns)) v3))) fun v2 => R.ok (Out.nx (List.set env 2 (Sl.val v2)))) fun v1 =>
  (seqO (R.bind (R.bind (R.ne (R.bind (R.bind (slB 0 v1) fun v11 => R.bind (R.bind (slB 1 v1) fun v13 => R.bind (R.ok []) fun v14 => R.ok (v13 :: v14)) fun v12 => R.ok (v11 :: v12)) m_rings)) fun v10 => R.ok (D.lst (List.map (fun ns => D.lst (List.map D.int ns)) v10))) fun v9 => R.ok (Out.nx (List.set v1 3 (Sl.val v9)))) fun v8 =>
  (R.bind (R.bind (R.bind (slV 3 v8) asL) fun v16 => R.bind (capt v8 [2, 3]) fun v17 => R.bind (R.ne (compT (bN 0) b_linked_t1 b_linked_c2 (cpE 1 v17) v16)) fit) fun v15 => R.ok (Out.rtT v15))))
noncomputable def m_linked := mT 2 4 b_linked
noncomputable def b_profile_l1 (d : D) (env : DE) : R Out :=
  R.bind ((bN 5) d env) fun v20 =>
    (seqO (R.bind (R.bind (R.bind (R.bind (R.bind (R.bind (slL 3 v20) fun v29 => R.bind (slB 5 v20) fun v30 => ixL v29 v30) asL) fun v26 => R.bind (R.ok none) fun v27 => R.bind (R.bind (slB 5 v20) asI) fun v28 => R.ok (cut v26 v27 v28)) fun v24 => R.bind (R.bind (R.bind (R.bind (slL 3 v20) fun v34 => R.bind (slB 5 v20) fun v35 => ixL v34 v35) asL) fun v31 => R.bind (R.bind (R.bind (slB 5 v20) fun v36 => R.bind (R.ok (D.int 1)) fun v37 => R.of (kAddI v36 v37)) asI) fun v32 => R.bind (R.ok none) fun v33 => R.ok (cut v31 v32 v33)) fun v25 => fit (v24 ++ v25)) fun v23 => R.ok (D.lst v23)) fun v22 => R.ok (Out.nx (List.set v20 6 (Sl.val v22)))) fun v21 =>
  (R.bind (trAt 4 v21) fun v38 => R.bind (R.bind (R.bind (R.bind (slL 2 v21) fun v48 => R.bind (slB 5 v21) fun v49 => ixL v48 v49) fun v46 => R.bind (R.ok []) fun v47 => R.ok (v46 :: v47)) fun v45 => R.of (kLen v45)) fun v39 => R.bind (asInt v39) fun v40 => R.bind (R.bind (R.bind (R.bind (slL 3 v21) fun v52 => R.bind (slB 5 v21) fun v53 => ixL v52 v53) asL) fun v50 => R.bind (slB 5 v21) fun v51 => ixL v50 v51) fun v41 => R.bind (asInt v41) fun v42 => R.bind (R.bind (slL 6 v21) sortL) fun v43 => R.bind (R.of (toI v43)) fun v44 => appR 4 v21 v38 (v40, v42, v44)))
noncomputable def b_profile (env : DE) : R Out :=
  (seqO (R.bind (R.bind (R.ne (R.bind (R.bind (slB 0 env) fun v4 => R.bind (R.bind (slB 1 env) fun v6 => R.bind (R.ok []) fun v7 => R.ok (v6 :: v7)) fun v5 => R.ok (v4 :: v5)) m_rings)) fun v3 => R.ok (D.lst (List.map (fun ns => D.lst (List.map D.int ns)) v3))) fun v2 => R.ok (Out.nx (List.set env 2 (Sl.val v2)))) fun v1 =>
  (seqO (R.bind (R.bind (R.ne (R.bind (R.bind (slB 0 v1) fun v11 => R.bind (R.bind (slB 1 v1) fun v13 => R.bind (R.ok []) fun v14 => R.ok (v13 :: v14)) fun v12 => R.ok (v11 :: v12)) m_linked)) fun v10 => R.ok (D.lst (List.map (fun ns => D.lst (List.map D.int ns)) v10))) fun v9 => R.ok (Out.nx (List.set v1 3 (Sl.val v9)))) fun v8 =>
  (seqO (R.ok (Out.nx (List.set v8 4 (Sl.deep (Ct.tr []))))) fun v15 =>
  (seqO (R.bind (R.bind (R.bind (R.bind (R.bind (slB 2 v15) fun v57 => R.bind (R.ok []) fun v58 => R.ok (v57 :: v58)) fun v56 => R.of (kLen v56)) fun v54 => R.bind (R.ok []) fun v55 => R.ok (v54 :: v55)) rng1) fun v17 => forD b_profile_l1 v17 v15) fun v16 =>
  (R.bind (trAt 4 v16) fun v59 => R.bind (sortR v59) fun v60 => R.ok (Out.rtC (Ct.tr v60)))))))
noncomputable def m_profile := mR 2 7 b_profile
noncomputable def b_law_l1 (d : D) (env : DE) : R Out :=
  R.bind ((bN 10) d env) fun v75 =>
    (R.bind (R.bind (R.bind (R.bind (R.bind (slL 7 v75) fun v81 => R.bind (slB 9 v75) fun v82 => ixL v81 v82) asL) fun v79 => R.bind (slB 10 v75) fun v80 => ixL v79 v80) fun v77 => R.bind (R.bind (R.bind (R.bind (slL 7 v75) fun v85 => R.bind (slB 10 v75) fun v86 => ixL v85 v86) asL) fun v83 => R.bind (slB 9 v75) fun v84 => ixL v83 v84) fun v78 => R.bind (R.of (kNe v77 v78)) asB) fun v76 => if v76 = true then (R.bind (R.ok (D.bl false)) fun v87 => R.ok (Out.rt v87)) else (R.ok (Out.nx v75)))
noncomputable def b_law_l2 (d : D) (env : DE) : R Out :=
  R.bind ((bN 9) d env) fun v71 =>
    (R.bind (R.bind (R.bind (R.bind (R.bind (slB 7 v71) fun v91 => R.bind (R.ok []) fun v92 => R.ok (v91 :: v92)) fun v90 => R.of (kLen v90)) fun v88 => R.bind (R.ok []) fun v89 => R.ok (v88 :: v89)) rng1) fun v72 => forD b_law_l1 v72 v71)
noncomputable def b_law (env : DE) : R Out :=
  (seqO (R.bind (R.bind (R.bind (R.bind (R.bind (R.bind (slL 0 env) fun v9 => R.bind (R.bind (R.bind (R.ok (D.int 0)) fun v11 => R.bind (R.ok []) fun v12 => R.ok (v11 :: v12)) fit) fun v10 => fit (v9 ++ v10)) fun v7 => R.bind (R.ok (D.int 0)) fun v8 => ixL v7 v8) fun v5 => R.bind (R.bind (R.ok (D.int 10)) fun v13 => R.bind (R.ok (D.int 9)) fun v14 => R.of (kPow v13 v14)) fun v6 => R.of (kMod v5 v6)) fun v3 => R.bind (R.bind (R.ok (D.int 1)) fun v15 => R.bind (R.bind (R.ok (D.int 7)) fun v17 => R.bind (R.ok []) fun v18 => R.ok (v17 :: v18)) fun v16 => R.ok (v15 :: v16)) fun v4 => R.ok (v3 :: v4)) m__law_strings) fun v2 => R.ok (Out.nx (List.set env 1 (Sl.val v2)))) fun v1 =>
  (seqO (R.bind (R.bind (R.bind (R.bind (R.bind (R.bind (slL 0 v1) fun v25 => R.bind (R.ok none) fun v26 => R.bind (R.bind (R.ok (D.int 500)) asI) fun v27 => R.ok (cut v25 v26 v27)) fun v24 => R.ok (D.lst v24)) fun v22 => R.bind (R.bind (slV 1 v1) fun v28 => R.bind (R.bind (R.ok (D.int 1000)) fun v30 => R.bind (R.ok []) fun v31 => R.ok (v30 :: v31)) fun v29 => R.ok (v28 :: v29)) fun v23 => R.ok (v22 :: v23)) m__law_drawn) fun v21 => R.ok (D.lst v21)) fun v20 => R.ok (Out.nx (List.set v1 2 (Sl.val v20)))) fun v19 =>
  (seqO (R.bind (R.bind (slL 2 v19) fun v34 => R.ok (D.lst v34)) fun v33 => R.ok (Out.nx (List.set v19 3 (Sl.val v33)))) fun v32 =>
  (seqO (R.bind (R.bind (R.bind (slV 1 v32) fun v37 => R.bind (R.bind (slV 2 v32) fun v39 => R.bind (R.ok []) fun v40 => R.ok (v39 :: v40)) fun v38 => R.ok (v37 :: v38)) m__law_counted) fun v36 => R.bind ((bT 2 (bCons (bN 4) (bCons (bN 5) bNil))) v36 v32) fun e => R.ok (Out.nx e)) fun v35 =>
  (seqO (R.bind (R.bind (R.ne (R.bind (R.bind (slB 5 v35) fun v44 => R.bind (R.ok []) fun v45 => R.ok (v44 :: v45)) m__law_ringed)) fun v43 => R.ok (D.lst (List.map (fun ns => D.lst (List.map D.int ns)) v43))) fun v42 => R.ok (Out.nx (List.set v35 6 (Sl.val v42)))) fun v41 =>
  (seqO (R.bind (R.bind (R.ne (R.bind (R.bind (slB 4 v41) fun v49 => R.bind (R.bind (slB 6 v41) fun v51 => R.bind (R.ok []) fun v52 => R.ok (v51 :: v52)) fun v50 => R.ok (v49 :: v50)) m__law_linked)) fun v48 => R.ok (D.lst (List.map (fun ns => D.lst (List.map D.int ns)) v48))) fun v47 => R.ok (Out.nx (List.set v41 7 (Sl.val v47)))) fun v46 =>
  (seqO (R.bind (R.ne (R.bind (R.bind (slB 1 v46) fun v55 => R.bind (R.bind (slB 3 v46) fun v57 => R.bind (R.ok []) fun v58 => R.ok (v57 :: v58)) fun v56 => R.ok (v55 :: v56)) m_linked)) fun v54 => R.ok (Out.nx (List.set v46 8 (Sl.deep (Ct.ls v54))))) fun v53 =>
  (seqO (R.bind (R.bind (R.bind (R.bind (R.bind (slB 8 v53) fun v62 => R.bind (R.bind (slB 7 v53) fun v64 => R.bind (R.ok []) fun v65 => R.ok (v64 :: v65)) fun v63 => R.ok (v62 :: v63)) m__law_rows_are) asB) fun v61 => R.ok (!v61)) fun v60 => if v60 = true then (R.bind (R.ok (D.bl false)) fun v66 => R.ok (Out.rt v66)) else (R.ok (Out.nx v53))) fun v59 =>
  (seqO (R.bind (R.bind (R.bind (R.bind (R.bind (slB 7 v59) fun v96 => R.bind (R.ok []) fun v97 => R.ok (v96 :: v97)) fun v95 => R.of (kLen v95)) fun v93 => R.bind (R.ok []) fun v94 => R.ok (v93 :: v94)) rng1) fun v68 => forD b_law_l2 v68 v59) fun v67 =>
  (seqO (R.bind (deepAt 8 v67) fun v99 => R.bind (R.ok (D.int 0)) fun v100 => R.bind (sub1 v99 v100) fun v101 => R.bind (R.ok (D.int 3)) fun v102 => appP 8 v67 v99 v101 v102) fun v98 =>
  (seqO (R.bind (R.bind (R.bind (slV 7 v98) fun v105 => R.bind (R.bind (slV 6 v98) fun v107 => R.bind (R.ok []) fun v108 => R.ok (v107 :: v108)) fun v106 => R.ok (v105 :: v106)) m__law_profile) fun v104 => R.ok (Out.nx (List.set v98 11 (Sl.val v104)))) fun v103 =>
  (seqO (R.bind (R.ne (R.bind (R.bind (slB 1 v103) fun v111 => R.bind (R.bind (slB 3 v103) fun v113 => R.bind (R.ok []) fun v114 => R.ok (v113 :: v114)) fun v112 => R.ok (v111 :: v112)) m_profile)) fun v110 => R.ok (Out.nx (List.set v103 12 (Sl.deep (Ct.tr v110))))) fun v109 =>
  (seqO (R.bind (R.bind (R.bind (R.bind (R.bind (slB 12 v109) fun v118 => R.bind (R.bind (slB 11 v109) fun v120 => R.bind (R.ok []) fun v121 => R.ok (v120 :: v121)) fun v119 => R.ok (v118 :: v119)) m__law_profile_is) asB) fun v117 => R.ok (!v117)) fun v116 => if v116 = true then (R.bind (R.ok (D.bl false)) fun v122 => R.ok (Out.rt v122)) else (R.ok (Out.nx v109))) fun v115 =>
  (seqO (R.bind (trAt 12 v115) fun v124 => R.bind (R.ok (D.int 0)) fun v125 => R.bind (asNil v125) fun _ => R.bind (hdR v124) fun v126 => R.bind (R.ok (D.int 2)) fun v127 => R.bind (asIx2 v127) fun _ => R.bind (R.ok (D.int 8)) fun v128 => appX 12 v115 v126 v128) fun v123 =>
  (R.bind (R.bind (R.bind (R.bind (R.bind (R.ne (R.bind (R.bind (slB 1 v123) fun v134 => R.bind (R.bind (slB 3 v123) fun v136 => R.bind (R.ok []) fun v137 => R.ok (v136 :: v137)) fun v135 => R.ok (v134 :: v135)) m_profile)) fun v133 => R.ok (D.lst (List.map dT v133))) fun v131 => R.bind (R.bind (slB 11 v123) fun v138 => R.bind (R.ok []) fun v139 => R.ok (v138 :: v139)) fun v132 => R.ok (v131 :: v132)) m__law_profile_is) fun v130 => R.bind (asB v130) fun t => if t = true then (R.bind (R.bind (R.bind (R.bind (R.ne (R.bind (R.bind (slB 1 v123) fun v144 => R.bind (R.bind (slB 3 v123) fun v146 => R.bind (R.ok []) fun v147 => R.ok (v146 :: v147)) fun v145 => R.ok (v144 :: v145)) m_linked)) fun v143 => R.ok (D.lst (List.map (fun ns => D.lst (List.map D.int ns)) v143))) fun v141 => R.bind (R.bind (slB 7 v123) fun v148 => R.bind (R.ok []) fun v149 => R.ok (v148 :: v149)) fun v142 => R.ok (v141 :: v142)) m__law_rows_are) fun v140 => R.bind (asB v140) fun t => if t = true then (R.bind (slB 3 v123) fun v150 => R.bind (slB 2 v123) fun v151 => R.of (kEq v150 v151)) else R.ok (D.bl false)) else R.ok (D.bl false)) fun v129 => R.ok (Out.rt v129))))))))))))))))
noncomputable def m_law := mS 1 13 b_law
end DL

namespace DL
open PySem PySem.Spec PyProof.Rows L2

theorem R.ne_okk {α : Type} (a : α) : (R.ok a).ne = .ok a := rfl
theorem compD_ints {b : D → DE → R DE} {ct : DE → R Bool} {fe : DE → R D} {e₀ : DE} (g : Int → Int) (w : List Int) (h : ∀ k ∈ w, ∃ e, b (.int k) e₀ = .ok e ∧ ct e = .ok true ∧ fe e = .ok (.int (g k))) : compD b ct fe e₀ (ofI w) = .ok (ofI (w.map g)) := by
  rw [compD_map (fun d => match d with
    | .int k => .int (g k)
    | _ => .non) _ fun x hx => by
      obtain ⟨k, hk, rfl⟩ := List.mem_map.mp hx
      exact h k hk]
  unfold ofI
  rw [List.map_map, List.map_map]
  rfl
def upTo (n : Nat) : List Int := (List.range n).map fun i => ((i : Nat) : Int)
theorem upTo_len (n : Nat) : (upTo n).length = n := by simp [upTo]
theorem upTo_get (n j : Nat) (h : j < n) : (upTo n)[j]? = some (j : Int) := by simp [upTo, h]
theorem upTo_succ (n : Nat) : upTo (n + 1) = upTo n ++ [(n : Int)] := by simp [upTo, List.range_succ]
theorem mem_upTo {n : Nat} {x : Int} : x ∈ upTo n ↔ 0 ≤ x ∧ x < n := by
  simp -implicitDefEqProofs only [upTo, List.mem_map, List.mem_range]
  constructor
  · rintro ⟨i, h, rfl⟩; omega
  · rintro ⟨h1, h2⟩; exact ⟨x.toNat, by omega, by omega⟩
theorem upTo_rngL (n : Nat) : rngL 0 n = ofI (upTo n) := by
  rw [rngL_eq]; congr 1; simp [upTo]
theorem upTo_nodup (n : Nat) : (upTo n).Nodup := by
  unfold upTo
  unfold List.Nodup
  rw [List.pairwise_map]
  exact List.pairwise_lt_range.imp fun h => by omega
def IsRow (n : Nat) (r : List Int) : Prop := r.Perm (upTo n)
theorem IsRow.len {n : Nat} {r : List Int} (h : IsRow n r) : r.length = n := by rw [h.length_eq, upTo_len]
theorem IsRow.nd {n : Nat} {r : List Int} (h : IsRow n r) : r.Nodup := h.nodup_iff.mpr (upTo_nodup n)
theorem IsRow.mem {n : Nat} {r : List Int} (h : IsRow n r) {x : Int} : x ∈ r ↔ 0 ≤ x ∧ x < n := h.mem_iff.trans mem_upTo
theorem IsRow.get {n : Nat} {r : List Int} (h : IsRow n r) {j : Nat} {x : Int} (e : r[j]? = some x) : 0 ≤ x ∧ x < n := h.mem.mp (List.mem_of_getElem? e)
def cellF (ns : List Int) (k : Nat) : Int := (ns[k]?).getD 0

theorem cell_get {l : List Int} {j : Nat} (h : j < l.length) : l[j]? = some (cellF l j) := by
  unfold cellF
  rw [List.getElem?_eq_getElem h]
  rfl
theorem cell_ext {a b : List Int} (hl : a.length = b.length) (h : ∀ j, j < a.length → cellF a j = cellF b j) : a = b := by
  refine List.ext_getElem? fun j => ?_
  by_cases hj : j < a.length
  · rw [cell_get hj, cell_get (hl ▸ hj), h j hj]
  · rw [List.getElem?_eq_none (by omega), List.getElem?_eq_none (by omega)]
theorem cell_upTo {n j : Nat} (h : j < n) : cellF (upTo n) j = j := by unfold cellF; rw [upTo_get n j h]; rfl
theorem cell_set {l : List Int} {j i : Nat} {x : Int} (h : j < l.length) : cellF (l.set i x) j = if i = j then x else cellF l j := by
  unfold cellF
  rw [List.getElem?_set]
  split
  · subst_vars
    rw [if_pos h]
    rfl
  · rfl
def swp : List Int → Nat → List Int
  | x :: y :: l, 0 => y :: x :: l
  | x :: l, a + 1 => x :: swp l a
  | l, _ => l
theorem swp_S (x : Int) (l : List Int) (a : Nat) : swp (x :: l) (a + 1) = x :: swp l a := by cases l <;> rfl
theorem swp_len : ∀ (l : List Int) (a : Nat), (swp l a).length = l.length
  | [], a => by cases a <;> rfl
  | [x], 0 => rfl
  | x :: y :: l, 0 => rfl
  | x :: l, a + 1 => by rw [swp_S, List.length_cons, List.length_cons, swp_len l a]
theorem cell_swp : ∀ (l : List Int) (a : Nat), a + 1 < l.length → ∀ j, cellF (swp l a) j = if j = a then cellF l (a + 1) else if j = a + 1 then cellF l a else cellF l j
  | [], a, h, j => by simp at h
  | [x], a, h, j => by simp at h
  | x :: y :: l, 0, h, j => by
    match j with
    | 0 => rfl
    | 1 => rfl
    | j + 2 => rw [if_neg (by omega), if_neg (by omega)]; rfl
  | x :: y :: l, a + 1, h, j => by
    rw [swp_S]
    match j with
    | 0 => rw [if_neg (by omega), if_neg (by omega)]; rfl
    | j + 1 =>
      show cellF (swp (y :: l) a) j = if j + 1 = a + 1 then cellF (y :: l) (a + 1) else if j + 1 = a + 1 + 1 then cellF (y :: l) a else cellF (y :: l) j
      rw [cell_swp (y :: l) a (by simpa using h) j]
      repeat' split
      all_goals first | rfl | omega
def sg (a : Nat) (x : Int) : Int := if x = a then (a : Int) + 1 else if x = (a : Int) + 1 then a else x
def svl (r : List Int) (a : Nat) : List Int := r.map (sg a)
theorem svl_len (r : List Int) (a : Nat) : (svl r a).length = r.length := List.length_map _
theorem cell_svl {r : List Int} {a p : Nat} (h : p < r.length) : cellF (svl r a) p = sg a (cellF r p) := by
  have := cell_get h
  unfold svl
  conv => lhs; unfold cellF
  rw [List.getElem?_map, this]
  rfl
structure Iv (n : Nat) (r s : List Int) : Prop where
  lr : r.length = n
  ls : s.length = n
  rs : ∀ p, p < n → 0 ≤ cellF r p ∧ cellF r p < n ∧ cellF s (cellF r p).toNat = p
  sr : ∀ v, v < n → 0 ≤ cellF s v ∧ cellF s v < n ∧ cellF r (cellF s v).toNat = v
theorem Iv.symm {n : Nat} {r s : List Int} (h : Iv n r s) : Iv n s r := ⟨h.ls, h.lr, h.sr, h.rs⟩
theorem Iv.step {n : Nat} {r s : List Int} (h : Iv n r s) {a : Nat} (ha : a + 1 < n) : Iv n (svl r a) (swp s a) := by
  refine ⟨by rw [svl_len, h.lr], by rw [swp_len, h.ls], fun p hp => ?_, fun v hv => ?_⟩
  · obtain ⟨h1, h2, h3⟩ := h.rs p hp
    rw [cell_svl (h.lr.symm ▸ hp), cell_swp _ _ (h.ls.symm ▸ ha)]
    generalize cellF r p = v at h1 h2 h3
    unfold sg
    by_cases e1 : v = a
    · rw [if_pos e1]
      refine ⟨by omega, by omega, ?_⟩
      rw [if_neg (by omega), if_pos (by omega), ← h3, show v.toNat = a by omega]
    · rw [if_neg e1]
      by_cases e2 : v = (a : Int) + 1
      · rw [if_pos e2]
        refine ⟨by omega, by omega, ?_⟩
        rw [if_pos (by omega), ← h3, show v.toNat = a + 1 by omega]
      · rw [if_neg e2]
        refine ⟨h1, h2, ?_⟩
        rw [if_neg (by omega), if_neg (by omega), h3]
  · rw [cell_swp _ _ (h.ls.symm ▸ ha)]
    by_cases e1 : v = a
    · obtain ⟨h1, h2, h3⟩ := h.sr (a + 1) ha
      rw [if_pos e1]
      refine ⟨h1, h2, ?_⟩
      rw [cell_svl (by rw [h.lr]; omega), h3]
      unfold sg
      rw [if_neg (by omega), if_pos (by omega), e1]
    · rw [if_neg e1]
      by_cases e2 : v = a + 1
      · obtain ⟨h1, h2, h3⟩ := h.sr a (by omega)
        rw [if_pos e2]
        refine ⟨h1, h2, ?_⟩
        rw [cell_svl (by rw [h.lr]; omega), h3]
        unfold sg
        rw [if_pos rfl, e2]
        omega
      · obtain ⟨h1, h2, h3⟩ := h.sr v hv
        rw [if_neg e2]
        refine ⟨h1, h2, ?_⟩
        rw [cell_svl (by rw [h.lr]; omega), h3]
        unfold sg
        rw [if_neg (by omega), if_neg (by omega)]
theorem Iv.sne {n : Nat} {r s : List Int} (h : Iv n r s) {v w : Nat} (hv : v < n) (hw : w < n) (e : cellF s v = cellF s w) : v = w := by
  have h1 := (h.sr v hv).2.2
  have h2 := (h.sr w hw).2.2
  rw [e] at h1
  omega
theorem Iv.idx {n : Nat} {r s : List Int} (h : Iv n r s) {v : Nat} (hv : v < n) : (v : Int) ∈ r ∧ ((r.idxOf (v : Int) : Nat) : Int) = cellF s v := by
  obtain ⟨h1, h2, h3⟩ := h.sr v hv
  have hm : (v : Int) ∈ r := by
    have := cell_get (l := r) (j := (cellF s v).toNat) (by rw [h.lr]; omega)
    rw [h3] at this
    exact List.mem_of_getElem? this
  refine ⟨hm, ?_⟩
  have hl := List.idxOf_lt_length_of_mem hm
  have := cell_get hl
  rw [List.getElem?_eq_getElem hl, List.getElem_idxOf hl] at this
  have e := Option.some.inj this
  have hl' := hl
  rw [h.lr] at hl'
  have h4 := (h.rs _ hl').2.2
  rw [← e, Int.toNat_natCast] at h4
  exact h4.symm

end DL

namespace DL
open PySem PySem.Spec PyProof.Rows L2
theorem at_cell {l : List Int} {i : Int} (h : 0 ≤ i) (h2 : i < l.length) : atI (ofI l) i = some (.int (cellF l i.toNat)) := by
  rw [atI_ofI, atI_pos h, cell_get (by omega)]
  rfl
theorem index_ok {n : Nat} {r s : List Int} (h : Iv n r s) {v : Nat} (hv : v < n) : indexD (ofI r) (.int v) = .ok (.int (cellF s v)) := by
  unfold indexD
  rw [toI_of]
  obtain ⟨h1, h2⟩ := h.idx hv
  show (if (v : Int) ∈ r then R.ok (D.int (r.idxOf (v : Int) : Nat)) else R.bad) = _
  rw [if_pos h1, h2]

theorem rep_zero : ∀ n : Nat, (List.replicate n [D.int 0]).flatten = ofI (List.replicate n 0)
  | 0 => rfl
  | n + 1 => by
    rw [List.replicate_succ, List.flatten_cons, rep_zero n]
    rfl
theorem deepAt_0 (nss : List (List Int)) (r : DE) : deepAt 0 (.deep nss :: r) = .ok nss := rfl
theorem deepAt_s (i : Nat) (a : Sl) (r : DE) : deepAt (i + 1) (a :: r) = deepAt i r := rfl
theorem frzD_0 (nss : List (List Int)) (r : DE) : frzD 0 (.deep nss :: r) = .val (.lst (nss.map fun ns => .lst (ofI ns))) :: r := rfl
theorem frzD_s (i : Nat) (a : Sl) (r : DE) : frzD (i + 1) (a :: r) = a :: frzD i r := by
  unfold frzD
  rw [List.getElem?_cons_succ]
  cases r[i]? with
  | none => rfl
  | some sl =>
    cases sl with
    | deep c => cases c <;> rfl
    | _ => rfl
theorem slB_0d (nss : List (List Int)) (r : DE) : slB 0 (.deep nss :: r) = .ok (.lst (nss.map fun ns => .lst (ofI ns))) := rfl
theorem compT_const {b : D → DE → R DE} {ct : DE → R Bool} {fe : DE → R (List D)} {e₀ : DE} (ns : List Int) : ∀ (w : List D), (∀ x ∈ w, ∃ e, b x e₀ = .ok e ∧ ct e = .ok true ∧ fe e = .ok (ofI ns)) → compT b ct fe e₀ w = .ok (w.map fun _ => ns)
  | [], _ => rfl
  | x :: w, h => by
    obtain ⟨e, h1, h2, h3⟩ := h x (by simp)
    have ih := compT_const ns w fun y hy => h y (by simp [hy])
    unfold compT
    rw [h1, R.ok_bind, h2, R.ok_bind, if_pos rfl, h3, R.ok_bind, toI_of, R.of_some, R.ok_bind, ih]
    rfl
def Mx (n : Nat) (M : List (List Int)) : Prop := M.length = n ∧ ∀ (k : Nat) (ns : List Int), M[k]? = some ns → ns.length = n
def mrow (M : List (List Int)) (i : Nat) : List Int := (M[i]?).getD []
def mput (M : List (List Int)) (i j : Nat) (d : Int) : List (List Int) := M.set i ((mrow M i).set j (cellF (mrow M i) j + d))
theorem mrow_get {n : Nat} {M : List (List Int)} (h : Mx n M) {i : Nat} (hi : i < n) : M[i]? = some (mrow M i) ∧ (mrow M i).length = n := by
  have hl : i < M.length := by rw [h.1]; exact hi
  have e : M[i]? = some (mrow M i) := by unfold mrow; rw [List.getElem?_eq_getElem hl]; rfl
  exact ⟨e, h.2 i _ e⟩
theorem mput_mx {n : Nat} {M : List (List Int)} (h : Mx n M) {i j : Nat} {d : Int} (hi : i < n) : Mx n (mput M i j d) := by
  refine ⟨by unfold mput; rw [List.length_set, h.1], fun k ns e => ?_⟩
  unfold mput at e
  by_cases hk : i = k
  · subst hk
    rw [List.getElem?_set_self (by rw [h.1]; exact hi)] at e
    cases e
    rw [List.length_set]
    exact (mrow_get h hi).2
  · rw [List.getElem?_set_ne hk] at e
    exact h.2 k ns e
theorem sub1_ok {n : Nat} {M : List (List Int)} (h : Mx n M) {l : Int} (h0 : 0 ≤ l) (hl : l < n) : sub1 M (.int l) = .ok (l.toNat, mrow M l.toNat) := by
  have hk : ixN M.length l = some l.toNat := by unfold L2.ixN; rw [if_pos h0, if_pos (by rw [h.1]; exact hl)]
  have hm := (mrow_get h (i := l.toNat) (by omega)).1
  unfold sub1
  simp -implicitDefEqProofs only [hk, hm]
theorem sub2_ok {ns : List Int} {l : Int} (h0 : 0 ≤ l) (hl : l < ns.length) : sub2 ns (.int l) = .ok (l, l.toNat) := by
  have hk : ixN ns.length l = some l.toNat := by unfold L2.ixN; rw [if_pos h0, if_pos hl]
  unfold sub2
  simp -implicitDefEqProofs only [hk, h0, if_true]
def sgI (k : Int) : Int := if 0 < k then 1 else -1
def tabF : List Int → List (List Int) → List Int → List (List Int)
  | [], M, _ => M
  | k :: w, M, o => tabF w (if 0 < k then mput M (cellF o (k.natAbs - 1)).toNat (cellF o k.natAbs).toNat 1 else mput M (cellF o k.natAbs).toNat (cellF o (k.natAbs - 1)).toNat (-1)) (swp o (k.natAbs - 1))
def msum (M : List (List Int)) : Int := (M.map List.sum).sum
theorem sum_set : ∀ (l : List Int) (j : Nat) (x : Int), j < l.length → (l.set j x).sum = l.sum - cellF l j + x
  | [], j, x, h => by simp at h
  | y :: l, 0, x, h => by
    show x + l.sum = y + l.sum - y + x
    omega
  | y :: l, j + 1, x, h => by
    show y + (l.set j x).sum = y + l.sum - cellF l j + x
    rw [sum_set l j x (by simpa using h)]
    omega
theorem msum_set : ∀ (M : List (List Int)) (i : Nat) (ns : List Int), i < M.length → msum (M.set i ns) = msum M - (mrow M i).sum + ns.sum
  | [], i, ns, h => by simp at h
  | r :: M, 0, ns, h => by
    show ns.sum + msum M = r.sum + msum M - r.sum + ns.sum
    omega
  | r :: M, i + 1, ns, h => by
    show r.sum + msum (M.set i ns) = r.sum + msum M - (mrow M i).sum + ns.sum
    rw [msum_set M i ns (by simpa using h)]
    omega
theorem msum_put {n : Nat} {M : List (List Int)} (h : Mx n M) {i j : Nat} {d : Int} (hi : i < n) (hj : j < n) : msum (mput M i j d) = msum M + d := by
  unfold mput
  have hr := (mrow_get h hi).2
  rw [msum_set _ _ _ (by rw [h.1]; exact hi), sum_set _ _ _ (by rw [hr]; exact hj)]
  omega
theorem isx_abs {n : Nat} {k : Int} (h : IsX n k) : 1 ≤ k.natAbs ∧ k.natAbs < n := by
  unfold IsX at h
  omega
theorem tab_mx {n : Nat} : ∀ (w : List Int) (M : List (List Int)) (p o : List Int), (∀ k ∈ w, IsX n k) → Mx n M → Iv n p o → Mx n (tabF w M o) ∧ msum (tabF w M o) = msum M + (w.map sgI).sum
  | [], M, p, o, _, h, _ => ⟨h, by simp [tabF]⟩
  | k :: w, M, p, o, hw, h, iv => by
    obtain ⟨k1, k2⟩ := isx_abs (hw k (by simp))
    obtain ⟨a1, a2, _⟩ := iv.sr (k.natAbs - 1) (by omega)
    obtain ⟨b1, b2, _⟩ := iv.sr k.natAbs (by omega)
    have st := iv.step (a := k.natAbs - 1) (by omega)
    unfold tabF
    by_cases hk : 0 < k
    · rw [if_pos hk]
      obtain ⟨h1, h2⟩ := tab_mx w _ _ _ (fun x hx => hw x (by simp [hx])) (mput_mx h (i := (cellF o (k.natAbs - 1)).toNat) (j := (cellF o k.natAbs).toNat) (d := 1) (by omega)) st
      refine ⟨h1, ?_⟩
      rw [h2, msum_put h (by omega) (by omega), List.map_cons, List.sum_cons]
      unfold sgI
      rw [if_pos hk]
      omega
    · rw [if_neg hk]
      obtain ⟨h1, h2⟩ := tab_mx w _ _ _ (fun x hx => hw x (by simp [hx])) (mput_mx h (i := (cellF o k.natAbs).toNat) (j := (cellF o (k.natAbs - 1)).toNat) (d := -1) (by omega)) st
      refine ⟨h1, ?_⟩
      rw [h2, msum_put h (by omega) (by omega), List.map_cons, List.sum_cons]
      unfold sgI
      rw [if_neg hk]
      omega
theorem swp_sets {o : List Int} {a : Nat} (h : a + 1 < o.length) : (o.set a (cellF o (a + 1))).set (a + 1) (cellF o a) = swp o a := by
  refine cell_ext (by rw [List.length_set, List.length_set, swp_len]) fun j hj => ?_
  rw [List.length_set, List.length_set] at hj
  rw [cell_set (by rw [List.length_set]; exact hj), cell_set hj, cell_swp _ _ h]
  repeat' split
  all_goals first | rfl | omega
theorem svl_sets {n : Nat} {r s : List Int} (h : Iv n r s) {a : Nat} (ha : a + 1 < n) : (r.set (cellF s a).toNat ((a : Int) + 1)).set (cellF s (a + 1)).toNat a = svl r a := by
  obtain ⟨h1, h2, h3⟩ := h.sr a (by omega)
  obtain ⟨g1, g2, g3⟩ := h.sr (a + 1) ha
  rw [show (((a + 1 : Nat)) : Int) = (a : Int) + 1 by omega] at g3
  refine cell_ext (by rw [List.length_set, List.length_set, svl_len]) fun p hp => ?_
  rw [List.length_set, List.length_set, h.lr] at hp
  obtain ⟨p1, p2, p3⟩ := h.rs p hp
  rw [cell_svl (by rw [h.lr]; exact hp), cell_set (by rw [List.length_set, h.lr]; exact hp), cell_set (by rw [h.lr]; exact hp)]
  unfold sg
  by_cases c1 : (cellF s (a + 1)).toNat = p
  · rw [if_pos c1]
    rw [c1] at g3
    rw [if_neg (by omega), if_pos g3]
  · rw [if_neg c1]
    by_cases c2 : (cellF s a).toNat = p
    · rw [if_pos c2]
      rw [c2] at h3
      rw [if_pos h3]
    · rw [if_neg c2, if_neg fun z => c2 (by rw [z, Int.toNat_natCast] at p3; omega), if_neg fun z => c1 (by rw [z, show ((a : Int) + 1).toNat = a + 1 by omega] at p3; omega)]
theorem iv_up (n : Nat) : Iv n (upTo n) (upTo n) := ⟨upTo_len n, upTo_len n, fun p hp => by rw [cell_upTo hp, Int.toNat_natCast, cell_upTo hp]; omega, fun p hp => by rw [cell_upTo hp, Int.toNat_natCast, cell_upTo hp]; omega⟩

theorem for_nil (b : D → DE → R Out) (e : DE) : forD b [] e = .ok (.nx e) := rfl
theorem for_cons {b : D → DE → R Out} {x : D} {xs : List D} {e e' : DE} (h : b x e = .ok (.nx e')) : forD b (x :: xs) e = forD b xs e' := by
  conv => lhs; unfold forD
  rw [h]
  rfl

def ordF (w o : List Int) : List Int := w.foldl (fun o k => swp o (k.natAbs - 1)) o
def plcF (w p : List Int) : List Int := w.foldl (fun p k => svl p (k.natAbs - 1)) p
theorem iv_fold {n : Nat} : ∀ (w p o : List Int), (∀ k ∈ w, IsX n k) → Iv n p o → Iv n (plcF w p) (ordF w o)
  | [], _, _, _, h => h
  | k :: w, p, o, hw, h => by
    obtain ⟨k1, k2⟩ := isx_abs (hw k (by simp))
    exact iv_fold w _ _ (fun x hx => hw x (by simp [hx])) (h.step (a := k.natAbs - 1) (by omega))
theorem swp_sets2 {o : List Int} {a : Nat} (h : a + 1 < o.length) : (o.set (a + 1) (cellF o a)).set a (cellF o (a + 1)) = swp o a := by
  rw [List.set_comm _ _ (by omega)]
  exact swp_sets h
theorem ord_l1 {n : Nat} (s0 s1 : Sl) {o : List Int} (hlo : o.length = n) {k : Int} (hk : IsX n k) (t3 t4 t5 : Sl) : ∃ t3' t4' t5', b_order_of_l1 (.int k) [s0, s1, .own (ofI o), t3, t4, t5] = .ok (.nx [s0, s1, .own (ofI (swp o (k.natAbs - 1))), t3', t4', t5']) := by
  obtain ⟨k1, k2⟩ := isx_abs hk
  obtain ⟨a, ha⟩ : ∃ a : Nat, k.natAbs = a + 1 := ⟨k.natAbs - 1, by omega⟩
  have hab : (if k < 0 then -k else k) = (a : Int) + 1 := by split <;> omega
  rw [ha, show a + 1 - 1 = a by omega]
  unfold b_order_of_l1
  simp -implicitDefEqProofs only [bN_ok, mS, mD, mF, mFS, initE, Nat.reduceAdd, Nat.reduceSub, Nat.reduceEqDiff, reduceIte, valO, lstO, q1, q2, q3, q4]
  rw [hab]
  rw [at_cell (by omega) (by omega), show ((a : Int) + 1).toNat = a + 1 by omega]
  simp -implicitDefEqProofs only [mS, mD, mF, mFS, initE, Nat.reduceAdd, Nat.reduceSub, Nat.reduceEqDiff, reduceIte, valO, lstO, q1, q2, q3, q4]
  rw [at_cell (by omega) (by omega), show ((a : Int) + 1 - 1).toNat = a by omega]
  simp -implicitDefEqProofs only [mS, mD, mF, mFS, initE, Nat.reduceAdd, Nat.reduceSub, Nat.reduceEqDiff, reduceIte, valO, lstO, q1, q2, q3, q4]
  rw [setO_nat (by omega) (by rw [ofI_len]; omega), ofI_set, show ((a : Int) + 1).toNat = a + 1 by omega]
  simp -implicitDefEqProofs only [mS, mD, mF, mFS, initE, Nat.reduceAdd, Nat.reduceSub, Nat.reduceEqDiff, reduceIte, valO, lstO, q1, q2, q3, q4]
  rw [setO_nat (by omega) (by rw [ofI_len, List.length_set]; omega), ofI_set, show ((a : Int) + 1 - 1).toNat = a by omega, swp_sets2 (by omega)]
  exact ⟨_, _, _, rfl⟩
theorem ord_loop {n : Nat} (s0 s1 : Sl) : ∀ (w o : List Int) (t3 t4 t5 : Sl), (∀ k ∈ w, IsX n k) → o.length = n → ∃ t3' t4' t5', forD b_order_of_l1 (ofI w) [s0, s1, .own (ofI o), t3, t4, t5] = .ok (.nx [s0, s1, .own (ofI (ordF w o)), t3', t4', t5'])
  | [], o, t3, t4, t5, _, _ => ⟨_, _, _, rfl⟩
  | k :: w, o, t3, t4, t5, hw, hl => by
    obtain ⟨u3, u4, u5, e⟩ := ord_l1 s0 s1 hl (hw k (by simp)) t3 t4 t5
    obtain ⟨v3, v4, v5, e2⟩ := ord_loop s0 s1 w (swp o (k.natAbs - 1)) u3 u4 u5 (fun x hx => hw x (by simp [hx])) (by rw [swp_len]; exact hl)
    exact ⟨v3, v4, v5, by rw [← ofI_cons, for_cons e]; exact e2⟩
theorem ordof_ok {n : Nat} (hn : n ≤ 7) {w : List Int} (hw : ∀ k ∈ w, IsX n k) : m_order_of [.int n, .lst (ofI w)] = .ok (ofI (ordF w (upTo n))) := by
  unfold m_order_of b_order_of
  simp -implicitDefEqProofs only [mS, mD, mF, mFS, initE, Nat.reduceAdd, Nat.reduceSub, Nat.reduceEqDiff, reduceIte, valO, lstO, q1, q2, q3, q4]
  rw [rngList_i _ (by omega), Int.toNat_natCast, upTo_rngL]
  simp -implicitDefEqProofs only [mS, mD, mF, mFS, initE, Nat.reduceAdd, Nat.reduceSub, Nat.reduceEqDiff, reduceIte, valO, lstO, q1, q2, q3, q4]
  obtain ⟨t3, t4, t5, e⟩ := ord_loop (n := n) (.val (.int n)) (.val (.lst (ofI w))) w (upTo n) .no .no .no hw (upTo_len n)
  rw [e]
  simp -implicitDefEqProofs only [mS, mD, mF, mFS, initE, Nat.reduceAdd, Nat.reduceSub, Nat.reduceEqDiff, reduceIte, valO, lstO, q1, q2, q3, q4, scL_i]
theorem ct_l3 {n : Nat} (s0 s1 : Sl) {M : List (List Int)} {p o : List Int} (hM : Mx n M) (iv : Iv n p o) {k : Int} (hk : IsX n k) (t4 t5 t6 : Sl) : ∃ t4' t5' t6', b__law_counted_l3 (.int k) [s0, s1, .deep M, .own (ofI p), t4, t5, t6] = .ok (.nx [s0, s1, .deep (Ct.ls (if 0 < k then mput M (cellF o (k.natAbs - 1)).toNat (cellF o k.natAbs).toNat 1 else mput M (cellF o k.natAbs).toNat (cellF o (k.natAbs - 1)).toNat (-1))), .own (ofI (svl p (k.natAbs - 1))), t4', t5', t6']) := by
  obtain ⟨k1, k2⟩ := isx_abs hk
  obtain ⟨a, ha⟩ : ∃ a : Nat, k.natAbs = a + 1 := ⟨k.natAbs - 1, by omega⟩
  have hab : (if k < 0 then -k else k) = (a : Int) + 1 := by split <;> omega
  obtain ⟨a1, a2, _⟩ := iv.sr a (by omega)
  obtain ⟨b1, b2, _⟩ := iv.sr (a + 1) (by omega)
  have hlp := iv.lr
  have i1 := index_ok iv (v := a) (by omega)
  have i2 := index_ok iv (v := a + 1) (by omega)
  rw [show (((a + 1 : Nat)) : Int) = (a : Int) + 1 by omega] at i2
  unfold b__law_counted_l3
  simp -implicitDefEqProofs only [bN_ok, mS, mD, mF, mFS, initE, Nat.reduceAdd, Nat.reduceSub, Nat.reduceEqDiff, reduceIte, valO, lstO, q1, q2, q3, q4]
  rw [hab, show ((a : Int) + 1 - 1) = a by omega, i1]
  simp -implicitDefEqProofs only [mS, mD, mF, mFS, initE, Nat.reduceAdd, Nat.reduceSub, Nat.reduceEqDiff, reduceIte, valO, lstO, q1, q2, q3, q4]
  rw [hab, i2]
  simp -implicitDefEqProofs only [mS, mD, mF, mFS, initE, Nat.reduceAdd, Nat.reduceSub, Nat.reduceEqDiff, reduceIte, valO, lstO, q1, q2, q3, q4, deepAt_0, deepAt_s, slB_0d, frzD_0, frzD_s, mT, deepO, seqO_rtT]
  rw [ha, show a + 1 - 1 = a by omega]
  have hc1 := (mrow_get hM (i := (cellF o a).toNat) (by omega)).2
  have hc2 := (mrow_get hM (i := (cellF o (a + 1)).toNat) (by omega)).2
  by_cases hp : 0 < k
  · simp -implicitDefEqProofs only [mS, mD, mF, mFS, initE, Nat.reduceAdd, Nat.reduceSub, Nat.reduceEqDiff, reduceIte, valO, lstO, q1, q2, q3, q4, hp, decide_true, deepAt_0, deepAt_s, slB_0d, frzD_0, frzD_s, mT, deepO, seqO_rtT]
    rw [sub1_ok hM a1 a2]
    simp -implicitDefEqProofs only [mS, mD, mF, mFS, initE, Nat.reduceAdd, Nat.reduceSub, Nat.reduceEqDiff, reduceIte, valO, lstO, q1, q2, q3, q4]
    rw [sub2_ok b1 (by rw [hc1]; exact b2)]
    simp -implicitDefEqProofs only [mS, mD, mF, mFS, initE, Nat.reduceAdd, Nat.reduceSub, Nat.reduceEqDiff, reduceIte, valO, lstO, q1, q2, q3, q4, augP]
    rw [hab, setO_nat a1 (by rw [ofI_len, hlp]; exact a2), ofI_set]
    simp -implicitDefEqProofs only [mS, mD, mF, mFS, initE, Nat.reduceAdd, Nat.reduceSub, Nat.reduceEqDiff, reduceIte, valO, lstO, q1, q2, q3, q4]
    rw [hab, show ((a : Int) + 1 - 1) = a by omega, setO_nat b1 (by rw [ofI_len, List.length_set, hlp]; exact b2), ofI_set, svl_sets iv (by omega)]
    exact ⟨_, _, _, rfl⟩
  · simp -implicitDefEqProofs only [mS, mD, mF, mFS, initE, Nat.reduceAdd, Nat.reduceSub, Nat.reduceEqDiff, reduceIte, valO, lstO, q1, q2, q3, q4, hp, decide_false, deepAt_0, deepAt_s, slB_0d, frzD_0, frzD_s, mT, deepO, seqO_rtT]
    rw [sub1_ok hM b1 b2]
    simp -implicitDefEqProofs only [mS, mD, mF, mFS, initE, Nat.reduceAdd, Nat.reduceSub, Nat.reduceEqDiff, reduceIte, valO, lstO, q1, q2, q3, q4]
    rw [sub2_ok a1 (by rw [hc2]; exact a2)]
    simp -implicitDefEqProofs only [mS, mD, mF, mFS, initE, Nat.reduceAdd, Nat.reduceSub, Nat.reduceEqDiff, reduceIte, valO, lstO, q1, q2, q3, q4, augP]
    rw [hab, setO_nat a1 (by rw [ofI_len, hlp]; exact a2), ofI_set]
    simp -implicitDefEqProofs only [mS, mD, mF, mFS, initE, Nat.reduceAdd, Nat.reduceSub, Nat.reduceEqDiff, reduceIte, valO, lstO, q1, q2, q3, q4]
    rw [hab, show ((a : Int) + 1 - 1) = a by omega, setO_nat b1 (by rw [ofI_len, List.length_set, hlp]; exact b2), ofI_set, svl_sets iv (by omega)]
    exact ⟨_, _, _, rfl⟩
theorem nxt_mx {n : Nat} {M : List (List Int)} {p o : List Int} (hM : Mx n M) (iv : Iv n p o) {k : Int} (hk : IsX n k) : Mx n (if 0 < k then mput M (cellF o (k.natAbs - 1)).toNat (cellF o k.natAbs).toNat 1 else mput M (cellF o k.natAbs).toNat (cellF o (k.natAbs - 1)).toNat (-1)) := by
  obtain ⟨k1, k2⟩ := isx_abs hk
  obtain ⟨a1, a2, _⟩ := iv.sr (k.natAbs - 1) (by omega)
  obtain ⟨b1, b2, _⟩ := iv.sr k.natAbs (by omega)
  split
  · exact mput_mx hM (by omega)
  · exact mput_mx hM (by omega)

theorem ct_loop {n : Nat} (s0 s1 : Sl) : ∀ (w : List Int) (M : List (List Int)) (p o : List Int) (t4 t5 t6 : Sl), (∀ k ∈ w, IsX n k) → Mx n M → Iv n p o → ∃ t4' t5' t6', forD b__law_counted_l3 (ofI w) [s0, s1, .deep M, .own (ofI p), t4, t5, t6] = .ok (.nx [s0, s1, .deep (tabF w M o), .own (ofI (plcF w p)), t4', t5', t6'])
  | [], M, p, o, t4, t5, t6, _, _, _ => ⟨_, _, _, rfl⟩
  | k :: w, M, p, o, t4, t5, t6, hw, hM, iv => by
    have hk := hw k (by simp)
    obtain ⟨k1, k2⟩ := isx_abs hk
    obtain ⟨u4, u5, u6, e⟩ := ct_l3 s0 s1 hM iv hk t4 t5 t6
    obtain ⟨v4, v5, v6, e2⟩ := ct_loop s0 s1 w _ _ _ u4 u5 u6 (fun x hx => hw x (by simp [hx])) (nxt_mx hM iv hk) (iv.step (a := k.natAbs - 1) (by omega))
    refine ⟨v4, v5, v6, ?_⟩
    rw [← ofI_cons]
    unfold forD
    rw [e]
    exact e2
def M0 (n : Nat) : List (List Int) := (ofI (upTo n)).map fun _ => List.replicate n 0
theorem M0_mx (n : Nat) : Mx n (M0 n) := ⟨by unfold M0; rw [List.length_map, ofI_len, upTo_len], fun k ns e => by
  unfold M0 at e
  rw [List.getElem?_map] at e
  cases h : (ofI (upTo n))[k]? with
  | none => rw [h] at e; cases e
  | some d => rw [h] at e; cases e; exact List.length_replicate⟩

theorem counted_ok {n : Nat} (hn : n ≤ 7) {w : List Int} (hw : ∀ k ∈ w, IsX n k) : m__law_counted [.int n, .lst (ofI w)] = .ok (.tup [.lst ((tabF w (M0 n) (upTo n)).map fun ns => .lst (ofI ns)), .lst (ofI (plcF w (upTo n)))]) := by
  unfold m__law_counted b__law_counted
  simp -implicitDefEqProofs only [mS, mD, mF, mFS, initE, Nat.reduceAdd, Nat.reduceSub, Nat.reduceEqDiff, reduceIte, valO, lstO, q1, q2, q3, q4, deepAt_0, deepAt_s, slB_0d, frzD_0, frzD_s, mT, deepO, seqO_rtT]
  rw [rng1_i n (by omega), Int.toNat_natCast, upTo_rngL]
  simp -implicitDefEqProofs only [mS, mD, mF, mFS, initE, Nat.reduceAdd, Nat.reduceSub, Nat.reduceEqDiff, reduceIte, valO, lstO, q1, q2, q3, q4, capt]
  rw [compT_const (List.replicate n 0) _ fun x _ => ⟨_, bN_ok _ _ _, rfl, by
    unfold b__law_counted_c2 cpE
    simp -implicitDefEqProofs only [mS, mD, mF, mFS, initE, Nat.reduceAdd, Nat.reduceSub, Nat.reduceEqDiff, reduceIte, valO, lstO, q1, q2, q3, q4]
    rw [repL_i _ _ ⟨by omega, by omega, big (by rw [Int.toNat_natCast, List.length_cons, List.length_nil]; omega)⟩, Int.toNat_natCast, rep_zero]⟩]
  simp -implicitDefEqProofs only [mS, mD, mF, mFS, initE, Nat.reduceAdd, Nat.reduceSub, Nat.reduceEqDiff, reduceIte, valO, lstO, q1, q2, q3, q4, R.ne_okk]
  rw [fit_ok (big (by rw [List.length_map, ofI_len, upTo_len]; omega))]
  simp -implicitDefEqProofs only [mS, mD, mF, mFS, initE, Nat.reduceAdd, Nat.reduceSub, Nat.reduceEqDiff, reduceIte, valO, lstO, q1, q2, q3, q4]
  rw [rngList_i _ (by omega), Int.toNat_natCast, upTo_rngL]
  simp -implicitDefEqProofs only [mS, mD, mF, mFS, initE, Nat.reduceAdd, Nat.reduceSub, Nat.reduceEqDiff, reduceIte, valO, lstO, q1, q2, q3, q4]
  obtain ⟨t4, t5, t6, e⟩ := ct_loop (.val (.int n)) (.val (.lst (ofI w))) w (M0 n) (upTo n) (upTo n) .no .no .no hw (M0_mx n) (iv_up n)
  rw [show ((ofI (upTo n)).map fun _ => List.replicate n (0 : Int)) = M0 n from rfl, e]
  simp -implicitDefEqProofs only [mS, mD, mF, mFS, initE, Nat.reduceAdd, Nat.reduceSub, Nat.reduceEqDiff, reduceIte, valO, lstO, q1, q2, q3, q4, deepAt_0, deepAt_s, slB_0d, frzD_0, frzD_s, mT, deepO, seqO_rtT, R.ne_okk]

theorem tb_l3 {n : Nat} (s0 s1 : Sl) {M : List (List Int)} {p o : List Int} (hM : Mx n M) (iv : Iv n p o) {k : Int} (hk : IsX n k) (t4 t5 t6 t7 : Sl) : ∃ t4' t5' t6' t7', b_table_l3 (.int k) [s0, s1, .deep M, .own (ofI o), t4, t5, t6, t7] = .ok (.nx [s0, s1, .deep (Ct.ls (if 0 < k then mput M (cellF o (k.natAbs - 1)).toNat (cellF o k.natAbs).toNat 1 else mput M (cellF o k.natAbs).toNat (cellF o (k.natAbs - 1)).toNat (-1))), .own (ofI (swp o (k.natAbs - 1))), t4', t5', t6', t7']) := by
  obtain ⟨k1, k2⟩ := isx_abs hk
  obtain ⟨a, ha⟩ : ∃ a : Nat, k.natAbs = a + 1 := ⟨k.natAbs - 1, by omega⟩
  have hab : (if k < 0 then -k else k) = (a : Int) + 1 := by split <;> omega
  obtain ⟨a1, a2, _⟩ := iv.sr a (by omega)
  obtain ⟨b1, b2, _⟩ := iv.sr (a + 1) (by omega)
  have hlo := iv.ls
  unfold b_table_l3
  simp -implicitDefEqProofs only [bN_ok, mS, mD, mF, mFS, initE, Nat.reduceAdd, Nat.reduceSub, Nat.reduceEqDiff, reduceIte, valO, lstO, q1, q2, q3, q4]
  rw [hab]
  rw [at_cell (by omega) (by omega), show ((a : Int) + 1 - 1).toNat = a by omega]
  simp -implicitDefEqProofs only [mS, mD, mF, mFS, initE, Nat.reduceAdd, Nat.reduceSub, Nat.reduceEqDiff, reduceIte, valO, lstO, q1, q2, q3, q4]
  rw [at_cell (by omega) (by omega), show ((a : Int) + 1).toNat = a + 1 by omega]
  simp -implicitDefEqProofs only [mS, mD, mF, mFS, initE, Nat.reduceAdd, Nat.reduceSub, Nat.reduceEqDiff, reduceIte, valO, lstO, q1, q2, q3, q4, deepAt_0, deepAt_s, slB_0d, frzD_0, frzD_s, mT, deepO, seqO_rtT]
  rw [ha, show a + 1 - 1 = a by omega]
  have hc1 := (mrow_get hM (i := (cellF o a).toNat) (by omega)).2
  have hc2 := (mrow_get hM (i := (cellF o (a + 1)).toNat) (by omega)).2
  by_cases hp : 0 < k
  · simp -implicitDefEqProofs only [mS, mD, mF, mFS, initE, Nat.reduceAdd, Nat.reduceSub, Nat.reduceEqDiff, reduceIte, valO, lstO, q1, q2, q3, q4, hp, decide_true, deepAt_0, deepAt_s, slB_0d, frzD_0, frzD_s, mT, deepO, seqO_rtT]
    rw [sub1_ok hM a1 a2]
    simp -implicitDefEqProofs only [mS, mD, mF, mFS, initE, Nat.reduceAdd, Nat.reduceSub, Nat.reduceEqDiff, reduceIte, valO, lstO, q1, q2, q3, q4]
    rw [sub2_ok b1 (by rw [hc1]; exact b2)]
    simp -implicitDefEqProofs only [mS, mD, mF, mFS, initE, Nat.reduceAdd, Nat.reduceSub, Nat.reduceEqDiff, reduceIte, valO, lstO, q1, q2, q3, q4, augP]
    rw [setO_nat (by omega) (by rw [ofI_len]; omega), ofI_set, show ((a : Int) + 1 - 1).toNat = a by omega]
    simp -implicitDefEqProofs only [mS, mD, mF, mFS, initE, Nat.reduceAdd, Nat.reduceSub, Nat.reduceEqDiff, reduceIte, valO, lstO, q1, q2, q3, q4]
    rw [setO_nat (by omega) (by rw [ofI_len, List.length_set]; omega), ofI_set, show ((a : Int) + 1).toNat = a + 1 by omega, swp_sets (by omega)]
    exact ⟨_, _, _, _, rfl⟩
  · simp -implicitDefEqProofs only [mS, mD, mF, mFS, initE, Nat.reduceAdd, Nat.reduceSub, Nat.reduceEqDiff, reduceIte, valO, lstO, q1, q2, q3, q4, hp, decide_false, deepAt_0, deepAt_s, slB_0d, frzD_0, frzD_s, mT, deepO, seqO_rtT]
    rw [sub1_ok hM b1 b2]
    simp -implicitDefEqProofs only [mS, mD, mF, mFS, initE, Nat.reduceAdd, Nat.reduceSub, Nat.reduceEqDiff, reduceIte, valO, lstO, q1, q2, q3, q4]
    rw [sub2_ok a1 (by rw [hc2]; exact a2)]
    simp -implicitDefEqProofs only [mS, mD, mF, mFS, initE, Nat.reduceAdd, Nat.reduceSub, Nat.reduceEqDiff, reduceIte, valO, lstO, q1, q2, q3, q4, augP]
    rw [setO_nat (by omega) (by rw [ofI_len]; omega), ofI_set, show ((a : Int) + 1 - 1).toNat = a by omega]
    simp -implicitDefEqProofs only [mS, mD, mF, mFS, initE, Nat.reduceAdd, Nat.reduceSub, Nat.reduceEqDiff, reduceIte, valO, lstO, q1, q2, q3, q4]
    rw [setO_nat (by omega) (by rw [ofI_len, List.length_set]; omega), ofI_set, show ((a : Int) + 1).toNat = a + 1 by omega, swp_sets (by omega)]
    exact ⟨_, _, _, _, rfl⟩
theorem tb_loop {n : Nat} (s0 s1 : Sl) : ∀ (w : List Int) (M : List (List Int)) (p o : List Int) (t4 t5 t6 t7 : Sl), (∀ k ∈ w, IsX n k) → Mx n M → Iv n p o → ∃ t3 t4' t5' t6' t7', forD b_table_l3 (ofI w) [s0, s1, .deep M, .own (ofI o), t4, t5, t6, t7] = .ok (.nx [s0, s1, .deep (tabF w M o), t3, t4', t5', t6', t7'])
  | [], M, p, o, t4, t5, t6, t7, _, _, _ => ⟨_, _, _, _, _, rfl⟩
  | k :: w, M, p, o, t4, t5, t6, t7, hw, hM, iv => by
    have hk := hw k (by simp)
    obtain ⟨k1, k2⟩ := isx_abs hk
    obtain ⟨u4, u5, u6, u7, e⟩ := tb_l3 s0 s1 hM iv hk t4 t5 t6 t7
    obtain ⟨v3, v4, v5, v6, v7, e2⟩ := tb_loop s0 s1 w _ _ _ u4 u5 u6 u7 (fun x hx => hw x (by simp [hx])) (nxt_mx hM iv hk) (iv.step (a := k.natAbs - 1) (by omega))
    refine ⟨v3, v4, v5, v6, v7, ?_⟩
    rw [← ofI_cons]
    unfold forD
    rw [e]
    exact e2
theorem table_ok {n : Nat} (hn : n ≤ 7) {w : List Int} (hw : ∀ k ∈ w, IsX n k) : m_table [.int n, .lst (ofI w)] = .ok (tabF w (M0 n) (upTo n)) := by
  unfold m_table b_table
  simp -implicitDefEqProofs only [mS, mD, mF, mFS, initE, Nat.reduceAdd, Nat.reduceSub, Nat.reduceEqDiff, reduceIte, valO, lstO, q1, q2, q3, q4, deepAt_0, deepAt_s, slB_0d, frzD_0, frzD_s, mT, deepO, seqO_rtT]
  rw [rng1_i n (by omega), Int.toNat_natCast, upTo_rngL]
  simp -implicitDefEqProofs only [mS, mD, mF, mFS, initE, Nat.reduceAdd, Nat.reduceSub, Nat.reduceEqDiff, reduceIte, valO, lstO, q1, q2, q3, q4, capt]
  rw [compT_const (List.replicate n 0) _ fun x _ => ⟨_, bN_ok _ _ _, rfl, by
    unfold b_table_c2 cpE
    simp -implicitDefEqProofs only [mS, mD, mF, mFS, initE, Nat.reduceAdd, Nat.reduceSub, Nat.reduceEqDiff, reduceIte, valO, lstO, q1, q2, q3, q4]
    rw [repL_i _ _ ⟨by omega, by omega, big (by rw [Int.toNat_natCast, List.length_cons, List.length_nil]; omega)⟩, Int.toNat_natCast, rep_zero]⟩]
  simp -implicitDefEqProofs only [mS, mD, mF, mFS, initE, Nat.reduceAdd, Nat.reduceSub, Nat.reduceEqDiff, reduceIte, valO, lstO, q1, q2, q3, q4, R.ne_okk]
  rw [fit_ok (big (by rw [List.length_map, ofI_len, upTo_len]; omega))]
  simp -implicitDefEqProofs only [mS, mD, mF, mFS, initE, Nat.reduceAdd, Nat.reduceSub, Nat.reduceEqDiff, reduceIte, valO, lstO, q1, q2, q3, q4]
  rw [rngList_i _ (by omega), Int.toNat_natCast, upTo_rngL]
  simp -implicitDefEqProofs only [mS, mD, mF, mFS, initE, Nat.reduceAdd, Nat.reduceSub, Nat.reduceEqDiff, reduceIte, valO, lstO, q1, q2, q3, q4]
  obtain ⟨t3, t4, t5, t6, t7, e⟩ := tb_loop (.val (.int n)) (.val (.lst (ofI w))) w (M0 n) (upTo n) (upTo n) .no .no .no .no hw (M0_mx n) (iv_up n)
  rw [show ((ofI (upTo n)).map fun _ => List.replicate n (0 : Int)) = M0 n from rfl, e]
  simp -implicitDefEqProofs only [mS, mD, mF, mFS, initE, Nat.reduceAdd, Nat.reduceSub, Nat.reduceEqDiff, reduceIte, valO, lstO, q1, q2, q3, q4, deepAt_0, deepAt_s, slB_0d, frzD_0, frzD_s, mT, deepO, seqO_rtT, R.ne_okk]
end DL

namespace DL
open PySem PySem.Spec PyProof.Rows L2

def itr (P : Int → Int) : Nat → Int → Int
  | 0, x => x
  | k + 1, x => itr P k (P x)
theorem itr_add (P : Int → Int) : ∀ (a b : Nat) (x : Int), itr P (a + b) x = itr P b (itr P a x)
  | 0, b, x => by rw [Nat.zero_add]; rfl
  | a + 1, b, x => by
    rw [show a + 1 + b = (a + b) + 1 by omega]
    exact itr_add P a b (P x)
theorem itr_succ (P : Int → Int) (a : Nat) (x : Int) : itr P (a + 1) x = P (itr P a x) := itr_add P a 1 x
theorem nodup_len : ∀ (n : Nat) (l : List Int), l.Nodup → (∀ x ∈ l, 0 ≤ x ∧ x < n) → l.length ≤ n
  | 0, [], _, _ => by simp
  | 0, x :: l, _, h => by
    have := h x (by simp)
    omega
  | n + 1, l, nd, h => by
    have ih := nodup_len n (l.erase (n : Int)) (nd.erase _) fun x hx => by
      obtain ⟨h1, h2⟩ := nd.mem_erase_iff.mp hx
      have := h x h2
      omega
    rw [List.length_erase] at ih
    split at ih <;> omega
structure Pm (n : Nat) (P : Int → Int) : Prop where
  to : ∀ x : Int, 0 ≤ x → x < n → 0 ≤ P x ∧ P x < n
  inj : ∀ x y : Int, 0 ≤ x → x < n → 0 ≤ y → y < n → P x = P y → x = y
theorem Pm.itr {n : Nat} {P : Int → Int} (h : Pm n P) : ∀ (k : Nat) (x : Int), 0 ≤ x → x < n → 0 ≤ itr P k x ∧ itr P k x < n
  | 0, x, h0, h1 => ⟨h0, h1⟩
  | k + 1, x, h0, h1 => by
    obtain ⟨a, b⟩ := h.to x h0 h1
    exact h.itr k (P x) a b
theorem Pm.itr_inj {n : Nat} {P : Int → Int} (h : Pm n P) : ∀ (k : Nat) (x y : Int), 0 ≤ x → x < n → 0 ≤ y → y < n → DL.itr P k x = DL.itr P k y → x = y
  | 0, x, y, _, _, _, _, e => e
  | k + 1, x, y, h0, h1, g0, g1, e => by
    obtain ⟨a, b⟩ := h.to x h0 h1
    obtain ⟨c, d⟩ := h.to y g0 g1
    exact h.inj x y h0 h1 g0 g1 (h.itr_inj k _ _ a b c d e)
theorem Pm.ret {n : Nat} {P : Int → Int} (h : Pm n P) {x : Int} (h0 : 0 ≤ x) (h1 : x < n) : ∃ m, 1 ≤ m ∧ m ≤ n ∧ DL.itr P m x = x := by
  by_cases hc : ∃ i j : Nat, i < j ∧ j ≤ n ∧ DL.itr P i x = DL.itr P j x
  · obtain ⟨i, j, hij, hj, e⟩ := hc
    refine ⟨j - i, by omega, by omega, ?_⟩
    obtain ⟨a, b⟩ := h.itr (j - i) x h0 h1
    refine (h.itr_inj i x _ h0 h1 a b ?_).symm
    rw [e, ← itr_add, show j - i + i = j by omega]
  · exfalso
    have nd : ((List.range (n + 1)).map fun k => DL.itr P k x).Nodup := by
      unfold List.Nodup
      rw [List.pairwise_map, List.pairwise_iff_getElem]
      intro i j hi hj hij e
      rw [List.length_range] at hi hj
      rw [List.getElem_range, List.getElem_range] at e
      exact hc ⟨i, j, hij, by omega, e⟩
    have := nodup_len n _ nd fun y hy => by
      obtain ⟨k, _, rfl⟩ := List.mem_map.mp hy
      exact h.itr k x h0 h1
    rw [List.length_map, List.length_range] at this
    omega
def orb (P : Int → Int) (f : Int) : Nat → Int → List Int
  | 0, _ => []
  | k + 1, x => if x = f then [] else x :: orb P f k (P x)
def rg (P : Int → Int) (f : Int) : List Int := f :: orb P f 7 (P f)
def Rt (P : Int → Int) (f : Int) (k : Nat) (x : Int) : Prop := ∃ j, j ≤ k ∧ itr P j x = f
theorem Rt.next {P : Int → Int} {f x : Int} {k : Nat} (h : Rt P f (k + 1) x) (hx : x ≠ f) : Rt P f k (P x) := by
  obtain ⟨j, hj, e⟩ := h
  cases j with
  | zero => exact (hx e).elim
  | succ j => exact ⟨j, by omega, e⟩
theorem Rt.zero {P : Int → Int} {f x : Int} (h : Rt P f 0 x) : x = f := by
  obtain ⟨j, hj, e⟩ := h
  have : j = 0 := by omega
  subst this
  exact e
theorem orb_len (P : Int → Int) (f : Int) : ∀ (k : Nat) (x : Int), (orb P f k x).length ≤ k
  | 0, x => by simp [orb]
  | k + 1, x => by
    have := orb_len P f k (P x)
    unfold orb
    split
    · simp
    · rw [List.length_cons]; omega
theorem orb_mem {P : Int → Int} {f : Int} : ∀ (k : Nat) (x y : Int), y ∈ orb P f k x → ∃ j, itr P j x = y
  | 0, x, y, h => by simp [orb] at h
  | k + 1, x, y, h => by
    unfold orb at h
    split at h
    · simp at h
    · rcases List.mem_cons.mp h with e | h
      · exact ⟨0, e.symm⟩
      · obtain ⟨j, e⟩ := orb_mem k (P x) y h
        exact ⟨j + 1, e⟩
theorem orb_head {P : Int → Int} {f x : Int} {k : Nat} (h : Rt P f k x) (hx : x ≠ f) : x ∈ orb P f k x := by
  cases k with
  | zero => exact (hx h.zero).elim
  | succ k =>
    unfold orb
    rw [if_neg hx]
    exact List.mem_cons_self
theorem orb_step {P : Int → Int} {f : Int} : ∀ (k : Nat) (x y : Int), Rt P f k x → y ∈ orb P f k x → P y = f ∨ P y ∈ orb P f k x
  | 0, x, y, _, h => by simp [orb] at h
  | k + 1, x, y, hr, h => by
    unfold orb at h ⊢
    split at h
    · simp at h
    · rename_i hx
      rw [if_neg hx]
      have hr' := hr.next hx
      rcases List.mem_cons.mp h with e | h
      · rw [e]
        by_cases hp : P x = f
        · exact .inl hp
        · exact .inr (List.mem_cons_of_mem _ (orb_head hr' hp))
      · rcases orb_step k (P x) y hr' h with e | e
        · exact .inl e
        · exact .inr (List.mem_cons_of_mem _ e)
theorem Pm.rt {n : Nat} (hn : n ≤ 7) {P : Int → Int} (h : Pm n P) {f : Int} (h0 : 0 ≤ f) (h1 : f < n) : Rt P f 6 (P f) := by
  obtain ⟨m, m1, m2, e⟩ := h.ret h0 h1
  obtain ⟨j, rfl⟩ : ∃ j, m = j + 1 := ⟨m - 1, by omega⟩
  exact ⟨j, by omega, e⟩
theorem Rt.more {P : Int → Int} {f x : Int} {k l : Nat} (h : Rt P f k x) (hl : k ≤ l) : Rt P f l x := by
  obtain ⟨j, hj, e⟩ := h
  exact ⟨j, by omega, e⟩
theorem mem_rg {n : Nat} (hn : n ≤ 7) {P : Int → Int} (h : Pm n P) {f : Int} (h0 : 0 ≤ f) (h1 : f < n) (y : Int) : y ∈ rg P f ↔ ∃ k, DL.itr P k f = y := by
  have hr := (h.rt hn h0 h1).more (l := 7) (by omega)
  constructor
  · intro hy
    rcases List.mem_cons.mp hy with e | hy
    · exact ⟨0, e.symm⟩
    · obtain ⟨j, e⟩ := orb_mem 7 (P f) y hy
      exact ⟨j + 1, e⟩
  · rintro ⟨k, rfl⟩
    induction k with
    | zero => exact List.mem_cons_self
    | succ k ih =>
      rw [itr_succ]
      rcases List.mem_cons.mp ih with e | ih
      · rw [e]
        by_cases hp : P f = f
        · rw [hp]; exact List.mem_cons_self
        · exact List.mem_cons_of_mem _ (orb_head hr hp)
      · rcases orb_step 7 (P f) _ hr ih with e | e
        · rw [e]; exact List.mem_cons_self
        · exact List.mem_cons_of_mem _ e
theorem itr_mul {P : Int → Int} {m : Nat} {x : Int} (e : itr P m x = x) : ∀ t : Nat, itr P (m * t) x = x
  | 0 => rfl
  | t + 1 => by rw [Nat.mul_succ, itr_add, itr_mul e t, e]
theorem Pm.symm {n : Nat} {P : Int → Int} (h : Pm n P) {x y : Int} (h0 : 0 ≤ x) (h1 : x < n) (e : ∃ k, DL.itr P k x = y) : ∃ k, DL.itr P k y = x := by
  obtain ⟨k, rfl⟩ := e
  obtain ⟨m, m1, _, e⟩ := h.ret h0 h1
  refine ⟨m * k - k, ?_⟩
  have hk : k ≤ m * k := Nat.le_mul_of_pos_left k (by omega)
  rw [← itr_add, show k + (m * k - k) = m * k by omega, itr_mul e]
theorem itr_trans {P : Int → Int} {x y z : Int} (h1 : ∃ k, itr P k x = y) (h2 : ∃ k, itr P k y = z) : ∃ k, itr P k x = z := by
  obtain ⟨a, rfl⟩ := h1
  obtain ⟨b, rfl⟩ := h2
  exact ⟨a + b, itr_add P a b x⟩
def lst (P : Int → Int) (f : Int) : Bool := (rg P f).all fun y => decide (f ≤ y)
def rgs (P : Int → Int) (n : Nat) : List (List Int) := ((upTo n).filter (lst P)).map (rg P)
theorem rgs_succ (P : Int → Int) (k : Nat) : rgs P (k + 1) = rgs P k ++ (if lst P k = true then [rg P k] else []) := by
  unfold rgs
  rw [upTo_succ, List.filter_append, List.map_append, List.filter_cons, List.filter_nil]
  split <;> rfl
theorem rg_rng {n : Nat} (hn : n ≤ 7) {P : Int → Int} (h : Pm n P) {f : Int} (h0 : 0 ≤ f) (h1 : f < n) {y : Int} (hy : y ∈ rg P f) : 0 ≤ y ∧ y < n := by
  obtain ⟨k, rfl⟩ := (mem_rg hn h h0 h1 y).mp hy
  exact h.itr k f h0 h1
theorem rg_len (P : Int → Int) (f : Int) : (rg P f).length ≤ 8 := by
  unfold rg
  have := orb_len P f 7 (P f)
  rw [List.length_cons]
  omega
def Tk (P : Int → Int) (f : Nat) (ks : List Int) : Prop := ks.length ≤ 8 * f ∧ ∀ x, x ∈ ks ↔ ∃ g : Nat, g < f ∧ ∃ k, itr P k g = x
theorem tk_lst {n : Nat} (hn : n ≤ 7) {P : Int → Int} (h : Pm n P) {f : Nat} (hf : f < n) {ks : List Int} (tk : Tk P f ks) : decide ((f : Int) ∈ ks) = !lst P f := by
  by_cases hm : (f : Int) ∈ ks
  · obtain ⟨g, hg, hk⟩ := (tk.2 _).mp hm
    have hs := h.symm (x := g) (by omega) (by omega) hk
    have : (g : Int) ∈ rg P f := (mem_rg hn h (by omega) (by omega) _).mpr hs
    have hl : lst P f = false := by
      unfold lst
      rw [List.all_eq_false]
      exact ⟨g, this, by simp; omega⟩
    rw [decide_eq_true hm, hl]
    rfl
  · have hl : lst P f = true := by
      unfold lst
      rw [List.all_eq_true]
      intro y hy
      rw [decide_eq_true_eq]
      refine Int.not_lt.mp fun hlt => hm ((tk.2 _).mpr ?_)
      obtain ⟨y0, y1⟩ := rg_rng hn h (by omega) (by omega) hy
      refine ⟨y.toNat, by omega, ?_⟩
      rw [show ((y.toNat : Nat) : Int) = y by omega]
      exact h.symm (x := f) (by omega) (by omega) ((mem_rg hn h (by omega) (by omega) y).mp hy)
    rw [decide_eq_false hm, hl]
    rfl
theorem mem_putI {ks : List Int} {k x : Int} : x ∈ putI ks k ↔ x ∈ ks ∨ x = k := by
  unfold putI
  split
  · rename_i h
    constructor
    · exact .inl
    · rintro (h' | rfl)
      · exact h'
      · exact h
  · simp
theorem mem_foldI : ∀ (ns ks : List Int) {x : Int}, x ∈ ns.foldl putI ks ↔ x ∈ ks ∨ x ∈ ns
  | [], ks, x => by simp
  | n :: ns, ks, x => by
    rw [List.foldl_cons, mem_foldI ns, mem_putI, List.mem_cons]
    constructor
    · rintro ((h | h) | h)
      · exact .inl h
      · exact .inr (.inl h)
      · exact .inr (.inr h)
    · rintro (h | h | h)
      · exact .inl (.inl h)
      · exact .inl (.inr h)
      · exact .inr h
theorem tk_yes {n : Nat} (hn : n ≤ 7) {P : Int → Int} (h : Pm n P) {f : Nat} (hf : f < n) {ks : List Int} (tk : Tk P f ks) : Tk P (f + 1) ((rg P f).foldl putI ks) := by
  refine ⟨?_, fun x => ?_⟩
  · have h1 := foldI_len (rg P f) ks
    have h2 := rg_len P f
    have h3 := tk.1
    omega
  · rw [mem_foldI, tk.2, mem_rg hn h (by omega) (by omega)]
    constructor
    · rintro (⟨g, hg, hk⟩ | hk)
      · exact ⟨g, by omega, hk⟩
      · exact ⟨f, by omega, hk⟩
    · rintro ⟨g, hg, hk⟩
      by_cases e : g = f
      · subst e; exact .inr hk
      · exact .inl ⟨g, by omega, hk⟩
theorem tk_no {P : Int → Int} {f : Nat} {ks : List Int} (tk : Tk P f ks) (hm : (f : Int) ∈ ks) : Tk P (f + 1) ks := by
  refine ⟨by have := tk.1; omega, fun x => ?_⟩
  rw [tk.2]
  constructor
  · rintro ⟨g, hg, hk⟩
    exact ⟨g, by omega, hk⟩
  · rintro ⟨g, hg, hk⟩
    by_cases e : g = f
    · subst e
      obtain ⟨g', hg', hk'⟩ := (tk.2 _).mp hm
      exact ⟨g', hg', itr_trans hk' hk⟩
    · exact ⟨g, by omega, hk⟩
theorem iv_pm {n : Nat} {p o : List Int} (iv : Iv n p o) : Pm n (fun x => cellF p x.toNat) := ⟨fun x h0 h1 => by
  obtain ⟨a, b, _⟩ := iv.rs x.toNat (by omega)
  exact ⟨a, b⟩, fun x y h0 h1 g0 g1 e => by
  have := iv.symm.sne (v := x.toNat) (w := y.toNat) (by omega) (by omega) e
  omega⟩

end DL

namespace DL
open PySem PySem.Spec PyProof.Rows L2

theorem at_last (acc : List Int) (y : Int) : atI (ofI (acc ++ [y])) (-1) = some (.int y) := by
  rw [atI_ofI]
  unfold L2.atI L2.ixN
  rw [if_neg (by decide), List.length_append, List.length_singleton]
  rw [if_pos (by omega)]
  simp
  rw [show (-1 + ((acc.length : Int) + 1)).toNat = acc.length by omega]
  simp
def PF (p : List Int) (x : Int) : Int := cellF p x.toNat
theorem while_go {c : DE → R Bool} {b : DE → R Out} {n : Nat} {e e' : DE} (hc : c e = .ok true) (hb : b e = .ok (.nx e')) : whileD c b (n + 1) e = whileD c b n e' := by
  conv => lhs; unfold whileD
  rw [hc, R.ok_bind, if_pos rfl, hb]
  rfl
theorem while_stop {c : DE → R Bool} {b : DE → R Out} {n : Nat} {e : DE} (hc : c e = .ok false) : whileD c b (n + 1) e = .ok (.nx e) := by
  conv => lhs; unfold whileD
  rw [hc, R.ok_bind, if_neg (by decide)]
theorem rf_while {n : Nat} {p o : List Int} (iv : Iv n p o) (f : Int) : ∀ (k fuel : Nat) (x : Int) (acc : List Int), k < fuel → Rt (PF p) f k x → 0 ≤ x → x < n → acc.length + k < 1000 → ∃ t, whileD b_ring_from_w1 b_ring_from_l2 fuel [.val (.lst (ofI o)), .val (.int f), .own (ofI acc), .val (.int x)] = .ok (.nx [.val (.lst (ofI o)), .val (.int f), .own (ofI (acc ++ orb (PF p) f k x)), t])
  | k, 0, x, acc, hf, _, _, _, _ => by omega
  | k, fuel + 1, x, acc, hf, hr, h0, h1, hl => by
    have hw : b_ring_from_w1 [.val (.lst (ofI o)), .val (.int f), .own (ofI acc), .val (.int x)] = .ok (!(x == f)) := by
      unfold b_ring_from_w1
      simp -implicitDefEqProofs only [mS, mD, mF, mFS, initE, Nat.reduceAdd, Nat.reduceSub, Nat.reduceEqDiff, reduceIte, valO, lstO, q1, q2, q3, q4]
    by_cases hx : x = f
    · have hx' : (x == f) = true := by rw [beq_iff_eq]; exact hx
      rw [hx'] at hw
      rw [while_stop hw]
      have eo : orb (PF p) f k x = [] := by
        cases k with
        | zero => rfl
        | succ k => unfold orb; rw [if_pos hx]
      rw [eo, List.append_nil]
      exact ⟨_, rfl⟩
    · have hx' : (x == f) = false := beq_false_of_ne hx
      rw [hx'] at hw
      cases k with
      | zero => exact (hx hr.zero).elim
      | succ k =>
        have hi := index_ok iv.symm (v := x.toNat) (by omega)
        rw [show ((x.toNat : Nat) : Int) = x by omega] at hi
        have hb : b_ring_from_l2 [.val (.lst (ofI o)), .val (.int f), .own (ofI acc), .val (.int x)] = .ok (.nx [.val (.lst (ofI o)), .val (.int f), .own (ofI (acc ++ [x])), .val (.int (PF p x))]) := by
          unfold b_ring_from_l2
          simp -implicitDefEqProofs only [mS, mD, mF, mFS, initE, Nat.reduceAdd, Nat.reduceSub, Nat.reduceEqDiff, reduceIte, valO, lstO, q1, q2, q3, q4]
          rw [appO_ok (by rw [ofI_len]; omega)]
          simp -implicitDefEqProofs only [mS, mD, mF, mFS, initE, Nat.reduceAdd, Nat.reduceSub, Nat.reduceEqDiff, reduceIte, valO, lstO, q1, q2, q3, q4]
          rw [hi]
          simp -implicitDefEqProofs only [mS, mD, mF, mFS, initE, Nat.reduceAdd, Nat.reduceSub, Nat.reduceEqDiff, reduceIte, valO, lstO, q1, q2, q3, q4]
          rw [← ofI_app]
          rfl
        rw [while_go hw hb]
        obtain ⟨a1, a2⟩ := (iv_pm iv).to x h0 h1
        obtain ⟨t, e⟩ := rf_while iv f k fuel (PF p x) (acc ++ [x]) (by omega) (hr.next hx) a1 a2 (by rw [List.length_append, List.length_singleton]; omega)
        refine ⟨t, ?_⟩
        have eo : orb (PF p) f (k + 1) x = x :: orb (PF p) f k (PF p x) := if_neg hx
        rw [e, eo, List.append_assoc]
        rfl
theorem ring_from_ok {n : Nat} (hn : n ≤ 7) {p o : List Int} (iv : Iv n p o) {f : Nat} (hf : f < n) : m_ring_from [.lst (ofI o), .int f] = .ok (ofI (rg (PF p) f)) := by
  have hi := index_ok iv.symm (v := f) hf
  have pm := iv_pm iv
  obtain ⟨a1, a2⟩ := pm.to f (by omega) (by omega)
  unfold m_ring_from b_ring_from
  simp -implicitDefEqProofs only [mS, mD, mF, mFS, initE, Nat.reduceAdd, Nat.reduceSub, Nat.reduceEqDiff, reduceIte, valO, lstO, q1, q2, q3, q4]
  rw [hi]
  simp -implicitDefEqProofs only [mS, mD, mF, mFS, initE, Nat.reduceAdd, Nat.reduceSub, Nat.reduceEqDiff, reduceIte, valO, lstO, q1, q2, q3, q4]
  obtain ⟨t, e⟩ := rf_while iv f 7 8 (PF p f) [(f : Int)] (by omega) ((pm.rt hn (by omega) (by omega)).more (by omega)) a1 a2 (by simp)
  have e' : whileD b_ring_from_w1 b_ring_from_l2 8 [.val (.lst (ofI o)), .val (.int f), .own [.int f], .val (.int (cellF p f))] = .ok (.nx [.val (.lst (ofI o)), .val (.int f), .own (ofI ([(f : Int)] ++ orb (PF p) f 7 (PF p f))), t]) := e
  rw [e']
  simp -implicitDefEqProofs only [mS, mD, mF, mFS, initE, Nat.reduceAdd, Nat.reduceSub, Nat.reduceEqDiff, reduceIte, valO, lstO, q1, q2, q3, q4, scL_i]
  rfl
theorem lr_while {n : Nat} {p o : List Int} (iv : Iv n p o) (s1 : Sl) (f : Int) : ∀ (k fuel : Nat) (y : Int) (acc : List Int), k < fuel → Rt (PF p) f k (PF p y) → 0 ≤ y → y < n → acc.length + k < 1000 → whileD b__law_ringed_w1 b__law_ringed_l2 fuel [.val (.lst (ofI p)), s1, .val (.int f), .own (ofI (acc ++ [y]))] = .ok (.nx [.val (.lst (ofI p)), s1, .val (.int f), .own (ofI (acc ++ [y] ++ orb (PF p) f k (PF p y)))])
  | k, 0, y, acc, hf, _, _, _, _ => by omega
  | k, fuel + 1, y, acc, hf, hr, h0, h1, hl => by
    have hlp := iv.lr
    have hw : b__law_ringed_w1 [.val (.lst (ofI p)), s1, .val (.int f), .own (ofI (acc ++ [y]))] = .ok (!(PF p y == f)) := by
      unfold b__law_ringed_w1
      simp -implicitDefEqProofs only [mS, mD, mF, mFS, initE, Nat.reduceAdd, Nat.reduceSub, Nat.reduceEqDiff, reduceIte, valO, lstO, q1, q2, q3, q4]
      rw [at_last]
      simp -implicitDefEqProofs only [mS, mD, mF, mFS, initE, Nat.reduceAdd, Nat.reduceSub, Nat.reduceEqDiff, reduceIte, valO, lstO, q1, q2, q3, q4]
      rw [at_cell h0 (by omega)]
      simp -implicitDefEqProofs only [mS, mD, mF, mFS, initE, Nat.reduceAdd, Nat.reduceSub, Nat.reduceEqDiff, reduceIte, valO, lstO, q1, q2, q3, q4]
      rfl
    by_cases hx : PF p y = f
    · have hx' : (PF p y == f) = true := by rw [beq_iff_eq]; exact hx
      rw [hx'] at hw
      rw [while_stop hw]
      have eo : orb (PF p) f k (PF p y) = [] := by
        cases k with
        | zero => rfl
        | succ k => unfold orb; rw [if_pos hx]
      rw [eo, List.append_nil]
    · have hx' : (PF p y == f) = false := beq_false_of_ne hx
      rw [hx'] at hw
      cases k with
      | zero => exact (hx hr.zero).elim
      | succ k =>
        have hb : b__law_ringed_l2 [.val (.lst (ofI p)), s1, .val (.int f), .own (ofI (acc ++ [y]))] = .ok (.nx [.val (.lst (ofI p)), s1, .val (.int f), .own (ofI (acc ++ [y] ++ [PF p y]))]) := by
          unfold b__law_ringed_l2
          simp -implicitDefEqProofs only [mS, mD, mF, mFS, initE, Nat.reduceAdd, Nat.reduceSub, Nat.reduceEqDiff, reduceIte, valO, lstO, q1, q2, q3, q4]
          rw [at_last]
          simp -implicitDefEqProofs only [mS, mD, mF, mFS, initE, Nat.reduceAdd, Nat.reduceSub, Nat.reduceEqDiff, reduceIte, valO, lstO, q1, q2, q3, q4]
          rw [at_cell h0 (by omega)]
          simp -implicitDefEqProofs only [mS, mD, mF, mFS, initE, Nat.reduceAdd, Nat.reduceSub, Nat.reduceEqDiff, reduceIte, valO, lstO, q1, q2, q3, q4]
          rw [appO_ok (by rw [ofI_len, List.length_append, List.length_singleton]; omega), ← ofI_app (acc ++ [y])]
          rfl
        rw [while_go hw hb]
        obtain ⟨a1, a2⟩ := (iv_pm iv).to y h0 h1
        rw [lr_while iv s1 f k fuel (PF p y) (acc ++ [y]) (by omega) (hr.next hx) a1 a2 (by rw [List.length_append, List.length_singleton]; omega)]
        have eo : orb (PF p) f (k + 1) (PF p y) = PF p y :: orb (PF p) f k (PF p (PF p y)) := if_neg hx
        rw [eo, List.append_assoc (acc ++ [y])]
        rfl
theorem min_lst (P : Int → Int) (f : Int) : ∃ m, (rg P f).min? = some m ∧ (m == f) = lst P f := by
  cases e : (rg P f).min? with
  | none => simp [rg] at e
  | some m =>
    refine ⟨m, rfl, ?_⟩
    obtain ⟨h1, h2⟩ := List.min?_eq_some_iff.mp e
    by_cases hm : m = f
    · subst hm
      rw [beq_self_eq_true]
      unfold lst
      exact (List.all_eq_true.mpr fun y hy => by simpa using h2 y hy).symm
    · rw [beq_false_of_ne hm]
      unfold lst
      refine (List.all_eq_false.mpr ⟨m, h1, ?_⟩).symm
      have := h2 f List.mem_cons_self
      simp
      omega
theorem mvT_ok {ix iy : Nat} {env : DE} {nss : List (List Int)} {ns : List Int} (h : nss.length < 1000) : mvT ix iy env nss ns = .ok (.nx ((env.set ix (.deep (nss ++ [ns]))).set iy .no)) := if_pos (Nat.lt_of_lt_of_le h (by decide))
theorem rgs_len (P : Int → Int) : ∀ k : Nat, (rgs P k).length ≤ k
  | 0 => by simp [rgs, upTo]
  | k + 1 => by
    have := rgs_len P k
    rw [rgs_succ, List.length_append]
    split
    · rw [List.length_singleton]; omega
    · rw [List.length_nil]; omega
theorem ringed_ok {n : Nat} (hn : n ≤ 7) {p o : List Int} (iv : Iv n p o) : m__law_ringed [.lst (ofI p)] = .ok (rgs (PF p) n) := by
  unfold m__law_ringed b__law_ringed
  simp -implicitDefEqProofs only [mS, mD, mF, mFS, initE, Nat.reduceAdd, Nat.reduceSub, Nat.reduceEqDiff, reduceIte, valO, lstO, q1, q2, q3, q4, deepAt_0, deepAt_s, slB_0d, mT, deepO, seqO_rtT, ofI_len, iv.lr]
  rw [rng1_i _ (by omega), Int.toNat_natCast, upTo_rngL]
  obtain ⟨t, e, hj⟩ := for_at (S := List (List Int) × Sl × Sl) (b := b__law_ringed_l3) (fun i t => t.1 = rgs (PF p) i) (fun t => [.val (.lst (ofI p)), .deep (Ct.ls t.1), t.2.1, t.2.2]) (ofI (upTo n)) 0 ([], .no, .no) (by simp [rgs, upTo]) (by
    rintro j ⟨nss, t2, t3⟩ x hs hx
    rw [Nat.zero_add] at hs ⊢
    have hs' : nss = rgs (PF p) j := hs
    subst hs'
    obtain ⟨c, hc, rfl⟩ := get_ofI hx
    have hjn : j < n := by
      have := (List.getElem?_eq_some_iff.mp hc).1
      rwa [upTo_len] at this
    rw [upTo_get n j hjn] at hc
    cases hc
    have pm := iv_pm iv
    have hl := rgs_len (PF p) j
    unfold b__law_ringed_l3
    simp -implicitDefEqProofs only [bN_ok, mS, mD, mF, mFS, initE, Nat.reduceAdd, Nat.reduceSub, Nat.reduceEqDiff, reduceIte, valO, lstO, q1, q2, q3, q4]
    have ew := lr_while iv (.deep (Ct.ls (rgs (PF p) j))) (j : Int) 7 8 (j : Int) [] (by omega) ((pm.rt hn (by omega) (by omega)).more (by omega)) (by omega) (by omega) (by simp)
    have ew' : whileD b__law_ringed_w1 b__law_ringed_l2 8 [.val (.lst (ofI p)), .deep (Ct.ls (rgs (PF p) j)), .val (.int j), .own [.int j]] = .ok (.nx [.val (.lst (ofI p)), .deep (Ct.ls (rgs (PF p) j)), .val (.int j), .own (ofI (rg (PF p) j))]) := ew
    rw [ew']
    obtain ⟨m, em, hm⟩ := min_lst (PF p) j
    have ek : kMinL (ofI (rg (PF p) j)) = some (.int m) := by
      unfold kMinL
      rw [toI_of]
      show ((rg (PF p) j).min?).map D.int = _
      rw [em]
      rfl
    simp -implicitDefEqProofs only [mS, mD, mF, mFS, initE, Nat.reduceAdd, Nat.reduceSub, Nat.reduceEqDiff, reduceIte, valO, lstO, q1, q2, q3, q4, ek, hm]
    cases hl2 : lst (PF p) j with
    | true =>
      simp -implicitDefEqProofs only [mS, mD, mF, mFS, initE, Nat.reduceAdd, Nat.reduceSub, Nat.reduceEqDiff, reduceIte, valO, lstO, q1, q2, q3, q4, deepAt_0, deepAt_s, slB_0d, mT, deepO, seqO_rtT, toI_of]
      rw [mvT_ok (by omega)]
      refine ⟨(rgs (PF p) (j + 1), .val (.int j), .no), ?_, rfl⟩
      rw [rgs_succ, hl2, if_pos rfl]
      rfl
    | false =>
      simp -implicitDefEqProofs only [mS, mD, mF, mFS, initE, Nat.reduceAdd, Nat.reduceSub, Nat.reduceEqDiff, reduceIte, valO, lstO, q1, q2, q3, q4]
      refine ⟨(rgs (PF p) (j + 1), .val (.int j), .own (ofI (rg (PF p) j))), ?_, rfl⟩
      rw [rgs_succ, hl2, if_neg (by decide), List.append_nil])
  obtain ⟨nss, t2, t3⟩ := t
  have hj' : nss = rgs (PF p) (0 + (ofI (upTo n)).length) := hj
  rw [Nat.zero_add, ofI_len, upTo_len] at hj'
  subst hj'
  simp -implicitDefEqProofs only [mS, mD, mF, mFS, initE, Nat.reduceAdd, Nat.reduceSub, Nat.reduceEqDiff, reduceIte, valO, lstO, q1, q2, q3, q4, fit0]
  rw [e]
  simp -implicitDefEqProofs only [mS, mD, mF, mFS, initE, Nat.reduceAdd, Nat.reduceSub, Nat.reduceEqDiff, reduceIte, valO, lstO, q1, q2, q3, q4, deepAt_0, deepAt_s, slB_0d, mT, deepO, seqO_rtT, R.ne_okk]
theorem dicAt_0 (ks : List Int) (r : DE) : dicAt 0 (.deep (.dk ks) :: r) = .ok ks := rfl
theorem dicAt_s (i : Nat) (a : Sl) (r : DE) : dicAt (i + 1) (a :: r) = dicAt i r := rfl
theorem asInt_i (i : Int) : asInt (.int i) = .ok i := rfl
theorem mvK_ok {s0 s1 s2 s5 s7 : Sl} {nss : List (List Int)} {ns ks : List Int} (h1 : nss.length < 1000) (h2 : ks.length + ns.length < 1000) : mvK 3 6 7 4 [s0, s1, s2, .deep (Ct.ls nss), .deep (.dk ks), s5, .own (ofI ns), s7] = .ok (.nx [s0, s1, s2, .deep (Ct.ls (nss ++ [ns])), .deep (.dk (ns.foldl putI ks)), s5, .no, .no]) := by
  unfold mvK
  simp -implicitDefEqProofs only [mS, mD, mF, mFS, initE, Nat.reduceAdd, Nat.reduceSub, Nat.reduceEqDiff, reduceIte, valO, lstO, q1, q2, q3, q4, deepAt_0, deepAt_s, slB_0d, mT, deepO, seqO_rtT, toI_of, dicAt_0, dicAt_s]
  rw [if_pos ⟨Nat.lt_of_lt_of_le h1 (by decide), Nat.lt_of_lt_of_le h2 (by decide), by decide, by decide, by decide, by decide⟩]
theorem rings_ok {n : Nat} (hn : n ≤ 7) {w : List Int} (hw : ∀ k ∈ w, IsX n k) : m_rings [.int n, .lst (ofI w)] = .ok (rgs (PF (plcF w (upTo n))) n) := by
  have iv := iv_fold w _ _ hw (iv_up n)
  unfold m_rings b_rings
  simp -implicitDefEqProofs only [mS, mD, mF, mFS, initE, Nat.reduceAdd, Nat.reduceSub, Nat.reduceEqDiff, reduceIte, valO, lstO, q1, q2, q3, q4, deepAt_0, deepAt_s, slB_0d, mT, deepO, seqO_rtT]
  rw [ordof_ok hn hw]
  simp -implicitDefEqProofs only [mS, mD, mF, mFS, initE, Nat.reduceAdd, Nat.reduceSub, Nat.reduceEqDiff, reduceIte, valO, lstO, q1, q2, q3, q4, fit0]
  rw [rng1_i _ (by omega), Int.toNat_natCast, upTo_rngL]
  generalize ordF w (upTo n) = o at iv
  generalize plcF w (upTo n) = p at iv
  have pm := iv_pm iv
  obtain ⟨t, e, hj⟩ := for_at (S := List (List Int) × List Int × Sl × Sl × Sl) (b := b_rings_l1) (fun i t => t.1 = rgs (PF p) i ∧ Tk (PF p) i t.2.1) (fun t => [.val (.int n), .val (.lst (ofI w)), .val (.lst (ofI o)), .deep (Ct.ls t.1), .deep (.dk t.2.1), t.2.2.1, t.2.2.2.1, t.2.2.2.2]) (ofI (upTo n)) 0 ([], [], .no, .no, .no) ⟨by simp [rgs, upTo], by simp, fun x => by simp⟩ (by
    rintro j ⟨nss, ks, t5, t6, t7⟩ x ⟨hs, tk⟩ hx
    rw [Nat.zero_add] at hs tk ⊢
    have hs' : nss = rgs (PF p) j := hs
    have tk' : Tk (PF p) j ks := tk
    subst hs'
    obtain ⟨c, hc, rfl⟩ := get_ofI hx
    have hjn : j < n := by
      have := (List.getElem?_eq_some_iff.mp hc).1
      rwa [upTo_len] at this
    rw [upTo_get n j hjn] at hc
    cases hc
    have hl := rgs_len (PF p) j
    have hl2 := rg_len (PF p) j
    have hl3 := tk'.1
    have hd := tk_lst hn pm hjn tk'
    unfold b_rings_l1
    simp -implicitDefEqProofs only [bN_ok, mS, mD, mF, mFS, initE, Nat.reduceAdd, Nat.reduceSub, Nat.reduceEqDiff, reduceIte, valO, lstO, q1, q2, q3, q4, asInt_i, dicAt_0, dicAt_s]
    have hd' : decide ((j : Int) ∈ ks) = !lst (PF p) j := hd
    rw [hd']
    cases hl4 : lst (PF p) j with
    | true =>
      simp -implicitDefEqProofs only [mS, mD, mF, mFS, initE, Nat.reduceAdd, Nat.reduceSub, Nat.reduceEqDiff, reduceIte, valO, lstO, q1, q2, q3, q4, Bool.not_true, Bool.not_false]
      rw [ring_from_ok hn iv hjn]
      simp -implicitDefEqProofs only [mS, mD, mF, mFS, initE, Nat.reduceAdd, Nat.reduceSub, Nat.reduceEqDiff, reduceIte, valO, lstO, q1, q2, q3, q4]
      rw [mvK_ok (by omega) (by omega)]
      have tky : Tk (PF p) (j + 1) ((rg (PF p) j).foldl putI ks) := tk_yes hn pm hjn tk'
      refine ⟨(rgs (PF p) (j + 1), (rg (PF p) j).foldl putI ks, .val (.int j), .no, .no), ?_, rfl, tky⟩
      rw [rgs_succ, hl4, if_pos rfl]
    | false =>
      simp -implicitDefEqProofs only [mS, mD, mF, mFS, initE, Nat.reduceAdd, Nat.reduceSub, Nat.reduceEqDiff, reduceIte, valO, lstO, q1, q2, q3, q4, Bool.not_true, Bool.not_false]
      rw [hl4] at hd'
      refine ⟨(rgs (PF p) (j + 1), ks, .val (.int j), t6, t7), ?_, rfl, tk_no tk' (of_decide_eq_true hd')⟩
      rw [rgs_succ, hl4, if_neg (by decide), List.append_nil])
  obtain ⟨nss, ks, t5, t6, t7⟩ := t
  have hj' : nss = rgs (PF p) (0 + (ofI (upTo n)).length) := hj.1
  rw [Nat.zero_add, ofI_len, upTo_len] at hj'
  subst hj'
  dsimp only at e
  simp -implicitDefEqProofs only [mS, mD, mF, mFS, initE, Nat.reduceAdd, Nat.reduceSub, Nat.reduceEqDiff, reduceIte, valO, lstO, q1, q2, q3, q4]
  rw [e]
  simp -implicitDefEqProofs only [mS, mD, mF, mFS, initE, Nat.reduceAdd, Nat.reduceSub, Nat.reduceEqDiff, reduceIte, valO, lstO, q1, q2, q3, q4, deepAt_0, deepAt_s, slB_0d, mT, deepO, seqO_rtT, R.ne_okk]

end DL

namespace DL
open PySem PySem.Spec PyProof.Rows L2
def eX (k : Int) (o : List Int) (i j : Nat) : Int :=
  if 0 < k then (if (cellF o (k.natAbs - 1)).toNat = i ∧ (cellF o k.natAbs).toNat = j then 1 else 0)
  else (if (cellF o k.natAbs).toNat = i ∧ (cellF o (k.natAbs - 1)).toNat = j then -1 else 0)
def cnt : List Int → List Int → Nat → Nat → Int
  | [], _, _, _ => 0
  | k :: w, o, i, j => eX k o i j + cnt w (swp o (k.natAbs - 1)) i j
def mcell (M : List (List Int)) (i j : Nat) : Int := cellF (mrow M i) j
theorem mrow_set {M : List (List Int)} {i : Nat} {r : List Int} (h : i < M.length) (i' : Nat) : mrow (M.set i r) i' = if i = i' then r else mrow M i' := by
  unfold mrow
  by_cases e : i = i'
  · subst e
    rw [if_pos rfl, List.getElem?_set_self h]
    rfl
  · rw [if_neg e, List.getElem?_set_ne e]
theorem mcell_put {n : Nat} {M : List (List Int)} (h : Mx n M) {i j : Nat} {d : Int} (hi : i < n) (hj : j < n) (i' j' : Nat) (hj' : j' < n) : mcell (mput M i j d) i' j' = mcell M i' j' + if i = i' ∧ j = j' then d else 0 := by
  have hr := (mrow_get h hi).2
  unfold mcell mput
  rw [mrow_set (by rw [h.1]; exact hi)]
  by_cases e : i = i'
  · subst e
    rw [if_pos rfl, cell_set (by rw [hr]; exact hj')]
    by_cases e2 : j = j'
    · subst e2
      rw [if_pos rfl, if_pos ⟨rfl, rfl⟩]
    · rw [if_neg e2, if_neg (fun q => e2 q.2)]
      omega
  · rw [if_neg e, if_neg (fun q => e q.1)]
    omega
theorem tab_cell {n : Nat} : ∀ (w : List Int) (M : List (List Int)) (p o : List Int), (∀ k ∈ w, IsX n k) → Mx n M → Iv n p o → ∀ i j, j < n → mcell (tabF w M o) i j = mcell M i j + cnt w o i j
  | [], M, p, o, _, _, _, i, j, _ => by show mcell M i j = mcell M i j + 0; omega
  | k :: w, M, p, o, hw, hM, iv, i, j, hj => by
    have hk := hw k (by simp)
    obtain ⟨k1, k2⟩ := isx_abs hk
    obtain ⟨a1, a2, _⟩ := iv.sr (k.natAbs - 1) (by omega)
    obtain ⟨b1, b2, _⟩ := iv.sr k.natAbs (by omega)
    unfold tabF cnt
    rw [tab_cell w _ _ _ (fun x hx => hw x (by simp [hx])) (nxt_mx hM iv hk) (iv.step (a := k.natAbs - 1) (by omega)) i j hj]
    have e : mcell (if 0 < k then mput M (cellF o (k.natAbs - 1)).toNat (cellF o k.natAbs).toNat 1 else mput M (cellF o k.natAbs).toNat (cellF o (k.natAbs - 1)).toNat (-1)) i j = mcell M i j + eX k o i j := by
      unfold eX
      split
      · rw [mcell_put hM (by omega) (by omega) i j hj]
      · rw [mcell_put hM (by omega) (by omega) i j hj]
    rw [e]
    omega
theorem tab_ext {n : Nat} {A B : List (List Int)} (hA : Mx n A) (hB : Mx n B) (h : ∀ i j, i < n → j < n → mcell A i j = mcell B i j) : A = B := by
  refine List.ext_getElem? fun i => ?_
  by_cases hi : i < n
  · rw [(mrow_get hA hi).1, (mrow_get hB hi).1]
    congr 1
    refine cell_ext (by rw [(mrow_get hA hi).2, (mrow_get hB hi).2]) fun j hj => h i j hi (by rw [(mrow_get hA hi).2] at hj; exact hj)
  · rw [List.getElem?_eq_none (by rw [hA.1]; omega), List.getElem?_eq_none (by rw [hB.1]; omega)]
def Lk (n : Nat) (u v : List Int) : Prop := ∀ o : List Int, o.length = n → ordF u o = ordF v o ∧ ∀ i j, cnt u o i j = cnt v o i j
theorem Lk.symm {n : Nat} {u v : List Int} (h : Lk n u v) : Lk n v u := fun o ho => ⟨(h o ho).1.symm, fun i j => ((h o ho).2 i j).symm⟩
theorem Lk.refl (n : Nat) (u : List Int) : Lk n u u := fun _ _ => ⟨rfl, fun _ _ => rfl⟩
theorem Lk.trans {n : Nat} {u v w : List Int} (h : Lk n u v) (g : Lk n v w) : Lk n u w := fun o ho => ⟨(h o ho).1.trans (g o ho).1, fun i j => ((h o ho).2 i j).trans ((g o ho).2 i j)⟩
theorem Iv.uniq {n : Nat} {r r' s : List Int} (h : Iv n r s) (g : Iv n r' s) : r = r' := by
  refine cell_ext (by rw [h.lr, g.lr]) fun j hj => ?_
  obtain ⟨a1, a2, a3⟩ := h.rs j (by rw [h.lr] at hj; exact hj)
  obtain ⟨b1, b2, b3⟩ := g.sr (cellF r j).toNat (by omega)
  rw [a3, Int.toNat_natCast] at b3
  omega
theorem Lk.all {n : Nat} {u v : List Int} (h : Lk n u v) (hu : ∀ k ∈ u, IsX n k) (hv : ∀ k ∈ v, IsX n k) : ordF u (upTo n) = ordF v (upTo n) ∧ plcF u (upTo n) = plcF v (upTo n) ∧ tabF u (M0 n) (upTo n) = tabF v (M0 n) (upTo n) ∧ (u.map sgI).sum = (v.map sgI).sum := by
  obtain ⟨h1, h2⟩ := h (upTo n) (upTo_len n)
  have iu := iv_fold u _ _ hu (iv_up n)
  have iv := iv_fold v _ _ hv (iv_up n)
  rw [← h1] at iv
  obtain ⟨m1, s1⟩ := tab_mx u (M0 n) _ _ hu (M0_mx n) (iv_up n)
  obtain ⟨m2, s2⟩ := tab_mx v (M0 n) _ _ hv (M0_mx n) (iv_up n)
  have et : tabF u (M0 n) (upTo n) = tabF v (M0 n) (upTo n) := tab_ext m1 m2 fun i j _ hj => by
    rw [tab_cell u _ _ _ hu (M0_mx n) (iv_up n) i j hj, tab_cell v _ _ _ hv (M0_mx n) (iv_up n) i j hj, h2]
  refine ⟨h1, iu.uniq iv, et, ?_⟩
  rw [et] at s1
  omega

end DL

namespace DL
open PySem PySem.Spec PyProof.Rows L2

def rowsD (M : List (List Int)) : List D := M.map fun ns => D.lst (ofI ns)
theorem rowsD_eq (M : List (List Int)) : List.map (fun ns => D.lst (List.map D.int ns)) M = rowsD M := rfl
theorem rowsD_len (M : List (List Int)) : (rowsD M).length = M.length := List.length_map _
theorem at_row {M : List (List Int)} {a : Int} (h0 : 0 ≤ a) (h : a < M.length) : atI (rowsD M) a = some (.lst (ofI (mrow M a.toNat))) := by
  unfold rowsD mrow
  rw [atI_pos h0, List.getElem?_map, List.getElem?_eq_getElem (show a.toNat < M.length by omega)]
  rfl
theorem compD_rows {b : D → DE → R DE} {ct : DE → R Bool} {fe : DE → R D} {e₀ : DE} (g : List Int → D) : ∀ (rs : List (List Int)), (∀ r ∈ rs, ∃ e, b (.lst (ofI r)) e₀ = .ok e ∧ ct e = .ok true ∧ fe e = .ok (g r)) → compD b ct fe e₀ (rowsD rs) = .ok (rs.map g)
  | [], _ => rfl
  | r :: rs, h => by
    obtain ⟨e, h1, h2, h3⟩ := h r (by simp)
    have ih := compD_rows g rs fun y hy => h y (by simp [hy])
    show compD b ct fe e₀ (D.lst (ofI r) :: rowsD rs) = _
    unfold compD
    rw [h1, R.ok_bind, h2, R.ok_bind, if_pos rfl, h3, R.ok_bind, ih]
    rfl
def sb1 (M : List (List Int)) (a : Int) (other : List Int) : Int := (other.map fun b => cellF (mrow M a.toNat) b.toNat).sum
def sbF (M : List (List Int)) (one other : List Int) : Int := (one.map fun a => sb1 M a other).sum
def InN (n : Nat) (r : List Int) : Prop := r.length ≤ 1000 ∧ ∀ x ∈ r, 0 ≤ x ∧ x < n
theorem sb_l3 {n : Nat} {M : List (List Int)} (hM : Mx n M) (s1 s4 : Sl) {other : List Int} (ho : InN n other) (t a : Int) (ha : 0 ≤ a ∧ a < n) : b_sum_between_l3 (.int a) [.val (.lst (rowsD M)), s1, .val (.lst (ofI other)), .val (.int t), s4] = .ok (.nx [.val (.lst (rowsD M)), s1, .val (.lst (ofI other)), .val (.int (t + sb1 M a other)), .val (.int a)]) := by
  have hr := mrow_get hM (i := a.toNat) (by omega)
  unfold b_sum_between_l3
  simp -implicitDefEqProofs only [bN_ok, mS, mD, mF, mFS, initE, Nat.reduceAdd, Nat.reduceSub, Nat.reduceEqDiff, reduceIte, valO, lstO, q1, q2, q3, q4, capt]
  rw [compD_ints (fun b => cellF (mrow M a.toNat) b.toNat) other fun b hb => ⟨_, bN_ok _ _ _, rfl, by
    have hb' := ho.2 b hb
    unfold b_sum_between_c2 cpE
    simp -implicitDefEqProofs only [mS, mD, mF, mFS, initE, Nat.reduceAdd, Nat.reduceSub, Nat.reduceEqDiff, reduceIte, valO, lstO, q1, q2, q3, q4]
    rw [at_row ha.1 (by rw [hM.1]; exact ha.2)]
    simp -implicitDefEqProofs only [mS, mD, mF, mFS, initE, Nat.reduceAdd, Nat.reduceSub, Nat.reduceEqDiff, reduceIte, valO, lstO, q1, q2, q3, q4]
    rw [at_cell hb'.1 (by rw [hr.2]; exact hb'.2)]
    simp -implicitDefEqProofs only [mS, mD, mF, mFS, initE, Nat.reduceAdd, Nat.reduceSub, Nat.reduceEqDiff, reduceIte, valO, lstO, q1, q2, q3, q4]⟩]
  simp -implicitDefEqProofs only [mS, mD, mF, mFS, initE, Nat.reduceAdd, Nat.reduceSub, Nat.reduceEqDiff, reduceIte, valO, lstO, q1, q2, q3, q4, R.ne_okk]
  rw [fit_ofI (by rw [List.length_map]; have := ho.1; omega)]
  simp -implicitDefEqProofs only [mS, mD, mF, mFS, initE, Nat.reduceAdd, Nat.reduceSub, Nat.reduceEqDiff, reduceIte, valO, lstO, q1, q2, q3, q4]
  unfold kSumL
  rw [toI_of]
  simp -implicitDefEqProofs only [Option.map_some, mS, mD, mF, mFS, initE, Nat.reduceAdd, Nat.reduceSub, Nat.reduceEqDiff, reduceIte, valO, lstO, q1, q2, q3, q4, augO]
  rfl
theorem sb_loop {n : Nat} {M : List (List Int)} (hM : Mx n M) (s1 : Sl) {other : List Int} (ho : InN n other) : ∀ (as : List Int) (t : Int) (s4 : Sl), (∀ a ∈ as, 0 ≤ a ∧ a < n) → ∃ s4', forD b_sum_between_l3 (ofI as) [.val (.lst (rowsD M)), s1, .val (.lst (ofI other)), .val (.int t), s4] = .ok (.nx [.val (.lst (rowsD M)), s1, .val (.lst (ofI other)), .val (.int (t + (as.map fun a => sb1 M a other).sum)), s4'])
  | [], t, s4, _ => ⟨s4, by simp [ofI, for_nil]⟩
  | a :: as, t, s4, h => by
    obtain ⟨s4', e⟩ := sb_loop hM s1 ho as (t + sb1 M a other) (.val (.int a)) fun x hx => h x (by simp [hx])
    refine ⟨s4', ?_⟩
    rw [← ofI_cons, for_cons (sb_l3 hM s1 s4 ho t a (h a (by simp))), e, List.map_cons, List.sum_cons, Int.add_assoc]
theorem sum_between_ok {n : Nat} {M : List (List Int)} (hM : Mx n M) {one other : List Int} (h1 : InN n one) (h2 : InN n other) : m_sum_between [.lst (rowsD M), .lst (ofI one), .lst (ofI other)] = .ok (.int (sbF M one other)) := by
  unfold m_sum_between b_sum_between
  simp -implicitDefEqProofs only [mS, mD, mF, mFS, initE, Nat.reduceAdd, Nat.reduceSub, Nat.reduceEqDiff, reduceIte, valO, lstO, q1, q2, q3, q4]
  obtain ⟨s4, e⟩ := sb_loop hM (.val (.lst (ofI one))) h2 one 0 .no h1.2
  rw [e]
  simp -implicitDefEqProofs only [mS, mD, mF, mFS, initE, Nat.reduceAdd, Nat.reduceSub, Nat.reduceEqDiff, reduceIte, valO, lstO, q1, q2, q3, q4, Int.zero_add]
  rfl
theorem sums_of_ring_ok {n : Nat} {M : List (List Int)} (hM : Mx n M) {one : List Int} {rs : List (List Int)} (h1 : InN n one) (h2 : ∀ r ∈ rs, InN n r) (hl : rs.length ≤ 7) : m_sums_of_ring [.lst (rowsD M), .lst (ofI one), .lst (rowsD rs)] = .ok (ofI (rs.map (sbF M one))) := by
  unfold m_sums_of_ring b_sums_of_ring
  simp -implicitDefEqProofs only [mS, mD, mF, mFS, initE, Nat.reduceAdd, Nat.reduceSub, Nat.reduceEqDiff, reduceIte, valO, lstO, q1, q2, q3, q4, capt]
  rw [compD_rows (fun r => .int (sbF M one r)) rs fun r hr => ⟨_, bN_ok _ _ _, rfl, by
    unfold b_sums_of_ring_c2 cpE
    simp -implicitDefEqProofs only [mS, mD, mF, mFS, initE, Nat.reduceAdd, Nat.reduceSub, Nat.reduceEqDiff, reduceIte, valO, lstO, q1, q2, q3, q4]
    rw [sum_between_ok hM h1 (h2 r hr)]⟩]
  simp -implicitDefEqProofs only [mS, mD, mF, mFS, initE, Nat.reduceAdd, Nat.reduceSub, Nat.reduceEqDiff, reduceIte, valO, lstO, q1, q2, q3, q4, R.ne_okk]
  rw [show (rs.map fun r => D.int (sbF M one r)) = ofI (rs.map (sbF M one)) by unfold ofI; rw [List.map_map]; rfl, fit_ofI (by rw [List.length_map]; omega)]
  simp -implicitDefEqProofs only [mS, mD, mF, mFS, initE, Nat.reduceAdd, Nat.reduceSub, Nat.reduceEqDiff, reduceIte, valO, lstO, q1, q2, q3, q4]
  rw [scL_i]
  rfl
def lkF (M rs : List (List Int)) : List (List Int) := rs.map fun r => rs.map (sbF M r)
def ringsF (n : Nat) (w : List Int) : List (List Int) := rgs (PF (plcF w (upTo n))) n
theorem rings_in {n : Nat} (hn : n ≤ 7) {w : List Int} (hw : ∀ k ∈ w, IsX n k) : ∀ r ∈ ringsF n w, InN n r := fun r hr => by
  obtain ⟨f, hf, rfl⟩ := List.mem_map.mp hr
  have hf2 := mem_upTo.mp (List.mem_filter.mp hf).1
  have iv := iv_fold w _ _ hw (iv_up n)
  refine ⟨by have := rg_len (PF (plcF w (upTo n))) f; omega, fun x hx => rg_rng hn (iv_pm iv) hf2.1 hf2.2 hx⟩
theorem rings_len {n : Nat} (hn : n ≤ 7) (w : List Int) : (ringsF n w).length ≤ 7 := Nat.le_trans (rgs_len _ n) hn
theorem compT_rows {b : D → DE → R DE} {ct : DE → R Bool} {fe : DE → R (List D)} {e₀ : DE} (g : List Int → List Int) : ∀ (rs : List (List Int)), (∀ r ∈ rs, ∃ e, b (.lst (ofI r)) e₀ = .ok e ∧ ct e = .ok true ∧ fe e = .ok (ofI (g r))) → compT b ct fe e₀ (rowsD rs) = .ok (rs.map g)
  | [], _ => rfl
  | r :: rs, h => by
    obtain ⟨e, h1, h2, h3⟩ := h r (by simp)
    have ih := compT_rows g rs fun y hy => h y (by simp [hy])
    show compT b ct fe e₀ (D.lst (ofI r) :: rowsD rs) = _
    unfold compT
    rw [h1, R.ok_bind, h2, R.ok_bind, if_pos rfl, h3, R.ok_bind, toI_of, R.of_some, R.ok_bind, ih]
    rfl
theorem linked_ok {n : Nat} (hn : n ≤ 7) {w : List Int} (hw : ∀ k ∈ w, IsX n k) : m_linked [.int n, .lst (ofI w)] = .ok (lkF (tabF w (M0 n) (upTo n)) (ringsF n w)) := by
  have hM := (tab_mx w (M0 n) _ _ hw (M0_mx n) (iv_up n)).1
  unfold m_linked b_linked
  simp -implicitDefEqProofs only [mS, mD, mF, mFS, initE, Nat.reduceAdd, Nat.reduceSub, Nat.reduceEqDiff, reduceIte, valO, lstO, q1, q2, q3, q4, deepAt_0, deepAt_s, slB_0d, mT, deepO, seqO_rtT]
  rw [table_ok hn hw]
  simp -implicitDefEqProofs only [mS, mD, mF, mFS, initE, Nat.reduceAdd, Nat.reduceSub, Nat.reduceEqDiff, reduceIte, valO, lstO, q1, q2, q3, q4, R.ne_okk]
  rw [rings_ok hn hw]
  simp -implicitDefEqProofs only [mS, mD, mF, mFS, initE, Nat.reduceAdd, Nat.reduceSub, Nat.reduceEqDiff, reduceIte, valO, lstO, q1, q2, q3, q4, R.ne_okk, capt, rowsD_eq]
  rw [show rgs (PF (plcF w (upTo n))) n = ringsF n w from rfl]
  rw [compT_rows (fun r => (ringsF n w).map (sbF (tabF w (M0 n) (upTo n)) r)) (ringsF n w) fun r hr => ⟨_, bN_ok _ _ _, rfl, by
    unfold b_linked_c2 cpE
    simp -implicitDefEqProofs only [mS, mD, mF, mFS, initE, Nat.reduceAdd, Nat.reduceSub, Nat.reduceEqDiff, reduceIte, valO, lstO, q1, q2, q3, q4]
    rw [sums_of_ring_ok hM (rings_in hn hw r hr) (rings_in hn hw) (rings_len hn w)]⟩]
  simp -implicitDefEqProofs only [mS, mD, mF, mFS, initE, Nat.reduceAdd, Nat.reduceSub, Nat.reduceEqDiff, reduceIte, valO, lstO, q1, q2, q3, q4, R.ne_okk]
  rw [fit_ok (big (by rw [List.length_map]; have := rings_len hn w; omega))]
  simp -implicitDefEqProofs only [mS, mD, mF, mFS, initE, Nat.reduceAdd, Nat.reduceSub, Nat.reduceEqDiff, reduceIte, valO, lstO, q1, q2, q3, q4, deepAt_0, deepAt_s, slB_0d, mT, deepO, seqO_rtT, R.ne_okk]
  rfl
theorem sortL_ok {ns : List Int} (h : ns.length < 64) : sortL (ofI ns) = .ok (ofI (sortI ns)) := by
  unfold sortL
  rw [toI_of]
  exact if_pos h
def tell (rs S : List (List Int)) (i : Int) : D := .tup [.int (mrow rs i.toNat).length, .int (cellF (mrow S i.toNat) i.toNat), .lst (ofI (sortI ((mrow S i.toNat).take i.toNat ++ (mrow S i.toNat).drop (i.toNat + 1))))]
def toldF (rs S : List (List Int)) : List D := (upTo rs.length).map (tell rs S)
def profF (rs S : List (List Int)) : List D := (ordP (ltI (toldF rs S)) (toldF rs S).length).map fun i => (toldF rs S).getD i .non
theorem lk_mx (M rs : List (List Int)) : Mx rs.length (lkF M rs) := by
  refine ⟨List.length_map _, fun k ns e => ?_⟩
  unfold lkF at e
  rw [List.getElem?_map] at e
  cases h : rs[k]? with
  | none => rw [h] at e; cases e
  | some r => rw [h] at e; cases e; exact List.length_map _
theorem sortT_told {rs S : List (List Int)} (h : rs.length ≤ 7) : sortT (toldF rs S) = .ok (profF rs S) := by
  have hl : (toldF rs S).length = rs.length := by unfold toldF; rw [List.length_map, upTo_len]
  unfold sortT profF
  refine if_pos ⟨by omega, List.all_eq_true.mpr fun d hd => ?_⟩
  obtain ⟨i, _, rfl⟩ := List.mem_map.mp hd
  show ((toI (ofI _)).map fun ns => ((_ : Int), (_ : Int), ns)).isSome = true
  rw [toI_of]
  rfl
theorem trAt_0 (ts : List Trp) (r : DE) : trAt 0 (.deep (.tr ts) :: r) = .ok ts := rfl
theorem trAt_s (i : Nat) (a : Sl) (r : DE) : trAt (i + 1) (a :: r) = trAt i r := rfl
theorem slB_0r (ts : List Trp) (r : DE) : slB 0 (.deep (.tr ts) :: r) = .ok (.lst (ts.map dT)) := rfl
theorem appR_ok {ix : Nat} {env : DE} {ts : List Trp} {t : Trp} (h : ts.length < 1000) : appR ix env ts t = .ok (.nx (env.set ix (.deep (.tr (ts ++ [t]))))) := if_pos (Nat.lt_of_lt_of_le h (by decide))
def tellT (rs S : List (List Int)) (i : Int) : Trp := ((mrow rs i.toNat).length, cellF (mrow S i.toNat) i.toNat, sortI ((mrow S i.toNat).take i.toNat ++ (mrow S i.toNat).drop (i.toNat + 1)))
theorem pr_l1 (s0 s1 s5 s6 : Sl) {rs S : List (List Int)} {m : Nat} (hr : rs.length = m) (hm : m ≤ 7) (hS : Mx m S) {acc : List Trp} (ha : acc.length < 1000) (i : Int) (hi : 0 ≤ i ∧ i < m) : ∃ s6', b_profile_l1 (.int i) [s0, s1, .val (.lst (rowsD rs)), .val (.lst (rowsD S)), .deep (.tr acc), s5, s6] = .ok (.nx [s0, s1, .val (.lst (rowsD rs)), .val (.lst (rowsD S)), .deep (.tr (acc ++ [tellT rs S i])), .val (.int i), s6']) := by
  have hrow := mrow_get hS (i := i.toNat) (by omega)
  unfold b_profile_l1
  simp -implicitDefEqProofs only [bN_ok, mS, mD, mF, mFS, initE, Nat.reduceAdd, Nat.reduceSub, Nat.reduceEqDiff, reduceIte, valO, lstO, q1, q2, q3, q4]
  rw [at_row (M := S) hi.1 (by rw [hS.1]; exact hi.2)]
  simp -implicitDefEqProofs only [mS, mD, mF, mFS, initE, Nat.reduceAdd, Nat.reduceSub, Nat.reduceEqDiff, reduceIte, valO, lstO, q1, q2, q3, q4]
  rw [cut_ofI, cut_ofI, cut_to _ _ hi.1, cut_from _ _ (by omega), ofI_app, fit_ofI (by rw [List.length_append, List.length_take, List.length_drop, hrow.2]; omega)]
  simp -implicitDefEqProofs only [mS, mD, mF, mFS, initE, Nat.reduceAdd, Nat.reduceSub, Nat.reduceEqDiff, reduceIte, valO, lstO, q1, q2, q3, q4, trAt_0, trAt_s]
  rw [at_row (M := rs) hi.1 (by rw [hr]; exact hi.2)]
  simp -implicitDefEqProofs only [mS, mD, mF, mFS, initE, Nat.reduceAdd, Nat.reduceSub, Nat.reduceEqDiff, reduceIte, valO, lstO, q1, q2, q3, q4, asInt_i]
  rw [at_row (M := S) hi.1 (by rw [hS.1]; exact hi.2)]
  simp -implicitDefEqProofs only [mS, mD, mF, mFS, initE, Nat.reduceAdd, Nat.reduceSub, Nat.reduceEqDiff, reduceIte, valO, lstO, q1, q2, q3, q4]
  rw [at_cell hi.1 (by rw [hrow.2]; exact hi.2)]
  simp -implicitDefEqProofs only [mS, mD, mF, mFS, initE, Nat.reduceAdd, Nat.reduceSub, Nat.reduceEqDiff, reduceIte, valO, lstO, q1, q2, q3, q4, asInt_i]
  rw [sortL_ok (by rw [List.length_append, List.length_take, List.length_drop, hrow.2]; omega)]
  simp -implicitDefEqProofs only [mS, mD, mF, mFS, initE, Nat.reduceAdd, Nat.reduceSub, Nat.reduceEqDiff, reduceIte, valO, lstO, q1, q2, q3, q4, ofI_len, toI_of]
  rw [appR_ok ha]
  simp -implicitDefEqProofs only [mS, mD, mF, mFS, initE, Nat.reduceAdd, Nat.reduceSub, Nat.reduceEqDiff, reduceIte, valO, lstO, q1, q2, q3, q4]
  rw [show (i + 1).toNat = i.toNat + 1 by omega]
  exact ⟨_, rfl⟩
theorem pr_loop (s0 s1 : Sl) {rs S : List (List Int)} {m : Nat} (hr : rs.length = m) (hm : m ≤ 7) (hS : Mx m S) : ∀ (is : List Int) (acc : List Trp) (s5 s6 : Sl), (∀ i ∈ is, 0 ≤ i ∧ i < m) → acc.length + is.length ≤ 900 → ∃ s5' s6', forD b_profile_l1 (ofI is) [s0, s1, .val (.lst (rowsD rs)), .val (.lst (rowsD S)), .deep (.tr acc), s5, s6] = .ok (.nx [s0, s1, .val (.lst (rowsD rs)), .val (.lst (rowsD S)), .deep (.tr (acc ++ is.map (tellT rs S))), s5', s6'])
  | [], acc, s5, s6, _, _ => ⟨s5, s6, by simp [ofI, for_nil]⟩
  | i :: is, acc, s5, s6, h, hl => by
    obtain ⟨u6, e⟩ := pr_l1 s0 s1 s5 s6 hr hm hS (acc := acc) (by omega) i (h i (by simp))
    obtain ⟨s5', s6', e2⟩ := pr_loop s0 s1 hr hm hS is (acc ++ [tellT rs S i]) (.val (.int i)) u6 (fun x hx => h x (by simp [hx])) (by rw [List.length_append, List.length_singleton]; rw [List.length_cons] at hl; omega)
    refine ⟨s5', s6', ?_⟩
    rw [← ofI_cons, for_cons e, e2, List.append_assoc, List.map_cons]
    rfl
def toldT (rs S : List (List Int)) : List Trp := (upTo rs.length).map (tellT rs S)
def profT (rs S : List (List Int)) : List Trp := (ordP (ltI ((toldT rs S).map dT)) (toldT rs S).length).map fun i => (toldT rs S).getD i (0, 0, [])
theorem toldT_len (rs S : List (List Int)) : (toldT rs S).length = rs.length := by unfold toldT; rw [List.length_map, upTo_len]
theorem toldT_d (rs S : List (List Int)) : (toldT rs S).map dT = toldF rs S := by
  unfold toldT toldF
  rw [List.map_map]
  rfl
theorem profT_d (rs S : List (List Int)) : (profT rs S).map dT = profF rs S := by
  unfold profT profF
  rw [List.map_map, toldT_d, show (toldF rs S).length = (toldT rs S).length by rw [← toldT_d, List.length_map]]
  refine List.map_congr_left fun i hi => ?_
  have hi' := ordP_lt hi
  rw [← toldT_d]
  simp [hi']
theorem profile_ok {n : Nat} (hn : n ≤ 7) {w : List Int} (hw : ∀ k ∈ w, IsX n k) : m_profile [.int n, .lst (ofI w)] = .ok (profT (ringsF n w) (lkF (tabF w (M0 n) (upTo n)) (ringsF n w))) := by
  have hl := rings_len hn w
  unfold m_profile b_profile
  simp -implicitDefEqProofs only [mS, mD, mF, mFS, initE, Nat.reduceAdd, Nat.reduceSub, Nat.reduceEqDiff, reduceIte, valO, lstO, q1, q2, q3, q4, mR]
  rw [rings_ok hn hw]
  simp -implicitDefEqProofs only [mS, mD, mF, mFS, initE, Nat.reduceAdd, Nat.reduceSub, Nat.reduceEqDiff, reduceIte, valO, lstO, q1, q2, q3, q4, R.ne_okk, rowsD_eq]
  rw [show rgs (PF (plcF w (upTo n))) n = ringsF n w from rfl, linked_ok hn hw]
  simp -implicitDefEqProofs only [mS, mD, mF, mFS, initE, Nat.reduceAdd, Nat.reduceSub, Nat.reduceEqDiff, reduceIte, valO, lstO, q1, q2, q3, q4, R.ne_okk, rowsD_eq, rowsD_len]
  rw [rng1_i _ (by omega), Int.toNat_natCast, upTo_rngL]
  simp -implicitDefEqProofs only [mS, mD, mF, mFS, initE, Nat.reduceAdd, Nat.reduceSub, Nat.reduceEqDiff, reduceIte, valO, lstO, q1, q2, q3, q4]
  obtain ⟨s5, s6, e⟩ := pr_loop (.val (.int n)) (.val (.lst (ofI w))) (rs := ringsF n w) rfl hl (lk_mx (tabF w (M0 n) (upTo n)) (ringsF n w)) (upTo (ringsF n w).length) [] .no .no (fun i hi => mem_upTo.mp hi) (by rw [upTo_len, List.length_nil]; omega)
  rw [e]
  simp -implicitDefEqProofs only [mS, mD, mF, mFS, initE, Nat.reduceAdd, Nat.reduceSub, Nat.reduceEqDiff, reduceIte, valO, lstO, q1, q2, q3, q4, trAt_0, trAt_s]
  rw [show (upTo (ringsF n w).length).map (tellT (ringsF n w) (lkF (tabF w (M0 n) (upTo n)) (ringsF n w))) = toldT (ringsF n w) (lkF (tabF w (M0 n) (upTo n)) (ringsF n w)) from rfl]
  rw [show sortR (toldT (ringsF n w) (lkF (tabF w (M0 n) (upTo n)) (ringsF n w))) = .ok (profT (ringsF n w) (lkF (tabF w (M0 n) (upTo n)) (ringsF n w))) from if_pos (by rw [toldT_len]; omega)]
  simp -implicitDefEqProofs only [mS, mD, mF, mFS, initE, Nat.reduceAdd, Nat.reduceSub, Nat.reduceEqDiff, reduceIte, valO, lstO, q1, q2, q3, q4, trO, R.ne_okk]

end DL

namespace DL
open PySem PySem.Spec PyProof.Rows L2

def lf (p : List Int) (a b : Nat) : Int := if cellF p a < cellF p b then 1 else 0
theorem Iv.plc {n : Nat} {p o : List Int} (iv : Iv n p o) {a c : Nat} (ha : a < n) (hc : c < n) : (cellF o c).toNat = a ↔ cellF p a = c := by
  obtain ⟨a1, a2, a3⟩ := iv.rs a ha
  obtain ⟨c1, c2, c3⟩ := iv.sr c hc
  constructor
  · intro e
    rw [e] at c3
    exact c3
  · intro e
    rw [e, Int.toNat_natCast] at a3
    omega
theorem Iv.pne {n : Nat} {p o : List Int} (iv : Iv n p o) {a b : Nat} (ha : a < n) (hb : b < n) (h : a ≠ b) : cellF p a ≠ cellF p b := fun e => h (iv.symm.sne ha hb e)
theorem eX_lf {n : Nat} {p o : List Int} (iv : Iv n p o) {k : Int} (hk : IsX n k) {a b : Nat} (ha : a < n) (hb : b < n) : eX k o a b - eX k o b a = lf p a b - lf (svl p (k.natAbs - 1)) a b := by
  by_cases hab : a = b
  · subst hab
    unfold lf
    rw [if_neg (Int.lt_irrefl _), if_neg (Int.lt_irrefl _)]
    omega
  · obtain ⟨k1, k2⟩ := isx_abs hk
    obtain ⟨c, hc⟩ : ∃ c : Nat, k.natAbs = c + 1 := ⟨k.natAbs - 1, by omega⟩
    have hp := iv.pne ha hb hab
    have ra := iv.rs a ha
    have rb := iv.rs b hb
    unfold eX lf
    rw [hc, show c + 1 - 1 = c by omega, cell_svl (by rw [iv.lr]; exact ha), cell_svl (by rw [iv.lr]; exact hb)]
    simp -implicitDefEqProofs only [iv.plc ha (show c < n by omega), iv.plc hb (show c < n by omega), iv.plc ha (show c + 1 < n by omega), iv.plc hb (show c + 1 < n by omega)]
    generalize cellF p a = x at hp ra
    generalize cellF p b = y at hp rb
    unfold sg
    by_cases h1 : 0 < k
    · simp -implicitDefEqProofs only [h1, if_true]
      repeat' split
      all_goals omega
    · simp -implicitDefEqProofs only [h1, if_false]
      repeat' split
      all_goals omega
theorem cnt_lf {n : Nat} : ∀ (w p o : List Int), (∀ k ∈ w, IsX n k) → Iv n p o → ∀ a b, a < n → b < n → cnt w o a b - cnt w o b a = lf p a b - lf (plcF w p) a b
  | [], p, o, _, _, a, b, _, _ => by show (0 : Int) - 0 = lf p a b - lf p a b; omega
  | k :: w, p, o, hw, iv, a, b, ha, hb => by
    have hk := hw k (by simp)
    obtain ⟨k1, k2⟩ := isx_abs hk
    have ih := cnt_lf w _ _ (fun x hx => hw x (by simp [hx])) (iv.step (a := k.natAbs - 1) (by omega)) a b ha hb
    have e := eX_lf iv hk ha hb
    show eX k o a b + cnt w _ a b - (eX k o b a + cnt w _ b a) = lf p a b - lf (plcF w (svl p (k.natAbs - 1))) a b
    omega
theorem orb_rot {P : Int → Int} {f : Int} : ∀ (k : Nat) (y : Int), Rt P f k (P y) → (y :: orb P f k (P y)).map P = orb P f k (P y) ++ [f]
  | 0, y, h => by
    have e := h.zero
    show [P y] = [f]
    rw [e]
  | k + 1, y, h => by
    unfold orb
    by_cases e : P y = f
    · rw [if_pos e]
      show [P y] = [f]
      rw [e]
    · rw [if_neg e]
      have ih := orb_rot k (P y) (h.next e)
      show P y :: (P y :: orb P f k (P (P y))).map P = P y :: (orb P f k (P (P y)) ++ [f])
      rw [ih]
theorem rg_rot {n : Nat} (hn : n ≤ 7) {P : Int → Int} (h : Pm n P) {f : Int} (h0 : 0 ≤ f) (h1 : f < n) : ((rg P f).map P).Perm (rg P f) := by
  unfold rg
  rw [orb_rot 7 f ((h.rt hn h0 h1).more (by omega))]
  exact List.perm_append_singleton _ _
def sum2 (g : Int → Int → Int) (r r' : List Int) : Int := (r.map fun a => (r'.map fun b => g a b).sum).sum
theorem sum_perm {a b : List Int} (h : a.Perm b) : a.sum = b.sum := by
  induction h with
  | nil => rfl
  | cons x _ ih => rw [List.sum_cons, List.sum_cons, ih]
  | swap x y l => simp -implicitDefEqProofs only [List.sum_cons]; omega
  | trans _ _ ih1 ih2 => exact ih1.trans ih2
theorem sum2_perm (g : Int → Int → Int) {r s r' s' : List Int} (h : r.Perm s) (h' : r'.Perm s') : sum2 g r r' = sum2 g s s' := by
  unfold sum2
  have e : ∀ a, (r'.map fun b => g a b).sum = (s'.map fun b => g a b).sum := fun a => sum_perm (h'.map _)
  simp -implicitDefEqProofs only [e]
  exact sum_perm (h.map _)
theorem sum2_map (g : Int → Int → Int) (P : Int → Int) (r r' : List Int) : sum2 g (r.map P) (r'.map P) = sum2 (fun a b => g (P a) (P b)) r r' := by
  unfold sum2
  simp -implicitDefEqProofs only [List.map_map]
  rfl
theorem sum_add : ∀ (r : List Int) (f g : Int → Int), (r.map fun a => f a + g a).sum = (r.map f).sum + (r.map g).sum
  | [], _, _ => rfl
  | x :: r, f, g => by
    simp -implicitDefEqProofs only [List.map_cons, List.sum_cons, sum_add r f g]
    omega
theorem sum_sub : ∀ (r : List Int) (f g : Int → Int), (r.map fun a => f a - g a).sum = (r.map f).sum - (r.map g).sum
  | [], _, _ => rfl
  | x :: r, f, g => by
    simp -implicitDefEqProofs only [List.map_cons, List.sum_cons, sum_sub r f g]
    omega
theorem sum2_sub (f g : Int → Int → Int) (r r' : List Int) : sum2 (fun a b => f a b - g a b) r r' = sum2 f r r' - sum2 g r r' := by
  unfold sum2
  simp -implicitDefEqProofs only [sum_sub]
theorem sum_zero (r : List Int) : (r.map fun _ => (0 : Int)).sum = 0 := by
  induction r with
  | nil => rfl
  | cons _ _ ih => rw [List.map_cons, List.sum_cons, ih]; rfl
theorem sum2_swap (f : Int → Int → Int) : ∀ (r r' : List Int), sum2 f r r' = sum2 (fun a b => f b a) r' r
  | [], r' => by
    unfold sum2
    simp -implicitDefEqProofs only [List.map_nil, List.sum_nil]
    exact (sum_zero r').symm
  | x :: r, r' => by
    have ih := sum2_swap f r r'
    unfold sum2 at ih ⊢
    simp -implicitDefEqProofs only [List.map_cons, List.sum_cons, sum_add]
    rw [ih]
theorem sum2_congr {f g : Int → Int → Int} {r r' : List Int} (h : ∀ a ∈ r, ∀ b ∈ r', f a b = g a b) : sum2 f r r' = sum2 g r r' := by
  unfold sum2
  rw [List.map_congr_left fun a ha => by rw [List.map_congr_left fun b hb => h a ha b hb]]
theorem sbF_sum2 (M : List (List Int)) (r r' : List Int) : sbF M r r' = sum2 (fun a b => mcell M a.toNat b.toNat) r r' := rfl
theorem M0_cell {n i j : Nat} (hj : j < n) (hi : i < n) : mcell (M0 n) i j = 0 := by
  have h := mrow_get (M0_mx n) hi
  unfold mcell
  have e : mrow (M0 n) i = List.replicate n 0 := by
    have := h.1
    unfold M0 at this
    rw [List.getElem?_map] at this
    cases q : (ofI (upTo n))[i]? with
    | none => rw [q] at this; cases this
    | some d => rw [q] at this; exact (Option.some.inj this).symm
  rw [e]
  unfold cellF
  rw [List.getElem?_replicate, if_pos hj]
  rfl
theorem sb_symm {n : Nat} (hn : n ≤ 7) {w : List Int} (hw : ∀ k ∈ w, IsX n k) {r r' : List Int} (hr : r ∈ ringsF n w) (hr' : r' ∈ ringsF n w) : sbF (tabF w (M0 n) (upTo n)) r r' = sbF (tabF w (M0 n) (upTo n)) r' r := by
  have iv := iv_fold w _ _ hw (iv_up n)
  have pm := iv_pm iv
  have i1 := (rings_in hn hw r hr).2
  have i2 := (rings_in hn hw r' hr').2
  obtain ⟨f, hf, e1⟩ := List.mem_map.mp hr
  obtain ⟨f', hf', e2⟩ := List.mem_map.mp hr'
  have hf := mem_upTo.mp (List.mem_filter.mp hf).1
  have hf' := mem_upTo.mp (List.mem_filter.mp hf').1
  have q1 : (r.map (PF (plcF w (upTo n)))).Perm r := e1 ▸ rg_rot hn pm hf.1 hf.2
  have q2 : (r'.map (PF (plcF w (upTo n)))).Perm r' := e2 ▸ rg_rot hn pm hf'.1 hf'.2
  rw [sbF_sum2, sbF_sum2, sum2_swap _ r' r]
  have key : sum2 (fun a b => mcell (tabF w (M0 n) (upTo n)) a.toNat b.toNat - mcell (tabF w (M0 n) (upTo n)) b.toNat a.toNat) r r' = 0 := by
    have e : sum2 (fun a b => mcell (tabF w (M0 n) (upTo n)) a.toNat b.toNat - mcell (tabF w (M0 n) (upTo n)) b.toNat a.toNat) r r' = sum2 (fun a b => (if a < b then 1 else 0) - (if PF (plcF w (upTo n)) a < PF (plcF w (upTo n)) b then (1 : Int) else 0)) r r' := by
      refine sum2_congr fun a ha b hb => ?_
      have ja := i1 a ha
      have jb := i2 b hb
      have c := cnt_lf w _ _ hw (iv_up n) a.toNat b.toNat (by omega) (by omega)
      unfold lf at c
      rw [cell_upTo (show a.toNat < n by omega), cell_upTo (show b.toNat < n by omega), Int.toNat_of_nonneg ja.1, Int.toNat_of_nonneg jb.1] at c
      rw [tab_cell w _ _ _ hw (M0_mx n) (iv_up n) _ _ (by omega), tab_cell w _ _ _ hw (M0_mx n) (iv_up n) _ _ (by omega), M0_cell (by omega) (by omega), M0_cell (by omega) (by omega)]
      unfold PF
      omega
    rw [e, sum2_sub]
    have m := sum2_map (fun a b => if a < b then (1 : Int) else 0) (PF (plcF w (upTo n))) r r'
    rw [sum2_perm _ q1 q2] at m
    rw [← m]
    omega
  rw [sum2_sub] at key
  omega

end DL

namespace DL
open PySem PySem.Spec PyProof.Rows L2

theorem kSumL_ok (ns : List Int) : kSumL (ofI ns) = some (.int ns.sum) := by unfold kSumL; rw [toI_of]; rfl
theorem ll_c4 {n : Nat} {M : List (List Int)} (hM : Mx n M) {other : List Int} (ho : InN n other) {a : Int} (ha : 0 ≤ a ∧ a < n) : b__law_linked_c4 [.val (.int a), .val (.lst (ofI other)), .val (.lst (rowsD M))] = .ok (.int (sb1 M a other)) := by
  have hr := mrow_get hM (i := a.toNat) (by omega)
  unfold b__law_linked_c4
  simp -implicitDefEqProofs only [mS, mD, mF, mFS, initE, Nat.reduceAdd, Nat.reduceSub, Nat.reduceEqDiff, reduceIte, valO, lstO, q1, q2, q3, q4, capt]
  rw [compD_ints (fun b => cellF (mrow M a.toNat) b.toNat) other fun b hb => ⟨_, bN_ok _ _ _, rfl, by
    have hb' := ho.2 b hb
    unfold b__law_linked_c3 cpE
    simp -implicitDefEqProofs only [mS, mD, mF, mFS, initE, Nat.reduceAdd, Nat.reduceSub, Nat.reduceEqDiff, reduceIte, valO, lstO, q1, q2, q3, q4]
    rw [at_row ha.1 (by rw [hM.1]; exact ha.2)]
    simp -implicitDefEqProofs only [mS, mD, mF, mFS, initE, Nat.reduceAdd, Nat.reduceSub, Nat.reduceEqDiff, reduceIte, valO, lstO, q1, q2, q3, q4]
    rw [at_cell hb'.1 (by rw [hr.2]; exact hb'.2)]
    simp -implicitDefEqProofs only [mS, mD, mF, mFS, initE, Nat.reduceAdd, Nat.reduceSub, Nat.reduceEqDiff, reduceIte, valO, lstO, q1, q2, q3, q4]⟩]
  simp -implicitDefEqProofs only [mS, mD, mF, mFS, initE, Nat.reduceAdd, Nat.reduceSub, Nat.reduceEqDiff, reduceIte, valO, lstO, q1, q2, q3, q4, R.ne_okk]
  rw [fit_ofI (by rw [List.length_map]; have := ho.1; omega)]
  simp -implicitDefEqProofs only [mS, mD, mF, mFS, initE, Nat.reduceAdd, Nat.reduceSub, Nat.reduceEqDiff, reduceIte, valO, lstO, q1, q2, q3, q4, kSumL_ok]
  rfl
theorem ll_l5 {n : Nat} {M : List (List Int)} (hM : Mx n M) (s1 s2 s5 : Sl) {one other : List Int} (h1 : InN n one) (ho : InN n other) {row : List Int} (hl : row.length < 1000) : b__law_linked_l5 (.lst (ofI other)) [.val (.lst (rowsD M)), s1, s2, .val (.lst (ofI one)), .own (ofI row), s5] = .ok (.nx [.val (.lst (rowsD M)), s1, s2, .val (.lst (ofI one)), .own (ofI (row ++ [sbF M one other])), .val (.lst (ofI other))]) := by
  unfold b__law_linked_l5
  simp -implicitDefEqProofs only [bN_ok, mS, mD, mF, mFS, initE, Nat.reduceAdd, Nat.reduceSub, Nat.reduceEqDiff, reduceIte, valO, lstO, q1, q2, q3, q4, capt]
  rw [compD_ints (fun a => sb1 M a other) one fun a ha => ⟨_, bN_ok _ _ _, rfl, ll_c4 hM ho (h1.2 a ha)⟩]
  simp -implicitDefEqProofs only [mS, mD, mF, mFS, initE, Nat.reduceAdd, Nat.reduceSub, Nat.reduceEqDiff, reduceIte, valO, lstO, q1, q2, q3, q4, R.ne_okk]
  rw [fit_ofI (by rw [List.length_map]; have := h1.1; omega)]
  simp -implicitDefEqProofs only [mS, mD, mF, mFS, initE, Nat.reduceAdd, Nat.reduceSub, Nat.reduceEqDiff, reduceIte, valO, lstO, q1, q2, q3, q4, kSumL_ok]
  rw [appO_ok (by rw [ofI_len]; omega)]
  simp -implicitDefEqProofs only [mS, mD, mF, mFS, initE, Nat.reduceAdd, Nat.reduceSub, Nat.reduceEqDiff, reduceIte, valO, lstO, q1, q2, q3, q4]
  rw [← ofI_app]
  rfl
theorem ll_row {n : Nat} {M : List (List Int)} (hM : Mx n M) (s1 s2 : Sl) {one : List Int} (h1 : InN n one) : ∀ (rs : List (List Int)) (row : List Int) (s5 : Sl), (∀ r ∈ rs, InN n r) → row.length + rs.length < 1000 → ∃ s5', forD b__law_linked_l5 (rowsD rs) [.val (.lst (rowsD M)), s1, s2, .val (.lst (ofI one)), .own (ofI row), s5] = .ok (.nx [.val (.lst (rowsD M)), s1, s2, .val (.lst (ofI one)), .own (ofI (row ++ rs.map (sbF M one))), s5'])
  | [], row, s5, _, _ => ⟨s5, by rw [List.map_nil, List.append_nil]; rfl⟩
  | r :: rs, row, s5, h, hl => by
    rw [List.length_cons] at hl
    obtain ⟨s5', e⟩ := ll_row hM s1 s2 h1 rs (row ++ [sbF M one r]) (.val (.lst (ofI r))) (fun x hx => h x (by simp [hx])) (by rw [List.length_append, List.length_singleton]; omega)
    refine ⟨s5', ?_⟩
    show forD b__law_linked_l5 (D.lst (ofI r) :: rowsD rs) _ = _
    rw [for_cons (ll_l5 hM s1 s2 s5 h1 (h r (by simp)) (row := row) (by omega)), e, List.append_assoc, List.map_cons]
    rfl
theorem ll_rows {n : Nat} {M rs : List (List Int)} (hM : Mx n M) (hrs : ∀ r ∈ rs, InN n r) (hl : rs.length ≤ 7) : ∀ (qs : List (List Int)) (acc : List (List Int)) (s3 s4 s5 : Sl), (∀ r ∈ qs, InN n r) → acc.length + qs.length < 1000 → ∃ s3' s4' s5', forD b__law_linked_l6 (rowsD qs) [.val (.lst (rowsD M)), .val (.lst (rowsD rs)), .deep (Ct.ls acc), s3, s4, s5] = .ok (.nx [.val (.lst (rowsD M)), .val (.lst (rowsD rs)), .deep (Ct.ls (acc ++ qs.map fun r => rs.map (sbF M r))), s3', s4', s5'])
  | [], acc, s3, s4, s5, _, _ => ⟨s3, s4, s5, by rw [List.map_nil, List.append_nil]; rfl⟩
  | r :: qs, acc, s3, s4, s5, h, ha => by
    rw [List.length_cons] at ha
    have h1 := h r (by simp)
    obtain ⟨u5, e1⟩ := ll_row hM (.val (.lst (rowsD rs))) (.deep (Ct.ls acc)) h1 rs [] s5 hrs (by rw [List.length_nil]; omega)
    rw [List.nil_append] at e1
    have e0 : b__law_linked_l6 (.lst (ofI r)) [.val (.lst (rowsD M)), .val (.lst (rowsD rs)), .deep (Ct.ls acc), s3, s4, s5] = .ok (.nx [.val (.lst (rowsD M)), .val (.lst (rowsD rs)), .deep (Ct.ls (acc ++ [rs.map (sbF M r)])), .val (.lst (ofI r)), .no, u5]) := by
      unfold b__law_linked_l6
      simp -implicitDefEqProofs only [bN_ok, mS, mD, mF, mFS, initE, Nat.reduceAdd, Nat.reduceSub, Nat.reduceEqDiff, reduceIte, valO, lstO, q1, q2, q3, q4]
      rw [show ([] : List D) = ofI [] from rfl, e1]
      simp -implicitDefEqProofs only [mS, mD, mF, mFS, initE, Nat.reduceAdd, Nat.reduceSub, Nat.reduceEqDiff, reduceIte, valO, lstO, q1, q2, q3, q4, deepAt_0, deepAt_s, toI_of]
      rw [mvT_ok (by omega)]
      rfl
    obtain ⟨s3', s4', s5', e2⟩ := ll_rows hM hrs hl qs (acc ++ [rs.map (sbF M r)]) (.val (.lst (ofI r))) .no u5 (fun x hx => h x (by simp [hx])) (by rw [List.length_append, List.length_singleton]; omega)
    refine ⟨s3', s4', s5', ?_⟩
    show forD b__law_linked_l6 (D.lst (ofI r) :: rowsD qs) _ = _
    rw [for_cons e0, e2, List.append_assoc, List.map_cons]
    rfl
theorem llinked_ok {n : Nat} {M rs : List (List Int)} (hM : Mx n M) (hrs : ∀ r ∈ rs, InN n r) (hl : rs.length ≤ 7) : m__law_linked [.lst (rowsD M), .lst (rowsD rs)] = .ok (lkF M rs) := by
  unfold m__law_linked b__law_linked
  simp -implicitDefEqProofs only [mS, mD, mF, mFS, initE, Nat.reduceAdd, Nat.reduceSub, Nat.reduceEqDiff, reduceIte, valO, lstO, q1, q2, q3, q4, deepAt_0, deepAt_s, slB_0d, mT, deepO, seqO_rtT]
  obtain ⟨s3, s4, s5, e⟩ := ll_rows hM hrs hl rs [] .no .no .no hrs (by rw [List.length_nil]; omega)
  rw [e]
  simp -implicitDefEqProofs only [mS, mD, mF, mFS, initE, Nat.reduceAdd, Nat.reduceSub, Nat.reduceEqDiff, reduceIte, valO, lstO, q1, q2, q3, q4, deepAt_0, deepAt_s, slB_0d, mT, deepO, seqO_rtT, R.ne_okk]
  rfl
theorem lq_l1 {rs S : List (List Int)} {m : Nat} (hr : rs.length = m) (hm : m ≤ 7) (hS : Mx m S) (s1 s3 s4 : Sl) {acc : List D} (ha : acc.length < 1000) {i : Nat} (hi : i < m) : b__law_profile_l1 (.tup [.int i, .lst (ofI (mrow rs i))]) [.val (.lst (rowsD S)), s1, .own acc, s3, s4] = .ok (.nx [.val (.lst (rowsD S)), s1, .own (acc ++ [tell rs S i]), .val (.int i), .val (.lst (ofI (mrow rs i)))]) := by
  have hrow := mrow_get hS hi
  unfold b__law_profile_l1
  simp -implicitDefEqProofs only [bT2, mS, mD, mF, mFS, initE, Nat.reduceAdd, Nat.reduceSub, Nat.reduceEqDiff, reduceIte, valO, lstO, q1, q2, q3, q4]
  rw [at_row (M := S) (by omega) (by rw [hS.1]; omega), Int.toNat_natCast]
  simp -implicitDefEqProofs only [mS, mD, mF, mFS, initE, Nat.reduceAdd, Nat.reduceSub, Nat.reduceEqDiff, reduceIte, valO, lstO, q1, q2, q3, q4]
  rw [at_cell (by omega) (by rw [hrow.2]; omega), Int.toNat_natCast]
  simp -implicitDefEqProofs only [mS, mD, mF, mFS, initE, Nat.reduceAdd, Nat.reduceSub, Nat.reduceEqDiff, reduceIte, valO, lstO, q1, q2, q3, q4]
  rw [cut_ofI, cut_ofI, cut_to _ _ (by omega), cut_from _ _ (by omega), ofI_app, fit_ofI (by rw [List.length_append, List.length_take, List.length_drop, hrow.2]; omega)]
  simp -implicitDefEqProofs only [mS, mD, mF, mFS, initE, Nat.reduceAdd, Nat.reduceSub, Nat.reduceEqDiff, reduceIte, valO, lstO, q1, q2, q3, q4]
  rw [sortL_ok (by rw [List.length_append, List.length_take, List.length_drop, hrow.2]; omega)]
  simp -implicitDefEqProofs only [mS, mD, mF, mFS, initE, Nat.reduceAdd, Nat.reduceSub, Nat.reduceEqDiff, reduceIte, valO, lstO, q1, q2, q3, q4, ofI_len]
  rw [appO_ok (by omega)]
  simp -implicitDefEqProofs only [mS, mD, mF, mFS, initE, Nat.reduceAdd, Nat.reduceSub, Nat.reduceEqDiff, reduceIte, valO, lstO, q1, q2, q3, q4]
  unfold tell
  rw [show ((i : Int) + 1).toNat = i + 1 by omega, Int.toNat_natCast]
theorem lprofile_ok {rs S : List (List Int)} (hl : rs.length ≤ 7) (hS : Mx rs.length S) : m__law_profile [.lst (rowsD S), .lst (rowsD rs)] = .ok (.lst (profF rs S)) := by
  unfold m__law_profile b__law_profile
  simp -implicitDefEqProofs only [mS, mD, mF, mFS, initE, Nat.reduceAdd, Nat.reduceSub, Nat.reduceEqDiff, reduceIte, valO, lstO, q1, q2, q3, q4]
  have he : enumL (rowsD rs) = (upTo rs.length).map fun i => D.tup [.int i, .lst (ofI (mrow rs i.toNat))] := by
    refine List.ext_getElem? fun j => ?_
    unfold enumL rowsD
    rw [List.getElem?_map, List.getElem?_map, List.getElem?_zipIdx, List.getElem?_map]
    by_cases hj : j < rs.length
    · rw [List.getElem?_eq_getElem hj, upTo_get _ j hj]
      show some (D.tup [.int ((0 + j : Nat) : Int), .lst (ofI rs[j])]) = some (D.tup [.int (j : Int), .lst (ofI (mrow rs ((j : Int)).toNat))])
      rw [Nat.zero_add, Int.toNat_natCast, show mrow rs j = rs[j] from by unfold mrow; rw [List.getElem?_eq_getElem hj]; rfl]
    · rw [List.getElem?_eq_none (by omega), List.getElem?_eq_none (by rw [upTo_len]; omega)]
      rfl
  rw [he]
  have lp : ∀ (is : List Int) (acc : List D) (s3 s4 : Sl), (∀ i ∈ is, 0 ≤ i ∧ i < rs.length) → acc.length + is.length < 1000 → ∃ u3 u4, forD b__law_profile_l1 (is.map fun i => D.tup [.int i, .lst (ofI (mrow rs i.toNat))]) [.val (.lst (rowsD S)), .val (.lst (rowsD rs)), .own acc, s3, s4] = .ok (.nx [.val (.lst (rowsD S)), .val (.lst (rowsD rs)), .own (acc ++ is.map (tell rs S)), u3, u4]) := by
    intro is
    induction is with
    | nil => exact fun acc s3 s4 _ _ => ⟨s3, s4, by simp [for_nil]⟩
    | cons i is ih =>
      intro acc s3 s4 h ha
      rw [List.length_cons] at ha
      have hi := h i (by simp)
      obtain ⟨j, rfl⟩ : ∃ j : Nat, i = j := ⟨i.toNat, by omega⟩
      have e := lq_l1 (rs := rs) (S := S) rfl hl hS (.val (.lst (rowsD rs))) s3 s4 (acc := acc) (by omega) (i := j) (by omega)
      obtain ⟨u3, u4, e2⟩ := ih (acc ++ [tell rs S j]) (.val (.int j)) (.val (.lst (ofI (mrow rs j)))) (fun x hx => h x (by simp [hx])) (by rw [List.length_append, List.length_singleton]; omega)
      refine ⟨u3, u4, ?_⟩
      rw [List.map_cons, Int.toNat_natCast, for_cons e, e2, List.append_assoc, List.map_cons]
      rfl
  obtain ⟨u3, u4, e⟩ := lp (upTo rs.length) [] .no .no (fun i hi => mem_upTo.mp hi) (by rw [upTo_len, List.length_nil]; omega)
  rw [e]
  simp -implicitDefEqProofs only [mS, mD, mF, mFS, initE, Nat.reduceAdd, Nat.reduceSub, Nat.reduceEqDiff, reduceIte, valO, lstO, q1, q2, q3, q4]
  rw [show (upTo rs.length).map (tell rs S) = toldF rs S from rfl, sortT_told hl]
  simp -implicitDefEqProofs only [mS, mD, mF, mFS, initE, Nat.reduceAdd, Nat.reduceSub, Nat.reduceEqDiff, reduceIte, valO, lstO, q1, q2, q3, q4]
theorem sub_tt (xs : List D) : subT (tyN (.tup xs)) "tuple" = true := rfl
theorem pi_l1 (s0 s1 s2 s3 : Sl) (t : Trp) (hl : t.2.2.length ≤ 1000) : b__law_profile_is_l1 (.tup [dT t, dT t]) [s0, s1, s2, s3] = .ok (.nx [s0, s1, .val (dT t), .val (dT t)]) := by
  have l2 : m__law_list_is [.lst [.int t.1, .int t.2.1], .lst [.int t.1, .int t.2.1]] = .ok (.bl true) := by
    have h := list_is_ok [t.1, t.2.1] [t.1, t.2.1] (by simp)
    rw [decide_eq_true rfl] at h
    exact h
  have l3 : m__law_list_is [.lst (t.2.2.map .int), .lst (t.2.2.map .int)] = .ok (.bl true) := by
    have h := list_is_ok t.2.2 t.2.2 (by omega)
    rw [decide_eq_true rfl] at h
    exact h
  have a0 : ∀ x y z : D, atI [x, y, z] 0 = some x := fun _ _ _ => rfl
  have a1 : ∀ x y z : D, atI [x, y, z] 1 = some y := fun _ _ _ => rfl
  have a2 : ∀ x y z : D, atI [x, y, z] 2 = some z := fun _ _ _ => rfl
  unfold b__law_profile_is_l1 dT
  simp -implicitDefEqProofs only [bT2, mS, mD, mF, mFS, initE, Nat.reduceAdd, Nat.reduceSub, Nat.reduceEqDiff, reduceIte, valO, lstO, q1, q2, q3, q4, sub_tt, Bool.not_true, a0, a1, a2, beq_self_eq_true, l2, l3]
  have e3 : (((0 + 1 + 1 + 1 : Nat) : Int) == 3) = true := rfl
  simp -implicitDefEqProofs only [mS, mD, mF, mFS, initE, Nat.reduceAdd, Nat.reduceSub, Nat.reduceEqDiff, reduceIte, valO, lstO, q1, q2, q3, q4, sub_tt, Bool.not_true, a0, a1, a2, beq_self_eq_true, l2, l3, e3]
theorem profile_is_ok (ts : List Trp) (hl : ts.length ≤ 1000) (h : ∀ t ∈ ts, t.2.2.length ≤ 1000) : m__law_profile_is [.lst (ts.map dT), .lst (ts.map dT)] = .ok (.bl true) := by
  unfold m__law_profile_is b__law_profile_is
  have e1 : (((ts.map dT).length : Int) == ((ts.map dT).length : Int)) = true := beq_self_eq_true _
  simp -implicitDefEqProofs only [mS, mD, mF, mFS, initE, Nat.reduceAdd, Nat.reduceSub, Nat.reduceEqDiff, reduceIte, valO, lstO, q1, q2, q3, q4, sub_ll, Bool.not_true, e1, zip2_l]
  have ez : zipL (ts.map dT) (ts.map dT) = ts.map fun t => D.tup [dT t, dT t] := by
    unfold zipL
    rw [List.zip_map', List.map_map]
    rfl
  rw [ez]
  have lp : ∀ (qs : List Trp) (s2 s3 : Sl), (∀ t ∈ qs, t.2.2.length ≤ 1000) → ∃ u2 u3, forD b__law_profile_is_l1 (qs.map fun t => D.tup [dT t, dT t]) [.val (.lst (ts.map dT)), .val (.lst (ts.map dT)), s2, s3] = .ok (.nx [.val (.lst (ts.map dT)), .val (.lst (ts.map dT)), u2, u3]) := by
    intro qs
    induction qs with
    | nil => exact fun s2 s3 _ => ⟨s2, s3, rfl⟩
    | cons t qs ih =>
      intro s2 s3 h
      obtain ⟨u2, u3, e⟩ := ih (.val (dT t)) (.val (dT t)) fun x hx => h x (by simp [hx])
      exact ⟨u2, u3, by rw [List.map_cons, for_cons (pi_l1 _ _ s2 s3 t (h t (by simp))), e]⟩
  obtain ⟨u2, u3, e⟩ := lp ts .no .no h
  rw [e]
  simp -implicitDefEqProofs only [mS, mD, mF, mFS, initE, Nat.reduceAdd, Nat.reduceSub, Nat.reduceEqDiff, reduceIte, valO, lstO, q1, q2, q3, q4]
theorem profT_small {rs S : List (List Int)} (hl : rs.length ≤ 7) (hS : Mx rs.length S) : (profT rs S).length = rs.length ∧ ∀ t ∈ profT rs S, t.2.2.length ≤ 1000 := by
  unfold profT
  refine ⟨by rw [List.length_map, (ordP_perm _ _).length_eq, List.length_range, toldT_len], fun t ht => ?_⟩
  obtain ⟨j, hj, rfl⟩ := List.mem_map.mp ht
  have hj' := ordP_lt hj
  have hm : (toldT rs S).getD j (0, 0, []) ∈ toldT rs S := by
    rw [show (toldT rs S).getD j (0, 0, []) = (toldT rs S)[j] from by simp [hj']]
    exact List.getElem_mem _
  obtain ⟨i, hi, e⟩ := List.mem_map.mp hm
  rw [← e]
  have hi' := mem_upTo.mp hi
  have hrow := (mrow_get hS (i := i.toNat) (by omega)).2
  show (sortI _).length ≤ 1000
  rw [show ∀ l : List Int, (sortI l).length = l.length from fun l => (List.mergeSort_perm l _).length_eq, List.length_append, List.length_take, List.length_drop, hrow]
  omega

end DL

namespace DL
open PySem PySem.Spec PyProof.Rows L2
theorem rows_ok (A : List (List Int)) (hl : A.length ≤ 1000) (hA : ∀ ns ∈ A, ns.length ≤ 1000) : m__law_rows_are [.lst (A.map fun ns => .lst (ofI ns)), .lst (A.map fun ns => .lst (ofI ns))] = .ok (.bl true) := by
  unfold m__law_rows_are b__law_rows_are
  have e1 : (((A.map fun ns => D.lst (ofI ns)).length : Int) == ((A.map fun ns => D.lst (ofI ns)).length : Int)) = true := beq_self_eq_true _
  simp -implicitDefEqProofs only [mS, mD, mF, mFS, initE, Nat.reduceAdd, Nat.reduceSub, Nat.reduceEqDiff, reduceIte, valO, lstO, q1, q2, q3, q4, sub_ll, Bool.not_true, e1, zip2_l, capt]
  have ez : zipL (A.map fun ns => D.lst (ofI ns)) (A.map fun ns => D.lst (ofI ns)) = A.map fun ns => D.tup [.lst (ofI ns), .lst (ofI ns)] := by
    unfold zipL
    rw [List.zip_map', List.map_map]
    rfl
  rw [ez, compD_map (fun _ => .bl true) _ fun x hx => by
    obtain ⟨ns, hns, rfl⟩ := List.mem_map.mp hx
    refine ⟨_, bT2 _ _ _ _ _, rfl, ?_⟩
    unfold b__law_rows_are_c2 cpE
    simp -implicitDefEqProofs only [mS, mD, mF, mFS, initE, Nat.reduceAdd, Nat.reduceSub, Nat.reduceEqDiff, reduceIte, valO, lstO, q1, q2, q3, q4]
    rw [list_is_ok _ _ (by have := hA ns hns; omega)]
    simp -implicitDefEqProofs only [decide_true]]
  simp -implicitDefEqProofs only [mS, mD, mF, mFS, initE, Nat.reduceAdd, Nat.reduceSub, Nat.reduceEqDiff, reduceIte, valO, lstO, q1, q2, q3, q4, R.ne_okk]
  rw [fit_ok (big (by rw [List.length_map, List.length_map]; omega)), List.map_map, show (A.map ((fun _ => D.bl true) ∘ fun ns => D.tup [D.lst (ofI ns), D.lst (ofI ns)])) = (A.map fun _ => true).map D.bl by rw [List.map_map]; rfl]
  simp -implicitDefEqProofs only [mS, mD, mF, mFS, initE, Nat.reduceAdd, Nat.reduceSub, Nat.reduceEqDiff, reduceIte, valO, lstO, q1, q2, q3, q4]
  rw [kAll_b, show ((A.map fun _ => true).all id) = true by rw [List.all_map]; exact List.all_eq_true.mpr fun _ _ => rfl]
  simp -implicitDefEqProofs only [mS, mD, mF, mFS, initE, Nat.reduceAdd, Nat.reduceSub, Nat.reduceEqDiff, reduceIte, valO, lstO, q1, q2, q3, q4]

theorem rgs_ne (P : Int → Int) {n : Nat} (hn : 1 ≤ n) (hr : ∀ x ∈ rg P 0, 0 ≤ x) : ∃ r, (rgs P n)[0]? = some (rg P 0) ∧ rgs P n = rg P 0 :: r := by
  have h1 : lst P 0 = true := by
    unfold lst
    rw [List.all_eq_true]
    intro y hy
    simpa using hr y hy
  have : ∀ k : Nat, ∃ r, rgs P (k + 1) = rg P 0 :: r := fun k => by
    induction k with
    | zero =>
      rw [rgs_succ]
      have e : lst P ((0 : Nat) : Int) = true := h1
      rw [e, if_pos rfl]
      exact ⟨[], by simp [rgs, upTo]⟩
    | succ k ih =>
      obtain ⟨r, ih⟩ := ih
      rw [rgs_succ, ih]
      exact ⟨_, rfl⟩
  obtain ⟨k, rfl⟩ : ∃ k, n = k + 1 := ⟨n - 1, by omega⟩
  obtain ⟨r, e⟩ := this k
  exact ⟨r, by rw [e]; rfl, e⟩
theorem appP_ok {ix : Nat} {env : DE} {nss : List (List Int)} {kn : Nat × List Int} {v : Int} (h : kn.2.length < 1000) : appP ix env nss kn (.int v) = .ok (.nx (env.set ix (.deep (nss.set kn.1 (kn.2 ++ [v]))))) := if_pos (Nat.lt_of_lt_of_le h (by decide))
theorem appX_ok {ix : Nat} {env : DE} {t : Trp} {v : Int} (h : t.2.2.length ≤ 1000) : appX ix env t (.int v) = .ok (.nx (env.set ix .no)) := if_pos (Nat.lt_of_le_of_lt h (by decide))
theorem lk_cell {M rs : List (List Int)} {i j : Nat} (hi : i < rs.length) (hj : j < rs.length) : mrow (lkF M rs) i = rs.map (sbF M rs[i]) ∧ cellF (mrow (lkF M rs) i) j = sbF M rs[i] rs[j] := by
  have e : mrow (lkF M rs) i = rs.map (sbF M rs[i]) := by unfold mrow lkF; rw [List.getElem?_map, List.getElem?_eq_getElem hi]; rfl
  refine ⟨e, ?_⟩
  rw [e]
  unfold cellF
  rw [List.getElem?_map, List.getElem?_eq_getElem hj]
  rfl
theorem sym_l1 {rs S : List (List Int)} {m : Nat} (hm : m ≤ 7) (hS : Mx m S) (hs : ∀ i j : Nat, i < m → j < m → cellF (mrow S i) j = cellF (mrow S j) i) (s0 s1 s2 s3 s4 s5 s6 s8 s10 s11 s12 : Sl) {i j : Nat} (hi : i < m) (hj : j < m) : b_law_l1 (.int j) [s0, s1, s2, s3, s4, s5, s6, .val (.lst (rowsD S)), s8, .val (.int i), s10, s11, s12] = .ok (.nx [s0, s1, s2, s3, s4, s5, s6, .val (.lst (rowsD S)), s8, .val (.int i), .val (.int j), s11, s12]) := by
  unfold b_law_l1
  simp -implicitDefEqProofs only [bN_ok, mS, mD, mF, mFS, initE, Nat.reduceAdd, Nat.reduceSub, Nat.reduceEqDiff, reduceIte, valO, lstO, q1, q2, q3, q4]
  rw [at_row (M := S) (a := (i : Int)) (by omega) (by rw [hS.1]; omega), Int.toNat_natCast]
  simp -implicitDefEqProofs only [mS, mD, mF, mFS, initE, Nat.reduceAdd, Nat.reduceSub, Nat.reduceEqDiff, reduceIte, valO, lstO, q1, q2, q3, q4]
  rw [at_cell (i := (j : Int)) (by omega) (by rw [(mrow_get hS hi).2]; omega), Int.toNat_natCast]
  simp -implicitDefEqProofs only [mS, mD, mF, mFS, initE, Nat.reduceAdd, Nat.reduceSub, Nat.reduceEqDiff, reduceIte, valO, lstO, q1, q2, q3, q4]
  rw [at_row (M := S) (a := (j : Int)) (by omega) (by rw [hS.1]; omega), Int.toNat_natCast]
  simp -implicitDefEqProofs only [mS, mD, mF, mFS, initE, Nat.reduceAdd, Nat.reduceSub, Nat.reduceEqDiff, reduceIte, valO, lstO, q1, q2, q3, q4]
  rw [at_cell (i := (i : Int)) (by omega) (by rw [(mrow_get hS hj).2]; omega), Int.toNat_natCast, hs i j hi hj]
  simp -implicitDefEqProofs only [mS, mD, mF, mFS, initE, Nat.reduceAdd, Nat.reduceSub, Nat.reduceEqDiff, reduceIte, valO, lstO, q1, q2, q3, q4, beq_self_eq_true, Bool.not_true]
theorem sym_l2 {S : List (List Int)} {m : Nat} (hm : m ≤ 7) (hS : Mx m S) (hs : ∀ i j : Nat, i < m → j < m → cellF (mrow S i) j = cellF (mrow S j) i) (s0 s1 s2 s3 s4 s5 s6 s8 s9 s10 s11 s12 : Sl) {i : Nat} (hi : i < m) : ∃ u10, b_law_l2 (.int i) [s0, s1, s2, s3, s4, s5, s6, .val (.lst (rowsD S)), s8, s9, s10, s11, s12] = .ok (.nx [s0, s1, s2, s3, s4, s5, s6, .val (.lst (rowsD S)), s8, .val (.int i), u10, s11, s12]) := by
  unfold b_law_l2
  simp -implicitDefEqProofs only [bN_ok, mS, mD, mF, mFS, initE, Nat.reduceAdd, Nat.reduceSub, Nat.reduceEqDiff, reduceIte, valO, lstO, q1, q2, q3, q4, rowsD_len, hS.1]
  rw [rng1_i _ (by omega), Int.toNat_natCast, upTo_rngL]
  simp -implicitDefEqProofs only [mS, mD, mF, mFS, initE, Nat.reduceAdd, Nat.reduceSub, Nat.reduceEqDiff, reduceIte, valO, lstO, q1, q2, q3, q4]
  have lp : ∀ (is : List Int) (s10 : Sl), (∀ i ∈ is, 0 ≤ i ∧ i < m) → ∃ u10, forD b_law_l1 (ofI is) [s0, s1, s2, s3, s4, s5, s6, .val (.lst (rowsD S)), s8, .val (.int i), s10, s11, s12] = .ok (.nx [s0, s1, s2, s3, s4, s5, s6, .val (.lst (rowsD S)), s8, .val (.int i), u10, s11, s12]) := by
    intro is
    induction is with
    | nil => exact fun s10 _ => ⟨s10, rfl⟩
    | cons j is ih =>
      intro s10 h
      have hj := h j (by simp)
      obtain ⟨k, rfl⟩ : ∃ k : Nat, j = k := ⟨j.toNat, by omega⟩
      obtain ⟨u, e⟩ := ih (.val (.int k)) fun x hx => h x (by simp [hx])
      exact ⟨u, by rw [← ofI_cons, for_cons (sym_l1 (rs := S) hm hS hs s0 s1 s2 s3 s4 s5 s6 s8 s10 s11 s12 hi (by omega)), e]⟩
  exact lp (upTo m) s10 fun i hi => mem_upTo.mp hi
theorem sym_loop {S : List (List Int)} {m : Nat} (hm : m ≤ 7) (hS : Mx m S) (hs : ∀ i j : Nat, i < m → j < m → cellF (mrow S i) j = cellF (mrow S j) i) (s0 s1 s2 s3 s4 s5 s6 s8 s11 s12 : Sl) : ∀ (is : List Int) (s9 s10 : Sl), (∀ i ∈ is, 0 ≤ i ∧ i < m) → ∃ u9 u10, forD b_law_l2 (ofI is) [s0, s1, s2, s3, s4, s5, s6, .val (.lst (rowsD S)), s8, s9, s10, s11, s12] = .ok (.nx [s0, s1, s2, s3, s4, s5, s6, .val (.lst (rowsD S)), s8, u9, u10, s11, s12])
  | [], s9, s10, _ => ⟨s9, s10, rfl⟩
  | j :: is, s9, s10, h => by
    have hj := h j (by simp)
    obtain ⟨k, rfl⟩ : ∃ k : Nat, j = k := ⟨j.toNat, by omega⟩
    obtain ⟨v10, e1⟩ := sym_l2 hm hS hs s0 s1 s2 s3 s4 s5 s6 s8 s9 s10 s11 s12 (i := k) (by omega)
    obtain ⟨u9, u10, e⟩ := sym_loop hm hS hs s0 s1 s2 s3 s4 s5 s6 s8 s11 s12 is (.val (.int k)) v10 fun x hx => h x (by simp [hx])
    exact ⟨u9, u10, by rw [← ofI_cons, for_cons e1, e]⟩
theorem law17 (ns : List Int) (hl : ns.length ≤ 63) : m_law [.lst (ofI ns)] = .ok (.bl true) := by
  unfold m_law b_law
  obtain ⟨c, hc⟩ := head0 ns
  simp -implicitDefEqProofs only [mS, mD, mF, mFS, initE, Nat.reduceAdd, Nat.reduceSub, Nat.reduceEqDiff, reduceIte, valO, lstO, q1, q2, q3, q4]
  rw [show [D.int 0] = ofI [0] from rfl, ofI_app, fit_ofI (by rw [List.length_append, List.length_singleton]; omega)]
  simp -implicitDefEqProofs only [mS, mD, mF, mFS, initE, Nat.reduceAdd, Nat.reduceSub, Nat.reduceEqDiff, reduceIte, valO, lstO, q1, q2, q3, q4]
  rw [atI_ofI, atI_pos (by decide), show (0 : Int).toNat = 0 from rfl, hc]
  simp -implicitDefEqProofs only [mS, mD, mF, mFS, initE, Nat.reduceAdd, Nat.reduceSub, Nat.reduceEqDiff, reduceIte, valO, lstO, q1, q2, q3, q4, Option.map_some, kPow_109]
  rw [kMod_i _ _ (by decide)]
  simp -implicitDefEqProofs only [mS, mD, mF, mFS, initE, Nat.reduceAdd, Nat.reduceSub, Nat.reduceEqDiff, reduceIte, valO, lstO, q1, q2, q3, q4, strings_ok]
  have hr := strings_rng (c % 1000000000)
  obtain ⟨n, hn⟩ : ∃ n : Nat, stringsF (c % 1000000000) = n := ⟨(stringsF (c % 1000000000)).toNat, by omega⟩
  rw [hn] at hr ⊢
  rw [cut_ofI, cut_to _ _ (by decide), drawn_ok _ _ _ (by rw [List.length_take]; omega) (by omega) (by decide)]
  simp -implicitDefEqProofs only [mS, mD, mF, mFS, initE, Nat.reduceAdd, Nat.reduceSub, Nat.reduceEqDiff, reduceIte, valO, lstO, q1, q2, q3, q4]
  generalize hw : drawnF (ns.take (500 : Int).toNat) n 1000 = w
  have hx : ∀ k ∈ w, IsX n k := hw ▸ drawn_is
  have iv := iv_fold w _ _ hx (iv_up n)
  have hM := (tab_mx w (M0 n) _ _ hx (M0_mx n) (iv_up n)).1
  have hn7 : n ≤ 7 := by omega
  rw [counted_ok hn7 hx]
  simp -implicitDefEqProofs only [mS, mD, mF, mFS, initE, Nat.reduceAdd, Nat.reduceSub, Nat.reduceEqDiff, reduceIte, valO, lstO, q1, q2, q3, q4, bT2]
  rw [ringed_ok hn7 iv]
  simp -implicitDefEqProofs only [mS, mD, mF, mFS, initE, Nat.reduceAdd, Nat.reduceSub, Nat.reduceEqDiff, reduceIte, valO, lstO, q1, q2, q3, q4, R.ne_okk, rowsD_eq]
  rw [show rgs (PF (plcF w (upTo n))) n = ringsF n w from rfl, show ((tabF w (M0 n) (upTo n)).map fun ns => D.lst (ofI ns)) = rowsD (tabF w (M0 n) (upTo n)) from rfl, llinked_ok hM (rings_in hn7 hx) (rings_len hn7 w)]
  simp -implicitDefEqProofs only [mS, mD, mF, mFS, initE, Nat.reduceAdd, Nat.reduceSub, Nat.reduceEqDiff, reduceIte, valO, lstO, q1, q2, q3, q4, R.ne_okk, rowsD_eq]
  rw [linked_ok hn7 hx]
  have hlen := rings_len hn7 w
  have hmx := lk_mx (tabF w (M0 n) (upTo n)) (ringsF n w)
  have hsym : ∀ i j : Nat, i < (ringsF n w).length → j < (ringsF n w).length → cellF (mrow (lkF (tabF w (M0 n) (upTo n)) (ringsF n w)) i) j = cellF (mrow (lkF (tabF w (M0 n) (upTo n)) (ringsF n w)) j) i := fun i j hi hj => by
    rw [(lk_cell hi hj).2, (lk_cell hj hi).2]
    exact sb_symm hn7 hx (List.getElem_mem _) (List.getElem_mem _)
  obtain ⟨r0, -, e0⟩ := rgs_ne (PF (plcF w (upTo n))) (n := n) (by omega) fun x hx' => (rg_rng hn7 (iv_pm iv) (f := 0) (by omega) (by omega) hx').1
  have hpos : 0 < (ringsF n w).length := by
    show 0 < (rgs (PF (plcF w (upTo n))) n).length
    rw [e0, List.length_cons]
    omega
  have hpok := profile_ok hn7 hx
  have hlok := linked_ok hn7 hx
  have hlp := lprofile_ok hlen hmx
  have hps := profT_small hlen hmx
  have hpd := profT_d (ringsF n w) (lkF (tabF w (M0 n) (upTo n)) (ringsF n w))
  generalize hS : lkF (tabF w (M0 n) (upTo n)) (ringsF n w) = S at hmx hsym hpok hlok hlp hps hpd
  have hro : m__law_rows_are [.lst (rowsD S), .lst (rowsD S)] = .ok (.bl true) := rows_ok S (by rw [hmx.1]; omega) fun r hr => by
    obtain ⟨k, hk, rfl⟩ := List.getElem_of_mem hr
    rw [hmx.2 k _ (List.getElem?_eq_getElem hk)]
    omega
  simp -implicitDefEqProofs only [mS, mD, mF, mFS, initE, Nat.reduceAdd, Nat.reduceSub, Nat.reduceEqDiff, reduceIte, valO, lstO, q1, q2, q3, q4, R.ne_okk, slB_0d]
  rw [show (S.map fun ns => D.lst (ofI ns)) = rowsD S from rfl, hro]
  simp -implicitDefEqProofs only [mS, mD, mF, mFS, initE, Nat.reduceAdd, Nat.reduceSub, Nat.reduceEqDiff, reduceIte, valO, lstO, q1, q2, q3, q4, Bool.not_true, rowsD_len, hmx.1]
  rw [rng1_i _ (by omega), Int.toNat_natCast, upTo_rngL]
  simp -implicitDefEqProofs only [mS, mD, mF, mFS, initE, Nat.reduceAdd, Nat.reduceSub, Nat.reduceEqDiff, reduceIte, valO, lstO, q1, q2, q3, q4]
  obtain ⟨u9, u10, e⟩ := sym_loop hlen hmx hsym (.val (.lst (ofI ns))) (.val (.int n)) (.val (.lst (ofI w))) (.val (.lst (ofI w))) (.val (.lst (rowsD (tabF w (M0 n) (upTo n))))) (.val (.lst (ofI (plcF w (upTo n))))) (.val (.lst (rowsD (ringsF n w)))) (.deep (Ct.ls S)) .no .no (upTo (ringsF n w).length) .no .no fun i hi => mem_upTo.mp hi
  rw [e]
  simp -implicitDefEqProofs only [mS, mD, mF, mFS, initE, Nat.reduceAdd, Nat.reduceSub, Nat.reduceEqDiff, reduceIte, valO, lstO, q1, q2, q3, q4, deepAt_0, deepAt_s]
  rw [sub1_ok hmx (l := 0) (by omega) (by omega)]
  simp -implicitDefEqProofs only [mS, mD, mF, mFS, initE, Nat.reduceAdd, Nat.reduceSub, Nat.reduceEqDiff, reduceIte, valO, lstO, q1, q2, q3, q4]
  rw [appP_ok (by show (mrow S _).length < 1000; rw [(mrow_get hmx (i := (0 : Int).toNat) (by omega)).2]; omega)]
  simp -implicitDefEqProofs only [mS, mD, mF, mFS, initE, Nat.reduceAdd, Nat.reduceSub, Nat.reduceEqDiff, reduceIte, valO, lstO, q1, q2, q3, q4]
  rw [hlp]
  simp -implicitDefEqProofs only [mS, mD, mF, mFS, initE, Nat.reduceAdd, Nat.reduceSub, Nat.reduceEqDiff, reduceIte, valO, lstO, q1, q2, q3, q4]
  rw [hpok]
  simp -implicitDefEqProofs only [mS, mD, mF, mFS, initE, Nat.reduceAdd, Nat.reduceSub, Nat.reduceEqDiff, reduceIte, valO, lstO, q1, q2, q3, q4, R.ne_okk, slB_0r]
  have hpi := profile_is_ok (profT (ringsF n w) S) (by rw [hps.1]; omega) hps.2
  rw [hpd] at hpi
  rw [hpd, hpi]
  simp -implicitDefEqProofs only [mS, mD, mF, mFS, initE, Nat.reduceAdd, Nat.reduceSub, Nat.reduceEqDiff, reduceIte, valO, lstO, q1, q2, q3, q4, Bool.not_true, trAt_0, trAt_s]
  obtain ⟨t, us, et⟩ : ∃ t us, profT (ringsF n w) S = t :: us := by
    cases h : profT (ringsF n w) S with
    | nil =>
      have := hps.1
      rw [h, List.length_nil] at this
      omega
    | cons t us => exact ⟨t, us, rfl⟩
  have ht : t.2.2.length ≤ 1000 := hps.2 t (by rw [et]; simp)
  rw [et]
  simp -implicitDefEqProofs only [mS, mD, mF, mFS, initE, Nat.reduceAdd, Nat.reduceSub, Nat.reduceEqDiff, reduceIte, valO, lstO, q1, q2, q3, q4, asNil, asIx2, hdR]
  rw [appX_ok ht]
  simp -implicitDefEqProofs only [mS, mD, mF, mFS, initE, Nat.reduceAdd, Nat.reduceSub, Nat.reduceEqDiff, reduceIte, valO, lstO, q1, q2, q3, q4]
  rw [hpok]
  simp -implicitDefEqProofs only [mS, mD, mF, mFS, initE, Nat.reduceAdd, Nat.reduceSub, Nat.reduceEqDiff, reduceIte, valO, lstO, q1, q2, q3, q4, R.ne_okk]
  rw [hpd, hpi]
  simp -implicitDefEqProofs only [mS, mD, mF, mFS, initE, Nat.reduceAdd, Nat.reduceSub, Nat.reduceEqDiff, reduceIte, valO, lstO, q1, q2, q3, q4]
  rw [hlok]
  simp -implicitDefEqProofs only [mS, mD, mF, mFS, initE, Nat.reduceAdd, Nat.reduceSub, Nat.reduceEqDiff, reduceIte, valO, lstO, q1, q2, q3, q4, R.ne_okk, rowsD_eq]
  rw [hro]
  simp -implicitDefEqProofs only [mS, mD, mF, mFS, initE, Nat.reduceAdd, Nat.reduceSub, Nat.reduceEqDiff, reduceIte, valO, lstO, q1, q2, q3, q4, kEq_l, decide_true]
theorem law_sp {K : PySem.W.Frag} {H : Hp} {a : Addr} (ns : List Int) (hl : ns.length ≤ 63) (hS : SqL K H a (ns.map V.int)) : spD K xc0 m_law [.ref a] H (fun v _ => v = .bl true) fun _ _ _ => False := sp_of (law17 ns hl) hS

end DL

namespace DL.K17
open PySem PySem.Spec PyProof.Rows L2 DL
def top (i : Nat) : Stmt := PySem.Challenge.pw_braidcomb_k17_linked_and_profile.main.body.getD i (.Pass ⟨0, 0, 0, 0⟩)
abbrev st_order_of : Stmt := top 1
theorem sco_order_of : FnScope ["n", "word", "order", "k", "place", "held"] ["n", "word"] (defScope st_order_of) := ⟨rfl, rfl, rfl, by decide +kernel, rfl, by decide +kernel, by decide +kernel⟩
abbrev st_table : Stmt := top 3
theorem sco_table : FnScope ["n", "word", "sums", "order", "k", "place", "left", "right"] ["n", "word"] (defScope st_table) := ⟨rfl, rfl, rfl, by decide +kernel, rfl, by decide +kernel, by decide +kernel⟩
abbrev st_ring_from : Stmt := top 4
theorem sco_ring_from : FnScope ["order", "first", "ring", "string"] ["order", "first"] (defScope st_ring_from) := ⟨rfl, rfl, rfl, by decide +kernel, rfl, by decide +kernel, by decide +kernel⟩
abbrev st_rings : Stmt := top 5
theorem sco_rings : FnScope ["n", "word", "order", "found", "taken", "string", "ring", "each"] ["n", "word"] (defScope st_rings) := ⟨rfl, rfl, rfl, by decide +kernel, rfl, by decide +kernel, by decide +kernel⟩
abbrev st_sum_between : Stmt := top 6
theorem sco_sum_between : FnScope ["sums", "one", "other", "total", "a"] ["sums", "one", "other"] (defScope st_sum_between) := ⟨rfl, rfl, rfl, by decide +kernel, rfl, by decide +kernel, by decide +kernel⟩
abbrev st_sums_of_ring : Stmt := top 7
theorem sco_sums_of_ring : FnScope ["sums", "one", "found"] ["sums", "one", "found"] (defScope st_sums_of_ring) := ⟨rfl, rfl, rfl, by decide +kernel, rfl, by decide +kernel, by decide +kernel⟩
abbrev st_linked : Stmt := top 8
theorem sco_linked : FnScope ["n", "word", "sums", "found"] ["n", "word"] (defScope st_linked) := ⟨rfl, rfl, rfl, by decide +kernel, rfl, by decide +kernel, by decide +kernel⟩
abbrev st_profile : Stmt := top 9
theorem sco_profile : FnScope ["n", "word", "found", "sums", "told", "place", "with_others"] ["n", "word"] (defScope st_profile) := ⟨rfl, rfl, rfl, by decide +kernel, rfl, by decide +kernel, by decide +kernel⟩
abbrev st__law_mix : Stmt := top 11
theorem sco__law_mix : FnScope ["_law_cell", "_law_k", "_law_factor"] ["_law_cell", "_law_k", "_law_factor"] (defScope st__law_mix) := ⟨rfl, rfl, rfl, by decide +kernel, rfl, by decide +kernel, by decide +kernel⟩
abbrev st__law_strings : Stmt := top 12
theorem sco__law_strings : FnScope ["_law_seed", "_law_least", "_law_most"] ["_law_seed", "_law_least", "_law_most"] (defScope st__law_strings) := ⟨rfl, rfl, rfl, by decide +kernel, rfl, by decide +kernel, by decide +kernel⟩
abbrev st__law_crossing : Stmt := top 13
theorem sco__law_crossing : FnScope ["_law_number", "_law_n", "_law_k"] ["_law_number", "_law_n"] (defScope st__law_crossing) := ⟨rfl, rfl, rfl, by decide +kernel, rfl, by decide +kernel, by decide +kernel⟩
abbrev st__law_piece : Stmt := top 14
theorem sco__law_piece : FnScope ["_law_number", "_law_n", "_law_k", "_law_other"] ["_law_number", "_law_n"] (defScope st__law_piece) := ⟨rfl, rfl, rfl, by decide +kernel, rfl, by decide +kernel, by decide +kernel⟩
abbrev st__law_drawn : Stmt := top 15
theorem sco__law_drawn : FnScope ["_law_cells", "_law_n", "_law_most", "_law_word", "_law_k", "_law_cell"] ["_law_cells", "_law_n", "_law_most"] (defScope st__law_drawn) := ⟨rfl, rfl, rfl, by decide +kernel, rfl, by decide +kernel, by decide +kernel⟩
abbrev st__law_list_is : Stmt := top 16
theorem sco__law_list_is : FnScope ["_law_found", "_law_due"] ["_law_found", "_law_due"] (defScope st__law_list_is) := ⟨rfl, rfl, rfl, by decide +kernel, rfl, by decide +kernel, by decide +kernel⟩
abbrev st__law_rows_are : Stmt := top 17
theorem sco__law_rows_are : FnScope ["_law_found", "_law_due"] ["_law_found", "_law_due"] (defScope st__law_rows_are) := ⟨rfl, rfl, rfl, by decide +kernel, rfl, by decide +kernel, by decide +kernel⟩
abbrev st__law_counted : Stmt := top 18
theorem sco__law_counted : FnScope ["_law_n", "_law_word", "_law_counts", "_law_places", "_law_k", "_law_left", "_law_right"] ["_law_n", "_law_word"] (defScope st__law_counted) := ⟨rfl, rfl, rfl, by decide +kernel, rfl, by decide +kernel, by decide +kernel⟩
abbrev st__law_ringed : Stmt := top 19
theorem sco__law_ringed : FnScope ["_law_places", "_law_told", "_law_first", "_law_ring"] ["_law_places"] (defScope st__law_ringed) := ⟨rfl, rfl, rfl, by decide +kernel, rfl, by decide +kernel, by decide +kernel⟩
abbrev st__law_linked : Stmt := top 20
theorem sco__law_linked : FnScope ["_law_counts", "_law_told", "_law_rows", "_law_one", "_law_row", "_law_other"] ["_law_counts", "_law_told"] (defScope st__law_linked) := ⟨rfl, rfl, rfl, by decide +kernel, rfl, by decide +kernel, by decide +kernel⟩
abbrev st__law_profile : Stmt := top 21
theorem sco__law_profile : FnScope ["_law_rows", "_law_told", "_law_due", "_law_x", "_law_ring"] ["_law_rows", "_law_told"] (defScope st__law_profile) := ⟨rfl, rfl, rfl, by decide +kernel, rfl, by decide +kernel, by decide +kernel⟩
abbrev st__law_profile_is : Stmt := top 22
theorem sco__law_profile_is : FnScope ["_law_found", "_law_due", "_law_one", "_law_want"] ["_law_found", "_law_due"] (defScope st__law_profile_is) := ⟨rfl, rfl, rfl, by decide +kernel, rfl, by decide +kernel, by decide +kernel⟩
abbrev st_law : Stmt := top 23
theorem sco_law : FnScope ["_law_script", "_law_n", "_law_word", "_law_handed", "_law_counts", "_law_places", "_law_told", "_law_due", "_law_found", "_law_x", "_law_y", "_law_wanted", "_law_first"] ["_law_script"] (defScope st_law) := ⟨rfl, rfl, rfl, by decide +kernel, rfl, by decide +kernel, by decide +kernel⟩
structure Tb (K : PySem.W.Frag) (mg : Str → Option Value) where
  a_order_of : Addr
  d_order_of : FuncData
  D_order_of : Df K mg "order_of" st_order_of ["n", "word"] a_order_of d_order_of
  a_table : Addr
  d_table : FuncData
  D_table : Df K mg "table" st_table ["n", "word"] a_table d_table
  a_ring_from : Addr
  d_ring_from : FuncData
  D_ring_from : Df K mg "ring_from" st_ring_from ["order", "first"] a_ring_from d_ring_from
  a_rings : Addr
  d_rings : FuncData
  D_rings : Df K mg "rings" st_rings ["n", "word"] a_rings d_rings
  a_sum_between : Addr
  d_sum_between : FuncData
  D_sum_between : Df K mg "sum_between" st_sum_between ["sums", "one", "other"] a_sum_between d_sum_between
  a_sums_of_ring : Addr
  d_sums_of_ring : FuncData
  D_sums_of_ring : Df K mg "sums_of_ring" st_sums_of_ring ["sums", "one", "found"] a_sums_of_ring d_sums_of_ring
  a_linked : Addr
  d_linked : FuncData
  D_linked : Df K mg "linked" st_linked ["n", "word"] a_linked d_linked
  a_profile : Addr
  d_profile : FuncData
  D_profile : Df K mg "profile" st_profile ["n", "word"] a_profile d_profile
  a__law_mix : Addr
  d__law_mix : FuncData
  D__law_mix : Df K mg "_law_mix" st__law_mix ["_law_cell", "_law_k", "_law_factor"] a__law_mix d__law_mix
  a__law_strings : Addr
  d__law_strings : FuncData
  D__law_strings : Df K mg "_law_strings" st__law_strings ["_law_seed", "_law_least", "_law_most"] a__law_strings d__law_strings
  a__law_crossing : Addr
  d__law_crossing : FuncData
  D__law_crossing : Df K mg "_law_crossing" st__law_crossing ["_law_number", "_law_n"] a__law_crossing d__law_crossing
  a__law_piece : Addr
  d__law_piece : FuncData
  D__law_piece : Df K mg "_law_piece" st__law_piece ["_law_number", "_law_n"] a__law_piece d__law_piece
  a__law_drawn : Addr
  d__law_drawn : FuncData
  D__law_drawn : Df K mg "_law_drawn" st__law_drawn ["_law_cells", "_law_n", "_law_most"] a__law_drawn d__law_drawn
  a__law_list_is : Addr
  d__law_list_is : FuncData
  D__law_list_is : Df K mg "_law_list_is" st__law_list_is ["_law_found", "_law_due"] a__law_list_is d__law_list_is
  a__law_rows_are : Addr
  d__law_rows_are : FuncData
  D__law_rows_are : Df K mg "_law_rows_are" st__law_rows_are ["_law_found", "_law_due"] a__law_rows_are d__law_rows_are
  a__law_counted : Addr
  d__law_counted : FuncData
  D__law_counted : Df K mg "_law_counted" st__law_counted ["_law_n", "_law_word"] a__law_counted d__law_counted
  a__law_ringed : Addr
  d__law_ringed : FuncData
  D__law_ringed : Df K mg "_law_ringed" st__law_ringed ["_law_places"] a__law_ringed d__law_ringed
  a__law_linked : Addr
  d__law_linked : FuncData
  D__law_linked : Df K mg "_law_linked" st__law_linked ["_law_counts", "_law_told"] a__law_linked d__law_linked
  a__law_profile : Addr
  d__law_profile : FuncData
  D__law_profile : Df K mg "_law_profile" st__law_profile ["_law_rows", "_law_told"] a__law_profile d__law_profile
  a__law_profile_is : Addr
  d__law_profile_is : FuncData
  D__law_profile_is : Df K mg "_law_profile_is" st__law_profile_is ["_law_found", "_law_due"] a__law_profile_is d__law_profile_is
  a_law : Addr
  d_law : FuncData
  D_law : Df K mg "law" st_law ["_law_script"] a_law d_law
  m_abs : mg "abs" = none
  m_all : mg "all" = none
  m_bool : mg "bool" = none
  m_enumerate : mg "enumerate" = none
  m_int : mg "int" = none
  m_isinstance : mg "isinstance" = none
  m_len : mg "len" = none
  m_list : mg "list" = none
  m_max : mg "max" = none
  m_min : mg "min" = none
  m_range : mg "range" = none
  m_sorted : mg "sorted" = none
  m_sum : mg "sum" = none
  m_tuple : mg "tuple" = none
  m_zip : mg "zip" = none
section
variable {P : Program} {w : World} {K : PySem.W.Frag} {mg : Str → Option Value} {base : Heap} (t : Tb K mg)
theorem ok_order_of : OkF P w K mg base 1 t.a_order_of t.d_order_of ["n", "word"] m_order_of := by
  have h := okFS (P := P) (w := w) (base := base) (k := 0) sco_order_of t.D_order_of fun cdv A outer s H E hr =>
    (sCons (sSetF 2 (lListR rfl t.m_list t.m_range (aConsB (nB 0) aNilB)) sco_order_of.nd)
    (sCons (sFor PassesOwn.never rfl (iL (nD 1)) (gN2 3 sco_order_of.nd) (sCons (sSet 4 (oCall call_abs ker_abs t.m_abs bt_abs (aConsB (nB 3) aNilB)) sco_order_of.nd)
    (sCons (sSet 5 (lIx (nL 2) (nB 4)) sco_order_of.nd)
    (sCons (sSetIx2 2 (nB 4) (lIx (nL 2) (PE.toB (oBin op_sub ker_sub (nB 4) (PE.toB cI)))))
    (sOne (sSetIx2 2 (PE.toB (oBin op_sub ker_sub (nB 4) (PE.toB cI))) (nD 5)))))))
    (sOne (sRetO 2))))
  exact h
theorem ok_table : OkT P w K mg base 1 t.a_table t.d_table ["n", "word"] m_table := by
  have h := okT (P := P) (w := w) (base := base) (k := 0) sco_table t.D_table fun cdv A outer s H E hr =>
    (sCons (sSetCT 2 (cpS (N := ["string", "n"]) (nt := 1) (caps := [0]) (defScope st_table) ["n", "word", "sums", "order", "k", "place", "left", "right"] (by decide +kernel)) rfl (toIS (iR1 t.m_range (aConsB (nB 0) aNilB))) (Kp.ok (kpN2 (nt := 1) 0)) (fun _ _ _ _ _ => (gN2 0 (by show List.Nodup (["string", "n"] : List Str); decide +kernel))) (fun _ _ _ _ _ => ts0) (fun _ _ _ _ _ => (lRep (dLst (aCons cI aNil)) (nB 1))) sco_table.nd)
    (sCons (sSetF 3 (lListR rfl t.m_list t.m_range (aConsB (nB 0) aNilB)) sco_table.nd)
    (sCons (sFor PassesOwn.never rfl (iL (nD 1)) (gN2 4 sco_table.nd) (sCons (sSet 5 (oCall call_abs ker_abs t.m_abs bt_abs (aConsB (nB 4) aNilB)) sco_table.nd)
    (sCons (sSet 6 (lIx (nL 3) (PE.toB (oBin op_sub ker_sub (nB 5) (PE.toB cI)))) sco_table.nd)
    (sCons (sSet 7 (lIx (nL 3) (nB 5)) sco_table.nd)
    (sCons (sIf (oCmpT op_gt ker_gt (nB 4) (PE.toB cI) (nomark _)) (sOne (sAugDD 2 ip_add (nB 6) (nB 7) (PE.toB cI))) (sOne (sAugDD 2 ip_sub (nB 7) (nB 6) (PE.toB cI))))
    (sCons (sSetIx2 3 (PE.toB (oBin op_sub ker_sub (nB 5) (PE.toB cI))) (nD 7))
    (sOne (sSetIx2 3 (nB 5) (nD 6)))))))))
    (sOne (sRetT 2)))))
  exact h
theorem ok_ring_from : OkF P w K mg base 1 t.a_ring_from t.d_ring_from ["order", "first"] m_ring_from := by
  have h := okFS (P := P) (w := w) (base := base) (k := 0) sco_ring_from t.D_ring_from fun cdv A outer s H E hr =>
    (sCons (sSetF 2 (dLst (aCons (nD 1) aNil)) sco_ring_from.nd)
    (sCons (sSet 3 (oIndex (nL 0) (nB 1)) sco_ring_from.nd)
    (sCons (sWhile (fun _ => 8) PassesOwn.never (oCmpT (op_neD (Room.u6 hr)) ker_neD (nB 3) (nB 1) (nomark _)) (sCons (sApp2 2 (nD 3))
    (sOne (sSet 3 (oIndex (nL 0) (nB 3)) sco_ring_from.nd))))
    (sOne (sRetO 2)))))
  exact h
theorem ok_sum_between : Ok P w K mg base 1 t.a_sum_between t.d_sum_between ["sums", "one", "other"] m_sum_between := by
  have h := okS (P := P) (w := w) (base := base) (k := 0) sco_sum_between t.D_sum_between fun cdv A outer s H E hr =>
    (sCons (sSet 3 cI sco_sum_between.nd)
    (sCons (sFor PassesOwn.never rfl (iL (nD 1)) (gN2 4 sco_sum_between.nd) (sOne (sAug2 3 ip_add (PE.toB (oSum rfl t.m_sum (PE.FtoL (lComp (cpS (N := ["b", "sums", "a"]) (nt := 1) (caps := [0, 4]) (defScope st_sum_between) ["sums", "one", "other", "total", "a"] (by decide +kernel)) rfl (toIS (iL (nD 2))) (Kp.ok (kpN2 (nt := 1) 0)) (fun _ _ _ _ _ => (gN2 0 (by show List.Nodup (["b", "sums", "a"] : List Str); decide +kernel))) (fun _ _ _ _ _ => ts0) (fun _ _ _ _ _ => (lIx (PE.DtoL (lIx (nL 1) (nB 2))) (nB 0))))))) sco_sum_between.nd)))
    (sOne (sRet (nD 3)))))
  exact h
theorem ok__law_mix : Ok P w K mg base 1 t.a__law_mix t.d__law_mix ["_law_cell", "_law_k", "_law_factor"] m__law_mix := by
  have h := okS (P := P) (w := w) (base := base) (k := 0) sco__law_mix t.D__law_mix fun cdv A outer s H E hr =>
    (sOne (sRet (oBin op_fdiv ker_div (PE.toB (oBin op_mod ker_mod (PE.toB (oBin op_mul ker_mul (PE.toB (oBin op_add ker_addI (PE.toB (oBin op_add ker_addI (PE.toB (oBin op_mul ker_mul (PE.toB (oBin op_mod ker_mod (nB 0) (PE.toB cI))) (PE.toB cI))) (PE.toB (oBin op_mul ker_mul (nB 1) (nB 1))))) (PE.toB cI))) (nB 2))) (PE.toB cI))) (PE.toB cI))))
  exact h
theorem ok__law_strings : Ok P w K mg base 1 t.a__law_strings t.d__law_strings ["_law_seed", "_law_least", "_law_most"] m__law_strings := by
  have h := okS (P := P) (w := w) (base := base) (k := 0) sco__law_strings t.D__law_strings fun cdv A outer s H E hr =>
    (sCons (sIf (tAndD (oCmpT (op_eqD (Room.u6 hr)) ker_eqD (nB 1) (PE.toB cI) (nomark _)) (tAnd1 (oCmpT (op_eqD (Room.u6 hr)) ker_eqD (PE.toB (oBin op_mod ker_mod (nB 0) (PE.toB cI))) (PE.toB cI) (nomark _)))).pt (sOne (sRet cI)) sNil)
    (sCons (sSet 1 (oCall (call_max2 rfl) ker_max2 t.m_max bt_max (aConsB (PE.toB cI) (aConsB (nB 1) aNilB))) sco__law_strings.nd)
    (sOne (sRet (oBin op_add ker_addI (nB 1) (PE.toB (oBin op_mod ker_mod (PE.toB (oBin op_fdiv ker_div (nB 0) (PE.toB cI))) (PE.toB (oBin op_add ker_addI (PE.toB (oBin op_sub ker_sub (nB 2) (nB 1))) (PE.toB cI))))))))))
  exact h
theorem ok__law_crossing : Ok P w K mg base 1 t.a__law_crossing t.d__law_crossing ["_law_number", "_law_n"] m__law_crossing := by
  have h := okS (P := P) (w := w) (base := base) (k := 0) sco__law_crossing t.D__law_crossing fun cdv A outer s H E hr =>
    (sCons (sSet 2 (oBin op_add ker_addI (PE.toB cI) (PE.toB (oBin op_mod ker_mod (nB 0) (PE.toB (oBin op_sub ker_sub (nB 1) (PE.toB cI)))))) sco__law_crossing.nd)
    (sCons (sIf (oCmpT (op_eqD (Room.u6 hr)) ker_eqD (PE.toB (oBin op_mod ker_mod (PE.toB (oBin op_fdiv ker_div (nB 0) (PE.toB cI))) (PE.toB cI))) (PE.toB cI) (nomark _)) (sOne (sRet (oUn un_neg ker_neg (nB 2)))) sNil)
    (sOne (sRet (nD 2)))))
  exact h
theorem ok__law_list_is : Ok P w K mg base 1 t.a__law_list_is t.d__law_list_is ["_law_found", "_law_due"] m__law_list_is := by
  have h := okS (P := P) (w := w) (base := base) (k := 0) sco__law_list_is t.D__law_list_is fun cdv A outer s H E hr =>
    (sCons (sIf (tOrD (tNotD (tVal (PE.toB (oIsi kt_list bt_list t.m_isinstance t.m_list (nB 0))))) (tOr1 (oCmpT (op_neD (Room.u6 hr)) ker_neD (PE.toB (oCall call_len ker_len t.m_len bt_len (aConsB (nB 0) aNilB))) (PE.toB (oCall call_len ker_len t.m_len bt_len (aConsB (nB 1) aNilB))) (nomark _)))).pt (sOne (sRet cBl)) sNil)
    (sOne (sRet (oAll rfl t.m_all (PE.FtoL (lComp (cpS (N := ["_law_a", "_law_b"]) (nt := 2) (caps := []) (defScope st__law_list_is) ["_law_found", "_law_due"] (by decide +kernel)) rfl (toIS (iZ t.m_zip (aCons (nD 0) (aCons (nD 1) aNil)))) (Kp.ok (kpT2 2 (kpCons2 (kpN2 (nt := 2) 0) (kpCons2 (kpN2 (nt := 2) 1) kpNil2)))) (fun _ _ _ _ _ => (gT2 2 rfl (gsCons2 (gN2 0 (by show List.Nodup (["_law_a", "_law_b"] : List Str); decide +kernel)) (gsCons2 (gN2 1 (by show List.Nodup (["_law_a", "_law_b"] : List Str); decide +kernel)) gsNil2)))) (fun _ _ _ _ _ => ts0) (fun _ _ _ _ _ => (vAnd (PE.toB (oIsi kt_int bt_int t.m_isinstance t.m_int (nB 0))) (vAnd (PE.toB (vNot (PE.toB (oIsi kt_bool bt_bool t.m_isinstance t.m_bool (nB 0))))) (vOne (oCmp (op_eqD (Room.u6 hr)) ker_eqD (nB 0) (nB 1) (nomark _))))))))))))
  exact h
theorem ok__law_counted : Ok P w K mg base 1 t.a__law_counted t.d__law_counted ["_law_n", "_law_word"] m__law_counted := by
  have h := okD (P := P) (w := w) (base := base) (k := 0) sco__law_counted t.D__law_counted fun cdv A outer s H E hr =>
    (sCons (sSetCT 2 (cpS (N := ["_law_string", "_law_n"]) (nt := 1) (caps := [0]) (defScope st__law_counted) ["_law_n", "_law_word", "_law_counts", "_law_places", "_law_k", "_law_left", "_law_right"] (by decide +kernel)) rfl (toIS (iR1 t.m_range (aConsB (nB 0) aNilB))) (Kp.ok (kpN2 (nt := 1) 0)) (fun _ _ _ _ _ => (gN2 0 (by show List.Nodup (["_law_string", "_law_n"] : List Str); decide +kernel))) (fun _ _ _ _ _ => ts0) (fun _ _ _ _ _ => (lRep (dLst (aCons cI aNil)) (nB 1))) sco__law_counted.nd)
    (sCons (sSetF 3 (lListR rfl t.m_list t.m_range (aConsB (nB 0) aNilB)) sco__law_counted.nd)
    (sCons (sFor PassesOwn.never rfl (iL (nD 1)) (gN2 4 sco__law_counted.nd) (sCons (sSet 5 (oIndex (nL 3) (PE.toB (oBin op_sub ker_sub (PE.toB (oCall call_abs ker_abs t.m_abs bt_abs (aConsB (nB 4) aNilB))) (PE.toB cI)))) sco__law_counted.nd)
    (sCons (sSet 6 (oIndex (nL 3) (PE.toB (oCall call_abs ker_abs t.m_abs bt_abs (aConsB (nB 4) aNilB)))) sco__law_counted.nd)
    (sCons (sIf (oCmpT op_gt ker_gt (nB 4) (PE.toB cI) (nomark _)) (sOne (sAugDD 2 ip_add (nB 5) (nB 6) (PE.toB cI))) (sOne (sAugDD 2 ip_sub (nB 6) (nB 5) (PE.toB cI))))
    (sCons (sSetIx2 3 (nB 5) (oCall call_abs ker_abs t.m_abs bt_abs (aConsB (nB 4) aNilB)))
    (sOne (sSetIx2 3 (nB 6) (oBin op_sub ker_sub (PE.toB (oCall call_abs ker_abs t.m_abs bt_abs (aConsB (nB 4) aNilB))) (PE.toB cI)))))))))
    (sOne (sFrz 3 (sFrzE 2 (sRet (dTup (aCons (nD 2) (aCons (nD 3) aNil))))))))))
  exact h
theorem ok__law_ringed : OkT P w K mg base 1 t.a__law_ringed t.d__law_ringed ["_law_places"] m__law_ringed := by
  have h := okT (P := P) (w := w) (base := base) (k := 0) sco__law_ringed t.D__law_ringed fun cdv A outer s H E hr =>
    (sCons (sSetD 1 frNil sco__law_ringed.nd)
    (sCons (sFor PassesOwn.never rfl (iR1 t.m_range (aConsB (PE.toB (oCall call_len ker_len t.m_len bt_len (aConsB (nB 0) aNilB))) aNilB)) (gN2 2 sco__law_ringed.nd) (sCons (sSetF 3 (dLst (aCons (nD 2) aNil)) sco__law_ringed.nd)
    (sCons (sWhile (fun _ => 8) PassesOwn.never (oCmpT (op_neD (Room.u6 hr)) ker_neD (PE.toB (lIx (nL 0) (PE.toB (lIx (nL 3) (PE.toB (oUn un_neg ker_neg (PE.toB cI))))))) (nB 2) (nomark _)) (sOne (sApp2 3 (lIx (nL 0) (PE.toB (lIx (nL 3) (PE.toB (oUn un_neg ker_neg (PE.toB cI)))))))))
    (sOne (sIf (oCmpT (op_eqD (Room.u6 hr)) ker_eqD (PE.toB (oMinL rfl t.m_min (nL 3))) (nB 2) (nomark _)) (sOne (sMove 1 3)) sNil)))))
    (sOne (sRetT 1))))
  exact h
theorem ok__law_linked : OkT P w K mg base 1 t.a__law_linked t.d__law_linked ["_law_counts", "_law_told"] m__law_linked := by
  have h := okT (P := P) (w := w) (base := base) (k := 0) sco__law_linked t.D__law_linked fun cdv A outer s H E hr =>
    (sCons (sSetD 2 frNil sco__law_linked.nd)
    (sCons (sFor PassesOwn.never rfl (iL (nD 1)) (gN2 3 sco__law_linked.nd) (sCons (sSetF 4 (dLst aNil) sco__law_linked.nd)
    (sCons (sFor PassesOwn.never rfl (iL (nD 1)) (gN2 5 sco__law_linked.nd) (sOne (sApp2 4 (oSum rfl t.m_sum (PE.FtoL (lComp2 (cpS2 (N := ["_law_a", "_law_other", "_law_counts"]) (nt := 1) (caps := [5, 0]) (defScope st__law_linked) ["_law_counts", "_law_told", "_law_rows", "_law_one", "_law_row", "_law_other"] (by decide +kernel)) rfl (toIS (iL (nD 3))) (Kp.ok (kpN2 (nt := 1) 0)) (fun _ _ _ _ _ => (gN2 0 (by show List.Nodup (["_law_a", "_law_other", "_law_counts"] : List Str); decide +kernel))) (fun _ _ _ _ _ => ts0) (fun _ _ _ _ _ => (by exact (oSum rfl t.m_sum (PE.FtoL (lComp (cpS (N := ["_law_b", "_law_counts", "_law_a"]) (nt := 1) (caps := [2, 0]) _ _ (by kernel_rfl) rfl rfl) rfl (toIS (iL (nD 1))) (Kp.ok (kpN2 (nt := 1) 0)) (fun _ _ _ _ _ => (gN2 0 (by show List.Nodup (["_law_b", "_law_counts", "_law_a"] : List Str); decide +kernel))) (fun _ _ _ _ _ => ts0) (fun _ _ _ _ _ => (lIx (PE.DtoL (lIx (nL 1) (nB 2))) (nB 0))))))))))))))
    (sOne (sMove 2 4)))))
    (sOne (sRetT 2))))
  exact h
theorem ok__law_profile : Ok P w K mg base 1 t.a__law_profile t.d__law_profile ["_law_rows", "_law_told"] m__law_profile := by
  have h := okD (P := P) (w := w) (base := base) (k := 0) sco__law_profile t.D__law_profile fun cdv A outer s H E hr =>
    (sCons (sSetF 2 (dLst aNil) sco__law_profile.nd)
    (sCons (sFor PassesOwn.never rfl (iE t.m_enumerate (nD 1)) (gT2 2 rfl (gsCons2 (gN2 3 sco__law_profile.nd) (gsCons2 (gN2 4 sco__law_profile.nd) gsNil2))) (sOne (sApp2 2 (dTup (aCons (oCall call_len ker_len t.m_len bt_len (aConsB (nB 4) aNilB)) (aCons (lIx (PE.DtoL (lIx (nL 0) (nB 3))) (nB 3)) (aCons (PE.FtoD (lSorted t.m_sorted (PE.FtoL (lCat (PE.FtoL (lSlice (PE.DtoL (lIx (nL 0) (nB 3))) oNo (oYes (nB 3)))) (PE.FtoL (lSlice (PE.DtoL (lIx (nL 0) (nB 3))) (oYes (PE.toB (oBin op_add ker_addI (nB 3) (PE.toB cI)))) oNo)))))) aNil)))))))
    (sOne (sRet (PE.FtoD (lSortT (Room.u6 hr) t.m_sorted (nL 2)))))))
  exact h
theorem ok_rings (G_order_of : OkF P w K mg base 1 t.a_order_of t.d_order_of ["n", "word"] m_order_of) (G_ring_from : OkF P w K mg base 1 t.a_ring_from t.d_ring_from ["order", "first"] m_ring_from) : OkT P w K mg base 2 t.a_rings t.d_rings ["n", "word"] m_rings := by
  have h := okT (P := P) (w := w) (base := base) (k := 1) sco_rings t.D_rings fun cdv A outer s H E hr =>
    (sCons (sSet 2 (PE.FtoD (fF1 t.D_order_of G_order_of (hr.mono (by decide)) (aCons (nD 0) (aCons (nD 1) aNil)))) sco_rings.nd)
    (sCons (sSetD 3 frNil sco_rings.nd)
    (sCons (sSetK 4 sco_rings.nd)
    (sCons (sFor PassesOwn.never rfl (iR1 t.m_range (aConsB (nB 0) aNilB)) (gN2 5 sco_rings.nd) (sOne (sIf (tNotK 4 (Room.u6 hr) (nB 5)) (sCons (sSetF 6 (fF1 t.D_ring_from G_ring_from (hr.mono (by decide)) (aCons (nD 2) (aCons (nD 5) aNil))) sco_rings.nd)
    (pssMoveK 3 6 7 4 (Room.u6 hr) PassesOwn.never rfl sco_rings.nd)) sNil)))
    (sOne (sRetT 3))))))
  exact h
theorem ok_sums_of_ring (G_sum_between : Ok P w K mg base 1 t.a_sum_between t.d_sum_between ["sums", "one", "other"] m_sum_between) : OkF P w K mg base 2 t.a_sums_of_ring t.d_sums_of_ring ["sums", "one", "found"] m_sums_of_ring := by
  have h := okFS (P := P) (w := w) (base := base) (k := 1) sco_sums_of_ring t.D_sums_of_ring fun cdv A outer s H E hr =>
    (sOne (sRetF (lComp (cpS (N := ["other", "sums", "one"]) (nt := 1) (caps := [0, 1]) (defScope st_sums_of_ring) ["sums", "one", "found"] (by decide +kernel)) rfl (toIS (iL (nD 2))) (Kp.ok (kpN2 (nt := 1) 0)) (fun _ _ _ _ _ => (gN2 0 (by show List.Nodup (["other", "sums", "one"] : List Str); decide +kernel))) (fun _ _ _ _ _ => ts0) (fun _ _ _ _ _ => (fB1 scd t.D_sum_between G_sum_between (hr.mono (by decide)) (aConsB (nB 1) (aConsB (nB 2) (aConsB (nB 0) aNilB))))))))
  exact h
theorem ok__law_piece (G__law_crossing : Ok P w K mg base 1 t.a__law_crossing t.d__law_crossing ["_law_number", "_law_n"] m__law_crossing) : Ok P w K mg base 2 t.a__law_piece t.d__law_piece ["_law_number", "_law_n"] m__law_piece := by
  have h := okD (P := P) (w := w) (base := base) (k := 1) sco__law_piece t.D__law_piece fun cdv A outer s H E hr =>
    (sCons (sSet 2 (fB1 scd t.D__law_crossing G__law_crossing (hr.mono (by decide)) (aConsB (nB 0) (aConsB (nB 1) aNilB))) sco__law_piece.nd)
    (sCons (sIf (tOrD (oCmpT op_gt ker_gt (PE.toB (oBin op_mod ker_mod (PE.toB (oBin op_fdiv ker_div (nB 0) (PE.toB cI))) (PE.toB cI))) (PE.toB cI) (nomark _)) (tOr1 (oCmpT op_lt ker_lt (nB 1) (PE.toB cI) (nomark _)))).pt (sOne (sRet (PE.FtoD (dLst (aCons (nD 2) aNil))))) sNil)
    (sCons (sSet 3 (vIf (tAndD (oCmpT op_lt ker_lt (PE.toB (oCall call_abs ker_abs t.m_abs bt_abs (aConsB (PE.toB (oBin op_add ker_addI (nB 2) (PE.toB cI))) aNilB))) (nB 1) (nomark _)) (tAnd1 (oCmpT (op_neD (Room.u6 hr)) ker_neD (PE.toB (oBin op_add ker_addI (nB 2) (PE.toB cI))) (PE.toB cI) (nomark _)))).pt (oBin op_add ker_addI (nB 2) (PE.toB cI)) (oBin op_sub ker_sub (nB 2) (PE.toB cI))) sco__law_piece.nd)
    (sOne (sRet (lIx (PE.FtoL (dLst (aCons (PE.FtoD (dLst (aCons (nD 2) (aCons (nD 3) (aCons (nD 2) aNil))))) (aCons (PE.FtoD (dLst (aCons (nD 2) (aCons (nD 3) aNil)))) (aCons (PE.FtoD (dLst (aCons (nD 2) (aCons (nD 2) aNil)))) (aCons (PE.FtoD (dLst (aCons (nD 2) (aCons (oUn un_neg ker_neg (nB 3)) (aCons (nD 2) aNil))))) aNil)))))) (PE.toB (oBin op_mod ker_mod (PE.toB (oBin op_fdiv ker_div (nB 0) (PE.toB cI))) (PE.toB cI)))))))))
  exact h
theorem ok__law_rows_are (G__law_list_is : Ok P w K mg base 1 t.a__law_list_is t.d__law_list_is ["_law_found", "_law_due"] m__law_list_is) : Ok P w K mg base 2 t.a__law_rows_are t.d__law_rows_are ["_law_found", "_law_due"] m__law_rows_are := by
  have h := okS (P := P) (w := w) (base := base) (k := 1) sco__law_rows_are t.D__law_rows_are fun cdv A outer s H E hr =>
    (sCons (sIf (tOrD (tNotD (tVal (PE.toB (oIsi kt_list bt_list t.m_isinstance t.m_list (nB 0))))) (tOr1 (oCmpT (op_neD (Room.u6 hr)) ker_neD (PE.toB (oCall call_len ker_len t.m_len bt_len (aConsB (nB 0) aNilB))) (PE.toB (oCall call_len ker_len t.m_len bt_len (aConsB (nB 1) aNilB))) (nomark _)))).pt (sOne (sRet cBl)) sNil)
    (sOne (sRet (oAll rfl t.m_all (PE.FtoL (lComp (cpS (N := ["_law_one", "_law_other"]) (nt := 2) (caps := []) (defScope st__law_rows_are) ["_law_found", "_law_due"] (by decide +kernel)) rfl (toIS (iZ t.m_zip (aCons (nD 0) (aCons (nD 1) aNil)))) (Kp.ok (kpT2 2 (kpCons2 (kpN2 (nt := 2) 0) (kpCons2 (kpN2 (nt := 2) 1) kpNil2)))) (fun _ _ _ _ _ => (gT2 2 rfl (gsCons2 (gN2 0 (by show List.Nodup (["_law_one", "_law_other"] : List Str); decide +kernel)) (gsCons2 (gN2 1 (by show List.Nodup (["_law_one", "_law_other"] : List Str); decide +kernel)) gsNil2)))) (fun _ _ _ _ _ => ts0) (fun _ _ _ _ _ => (fB1 scd t.D__law_list_is G__law_list_is (hr.mono (by decide)) (aConsB (nB 0) (aConsB (nB 1) aNilB))))))))))
  exact h
theorem ok__law_profile_is (G__law_list_is : Ok P w K mg base 1 t.a__law_list_is t.d__law_list_is ["_law_found", "_law_due"] m__law_list_is) : Ok P w K mg base 2 t.a__law_profile_is t.d__law_profile_is ["_law_found", "_law_due"] m__law_profile_is := by
  have h := okS (P := P) (w := w) (base := base) (k := 1) sco__law_profile_is t.D__law_profile_is fun cdv A outer s H E hr =>
    (sCons (sIf (tOrD (tNotD (tVal (PE.toB (oIsi kt_list bt_list t.m_isinstance t.m_list (nB 0))))) (tOr1 (oCmpT (op_neD (Room.u6 hr)) ker_neD (PE.toB (oCall call_len ker_len t.m_len bt_len (aConsB (nB 0) aNilB))) (PE.toB (oCall call_len ker_len t.m_len bt_len (aConsB (nB 1) aNilB))) (nomark _)))).pt (sOne (sRet cBl)) sNil)
    (sCons (sFor PassesOwn.never rfl (iZ t.m_zip (aCons (nD 0) (aCons (nD 1) aNil))) (gT2 2 rfl (gsCons2 (gN2 2 sco__law_profile_is.nd) (gsCons2 (gN2 3 sco__law_profile_is.nd) gsNil2))) (sCons (sIf (tOrD (tNotD (tVal (PE.toB (oIsi kt_tuple bt_tuple t.m_isinstance t.m_tuple (nB 2))))) (tOrD (oCmpT (op_neD (Room.u6 hr)) ker_neD (PE.toB (oCall call_len ker_len t.m_len bt_len (aConsB (nB 2) aNilB))) (PE.toB cI) (nomark _)) (tOr1 (tNotD (tVal (PE.toB (fB1 scd t.D__law_list_is G__law_list_is (hr.mono (by decide)) (aConsB (PE.toB (PE.FtoD (dLst (aCons (dIx (nD 2) (PE.toB cI)) (aCons (dIx (nD 2) (PE.toB cI)) aNil))))) (aConsB (PE.toB (PE.FtoD (dLst (aCons (dIx (nD 3) (PE.toB cI)) (aCons (dIx (nD 3) (PE.toB cI)) aNil))))) aNilB))))))))).pt (sOne (sRet cBl)) sNil)
    (sOne (sIf (tNotD (tVal (PE.toB (fB1 scd t.D__law_list_is G__law_list_is (hr.mono (by decide)) (aConsB (PE.toB (dIx (nD 2) (PE.toB cI))) (aConsB (PE.toB (dIx (nD 3) (PE.toB cI))) aNilB)))))) (sOne (sRet cBl)) sNil))))
    (sOne (sRet cBl))))
  exact h
theorem ok_linked (G_table : OkT P w K mg base 1 t.a_table t.d_table ["n", "word"] m_table) (G_rings : OkT P w K mg base 2 t.a_rings t.d_rings ["n", "word"] m_rings) (G_sums_of_ring : OkF P w K mg base 2 t.a_sums_of_ring t.d_sums_of_ring ["sums", "one", "found"] m_sums_of_ring) : OkT P w K mg base 3 t.a_linked t.d_linked ["n", "word"] m_linked := by
  have h := okT (P := P) (w := w) (base := base) (k := 2) sco_linked t.D_linked fun cdv A outer s H E hr =>
    (sCons (sSet 2 (PE.TtoD (fT1 t.D_table G_table (hr.mono (by decide)) (aConsB (nB 0) (aConsB (nB 1) aNilB)))) sco_linked.nd)
    (sCons (sSet 3 (PE.TtoD (fT1 t.D_rings G_rings (hr.mono (by decide)) (aConsB (nB 0) (aConsB (nB 1) aNilB)))) sco_linked.nd)
    (sOne (sRetTE (lCompT (cpS (N := ["one", "sums", "found"]) (nt := 1) (caps := [2, 3]) (defScope st_linked) ["n", "word", "sums", "found"] (by decide +kernel)) rfl (toIS (iL (nD 3))) (Kp.ok (kpN2 (nt := 1) 0)) (fun _ _ _ _ _ => (gN2 0 (by show List.Nodup (["one", "sums", "found"] : List Str); decide +kernel))) (fun _ _ _ _ _ => ts0) (fun _ _ _ _ _ => (fF1 t.D_sums_of_ring G_sums_of_ring (hr.mono (by decide)) (aCons (nD 1) (aCons (nD 0) (aCons (nD 2) aNil))))))))))
  exact h
theorem ok__law_drawn (G__law_mix : Ok P w K mg base 1 t.a__law_mix t.d__law_mix ["_law_cell", "_law_k", "_law_factor"] m__law_mix) (G__law_piece : Ok P w K mg base 2 t.a__law_piece t.d__law_piece ["_law_number", "_law_n"] m__law_piece) : OkF P w K mg base 3 t.a__law_drawn t.d__law_drawn ["_law_cells", "_law_n", "_law_most"] m__law_drawn := by
  have h := okFS (P := P) (w := w) (base := base) (k := 2) sco__law_drawn t.D__law_drawn fun cdv A outer s H E hr =>
    (sCons (sSet 3 (PE.FtoD (dLst aNil)) sco__law_drawn.nd)
    (sCons (sFor PassesOwn.never rfl (iE t.m_enumerate (nD 0)) (gT2 2 rfl (gsCons2 (gN2 4 sco__law_drawn.nd) (gsCons2 (gN2 5 sco__law_drawn.nd) gsNil2))) (sOne (sIf (oCmpT op_gt ker_gt (nB 1) (PE.toB cI) (nomark _)) (sOne (sSet 3 (PE.FtoD (lCat (nL 3) (PE.DtoL (fD1 t.D__law_piece G__law_piece (hr.mono (by decide)) (aCons (fB1 scd t.D__law_mix G__law_mix (hr.mono (by decide)) (aConsB (nB 5) (aConsB (nB 4) (aConsB (PE.toB cI) aNilB)))) (aCons (nD 1) aNil)))))) sco__law_drawn.nd)) sNil)))
    (sOne (sRetF (lSlice (nL 3) oNo (oYes (nB 2)))))))
  exact h
theorem ok_profile (G_rings : OkT P w K mg base 2 t.a_rings t.d_rings ["n", "word"] m_rings) (G_linked : OkT P w K mg base 3 t.a_linked t.d_linked ["n", "word"] m_linked) : OkR P w K mg base 4 t.a_profile t.d_profile ["n", "word"] m_profile := by
  have h := okR (P := P) (w := w) (base := base) (k := 3) sco_profile t.D_profile fun cdv A outer s H E hr =>
    (sCons (sSet 2 (PE.TtoD (fT1 t.D_rings G_rings (hr.mono (by decide)) (aConsB (nB 0) (aConsB (nB 1) aNilB)))) sco_profile.nd)
    (sCons (sSet 3 (PE.TtoD (fT1 t.D_linked G_linked (hr.mono (by decide)) (aConsB (nB 0) (aConsB (nB 1) aNilB)))) sco_profile.nd)
    (sCons (sSetR0 4 sco_profile.nd)
    (sCons (sFor PassesOwn.never rfl (iR1 t.m_range (aConsB (PE.toB (oCall call_len ker_len t.m_len bt_len (aConsB (nB 2) aNilB))) aNilB)) (gN2 5 sco_profile.nd) (sCons (sSet 6 (PE.FtoD (lCat (PE.FtoL (lSlice (PE.DtoL (lIx (nL 3) (nB 5))) oNo (oYes (nB 5)))) (PE.FtoL (lSlice (PE.DtoL (lIx (nL 3) (nB 5))) (oYes (PE.toB (oBin op_add ker_addI (nB 5) (PE.toB cI)))) oNo)))) sco_profile.nd)
    (sOne (sAppR 4 (PE.toB (oCall call_len ker_len t.m_len bt_len (aConsB (PE.toB (lIx (nL 2) (nB 5))) aNilB))) (PE.toB (lIx (PE.DtoL (lIx (nL 3) (nB 5))) (nB 5))) (lSorted t.m_sorted (nL 6))))))
    (sOne (sRetR 4 (Room.u6 hr) t.m_sorted))))))
  exact h
theorem ok_law (G_linked : OkT P w K mg base 3 t.a_linked t.d_linked ["n", "word"] m_linked) (G_profile : OkR P w K mg base 4 t.a_profile t.d_profile ["n", "word"] m_profile) (G__law_strings : Ok P w K mg base 1 t.a__law_strings t.d__law_strings ["_law_seed", "_law_least", "_law_most"] m__law_strings) (G__law_drawn : OkF P w K mg base 3 t.a__law_drawn t.d__law_drawn ["_law_cells", "_law_n", "_law_most"] m__law_drawn) (G__law_rows_are : Ok P w K mg base 2 t.a__law_rows_are t.d__law_rows_are ["_law_found", "_law_due"] m__law_rows_are) (G__law_counted : Ok P w K mg base 1 t.a__law_counted t.d__law_counted ["_law_n", "_law_word"] m__law_counted) (G__law_ringed : OkT P w K mg base 1 t.a__law_ringed t.d__law_ringed ["_law_places"] m__law_ringed) (G__law_linked : OkT P w K mg base 1 t.a__law_linked t.d__law_linked ["_law_counts", "_law_told"] m__law_linked) (G__law_profile : Ok P w K mg base 1 t.a__law_profile t.d__law_profile ["_law_rows", "_law_told"] m__law_profile) (G__law_profile_is : Ok P w K mg base 2 t.a__law_profile_is t.d__law_profile_is ["_law_found", "_law_due"] m__law_profile_is) : Ok P w K mg base 5 t.a_law t.d_law ["_law_script"] m_law := by
  have h := okS (P := P) (w := w) (base := base) (k := 4) sco_law t.D_law fun cdv A outer s H E hr =>
    (sCons (sSet 1 (fB1 scd t.D__law_strings G__law_strings (hr.mono (by decide)) (aConsB (PE.toB (oBin op_mod ker_mod (PE.toB (lIx (PE.FtoL (lCat (nL 0) (PE.FtoL (dLst (aCons cI aNil))))) (PE.toB cI))) (PE.toB (oBin op_pow ker_pow (PE.toB cI) (PE.toB cI))))) (aConsB (PE.toB cI) (aConsB (PE.toB cI) aNilB)))) sco_law.nd)
    (sCons (sSet 2 (PE.FtoD (fF1 t.D__law_drawn G__law_drawn (hr.mono (by decide)) (aCons (PE.FtoD (lSlice (nL 0) oNo (oYes (PE.toB cI)))) (aCons (nD 1) (aCons cI aNil))))) sco_law.nd)
    (sCons (sSet 3 (PE.FtoD (lList t.m_list (nL 2))) sco_law.nd)
    (sCons (sAsg (fD1 t.D__law_counted G__law_counted (hr.mono (by decide)) (aCons (nD 1) (aCons (nD 2) aNil))) (gT2 2 rfl (gsCons2 (gN2 4 sco_law.nd) (gsCons2 (gN2 5 sco_law.nd) gsNil2))))
    (sCons (sSet 6 (PE.TtoD (fT1 t.D__law_ringed G__law_ringed (hr.mono (by decide)) (aConsB (nB 5) aNilB))) sco_law.nd)
    (sCons (sSet 7 (PE.TtoD (fT1 t.D__law_linked G__law_linked (hr.mono (by decide)) (aConsB (nB 4) (aConsB (nB 6) aNilB)))) sco_law.nd)
    (sCons (sSetT 8 (fT1 t.D_linked G_linked (hr.mono (by decide)) (aConsB (nB 1) (aConsB (nB 3) aNilB))) sco_law.nd)
    (sCons (sIf (tNotD (tVal (PE.toB (fB1 scd t.D__law_rows_are G__law_rows_are (hr.mono (by decide)) (aConsB (nB 8) (aConsB (nB 7) aNilB)))))) (sOne (sRet cBl)) sNil)
    (sCons (sFor PassesOwn.never rfl (iR1 t.m_range (aConsB (PE.toB (oCall call_len ker_len t.m_len bt_len (aConsB (nB 7) aNilB))) aNilB)) (gN2 9 sco_law.nd) (sOne (sFor PassesOwn.never rfl (iR1 t.m_range (aConsB (PE.toB (oCall call_len ker_len t.m_len bt_len (aConsB (nB 7) aNilB))) aNilB)) (gN2 10 sco_law.nd) (sOne (sIf (oCmpT (op_neD (Room.u6 hr)) ker_neD (PE.toB (lIx (PE.DtoL (lIx (nL 7) (nB 9))) (nB 10))) (PE.toB (lIx (PE.DtoL (lIx (nL 7) (nB 10))) (nB 9))) (nomark _)) (sOne (sRet cBl)) sNil)))))
    (sCons (sAppDD 8 (PE.toB cI) (PE.toB cI))
    (sCons (sSet 11 (fD1 t.D__law_profile G__law_profile (hr.mono (by decide)) (aCons (nD 7) (aCons (nD 6) aNil))) sco_law.nd)
    (sCons (sSetR 12 (fR1 t.D_profile G_profile (hr.mono (by decide)) (aConsB (nB 1) (aConsB (nB 3) aNilB))) sco_law.nd)
    (sCons (sIf (tNotD (tVal (PE.toB (fB1 scd t.D__law_profile_is G__law_profile_is (hr.mono (by decide)) (aConsB (nB 12) (aConsB (nB 11) aNilB)))))) (sOne (sRet cBl)) sNil)
    (sCons (sAppX 12 (PE.toB cI) (PE.toB cI) (PE.toB cI))
    (sOne (sRet (vAnd (PE.toB (fB1 scd t.D__law_profile_is G__law_profile_is (hr.mono (by decide)) (aConsB (PE.toB (PE.RtoD (fR1 t.D_profile G_profile (hr.mono (by decide)) (aConsB (nB 1) (aConsB (nB 3) aNilB))))) (aConsB (nB 11) aNilB)))) (vAnd (PE.toB (fB1 scd t.D__law_rows_are G__law_rows_are (hr.mono (by decide)) (aConsB (PE.TtoB (fT1 t.D_linked G_linked (hr.mono (by decide)) (aConsB (nB 1) (aConsB (nB 3) aNilB)))) (aConsB (nB 7) aNilB)))) (vOne (oCmp (op_eqD (Room.u6 hr)) ker_eqD (nB 3) (nB 2) (nomark _)))))))))))))))))))))
  exact h
end
theorem all_mk {l : PySem.W.OpenLaw} {w : World} {K : PySem.W.Frag} {h : Heap} {mg : Str → Option Value} {fa : Addr} (X : K.In h) (G : h.Ns mainGlobals mg) (hfa : mg "law" = some (.ref fa))
    {f0 : Addr} {od0 an0 : Option Addr} {sl0 : Array (Option Value)} {oc0 kV0 dc0 pm0 cd0 ct0 : Value}
    (a0 : PySem.W.nsIn K mainGlobals "order_of" = some (some (.ref f0))) (l0 : K.lookup f0 = some ⟨oc0, od0, .func (PySem.W.fnOf "order_of" "order_of" (defArgs st_order_of) (defBody st_order_of) (defScope st_order_of) .none kV0 dc0 pm0 an0 cd0 ct0), sl0⟩) (c0 : PySem.W.codeIn K cd0 "order_of" = true) (k0 : PySem.W.keepIn K (.ref f0) = true)
    {f1 : Addr} {od1 an1 : Option Addr} {sl1 : Array (Option Value)} {oc1 kV1 dc1 pm1 cd1 ct1 : Value}
    (a1 : PySem.W.nsIn K mainGlobals "table" = some (some (.ref f1))) (l1 : K.lookup f1 = some ⟨oc1, od1, .func (PySem.W.fnOf "table" "table" (defArgs st_table) (defBody st_table) (defScope st_table) .none kV1 dc1 pm1 an1 cd1 ct1), sl1⟩) (c1 : PySem.W.codeIn K cd1 "table" = true) (k1 : PySem.W.keepIn K (.ref f1) = true)
    {f2 : Addr} {od2 an2 : Option Addr} {sl2 : Array (Option Value)} {oc2 kV2 dc2 pm2 cd2 ct2 : Value}
    (a2 : PySem.W.nsIn K mainGlobals "ring_from" = some (some (.ref f2))) (l2 : K.lookup f2 = some ⟨oc2, od2, .func (PySem.W.fnOf "ring_from" "ring_from" (defArgs st_ring_from) (defBody st_ring_from) (defScope st_ring_from) .none kV2 dc2 pm2 an2 cd2 ct2), sl2⟩) (c2 : PySem.W.codeIn K cd2 "ring_from" = true) (k2 : PySem.W.keepIn K (.ref f2) = true)
    {f3 : Addr} {od3 an3 : Option Addr} {sl3 : Array (Option Value)} {oc3 kV3 dc3 pm3 cd3 ct3 : Value}
    (a3 : PySem.W.nsIn K mainGlobals "rings" = some (some (.ref f3))) (l3 : K.lookup f3 = some ⟨oc3, od3, .func (PySem.W.fnOf "rings" "rings" (defArgs st_rings) (defBody st_rings) (defScope st_rings) .none kV3 dc3 pm3 an3 cd3 ct3), sl3⟩) (c3 : PySem.W.codeIn K cd3 "rings" = true) (k3 : PySem.W.keepIn K (.ref f3) = true)
    {f4 : Addr} {od4 an4 : Option Addr} {sl4 : Array (Option Value)} {oc4 kV4 dc4 pm4 cd4 ct4 : Value}
    (a4 : PySem.W.nsIn K mainGlobals "sum_between" = some (some (.ref f4))) (l4 : K.lookup f4 = some ⟨oc4, od4, .func (PySem.W.fnOf "sum_between" "sum_between" (defArgs st_sum_between) (defBody st_sum_between) (defScope st_sum_between) .none kV4 dc4 pm4 an4 cd4 ct4), sl4⟩) (c4 : PySem.W.codeIn K cd4 "sum_between" = true) (k4 : PySem.W.keepIn K (.ref f4) = true)
    {f5 : Addr} {od5 an5 : Option Addr} {sl5 : Array (Option Value)} {oc5 kV5 dc5 pm5 cd5 ct5 : Value}
    (a5 : PySem.W.nsIn K mainGlobals "sums_of_ring" = some (some (.ref f5))) (l5 : K.lookup f5 = some ⟨oc5, od5, .func (PySem.W.fnOf "sums_of_ring" "sums_of_ring" (defArgs st_sums_of_ring) (defBody st_sums_of_ring) (defScope st_sums_of_ring) .none kV5 dc5 pm5 an5 cd5 ct5), sl5⟩) (c5 : PySem.W.codeIn K cd5 "sums_of_ring" = true) (k5 : PySem.W.keepIn K (.ref f5) = true)
    {f6 : Addr} {od6 an6 : Option Addr} {sl6 : Array (Option Value)} {oc6 kV6 dc6 pm6 cd6 ct6 : Value}
    (a6 : PySem.W.nsIn K mainGlobals "linked" = some (some (.ref f6))) (l6 : K.lookup f6 = some ⟨oc6, od6, .func (PySem.W.fnOf "linked" "linked" (defArgs st_linked) (defBody st_linked) (defScope st_linked) .none kV6 dc6 pm6 an6 cd6 ct6), sl6⟩) (c6 : PySem.W.codeIn K cd6 "linked" = true) (k6 : PySem.W.keepIn K (.ref f6) = true)
    {f7 : Addr} {od7 an7 : Option Addr} {sl7 : Array (Option Value)} {oc7 kV7 dc7 pm7 cd7 ct7 : Value}
    (a7 : PySem.W.nsIn K mainGlobals "profile" = some (some (.ref f7))) (l7 : K.lookup f7 = some ⟨oc7, od7, .func (PySem.W.fnOf "profile" "profile" (defArgs st_profile) (defBody st_profile) (defScope st_profile) .none kV7 dc7 pm7 an7 cd7 ct7), sl7⟩) (c7 : PySem.W.codeIn K cd7 "profile" = true) (k7 : PySem.W.keepIn K (.ref f7) = true)
    {f8 : Addr} {od8 an8 : Option Addr} {sl8 : Array (Option Value)} {oc8 kV8 dc8 pm8 cd8 ct8 : Value}
    (a8 : PySem.W.nsIn K mainGlobals "_law_mix" = some (some (.ref f8))) (l8 : K.lookup f8 = some ⟨oc8, od8, .func (PySem.W.fnOf "_law_mix" "_law_mix" (defArgs st__law_mix) (defBody st__law_mix) (defScope st__law_mix) .none kV8 dc8 pm8 an8 cd8 ct8), sl8⟩) (c8 : PySem.W.codeIn K cd8 "_law_mix" = true) (k8 : PySem.W.keepIn K (.ref f8) = true)
    {f9 : Addr} {od9 an9 : Option Addr} {sl9 : Array (Option Value)} {oc9 kV9 dc9 pm9 cd9 ct9 : Value}
    (a9 : PySem.W.nsIn K mainGlobals "_law_strings" = some (some (.ref f9))) (l9 : K.lookup f9 = some ⟨oc9, od9, .func (PySem.W.fnOf "_law_strings" "_law_strings" (defArgs st__law_strings) (defBody st__law_strings) (defScope st__law_strings) .none kV9 dc9 pm9 an9 cd9 ct9), sl9⟩) (c9 : PySem.W.codeIn K cd9 "_law_strings" = true) (k9 : PySem.W.keepIn K (.ref f9) = true)
    {f10 : Addr} {od10 an10 : Option Addr} {sl10 : Array (Option Value)} {oc10 kV10 dc10 pm10 cd10 ct10 : Value}
    (a10 : PySem.W.nsIn K mainGlobals "_law_crossing" = some (some (.ref f10))) (l10 : K.lookup f10 = some ⟨oc10, od10, .func (PySem.W.fnOf "_law_crossing" "_law_crossing" (defArgs st__law_crossing) (defBody st__law_crossing) (defScope st__law_crossing) .none kV10 dc10 pm10 an10 cd10 ct10), sl10⟩) (c10 : PySem.W.codeIn K cd10 "_law_crossing" = true) (k10 : PySem.W.keepIn K (.ref f10) = true)
    {f11 : Addr} {od11 an11 : Option Addr} {sl11 : Array (Option Value)} {oc11 kV11 dc11 pm11 cd11 ct11 : Value}
    (a11 : PySem.W.nsIn K mainGlobals "_law_piece" = some (some (.ref f11))) (l11 : K.lookup f11 = some ⟨oc11, od11, .func (PySem.W.fnOf "_law_piece" "_law_piece" (defArgs st__law_piece) (defBody st__law_piece) (defScope st__law_piece) .none kV11 dc11 pm11 an11 cd11 ct11), sl11⟩) (c11 : PySem.W.codeIn K cd11 "_law_piece" = true) (k11 : PySem.W.keepIn K (.ref f11) = true)
    {f12 : Addr} {od12 an12 : Option Addr} {sl12 : Array (Option Value)} {oc12 kV12 dc12 pm12 cd12 ct12 : Value}
    (a12 : PySem.W.nsIn K mainGlobals "_law_drawn" = some (some (.ref f12))) (l12 : K.lookup f12 = some ⟨oc12, od12, .func (PySem.W.fnOf "_law_drawn" "_law_drawn" (defArgs st__law_drawn) (defBody st__law_drawn) (defScope st__law_drawn) .none kV12 dc12 pm12 an12 cd12 ct12), sl12⟩) (c12 : PySem.W.codeIn K cd12 "_law_drawn" = true) (k12 : PySem.W.keepIn K (.ref f12) = true)
    {f13 : Addr} {od13 an13 : Option Addr} {sl13 : Array (Option Value)} {oc13 kV13 dc13 pm13 cd13 ct13 : Value}
    (a13 : PySem.W.nsIn K mainGlobals "_law_list_is" = some (some (.ref f13))) (l13 : K.lookup f13 = some ⟨oc13, od13, .func (PySem.W.fnOf "_law_list_is" "_law_list_is" (defArgs st__law_list_is) (defBody st__law_list_is) (defScope st__law_list_is) .none kV13 dc13 pm13 an13 cd13 ct13), sl13⟩) (c13 : PySem.W.codeIn K cd13 "_law_list_is" = true) (k13 : PySem.W.keepIn K (.ref f13) = true)
    {f14 : Addr} {od14 an14 : Option Addr} {sl14 : Array (Option Value)} {oc14 kV14 dc14 pm14 cd14 ct14 : Value}
    (a14 : PySem.W.nsIn K mainGlobals "_law_rows_are" = some (some (.ref f14))) (l14 : K.lookup f14 = some ⟨oc14, od14, .func (PySem.W.fnOf "_law_rows_are" "_law_rows_are" (defArgs st__law_rows_are) (defBody st__law_rows_are) (defScope st__law_rows_are) .none kV14 dc14 pm14 an14 cd14 ct14), sl14⟩) (c14 : PySem.W.codeIn K cd14 "_law_rows_are" = true) (k14 : PySem.W.keepIn K (.ref f14) = true)
    {f15 : Addr} {od15 an15 : Option Addr} {sl15 : Array (Option Value)} {oc15 kV15 dc15 pm15 cd15 ct15 : Value}
    (a15 : PySem.W.nsIn K mainGlobals "_law_counted" = some (some (.ref f15))) (l15 : K.lookup f15 = some ⟨oc15, od15, .func (PySem.W.fnOf "_law_counted" "_law_counted" (defArgs st__law_counted) (defBody st__law_counted) (defScope st__law_counted) .none kV15 dc15 pm15 an15 cd15 ct15), sl15⟩) (c15 : PySem.W.codeIn K cd15 "_law_counted" = true) (k15 : PySem.W.keepIn K (.ref f15) = true)
    {f16 : Addr} {od16 an16 : Option Addr} {sl16 : Array (Option Value)} {oc16 kV16 dc16 pm16 cd16 ct16 : Value}
    (a16 : PySem.W.nsIn K mainGlobals "_law_ringed" = some (some (.ref f16))) (l16 : K.lookup f16 = some ⟨oc16, od16, .func (PySem.W.fnOf "_law_ringed" "_law_ringed" (defArgs st__law_ringed) (defBody st__law_ringed) (defScope st__law_ringed) .none kV16 dc16 pm16 an16 cd16 ct16), sl16⟩) (c16 : PySem.W.codeIn K cd16 "_law_ringed" = true) (k16 : PySem.W.keepIn K (.ref f16) = true)
    {f17 : Addr} {od17 an17 : Option Addr} {sl17 : Array (Option Value)} {oc17 kV17 dc17 pm17 cd17 ct17 : Value}
    (a17 : PySem.W.nsIn K mainGlobals "_law_linked" = some (some (.ref f17))) (l17 : K.lookup f17 = some ⟨oc17, od17, .func (PySem.W.fnOf "_law_linked" "_law_linked" (defArgs st__law_linked) (defBody st__law_linked) (defScope st__law_linked) .none kV17 dc17 pm17 an17 cd17 ct17), sl17⟩) (c17 : PySem.W.codeIn K cd17 "_law_linked" = true) (k17 : PySem.W.keepIn K (.ref f17) = true)
    {f18 : Addr} {od18 an18 : Option Addr} {sl18 : Array (Option Value)} {oc18 kV18 dc18 pm18 cd18 ct18 : Value}
    (a18 : PySem.W.nsIn K mainGlobals "_law_profile" = some (some (.ref f18))) (l18 : K.lookup f18 = some ⟨oc18, od18, .func (PySem.W.fnOf "_law_profile" "_law_profile" (defArgs st__law_profile) (defBody st__law_profile) (defScope st__law_profile) .none kV18 dc18 pm18 an18 cd18 ct18), sl18⟩) (c18 : PySem.W.codeIn K cd18 "_law_profile" = true) (k18 : PySem.W.keepIn K (.ref f18) = true)
    {f19 : Addr} {od19 an19 : Option Addr} {sl19 : Array (Option Value)} {oc19 kV19 dc19 pm19 cd19 ct19 : Value}
    (a19 : PySem.W.nsIn K mainGlobals "_law_profile_is" = some (some (.ref f19))) (l19 : K.lookup f19 = some ⟨oc19, od19, .func (PySem.W.fnOf "_law_profile_is" "_law_profile_is" (defArgs st__law_profile_is) (defBody st__law_profile_is) (defScope st__law_profile_is) .none kV19 dc19 pm19 an19 cd19 ct19), sl19⟩) (c19 : PySem.W.codeIn K cd19 "_law_profile_is" = true) (k19 : PySem.W.keepIn K (.ref f19) = true)
    {f20 : Addr} {od20 an20 : Option Addr} {sl20 : Array (Option Value)} {oc20 kV20 dc20 pm20 cd20 ct20 : Value}
    (a20 : PySem.W.nsIn K mainGlobals "law" = some (some (.ref f20))) (l20 : K.lookup f20 = some ⟨oc20, od20, .func (PySem.W.fnOf "law" "law" (defArgs st_law) (defBody st_law) (defScope st_law) .none kV20 dc20 pm20 an20 cd20 ct20), sl20⟩) (c20 : PySem.W.codeIn K cd20 "law" = true) (k20 : PySem.W.keepIn K (.ref f20) = true)
    (z0 : PySem.W.nsIn K mainGlobals "abs" = some none)
    (z1 : PySem.W.nsIn K mainGlobals "all" = some none)
    (z2 : PySem.W.nsIn K mainGlobals "bool" = some none)
    (z3 : PySem.W.nsIn K mainGlobals "enumerate" = some none)
    (z4 : PySem.W.nsIn K mainGlobals "int" = some none)
    (z5 : PySem.W.nsIn K mainGlobals "isinstance" = some none)
    (z6 : PySem.W.nsIn K mainGlobals "len" = some none)
    (z7 : PySem.W.nsIn K mainGlobals "list" = some none)
    (z8 : PySem.W.nsIn K mainGlobals "max" = some none)
    (z9 : PySem.W.nsIn K mainGlobals "min" = some none)
    (z10 : PySem.W.nsIn K mainGlobals "range" = some none)
    (z11 : PySem.W.nsIn K mainGlobals "sorted" = some none)
    (z12 : PySem.W.nsIn K mainGlobals "sum" = some none)
    (z13 : PySem.W.nsIn K mainGlobals "tuple" = some none)
    (z14 : PySem.W.nsIn K mainGlobals "zip" = some none) :
    ∃ fd : FuncData, (∀ (s : Shared) (v : Value), BindsTo s fd ⟨[v], []⟩ [("_law_script", v)]) ∧ ∀ base : Heap, K.In base → base.Ns mainGlobals mg → FnOk l.prog w K mg base CX0 5 fa fd ["_law_script"] (spD K xc0 m_law) := by
  have e := hfa.symm.trans (PySem.W.mg_of X G a20)
  cases e
  have F0 := fun_mk (st := st_order_of) l0 c0 k0
  have b0 := F0.binds (ps := ["n", "word"]) fun _ _ _ _ _ _ us hl => match us, hl with | [_, _], _ => rfl
  have F1 := fun_mk (st := st_table) l1 c1 k1
  have b1 := F1.binds (ps := ["n", "word"]) fun _ _ _ _ _ _ us hl => match us, hl with | [_, _], _ => rfl
  have F2 := fun_mk (st := st_ring_from) l2 c2 k2
  have b2 := F2.binds (ps := ["order", "first"]) fun _ _ _ _ _ _ us hl => match us, hl with | [_, _], _ => rfl
  have F3 := fun_mk (st := st_rings) l3 c3 k3
  have b3 := F3.binds (ps := ["n", "word"]) fun _ _ _ _ _ _ us hl => match us, hl with | [_, _], _ => rfl
  have F4 := fun_mk (st := st_sum_between) l4 c4 k4
  have b4 := F4.binds (ps := ["sums", "one", "other"]) fun _ _ _ _ _ _ us hl => match us, hl with | [_, _, _], _ => rfl
  have F5 := fun_mk (st := st_sums_of_ring) l5 c5 k5
  have b5 := F5.binds (ps := ["sums", "one", "found"]) fun _ _ _ _ _ _ us hl => match us, hl with | [_, _, _], _ => rfl
  have F6 := fun_mk (st := st_linked) l6 c6 k6
  have b6 := F6.binds (ps := ["n", "word"]) fun _ _ _ _ _ _ us hl => match us, hl with | [_, _], _ => rfl
  have F7 := fun_mk (st := st_profile) l7 c7 k7
  have b7 := F7.binds (ps := ["n", "word"]) fun _ _ _ _ _ _ us hl => match us, hl with | [_, _], _ => rfl
  have F8 := fun_mk (st := st__law_mix) l8 c8 k8
  have b8 := F8.binds (ps := ["_law_cell", "_law_k", "_law_factor"]) fun _ _ _ _ _ _ us hl => match us, hl with | [_, _, _], _ => rfl
  have F9 := fun_mk (st := st__law_strings) l9 c9 k9
  have b9 := F9.binds (ps := ["_law_seed", "_law_least", "_law_most"]) fun _ _ _ _ _ _ us hl => match us, hl with | [_, _, _], _ => rfl
  have F10 := fun_mk (st := st__law_crossing) l10 c10 k10
  have b10 := F10.binds (ps := ["_law_number", "_law_n"]) fun _ _ _ _ _ _ us hl => match us, hl with | [_, _], _ => rfl
  have F11 := fun_mk (st := st__law_piece) l11 c11 k11
  have b11 := F11.binds (ps := ["_law_number", "_law_n"]) fun _ _ _ _ _ _ us hl => match us, hl with | [_, _], _ => rfl
  have F12 := fun_mk (st := st__law_drawn) l12 c12 k12
  have b12 := F12.binds (ps := ["_law_cells", "_law_n", "_law_most"]) fun _ _ _ _ _ _ us hl => match us, hl with | [_, _, _], _ => rfl
  have F13 := fun_mk (st := st__law_list_is) l13 c13 k13
  have b13 := F13.binds (ps := ["_law_found", "_law_due"]) fun _ _ _ _ _ _ us hl => match us, hl with | [_, _], _ => rfl
  have F14 := fun_mk (st := st__law_rows_are) l14 c14 k14
  have b14 := F14.binds (ps := ["_law_found", "_law_due"]) fun _ _ _ _ _ _ us hl => match us, hl with | [_, _], _ => rfl
  have F15 := fun_mk (st := st__law_counted) l15 c15 k15
  have b15 := F15.binds (ps := ["_law_n", "_law_word"]) fun _ _ _ _ _ _ us hl => match us, hl with | [_, _], _ => rfl
  have F16 := fun_mk (st := st__law_ringed) l16 c16 k16
  have b16 := F16.binds (ps := ["_law_places"]) fun _ _ _ _ _ _ us hl => match us, hl with | [_], _ => rfl
  have F17 := fun_mk (st := st__law_linked) l17 c17 k17
  have b17 := F17.binds (ps := ["_law_counts", "_law_told"]) fun _ _ _ _ _ _ us hl => match us, hl with | [_, _], _ => rfl
  have F18 := fun_mk (st := st__law_profile) l18 c18 k18
  have b18 := F18.binds (ps := ["_law_rows", "_law_told"]) fun _ _ _ _ _ _ us hl => match us, hl with | [_, _], _ => rfl
  have F19 := fun_mk (st := st__law_profile_is) l19 c19 k19
  have b19 := F19.binds (ps := ["_law_found", "_law_due"]) fun _ _ _ _ _ _ us hl => match us, hl with | [_, _], _ => rfl
  have F20 := fun_mk (st := st_law) l20 c20 k20
  have b20 := F20.binds (ps := ["_law_script"]) fun _ _ _ _ _ _ us hl => match us, hl with | [_], _ => rfl
  let t : Tb K mg := { a_order_of := f0, d_order_of := _, D_order_of := ⟨F0, b0, PySem.W.mg_of X G a0, a0⟩, a_table := f1, d_table := _, D_table := ⟨F1, b1, PySem.W.mg_of X G a1, a1⟩, a_ring_from := f2, d_ring_from := _, D_ring_from := ⟨F2, b2, PySem.W.mg_of X G a2, a2⟩, a_rings := f3, d_rings := _, D_rings := ⟨F3, b3, PySem.W.mg_of X G a3, a3⟩, a_sum_between := f4, d_sum_between := _, D_sum_between := ⟨F4, b4, PySem.W.mg_of X G a4, a4⟩, a_sums_of_ring := f5, d_sums_of_ring := _, D_sums_of_ring := ⟨F5, b5, PySem.W.mg_of X G a5, a5⟩, a_linked := f6, d_linked := _, D_linked := ⟨F6, b6, PySem.W.mg_of X G a6, a6⟩, a_profile := f7, d_profile := _, D_profile := ⟨F7, b7, PySem.W.mg_of X G a7, a7⟩, a__law_mix := f8, d__law_mix := _, D__law_mix := ⟨F8, b8, PySem.W.mg_of X G a8, a8⟩, a__law_strings := f9, d__law_strings := _, D__law_strings := ⟨F9, b9, PySem.W.mg_of X G a9, a9⟩, a__law_crossing := f10, d__law_crossing := _, D__law_crossing := ⟨F10, b10, PySem.W.mg_of X G a10, a10⟩, a__law_piece := f11, d__law_piece := _, D__law_piece := ⟨F11, b11, PySem.W.mg_of X G a11, a11⟩, a__law_drawn := f12, d__law_drawn := _, D__law_drawn := ⟨F12, b12, PySem.W.mg_of X G a12, a12⟩, a__law_list_is := f13, d__law_list_is := _, D__law_list_is := ⟨F13, b13, PySem.W.mg_of X G a13, a13⟩, a__law_rows_are := f14, d__law_rows_are := _, D__law_rows_are := ⟨F14, b14, PySem.W.mg_of X G a14, a14⟩, a__law_counted := f15, d__law_counted := _, D__law_counted := ⟨F15, b15, PySem.W.mg_of X G a15, a15⟩, a__law_ringed := f16, d__law_ringed := _, D__law_ringed := ⟨F16, b16, PySem.W.mg_of X G a16, a16⟩, a__law_linked := f17, d__law_linked := _, D__law_linked := ⟨F17, b17, PySem.W.mg_of X G a17, a17⟩, a__law_profile := f18, d__law_profile := _, D__law_profile := ⟨F18, b18, PySem.W.mg_of X G a18, a18⟩, a__law_profile_is := f19, d__law_profile_is := _, D__law_profile_is := ⟨F19, b19, PySem.W.mg_of X G a19, a19⟩, a_law := fa, d_law := _, D_law := ⟨F20, b20, PySem.W.mg_of X G a20, a20⟩, m_abs := PySem.W.mg_none_of X G z0, m_all := PySem.W.mg_none_of X G z1, m_bool := PySem.W.mg_none_of X G z2, m_enumerate := PySem.W.mg_none_of X G z3, m_int := PySem.W.mg_none_of X G z4, m_isinstance := PySem.W.mg_none_of X G z5, m_len := PySem.W.mg_none_of X G z6, m_list := PySem.W.mg_none_of X G z7, m_max := PySem.W.mg_none_of X G z8, m_min := PySem.W.mg_none_of X G z9, m_range := PySem.W.mg_none_of X G z10, m_sorted := PySem.W.mg_none_of X G z11, m_sum := PySem.W.mg_none_of X G z12, m_tuple := PySem.W.mg_none_of X G z13, m_zip := PySem.W.mg_none_of X G z14 }
  refine ⟨_, fun s v => (?_ : BindsTo s t.d_law ⟨[v], []⟩ [("_law_script", v)]), fun base _ _ => ?_⟩
  · exact .of_eq rfl
  have G_order_of := ok_order_of (P := l.prog) (w := w) (base := base) t
  have G_table := ok_table (P := l.prog) (w := w) (base := base) t
  have G_ring_from := ok_ring_from (P := l.prog) (w := w) (base := base) t
  have G_sum_between := ok_sum_between (P := l.prog) (w := w) (base := base) t
  have G__law_mix := ok__law_mix (P := l.prog) (w := w) (base := base) t
  have G__law_strings := ok__law_strings (P := l.prog) (w := w) (base := base) t
  have G__law_crossing := ok__law_crossing (P := l.prog) (w := w) (base := base) t
  have G__law_list_is := ok__law_list_is (P := l.prog) (w := w) (base := base) t
  have G__law_counted := ok__law_counted (P := l.prog) (w := w) (base := base) t
  have G__law_ringed := ok__law_ringed (P := l.prog) (w := w) (base := base) t
  have G__law_linked := ok__law_linked (P := l.prog) (w := w) (base := base) t
  have G__law_profile := ok__law_profile (P := l.prog) (w := w) (base := base) t
  have G_rings := ok_rings (P := l.prog) (w := w) (base := base) t G_order_of G_ring_from
  have G_sums_of_ring := ok_sums_of_ring (P := l.prog) (w := w) (base := base) t G_sum_between
  have G__law_piece := ok__law_piece (P := l.prog) (w := w) (base := base) t G__law_crossing
  have G__law_rows_are := ok__law_rows_are (P := l.prog) (w := w) (base := base) t G__law_list_is
  have G__law_profile_is := ok__law_profile_is (P := l.prog) (w := w) (base := base) t G__law_list_is
  have G_linked := ok_linked (P := l.prog) (w := w) (base := base) t G_table G_rings G_sums_of_ring
  have G__law_drawn := ok__law_drawn (P := l.prog) (w := w) (base := base) t G__law_mix G__law_piece
  have G_profile := ok_profile (P := l.prog) (w := w) (base := base) t G_rings G_linked
  have G_law := ok_law (P := l.prog) (w := w) (base := base) t G_linked G_profile G__law_strings G__law_drawn G__law_rows_are G__law_counted G__law_ringed G__law_linked G__law_profile G__law_profile_is
  exact G_law
theorem walk {l : PySem.W.OpenLaw} {q : Program} {loose : List Str} {XP : (Str → Option Value) → Heap → Prop} {YP : World → Heap → Prop} {d : DefRec} {K : Params → PySem.W.Frag} (hn : l.most = some 63) (hdf : d.params.defaults = [])
    (hY : ∀ (w : World) (h : Heap), YP w h → (K w.params).In h)
    (F : ∀ (w : World) (mg : Str → Option Value) (fa : Addr) (h : Heap), (K w.params).In h → h.Ns mainGlobals mg → mg d.name = some (.ref fa) →
      ∃ fd : FuncData, (∀ (s : Shared) (u : Value), BindsTo s fd ⟨[u], []⟩ [("_law_script", u)]) ∧ ∀ base : Heap, (K w.params).In base → base.Ns mainGlobals mg → FnOk l.prog w (K w.params) mg base CX0 5 fa fd ["_law_script"] (spD (K w.params) xc0 m_law)) :
    PySem.W.WalkO q loose XP YP l.row.toRowW d [] (fun f vs => PySem.call f vs) :=
  L2.walk_of (n := 63) (k := 5) (x := "_law_script") (CX := fun _ => CX0) (sp := fun w => spD (K w.params) xc0 m_law) hn (by decide) hdf ⟨rfl, by decide, by decide⟩ hY F (fun w H a ns hl _ hS => law_sp ns hl hS) fun _ _ _ _ _ z => z
end DL.K17
open PySem PySem.W PyProof.Rows
set_option maxRecDepth 100000 in
set_option maxHeartbeats 0 in
theorem PySem.Challenge.cw_braidcomb_k17_linked_and_profile_holds : PySem.Challenge.rw_braidcomb_k17_linked_and_profile.Holds := by
  w_on; o_law; k_head; (case hw => w_witness2)
  k_fill
  refine DL.K17.walk (l := PySem.Challenge.rw_braidcomb_k17_linked_and_profile) rfl rfl (fun w h Y => PySem.W.kIn_of Y) ?F
  case F =>
    intro w mg fa h KX G hmg
    refine' DL.K17.all_mk KX G hmg ?a0 ?l0 ?c0 ?k0 ?a1 ?l1 ?c1 ?k1 ?a2 ?l2 ?c2 ?k2 ?a3 ?l3 ?c3 ?k3 ?a4 ?l4 ?c4 ?k4 ?a5 ?l5 ?c5 ?k5 ?a6 ?l6 ?c6 ?k6 ?a7 ?l7 ?c7 ?k7 ?a8 ?l8 ?c8 ?k8 ?a9 ?l9 ?c9 ?k9 ?a10 ?l10 ?c10 ?k10 ?a11 ?l11 ?c11 ?k11 ?a12 ?l12 ?c12 ?k12 ?a13 ?l13 ?c13 ?k13 ?a14 ?l14 ?c14 ?k14 ?a15 ?l15 ?c15 ?k15 ?a16 ?l16 ?c16 ?k16 ?a17 ?l17 ?c17 ?k17 ?a18 ?l18 ?c18 ?k18 ?a19 ?l19 ?c19 ?k19 ?a20 ?l20 ?c20 ?k20 ?z0 ?z1 ?z2 ?z3 ?z4 ?z5 ?z6 ?z7 ?z8 ?z9 ?z10 ?z11 ?z12 ?z13 ?z14
    (case a0 => k_is)
    (case l0 => k_is)
    (case c0 => k_is)
    (case k0 => k_is)
    (case a1 => k_is)
    (case l1 => k_is)
    (case c1 => k_is)
    (case k1 => k_is)
    (case a2 => k_is)
    (case l2 => k_is)
    (case c2 => k_is)
    (case k2 => k_is)
    (case a3 => k_is)
    (case l3 => k_is)
    (case c3 => k_is)
    (case k3 => k_is)
    (case a4 => k_is)
    (case l4 => k_is)
    (case c4 => k_is)
    (case k4 => k_is)
    (case a5 => k_is)
    (case l5 => k_is)
    (case c5 => k_is)
    (case k5 => k_is)
    (case a6 => k_is)
    (case l6 => k_is)
    (case c6 => k_is)
    (case k6 => k_is)
    (case a7 => k_is)
    (case l7 => k_is)
    (case c7 => k_is)
    (case k7 => k_is)
    (case a8 => k_is)
    (case l8 => k_is)
    (case c8 => k_is)
    (case k8 => k_is)
    (case a9 => k_is)
    (case l9 => k_is)
    (case c9 => k_is)
    (case k9 => k_is)
    (case a10 => k_is)
    (case l10 => k_is)
    (case c10 => k_is)
    (case k10 => k_is)
    (case a11 => k_is)
    (case l11 => k_is)
    (case c11 => k_is)
    (case k11 => k_is)
    (case a12 => k_is)
    (case l12 => k_is)
    (case c12 => k_is)
    (case k12 => k_is)
    (case a13 => k_is)
    (case l13 => k_is)
    (case c13 => k_is)
    (case k13 => k_is)
    (case a14 => k_is)
    (case l14 => k_is)
    (case c14 => k_is)
    (case k14 => k_is)
    (case a15 => k_is)
    (case l15 => k_is)
    (case c15 => k_is)
    (case k15 => k_is)
    (case a16 => k_is)
    (case l16 => k_is)
    (case c16 => k_is)
    (case k16 => k_is)
    (case a17 => k_is)
    (case l17 => k_is)
    (case c17 => k_is)
    (case k17 => k_is)
    (case a18 => k_is)
    (case l18 => k_is)
    (case c18 => k_is)
    (case k18 => k_is)
    (case a19 => k_is)
    (case l19 => k_is)
    (case c19 => k_is)
    (case k19 => k_is)
    (case a20 => k_is)
    (case l20 => k_is)
    (case c20 => k_is)
    (case k20 => k_is)
    (case z0 => k_is)
    (case z1 => k_is)
    (case z2 => k_is)
    (case z3 => k_is)
    (case z4 => k_is)
    (case z5 => k_is)
    (case z6 => k_is)
    (case z7 => k_is)
    (case z8 => k_is)
    (case z9 => k_is)
    (case z10 => k_is)
    (case z11 => k_is)
    (case z12 => k_is)
    (case z13 => k_is)
    (case z14 => k_is)

