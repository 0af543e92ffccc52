import PyProof.Rows.All
import Wide.All
import OpenK.AllK
import Wide.FinOn
import Lean
import PyProof.EqAt
import PyProof.EqKinds
import PyProof.TupleCall
import PyProof.Draws
import PyProof.EnumMake
import PyProof.EnumFor
import PyProof.TupleIter
import PyProof.P3Eq
import PyProof.EqLayable
import PyProof.ConsumeWalk
import PyProof.ZipIter
import KE.KDictOf
import PyProof.AttrMissHeap
import PyProof.NsDelKeeps
import KE.KIntText
import PyProof.StrWalks
import PyProof.SliceStr2
import PyProof.StrBlockI
import PyProof.StrLawsTight
import PyProof.StrLawsChain
import PyProof.Rows.StrItems
import PyProof.StrLaws
import PySem.Challenge.RW_backhead_k15_texts_refused
set_option Elab.async false
set_option linter.all false
set_option maxRecDepth 100000
set_option maxHeartbeats 4000000
/-! THE HAND LAYER, for ints, bools, texts, own classes, LISTS and tuples (index, slices, in, append, pop ..), calls, loops. Paste it whole ahead of your own text; what your proof does not reach may be deleted. -/
namespace L2
open PySem PySem.Spec PyProof.Rows

/-- a key: an int or a str -/
abbrev Key := Sum Int Str
def keyIs : Key → Value → Bool
  | .inl k, v => Value.isInt k v
  | .inr x, v => Value.isStrOf x v
def keyH (w : World) : Key → Int
  | .inl k => hashInt k
  | .inr x => hashStr w x
theorem keyIs_shape : ∀ {k : Key} {v : Value}, keyIs k v = true → (∃ i t, k = Sum.inl i ∧ v = Value.int i t) ∨ (∃ x t, k = Sum.inr x ∧ v = Value.str x t)
  | .inl i, v, h => by
    obtain ⟨t, e⟩ := Value.isInt_shape (k := i) (v := v) h
    exact .inl ⟨i, t, rfl, e⟩
  | .inr x, v, h => by
    obtain ⟨t, e⟩ := Value.isStrOf_shape (x := x) (v := v) h
    exact .inr ⟨x, t, rfl, e⟩
theorem keyIs_int (i : Int) (t : Tok) : keyIs (.inl i) (.int i t) = true := by simp [keyIs, Value.isInt]
theorem keyIs_str (x : Str) (t : Tok) : keyIs (.inr x) (.str x t) = true := by simp [keyIs, Value.isStrOf]
theorem key_ll (a b : Int) : decide ((Sum.inl a : Key) = Sum.inl b) = (a == b) := by
  by_cases e : a = b
  · subst e; simp
  · have h : ¬ (Sum.inl a : Key) = Sum.inl b := fun q => e (Sum.inl.inj q)
    rw [decide_eq_false h]
    exact (beq_eq_false_iff_ne.mpr e).symm
theorem key_rr (a b : Str) : decide ((Sum.inr a : Key) = Sum.inr b) = decide (a = b) := by
  by_cases e : a = b
  · subst e; simp
  · have h : ¬ (Sum.inr a : Key) = Sum.inr b := fun q => e (Sum.inr.inj q)
    rw [decide_eq_false h, decide_eq_false e]
theorem key_lr (a : Int) (b : Str) : decide ((Sum.inl a : Key) = Sum.inr b) = false := decide_eq_false (fun q => nomatch q)
theorem key_rl (a : Str) (b : Int) : decide ((Sum.inr a : Key) = Sum.inl b) = false := decide_eq_false (fun q => nomatch q)

def mixKind (prog : Program) (w : World) : PySem.KeyKind prog w Key where
  is := keyIs
  hash := keyH w
  inj := fun v a b ha hb => by
    rcases keyIs_shape ha with ⟨i, t, rfl, rfl⟩ | ⟨x, t, rfl, rfl⟩
    · rcases keyIs_shape hb with ⟨j, u, rfl, e⟩ | ⟨y, u, rfl, e⟩
      · injection e with e1 _; rw [e1]
      · exact nomatch e
    · rcases keyIs_shape hb with ⟨j, u, rfl, e⟩ | ⟨y, u, rfl, e⟩
      · exact nomatch e
      · injection e with e1 _; rw [e1]
  byValue := fun k v h => by
    rcases keyIs_shape h with ⟨i, t, rfl, rfl⟩ | ⟨x, t, rfl, rfl⟩ <;> rfl
  pyHash := fun hv h => by
    rcases keyIs_shape hv with ⟨i, t, rfl, rfl⟩ | ⟨x, t, rfl, rfl⟩
    · exact wpAny_pyHash_int h
    · exact wpAny_pyHash_str h
  eqBool := fun hu hv h => by
    rcases keyIs_shape hu with ⟨i, t, rfl, rfl⟩ | ⟨x, t, rfl, rfl⟩
    · rcases keyIs_shape hv with ⟨j, u, rfl, rfl⟩ | ⟨y, u, rfl, rfl⟩
      · rw [key_ll] at h; exact wpAny_eqBool_int h
      · rw [key_lr] at h; exact SeqAt.EqAt.int_str i t y u _ _ _ _ h
    · rcases keyIs_shape hv with ⟨j, u, rfl, rfl⟩ | ⟨y, u, rfl, rfl⟩
      · rw [key_rl] at h; exact SeqAt.EqAt.str_int x t j u _ _ _ _ h
      · rw [key_rr] at h; exact wpAny_eqBool_str h
  «strs» := fun k x t v h => by
    rcases keyIs_shape h with ⟨i, u, rfl, e⟩ | ⟨y, u, rfl, e⟩
    · exact nomatch e
    · injection e with e1 _
      subst e1
      cases v <;> rfl

theorem mixKind_int (prog : Program) (w : World) (i : Int) (t : Tok) : (mixKind prog w).is (.inl i) (.int i t) = true := keyIs_int i t
theorem mixKind_str (prog : Program) (w : World) (x : Str) (t : Tok) : (mixKind prog w).is (.inr x) (.str x t) = true := keyIs_str x t
end L2

namespace L2
open PySem PySem.Spec PyProof.Rows

/-- a value, without the heap -/
inductive V where
  | non | bl (b : Bool) | int (i : Int) | str (x : Str) | byt (b : Array UInt8) | flt (b : UInt64) | ref (a : Addr) | ty (n : String)
  deriving DecidableEq

def RelV : V → Value → Prop
  | .non, u => u = Value.none
  | .bl b, u => u = Value.bool b
  | .int i, u => ∃ t, u = Value.int i t
  | .str x, u => ∃ t, u = Value.str x t
  | .byt b, u => ∃ t, u = Value.bytes b t
  | .flt b, u => ∃ t, u = Value.float b t
  | .ref a, u => u = Value.ref a
  | .ty n, u => u = Value.type n

abbrev Vals : List V → List Value → Prop := Paired RelV
theorem Vals.length {xs : List V} {us : List Value} (r : Vals xs us) : xs.length = us.length := Paired.length r
theorem Vals.get : ∀ {xs : List V} {us : List Value} {i : Nat} {x : V}, Vals xs us → xs[i]? = some x → ∃ u, us[i]? = some u ∧ RelV x u
  | _, _, _, _, .nil, e => by simp at e
  | _, _, 0, _, .cons r _, e => by simp at e; subst e; exact ⟨_, rfl, r⟩
  | _, _, i + 1, x, .cons _ t, e => by
    obtain ⟨u, h1, h2⟩ := Vals.get (i := i) (x := x) t (by simpa using e)
    exact ⟨u, by simpa using h1, h2⟩
theorem Vals.set {x : V} {u : Value} (r : RelV x u) : ∀ {xs : List V} {us : List Value} (i : Nat), Vals xs us → Vals (xs.set i x) (us.set i u)
  | _, _, _, .nil => .nil
  | _, _, 0, .cons _ t => .cons r t
  | _, _, i + 1, .cons q t => .cons q (Vals.set r i t)
theorem Vals.append : ∀ {xs ys : List V} {us ws : List Value}, Vals xs us → Vals ys ws → Vals (xs ++ ys) (us ++ ws)
  | _, _, _, _, .nil, s => s
  | _, _, _, _, .cons r t, s => .cons r (Vals.append t s)
theorem Vals.take : ∀ {xs : List V} {us : List Value} (n : Nat), Vals xs us → Vals (xs.take n) (us.take n)
  | _, _, 0, _ => .nil
  | _, _, _ + 1, .nil => .nil
  | _, _, n + 1, .cons r t => .cons r (Vals.take n t)
theorem Vals.drop : ∀ {xs : List V} {us : List Value} (n : Nat), Vals xs us → Vals (xs.drop n) (us.drop n)
  | _, _, 0, r => r
  | _, _, _ + 1, .nil => .nil
  | _, _, n + 1, .cons _ t => Vals.drop n t
def RelO : Option V → Option Value → Prop
  | some v, some u => RelV v u
  | none, none => True
  | _, _ => False
def KV {κ : Type} : List (κ × V) → List (κ × Value) → Prop := Paired fun (p : κ × V) (q : κ × Value) => p.1 = q.1 ∧ RelV p.2 q.2

/-- a key of a dict (00_mix): an int or a text -/
def kV : Key → V
  | .inl i => .int i
  | .inr x => .str x

/-- what stands at a tracked address -/
inductive HO where
  /-- a list -/
  | lst (xs : List V)
  /-- a tuple (never changes) -/
  | tup (xs : List V)
  /-- a dict whose keys are ints and texts; one whose keys are tuples of ints and texts (the empty one is both) -/
  | dK (kvs : List (Key × V)) | dT (kvs : List (List Key × V))
  /-- a set of ints: its members, its size -/
  | set (S : Int → Bool) (n : Nat)
  /-- an instance of the class at C, its dict at dx, its attributes -/
  | ins (C dx : Addr) (fs : List (Str × V))
  /-- the dict of the instance at x -/
  | own (x : Addr)
  /-- the dict of an exception -/
  | xd (fs : List (Str × V))
  /-- a bound method, f of x -/
  | met (f x : Addr)
  /-- a range object lo, lo + 1, .. below hi -/
  | rng (lo hi : Int)
  /-- a thing that is known to the object (the script; a dict while a loop walks it): read, never written while it is so -/
  | frz (o : Obj) (u : HO)
  /-- a code object's table -/
  | tbl (ps : Array Value)
  /-- any other thing, by what is true of its one object (a def of one's own: SetO a S n := HO.ext fun h => ..) -/
  | ext (φ : Heap → Prop)

abbrev Hp := Addr → Option HO
def upd (H : Hp) (a : Addr) (o : HO) : Hp := fun b => if b = a then some o else H b
theorem upd_same {H : Hp} {a : Addr} {o : HO} : upd H a o a = some o := by unfold upd; rw [if_pos rfl]
theorem upd_ne {H : Hp} {a b : Addr} {o : HO} (h : b ≠ a) : upd H a o b = H b := by unfold upd; rw [if_neg h]
/-- two objects of different content stand apart -/
theorem ne_of {H : Hp} {a b : Addr} {o u : HO} (h : H a = some o) (h' : H b = some u) (d : o ≠ u) : a ≠ b := by
  intro e; subst e; rw [h] at h'; exact d (Option.some.inj h')
theorem ne_of_none {H : Hp} {a b : Addr} {o : HO} (h : H a = some o) (h' : H b = none) : a ≠ b := by
  intro e; subst e; rw [h] at h'; cases h'

section
variable (P : Program) (w : World)
def ObjOk (H : Hp) (h : Heap) (a : Addr) : HO → Prop
  | .lst xs => xs.length ≤ sizeLine ∧ ∃ (its : List Value) (n : Nat), Vals xs its ∧ h.get? a = some { cls := .type "list", data := .seq its.toArray n }
  | .tup xs => xs.length ≤ sizeLine ∧ ∃ its : List Value, Vals xs its ∧ IsTup h a its.toArray
  | .dK kvs => kvs.length ≤ sizeLine ∧ (a == sysModules) = false ∧ ∃ vs, KV kvs vs ∧ h.DictOf (mixKind P w) a vs
  | .dT kvs => kvs.length ≤ sizeLine ∧ (a == sysModules) = false ∧ ∃ xs : List (List Key × Addr × Value),
      Paired (fun (p : List Key × V) (q : List Key × Addr × Value) => p.1 = q.1 ∧ H q.2.1 = some (.tup (p.1.map kV)) ∧ RelV p.2 q.2.2) kvs xs ∧
      ∃ o es ep, h.get? a = some o ∧ o.ExactDict ∧ o.data = .dict es ep ∧ es.toList = xs.map (entryOfKey (tupleKind (mixKind P w))) ∧ (xs.map (·.1)).Nodup
  | .set S n => h.SetOf (intKind P w) a S n
  | .ins C dx fs => H dx = some (.own a) ∧ fs.length ≤ 1000 ∧ dx ≠ a ∧ h.get? a = some (PySem.W.instObj C dx) ∧
      ∃ mA, h.Ns1 dx mA ∧ (∀ f, RelO (fs.lookup f) (mA f)) ∧ PySem.Within mA (fs.map (·.1))
  | .own _ => ∃ o, h.get? a = some o
  | .xd fs => ∃ mA, h.Ns1 a mA ∧ ∀ f, RelO (fs.lookup f) (mA f)
  | .rng lo hi => ∃ t u v, h.get? a = some { cls := .type "range", data := .fields #[.int lo t, .int hi u, .int 1 v] }
  | .frz o u => h.get? a = some o ∧ ObjOk H h a u
  | .tbl ps => h.get? a = some { cls := .none, data := .fields ps }
  | .met f x => h.get? a = some (PySem.W.methodObj (.ref f) (.ref x))
  | .ext φ => φ h ∧ (∃ o, h.get? a = some o) ∧ ∀ h1 h2 : Heap, φ h1 → (∀ o, h1.get? a = some o → h2.get? a = some o) → φ h2
/-- the abstract heap is held -/
def HOk (H : Hp) (h : Heap) : Prop := ∀ a o, H a = some o → ObjOk P w H h a o
end

section
variable {P : Program} {w : World} {H H' : Hp} {h h' : Heap} {a : Addr} {o : HO}
theorem ObjOk.lt (x : ObjOk P w H h a o) : a < h.objs.size := by
  cases o with
  | lst xs => obtain ⟨_, _, _, _, e⟩ := x; exact Heap.lt_size e
  | tup xs => obtain ⟨_, _, _, p⟩ := x; exact p.lt
  | dK kvs => obtain ⟨_, _, _, _, o, _, _, e, _⟩ := x; exact Heap.lt_size e
  | dT kvs => obtain ⟨_, _, _, _, o, _, _, e, _⟩ := x; exact Heap.lt_size e
  | set S n => obtain ⟨o, _, _, _, e, _⟩ := x; exact Heap.lt_size e
  | ins C dx fs => obtain ⟨_, _, _, e, _⟩ := x; exact Heap.lt_size e
  | own y => obtain ⟨_, e⟩ := x; exact Heap.lt_size e
  | xd fs => obtain ⟨_, ⟨_, _, _, e, _⟩, _⟩ := x; exact Heap.lt_size e
  | rng lo hi => obtain ⟨_, _, _, e⟩ := x; exact Heap.lt_size e
  | frz ob u => obtain ⟨e, _⟩ := x; exact Heap.lt_size e
  | tbl ps => exact Heap.lt_size (show h.get? a = some _ from x)
  | met f y => exact Heap.lt_size (show h.get? a = some _ from x)
  | ext φ => obtain ⟨_, ⟨_, e⟩, _⟩ := x; exact Heap.lt_size e
theorem Paired.mapP {α β : Type} {F G : α → β → Prop} : ∀ {l₁ : List α} {l₂ : List β}, Paired F l₁ l₂ → (∀ a b, F a b → G a b) → Paired G l₁ l₂
  | _, _, .nil, _ => .nil
  | _, _, .cons r t, f => .cons (f _ _ r) (Paired.mapP t f)
/-- what an object's description leans on: its own object, its own dict, the tuples -/
theorem ObjOk.stay (x : ObjOk P w H h a o) (k : ∀ b u, (b = a ∨ H b = some (.own a)) → h.get? b = some u → h'.get? b = some u)
    (ho : ∀ b, H b = some (.own a) → H' b = some (.own a)) (ht : ∀ b xs, H b = some (.tup xs) → H' b = some (.tup xs)) : ObjOk P w H' h' a o := by
  induction o with
  | lst xs => obtain ⟨z, its, n, r, e⟩ := x; exact ⟨z, its, n, r, k _ _ (.inl rfl) e⟩
  | tup xs => obtain ⟨z, its, r, ob, e, c⟩ := x; exact ⟨z, its, r, ob, k _ _ (.inl rfl) e, c⟩
  | dK kvs => obtain ⟨z, y, vs, r, ob, es, ep, e, c⟩ := x; exact ⟨z, y, vs, r, ob, es, ep, k _ _ (.inl rfl) e, c⟩
  | dT kvs =>
    obtain ⟨z, y, xs, r, ob, es, ep, e, c⟩ := x
    exact ⟨z, y, xs, Paired.mapP r fun p q z => ⟨z.1, ht _ _ z.2.1, z.2.2⟩, ob, es, ep, k _ _ (.inl rfl) e, c⟩
  | set S n => obtain ⟨ob, es, ep, t, e, c⟩ := x; exact ⟨ob, es, ep, t, k _ _ (.inl rfl) e, c⟩
  | ins C dx fs =>
    obtain ⟨d, z, ne, e, mA, ⟨od, es, ep, e2, c⟩, r⟩ := x
    exact ⟨ho _ d, z, ne, k _ _ (.inl rfl) e, mA, ⟨od, es, ep, k _ _ (.inr d) e2, c⟩, r⟩
  | own y => obtain ⟨ob, e⟩ := x; exact ⟨ob, k _ _ (.inl rfl) e⟩
  | xd fs => obtain ⟨mA, ⟨od, es, ep, e, c⟩, r⟩ := x; exact ⟨mA, ⟨od, es, ep, k _ _ (.inl rfl) e, c⟩, r⟩
  | rng lo hi => obtain ⟨t, u, v, e⟩ := x; exact ⟨t, u, v, k _ _ (.inl rfl) e⟩
  | frz ob u ih => obtain ⟨e, q⟩ := x; exact ⟨k _ _ (.inl rfl) e, ih q⟩
  | tbl ps =>
    have e : h.get? a = some { cls := .none, data := .fields ps } := x
    show h'.get? a = some { cls := .none, data := .fields ps }
    exact k a _ (.inl rfl) e
  | met f y =>
    have e : h.get? a = some (PySem.W.methodObj (.ref f) (.ref y)) := x
    show h'.get? a = some (PySem.W.methodObj (.ref f) (.ref y))
    exact k a _ (.inl rfl) e
  | ext φ => obtain ⟨p, ⟨o, e⟩, st⟩ := x; exact ⟨st _ _ p fun o q => k _ _ (.inl rfl) q, ⟨o, k _ _ (.inl rfl) e⟩, st⟩
theorem HOk.lt (x : HOk P w H h) (e : H a = some o) : a < h.objs.size := (x a o e).lt
theorem HOk.fresh (x : HOk P w H h) (e : h.objs.size ≤ a) : H a = none := by
  cases q : H a with
  | none => rfl
  | some u => exact absurd (Nat.lt_of_lt_of_le (x.lt q) e) (Nat.lt_irrefl _)
/-- every object of the heap is kept -/
theorem HOk.kept (x : HOk P w H h) (k : ∀ b u, h.get? b = some u → h'.get? b = some u) : HOk P w H h' := fun a o e =>
  (x a o e).stay (fun b u _ q => k b u q) (fun _ q => q) fun _ _ q => q
/-- a new object is laid and tracked -/
theorem HOk.laid (x : HOk P w H h) (k : ∀ b u, h.get? b = some u → h'.get? b = some u) (hp : h.objs.size ≤ a) (new : ObjOk P w (upd H a o) h' a o) : HOk P w (upd H a o) h' := fun b u e => by
  have hn := x.fresh hp
  by_cases hb : b = a
  · subst hb; rw [upd_same] at e; cases e; exact new
  · rw [upd_ne hb] at e
    exact (x b u e).stay (fun c v _ q => k c v q) (fun c q => by rw [upd_ne (ne_of_none q hn)]; exact q) fun c xs q => by rw [upd_ne (ne_of_none q hn)]; exact q
end

/-- what may be read as u: it is u, or a known u -/
def Rd (H : Hp) (a : Addr) (u : HO) : Prop := H a = some u ∨ ∃ o, H a = some (.frz o u)
theorem Rd.of {H : Hp} {a : Addr} {u : HO} (h : H a = some u) : Rd H a u := .inl h
theorem Rd.ok {P : Program} {w : World} {H : Hp} {h : Heap} {a : Addr} {u : HO} (r : Rd H a u) (x : HOk P w H h) : ObjOk P w H h a u := by
  rcases r with r | ⟨o, r⟩
  · exact x a u r
  · obtain ⟨_, q⟩ := x a _ r
    exact q
/-- what may be written -/
def Mut : Option HO → Prop
  | some (.lst _) => True
  | some (.dK _) => True
  | some (.dT _) => True
  | some (.set _ _) => True
  | some (.ins _ _ _) => True
  | some (.ext _) => True
  | _ => False
section
variable {P : Program} {w : World} {H : Hp} {h h' : Heap} {x e : Addr} {o' : HO}
/-- the object at e is changed: x itself, or the dict of the instance x -/
theorem HOk.write (ok : HOk P w H h) (mu : Mut (H x)) (he : e = x ∨ H e = some (.own x)) (k : ∀ b u, b ≠ e → h.get? b = some u → h'.get? b = some u) (heo : ∃ u, h'.get? e = some u)
    (new : ObjOk P w (upd H x o') h' x o') : HOk P w (upd H x o') h' := fun b u q => by
  have nown : ∀ c y, H c = some (.own y) → c ≠ x := fun c y r z => by subst z; rw [r] at mu; exact mu
  have ntup : ∀ c xs, H c = some (.tup xs) → c ≠ x := fun c xs r z => by subst z; rw [r] at mu; exact mu
  by_cases hb : b = x
  · subst hb; rw [upd_same] at q; cases q; exact new
  · rw [upd_ne hb] at q
    by_cases hbe : b = e
    · have q' : H b = some (.own x) := by
        rcases he with z | z
        · exact absurd (hbe.trans z) hb
        · rw [hbe]; exact z
      rw [q] at q'; cases q'
      obtain ⟨v, hv⟩ := heo
      exact ⟨v, by rw [hbe]; exact hv⟩
    · refine (ok b u q).stay (fun c v hc r => k c v ?_ r) (fun c r => by rw [upd_ne (nown c b r)]; exact r) fun c xs r => by rw [upd_ne (ntup c xs r)]; exact r
      rcases hc with rfl | hc
      · exact hbe
      · rintro rfl
        rcases he with z | z
        · exact nown c b hc z
        · rw [hc] at z; cases z; exact hb rfl
end

/-! ### kept unless tracked; of the frames at fs (the callers') the slots may change (an exception that passes writes there); of the records at ex (iterators) nothing is said -/
structure Un (fs ex : List Addr) (H H' : Hp) (h h' : Heap) : Prop where
  keep : ∀ b o, h.get? b = some o → H b = none → b ∉ fs → b ∉ ex → h'.get? b = some o
  slot : ∀ b o, h.get? b = some o → H b = none → b ∈ fs → b ∉ ex → ∃ sl, h'.get? b = some { o with slots := sl }
  free : ∀ b o, h.get? b = some o → H b = none → b ∉ ex → H' b = none
  there : ∀ b o, h.get? b = some o → b ∉ ex → ∃ o', h'.get? b = some o'
  tups : ∀ b xs, H b = some (.tup xs) → H' b = some (.tup xs)
  frzs : ∀ b o u, H b = some (.frz o u) → H' b = some (.frz o u)
  tbls : ∀ b ps, H b = some (.tbl ps) → ∃ more, H' b = some (.tbl (ps ++ more))
section
variable {fs fs' ex ex' : List Addr} {H H1 H2 : Hp} {h h1 h2 h' : Heap} {a x e : Addr} {o : HO}
theorem Un.any (u : Un fs ex H H1 h h1) {b : Addr} {ob : Obj} (q : h.get? b = some ob) (n : H b = none) (hx : b ∉ ex) : ∃ sl, h1.get? b = some { ob with slots := sl } := by
  by_cases hb : b ∈ fs
  · exact u.slot b ob q n hb hx
  · exact ⟨ob.slots, u.keep b ob q n hb hx⟩
theorem Un.trans (a : Un fs ex H H1 h h1) (b : Un fs ex H1 H2 h1 h2) : Un fs ex H H2 h h2 where
  keep := fun c ob q n hc hx => b.keep c ob (a.keep c ob q n hc hx) (a.free c ob q n hx) hc hx
  slot := fun c ob q n hc hx => by
    obtain ⟨sl, e1⟩ := a.slot c ob q n hc hx
    obtain ⟨sl', e2⟩ := b.slot c _ e1 (a.free c ob q n hx) hc hx
    exact ⟨sl', e2⟩
  free := fun c ob q n hx => by
    obtain ⟨o', e1⟩ := a.there c ob q hx
    exact b.free c o' e1 (a.free c ob q n hx) hx
  there := fun c ob q hx => by
    obtain ⟨o', e1⟩ := a.there c ob q hx
    exact b.there c o' e1 hx
  tups := fun c xs q => b.tups c xs (a.tups c xs q)
  frzs := fun c ob xs q => b.frzs c ob xs (a.frzs c ob xs q)
  tbls := fun c ps q => by
    obtain ⟨m1, e1⟩ := a.tbls c ps q
    obtain ⟨m2, e2⟩ := b.tbls c _ e1
    exact ⟨m1 ++ m2, by rw [e2, Array.append_assoc]⟩
theorem Un.kept (k : ∀ b u, h.get? b = some u → h'.get? b = some u) : Un fs ex H H h h' :=
  ⟨fun b ob q _ _ _ => k b ob q, fun b ob q _ _ _ => ⟨ob.slots, k b ob q⟩, fun _ _ _ n _ => n, fun b ob q _ => ⟨ob, k b ob q⟩, fun _ _ q => q, fun _ _ _ q => q, fun _ ps q => ⟨#[], by rw [q]; simp⟩⟩
theorem Un.refl : Un fs ex H H h h := Un.kept fun _ _ q => q
theorem Un.laid (k : ∀ b u, h.get? b = some u → h'.get? b = some u) (hp : h.objs.size ≤ a) (hn : H a = none) : Un fs ex H (upd H a o) h h' where
  keep := fun b u q _ _ _ => k b u q
  slot := fun b u q _ _ _ => ⟨u.slots, k b u q⟩
  free := fun b u q n _ => by rw [upd_ne (Nat.ne_of_lt (Nat.lt_of_lt_of_le (Heap.lt_size q) hp))]; exact n
  there := fun b u q _ => ⟨u, k b u q⟩
  tups := fun b xs q => by rw [upd_ne (ne_of_none q hn)]; exact q
  frzs := fun b u xs q => by rw [upd_ne (ne_of_none q hn)]; exact q
  tbls := fun b ps q => ⟨#[], by rw [upd_ne (ne_of_none q hn), q]; simp⟩
theorem Un.write (mu : Mut (H x)) (he : e = x ∨ H e = some (.own x)) (k : ∀ b u, b ≠ e → h.get? b = some u → h'.get? b = some u) (heo : ∃ u, h'.get? e = some u) : Un fs ex H (upd H x o) h h' := by
  have hx : ∀ b, H b = none → b ≠ x := fun b n z => by subst z; rw [n] at mu; exact mu
  have hb : ∀ b, H b = none → b ≠ e := fun b n z => by
    subst z
    rcases he with r | r
    · exact hx b n r
    · rw [n] at r; cases r
  have hm : ∀ b u, H b = some u → ¬ Mut (some u) → b ≠ x := fun b u q nm z => by subst z; rw [q] at mu; exact nm mu
  refine ⟨fun b u q n _ _ => k b u (hb b n) q, fun b u q n _ _ => ⟨u.slots, k b u (hb b n) q⟩, fun b u q n _ => by rw [upd_ne (hx b n)]; exact n, fun b u q _ => ?_,
    fun b xs q => by rw [upd_ne (hm b _ q fun z => z)]; exact q, fun b u xs q => by rw [upd_ne (hm b _ q fun z => z)]; exact q, fun b ps q => ⟨#[], by rw [upd_ne (hm b _ q fun z => z), q]; simp⟩⟩
  by_cases hbe : b = e
  · subst hbe; exact heo
  · exact ⟨u, k b u hbe q⟩
theorem Un.mono (u : Un fs ex H H1 h h1) (hs : ∀ b ∈ fs, b ∈ fs') (hx : ∀ b ∈ ex, b ∈ ex') : Un fs' ex' H H1 h h1 :=
  ⟨fun b ob q n hb he => u.keep b ob q n (fun z => hb (hs b z)) fun z => he (hx b z), fun _ _ q n _ he => u.any q n fun z => he (hx _ z), fun b ob q n he => u.free b ob q n fun z => he (hx b z), fun b ob q he => u.there b ob q fun z => he (hx b z), u.tups, u.frzs, u.tbls⟩
end

/-! ### the heap without what is tracked -/
def trk (h : Heap) (H : Hp) : List Addr := (List.range h.objs.size).filter fun a => (H a).isSome
def hidT (h : Heap) (H : Hp) : Heap := PySem.W.hideAll h (trk h H)
theorem hidT_size (h : Heap) (H : Hp) : (hidT h H).objs.size = h.objs.size := PySem.W.hideAll_size _ _
theorem hidT_get {h : Heap} {H : Hp} {b : Addr} {o : Obj} (e : h.get? b = some o) (n : H b = none) : (hidT h H).get? b = some o :=
  PySem.W.hideAll_get _ e fun hm => by
    have q : (H b).isSome = true := (List.mem_filter.mp hm).2
    rw [n] at q; simp at q
theorem of_hidT {h : Heap} {H : Hp} {b : Addr} {o : Obj} (e : (hidT h H).get? b = some o) : h.get? b = some o ∧ H b = none := by
  have e' : h.get? b = some o := PySem.W.of_hideAll (trk h H) e
  refine ⟨e', ?_⟩
  cases q : H b with
  | none => rfl
  | some x =>
    have hm : b ∈ trk h H := List.mem_filter.mpr ⟨List.mem_range.mpr (Heap.lt_size e'), by simp [q]⟩
    have z : (hidT h H).get? b = none := PySem.W.hideAll_none (trk h H) hm
    rw [z] at e; cases e

/-! ### OpenK's ledger, filled with every new object but one -/
def allNews (g h : Heap) (L : Addr) : List (Addr × Obj) := (List.range h.objs.size).filterMap fun a => if a = L ∨ (g.get? a).isSome = true then none else (h.get? a).map fun o => (a, o)
def rest (g h : Heap) (L d : Addr) : List (Addr × Obj) := (allNews g h L).filter fun p => decide (p.1 ≠ d)
end L2

namespace L2
open PySem PySem.Spec PyProof.Rows

/-- the module's facts, over the base: the heap at the law's entry without what is tracked there -/
structure Mod (K : PySem.W.Frag) (mg : Str → Option Value) (base : Heap) : Prop where
  kin : K.In base
  glob : base.Ns mainGlobals mg
  blt : ∃ mb, base.Ns builtinsNs mb ∧ ∀ x : Str, x ≠ "__name__" → mb x = bootBuiltins x
  nolimit : base.NoLimit

/-- the context: a def's body (or a comprehension's block) running. base: fixed through the whole law; s₀, H₀: the entry; outer: the frames whose slots others may change (a def's callers); stack: all frames that run;
   ex: iterators that were made ahead of the entry and are walked here (a comprehension's); fn: the names whose cells were made at the entry (a def: all; a comprehension's block: its own); calm: not within an except suite; pn: pins that every state bears; xe: what is wanted of an exception that leaves the code -/
structure Cx where
  prog : Program
  w : World
  K : PySem.W.Frag
  mg : Str → Option Value
  base : Heap
  A : Around
  N : List Str
  s₀ : Shared
  H₀ : Hp
  env : Env
  outer : List Env
  stack : List Env
  ex : List Addr
  fn : Str → Bool
  calm : Bool
  pn : List (Addr × Obj)
  xe : Value → Shared → Prop
/-- the callers' frames -/
def frs (l : List Env) : List Addr := l.filterMap (·.frame)
abbrev Cx.fs (X : Cx) : List Addr := frs X.outer

def Vis (sc : Scope) (x : Str) : Prop := sc.names.lookup x = some .local ∨ sc.names.lookup x = some .cell ∨ sc.names.lookup x = some .free
def Loc (sc : Scope) (x : Str) : Prop := sc.names.lookup x = some .local ∨ sc.names.lookup x = some .cell
def Look (env : Env) (h : Heap) (m : Str → Option Value) (x : Str) (u : Value) : Prop :=
  (env.kindOf x = some .local ∧ m x = some u) ∨ ((env.kindOf x = some .cell ∨ env.kindOf x = some .free) ∧ ∃ c, env.cells.lookup x = some c ∧ h.IsCell c (some u))

structure Cx.Ok (X : Cx) : Prop where
  mod : Mod X.K X.mg X.base
  kind : X.env.scope.kind = .function
  glob : X.env.globals = mainGlobals
  blt : X.env.builtins = builtinsNs
  above : X.s₀.heap.objs.size ≤ X.env.locals
  inj : ∀ x y c, X.env.cells.lookup x = some c → X.env.cells.lookup y = some c → x = y
  has : ∀ x, (X.env.kindOf x = some .cell ∨ X.env.kindOf x = some .free) → ∃ c, X.env.cells.lookup x = some c
  cab : ∀ x c, X.fn x = true → X.env.cells.lookup x = some c → X.s₀.heap.objs.size ≤ c
  hd : X.calm = true → X.A.handled = none
  frames : X.A.frames = some X.stack
  stk : X.stack = X.outer ∨ (X.stack = X.env :: X.outer ∧ X.env.frame = some X.env.locals)
  exf : ∀ b ∈ X.ex, b ≠ X.env.locals ∧ ∀ x c, X.env.cells.lookup x = some c → c ≠ b
  bs : ∀ b o, X.base.get? b = some o → X.s₀.heap.get? b = some o ∧ X.H₀ b = none
  bsz : X.base.objs.size ≤ X.s₀.heap.objs.size
  noex : ∀ b o, X.base.get? b = some o → b ∉ X.ex
  exfs : ∀ b ∈ X.ex, b ∉ X.fs
  funs : X.s₀.heap.FunFrames X.base X.outer
  frf : ∀ b ∈ X.fs, X.H₀ b = none

structure Inv (X : Cx) (pins : List (Addr × Obj)) (σ : List (Option V)) (H : Hp) (s : Shared) : Prop where
  ok : X.Ok
  os : s.os = X.s₀.os
  bare : AllBare s.gens
  base : Un X.fs X.ex X.H₀ H X.s₀.heap s.heap
  loc : ∃ m, s.heap.Ns X.env.locals m ∧ ∀ (i : Nat) (x : Str) (v : V), X.N[i]? = some x → σ[i]? = some (some v) → Vis X.env.scope x → ∃ u, RelV v u ∧ Look X.env s.heap m x u
  cell : ∀ x c, X.env.cells.lookup x = some c → ∃ v, s.heap.IsCell c v
  free : H X.env.locals = none
  freeC : ∀ x c, X.env.cells.lookup x = some c → H c = none
  pin : ∀ p ∈ X.pn ++ pins, s.heap.get? p.1 = some p.2 ∧ H p.1 = none ∧ p.1 ≠ X.env.locals ∧ p.1 ∉ X.fs ∧ ∀ v, p.2.data ≠ .cell v
  hok : HOk X.prog X.w H s.heap
  len : σ.length = X.N.length

section
variable {X : Cx} {pins : List (Addr × Obj)} {σ : List (Option V)} {H H' : Hp} {s : Shared} {h' : Heap}

theorem Cx.Ok.nofr (ok : X.Ok) {b : Addr} {o : Obj} (e : X.base.get? b = some o) : b ∉ X.fs := fun hb => by
  have := (ok.funs.mem hb).1
  rw [e] at this; cases this
theorem Inv.bs (I : Inv X pins σ H s) : ∀ b o, X.base.get? b = some o → s.heap.get? b = some o ∧ H b = none := fun b o e =>
  ⟨I.base.keep b o (I.ok.bs b o e).1 (I.ok.bs b o e).2 (I.ok.nofr e) (I.ok.noex b o e), I.base.free b o (I.ok.bs b o e).1 (I.ok.bs b o e).2 (I.ok.noex b o e)⟩
theorem Inv.bk (I : Inv X pins σ H s) : ∀ b o, X.base.get? b = some o → s.heap.get? b = some o := fun b o e => (I.bs b o e).1
theorem Inv.mod (I : Inv X pins σ H s) : Mod X.K X.mg X.base := I.ok.mod
theorem Inv.kIn (I : Inv X pins σ H s) : X.K.In s.heap := I.ok.mod.kin.keeps I.bk
theorem Inv.nolimit (I : Inv X pins σ H s) : s.heap.NoLimit := I.ok.mod.nolimit.keeps I.bk
/-- the frame over the base: for OpenK's rules (K.In X.base is I.mod.kin) -/
theorem Inv.fr (I : Inv X pins σ H s) : ∃ m, Fr X.base X.env.locals s.heap m :=
  let ⟨m, hn, _⟩ := I.loc
  ⟨m, hn, I.bk, Nat.le_trans I.ok.bsz I.ok.above⟩
theorem Inv.lt (I : Inv X pins σ H s) : X.env.locals < s.heap.objs.size := let ⟨_, hn, _⟩ := I.loc; hn.lt
theorem Inv.sz (I : Inv X pins σ H s) : X.s₀.heap.objs.size ≤ s.heap.objs.size := Nat.le_trans I.ok.above (Nat.le_of_lt I.lt)
theorem Inv.nofs (I : Inv X pins σ H s) {a : Addr} (h : s.heap.objs.size ≤ a) : a ∉ X.fs := fun hb => by
  obtain ⟨_, o, ho, _⟩ := I.ok.funs.mem hb
  exact absurd (Nat.lt_of_lt_of_le (Heap.lt_size ho) (Nat.le_trans I.sz h)) (Nat.lt_irrefl _)
theorem Inv.cne (I : Inv X pins σ H s) : ∀ x c, X.env.cells.lookup x = some c → c ≠ X.env.locals := fun x c e z => by
  obtain ⟨v, o, ho, hd⟩ := I.cell x c e
  obtain ⟨m, ⟨o', es, ep, ho', hd', _⟩, _⟩ := I.loc
  rw [z, ho'] at ho; cases ho; rw [hd'] at hd; cases hd
theorem Inv.funs (I : Inv X pins σ H s) : s.heap.FunFrames X.base X.outer := by
  have all : ∀ (l : List Env), (∀ b ∈ frs l, b ∈ X.fs) → X.s₀.heap.FunFrames X.base l → s.heap.FunFrames X.base l := by
    intro l
    induction l with
    | nil => intro _ _; trivial
    | cons env r ih =>
      intro hs hl
      obtain ⟨hk, ⟨L, o, hf, hn, ho, hd⟩, hr⟩ := hl
      have hL : L ∈ X.fs := hs L (by unfold frs; rw [List.filterMap_cons, hf]; exact List.mem_cons_self)
      obtain ⟨sl, e⟩ := I.base.slot L o ho (I.ok.frf L hL) hL fun z => I.ok.exfs L z hL
      exact ⟨hk, ⟨L, _, hf, hn, e, hd⟩, ih (fun b hb => hs b (by unfold frs; rw [List.filterMap_cons, hf]; exact List.mem_cons_of_mem _ hb)) hr⟩
  exact all X.outer (fun _ hb => hb) I.ok.funs

/-- the frames that run, for a call -/
theorem Inv.stack (I : Inv X pins σ H s) : s.heap.FunFrames X.base X.stack := by
  rcases I.ok.stk with e | ⟨e, hf⟩
  · rw [e]; exact I.funs
  · rw [e]
    obtain ⟨m, hn, _⟩ := I.loc
    refine .cons (by rw [I.ok.kind]; decide) hf hn ?_ I.funs
    exact Heap.get?_none_of_le (Nat.le_trans I.ok.bsz I.ok.above)
theorem Inv.stkSub (I : Inv X pins σ H s) : ∀ b ∈ frs X.stack, b ∈ X.env.locals :: X.fs := fun b hb => by
  rcases I.ok.stk with e | ⟨e, hf⟩
  · rw [e] at hb; exact List.mem_cons_of_mem _ hb
  · rw [e] at hb
    unfold frs at hb
    rw [List.filterMap_cons, hf] at hb
    exact hb
theorem Inv.stkFree (I : Inv X pins σ H s) : ∀ b ∈ frs X.stack, H b = none := fun b hb => by
  rcases List.mem_cons.mp (I.stkSub b hb) with e | hb
  · rw [e]; exact I.free
  · obtain ⟨_, o, ho, _⟩ := I.ok.funs.mem hb
    exact I.base.free b o ho (I.ok.frf b hb) fun z => I.ok.exfs b z hb

/-- THE STEP: the untracked objects but the frame and the records at ch are kept (the callers' frames up to slots), the frame's map is kept, the new abstract heap is held -/
theorem Inv.step {g' : Array GenState} {t' : Nat} {d' : Drawn} {ch : List Addr} (I : Inv X pins σ H s)
    (hch : ∀ b ∈ ch, (b ∈ X.ex ∨ X.s₀.heap.objs.size ≤ b) ∧ b ≠ X.env.locals ∧ (∀ x c, X.env.cells.lookup x = some c → c ≠ b) ∧ ∀ p ∈ X.pn ++ pins, p.1 ≠ b)
    (keep : ∀ b o, b ≠ X.env.locals → b ∉ X.fs → b ∉ ch → s.heap.get? b = some o → H b = none → h'.get? b = some o)
    (slot : ∀ b o, b ≠ X.env.locals → b ∈ X.fs → b ∉ ch → s.heap.get? b = some o → H b = none → ∃ sl, h'.get? b = some { o with slots := sl }) (free : ∀ b o, b ∉ ch → s.heap.get? b = some o → H b = none → H' b = none)
    (there : ∀ b o, b ∉ ch → s.heap.get? b = some o → ∃ o', h'.get? b = some o')
    (tups : ∀ b xs, H b = some (.tup xs) → H' b = some (.tup xs)) (frzs : ∀ b o u, H b = some (.frz o u) → H' b = some (.frz o u)) (tbls : ∀ b ps, H b = some (.tbl ps) → ∃ more, H' b = some (.tbl (ps ++ more)))
    (ns : ∀ m, s.heap.Ns X.env.locals m → h'.Ns X.env.locals m) (hok : HOk X.prog X.w H' h') (hg : AllBare g') :
    Inv X pins σ H' { s with heap := h', gens := g', drawn := d', toks := t' } := by
  have neL : ∀ b o, X.s₀.heap.get? b = some o → b ≠ X.env.locals := fun b o e => Nat.ne_of_lt (Nat.lt_of_lt_of_le (Heap.lt_size e) I.ok.above)
  have neC : ∀ b o, X.s₀.heap.get? b = some o → b ∉ X.ex → b ∉ ch := fun b o e hx hb => by
    rcases (hch b hb).1 with z | z
    · exact hx z
    · exact absurd (Nat.lt_of_lt_of_le (Heap.lt_size e) z) (Nat.lt_irrefl _)
  have cellK : ∀ x c, X.env.cells.lookup x = some c → ∀ v, s.heap.IsCell c v → h'.IsCell c v := fun x c e v ⟨o, ho, hd⟩ => by
    have nch : c ∉ ch := fun z => (hch c z).2.2.1 x c e rfl
    by_cases hc : c ∈ X.fs
    · obtain ⟨sl, q⟩ := slot c o (I.cne x c e) hc nch ho (I.freeC x c e)
      exact ⟨_, q, hd⟩
    · exact ⟨o, keep c o (I.cne x c e) hc nch ho (I.freeC x c e), hd⟩
  refine ⟨I.ok, I.os, hg, ⟨fun b o e n hb hx => ?_, fun b o e n hb hx => ?_, fun b o e n hx => ?_, fun b o e hx => ?_, fun b xs e => tups b xs (I.base.tups b xs e), fun b o xs e => frzs b o xs (I.base.frzs b o xs e), fun b ps e => ?_⟩, ?_, fun x c e => ?_, ?_, fun x c e => ?_, fun p hp => ?_, hok, I.len⟩
  · exact keep b o (neL b o e) hb (neC b o e hx) (I.base.keep b o e n hb hx) (I.base.free b o e n hx)
  · obtain ⟨sl, e1⟩ := I.base.slot b o e n hb hx
    obtain ⟨sl', e2⟩ := slot b _ (neL b o e) hb (neC b o e hx) e1 (I.base.free b o e n hx)
    exact ⟨sl', e2⟩
  · obtain ⟨o', e1⟩ := I.base.there b o e hx
    exact free b o' (neC b o e hx) e1 (I.base.free b o e n hx)
  · obtain ⟨o', e1⟩ := I.base.there b o e hx
    exact there b o' (neC b o e hx) e1
  · obtain ⟨m1, e1⟩ := I.base.tbls b ps e
    obtain ⟨m2, e2⟩ := tbls b _ e1
    exact ⟨m1 ++ m2, by rw [e2, Array.append_assoc]⟩
  · obtain ⟨m, hn, hl⟩ := I.loc
    refine ⟨m, ns m hn, fun i x v e1 e2 e3 => ?_⟩
    obtain ⟨u, r, l⟩ := hl i x v e1 e2 e3
    refine ⟨u, r, ?_⟩
    rcases l with l | ⟨k, c, e, z⟩
    · exact .inl l
    · exact .inr ⟨k, c, e, cellK x c e _ z⟩
  · obtain ⟨v, z⟩ := I.cell x c e
    exact ⟨v, cellK x c e v z⟩
  · obtain ⟨m, ⟨o, _, _, ho, _⟩, _⟩ := I.loc
    exact free _ o (fun z => (hch _ z).2.1 rfl) ho I.free
  · obtain ⟨v, o, ho, hd⟩ := I.cell x c e
    exact free c o (fun z => (hch c z).2.2.1 x c e rfl) ho (I.freeC x c e)
  · obtain ⟨e, n, ne, nf, d⟩ := I.pin p hp
    have nch : p.1 ∉ ch := fun z => (hch p.1 z).2.2.2 p hp rfl
    exact ⟨keep p.1 p.2 ne nf nch e n, free p.1 p.2 nch e n, ne, nf, d⟩
/-- .. where the frame's own object is kept too -/
theorem Inv.un {t' : Nat} (I : Inv X pins σ H s) (u : Un X.fs [] H H' s.heap h') (hok : HOk X.prog X.w H' h') : Inv X pins σ H' { s with heap := h', toks := t' } := by
  obtain ⟨m, ⟨o, es, ep, ho, r⟩, _⟩ := id I.loc
  obtain ⟨sl, hL⟩ := u.any ho I.free (by simp)
  exact I.step (g' := s.gens) (d' := s.drawn) (ch := []) (fun _ z => nomatch z) (fun b o _ hb _ e n => u.keep b o e n hb (by simp)) (fun b o _ hb _ e n => u.slot b o e n hb (by simp)) (fun b o _ e n => u.free b o e n (by simp)) (fun b o _ e => u.there b o e (by simp)) u.tups u.frzs u.tbls (fun m' hm => by
    obtain ⟨o', es', ep', ho', r'⟩ := hm
    rw [ho] at ho'; cases ho'
    exact ⟨_, es', ep', hL, r'⟩) hok I.bare
/-- behind a call (or a comprehension's block): the slots of this frame may have changed too, the records at ch may have turned -/
theorem Inv.call {g' : Array GenState} {t' : Nat} {d' : Drawn} {ch : List Addr} (I : Inv X pins σ H s) (u : Un (frs X.stack) ch H H' s.heap h') (hok : HOk X.prog X.w H' h') (hg : AllBare g')
    (hch : ∀ b ∈ ch, (b ∈ X.ex ∨ X.s₀.heap.objs.size ≤ b) ∧ b ≠ X.env.locals ∧ (∀ x c, X.env.cells.lookup x = some c → c ≠ b) ∧ ∀ p ∈ X.pn ++ pins, p.1 ≠ b) :
    Inv X pins σ H' { s with heap := h', gens := g', drawn := d', toks := t' } := by
  obtain ⟨m, ⟨o, es, ep, ho, r⟩, _⟩ := id I.loc
  obtain ⟨sl, hL⟩ := u.any ho I.free fun z => (hch _ z).2.1 rfl
  exact I.step (ch := ch) hch (fun b o hL hb hc e n => u.keep b o e n (fun z => (List.mem_cons.mp (I.stkSub b z)).elim hL hb) hc) (fun b o _ _ hc e n => u.any e n hc) (fun b o hc e n => u.free b o e n hc) (fun b o hc e => u.there b o e hc) u.tups u.frzs u.tbls (fun m' hm => by
    obtain ⟨o', es', ep', ho', r'⟩ := hm
    rw [ho] at ho'; cases ho'
    exact ⟨_, es', ep', hL, r'⟩) hok hg
/-- an untracked record of ours (an iterator) has turned -/
theorem Inv.turned {t' : Nat} {it : Addr} (I : Inv X pins σ H s) (k : ∀ b o, b ≠ it → s.heap.get? b = some o → h'.get? b = some o) (hn : H it = none) (hL : it ≠ X.env.locals)
    (h1 : it ∈ X.ex ∨ X.s₀.heap.objs.size ≤ it) (h2 : ∀ x c, X.env.cells.lookup x = some c → c ≠ it) (h3 : ∀ p ∈ X.pn ++ pins, p.1 ≠ it) : Inv X pins σ H { s with heap := h', toks := t' } := by
  have nit : ∀ b u, H b = some u → b ≠ it := fun b u e z => by rw [z, hn] at e; cases e
  refine I.step (g' := s.gens) (d' := s.drawn) (ch := [it]) (fun b hb => ?_) (fun b o _ _ hc e _ => k b o (fun z => hc (by simp [z])) e) (fun b o _ _ hc e _ => ⟨o.slots, k b o (fun z => hc (by simp [z])) e⟩) (fun _ _ _ _ n => n)
    (fun b o hc e => ⟨o, k b o (fun z => hc (by simp [z])) e⟩) (fun _ _ e => e) (fun _ _ _ e => e) (fun b ps e => ⟨#[], by rw [e]; simp⟩) (fun m hm => ?_) (fun b u e => ?_) I.bare
  · have e : b = it := by simpa using hb
    subst e
    exact ⟨h1, hL, h2, h3⟩
  · obtain ⟨o, es, ep, ho, r⟩ := hm
    exact ⟨o, es, ep, k _ o (Ne.symm hL) ho, r⟩
  · refine (I.hok b u e).stay (fun c v hc q => k c v ?_ q) (fun _ q => q) fun _ _ q => q
    rcases hc with z | z
    · rw [z]; exact nit b u e
    · exact nit c _ z
theorem Inv.tok (I : Inv X pins σ H s) (t : Nat) : Inv X pins σ H { s with toks := t } := I.un (h' := s.heap) (t' := t) Un.refl I.hok
/-- all objects kept -/
theorem Inv.kept {t' : Nat} (I : Inv X pins σ H s) (k : ∀ b u, s.heap.get? b = some u → h'.get? b = some u) : Inv X pins σ H { s with heap := h', toks := t' } := I.un (Un.kept k) (I.hok.kept k)
/-- a new object laid and tracked -/
theorem Inv.laid {a : Addr} {o : HO} {t' : Nat} (I : Inv X pins σ H s) (k : ∀ b u, s.heap.get? b = some u → h'.get? b = some u) (hp : s.heap.objs.size ≤ a) (new : ObjOk X.prog X.w (upd H a o) h' a o) :
    Inv X pins σ (upd H a o) { s with heap := h', toks := t' } := I.un (Un.laid k hp (I.hok.fresh hp)) (I.hok.laid k hp new)
/-- an object written -/
theorem Inv.write {x e : Addr} {o : HO} {t' : Nat} (I : Inv X pins σ H s) (mu : Mut (H x)) (he : e = x ∨ H e = some (.own x)) (k : ∀ b u, b ≠ e → s.heap.get? b = some u → h'.get? b = some u) (heo : ∃ u, h'.get? e = some u)
    (new : ObjOk X.prog X.w (upd H x o) h' x o) : Inv X pins σ (upd H x o) { s with heap := h', toks := t' } := I.un (Un.write mu he k heo) (I.hok.write mu he k heo new)
/-- forgetting slots, pins -/
theorem Inv.weak {σ' : List (Option V)} (I : Inv X pins σ H s) (hl : σ'.length = σ.length) (w : ∀ (i : Nat) v, σ'[i]? = some (some v) → σ[i]? = some (some v)) : Inv X pins σ' H s :=
  ⟨I.ok, I.os, I.bare, I.base, let ⟨m, hn, hl'⟩ := I.loc; ⟨m, hn, fun i x v e1 e2 e3 => hl' i x v e1 (w i v e2) e3⟩, I.cell, I.free, I.freeC, I.pin, I.hok, hl.trans I.len⟩
theorem Inv.pins_of {pins' : List (Addr × Obj)} (I : Inv X pins σ H s) (h : ∀ p ∈ pins', s.heap.get? p.1 = some p.2 ∧ H p.1 = none ∧ p.1 ≠ X.env.locals ∧ p.1 ∉ X.fs ∧ ∀ v, p.2.data ≠ .cell v) : Inv X pins' σ H s :=
  ⟨I.ok, I.os, I.bare, I.base, I.loc, I.cell, I.free, I.freeC, fun p hp => (List.mem_append.mp hp).elim (fun z => I.pin p (List.mem_append_left _ z)) (h p), I.hok, I.len⟩

theorem nodup_ix {N : List Str} (hN : N.Nodup) {i j : Nat} {x : Str} (a : N[i]? = some x) (b : N[j]? = some x) : i = j := by
  obtain ⟨h1, e1⟩ := List.getElem?_eq_some_iff.mp a
  obtain ⟨h2, e2⟩ := List.getElem?_eq_some_iff.mp b
  exact (List.getElem_inj hN).mp (e1.trans e2.symm)

/-- a name is stored; what changed -/
theorem store_ok2 {M : Model} {A : Around} {E : Value → Shared → Prop} {i : Nat} {x : Str} {v : V} {u : Value} {Q : Unit → Shared → Prop} (I : Inv X pins σ H s) (hN : X.N.Nodup) (hi : X.N[i]? = some x) (hx : Loc X.env.scope x) (r : RelV v u)
    (h : ∀ s', Inv X pins (σ.set i (some v)) H s' → (∃ a, Heap.SameBut a s.heap s'.heap ∧ (a = X.env.locals ∨ X.env.cells.lookup x = some a)) → Q () s') (hf : X.fn x = true ∨ X.env.scope.names.lookup x = some .local := by first | exact .inl rfl | exact .inr rfl | assumption) : wpAny M A (storeName X.env x u) Q E s := by
  obtain ⟨m, hn, hl⟩ := id I.loc
  have hcls : (X.env.scope.kind == .class || (X.env.scope.kind == .module && X.env.locals != X.env.globals)) = false := by rw [I.ok.kind]; rfl
  have hiσ : i < σ.length := by rw [I.len]; exact (List.getElem?_eq_some_iff.mp hi).1
  have cne := I.cne
  have tracked : ∀ {a : Addr} {h' : Heap}, (∃ o, s.heap.get? a = some o ∧ H a = none) → Heap.SameBut a s.heap h' → HOk X.prog X.w H h' := fun {a h'} ha hs b ob e => by
    obtain ⟨_, _, hfree⟩ := ha
    refine (I.hok b ob e).stay (fun c w' hc q => (hs.2 c ?_).trans q) (fun _ q => q) fun _ _ q => q
    rintro rfl
    rcases hc with rfl | hc
    · rw [hfree] at e; cases e
    · rw [hfree] at hc; cases hc
  rcases hx with hk | hk
  · refine wpAny_storeName_local hk hn (fun h' hn' hs => ?_) hcls
    obtain ⟨oL, _, _, hoL, _⟩ := id hn
    refine h _ ⟨I.ok, I.os, I.bare, ⟨fun b o e n hb hx => ?_, fun b o e n hb hx => ?_, I.base.free, fun b o e hx => ?_, I.base.tups, I.base.frzs, I.base.tbls⟩, ⟨_, hn', fun j y v' e1 e2 e3 => ?_⟩, fun y c e => ?_, I.free, I.freeC, fun p hp => ?_, tracked ⟨oL, hoL, I.free⟩ hs, by simpa using I.len⟩ ⟨_, hs, .inl rfl⟩
    · exact (hs.2 b (Nat.ne_of_lt (Nat.lt_of_lt_of_le (Heap.lt_size e) I.ok.above))).trans (I.base.keep b o e n hb hx)
    · obtain ⟨sl, e1⟩ := I.base.slot b o e n hb hx
      exact ⟨sl, (hs.2 b (Nat.ne_of_lt (Nat.lt_of_lt_of_le (Heap.lt_size e) I.ok.above))).trans e1⟩
    · obtain ⟨o', e1⟩ := I.base.there b o e hx
      exact ⟨o', (hs.2 b (Nat.ne_of_lt (Nat.lt_of_lt_of_le (Heap.lt_size e) I.ok.above))).trans e1⟩
    · by_cases hj : j = i
      · subst hj
        rw [hi] at e1; cases e1
        rw [List.getElem?_set_self hiσ] at e2
        cases e2
        exact ⟨u, r, .inl ⟨hk, by simp⟩⟩
      · rw [List.getElem?_set_ne (Ne.symm hj)] at e2
        obtain ⟨u', r', q⟩ := hl j y v' e1 e2 e3
        refine ⟨u', r', ?_⟩
        rcases q with ⟨k, e⟩ | ⟨k, c, e, z⟩
        · refine .inl ⟨k, ?_⟩
          have : y ≠ x := fun e => hj (nodup_ix hN e1 (e ▸ hi))
          simp [this, e]
        · exact .inr ⟨k, c, e, z.sameBut hs (cne y c e)⟩
    · obtain ⟨w', z⟩ := I.cell y c e
      exact ⟨w', z.sameBut hs (cne y c e)⟩
    · obtain ⟨e, n, ne, nf, d⟩ := I.pin p hp
      exact ⟨(hs.2 p.1 ne).trans e, n, ne, nf, d⟩
  · have hfn : X.fn x = true := by
      rcases hf with z | z
      · exact z
      · rw [z] at hk; cases hk
    obtain ⟨c, hc⟩ := I.ok.has x (.inl hk)
    obtain ⟨w', z⟩ := I.cell x c hc
    refine wpAny_storeName_cell I.ok.kind hk hc z (fun h' hc' hs => ?_)
    obtain ⟨oc, hoc, hocd⟩ := id z
    refine h { s with heap := h' } ⟨I.ok, I.os, I.bare, ⟨fun b o e n hb hx => ?_, fun b o e n hb hx => ?_, I.base.free, fun b o e hx => ?_, I.base.tups, I.base.frzs, I.base.tbls⟩, ⟨m, hn.sameBut hs (Ne.symm (cne x c hc)), fun j y v' e1 e2 e3 => ?_⟩, fun y c' e => ?_, I.free, I.freeC, fun p hp => ?_, tracked ⟨oc, hoc, I.freeC x c hc⟩ hs, by simpa using I.len⟩ ⟨c, hs, .inr hc⟩
    · exact (hs.2 b (Nat.ne_of_lt (Nat.lt_of_lt_of_le (Heap.lt_size e) (I.ok.cab x c hfn hc)))).trans (I.base.keep b o e n hb hx)
    · obtain ⟨sl, e1⟩ := I.base.slot b o e n hb hx
      exact ⟨sl, (hs.2 b (Nat.ne_of_lt (Nat.lt_of_lt_of_le (Heap.lt_size e) (I.ok.cab x c hfn hc)))).trans e1⟩
    · obtain ⟨o', e1⟩ := I.base.there b o e hx
      exact ⟨o', (hs.2 b (Nat.ne_of_lt (Nat.lt_of_lt_of_le (Heap.lt_size e) (I.ok.cab x c hfn hc)))).trans e1⟩
    · by_cases hj : j = i
      · subst hj
        rw [hi] at e1; cases e1
        rw [List.getElem?_set_self hiσ] at e2
        cases e2
        exact ⟨u, r, .inr ⟨.inl hk, c, hc, hc'⟩⟩
      · rw [List.getElem?_set_ne (Ne.symm hj)] at e2
        obtain ⟨u', r', q⟩ := hl j y v' e1 e2 e3
        refine ⟨u', r', ?_⟩
        rcases q with q | ⟨k, c', e, z'⟩
        · exact .inl q
        · refine .inr ⟨k, c', e, z'.sameBut hs ?_⟩
          rintro rfl
          exact hj (nodup_ix hN e1 (I.ok.inj _ _ _ e hc ▸ hi))
    · by_cases hcc : c' = c
      · subst hcc; exact ⟨_, hc'⟩
      · obtain ⟨w2, z2⟩ := I.cell y c' e
        exact ⟨w2, z2.sameBut hs hcc⟩
    · obtain ⟨e, n, ne, nf, d⟩ := I.pin p hp
      refine ⟨(hs.2 p.1 ?_).trans e, n, ne, nf, d⟩
      intro q
      rw [q, hoc] at e
      have q' : oc = p.2 := Option.some.inj e
      exact d w' (by rw [← q']; exact hocd)
theorem store_ok {M : Model} {A : Around} {E : Value → Shared → Prop} {i : Nat} {x : Str} {v : V} {u : Value} {Q : Unit → Shared → Prop} (I : Inv X pins σ H s) (hN : X.N.Nodup) (hi : X.N[i]? = some x) (hx : Loc X.env.scope x) (r : RelV v u)
    (h : ∀ s', Inv X pins (σ.set i (some v)) H s' → Q () s') (hf : X.fn x = true ∨ X.env.scope.names.lookup x = some .local := by first | exact .inl rfl | exact .inr rfl | assumption) : wpAny M A (storeName X.env x u) Q E s :=
  store_ok2 I hN hi hx r (fun s' I' _ => h s' I') hf
/-- behind a call or a block, the state as it is -/
theorem Inv.call' {s' : Shared} {ch : List Addr} (I : Inv X pins σ H s) (ho : s'.os = s.os) (u : Un (frs X.stack) ch H H' s.heap s'.heap) (hok : HOk X.prog X.w H' s'.heap) (hg : AllBare s'.gens)
    (hch : ∀ b ∈ ch, (b ∈ X.ex ∨ X.s₀.heap.objs.size ≤ b) ∧ b ≠ X.env.locals ∧ (∀ x c, X.env.cells.lookup x = some c → c ≠ b) ∧ ∀ p ∈ X.pn ++ pins, p.1 ≠ b) : Inv X pins σ H' s' := by
  obtain ⟨h', g', d', t', o'⟩ := s'
  have e : o' = s.os := ho
  subst e
  exact I.call (g' := g') (t' := t') (d' := d') u hok hg hch
end

/-! ### the judgements -/
/-- an exception: its class, its own dict's address (where it has one), the abstract heap behind it -/
abbrev XK := Value → Option Addr → Hp → Prop
abbrev St := List (Option V)
abbrev VK := V → Hp → Prop
/-- an expression's reading; a test's; an argument list's -/
abbrev TE := St → Hp → VK → Prop
abbrev TT := St → Hp → (Bool → Hp → Prop) → Prop
abbrev TA := St → Hp → (List V → Hp → Prop) → Prop
/-- what is wanted behind a statement -/
structure Ends where
  nx : St → Hp → Prop
  rt : VK
  bk : St → Hp → Prop := fun _ _ => False
  ct : St → Hp → Prop := fun _ _ => False
abbrev TS := Ends → St → Hp → Prop

def EP (X : Cx) (pins : List (Addr × Obj)) (σ : St) (Q : VK) (u : Value) (s' : Shared) : Prop := ∃ v H', Inv X pins σ H' s' ∧ RelV v u ∧ Q v H'
def TP (X : Cx) (pins : List (Addr × Obj)) (σ : St) (Q : Bool → Hp → Prop) (b : Bool) (s' : Shared) : Prop := ∃ H', Inv X pins σ H' s' ∧ Q b H'
def AP (X : Cx) (pins : List (Addr × Obj)) (σ : St) (Q : List V → Hp → Prop) (us : List Value) (s' : Shared) : Prop := ∃ vs H', Inv X pins σ H' s' ∧ Vals vs us ∧ Q vs H'
def SP (X : Cx) (pins : List (Addr × Obj)) (D : Ends) (f : Flow) (s' : Shared) : Prop :=
  match f with
  | .next => ∃ σ' H', Inv X pins σ' H' s' ∧ D.nx σ' H'
  | .brk => ∃ σ' H', Inv X pins σ' H' s' ∧ D.bk σ' H'
  | .cont => ∃ σ' H', Inv X pins σ' H' s' ∧ D.ct σ' H'
  | .ret u => ∃ v σ' H', Inv X pins σ' H' s' ∧ RelV v u ∧ D.rt v H'

def PE (X : Cx) (e : Expr) (t : TE) : Prop :=
  ∀ (pins : List (Addr × Obj)) (s : Shared) (σ : St) (H : Hp) (Q : VK), Inv X pins σ H s → t σ H Q → wpAny (model X.prog X.w) X.A (eval e X.env) (EP X pins σ Q) X.xe s
def PT (X : Cx) (e : Expr) (t : TT) : Prop :=
  ∀ (pins : List (Addr × Obj)) (s : Shared) (σ : St) (H : Hp) (Q : Bool → Hp → Prop), Inv X pins σ H s → t σ H Q → wpAny (model X.prog X.w) X.A (isTrue e X.env (eval e X.env)) (TP X pins σ Q) X.xe s
/-- a test whatever its 'whole' is (and, or) -/
def PW (X : Cx) (e : Expr) (t : TT) : Prop :=
  ∀ (whole : Sem Value) (pins : List (Addr × Obj)) (s : Shared) (σ : St) (H : Hp) (Q : Bool → Hp → Prop), Inv X pins σ H s → t σ H Q → wpAny (model X.prog X.w) X.A (isTrue e X.env whole) (TP X pins σ Q) X.xe s
theorem PW.pt {X : Cx} {e : Expr} {t : TT} (h : PW X e t) : PT X e t := h _
/-- an argument list (no star), from the left -/
def PA (X : Cx) (es : List Expr) (t : TA) : Prop :=
  ∀ (pos : Pos) (pins : List (Addr × Obj)) (s : Shared) (σ : St) (H : Hp) (Q : List V → Hp → Prop), Inv X pins σ H s → t σ H Q → wpAny (model X.prog X.w) X.A (spliced (backTo pos (starEach es X.env))) (AP X pins σ Q) X.xe s
def PS (X : Cx) (st : Stmt) (t : TS) : Prop :=
  ∀ (pins : List (Addr × Obj)) (s : Shared) (σ : St) (H : Hp) (D : Ends), Inv X pins σ H s → t D σ H → wpAny (model X.prog X.w) X.A (exec st X.env) (SP X pins D) X.xe s
def PSs (X : Cx) (st : List Stmt) (t : TS) : Prop :=
  ∀ (pins : List (Addr × Obj)) (s : Shared) (σ : St) (H : Hp) (D : Ends), Inv X pins σ H s → t D σ H → wpAny (model X.prog X.w) X.A (execs st X.env) (SP X pins D) X.xe s
/-- weaken the end -/
theorem thn {α : Type} {t : Sem α} {Q Q' : α → Shared → Prop} {M : Model} {A : Around} {E : Value → Shared → Prop} {s : Shared} (h : wpAny M A t Q E s) (hQ : ∀ a s, Q a s → Q' a s) : wpAny M A t Q' E s := wpAny_mono h hQ fun _ _ x => x
end L2

namespace L2
open PySem PySem.Spec PyProof.Rows
section
variable {X : Cx}

/-! ### names and constants -/
def tVar (i : Nat) : TE := fun σ H Q => ∃ v, σ[i]? = some (some v) ∧ Q v H
def tC (v : V) : TE := fun _ H Q => Q v H
theorem pe_var {i : Nat} {x : Str} {pos : Pos} (hN : X.N[i]? = some x) (hv : Vis X.env.scope x) (hd : (x == ("__debug__" : Str)) = false := by decide) (hcd : (x == ("__classdict__" : Str)) = false := by decide) : PE X (.Name x pos) (tVar i) := by
  intro pins s σ H Q I h
  obtain ⟨v, e, h⟩ := h
  obtain ⟨m, hn, hl⟩ := I.loc
  obtain ⟨u, r, l⟩ := hl i x v hN e hv
  have fin : EP X pins σ Q u s := ⟨v, H, I, r, h⟩
  rcases l with ⟨hk, hm⟩ | ⟨hk, c, hc, hcell⟩
  · exact wpAny_Name (wpAny_loadName_local I.ok.kind hk hn hm fin) hd
  · rcases hk with hk | hk
    · exact wpAny_Name (wpAny_loadName_cell I.ok.kind hk hc hcell fin) hd
    · exact wpAny_Name (wpAny_loadName_free I.ok.kind hk hc hcell fin hcd) hd
theorem pe_int {i j pos} : PE X (.Constant (.int i) j pos) (tC (.int i)) := fun _ _ _ H _ I h => wpAny_Constant_int ⟨.int i, H, I.tok _, ⟨_, rfl⟩, h⟩
theorem pe_non {j pos} : PE X (.Constant .none j pos) (tC .non) := fun _ _ _ H _ I h => Constant_none ⟨.non, H, I, rfl, h⟩
theorem pe_str {x j pos} : PE X (.Constant (.str x) j pos) (tC (.str x)) := fun _ _ _ H _ I h => Calls.Constant_str ⟨.str x, H, I.tok _, ⟨_, rfl⟩, h⟩

/-- a global name of the def -/
def Gl (X : Cx) (x : Str) : Prop := X.env.kindOf x = some .globalImplicit
theorem ld_glob {E : Value → Shared → Prop} {pins : List (Addr × Obj)} {s : Shared} {σ : St} {H : Hp} {x : Str} {u : Value} {pos : Pos} {Q : Value → Shared → Prop} (I : Inv X pins σ H s) (hg : Gl X x) (hm : X.mg x = some u) (h : Q u s)
    (hd : (x == ("__debug__" : Str)) = false := by decide) : wpAny (model X.prog X.w) X.A (eval (.Name x pos) X.env) Q E s :=
  Calls.Name_function_global I.ok.kind hg (Calls.loadGlobal_global (by rw [I.ok.glob]; exact I.mod.glob.keeps I.bk) hm h) hd
theorem ld_blt {E : Value → Shared → Prop} {pins : List (Addr × Obj)} {s : Shared} {σ : St} {H : Hp} {x : Str} {u : Value} {pos : Pos} {Q : Value → Shared → Prop} (I : Inv X pins σ H s) (hg : Gl X x) (hm : X.mg x = none) (hv : bootBuiltins x = some u) (h : Q u s)
    (hn : x ≠ "__name__" := by decide) (hd : (x == ("__debug__" : Str)) = false := by decide) : wpAny (model X.prog X.w) X.A (eval (.Name x pos) X.env) Q E s := by
  obtain ⟨mb, h1, h2⟩ := I.mod.blt
  exact Calls.Name_function_global I.ok.kind hg (Calls.loadGlobal_builtin (by rw [I.ok.glob]; exact I.mod.glob.keeps I.bk) hm (by rw [I.ok.blt]; exact h1.keeps I.bk) ((h2 x hn).trans hv) h) hd
/-- a module's constant, a class, a function, as a value -/
theorem pe_glob {x : Str} {v : V} {u : Value} {pos : Pos} (hg : Gl X x) (hm : X.mg x = some u) (r : RelV v u) (hd : (x == ("__debug__" : Str)) = false := by decide) : PE X (.Name x pos) (tC v) :=
  fun _ _ _ H _ I h => ld_glob I hg hm ⟨v, H, I, r, h⟩ hd
theorem pe_bltn {x : Str} {v : V} {u : Value} {pos : Pos} (hg : Gl X x) (hm : X.mg x = none) (hv : bootBuiltins x = some u) (r : RelV v u) (hn : x ≠ "__name__" := by decide) (hd : (x == ("__debug__" : Str)) = false := by decide) : PE X (.Name x pos) (tC v) :=
  fun _ _ _ H _ I h => ld_blt I hg hm hv ⟨v, H, I, r, h⟩ hn hd

/-! ### arithmetic -/
/-- two ints -/
def t2I (ta tb : TE) (k : Int → Int → Hp → Prop) : St → Hp → Prop := fun σ H => ta σ H fun x H1 => tb σ H1 fun y H2 => ∃ i j, x = .int i ∧ y = .int j ∧ k i j H2
def tAdd (ta tb : TE) : TE := fun σ H Q => t2I ta tb (fun i j H2 => Q (.int (i + j)) H2) σ H
def tSub (ta tb : TE) : TE := fun σ H Q => t2I ta tb (fun i j H2 => Q (.int (i - j)) H2) σ H
/-- the left factor below 2^64 -/
def tMul (ta tb : TE) : TE := fun σ H Q => t2I ta tb (fun i j H2 => (-(2 ^ 64) < i ∧ i < 2 ^ 64) ∧ Q (.int (i * j)) H2) σ H
variable {a b : Expr} {ta tb : TE} {pos : Pos}
/-! ### comparisons -/
def PC (X : Cx) (op : CmpOp) (a b : Expr) (t : TE) : Prop :=
  ∀ (pins : List (Addr × Obj)) (s : Shared) (σ : St) (H : Hp) (Q : VK), Inv X pins σ H s → t σ H Q →
    wpAny (model X.prog X.w) X.A (eval a X.env) (fun v s₁ => wpAny (model X.prog X.w) X.A (eval b X.env) (fun u s₂ => wpAny (model X.prog X.w) X.A (compareOp op v u) (EP X pins σ Q) X.xe s₂) X.xe s₁) X.xe s
def tCmp (p : Int → Int → Bool) (ta tb : TE) : TE := fun σ H Q => t2I ta tb (fun i j H2 => Q (.bl (p i j)) H2) σ H
abbrev tLt : TE → TE → TE := tCmp fun i j => decide (i < j)
abbrev tLe : TE → TE → TE := tCmp fun i j => decide (i ≤ j)
abbrev tGt : TE → TE → TE := tCmp fun i j => decide (j < i)
abbrev tGe : TE → TE → TE := tCmp fun i j => decide (j ≤ i)
abbrev tEqI : TE → TE → TE := tCmp fun i j => decide (i = j)
abbrev tNeI : TE → TE → TE := tCmp fun i j => !decide (i = j)
/-- is None -/
def tIsN (ta : TE) : TE := fun σ H Q => ta σ H fun x H1 => Q (.bl (decide (x = .non))) H1
def tNotN (ta : TE) : TE := fun σ H Q => ta σ H fun x H1 => Q (.bl (!decide (x = .non))) H1
/-- a comparison as a value, as a test -/
def tB (t : TE) : TT := fun σ H Q => t σ H fun x H1 => ∃ c, x = .bl c ∧ Q c H1
/-- an expression whose value is a bool, as a test -/
theorem pt_val {e : Expr} {t : TE} (h : PE X e t) (he : ∀ whole, isTrue e X.env whole = (do let v ← whole; standAt e.pos; holding [v] (truthy v)) := by intro _; rfl) : PT X e (tB t) := by
  intro pins s σ H Q I hw
  refine isTrue_plain (thn (h pins s σ H _ I hw) fun v s1 ⟨x, H1, I1, r1, q1⟩ => ?_) (he _)
  obtain ⟨d, rfl, q⟩ := q1
  cases r1
  exact wpAny_truthy_bool ⟨H1, I1, q⟩

/-! ### and, or, not -/
variable {tA tB' : TT} {rest : List Expr}
def tAnd (t u : TT) : TT := fun σ H Q => t σ H fun c H1 => if c = true then u σ H1 Q else Q false H1
def tOr (t u : TT) : TT := fun σ H Q => t σ H fun c H1 => if c = true then Q true H1 else u σ H1 Q
def tNot (t : TT) : TT := fun σ H Q => t σ H fun c H1 => Q (!c) H1
theorem pw_and1 (ha : PT X a tA) : PW X (.BoolOp .And [a] pos) tA := by
  intro wh pins s σ H Q I h
  refine isTrue_and (thn (ha pins s σ H Q I h) fun c s1 e => ?_)
  cases c with
  | true => exact isTrue_and_nil e
  | false => exact e
theorem pw_or1 (ha : PT X a tA) : PW X (.BoolOp .Or [a] pos) tA := by
  intro wh pins s σ H Q I h
  refine isTrue_or (thn (ha pins s σ H Q I h) fun c s1 e => ?_)
  cases c with
  | false => exact isTrue_or_nil e
  | true => exact e
theorem pw_and (ha : PT X a tA) (hb : PW X (.BoolOp .And (b :: rest) pos) tB') : PW X (.BoolOp .And (a :: b :: rest) pos) (tAnd tA tB') := by
  intro wh pins s σ H Q I h
  refine isTrue_and (thn (ha pins s σ H _ I h) fun c s1 ⟨H1, I1, q1⟩ => ?_)
  cases c with
  | true => exact hb wh pins s1 σ H1 Q I1 q1
  | false => exact ⟨H1, I1, q1⟩
theorem pw_or (ha : PT X a tA) (hb : PW X (.BoolOp .Or (b :: rest) pos) tB') : PW X (.BoolOp .Or (a :: b :: rest) pos) (tOr tA tB') := by
  intro wh pins s σ H Q I h
  refine isTrue_or (thn (ha pins s σ H _ I h) fun c s1 ⟨H1, I1, q1⟩ => ?_)
  cases c with
  | true => exact ⟨H1, I1, q1⟩
  | false => exact hb wh pins s1 σ H1 Q I1 q1
theorem pt_not (ha : PT X a tA) : PT X (.UnaryOp .Not a pos) (tNot tA) := by
  intro pins s σ H Q I h
  exact isTrue_not (ha pins s σ H (fun c H1 => Q (!c) H1) I h)
/-- .. as values (bools) -/
def tAndV (ta tb : TE) : TE := fun σ H Q => ta σ H fun x H1 => ∃ c, x = .bl c ∧ if c = true then tb σ H1 Q else Q (.bl false) H1
def tOrV (ta tb : TE) : TE := fun σ H Q => ta σ H fun x H1 => ∃ c, x = .bl c ∧ if c = true then Q (.bl true) H1 else tb σ H1 Q
def tNotV (ta : TE) : TE := fun σ H Q => ta σ H fun x H1 => ∃ c, x = .bl c ∧ Q (.bl (!c)) H1
/-- a if t else b -/
def tIf (t : TT) (ta tb : TE) : TE := fun σ H Q => t σ H fun c H1 => if c = true then ta σ H1 Q else tb σ H1 Q
theorem pe_ifExp {c : Expr} (hc : PT X c tA) (ha : PE X a ta) (hb : PE X b tb) : PE X (.IfExp c a b pos) (tIf tA ta tb) := by
  intro pins s σ H Q I h
  refine wpAny_IfExp (thn (hc pins s σ H _ I h) fun d s1 ⟨H1, I1, q1⟩ => ?_)
  cases d with
  | true => exact ha pins s1 σ H1 Q I1 q1
  | false => exact hb pins s1 σ H1 Q I1 q1
end
end L2

namespace L2
open PySem PySem.Spec PyProof.Rows

/-! ### a list, a tuple that is read: tracked, frozen, or an object of the module -/
def SqL (K : PySem.W.Frag) (H : Hp) (a : Addr) (xs : List V) : Prop :=
  Rd H a (.lst xs) ∨
    ∃ (o : Obj) (its : Array Value) (n : Nat), K.lookup a = some o ∧ o.cls = .type "list" ∧ o.dict = none ∧ o.data = .seq its n ∧ its.size ≤ sizeLine ∧ Vals xs its.toList
def SqT (K : PySem.W.Frag) (H : Hp) (a : Addr) (xs : List V) : Prop :=
  Rd H a (.tup xs) ∨
    ∃ (o : Obj) (its : Array Value) (n : Nat), K.lookup a = some o ∧ o.cls = .type "tuple" ∧ o.data = .seq its n ∧ its.size ≤ sizeLine ∧ Vals xs its.toList
def absV : Value → Option V
  | .none => some .non
  | .bool b => some (.bl b)
  | .int i _ => some (.int i)
  | .str x _ => some (.str x)
  | .bytes b _ => some (.byt b)
  | .float b _ => some (.flt b)
  | .ref a => some (.ref a)
  | .type n => some (.ty n)
  | _ => none
theorem RelV.abs {x : V} {u : Value} (r : RelV x u) : absV u = some x := by
  cases x with
  | non => cases r; rfl
  | bl _ => cases r; rfl
  | int _ => obtain ⟨t, rfl⟩ := r; rfl
  | str _ => obtain ⟨t, rfl⟩ := r; rfl
  | byt _ => obtain ⟨t, rfl⟩ := r; rfl
  | flt _ => obtain ⟨t, rfl⟩ := r; rfl
  | ref _ => cases r; rfl
  | ty _ => cases r; rfl
theorem RelV.inj {x y : V} {u : Value} (r : RelV x u) (q : RelV y u) : x = y := Option.some.inj (r.abs.symm.trans q.abs)
theorem Vals.inj : ∀ {xs ys : List V} {us : List Value}, Vals xs us → Vals ys us → xs = ys
  | _, _, _, .nil, .nil => rfl
  | _, _, _, .cons r t, .cons r' t' => by rw [r.inj r', Vals.inj t t']
section
variable {X : Cx} {pins : List (Addr × Obj)} {σ : St} {H : Hp} {s : Shared} {a : Addr} {xs ys : List V}
theorem SqL.of {K : PySem.W.Frag} (h : H a = some (.lst xs)) : SqL K H a xs := .inl (.inl h)
theorem SqT.of {K : PySem.W.Frag} (h : H a = some (.tup xs)) : SqT K H a xs := .inl (.inl h)
theorem Inv.list (I : Inv X pins σ H s) (h : SqL X.K H a xs) : ∃ its : List Value, Vals xs its ∧ PlainL s.heap a its.toArray ∧ xs.length ≤ sizeLine := by
  rcases h with h | ⟨o, its, n, hk, hc, hd, hs, hz, r⟩
  · obtain ⟨z, its, n, r, e⟩ := h.ok I.hok
    exact ⟨its, r, ⟨_, n, e, rfl, rfl, rfl⟩, z⟩
  · refine ⟨its.toList, r, ⟨o, n, I.kIn a o hk, hc, hd, by simpa using hs⟩, ?_⟩
    have e := r.length
    simp only [Array.length_toList] at e
    omega
theorem Inv.tuple (I : Inv X pins σ H s) (h : SqT X.K H a xs) : ∃ its : List Value, Vals xs its ∧ IsTup s.heap a its.toArray ∧ xs.length ≤ sizeLine := by
  rcases h with h | ⟨o, its, n, hk, hc, hs, hz, r⟩
  · obtain ⟨z, its, r, p⟩ := h.ok I.hok
    exact ⟨its, r, p, z⟩
  · refine ⟨its.toList, r, ⟨o, I.kIn a o hk, hc, n, by simpa using hs⟩, ?_⟩
    have e := r.length
    simp only [Array.length_toList] at e
    omega
theorem Inv.list_inj (I : Inv X pins σ H s) (h : SqL X.K H a xs) (h' : SqL X.K H a ys) : xs = ys := by
  obtain ⟨its, r, ⟨o, n, e, _, _, d⟩, _⟩ := I.list h
  obtain ⟨its', r', ⟨o', n', e', _, _, d'⟩, _⟩ := I.list h'
  rw [e] at e'; cases e'
  rw [d] at d'
  injection d' with d1 _
  have : its = its' := by simpa using congrArg Array.toList d1
  subst this
  exact r.inj r'
theorem Inv.tuple_inj (I : Inv X pins σ H s) (h : SqT X.K H a xs) (h' : SqT X.K H a ys) : xs = ys := by
  obtain ⟨its, r, ⟨o, e, _, n, d⟩, _⟩ := I.tuple h
  obtain ⟨its', r', ⟨o', e', _, n', d'⟩, _⟩ := I.tuple h'
  rw [e] at e'; cases e'
  rw [d] at d'
  injection d' with d1 _
  have : its = its' := by simpa using congrArg Array.toList d1
  subst this
  exact r.inj r'
end

/-! ### another wish about exceptions -/
abbrev Cx.wish (X : Cx) (E : Value → Shared → Prop) : Cx := { X with xe := E }
/-- no exception leaves -/
abbrev Cx.nox (X : Cx) : Cx := X.wish fun _ _ => False
theorem Cx.Ok.wish {X : Cx} (ok : X.Ok) (E : Value → Shared → Prop) : (X.wish E).Ok :=
  ⟨ok.mod, ok.kind, ok.glob, ok.blt, ok.above, ok.inj, ok.has, ok.cab, ok.hd, ok.frames, ok.stk, ok.exf, ok.bs, ok.bsz, ok.noex, ok.exfs, ok.funs, ok.frf⟩
theorem Cx.Ok.unwish {X : Cx} {E : Value → Shared → Prop} (ok : (X.wish E).Ok) : X.Ok :=
  ⟨ok.mod, ok.kind, ok.glob, ok.blt, ok.above, ok.inj, ok.has, ok.cab, ok.hd, ok.frames, ok.stk, ok.exf, ok.bs, ok.bsz, ok.noex, ok.exfs, ok.funs, ok.frf⟩
section
variable {X : Cx} {pins : List (Addr × Obj)} {σ : St} {H : Hp} {s : Shared} {E : Value → Shared → Prop}
theorem Inv.wish (I : Inv X pins σ H s) (E : Value → Shared → Prop) : Inv (X.wish E) pins σ H s := ⟨I.ok.wish E, I.os, I.bare, I.base, I.loc, I.cell, I.free, I.freeC, I.pin, I.hok, I.len⟩
theorem Inv.unwish (I : Inv (X.wish E) pins σ H s) : Inv X pins σ H s := ⟨I.ok.unwish, I.os, I.bare, I.base, I.loc, I.cell, I.free, I.freeC, I.pin, I.hok, I.len⟩
theorem SP.unwish {D : Ends} {f : Flow} {s' : Shared} (h : SP (X.wish E) pins D f s') : SP X pins D f s' := by
  cases f with
  | next => obtain ⟨σ', H', I, q⟩ := h; exact ⟨σ', H', I.unwish, q⟩
  | brk => obtain ⟨σ', H', I, q⟩ := h; exact ⟨σ', H', I.unwish, q⟩
  | cont => obtain ⟨σ', H', I, q⟩ := h; exact ⟨σ', H', I.unwish, q⟩
  | ret u => obtain ⟨v, σ', H', I, r, q⟩ := h; exact ⟨v, σ', H', I.unwish, r, q⟩
theorem PE.nox {e : Expr} {t : TE} (h : PE X.nox e t) : PE X e t := fun pins s σ H Q I hw =>
  wpAny_mono (h pins s σ H Q (I.wish _) hw) (fun _ _ ⟨v, H', I', r, q⟩ => ⟨v, H', I'.unwish, r, q⟩) fun _ _ z => False.elim z
theorem PT.nox {e : Expr} {t : TT} (h : PT X.nox e t) : PT X e t := fun pins s σ H Q I hw =>
  wpAny_mono (h pins s σ H Q (I.wish _) hw) (fun _ _ ⟨H', I', q⟩ => ⟨H', I'.unwish, q⟩) fun _ _ z => False.elim z
theorem PSs.nox {st : List Stmt} {t : TS} (h : PSs X.nox st t) : PSs X st t := fun pins s σ H D I hw =>
  wpAny_mono (h pins s σ H D (I.wish _) hw) (fun _ _ q => q.unwish) fun _ _ z => False.elim z
end

/-! ### blocks and small statements -/
section
variable {X : Cx} {st : Stmt} {rest : List Stmt} {t u : TS} {e : Expr} {te : TE} {pos : Pos}
def tNext : TS := fun D σ H => D.nx σ H
def tSeq (t u : TS) : TS := fun D σ H => t { D with nx := u D } σ H
theorem pss_nil : PSs X [] tNext := fun _ _ σ H _ I h => wpAny_execs_nil ⟨σ, H, I, h⟩
theorem pss_cons (h1 : PS X st t) (h2 : PSs X rest u) : PSs X (st :: rest) (tSeq t u) := by
  intro pins s σ H D I h
  refine wpAny_execs_cons (thn (h1 pins s σ H { D with nx := u D } I h) fun f s1 q => ?_)
  cases f with
  | next =>
    obtain ⟨σ', H', I', q⟩ := q
    exact h2 pins s1 σ' H' D I' q
  | ret v => exact q
  | brk => exact q
  | cont => exact q
theorem pss_one (h1 : PS X st t) : PSs X [st] t := by
  intro pins s σ H D I h
  refine wpAny_execs_cons (thn (h1 pins s σ H D I h) fun f s1 q => ?_)
  cases f with
  | next => exact wpAny_execs_nil q
  | ret v => exact q
  | brk => exact q
  | cont => exact q
def tBreak : TS := fun D σ H => D.bk σ H
def tCont : TS := fun D σ H => D.ct σ H
/-- in a def's body nothing is shown -/
theorem Inv.quiet {pins : List (Addr × Obj)} {σ : St} {H : Hp} {s : Shared} (I : Inv X pins σ H s) : interactive X.env = false := by simp [interactive, I.ok.kind]
/-- an expression whose value is dropped -/
def tDrop (te : TE) : TS := fun D σ H => te σ H fun _ H1 => D.nx σ H1
theorem ps_expr (he : PE X e te) (hs : swapsWith e none pos.line X.env = pure false := by rfl) : PS X (.Expr e pos) (tDrop te) := by
  intro pins s σ H D I h
  exact wpAny_Expr_any (thn (he pins s σ H _ I h) fun v s1 ⟨x, H1, I1, r1, q1⟩ => ⟨σ, H1, I1, q1⟩) I.quiet hs
def tRet (te : TE) : TS := fun D σ H => te σ H D.rt
theorem ps_ret (he : PE X e te) : PS X (.Return (some e) pos) (tRet te) := by
  intro pins s σ H D I h
  exact wpAny_Return_some (thn (he pins s σ H _ I h) fun v s1 ⟨x, H1, I1, r1, q1⟩ => ⟨x, σ, H1, I1, r1, q1⟩)
def tRetN : TS := fun D _ H => D.rt .non H
def tIfS (c : TT) (t u : TS) : TS := fun D σ H => c σ H fun b H1 => if b = true then t D σ H1 else u D σ H1
theorem ps_if {c : Expr} {a b : List Stmt} {tc : TT} (hc : PT X c tc) (ha : PSs X a t) (hb : PSs X b u) : PS X (.If c a b pos) (tIfS tc t u) := by
  intro pins s σ H D I h
  refine wpAny_If (thn (hc pins s σ H _ I h) fun d s1 ⟨H1, I1, q1⟩ => ?_)
  cases d with
  | true => exact ha pins s1 σ H1 D I1 q1
  | false => exact hb pins s1 σ H1 D I1 q1
/-- code that the proof never comes to -/
def tNever : TS := fun _ _ _ => False
theorem pss_never {sts : List Stmt} : PSs X sts tNever := fun _ _ _ _ _ _ h => h.elim
end

/-! ### targets -/
abbrev TG := V → St → Hp → (St → Hp → Prop) → Prop
abbrev TGs := List V → St → Hp → (St → Hp → Prop) → Prop
def PG (X : Cx) (target : Expr) (t : TG) : Prop :=
  ∀ (pins : List (Addr × Obj)) (s : Shared) (σ : St) (H : Hp) (v : V) (u : Value) (Q : St → Hp → Prop), Inv X pins σ H s → RelV v u → t v σ H Q →
    wpAny (model X.prog X.w) X.A (assign target X.env u) (fun _ s' => ∃ σ' H', Inv X pins σ' H' s' ∧ Q σ' H') X.xe s
/-- several targets, one after another -/
def PGs (X : Cx) (ts : List Expr) (t : TGs) : Prop :=
  ∀ (pins : List (Addr × Obj)) (s : Shared) (σ : St) (H : Hp) (vs : List V) (us : List Value) (Q : St → Hp → Prop), Inv X pins σ H s → Vals vs us → t vs σ H Q →
    wpAny (model X.prog X.w) X.A (assignInOrder ((assignEach ts X.env).map (·.2)) us) (fun _ s' => ∃ σ' H', Inv X pins σ' H' s' ∧ Q σ' H') X.xe s
/-- o[i] = v, by values -/
abbrev TSet := V → V → V → Hp → (Hp → Prop) → Prop
def PSet (X : Cx) (t : TSet) : Prop :=
  ∀ (pins : List (Addr × Obj)) (s : Shared) (σ : St) (H : Hp) (o i v : V) (ov iv u : Value) (Q : Hp → Prop), Inv X pins σ H s → RelV o ov → RelV i iv → RelV v u → t o i v H Q →
    wpAny (model X.prog X.w) X.A (setItem ov iv u) (fun _ s' => ∃ H', Inv X pins σ H' s' ∧ Q H') X.xe s
/-- a op= b, by values -/
abbrev TIp := V → V → Hp → VK → Prop
def PIp (X : Cx) (op : Operator) (t : TIp) : Prop :=
  ∀ (pins : List (Addr × Obj)) (s : Shared) (σ : St) (H : Hp) (x y : V) (v u : Value) (Q : VK), Inv X pins σ H s → RelV x v → RelV y u → t x y H Q →
    wpAny (model X.prog X.w) X.A (inplaceOp op v u) (EP X pins σ Q) X.xe s
section
variable {X : Cx} {pos : Pos}
def gName (i : Nat) : TG := fun v σ H Q => Q (σ.set i (some v)) H
theorem pg_name {i : Nat} {x : Str} (hN : X.N.Nodup) (hi : X.N[i]? = some x) (hx : Loc X.env.scope x) (hf : X.fn x = true ∨ X.env.scope.names.lookup x = some .local := by first | exact .inl rfl | exact .inr rfl | assumption) : PG X (.Name x pos) (gName i) := by
  intro pins s σ H v u Q I r h
  exact wpAny_assign_Name (store_ok I hN hi hx r (fun s' I' => ⟨_, H, I', h⟩) hf)
def gNil : TGs := fun vs σ H Q => vs = [] ∧ Q σ H
def gCons (t : TG) (u : TGs) : TGs := fun vs σ H Q => ∃ v r, vs = v :: r ∧ t v σ H fun σ' H' => u r σ' H' Q
theorem pgs_nil : PGs X [] gNil := by
  intro pins s σ H vs us Q I r h
  obtain ⟨e, h⟩ := h
  subst e
  cases r
  exact assignInOrder_nil ⟨σ, H, I, h⟩
theorem pgs_cons {e : Expr} {es : List Expr} {t : TG} {u : TGs} (h1 : PG X e t) (h2 : PGs X es u)
    (hs : (assignEach (e :: es) X.env).map (·.2) = assign e X.env :: (assignEach es X.env).map (·.2) := by rfl) : PGs X (e :: es) (gCons t u) := by
  intro pins s σ H vs us Q I r h
  obtain ⟨v, vr, e1, h⟩ := h
  subst e1
  cases r with
  | cons r rr =>
    rw [hs]
    refine assignInOrder_cons (thn (h1 pins s σ H _ _ _ I r h) fun _ s1 ⟨σ1, H1, I1, q1⟩ => ?_)
    exact h2 pins s1 σ1 H1 _ _ Q I1 rr q1
/-- (a, b, ..) = a tuple of that length -/
def gTup (K : PySem.W.Frag) (n : Nat) (t : TGs) : TG := fun v σ H Q => ∃ a xs, v = .ref a ∧ SqT K H a xs ∧ xs.length = n ∧ t xs σ H Q
theorem pg_tup {es : List Expr} {k : Nat} {t : TGs} {n : Nat} (hc : X.calm = true) (h : PGs X es t)
    (hn : (assignEach es X.env).length = n := by rfl) (hst : (assignEach es X.env).findIdx? (·.1) = none := by rfl) : PG X (.Tuple es k pos) (gTup X.K n t) := by
  intro pins s σ H v u Q I r hw
  obtain ⟨a, xs, e1, hq, hl, hw⟩ := hw
  subst e1
  cases r
  obtain ⟨its, rv, ht, hz⟩ := I.tuple hq
  refine assign_Tuple_tuple (I.ok.hd hc) ht (by simp [hn, ← hl, rv.length]) hst fun h' hx => ?_
  have I1 : Inv X pins σ H { s with heap := h' } := I.kept (t' := s.toks) fun b o e => hx b o (Nat.ne_of_lt (Heap.lt_size e)) e
  exact h pins _ σ H xs _ Q I1 (by simpa using rv) hw
/-- o[i] = .. -/
def gSub (to ti : TE) (t : TSet) : TG := fun v σ H Q => to σ H fun o H1 => ti σ H1 fun i H2 => t o i v H2 fun H3 => Q σ H3
/-- target = value -/
def tAsg (te : TE) (g : TG) : TS := fun D σ H => te σ H fun x H1 => g x σ H1 D.nx
/-- name = value -/
theorem ps_set {i : Nat} {x : Str} {e : Expr} {te : TE} {pos' : Pos} (hN : X.N.Nodup) (hi : X.N[i]? = some x) (hx : Loc X.env.scope x) (he : PE X e te) (hs : swapsWith e (some (.Name x pos')) pos.line X.env = pure false := by rfl) (hf : X.fn x = true ∨ X.env.scope.names.lookup x = some .local := by first | exact .inl rfl | exact .inr rfl | assumption) :
    PS X (.Assign [.Name x pos'] e pos) (tAsg te (gName i)) := by
  intro pins s σ H D I h
  refine wpAny_Assign_Name (thn (he pins s σ H _ I h) fun v s1 ⟨y, H1, I1, r1, q1⟩ => ?_) hs
  exact store_ok I1 hN hi hx r1 (fun s2 I2 => ⟨_, H1, I2, q1⟩) hf
/-- a, b = x, y with plain local names: stored from the right; the pair itself is not tracked (the opening rows as in PyProof/Rows/TupAssign.lean:23) -/
def tPar (i j : Nat) (ta : TA) : TS := fun D σ H => ta σ H fun vs H1 => ∃ v w, vs = [v, w] ∧ D.nx ((σ.set i (some v)).set j (some w)) H1
/-- name op= e -/
def tAug (i : Nat) (te : TE) (ti : TIp) : TS := fun D σ H => ∃ x, σ[i]? = some (some x) ∧ te σ H fun y H1 => ti x y H1 fun z H2 => D.nx (σ.set i (some z)) H2
/-- o[i] op= e -/
def tAugS (to ti te : TE) (tget : V → V → Hp → VK → Prop) (tip : TIp) (tset : TSet) : TS := fun D σ H => to σ H fun o H1 => ti σ H1 fun i H2 => tget o i H2 fun x H3 => te σ H3 fun y H4 => tip x y H4 fun z H5 => tset o i z H5 fun H6 => D.nx σ H6
/-- o[i], by values -/
def PGet (X : Cx) (t : V → V → Hp → VK → Prop) : Prop :=
  ∀ (pins : List (Addr × Obj)) (s : Shared) (σ : St) (H : Hp) (o i : V) (ov iv : Value) (Q : VK), Inv X pins σ H s → RelV o ov → RelV i iv → t o i H Q →
    wpAny (model X.prog X.w) X.A (getItem ov iv) (EP X pins σ Q) X.xe s
/-- ints -/
def ipI (f : Int → Int → Int) : TIp := fun x y H Q => ∃ i j, x = .int i ∧ y = .int j ∧ Q (.int (f i j)) H
end

/-! ### while -/
section
variable {X : Cx} {pos : Pos}
/-- the invariant W with its measure -/
def tWhile (c : TT) (tb : TS) : TS := fun D σ H => ∃ W : Nat → St → Hp → Prop, (∃ m, W m σ H) ∧ ∀ m σ H, W m σ H →
  c σ H fun b H1 => if b = true then ∃ N : St → Hp → Prop, (∀ σ' H', N σ' H' → ∃ m', m' < m ∧ W m' σ' H') ∧ tb { D with nx := N, ct := N, bk := D.nx } σ H1 else D.nx σ H1
end

/-! ### what a loop or a comprehension walks -/
/-- at turn i: it yields x (the heap may grow), or it stops -/
structure It where
  go : Nat → Hp → Prop
  yld : Nat → Hp → V → Hp → Prop
  stop : Nat → Hp → Prop
/-- the iterator's own objects may turn: they are not the frame's, not pinned, younger than the entry (or a comprehension's own) -/
def FpOk (X : Cx) (pins : List (Addr × Obj)) (H : Hp) (b : Addr) : Prop :=
  H b = none ∧ b ≠ X.env.locals ∧ b ∉ X.fs ∧ (b ∈ X.ex ∨ X.s₀.heap.objs.size ≤ b) ∧ (∀ x c, X.env.cells.lookup x = some c → c ≠ b) ∧ ∀ p ∈ X.pn ++ pins, p.1 ≠ b
theorem Inv.fpOk {X : Cx} {pins : List (Addr × Obj)} {σ : St} {H H' : Hp} {s : Shared} {b : Addr} (I : Inv X pins σ H s) (hb : s.heap.objs.size ≤ b) (hn : H' b = none) : FpOk X pins H' b := by
  refine ⟨hn, Nat.ne_of_gt (Nat.lt_of_lt_of_le I.lt hb), I.nofs hb, .inr (Nat.le_trans I.sz hb), fun x c e z => ?_, fun p hp z => ?_⟩
  · obtain ⟨v, q⟩ := I.cell x c e
    exact absurd (Nat.lt_of_lt_of_le q.lt (by rw [z]; exact hb)) (Nat.lt_irrefl _)
  · exact absurd (Nat.lt_of_lt_of_le (Heap.lt_size (I.pin p hp).1) (by rw [z]; exact hb)) (Nat.lt_irrefl _)
structure Turn (P : Program) (w : World) (K : PySem.W.Frag) (tg : Expr) (J : It) (fp : List Addr) (it : Addr) (tn : Nat → Heap → Prop) : Prop where
  mem : it ∈ fp
  obj : ∀ i h, tn i h → ∀ b ∈ fp, ∃ o, h.get? b = some o ∧ ∀ v, o.data ≠ .cell v
  keep : ∀ i h h', tn i h → (∀ b ∈ fp, ∀ o, h.get? b = some o → h'.get? b = some o) → tn i h'
  item : ∀ (X : Cx), X.prog = P → X.w = w → X.K = K → X.calm = true → ∀ (i : Nat) (pins : List (Addr × Obj)) (s : Shared) (σ : St) (H : Hp) (E : Value → Shared → Prop), Inv X pins σ H s → (∀ b ∈ fp, FpOk X pins H b) → tn i s.heap → J.go i H →
    wpAny (model P w) X.A (pyNext (.ref it)) (fun r s1 => ∃ u, r = some u ∧
      wpAny (model P w) X.A (letOwnedTupleGo tg (.ref it) u) (fun _ s2 => ∃ x H', Inv X pins σ H' s2 ∧ RelV x u ∧ J.yld i H x H' ∧ tn (i + 1) s2.heap ∧ ∀ b ∈ fp, H' b = none) E s1) E s
  done : ∀ (X : Cx), X.prog = P → X.w = w → X.K = K → X.calm = true → ∀ (i : Nat) (pins : List (Addr × Obj)) (s : Shared) (σ : St) (H : Hp) (E : Value → Shared → Prop), Inv X pins σ H s → (∀ b ∈ fp, FpOk X pins H b) → tn i s.heap → J.stop i H →
    wpAny (model P w) X.A (pyNext (.ref it)) (fun r s1 => r = none ∧ Inv X pins σ H s1) E s
  self : ∀ (A : Around) (i : Nat) (s : Shared) (Q : Value → Shared → Prop) (E : Value → Shared → Prop), tn i s.heap → Q (.ref it) s → wpAny (model P w) A (pyIter (.ref it)) Q E s
abbrev TI := St → Hp → (It → Hp → Prop) → Prop
/-- an iterator has come -/
def PIE (X : Cx) (pins : List (Addr × Obj)) (σ : St) (tg : Expr) (R : It → Hp → Prop) (itv : Value) (s2 : Shared) : Prop :=
  ∃ (it : Addr) (fp : List Addr) (tn : Nat → Heap → Prop) (J : It) (H' : Hp), itv = .ref it ∧ Inv X pins σ H' s2 ∧ Turn X.prog X.w X.K tg J fp it tn ∧ tn 0 s2.heap ∧ (∀ b ∈ fp, FpOk X pins H' b) ∧ R J H'
def PI (X : Cx) (tg iter : Expr) (wi : TI) : Prop :=
  ∀ (pins : List (Addr × Obj)) (s : Shared) (σ : St) (H : Hp) (R : It → Hp → Prop), Inv X pins σ H s → wi σ H R →
    wpAny (model X.prog X.w) X.A (eval iter X.env) (fun v s1 => wpAny (model X.prog X.w) X.A (pyIter v) (PIE X pins σ tg R) X.xe s1) X.xe s

/-- the step ahead of the store is nothing for an iterator that keeps no tuple -/
theorem go_of {M : Model} {A : Around} {E : Value → Shared → Prop} {s : Shared} {tg : Expr} {it : Addr} {u : Value} {o : Obj} {n : String} {vs : Array Value} {Q : Unit → Shared → Prop} (ho : s.heap.get? it = some o) (hc : o.cls = .type n) (hd : o.data = .fields vs)
    (hn : ["enumerate", "zip", "dict_itemiterator", "dict_reverseitemiterator", "odict_iterator", "itertools.zip_longest", "itertools.pairwise"].contains n = false) (hQ : Q () s) : wpAny M A (letOwnedTupleGo tg (.ref it) u) Q E s := by
  unfold letOwnedTupleGo
  cases tg <;> first
    | exact wpAny_pure hQ
    | (cases u <;> first
        | exact wpAny_pure hQ
        | (refine wpAny_bind (wpAny_load ho ?_)
           rw [hc, hd]
           show wpAny M A (if (["enumerate", "zip", "dict_itemiterator", "dict_reverseitemiterator", "odict_iterator", "itertools.zip_longest", "itertools.pairwise"].contains n && vs[0]? == some (rawInt _)) = true then _ else _) Q E s
           rw [if_neg (by intro h; rw [hn, Bool.false_and] at h; cases h)]
           exact wpAny_pure hQ))

/-- the list at a, as it stands at each turn (a loop may append to it) -/
def Itl (K : PySem.W.Frag) (a : Addr) : It :=
  ⟨fun i H => ∃ xs x, SqL K H a xs ∧ xs[i]? = some x, fun i H x H' => H' = H ∧ ∀ xs, SqL K H a xs → xs[i]? = some x, fun i H => ∃ xs, SqL K H a xs ∧ xs.length ≤ i⟩
def Itt (K : PySem.W.Frag) (a : Addr) : It :=
  ⟨fun i H => ∃ xs x, SqT K H a xs ∧ xs[i]? = some x, fun i H x H' => H' = H ∧ ∀ xs, SqT K H a xs → xs[i]? = some x, fun i H => ∃ xs, SqT K H a xs ∧ xs.length ≤ i⟩
/-- lo, lo + 1, .. (n of them) -/
def Itr (lo : Int) (n : Nat) : It := ⟨fun i _ => i < n, fun i H x H' => H' = H ∧ x = .int (lo + i), fun i _ => n ≤ i⟩
theorem turn_list {P : Program} {w : World} {K : PySem.W.Frag} {tg : Expr} (a it : Addr) : Turn P w K tg (Itl K a) [it] it (fun i h => h.IsListIter it a i) where
  mem := by simp
  obj := fun i h st b hb => by
    have e : b = it := by simpa using hb
    subst e
    obtain ⟨o, e, c, d⟩ := st
    exact ⟨o, e, fun v z => by rw [d] at z; cases z⟩
  keep := fun i h h' st k => st.at fun o e => k it (by simp) o e
  item := by
    intro X hP hw hK hc i pins s σ H E I hf st hg
    subst hP hw hK
    obtain ⟨xs, x, hq, hx⟩ := hg
    obtain ⟨its, rv, p, hz⟩ := I.list hq
    obtain ⟨u, hu, ru⟩ := rv.get hx
    obtain ⟨f0, f1, f2, f3, f4, f5⟩ := hf it (by simp)
    refine wpAny_pyNext_list_item st p.isList (x := u) (by simpa using hu) fun h' st' sb => ?_
    have I1 : Inv X pins σ H { s with heap := h' } := I.turned (t' := s.toks) (fun b o hb e => (sb.2 b hb).trans e) f0 f1 f3 f4 f5
    obtain ⟨o, e, c, d⟩ := id st'
    exact ⟨u, rfl, go_of (s := { s with heap := h' }) e c d (by decide) ⟨x, H, I1, ru, ⟨rfl, fun ys hy => by rw [I.list_inj hy hq]; exact hx⟩, st', fun b hb => (hf b hb).1⟩⟩
  done := by
    intro X hP hw hK hc i pins s σ H E I hf st hg
    subst hP hw hK
    obtain ⟨xs, hq, hx⟩ := hg
    obtain ⟨its, rv, p, hz⟩ := I.list hq
    obtain ⟨f0, f1, f2, f3, f4, f5⟩ := hf it (by simp)
    have hl := rv.length
    exact wpAny_pyNext_list_end (I.ok.hd hc) st p.isList (by simp; omega) fun h' eb => ⟨rfl, I.turned (t' := s.toks) (fun b o hb e => eb b o hb e) f0 f1 f3 f4 f5⟩
  self := fun _ _ _ _ _ st h => wpAny_pyIter_listiter st h
theorem turn_tuple {P : Program} {w : World} {K : PySem.W.Frag} {tg : Expr} (a it : Addr) : Turn P w K tg (Itt K a) [it] it (fun i h => h.IsTupleIter it a i) where
  mem := by simp
  obj := fun i h st b hb => by
    have e : b = it := by simpa using hb
    subst e
    obtain ⟨o, e, c, d⟩ := st
    exact ⟨o, e, fun v z => by rw [d] at z; cases z⟩
  keep := fun i h h' st k => st.at fun o e => k it (by simp) o e
  item := by
    intro X hP hw hK hc i pins s σ H E I hf st hg
    subst hP hw hK
    obtain ⟨xs, x, hq, hx⟩ := hg
    obtain ⟨its, rv, p, hz⟩ := I.tuple hq
    obtain ⟨u, hu, ru⟩ := rv.get hx
    obtain ⟨f0, f1, f2, f3, f4, f5⟩ := hf it (by simp)
    refine wpAny_pyNext_tuple_item st (show s.heap.IsTuple a its.toArray from p) (x := u) (by simpa using hu) fun h' st' sb => ?_
    have I1 : Inv X pins σ H { s with heap := h' } := I.turned (t' := s.toks) (fun b o hb e => (sb.2 b hb).trans e) f0 f1 f3 f4 f5
    obtain ⟨o, e, c, d⟩ := id st'
    exact ⟨u, rfl, go_of (s := { s with heap := h' }) e c d (by decide) ⟨x, H, I1, ru, ⟨rfl, fun ys hy => by rw [I.tuple_inj hy hq]; exact hx⟩, st', fun b hb => (hf b hb).1⟩⟩
  done := by
    intro X hP hw hK hc i pins s σ H E I hf st hg
    subst hP hw hK
    obtain ⟨xs, hq, hx⟩ := hg
    obtain ⟨its, rv, p, hz⟩ := I.tuple hq
    obtain ⟨f0, f1, f2, f3, f4, f5⟩ := hf it (by simp)
    have hl := rv.length
    exact wpAny_pyNext_tuple_end (I.ok.hd hc) st (show s.heap.IsTuple a its.toArray from p) (by simp; omega) fun h' eb => ⟨rfl, I.turned (t' := s.toks) (fun b o hb e => eb b o hb e) f0 f1 f3 f4 f5⟩
  self := fun _ _ _ _ _ st h => wpAny_pyIter_tupleiter st h
theorem turn_range {P : Program} {w : World} {K : PySem.W.Frag} {tg : Expr} (it : Addr) (lo : Int) (n : Nat) : Turn P w K tg (Itr lo n) [it] it (fun i h => IsRangeIter h it (lo + (i : Nat) * 1) ((n : Int) - (i : Nat)) 1) where
  mem := by simp
  obj := fun i h st b hb => by
    have e : b = it := by simpa using hb
    subst e
    exact ⟨_, st, fun v z => by
      have z' : Data.fields _ = Data.cell v := z
      cases z'⟩
  keep := fun i h h' st k => k it (by simp) _ st
  item := by
    intro X hP hw hK hc i pins s σ H E I hf st hg
    subst hP hw hK
    obtain ⟨f0, f1, f2, f3, f4, f5⟩ := hf it (by simp)
    have W := Walks.range (prog := X.prog) (w := X.w) (I.ok.hd hc) it lo 1 n
    refine W.item i s _ _ hg st fun v h' tk hv st' kk => ?_
    obtain ⟨t, rfl⟩ := hv
    have I1 : Inv X pins σ H { s with heap := h', toks := tk } := I.turned (fun b o hb e => kk b o (by simpa using hb) e) f0 f1 f3 f4 f5
    refine ⟨_, rfl, go_of (s := { s with heap := h', toks := tk }) (n := "range_iterator") st' rfl rfl (by decide) ⟨.int (lo + i), H, I1, ⟨t, ?_⟩, ⟨rfl, rfl⟩, st', fun b hb => (hf b hb).1⟩⟩
    rw [Int.mul_one]
  done := by
    intro X hP hw hK hc i pins s σ H E I hf st hg
    subst hP hw hK
    obtain ⟨f0, f1, f2, f3, f4, f5⟩ := hf it (by simp)
    exact wpAny_pyNext_range_end (I.ok.hd hc) st (by have : n ≤ i := hg; omega) fun h' eb => ⟨rfl, I.turned (t' := s.toks) (fun b o hb e => eb b o hb e) f0 f1 f3 f4 f5⟩
  self := fun _ _ _ _ _ st h => wpAny_pyIter_rangeiter st h
end L2

namespace L2
open PySem PySem.Spec PyProof.Rows
section
variable {X : Cx} {tg : Expr}
def iList (K : PySem.W.Frag) (tl : TE) : TI := fun σ H R => tl σ H fun x H1 => ∃ a, x = .ref a ∧ (∃ xs, SqL K H1 a xs) ∧ R (Itl K a) H1
def iTup (K : PySem.W.Frag) (tl : TE) : TI := fun σ H R => tl σ H fun x H1 => ∃ a, x = .ref a ∧ (∃ xs, SqT K H1 a xs) ∧ R (Itt K a) H1
/-- a range object just made, walked -/
theorem range_it {pins : List (Addr × Obj)} {σ : St} {H : Hp} {s : Shared} {R : It → Hp → Prop} {E : Value → Shared → Prop} {lo hi : Int} {t u v : Tok} {tk : Nat} (I : Inv X pins σ H s) (h1 : -(2 ^ 62) ≤ lo) (h2 : lo < 2 ^ 62) (h3 : -(2 ^ 62) ≤ hi) (h4 : hi < 2 ^ 62)
    (q : R (Itr lo (hi - lo).toNat) H) : wpAny (model X.prog X.w) X.A (pyIter (.ref s.heap.objs.size)) (PIE X pins σ tg R) E { s with heap := s.heap.push { cls := .type "range", data := .fields #[.int lo t, .int hi u, .int 1 v] }, toks := tk } := by
  refine wpAny_pyIter_range (IsRange.new ..) (small_one h1 h2 h3 h4) ?_
  have I1 : Inv X pins σ H { s with heap := s.heap.push { cls := .type "range", data := .fields #[.int lo t, .int hi u, .int 1 v] }, toks := tk } := I.kept fun b o e => Heap.get?_push_of_some _ e
  refine ⟨(s.heap.push { cls := .type "range", data := .fields #[.int lo t, .int hi u, .int 1 v] }).objs.size, [(s.heap.push { cls := .type "range", data := .fields #[.int lo t, .int hi u, .int 1 v] }).objs.size], _, _, H, rfl,
    I1.kept (t' := tk) fun b o e => Heap.get?_push_of_some _ e, turn_range _ lo (hi - lo).toNat, ?_, fun b hb => ?_, q⟩
  · have e1 : lo + ((0 : Nat) : Int) * 1 = lo := by simp
    have e2 : (((hi - lo).toNat : Nat) : Int) - ((0 : Nat) : Int) = Builtin.Range.rangeSize lo hi 1 := by rw [rangeSize_one]; split <;> omega
    show IsRangeIter _ _ (lo + ((0 : Nat) : Int) * 1) ((((hi - lo).toNat : Nat) : Int) - ((0 : Nat) : Int)) 1
    rw [e1, e2]
    exact Heap.get?_push_size _ rfl
  · have e : b = (s.heap.push { cls := .type "range", data := .fields #[.int lo t, .int hi u, .int 1 v] }).objs.size := by simpa using hb
    subst e
    exact I1.fpOk (Nat.le_refl _) (I1.hok.fresh (Nat.le_refl _))
def iRng1 (ta : TA) : TI := fun σ H R => ta σ H fun vs H1 => ∃ j : Int, vs = [.int j] ∧ -(2 ^ 62) ≤ j ∧ j < 2 ^ 62 ∧ R (Itr 0 j.toNat) H1
def iRng2 (ta : TA) : TI := fun σ H R => ta σ H fun vs H1 => ∃ i j : Int, vs = [.int i, .int j] ∧ (-(2 ^ 62) ≤ i ∧ i < 2 ^ 62 ∧ -(2 ^ 62) ≤ j ∧ j < 2 ^ 62) ∧ R (Itr i (j - i).toNat) H1
theorem pi_range1 {a : Expr} {ta : TA} {p pos : Pos} (hg : Gl X "range") (hm : X.mg "range" = none) (ha : PA X [a] ta) (hs : starEach [a] X.env = [(false, eval a X.env)] := by rfl) : PI X tg (.Call (.Name "range" p) [a] [] pos) (iRng1 ta) := by
  intro pins s σ H R I h
  refine Call_ (ld_blt I hg hm boot_range (PyProof.Rows.callWith_type1 (thn (ha pos pins s σ H _ I h) fun us s1 ⟨vs, H1, I1, r1, q1⟩ => ?_) hs rfl))
  obtain ⟨j, e, q1, q2, q⟩ := q1
  subst e
  cases r1 with
  | cons r rr =>
    cases rr
    obtain ⟨t, rfl⟩ := r
    exact call_range_1 (range_it I1 (by omega) (by omega) q1 q2 (by simpa using q))
theorem pi_range2 {a b : Expr} {ta : TA} {p pos : Pos} (hg : Gl X "range") (hm : X.mg "range" = none) (ha : PA X [a, b] ta) (hs : starEach [a, b] X.env = [(false, eval a X.env), (false, eval b X.env)] := by rfl) (hs2 : starEach [b] X.env = [(false, eval b X.env)] := by rfl) :
    PI X tg (.Call (.Name "range" p) [a, b] [] pos) (iRng2 ta) := by
  intro pins s σ H R I h
  refine Call_ (ld_blt I hg hm boot_range (PyProof.Rows.callWith_type1 (thn (ha pos pins s σ H _ I h) fun us s1 ⟨vs, H1, I1, r1, q1⟩ => ?_) (by rw [hs, hs2]) (by rw [hs2]; rfl)))
  obtain ⟨i, j, e, ⟨q1, q2, q3, q4⟩, q⟩ := q1
  subst e
  cases r1 with
  | cons r rr =>
    cases rr with
    | cons r' rr =>
      cases rr
      obtain ⟨t, rfl⟩ := r
      obtain ⟨t', rfl⟩ := r'
      exact call_range_2 (range_it I1 q1 q2 q3 q4 q)

/-! ### for -/
/-- W: the invariant by the turn and a measure; N: what the body is to reach -/
def tFor (wi : TI) (g : TG) (tb : TS) : TS := fun D σ H => wi σ H fun J H1 => ∃ W : Nat → Nat → St → Hp → Prop, (∃ m, W 0 m σ H1) ∧ ∀ i m σ H, W i m σ H →
  (J.stop i H ∧ D.nx σ H) ∨ (J.go i H ∧ ∃ N : St → Hp → Prop, (∀ σ' H', N σ' H' → ∃ m', m' < m ∧ W (i + 1) m' σ' H') ∧ ∀ x H', J.yld i H x H' → g x σ H' fun σ2 H2 => tb { D with nx := N, ct := N, bk := D.nx } σ2 H2)
/-- the records at fp as they stand -/
def pinsAt (fp : List Addr) (h : Heap) : List (Addr × Obj) := fp.filterMap fun b => (h.get? b).map fun o => (b, o)
theorem mem_pinsAt {fp : List Addr} {h : Heap} {b : Addr} {o : Obj} (hb : b ∈ fp) (e : h.get? b = some o) : (b, o) ∈ pinsAt fp h := List.mem_filterMap.mpr ⟨b, hb, by rw [e]; rfl⟩
theorem of_pinsAt {fp : List Addr} {h : Heap} {p : Addr × Obj} (hp : p ∈ pinsAt fp h) : p.1 ∈ fp ∧ h.get? p.1 = some p.2 := by
  obtain ⟨b, hb, e⟩ := List.mem_filterMap.mp hp
  cases q : h.get? b with
  | none => rw [q] at e; cases e
  | some o =>
    rw [q] at e
    have e' : (b, o) = p := Option.some.inj e
    subst e'
    exact ⟨hb, q⟩
theorem Inv.pinned {pins : List (Addr × Obj)} {σ : St} {H : Hp} {s : Shared} {fp : List Addr} (I : Inv X pins σ H s) (hf : ∀ b ∈ fp, FpOk X pins H b) (ho : ∀ b ∈ fp, ∃ o, s.heap.get? b = some o ∧ ∀ v, o.data ≠ .cell v) : Inv X (pins ++ pinsAt fp s.heap) σ H s :=
  I.pins_of fun p hp => (List.mem_append.mp hp).elim (fun z => I.pin p (List.mem_append_right _ z)) fun z => by
    obtain ⟨hb, e⟩ := of_pinsAt z
    obtain ⟨f0, f1, f2, _⟩ := hf p.1 hb
    obtain ⟨o, e', d⟩ := ho p.1 hb
    rw [e] at e'; cases e'
    exact ⟨e, f0, f1, f2, d⟩
theorem Inv.unpinned {pins pl : List (Addr × Obj)} {σ : St} {H : Hp} {s : Shared} (I : Inv X (pins ++ pl) σ H s) : Inv X pins σ H s := I.pins_of fun p hp => I.pin p (List.mem_append_right _ (List.mem_append_left _ hp))
theorem ps_for {iter : Expr} {body : List Stmt} {wi : TI} {g : TG} {tb : TS} {pos : Pos} (hp : PassesOwn (model X.prog X.w) X.A X.env X.xe) (hc : X.calm = true) (hi : PI X tg iter wi) (hg : PG X tg g) (hb : PSs X body tb)
    (hs : ∀ x, foldedSetIterable iter X.env x = pure x := by intro _; rfl) : PS X (.For tg iter body [] pos) (tFor wi g tb) := by
  intro pins s σ H D I h
  refine wpAny_For (thn (hi pins s σ H _ I h) fun v s1 h1 => thn h1 fun itv s2 h2 => ?_) hs
  obtain ⟨it, fp, tn, J, H2, e, I2, T, st2, f2, W, ⟨m0, w0⟩, turn⟩ := h2
  subst e
  -- what stays true of the iterator's objects through the loop
  have stat : ∀ {H' : Hp}, (∀ b ∈ fp, H' b = none) → ∀ b ∈ fp, FpOk X pins H' b := fun hn b hb => ⟨hn b hb, (f2 b hb).2⟩
  refine codeAny_forLoop_any (fun n s' => ∃ i σ' H', Inv X pins σ' H' s' ∧ tn i s'.heap ∧ (∀ b ∈ fp, H' b = none) ∧ W i n σ' H') ?_ m0 ⟨0, σ, H2, I2, st2, fun b hb => (f2 b hb).1, w0⟩
  rintro n s3 ⟨i, σ3, H3, I3, st3, fr3, w3⟩
  rcases turn i n σ3 H3 w3 with ⟨stop, qn⟩ | ⟨go, N, hN, step⟩
  · refine wpAny_passesOwn hp (thn (T.done X rfl rfl rfl hc i pins s3 σ3 H3 X.xe I3 (stat fr3) st3 stop) fun r s4 ⟨hr, I4⟩ => ?_)
    subst hr
    exact wpAny_execs_nil ⟨σ3, H3, I4, qn⟩
  · refine wpAny_passesOwn hp (thn (T.item X rfl rfl rfl hc i pins s3 σ3 H3 X.xe I3 (stat fr3) st3 go) fun r s4 ⟨u, hr, h4⟩ => ?_)
    subst hr
    refine wpAny_passesOwn hp (thn h4 fun _ s5 ⟨x, H5, I5, r5, y5, st5, fr5⟩ => ?_)
    have I5' := I5.pinned (stat fr5) (T.obj _ _ st5)
    refine wpAny_passesOwn hp (thn (hg _ s5 σ3 H5 x u _ I5' r5 (step x H5 y5)) fun _ s6 ⟨σ6, H6, I6, q6⟩ => ?_)
    refine wpAny_passesOwn hp (thn (hb _ s6 σ6 H6 _ I6 q6) fun f s7 q7 => ?_)
    have again : ∀ {σ7 : St} {H7 : Hp}, Inv X (pins ++ pinsAt fp s5.heap) σ7 H7 s7 → N σ7 H7 → ∃ m, m < n ∧ ∃ i σ' H', Inv X pins σ' H' s7 ∧ tn i s7.heap ∧ (∀ b ∈ fp, H' b = none) ∧ W i m σ' H' := fun {σ7 H7} I7 n7 => by
      obtain ⟨m', hm, w7⟩ := hN σ7 H7 n7
      refine ⟨m', hm, i + 1, σ7, H7, I7.unpinned, T.keep _ _ _ st5 fun b hb o e => (I7.pin (b, o) (List.mem_append_right _ (List.mem_append_right _ (mem_pinsAt hb e)))).1, fun b hb => ?_, w7⟩
      obtain ⟨o, e, d⟩ := T.obj _ _ st5 b hb
      exact (I7.pin (b, o) (List.mem_append_right _ (List.mem_append_right _ (mem_pinsAt hb e)))).2.1
    cases f with
    | next => obtain ⟨σ7, H7, I7, n7⟩ := q7; exact again I7 n7
    | cont => obtain ⟨σ7, H7, I7, n7⟩ := q7; exact again I7 n7
    | brk => obtain ⟨σ7, H7, I7, q7⟩ := q7; exact ⟨σ7, H7, I7.unpinned, q7⟩
    | ret v => obtain ⟨x7, σ7, H7, I7, r7, q7⟩ := q7; exact ⟨x7, σ7, H7, I7.unpinned, r7, q7⟩
end

/-! ### the forms one uses -/
end L2

namespace L2
open PySem PySem.Spec PyProof.Rows

abbrev R2 := V → V → Hp → VK → Prop
/-- a two-place operation on values: f is binaryOp op, inplaceOp op or compareOp op -/
def OpR (X : Cx) (f : Value → Value → Sem Value) (r : R2) : Prop :=
  ∀ (pins : List (Addr × Obj)) (s : Shared) (σ : St) (H : Hp) (x y : V) (v u : Value) (Q : VK), Inv X pins σ H s → RelV x v → RelV y u → r x y H Q →
    wpAny (model X.prog X.w) X.A (f v u) (EP X pins σ Q) X.xe s
/-- a one-place operation -/
def UnR (X : Cx) (f : Value → Sem Value) (r : V → Hp → VK → Prop) : Prop :=
  ∀ (pins : List (Addr × Obj)) (s : Shared) (σ : St) (H : Hp) (x : V) (v : Value) (Q : VK), Inv X pins σ H s → RelV x v → r x H Q →
    wpAny (model X.prog X.w) X.A (f v) (EP X pins σ Q) X.xe s
/-- a call of a value that is known (a builtin, a type) with values -/
def CallR (X : Cx) (f : Value) (r : List V → Hp → VK → Prop) : Prop :=
  ∀ (pins : List (Addr × Obj)) (s : Shared) (σ : St) (H : Hp) (xs : List V) (us : List Value) (Q : VK), Inv X pins σ H s → Vals xs us → r xs H Q →
    wpAny (model X.prog X.w) X.A (call f us) (EP X pins σ Q) X.xe s
/-- a value's truth -/
def TruR (X : Cx) (r : V → Hp → (Bool → Hp → Prop) → Prop) : Prop :=
  ∀ (pins : List (Addr × Obj)) (s : Shared) (σ : St) (H : Hp) (x : V) (v : Value) (Q : Bool → Hp → Prop), Inv X pins σ H s → RelV x v → r x H Q →
    wpAny (model X.prog X.w) X.A (truthy v) (TP X pins σ Q) X.xe s

def tOp (r : R2) (ta tb : TE) : TE := fun σ H Q => ta σ H fun x H1 => tb σ H1 fun y H2 => r x y H2 Q
def tUn (r : V → Hp → VK → Prop) (ta : TE) : TE := fun σ H Q => ta σ H fun x H1 => r x H1 Q
/-- ints in, under C, and a value out -/
def rI (C : Int → Int → Prop) (g : Int → Int → V) : R2 := fun x y H Q => ∃ i j, x = .int i ∧ y = .int j ∧ C i j ∧ Q (g i j) H
def rI0 (g : Int → Int → V) : R2 := fun x y H Q => ∃ i j, x = .int i ∧ y = .int j ∧ Q (g i j) H
def rU (g : Int → V) : V → Hp → VK → Prop := fun x H Q => ∃ i, x = .int i ∧ Q (g i) H

section
variable {X : Cx} {a b c : Expr} {ta tb tc : TE} {pos : Pos}

theorem binT (ha : PE X a ta) (hb : PE X b tb) {pins : List (Addr × Obj)} {s : Shared} {σ : St} {H : Hp} {R : V → V → Hp → Prop} (I : Inv X pins σ H s)
    (h : ta σ H fun x H1 => tb σ H1 fun y H2 => R x y H2) {Q : Value → Shared → Prop} {f : Value → Value → Sem Value}
    (hf : ∀ v u s2 x y H2, Inv X pins σ H2 s2 → RelV x v → RelV y u → R x y H2 → wpAny (model X.prog X.w) X.A (f v u) Q X.xe s2) :
    wpAny (model X.prog X.w) X.A (eval a X.env) (fun v s₁ => wpAny (model X.prog X.w) X.A (eval b X.env) (fun u s₂ => wpAny (model X.prog X.w) X.A (f v u) Q X.xe s₂) X.xe s₁) X.xe s := by
  refine thn (ha pins s σ H _ I h) fun v s1 ⟨x, H1, I1, r1, q1⟩ => ?_
  refine thn (hb pins s1 σ H1 _ I1 q1) fun u s2 ⟨y, H2, I2, r2, q2⟩ => ?_
  exact hf v u s2 x y H2 I2 r1 r2 q2

theorem pe_op {op : Operator} {r : R2} (ho : OpR X (binaryOp op) r) (ha : PE X a ta) (hb : PE X b tb) : PE X (.BinOp a op b pos) (tOp r ta tb) := by
  intro pins s σ H Q I h
  exact wpAny_BinOp (binT ha hb I h fun v u s2 x y H2 I2 rx ry q => ho pins s2 σ H2 x y v u Q I2 rx ry q)
theorem pe_un {op : UnaryOp} {r : V → Hp → VK → Prop} (ho : UnR X (unaryOp op) r) (ha : PE X a ta) : PE X (.UnaryOp op a pos) (tUn r ta) := by
  intro pins s σ H Q I h
  exact UnaryOp_ (thn (ha pins s σ H _ I h) fun v s1 ⟨x, H1, I1, r1, q1⟩ => ho pins s1 σ H1 x v Q I1 r1 q1)
/-! ### ints -/
theorem opI {f : Value → Value → Sem Value} {C : Int → Int → Prop} {g : Int → Int → Int}
    (rule : ∀ (i j : Int) (t u : Tok) (s : Shared) (Q : Value → Shared → Prop) (E : Value → Shared → Prop), C i j → Q (.int (g i j) s.toks) { s with toks := s.toks + 1 } → wpAny (model X.prog X.w) X.A (f (.int i t) (.int j u)) Q E s) :
    OpR X f (rI C fun i j => .int (g i j)) := by
  intro pins s σ H x y v u Q I rx ry h
  obtain ⟨i, j, rfl, rfl, hc, q⟩ := h
  obtain ⟨t, rfl⟩ := rx
  obtain ⟨t', rfl⟩ := ry
  exact rule i j t t' s _ _ hc ⟨.int (g i j), H, I.tok _, ⟨_, rfl⟩, q⟩
theorem opI0 {f : Value → Value → Sem Value} {g : Int → Int → Int}
    (rule : ∀ (i j : Int) (t u : Tok) (s : Shared) (Q : Value → Shared → Prop) (E : Value → Shared → Prop), Q (.int (g i j) s.toks) { s with toks := s.toks + 1 } → wpAny (model X.prog X.w) X.A (f (.int i t) (.int j u)) Q E s) :
    OpR X f (rI0 fun i j => .int (g i j)) := by
  intro pins s σ H x y v u Q I rx ry h
  obtain ⟨i, j, rfl, rfl, q⟩ := h
  obtain ⟨t, rfl⟩ := rx
  obtain ⟨t', rfl⟩ := ry
  exact rule i j t t' s _ _ ⟨.int (g i j), H, I.tok _, ⟨_, rfl⟩, q⟩
theorem opB0 {f : Value → Value → Sem Value} {g : Int → Int → Bool}
    (rule : ∀ (i j : Int) (t u : Tok) (s : Shared) (Q : Value → Shared → Prop) (E : Value → Shared → Prop), Q (.bool (g i j)) s → wpAny (model X.prog X.w) X.A (f (.int i t) (.int j u)) Q E s) :
    OpR X f (rI0 fun i j => .bl (g i j)) := by
  intro pins s σ H x y v u Q I rx ry h
  obtain ⟨i, j, rfl, rfl, q⟩ := h
  obtain ⟨t, rfl⟩ := rx
  obtain ⟨t', rfl⟩ := ry
  exact rule i j t t' s _ _ ⟨.bl (g i j), H, I, rfl, q⟩

def CDiv (i j : Int) : Prop := 0 < j ∧ j < 1073741824
def CDivN (i j : Int) : Prop := j ≠ 0 ∧ j.natAbs < 1073741824
def CPow (i j : Int) : Prop := 0 ≤ j ∧ j ≤ 1000000 ∧ i.natAbs < 2 ^ 64
def CMul (i j : Int) : Prop := (-(2 ^ 64) < i ∧ i < 2 ^ 64) ∨ (-(2 ^ 64) < j ∧ j < 2 ^ 64)
theorem CMul.ok {i j : Int} (h : CMul i j) : IntMulOk i j := by
  rcases h with ⟨h1, h2⟩ | ⟨h1, h2⟩
  · exact .of_left (intBits_le_64 h1 h2)
  · exact .of_right (intBits_le_64 h1 h2)
theorem op_add : OpR X (binaryOp .Add) (rI0 fun i j => .int (i + j)) := opI0 fun _ _ _ _ _ _ _ q => add_int q
theorem op_sub : OpR X (binaryOp .Sub) (rI0 fun i j => .int (i - j)) := opI0 fun _ _ _ _ _ _ _ q => sub_int q
theorem op_mul : OpR X (binaryOp .Mult) (rI CMul fun i j => .int (i * j)) := opI fun _ _ _ _ _ _ _ hc q => mul_int q hc.ok
/-- // by a positive divisor -/
theorem op_fdiv : OpR X (binaryOp .FloorDiv) (rI CDiv fun i j => .int (i / j)) := opI fun i j _ _ _ _ _ hc q => by
  have h1 : (0 : Int) < j := hc.1
  have h2 : j < 1073741824 := hc.2
  exact floordiv_int (by omega) (by rw [Int.fdiv_eq_ediv_of_nonneg i (by omega)]; exact q) (.inl (PyProof.noPylong_small (by omega)))
/-- % by a positive divisor of any size -/
theorem op_mod : OpR X (binaryOp .Mod) (rI (fun _ j => 0 < j) fun i j => .int (i % j)) := opI fun i j _ _ _ _ _ hc q => by
  have h1 : (0 : Int) < j := hc
  exact mod_int' (by omega) (by rw [Int.fmod_eq_emod_of_nonneg i (by omega)]; exact q)
theorem op_pow : OpR X (binaryOp .Pow) (rI CPow fun i j => .int (i ^ j.toNat)) := opI fun _ _ _ _ _ _ _ hc q => pow_int_small hc.1 hc.2.1 hc.2.2 q
theorem unI {f : Value → Sem Value} {g : Int → Int}
    (rule : ∀ (i : Int) (t : Tok) (s : Shared) (Q : Value → Shared → Prop) (E : Value → Shared → Prop), Q (.int (g i) s.toks) { s with toks := s.toks + 1 } → wpAny (model X.prog X.w) X.A (f (.int i t)) Q E s) :
    UnR X f (rU fun i => .int (g i)) := by
  intro pins s σ H x v Q I rx h
  obtain ⟨i, rfl, q⟩ := h
  obtain ⟨t, rfl⟩ := rx
  exact rule i t s _ _ ⟨.int (g i), H, I.tok _, ⟨_, rfl⟩, q⟩
theorem un_neg : UnR X (unaryOp .USub) (rU fun i => .int (-i)) := unI fun _ _ _ _ _ q => neg_int q
/-! ### bools among ints: n += (a < b) -/
end

/-! ### comparisons -/
/-- the scalars that == tells apart as data does -/
def scal : V → V → Bool
  | .non, .non => true | .non, .int _ => true | .int _, .non => true | .non, .bl _ => true | .bl _, .non => true | .non, .str _ => true | .str _, .non => true
  | .int _, .int _ => true | .bl _, .bl _ => true | .str _, .str _ => true | .byt _, .byt _ => true
  | .int _, .str _ => true | .str _, .int _ => true | .bl _, .str _ => true | .str _, .bl _ => true
  | _, _ => false
def rEq : R2 := fun x y H Q => scal x y = true ∧ Q (.bl (decide (x = y))) H
def rNe : R2 := fun x y H Q => scal x y = true ∧ Q (.bl (!decide (x = y))) H

section
variable {X : Cx} {a b c : Expr} {ta tb tc : TE} {pos : Pos}
theorem fin_bl {pins : List (Addr × Obj)} {σ : St} {H : Hp} {s : Shared} {Q : VK} {k k' : Bool} (I : Inv X pins σ H s) (q : Q (.bl k) H) (e : k = k') : EP X pins σ Q (.bool k') s := by
  subst e
  exact ⟨.bl k, H, I, rfl, q⟩
theorem op_lt : OpR X (compareOp .Lt) (rI0 fun i j => .bl (decide (i < j))) := opB0 fun _ _ _ _ _ _ _ q => lt_int q
theorem op_le : OpR X (compareOp .LtE) (rI0 fun i j => .bl (decide (i ≤ j))) := opB0 fun _ _ _ _ _ _ _ q => le_int q
theorem op_gt : OpR X (compareOp .Gt) (rI0 fun i j => .bl (decide (j < i))) := opB0 fun _ _ _ _ _ _ _ q => gt_int q
theorem op_ge : OpR X (compareOp .GtE) (rI0 fun i j => .bl (decide (j ≤ i))) := opB0 fun _ _ _ _ _ _ _ q => ge_int q
theorem op_notin_str : OpR X (compareOp .NotIn) (fun x y H Q => ∃ i j, x = .str i ∧ y = .str j ∧ Q (.bl (!(!(Builtin.Str.occurrences j i 0 j.length 1).isEmpty))) H) := by
  intro pins s σ H x y v u Q I rx ry h
  obtain ⟨i, j, rfl, rfl, q⟩ := h
  obtain ⟨t, rfl⟩ := rx
  obtain ⟨t', rfl⟩ := ry
  exact notIn_str (fin_bl I q rfl)
/-- is, is not of two objects that are tracked lists or instances -/
def isObj : HO → Bool
  | .lst _ => true
  | .ins _ _ _ => true
  | _ => false
/-- two rules for one operation: by cases -/
theorem OpR.or {f : Value → Value → Sem Value} {r r' : R2} (h : OpR X f r) (h' : OpR X f r') : OpR X f (fun x y H Q => r x y H Q ∨ r' x y H Q) := by
  intro pins s σ H x y v u Q I rx ry q
  rcases q with q | q
  · exact h pins s σ H x y v u Q I rx ry q
  · exact h' pins s σ H x y v u Q I rx ry q

theorem nomark (b : Expr) {op : CmpOp} (h : op ≠ .In := by decide) (h2 : op ≠ .NotIn := by decide) : behindInMarks op b = false := by
  have e1 : (op == CmpOp.In) = false := by cases op <;> first | rfl | exact absurd rfl h
  have e2 : (op == CmpOp.NotIn) = false := by cases op <;> first | rfl | exact absurd rfl h2
  cases b <;> simp [behindInMarks, e1, e2]
/-- a comparison as a value; hm: nomark b, or (for in, not in) by with_unfolding_all rfl -/
theorem pe_cmpR {op : CmpOp} {r : R2} (ho : OpR X (compareOp op) r) (ha : PE X a ta) (hb : PE X b tb) (hm : behindInMarks op b = false) : PE X (.Compare a [op] [b] pos) (tOp r ta tb) := by
  intro pins s σ H Q I h
  exact wpAny_Compare1 (binT ha hb I h fun v u s2 x y H2 I2 rx ry q => ho pins s2 σ H2 x y v u Q I2 rx ry q) hm
/-- a reading of a value as a test -/
def tTest (t : TE) : TT := fun σ H Q => t σ H fun x H' => ∃ k, x = .bl k ∧ Q k H'
theorem pt_cmpR {op : CmpOp} {r : R2} (ho : OpR X (compareOp op) r) (ha : PE X a ta) (hb : PE X b tb) (hm : behindInMarks op b = false) : PT X (.Compare a [op] [b] pos) (tTest (tOp r ta tb)) := by
  intro pins s σ H Q I h
  refine wpAny_isTrue_Compare1 (thn (ha pins s σ H _ I h) fun v s1 ⟨x, H1, I1, r1, q1⟩ => thn (hb pins s1 σ H1 _ I1 q1) fun u s2 ⟨y, H2, I2, r2, q2⟩ =>
    thn (ho pins s2 σ H2 x y v u _ I2 r1 r2 q2) fun c s3 ⟨z, H3, I3, r3, k, e, q3⟩ => ?_) hm
  subst e
  cases r3
  exact wpAny_truthy_bool ⟨H3, I3, q3⟩
/-- a op1 b op2 c -/
def tChain (r r' : R2) (ta tb tc : TE) : TE := fun σ H Q => ta σ H fun x H1 => tb σ H1 fun y H2 => r x y H2 fun z H3 => ∃ k, z = .bl k ∧
  (if k = true then tc σ H3 fun w' H4 => r' y w' H4 Q else Q (.bl false) H3)
theorem pt_chain {op op' : CmpOp} {r r' : R2} (ho : OpR X (compareOp op) r) (ho' : OpR X (compareOp op') r') (ha : PE X a ta) (hb : PE X b tb) (hc : PE X c tc)
    (hm : lastMarks [op, op'] [b, c] = false := by with_unfolding_all rfl) : PT X (.Compare a [op, op'] [b, c] pos) (tTest (tChain r r' ta tb tc)) := by
  intro pins s σ H Q I h
  refine isTrue_chain (thn (ha pins s σ H _ I h) fun v s1 ⟨x, H1, I1, r1, q1⟩ => test_link (thn (hb pins s1 σ H1 _ I1 q1) fun u s2 ⟨y, H2, I2, r2, q2⟩ =>
    thn (ho pins s2 σ H2 x y v u _ I2 r1 r2 q2) fun d s3 ⟨z, H3, I3, r3, k, e, q3⟩ => ?_)) hm
  subst e
  cases r3
  refine wpAny_truthy_bool ?_
  cases k with
  | false =>
    obtain ⟨k', e', q'⟩ := q3
    cases e'
    exact ite_ff ⟨H3, I3, q'⟩
  | true =>
    refine ite_tt (test_last (thn (hc pins s3 σ H3 _ I3 q3) fun w' s4 ⟨z', H4, I4, r4, q4⟩ => thn (ho' pins s4 σ H4 y z' u w' _ I4 r2 r4 q4) fun d' s5 ⟨z2, H5, I5, r5, k2, e2, q5⟩ => ?_))
    subst e2
    cases r5
    exact wpAny_truthy_bool ⟨H5, I5, q5⟩

/-! ### truth -/
/-- a value's truth by the abstract heap -/
def TruV (K : PySem.W.Frag) (x : V) (H : Hp) (k : Bool) : Prop :=
  match x with
  | .non => k = false
  | .bl b => k = b
  | .int i => k = (i != 0)
  | .str y => y.length ≤ sizeLine ∧ k = ((y.length : Int) != 0)
  | .byt y => y.size ≤ sizeLine ∧ k = ((y.size : Int) != 0)
  | .ref p => (∃ xs, SqL K H p xs ∧ k = !xs.isEmpty) ∨ (∃ xs, SqT K H p xs ∧ k = !xs.isEmpty) ∨ ∃ kvs, H p = some (.dK kvs) ∧ k = !kvs.isEmpty
  | _ => False
theorem line63 : (sizeLine : Nat) < 2 ^ 63 := by rw [sizeLine_eq]; decide
/-! ### strs and bytes -/
theorem op_add_str : OpR X (binaryOp .Add) (fun x y H Q => ∃ i j, x = .str i ∧ y = .str j ∧ i.length + j.length ≤ sizeLine ∧ Q (.str (i ++ j)) H) := by
  intro pins s σ H x y v u Q I rx ry h
  obtain ⟨i, j, rfl, rfl, hz, q⟩ := h
  obtain ⟨t, rfl⟩ := rx
  obtain ⟨t', rfl⟩ := ry
  exact add_str (fun t' tk => ⟨.str (i ++ j), H, I.tok _, ⟨_, rfl⟩, q⟩) hz
def PlainIxT (b : Expr) : Prop := ∀ o i, subscripted b false o i = operate [o, i] (getItem o i)
/-! ### scalar builtins, by CallR -/
theorem vals1 {x : V} {us : List Value} (r : Vals [x] us) : ∃ u, us = [u] ∧ RelV x u := by
  cases r with
  | cons r1 r2 => cases r2; exact ⟨_, rfl, r1⟩
theorem call_int1 : CallR X (.type "int") (fun xs H Q => (∃ i, xs = [.int i] ∧ Q (.int i) H) ∨ ∃ k, xs = [.bl k] ∧ Q (.int (if k then 1 else 0)) H) := by
  intro pins s σ H xs us Q I r h
  rcases h with ⟨i, rfl, q⟩ | ⟨k, rfl, q⟩
  · obtain ⟨u, rfl, t, rfl⟩ := vals1 r
    exact call_int_int ⟨.int i, H, I, ⟨_, rfl⟩, q⟩
  · obtain ⟨u, rfl, r1⟩ := vals1 r
    cases r1
    exact call_int_bool ⟨.int (if k then 1 else 0), H, I.tok _, ⟨_, rfl⟩, q⟩
theorem call_str_int : CallR X (.type "str") (fun xs H Q => ∃ i, xs = [.int i] ∧ i.natAbs.log2 < 1920 ∧ Q (.str (toString i)) H) := by
  intro pins s σ H xs us Q I r h
  obtain ⟨i, rfl, hz, q⟩ := h
  obtain ⟨u, rfl, t, rfl⟩ := vals1 r
  exact PySem.P.str_of_int hz ⟨.str _, H, I.tok _, ⟨_, rfl⟩, q⟩
/-- len of a str, a bytes, a list, a tuple -/
def LenV (K : PySem.W.Frag) (x : V) (H : Hp) (n : Nat) : Prop :=
  match x with
  | .str y => y.length ≤ sizeLine ∧ n = y.length
  | .byt y => y.size ≤ sizeLine ∧ n = y.size
  | .ref p => (∃ xs, SqL K H p xs ∧ n = xs.length) ∨ ∃ xs, SqT K H p xs ∧ n = xs.length
  | _ => False
end
end L2

namespace L2
open PySem PySem.Spec PyProof.Rows

/-! ### an instance, its attributes a map -/
structure ObjM (h : Heap) (x dx C : Addr) (mA : Str → Option Value) : Prop where
  obj : h.get? x = some (PySem.W.instObj C dx)
  ns : h.Ns1 dx mA
  ne : dx ≠ x

theorem lookIn_ns {h : Heap} {dx : Addr} {mA : Str → Option Value} (n : h.Ns1 dx mA) : ∃ od, h.get? dx = some od ∧ ∀ name, PySem.W.lookIn name od = some (mA name) := by
  obtain ⟨o, es, ep, ho, hd, hk, _, hm⟩ := n
  refine ⟨o, ho, fun name => ?_⟩
  have e := hm name
  unfold nsFind findBy at e
  rw [← Array.find?_toList] at e
  unfold PySem.W.lookIn
  rw [hd]
  dsimp only
  split
  · rename_i y q
    rw [q] at e
    exact congrArg some e
  · rename_i q
    rw [q] at e
    have a : es.toList.any (·.refKey) = false := by
      rw [List.any_eq_false]
      intro y hy
      obtain ⟨z, t, hkey⟩ := hk y (Array.mem_toList_iff.mp hy)
      simp [DictEntry.refKey, hkey]
    have a' : ¬ es.toList.any (·.refKey) = true := by rw [a]; exact Bool.false_ne_true
    rw [if_neg a']
    exact congrArg some e

theorem ObjM.look {h : Heap} {x dx C : Addr} {mA : Str → Option Value} (I : ObjM h x dx C mA) : ∃ od, PySem.W.InstAt h x (PySem.W.instObj C dx) C (some od) ∧ ∀ name, PySem.W.lookIn name od = some (mA name) :=
  let ⟨od, ho, hl⟩ := lookIn_ns I.ns
  ⟨od, ⟨I.obj, rfl, rfl, ho⟩, hl⟩

section
variable {prog : Program} {w : World} {A : Around} {E : Value → Shared → Prop} {s : Shared} {K : PySem.W.Frag} {x dx C f : Addr} {mA : Str → Option Value} {name : Str} {v : Value}

end

/-! ### the attributes as a list of pairs -/
def putF (f : Str) (v : V) : List (Str × V) → List (Str × V)
  | [] => [(f, v)]
  | (g, x) :: r => if g = f then (g, v) :: r else (g, x) :: putF f v r
theorem RelO.some_of {v : V} {o : Option Value} (r : RelO (some v) o) : ∃ u, o = some u ∧ RelV v u := by
  cases o with
  | none => exact (show False from r).elim
  | some u => exact ⟨u, rfl, r⟩
section
variable {P : Program} {w : World} {H H' : Hp} {h h' : Heap} {a C dx : Addr} {fs fs' : List (Str × V)}
theorem ins_get (hok : HOk P w H h) (e : H a = some (.ins C dx fs)) : ∃ mA, ObjM h a dx C mA ∧ (∀ f, RelO (fs.lookup f) (mA f)) ∧ PySem.Within mA (fs.map (·.1)) ∧ fs.length ≤ 1000 ∧ H dx = some (.own a) := by
  obtain ⟨d, z, ne, ob, mA, n, r, q⟩ := (show ObjOk P w H h a (.ins C dx fs) from hok a _ e)
  exact ⟨mA, ⟨ob, n, ne⟩, r, q, z, d⟩
end

/-! ### what of the text a class must have -/
structure Cls (K : PySem.W.Frag) (C : Addr) : Prop where
  pg : PySem.W.plainGet K C Str.empty = true
  hd : PySem.W.hasDictIn K C = true
  po : PySem.W.plainOver K C = true
  sa : PySem.W.findIn K (.ref C) "__setattr__" = some (some (.builtin "object.__setattr__"))
theorem Cls.get {K : PySem.W.Frag} {C : Addr} (c : Cls K C) (f : Str) : PySem.W.plainGet K C f = true := c.pg
/-- no class of it has the name -/
def NoAttr (K : PySem.W.Frag) (C : Addr) (f : Str) : Prop := PySem.W.findIn K (.ref C) f = some none
/-- a constant of the class -/
structure Con (K : PySem.W.Frag) (C : Addr) (f : Str) (v : V) (u : Value) : Prop where
  at_ : PySem.W.findIn K (.ref C) f = some (some u)
  rel : RelV v u
  get : PySem.W.specialIn K u "__get__" = some none
  cp : PySem.W.copiedNames.contains f = false
/-- a method: a plain def of the class or of one above it -/
structure Meth (K : PySem.W.Frag) (C : Addr) (m : Str) (f : Addr) : Prop where
  at_ : PySem.W.findIn K (.ref C) m = some (some (.ref f))
  fn : PySem.W.isFn K (.ref f) = true
  kp : PySem.W.keepIn K (.ref f) = true

section
variable {X : Cx} {pins : List (Addr × Obj)} {σ : St} {H : Hp} {s : Shared} {a C dx : Addr} {fs : List (Str × V)} {f : Str} {v : V} {A : Around} {E : Value → Shared → Prop}

end

/-! ### readings and rules -/
/-- e.f, an attribute of the instance -/
def tFld (K : PySem.W.Frag) (ta : TE) (f : Str) : TE := fun σ H Q => ta σ H fun x H1 => ∃ a C dx fs v, x = .ref a ∧ H1 a = some (.ins C dx fs) ∧ Cls K C ∧ NoAttr K C f ∧ fs.lookup f = some v ∧ Q v H1
/-- e.f, a constant of the class -/
def tCon (K : PySem.W.Frag) (ta : TE) (f : Str) : TE := fun σ H Q => ta σ H fun x H1 => ∃ a C dx fs v u, x = .ref a ∧ H1 a = some (.ins C dx fs) ∧ Cls K C ∧ Con K C f v u ∧ fs.lookup f = none ∧ Q v H1
/-- e.f = value -/
def sFld (K : PySem.W.Frag) (ta tv : TE) (f : Str) : TS := fun D σ H => tv σ H fun y H1 => ta σ H1 fun x H2 => ∃ a C dx fs, x = .ref a ∧ H2 a = some (.ins C dx fs) ∧ Cls K C ∧ NoAttr K C f ∧ fs.length < 1000 ∧
  D.nx σ (upd H2 a (.ins C dx (putF f y fs)))
/-- an augmented operator on two values -/
def InOp (X : Cx) (op : Operator) (rd : V → V → Hp → VK → Prop) : Prop :=
  ∀ (pins : List (Addr × Obj)) (s : Shared) (σ : St) (H : Hp) (x y : V) (u v : Value) (Q : VK), Inv X pins σ H s → RelV x u → RelV y v → rd x y H Q → wpAny (model X.prog X.w) X.A (inplaceOp op u v) (EP X pins σ Q) X.xe s
/-- e.f op= value -/
def sFldAug (K : PySem.W.Frag) (ta tv : TE) (rd : V → V → Hp → VK → Prop) (f : Str) : TS := fun D σ H => ta σ H fun x H1 => ∃ a C dx fs v, x = .ref a ∧ H1 a = some (.ins C dx fs) ∧ Cls K C ∧ NoAttr K C f ∧ fs.lookup f = some v ∧
  tv σ H1 fun y H2 => rd v y H2 fun z H3 => ∃ dx' fs', H3 a = some (.ins C dx' fs') ∧ fs'.length < 1000 ∧ D.nx σ (upd H3 a (.ins C dx' (putF f z fs')))

section
variable {X : Cx} {o e value : Expr} {f : Str} {pos pos' tpos : Pos} {ta tv : TE}
def rAdd : V → V → Hp → VK → Prop := fun x y H Q => ∃ i j, x = .int i ∧ y = .int j ∧ Q (.int (i + j)) H
def rSub : V → V → Hp → VK → Prop := fun x y H Q => ∃ i j, x = .int i ∧ y = .int j ∧ Q (.int (i - j)) H
end

/-! ### isinstance -/
section
variable {X : Cx} {pins : List (Addr × Obj)} {σ : St} {H : Hp} {s : Shared} {A : Around} {E : Value → Shared → Prop} {Q : Value → Shared → Prop} {c : Value} {b : Bool}
/-- the type of a value, as the fragment's deciders take it; for an instance its class -/
inductive TyOf (K : PySem.W.Frag) (H : Hp) : V → Value → Prop where
  | non : TyOf K H .non (.type "NoneType")
  | bl (x : Bool) : TyOf K H (.bl x) (.type "bool")
  | int (i : Int) : TyOf K H (.int i) (.type "int")
  | str (x : Str) : TyOf K H (.str x) (.type "str")
  | flt (x : UInt64) : TyOf K H (.flt x) (.type "float")
  | lst {a : Addr} {xs : List V} (e : H a = some (.lst xs)) : TyOf K H (.ref a) (.type "list")
  | frz {a : Addr} {o : Obj} {xs : List V} (e : H a = some (.frz o (.lst xs))) : TyOf K H (.ref a) (.type "list")
  | tup {a : Addr} {xs : List V} (e : H a = some (.tup xs)) : TyOf K H (.ref a) (.type "tuple")
  | dK {a : Addr} {kvs : List (Key × V)} (e : H a = some (.dK kvs)) : TyOf K H (.ref a) (.type "dict")
  | dT {a : Addr} {kvs : List (List Key × V)} (e : H a = some (.dT kvs)) : TyOf K H (.ref a) (.type "dict")
  | ins {a C dx : Addr} {fs : List (Str × V)} (e : H a = some (.ins C dx fs)) (cl : Cls K C) (ha : PySem.W.findIn K (.ref C) "__class__" = some (some (.builtin "object.__class__")))
      (hn : PySem.W.specialIn K (.builtin "object.__class__") "__get__" = some (some (.builtin "getset_descriptor.__get__"))) (htk : PySem.W.takesIn K (.builtin "object.__class__") = some true)
      (hm : PySem.W.mroIn K C (.type "object") = some true) : TyOf K H (.ref a) (.ref C)
/-- isinstance(x, c) for one class c, a built-in or an own one: kitOne's answer -/
theorem isinst_ok {x : V} {u t : Value} (I : Inv X pins σ H s) (rx : RelV x u) (ty : TyOf X.K H x t) (e : PySem.W.kitOne X.K t c = some b) (h : ∀ tk, Q (.bool b) { s with toks := tk }) :
    wpAny (model X.prog X.w) A (call (.builtin "isinstance") [u, c]) Q E s := by
  cases ty with
  | non => cases (show u = Value.none from rx); exact PySem.W.kia_one PySem.W.kitx_none I.kIn True.intro e (fun z => nomatch z) h
  | bl y => cases (show u = Value.bool y from rx); exact PySem.W.kia_one PySem.W.kitx_bool I.kIn True.intro e (fun z => nomatch z) h
  | int i => obtain ⟨t, q⟩ := (show ∃ t, u = Value.int i t from rx); cases q; exact PySem.W.kia_one PySem.W.kitx_int I.kIn True.intro e (fun z => nomatch z) h
  | str y => obtain ⟨t, q⟩ := (show ∃ t, u = Value.str y t from rx); cases q; exact PySem.W.kia_one PySem.W.kitx_str I.kIn True.intro e (fun z => nomatch z) h
  | flt y => obtain ⟨t, q⟩ := (show ∃ t, u = Value.float y t from rx); cases q; exact PySem.W.kia_one PySem.W.kitx_float I.kIn True.intro e (fun z => nomatch z) h
  | @lst a xs ea =>
    cases (show u = Value.ref a from rx)
    obtain ⟨_, _, n, _, h1⟩ := (show ObjOk X.prog X.w H s.heap a (.lst xs) from I.hok a _ ea)
    exact PySem.W.kia_one PySem.W.kitx_list I.kIn ⟨_, h1, rfl⟩ e (fun z => nomatch z) h
  | @frz a ob xs ea =>
    cases (show u = Value.ref a from rx)
    obtain ⟨_, _, _, n, _, h1⟩ := (show ObjOk X.prog X.w H s.heap a (.frz ob (.lst xs)) from I.hok a _ ea)
    exact PySem.W.kia_one PySem.W.kitx_list I.kIn ⟨_, h1, rfl⟩ e (fun z => nomatch z) h
  | @tup a xs ea =>
    cases (show u = Value.ref a from rx)
    obtain ⟨_, _, _, p⟩ := (show ObjOk X.prog X.w H s.heap a (.tup xs) from I.hok a _ ea)
    obtain ⟨o, h1, h2, _⟩ := p
    exact PySem.W.kia_one PySem.W.kitx_tuple I.kIn ⟨o, h1, h2⟩ e (fun z => nomatch z) h
  | @dK a kvs ea =>
    cases (show u = Value.ref a from rx)
    obtain ⟨_, _, vs, _, p⟩ := (show ObjOk X.prog X.w H s.heap a (.dK kvs) from I.hok a _ ea)
    obtain ⟨o, es, ep, h1, h2, _⟩ := p
    exact PySem.W.kia_one PySem.W.kitx_dict I.kIn ⟨o, h1, h2.1⟩ e (fun z => nomatch z) h
  | @dT a kvs ea =>
    cases (show u = Value.ref a from rx)
    obtain ⟨_, _, xs, _, o, es, ep, h1, h2, _⟩ := (show ObjOk X.prog X.w H s.heap a (.dT kvs) from I.hok a _ ea)
    exact PySem.W.kia_one PySem.W.kitx_dict I.kIn ⟨o, h1, h2.1⟩ e (fun z => nomatch z) h
  | @ins a C dx fs ea cl ha hn htk hm =>
    cases (show u = Value.ref a from rx)
    obtain ⟨mA, O, _⟩ := ins_get I.hok ea
    obtain ⟨od, J, _⟩ := O.look
    exact PySem.W.kia_one (PySem.W.kitx_own (cl.get _) cl.hd ha hn htk hm) I.kIn J e (fun z => nomatch z) h
end
end L2

namespace L2
open PySem PySem.Spec PyProof.Rows

/-! ### room -/
structure Room (k : Nat) (A : Around) : Prop where
  hd : A.handled = none
  dp : A.depth + 3 * k + 5 < recursionLimit
  un : A.units + 16 * k + 200 < cLine
theorem Room.mono {j k : Nat} {A : Around} (r : Room k A) (h : j ≤ k) : Room j A := ⟨r.hd, by have := r.dp; omega, by have := r.un; omega⟩
theorem Room.deeper {k : Nat} {A : Around} (r : Room (k + 1) A) (env : Env) : Room k (A.deeper env) :=
  ⟨r.hd, by have := r.dp; show A.depth + 1 + 3 * k + 5 < _; omega, by have := r.un; show A.units + 3 + 16 * k + 200 < _; omega⟩
theorem Room.in1 {k : Nat} {A : Around} (r : Room (k + 1) A) : Room k A.in1 :=
  ⟨r.hd, by have := r.dp; show A.depth + 3 * k + 5 < _; omega, by have := r.un; show A.units + 1 + 16 * k + 200 < _; omega⟩
theorem Room.depth {k : Nat} {A : Around} (r : Room k A) : A.depth < recursionLimit := by have := r.dp; omega
theorem Room.units {k : Nat} {A : Around} (r : Room k A) : A.units + 64 < cLine := by have := r.un; omega
/-! ### argument lists and displays -/
def tNil : TA := fun _ H Q => Q [] H
def tCons (ta : TE) (tr : TA) : TA := fun σ H Q => ta σ H fun x H1 => tr σ H1 fun xs H2 => Q (x :: xs) H2
section
variable {X : Cx} {e : Expr} {es : List Expr} {te : TE} {t : TA} {pos : Pos}
theorem pa_nil : PA X [] tNil := fun _ _ _ _ H Q I h => Calls.spliced_nil ⟨[], H, I, .nil, h⟩
theorem pa_cons (ha : PE X e te) (hr : PA X es t) (hs : starEach (e :: es) X.env = (false, eval e X.env) :: starEach es X.env := by rfl) : PA X (e :: es) (tCons te t) := by
  intro pos pins s σ H Q I h
  rw [hs]
  show wpAny _ _ (spliced ((false, eval e X.env) :: backTo pos (starEach es X.env))) _ _ s
  refine Calls.spliced_cons (thn (ha pins s σ H _ I h) fun u s1 ⟨x, H1, I1, r1, q1⟩ => ?_)
  exact thn (hr pos pins s1 σ H1 _ I1 q1) fun us s2 ⟨xs, H2, I2, r2, q2⟩ => ⟨x :: xs, H2, I2, .cons r1 r2, q2⟩

/-- a tuple, a list of written items -/
def tTup (t : TA) : TE := fun σ H Q => t σ H fun xs H1 => xs.length ≤ sizeLine ∧ ∀ p, H1 p = none → Q (.ref p) (upd H1 p (.tup xs))
def tLst (t : TA) : TE := fun σ H Q => t σ H fun xs H1 => xs.length ≤ sizeLine ∧ ∀ p, H1 p = none → Q (.ref p) (upd H1 p (.lst xs))
theorem pe_tup {x1} (h : PA X es t) : PE X (.Tuple es x1 pos) (tTup t) := by
  intro pins s σ H Q I hq
  refine wpAny_Tuple_spliced (thn (h pos pins s σ H _ I hq) fun us s1 ⟨xs, H1, I1, r, z, q⟩ => ⟨by rw [← r.length]; exact z, ?_⟩)
  have hf : H1 s1.heap.objs.size = none := I1.hok.fresh (Nat.le_refl _)
  refine ⟨.ref s1.heap.objs.size, upd H1 s1.heap.objs.size (.tup xs), I1.laid (t' := s1.toks) (fun b u e => Heap.get?_push_of_some _ e) (Nat.le_refl _) ?_, rfl, q _ hf⟩
  exact ⟨z, us, r, ⟨_, Heap.get?_push_size _ rfl, rfl, _, rfl⟩⟩
theorem pe_lst (h : PA X es t) : PE X (.List es pos) (tLst t) := by
  intro pins s σ H Q I hq
  refine wpAny_List_spliced (thn (h pos pins s σ H _ I hq) fun us s1 ⟨xs, H1, I1, r, z, q⟩ => ⟨by rw [← r.length]; exact z, ?_⟩)
  have hf : H1 s1.heap.objs.size = none := I1.hok.fresh (Nat.le_refl _)
  refine ⟨.ref s1.heap.objs.size, upd H1 s1.heap.objs.size (.lst xs), I1.laid (t' := s1.toks) (fun b u e => Heap.get?_push_of_some _ e) (Nat.le_refl _) ?_, rfl, q _ hf⟩
  exact ⟨z, us, 0, r, Heap.get?_push_size _ rfl⟩
end

/-! ### what a def promises -/
/-- a def's promise: the bound arguments in the parameters' order, the heap, the wanted end, the wanted exception -/
abbrev Sp := List V → Hp → VK → XK → Prop
/-- how an exception lies behind a call (file 08 gives it): the callers' frames, abstract heap and state ahead of the call, the wish, the exception, the state -/
abbrev CXT := List Env → Hp → Shared → XK → Value → Shared → Prop

/-- the state at a call -/
structure Env0 (P : Program) (w : World) (K : PySem.W.Frag) (mg : Str → Option Value) (base : Heap) (A : Around) (outer : List Env) (s : Shared) (H : Hp) : Prop where
  frames : A.frames = some outer
  mod : Mod K mg base
  bs : ∀ b o, base.get? b = some o → s.heap.get? b = some o ∧ H b = none
  bsz : base.objs.size ≤ s.heap.objs.size
  funs : s.heap.FunFrames base outer
  frf : ∀ b ∈ frs outer, H b = none
  hok : HOk P w H s.heap
  bare : AllBare s.gens
/-- a call's end -/
def CE (outer : List Env) (P : Program) (w : World) (H : Hp) (s : Shared) (Q : VK) (u : Value) (s' : Shared) : Prop :=
  ∃ v H', s'.os = s.os ∧ AllBare s'.gens ∧ Un (frs outer) [] H H' s.heap s'.heap ∧ HOk P w H' s'.heap ∧ RelV v u ∧ Q v H'
def CR (CX : CXT) (outer : List Env) (P : Program) (w : World) (H : Hp) (s : Shared) (Q : VK) (E : XK) (r : Result) (s' : Shared) : Prop :=
  match r with
  | .ok (.ret u) => CE outer P w H s Q u s'
  | .ok _ => False
  | .error e => CX outer H s E e s'
structure FnOk (P : Program) (w : World) (K : PySem.W.Frag) (mg : Str → Option Value) (base : Heap) (CX : CXT) (k : Nat) (f : Addr) (fd : FuncData) (ps : List Str) (sp : Sp) : Prop where
  len : ∀ vs H Q E, sp vs H Q E → vs.length = ps.length
  run : ∀ (A : Around) (outer : List Env) (s : Shared) (H : Hp) (args : Args) (us : List Value) (vs : List V) (Q : VK) (E : XK), Room k A → Env0 P w K mg base A outer s H → BindsTo s fd args (ps.zip us) → Vals vs us → sp vs H Q E →
    codeAny (model P w) A (.call (.ref f) args) (CR CX outer P w H s Q E) s
theorem FnOk.mono {P : Program} {w : World} {K : PySem.W.Frag} {mg : Str → Option Value} {base : Heap} {CX : CXT} {j k : Nat} {f : Addr} {fd : FuncData} {ps : List Str} {sp : Sp} (F : FnOk P w K mg base CX j f fd ps sp) (h : j ≤ k) :
    FnOk P w K mg base CX k f fd ps sp := ⟨F.len, fun A outer s H args us vs Q E hr => F.run A outer s H args us vs Q E (hr.mono h)⟩
theorem Env0.in1 {P : Program} {w : World} {K : PySem.W.Frag} {mg : Str → Option Value} {base : Heap} {A : Around} {outer : List Env} {s : Shared} {H : Hp} (e : Env0 P w K mg base A outer s H) :
    Env0 P w K mg base A.in1 outer s H := ⟨e.frames, e.mod, e.bs, e.bsz, e.funs, e.frf, e.hok, e.bare⟩

section
variable {X : Cx} {pins : List (Addr × Obj)} {σ : St} {H : Hp} {s s' : Shared}
/-- from a body: what a callee wants -/
theorem Inv.env0 (I : Inv X pins σ H s) : Env0 X.prog X.w X.K X.mg X.base X.A X.stack s H :=
  ⟨I.ok.frames, I.ok.mod, I.bs, Nat.le_trans I.ok.bsz I.sz, I.stack, I.stkFree, I.hok, I.bare⟩
/-- behind a call -/
theorem Inv.after {Q : VK} {u : Value} (I : Inv X pins σ H s) (h : CE X.stack X.prog X.w H s Q u s') : EP X pins σ Q u s' := by
  obtain ⟨v, H', os, bare, un, hok, r, q⟩ := h
  obtain ⟨hh, g, d, t, os'⟩ := s'
  obtain rfl : os' = s.os := os
  exact ⟨v, H', I.call (h' := hh) (g' := g) (d' := d) (t' := t) (ch := []) un hok bare (fun b z => absurd z (by simp)), r, q⟩
end

/-! ### calls -/
/-- f(..): the written arguments, then the defaults dvs; E: what is wanted of an exception -/
def tCall (sp : Sp) (dvs : List V) (E : XK) (t : TA) : TE := fun σ H Q => t σ H fun vs H1 => sp (vs ++ dvs) H1 Q E
/-- o.m(..) of an instance of the class at C -/
def tMeth (C : Addr) (m : Str) (sp : Sp) (dvs : List V) (E : XK) (ta : TE) (t : TA) : TE := fun σ H Q => ta σ H fun x H1 => ∃ a dx fs, x = .ref a ∧ H1 a = some (.ins C dx fs) ∧ fs.lookup m = none ∧
  t σ H1 fun vs H2 => sp (x :: (vs ++ dvs)) H2 Q E
/-- C(..): a new instance and its dict, then __init__ -/
def tMake (C : Addr) (sp : Sp) (dvs : List V) (E : XK) (t : TA) : TE := fun σ H Q => t σ H fun vs H1 => ∀ x dx, H1 x = none → H1 dx = none → dx ≠ x →
  sp (.ref x :: (vs ++ dvs)) (upd (upd H1 dx (.own x)) x (.ins C dx [])) (fun v H2 => v = .non ∧ Q (.ref x) H2) E

/-- how the parameters are bound: us the positional arguments, kw the keywords' values by name, ds the defaults that fill up -/
def Binds (K : PySem.W.Frag) (fd : FuncData) (ps : List Str) (ds : List Value) : Prop :=
  ∀ (s : Shared) (us : List Value), K.In s.heap → (us ++ ds).length = ps.length → BindsTo s fd ⟨us, []⟩ (ps.zip (us ++ ds))
/-- every parameter is given -/
theorem Binds.all {K : PySem.W.Frag} {fd : FuncData} {ps : List Str} (h : ∀ us : List Value, us.length = ps.length → bindArgs fd ⟨us, []⟩ = pure (ps.zip us)) : Binds K fd ps [] := fun s us _ hl => by
  rw [List.append_nil] at hl ⊢
  exact .of_eq (h us hl)

/-- an exception of a callee reaches what this body wants of exceptions -/
def Passes (CX : CXT) (X : Cx) (E : XK) : Prop := ∀ (pins : List (Addr × Obj)) (σ : St) (H : Hp) (s : Shared) (e : Value) (s' : Shared), Inv X pins σ H s → CX X.stack H s E e s' → X.xe e s'

section
variable {X : Cx} {CX : CXT} {k : Nat} {f C : Addr} {fd : FuncData} {ps : List Str} {sp : Sp} {dvs : List V} {ds : List Value} {E : XK} {x m : Str} {p pos apos : Pos} {e o : Expr} {es : List Expr} {ta : TE} {t : TA}

/-- the callee runs -/
theorem run_fn {pins : List (Addr × Obj)} {σ : St} {H : Hp} {s : Shared} {Q : VK} {us : List Value} {vs : List V} (F : FnOk X.prog X.w X.K X.mg X.base CX k f fd ps sp) (hr : Room k X.A) (hb : Binds X.K fd ps ds) (hd : Vals dvs ds) (hx : Passes CX X E)
    (I : Inv X pins σ H s) (r : Vals vs us) (h : sp (vs ++ dvs) H Q E) : wpAny (model X.prog X.w) X.A (call (.ref f) us) (EP X pins σ Q) X.xe s := by
  have r2 : Vals (vs ++ dvs) (us ++ ds) := r.append hd
  have hl : (us ++ ds).length = ps.length := by rw [← r2.length]; exact F.len _ _ _ _ h
  refine wpAny_call (codeAny_mono (F.run X.A X.stack s H ⟨us, []⟩ (us ++ ds) (vs ++ dvs) Q E hr I.env0 (hb s us I.kIn hl) r2 h) fun r s' hq => ?_)
  cases r with
  | error e => exact hx pins σ H s e s' I hq
  | ok fl =>
    cases fl with
    | ret u => exact I.after hq
    | next => exact False.elim hq
    | brk => exact False.elim hq
    | cont => exact False.elim hq

theorem pe_call (F : FnOk X.prog X.w X.K X.mg X.base CX k f fd ps sp) (hr : Room k X.A) (hg : Gl X x) (hm : X.mg x = some (.ref f)) (hk : PySem.W.keepIn X.K (.ref f) = true) (hb : Binds X.K fd ps ds) (hd : Vals dvs ds) (hx : Passes CX X E)
    (ha : PA X (e :: es) t) (hdb : (x == ("__debug__" : Str)) = false := by decide) (he : starEach (e :: es) X.env = (false, eval e X.env) :: starEach es X.env := by rfl) (hpl : (backTo pos (starEach es X.env)).any (·.1) = false := by rfl) :
    PE X (.Call (.Name x p) (e :: es) [] pos) (tCall sp dvs E t) := by
  intro pins s σ H Q I h
  refine wpAny_Call_Name_kw (ld_glob I hg hm ?_ hdb)
  refine PySem.W.callWith_K (h₀ := X.base) I.ok.mod.kin hk (thn (ha pos pins s σ H _ I h) fun us s1 ⟨vs, H1, I1, r, q⟩ => ⟨I1.kIn, ?_⟩) he hpl
  exact run_fn F hr hb hd hx I1 r q
/-- what a class must have to be made -/
structure Mk (K : PySem.W.Frag) (C f : Addr) : Prop where
  makes : PySem.W.makesIn K C = true
  init : PySem.W.findIn K (.ref C) "__init__" = some (some (.ref f))
  fn : PySem.W.isFn K (.ref f) = true
  kp : PySem.W.keepIn K (.ref C) = true

end

/-! ### keywords -/
/-- the values of the keywords, from the left -/
def PK (X : Cx) (kws : List Keyword) (t : TA) : Prop :=
  ∀ (pos : Pos) (pins : List (Addr × Obj)) (s : Shared) (σ : St) (H : Hp) (Q : List V → Hp → Prop), Inv X pins σ H s → t σ H Q → wpAny (model X.prog X.w) X.A (evalAll ((backToKw pos (keywordEach kws X.env)).map (·.2))) (AP X pins σ Q) X.xe s
section
variable {X : Cx} {CX : CXT} {k : Nat} {f C : Addr} {fd : FuncData} {ps ks : List Str} {sp : Sp} {E : XK} {x m : Str} {p pos apos kpos : Pos} {e o : Expr} {es : List Expr} {kws : List Keyword} {te ta : TE} {t tk : TA} {nm : Option Str}
/-- how a call with keywords binds: g puts the positional values us and the keywords' values ws (names ks) in the parameters' order, defaults among them -/
structure KBinds (K : PySem.W.Frag) (fd : FuncData) (ps ks : List Str) (g : List Value → List Value → List Value) (gV : List V → List V → List V) : Prop where
  to : ∀ (s : Shared) (us ws : List Value), K.In s.heap → (g us ws).length = ps.length → BindsTo s fd ⟨us, ks.zip ws⟩ (ps.zip (g us ws))
  rel : ∀ {vs : List V} {us : List Value} {zs : List V} {ws : List Value}, Vals vs us → Vals zs ws → Vals (gV vs zs) (g us ws)
def tCallK (sp : Sp) (gV : List V → List V → List V) (E : XK) (t tk : TA) : TE := fun σ H Q => t σ H fun vs H1 => tk σ H1 fun zs H2 => sp (gV vs zs) H2 Q E
variable {g : List Value → List Value → List Value} {gV : List V → List V → List V}
end

/-! ### a def's body keeps its promise -/
/-- names: the parameters first -/
structure FnScope (N P : List Str) (sc : Scope) : Prop where
  kind : sc.kind = .function
  co : sc.isCoroutine = false
  gen : sc.isGenerator = false
  nd : N.Nodup
  pre : N.take P.length = P
  par : ∀ x ∈ P, sc.names.lookup x = some .local ∨ sc.names.lookup x = some .cell
  nofree : ∀ y ∈ sc.names, y.2 ≠ .free

theorem bindL_out {kindOf : Str → Option NameKind} {x : Str} : ∀ {binds : List (Str × Value)} {m : Str → Option Value}, (∀ v, (x, v) ∉ binds) → bindL kindOf binds m x = m x
  | [], _, _ => rfl
  | (n, v) :: r, m, h => by
    unfold bindL
    rw [bindL_out fun w hw => h w (List.mem_cons_of_mem _ hw)]
    split
    · have : x ≠ n := by rintro rfl; exact h v List.mem_cons_self
      simp [this]
    · rfl
theorem bindC_out {kindOf : Str → Option NameKind} {x : Str} : ∀ {binds : List (Str × Value)} {m : Str → Option Value}, (∀ v, (x, v) ∉ binds) → bindC kindOf binds m x = m x
  | [], _, _ => rfl
  | (n, v) :: r, m, h => by
    unfold bindC
    rw [bindC_out fun w hw => h w (List.mem_cons_of_mem _ hw)]
    split
    · rfl
    · have : x ≠ n := by rintro rfl; exact h v List.mem_cons_self
      simp [this]
theorem bindL_get {kindOf : Str → Option NameKind} {x : Str} {v : Value} : ∀ {P : List Str} {vs : List Value} {i : Nat} {m : Str → Option Value}, P.Nodup → P[i]? = some x → vs[i]? = some v → kindOf x = some .local →
    bindL kindOf (P.zip vs) m x = some v
  | [], _, _, _, _, h, _, _ => by simp at h
  | _ :: _, [], _, _, _, _, h, _ => by simp at h
  | p :: P, w :: vs, 0, m, nd, h1, h2, hk => by
    simp at h1 h2; subst h1; subst h2
    show bindL kindOf ((p, w) :: P.zip vs) m p = _
    unfold bindL
    rw [bindL_out fun v hv => (List.nodup_cons.mp nd).1 (List.of_mem_zip hv).1, if_pos hk]
    simp
  | p :: P, w :: vs, i + 1, m, nd, h1, h2, hk => by
    show bindL kindOf ((p, w) :: P.zip vs) m x = _
    unfold bindL
    exact bindL_get (i := i) (List.nodup_cons.mp nd).2 (by simpa using h1) (by simpa using h2) hk
theorem bindC_get {kindOf : Str → Option NameKind} {x : Str} {v : Value} : ∀ {P : List Str} {vs : List Value} {i : Nat} {m : Str → Option Value}, P.Nodup → P[i]? = some x → vs[i]? = some v → kindOf x ≠ some .local →
    bindC kindOf (P.zip vs) m x = some v
  | [], _, _, _, _, h, _, _ => by simp at h
  | _ :: _, [], _, _, _, _, h, _ => by simp at h
  | p :: P, w :: vs, 0, m, nd, h1, h2, hk => by
    simp at h1 h2; subst h1; subst h2
    show bindC kindOf ((p, w) :: P.zip vs) m p = _
    unfold bindC
    rw [bindC_out fun v hv => (List.nodup_cons.mp nd).1 (List.of_mem_zip hv).1, if_neg hk]
    simp
  | p :: P, w :: vs, i + 1, m, nd, h1, h2, hk => by
    show bindC kindOf ((p, w) :: P.zip vs) m x = _
    unfold bindC
    exact bindC_get (i := i) (List.nodup_cons.mp nd).2 (by simpa using h1) (by simpa using h2) hk

/-- the names' values at the entry -/
def start (N : List Str) (vs : List V) : St := vs.map some ++ List.replicate (N.length - vs.length) none

/-- the context of a def's body, at its entry; an exception leaves the frame, then lies as CX says -/
def cxOf (CX : CXT) (P : Program) (w : World) (K : PySem.W.Frag) (mg : Str → Option Value) (base : Heap) (N : List Str) (qual : Str) (scope : Scope) (f : Addr) (cd : Value) (A : Around) (outer : List Env) (s : Shared) (H : Hp) (E : XK) : Cx where
  prog := P
  w := w
  K := K
  mg := mg
  base := base
  A := A.deeper (envOfC qual scope s.heap.objs.size f cd)
  N := N
  s₀ := s
  H₀ := H
  env := envOfC qual scope s.heap.objs.size f cd
  outer := outer
  stack := envOfC qual scope s.heap.objs.size f cd :: outer
  ex := []
  calm := true
  fn := fun _ => true
  pn := []
  xe := fun e s' => wpAny (model P w) (A.deeper (envOfC qual scope s.heap.objs.size f cd)) (leaving (envOfC qual scope s.heap.objs.size f cd) e) (fun _ s'' => CX outer H s E e s'') (fun e' s'' => CX outer H s E e' s'') s'

theorem cell_has {sc : Scope} {n : Nat} {x : Str} (h : sc.names.lookup x = some .cell) : ∃ c, (cellsFrom n sc.names []).lookup x = some c := by
  have q := PySem.W.cellsFrom_some sc.names n [] (.inl h)
  exact Option.isSome_iff_exists.mp q

theorem inv_start {CX : CXT} {P : Program} {w : World} {K : PySem.W.Frag} {mg : Str → Option Value} {base : Heap} {N ps : List Str} {qual : Str} {scope : Scope} {f : Addr} {cd : Value} {A : Around} {outer : List Env} {s s1 : Shared} {H : Hp} {E : XK} {us : List Value} {vs : List V}
    (S : FnScope N ps scope) (hd : A.handled = none) (e0 : Env0 P w K mg base A outer s H) (hl : vs.length = ps.length) (r : Vals vs us)
    (x : InCallC s s.heap.objs.size (bindL (envOfC qual scope s.heap.objs.size f cd).kindOf (ps.zip us) fun _ => none) (cellsFrom (s.heap.objs.size + 1) scope.names []) (bindC (envOfC qual scope s.heap.objs.size f cd).kindOf (ps.zip us) fun _ => none) s1) :
    Inv (cxOf CX P w K mg base N qual scope f cd A outer s H E) [] (start N vs) H s1 := by
  have hpl : ps.length ≤ N.length := by have := congrArg List.length S.pre; rw [List.length_take] at this; omega
  obtain ⟨h1, tk, rfl, hk⟩ := x.done
  have noA : ∀ b : Addr, b ∉ (cxOf CX P w K mg base N qual scope f cd A outer s H E).ex := fun b z => absurd (show b ∈ ([] : List Addr) from z) (by simp)
  refine ⟨⟨e0.mod, S.kind, rfl, rfl, Nat.le_refl _, fun y z c h1 h2 => ?_, fun y hy => ?_, fun y c _ h => ?_, fun _ => hd, Around.frames_deeper e0.frames, .inr ⟨rfl, rfl⟩, fun b z => absurd z (noA b), e0.bs, e0.bsz, fun b _ _ => noA b, fun b z => absurd z (noA b), e0.funs, e0.frf⟩,
    rfl, e0.bare, Un.kept hk, ⟨_, x.toInCall.ns, fun i y v h1 h2 h3 => ?_⟩, fun y c h => ⟨_, x.cell y c h⟩, e0.hok.fresh (Nat.le_refl _), fun y c h => ?_, fun p hp => absurd (show p ∈ ([] : List (Addr × Obj)) from hp) (by simp), e0.hok.kept hk, ?_⟩
  · exact name_of_addr x.apart (PySem.mem_of_lookup h1) (PySem.mem_of_lookup h2)
  · have hy : scope.names.lookup y = some .cell ∨ scope.names.lookup y = some .free := hy
    rcases hy with hy | hy
    · exact cell_has hy
    · exact absurd rfl (S.nofree _ (PySem.mem_of_lookup hy))
  · exact Nat.le_of_lt (x.above y c (PySem.mem_of_lookup h))
  · have hi : i < vs.length := by
      unfold start at h2
      by_cases hi : i < vs.length
      · exact hi
      · rw [List.getElem?_append_right (by simpa using hi)] at h2
        rw [List.getElem?_replicate] at h2
        split at h2 <;> cases h2
    have ha : vs[i]? = some v := by
      unfold start at h2
      rw [List.getElem?_append_left (by simpa using hi), List.getElem?_map] at h2
      cases e : vs[i]? with
      | none => rw [e] at h2; cases h2
      | some a => rw [e] at h2; cases h2; rfl
    obtain ⟨u, hu, rv⟩ := r.get ha
    have hp : ps[i]? = some y := by
      rw [← S.pre, List.getElem?_take_of_lt (by omega)]; exact h1
    have ndP : ps.Nodup := by rw [← S.pre]; exact S.nd.sublist (List.take_sublist _ _)
    refine ⟨u, rv, ?_⟩
    rcases S.par y (List.mem_of_getElem? hp) with k | k
    · exact .inl ⟨k, bindL_get ndP hp hu k⟩
    · obtain ⟨c, e⟩ := cell_has (n := s.heap.objs.size + 1) k
      refine .inr ⟨.inl k, c, e, ?_⟩
      have q := x.cell y c e
      rw [bindC_get ndP hp hu (by show scope.names.lookup y ≠ _; rw [k]; decide)] at q
      exact q
  · exact e0.hok.fresh (Nat.le_of_lt (x.above y c (PySem.mem_of_lookup h)))
  · unfold start
    show _ = N.length
    rw [List.length_append, List.length_map, List.length_replicate]
    omega

/-- THE RULE: a def (or a method) of the text, by its body. The body's reading t is chosen for each entry; it is run at the parameters' values -/
theorem fn_of {CX : CXT} {P : Program} {w : World} {K : PySem.W.Frag} {mg : Str → Option Value} {base : Heap} {k : Nat} {f : Addr} {name qual : Str} {params : Arguments} {body : List Stmt} {scope : Scope} {dV kV doc pm cdv ct oc : Value} {an od : Option Addr}
    {osl : Array (Option Value)} {N ps : List Str} {sp : Sp} (lk : K.lookup f = some ⟨oc, od, .func (PySem.W.fnOf name qual params body scope dV kV doc pm an cdv ct), osl⟩) (hcd : PySem.W.codeIn K cdv qual = true) (S : FnScope N ps scope)
    (len : ∀ vs H Q E, sp vs H Q E → vs.length = ps.length)
    (hbody : ∀ (A : Around) (outer : List Env) (s : Shared) (H : Hp) (vs : List V) (Q : VK) (E : XK), Room k (A.deeper (envOfC qual scope s.heap.objs.size f cdv)) → sp vs H Q E →
      ∃ t, PSs (cxOf CX P w K mg base N qual scope f cdv A outer s H E) body t ∧ t { nx := fun _ H' => Q .non H', rt := Q } (start N vs) H) :
    FnOk P w K mg base CX (k + 1) f (PySem.W.fnOf name qual params body scope dV kV doc pm an cdv ct) ps sp := by
  refine ⟨len, fun A outer s H args us vs Q E hr e0 hb r hsp => ?_⟩
  have hl := len _ _ _ _ hsp
  have KX : K.In s.heap := e0.mod.kin.keeps fun b o e => (e0.bs b o e).1
  have lim : s.heap.NoLimit := e0.mod.nolimit.keeps fun b o e => (e0.bs b o e).1
  have hkind : ∀ y ∈ ps.zip us, scope.names.lookup y.1 = some .local ∨ (scope.names.lookup y.1 = some .cell ∧ ((cellsFrom (s.heap.objs.size + 1) scope.names []).lookup y.1).isSome = true) := fun ⟨n, v⟩ hy => by
    rcases S.par n (List.of_mem_zip hy).1 with q | q
    · exact .inl q
    · exact .inr ⟨q, PySem.W.cellsFrom_some _ _ _ (.inl q)⟩
  refine codeAny_call_function hr.depth (KX _ _ lk) rfl S.co S.gen rfl (PySem.W.codeRec_of KX hcd) (hb _ _ _ _ ?_)
  refine wpAny_newFunctionEnv_cells S.kind hkind fun env he s1 x => ?_
  subst he
  refine ⟨lim.keeps x.toInCall.keep, codeAny_func ?_⟩
  obtain ⟨t, ht, hq⟩ := hbody A outer s H vs Q E (hr.deeper _) hsp
  have I : Inv (cxOf CX P w K mg base N qual scope f cdv A outer s H E) [] (start N vs) H s1 := inv_start S hr.hd e0 hl r x
  refine wpAny_mono (ht [] s1 (start N vs) H _ I hq) (fun fl s' hs => ?_) fun e s' hs => hs
  have fin : ∀ {σ' : St} {H' : Hp} {v : V} {u : Value}, Inv (cxOf CX P w K mg base N qual scope f cdv A outer s H E) [] σ' H' s' → RelV v u → Q v H' → CE outer P w H s Q u s' :=
    fun {σ' H' v u} J rv q => ⟨v, H', J.os, J.bare, J.base, J.hok, rv, q⟩
  cases fl with
  | ret u =>
    obtain ⟨v, σ', H', J, rv, q⟩ := hs
    exact fin J rv q
  | next =>
    obtain ⟨σ', H', J, q⟩ := hs
    exact fin (v := V.non) (u := Value.none) J rfl q
  | brk =>
    obtain ⟨_, _, _, q⟩ := hs
    exact False.elim q
  | cont =>
    obtain ⟨_, _, _, q⟩ := hs
    exact False.elim q
end L2

namespace L2
open PySem PySem.Spec PyProof.Rows
section
variable {X : Cx} {x : Str} {p pos : Pos} {e : Expr} {es : List Expr} {t : TA} {id T : String} {r : List V → Hp → VK → Prop}

def tCB (r : List V → Hp → VK → Prop) (t : TA) : TE := fun σ H Q => t σ H fun vs H1 => r vs H1 Q
/-- f(e, ..), f a built-in function -/
theorem pe_callB (hc : CallR X (.builtin id) r) (hg : Gl X x) (hm : X.mg x = none) (hv : bootBuiltins x = some (.builtin id)) (ha : PA X (e :: es) t) (hn : x ≠ "__name__" := by decide) (hdb : (x == ("__debug__" : Str)) = false := by decide)
    (he : starEach (e :: es) X.env = (false, eval e X.env) :: starEach es X.env := by rfl) (hpl : (backTo pos (starEach es X.env)).any (·.1) = false := by rfl) : PE X (.Call (.Name x p) (e :: es) [] pos) (tCB r t) := by
  intro pins s σ H Q I h
  refine wpAny_Call_Name_kw (ld_blt I hg hm hv ?_ hn hdb)
  exact PyProof.Rows.callWith_builtin1 (thn (ha pos pins s σ H _ I h) fun us s1 ⟨vs, H1, I1, r1, q1⟩ => hc pins s1 σ H1 vs us Q I1 r1 q1) he hpl
/-- T(e, ..), T a built-in type -/
theorem pe_callTy (hc : CallR X (.type T) r) (hg : Gl X x) (hm : X.mg x = none) (hv : bootBuiltins x = some (.type T)) (ha : PA X (e :: es) t) (hn : x ≠ "__name__" := by decide) (hdb : (x == ("__debug__" : Str)) = false := by decide)
    (he : starEach (e :: es) X.env = (false, eval e X.env) :: starEach es X.env := by rfl) (hpl : (backTo pos (starEach es X.env)).any (·.1) = false := by rfl) : PE X (.Call (.Name x p) (e :: es) [] pos) (tCB r t) := by
  intro pins s σ H Q I h
  refine wpAny_Call_Name_kw (ld_blt I hg hm hv ?_ hn hdb)
  exact PyProof.Rows.callWith_type1 (thn (ha pos pins s σ H _ I h) fun us s1 ⟨vs, H1, I1, r1, q1⟩ => hc pins s1 σ H1 vs us Q I1 r1 q1) he hpl
end
end L2

namespace HT
open PySem PyProof.Rows

/-- t < u of tuples of ints -/
def lexLt : List Int → List Int → Bool
  | [], [] => false
  | [], _ :: _ => true
  | _ :: _, [] => false
  | x :: xs, y :: ys => if x = y then lexLt xs ys else decide (x < y)
section
open PySem.SeqAt
open PySem.AutoSeq1 (wpAny_loadPart')
open PySem.MeetsSeq PySem.MeetsSeq2 PySem.MeetsSeq3

end

section
variable {prog : Program} {w : World} {A : Around} {E : Value → Shared → Prop} {s : Shared}

/-- t + u, t not empty -/
theorem cat_tup {t b : Addr} {vs ws : List Value} {Q : Value → Shared → Prop} (ht : IsTup s.heap t vs.toArray) (hb : IsTup s.heap b ws.toArray) (hv : vs ≠ [])
    (h1 : ws = [] → Q (.ref t) s) (h2 : ws ≠ [] → Q (.ref s.heap.objs.size) { s with heap := s.heap.push { cls := .type "tuple", data := .seq (vs ++ ws).toArray } })
    (hsz : vs.length + ws.length ≤ sizeLine) : wpAny (model prog w) A (binaryOp .Add (.ref t) (.ref b)) Q E s := by
  obtain ⟨⟨cls, dd, data, sl⟩, ho, hc, n, hd⟩ := id ht
  obtain ⟨⟨cls2, dd2, data2, sl2⟩, ho2, hc2, n2, hd2⟩ := id hb
  simp only at hc hd hc2 hd2
  subst hc hd hc2 hd2
  have e : vs.toArray ++ ws.toArray = (vs ++ ws).toArray := by simp
  by_cases hw : ws = []
  · exact concat_meets ⟨_, ho, rfl⟩ ⟨_, ho2, rfl⟩ noFill_tuple_add seq_tuple_add PySem.F.slot_tuple_add PySem.F.entry_tuple_add (PySem.F.args_tuple_add_2 _ _)
      (tuple_addW1 t b vs.toArray ws.toArray n n2 dd dd2 sl sl2 (by simpa using hv) (by simp [hw])) ⟨ho, ho2, h1 hw⟩
  · refine concat_meets ⟨_, ho, rfl⟩ ⟨_, ho2, rfl⟩ noFill_tuple_add seq_tuple_add PySem.F.slot_tuple_add PySem.F.entry_tuple_add (PySem.F.args_tuple_add_2 _ _)
      (tuple_addW2 t b vs.toArray ws.toArray n n2 dd dd2 sl sl2 (by simpa using hv) (by simpa using hw) (by rw [List.size_toArray, List.size_toArray]; exact hsz)) ⟨ho, ho2, ?_⟩
    rw [e]
    exact h2 hw

/-! ### t[a:b], not the whole -/
/-- a slice's bound as a place among n (d where it is left out) -/
def sIx (n d : Nat) : Option Int → Nat
  | none => d
  | some v => if v < 0 then (v + (n : Int)).toNat else min v.toNat n
theorem sIx_le (n d : Nat) (hd : d ≤ n) (o : Option Int) : sIx n d o ≤ n := by
  cases o with
  | none => exact hd
  | some v =>
    show (if v < 0 then (v + (n : Int)).toNat else min v.toNat n) ≤ n
    by_cases hv : v < 0
    · rw [if_pos hv]; omega
    · rw [if_neg hv]; exact Nat.min_le_right _ _
theorem clip_eq (v : Int) (n d : Nat) : (if v < 0 then max (v + (n : Int)) 0 else min v (n : Int)) = ((sIx n d (some v) : Nat) : Int) := by
  show (if v < 0 then max (v + (n : Int)) 0 else min v (n : Int)) = (((if v < 0 then (v + (n : Int)).toNat else min v.toNat n) : Nat) : Int)
  by_cases hv : v < 0
  · simp only [if_pos hv]; omega
  · simp only [if_neg hv]; omega
theorem adjust_gen (lo hi : Option Int) (n : Nat) : Builtin.Slice.sliceAdjust lo hi 1 (n : Int) = (((sIx n 0 lo : Nat) : Int), ((sIx n n hi : Nat) : Int)) := by
  have h1 : ¬ ((1 : Int) < 0) := by omega
  unfold Builtin.Slice.sliceAdjust
  simp only [h1, if_false]
  refine Prod.ext ?_ ?_
  · cases lo with
    | none => rfl
    | some v => exact clip_eq v n 0
  · cases hi with
    | none => rfl
    | some v => exact clip_eq v n n
theorem places_gen (i j : Nat) : Builtin.Slice.slicePlaces (i : Int) (j : Int) 1 = j - i := by
  unfold Builtin.Slice.slicePlaces
  have h1 : (1 : Int) > 0 := by omega
  simp only [h1, if_true, Int.ediv_one]
  split <;> omega
theorem slicePart_ {v : Value} {o : Option Int} {Q : Option Int → Shared → Prop} (p : IsPart v o) (h : Q o s) : wpAny (model prog w) A (Builtin.Slice.slicePartIndex v) Q E s := by
  cases p with
  | none => exact slicePart_none h
  | int i t => exact slicePart_int h
theorem sliceApplied_gen {sl : Addr} {vl vu : Value} {lo hi : Option Int} {n : Nat} {Q : Int × Int × Nat → Shared → Prop} (hs : s.heap.IsSliceOf sl vl vu .none) (pl : IsPart vl lo) (pu : IsPart vu hi)
    (h : Q (((sIx n 0 lo : Nat) : Int), 1, sIx n n hi - sIx n 0 lo) s) : wpAny (model prog w) A (Builtin.Slice.sliceApplied (.ref sl) (pure (n : Int))) Q E s := by
  obtain ⟨os, hos, hcs, hds⟩ := id hs
  unfold Builtin.Slice.sliceApplied Builtin.Slice.sliceFields
  refine wpAny_bind (wpAny_bind (wpAny_field hos hds (x := vl) rfl (wpAny_bind (wpAny_field hos hds (x := vu) rfl (wpAny_bind (wpAny_field hos hds (x := .none) rfl (wpAny_pure ?_)))))))
  refine wpAny_bind (slicePart_none ?_)
  show wpAny _ _ (if ((1 : Int) == 0) = true then _ else _) _ _ s
  rw [if_neg (by decide)]
  refine wpAny_bind (slicePart_ pl (wpAny_bind (slicePart_ pu (wpAny_bind (wpAny_pure ?_)))))
  show wpAny _ _ (match Builtin.Slice.sliceAdjust lo hi 1 (n : Int) with | (lo, hi) => pure (lo, (1 : Int), Builtin.Slice.slicePlaces lo hi 1)) _ _ s
  rw [adjust_gen lo hi n]
  show wpAny _ _ (pure (((sIx n 0 lo : Nat) : Int), (1 : Int), Builtin.Slice.slicePlaces ((sIx n 0 lo : Nat) : Int) ((sIx n n hi : Nat) : Int) 1)) _ _ s
  rw [places_gen]
  exact wpAny_pure h
theorem pick_gen (xs : Array Value) (i k : Nat) : ((List.range k).filterMap fun (m : Nat) => xs[((i : Int) + (m : Int) * 1).toNat]?).toArray = ((xs.toList.drop i).take k).toArray := by
  have e : (fun (m : Nat) => xs[((i : Int) + (m : Int) * 1).toNat]?) = fun m => xs[i + m]? := by
    funext m
    have : ((i : Int) + (m : Int) * 1).toNat = i + m := by omega
    rw [this]
  rw [e]
  have := pick_run xs i k
  rw [List.filterMap_map] at this
  have e2 : ((fun x => xs[x]?) ∘ fun x => i + x) = fun m => xs[i + m]? := rfl
  rw [e2] at this
  rw [this]

theorem getItem_tuple_cut {t sl : Addr} {items : Array Value} {vl vu : Value} {lo hi : Option Int} {Q : Value → Shared → Prop} (ht : IsTup s.heap t items) (hs : s.heap.IsSliceOf sl vl vu .none) (pl : IsPart vl lo) (pu : IsPart vu hi)
    (hw : ¬ (sIx items.size 0 lo = 0 ∧ sIx items.size items.size hi = items.size))
    (h : Q (.ref s.heap.objs.size) { s with heap := s.heap.push { cls := .type "tuple", data := .seq ((items.toList.drop (sIx items.size 0 lo)).take (sIx items.size items.size hi - sIx items.size 0 lo)).toArray } })
    (hsz : items.size ≤ sizeLine) : wpAny (model prog w) A (getItem (.ref t) (.ref sl)) Q E s := by
  have htake : sizeOk (.seq ((items.toList.drop (sIx items.size 0 lo)).take (sIx items.size items.size hi - sIx items.size 0 lo)).toArray) := by
    show ((items.toList.drop (sIx items.size 0 lo)).take (sIx items.size items.size hi - sIx items.size 0 lo)).toArray.size ≤ sizeLine
    rw [List.size_toArray, List.length_take, List.length_drop, Array.length_toList]
    omega
  have hj : sIx items.size items.size hi ≤ items.size := sIx_le _ _ (Nat.le_refl _) hi
  obtain ⟨os, hos, hcs, hds⟩ := id hs
  have hTs : s.TypeIs (.ref sl) "slice" := ⟨os, hos, hcs⟩
  unfold getItem
  try with_reducible refine wpAny_holding ?_
  first | refine wpAny_bind (wpAny_pure ?_) | skip
  refine wpAny_bind (wpAny_sequenceKey ht.typeIs (by decide) ?_)
  refine wpAny_bind (wpAny_callSpecial?_slot (name := Str.ofString "__getitem__") ht.typeIs PyProof.Rows.slot_tuple_getitem
    (wpAny_call_entry PyProof.Rows.slot_tuple_getitem ht.typeIs entry_tuple_getitem ?_ (args_tuple_getitem _ _)))
  show wpAny _ _ (Builtin.Tuple.tupleItemsOf (.ref t) >>= _) _ _ s
  refine wpAny_bind (tupleItemsOf_ ht ?_)
  refine wpAny_bind (wpAny_typeOf hTs ?_)
  rw [if_pos (by decide)]
  refine wpAny_bind (sliceApplied_gen hs pl pu ?_)
  have hno : ¬ ((((sIx items.size 0 lo : Nat) : Int) == 0 && (1 : Int) == 1 && (sIx items.size items.size hi - sIx items.size 0 lo) == items.size) = true) := by
    intro q
    rw [Bool.and_eq_true, Bool.and_eq_true] at q
    have q1 : ((sIx items.size 0 lo : Nat) : Int) = 0 := eq_of_beq q.1.1
    have q2 : sIx items.size items.size hi - sIx items.size 0 lo = items.size := eq_of_beq q.2
    exact hw ⟨by omega, by omega⟩
  show wpAny _ _ (if (((sIx items.size 0 lo : Nat) : Int) == 0 && (1 : Int) == 1 && (sIx items.size items.size hi - sIx items.size 0 lo) == items.size) = true then _ else _) _ _ s
  rw [if_neg hno, pick_gen]
  first
    | exact wpAny_bind (m := Builtin.Tuple.tupleExact _) (wpAny_newObj_type (wpAny_pure ⟨_, rfl, wpAny_pure h⟩) htake)
    | exact wpAny_bind (m := Builtin.Tuple.tupleExact _) (wpAny_newObj_type (wpAny_bind (wpAny_pure (wpAny_pure ⟨_, rfl, wpAny_pure h⟩))) htake)
    | exact wpAny_bind (wpAny_bind (m := Builtin.Tuple.tupleExact _) (wpAny_newObj_type (wpAny_pure (wpAny_pure ⟨_, rfl, wpAny_pure h⟩)) htake))
    | exact wpAny_bind (wpAny_bind (m := Builtin.Tuple.tupleExact _) (wpAny_newObj_type (wpAny_pure ⟨_, rfl, wpAny_pure h⟩) htake))
end
end HT

namespace L2
open PySem PySem.Spec PyProof.Rows

/-! ### the parts of a slice -/
abbrev TO := St → Hp → (Option Int → Hp → Prop) → Prop
/-- a slice's part (left out, or an int) -/
def PO (X : Cx) (e : Option Expr) (t : TO) : Prop :=
  ∀ (pins : List (Addr × Obj)) (s : Shared) (σ : St) (H : Hp) (Q : Option Int → Hp → Prop), Inv X pins σ H s → t σ H Q →
    wpAny (model X.prog X.w) X.A (evalPart e X.env) (fun u s' => ∃ o H', Inv X pins σ H' s' ∧ IsPart u o ∧ Q o H') X.xe s
def tNoPart : TO := fun _ H Q => Q none H
def tPart (t : TE) : TO := fun σ H Q => t σ H fun x H1 => ∃ i, x = .int i ∧ Q (some i) H1

section
variable {X : Cx} {e : Expr} {te : TE} {lo hi : Option Expr} {tl th : TO} {pos p2 : Pos}

theorem po_none : PO X none tNoPart := by
  intro pins s σ H Q I h
  rw [evalPart_none]
  exact wpAny_pure ⟨none, H, I, .none, h⟩
theorem po_some (h : PE X e te) : PO X (some e) (tPart te) := by
  intro pins s σ H Q I hw
  rw [evalPart_some]
  refine thn (h pins s σ H _ I hw) fun u s1 ⟨x, H1, I1, r1, q1⟩ => ?_
  obtain ⟨i, rfl, q⟩ := q1
  obtain ⟨t, rfl⟩ := r1
  exact ⟨some i, H1, I1, .int i t, q⟩

/-- what a slice of a value is, by values: the slice object stands at sl -/
def SlR (X : Cx) (r : V → Option Int → Option Int → Hp → VK → Prop) : Prop :=
  ∀ (pins : List (Addr × Obj)) (s : Shared) (σ : St) (H : Hp) (x : V) (v vl vu : Value) (lo hi : Option Int) (sl : Addr) (Q : VK), Inv X pins σ H s → RelV x v → s.heap.IsSliceOf sl vl vu .none → IsPart vl lo → IsPart vu hi → r x lo hi H Q →
    ∃ T id, typeLookup (.type T) "__getitem__" = pure (some (.builtin id)) ∧ s.TypeIs v T ∧ wpAny (model X.prog X.w) X.A (getItem v (.ref sl)) (EP X pins σ Q) X.xe s
theorem SlR.or {r r' : V → Option Int → Option Int → Hp → VK → Prop} (h : SlR X r) (h' : SlR X r') : SlR X (fun x lo hi H Q => r x lo hi H Q ∨ r' x lo hi H Q) := by
  intro pins s σ H x v vl vu lo hi sl Q I rx hs pl pu q
  rcases q with q | q
  · exact h pins s σ H x v vl vu lo hi sl Q I rx hs pl pu q
  · exact h' pins s σ H x v vl vu lo hi sl Q I rx hs pl pu q
def tSl (r : V → Option Int → Option Int → Hp → VK → Prop) (te : TE) (tl th : TO) : TE := fun σ H Q => te σ H fun x H1 => tl σ H1 fun l H2 => th σ H2 fun u H3 => r x l u H3 Q
/-- a[lo:hi], any a -/
theorem pe_slice {r : V → Option Int → Option Int → Hp → VK → Prop} (hr : SlR X r) (he : PE X e te) (hl : PO X lo tl) (hu : PO X hi th) : PE X (.Subscript e (.Slice lo hi none p2) pos) (tSl r te tl th) := by
  intro pins s σ H Q I h
  refine Subscript_ (thn (he pins s σ H _ I h) fun v s1 ⟨x, H1, I1, r1, q1⟩ => ?_)
  refine wpAny_Slice (thn (hl pins s1 σ H1 _ I1 q1) fun vl s2 ⟨l, H2, I2, pl, q2⟩ => thn (hu pins s2 σ H2 _ I2 q2) fun vu s3 ⟨u, H3, I3, pu, q3⟩ => ?_)
  rw [evalPart_none]
  refine wpAny_pure ?_
  have I4 : Inv X pins σ H3 { s3 with heap := s3.heap.push { cls := .type "slice", data := .fields #[vl, vu, .none] } } := I3.kept (t' := s3.toks) fun b ob q => Heap.get?_push_of_some _ q
  obtain ⟨T, id, hT, ht, hg⟩ := hr pins { s3 with heap := s3.heap.push { cls := .type "slice", data := .fields #[vl, vu, .none] } } σ H3 x v vl vu l u s3.heap.objs.size Q I4 r1 (Heap.IsSliceOf.new ..) pl pu q3
  show wpAny (model X.prog X.w) X.A (subscriptTail e (.Slice lo hi none p2) v (.ref s3.heap.objs.size)) (EP X pins σ Q) X.xe { s3 with heap := s3.heap.push { cls := .type "slice", data := .fields #[vl, vu, .none] } }
  exact tail_any (ops := [.ref s3.heap.objs.size, v]) ht hT hg (by with_unfolding_all rfl)

/-- the items of xs[lo:hi] -/
def cutV (xs : List V) (lo hi : Option Int) : List V := (xs.drop (HT.sIx xs.length 0 lo)).take (HT.sIx xs.length xs.length hi - HT.sIx xs.length 0 lo)
theorem cutV_length (xs : List V) (lo hi : Option Int) : (cutV xs lo hi).length ≤ xs.length := by
  unfold cutV
  rw [List.length_take, List.length_drop]
  omega
/-- t[lo:hi], not the whole of it (the whole would be t itself) -/
def rSlT (K : PySem.W.Frag) : V → Option Int → Option Int → Hp → VK → Prop := fun x lo hi H Q => ∃ a xs, x = .ref a ∧ SqT K H a xs ∧
  ¬ (HT.sIx xs.length 0 lo = 0 ∧ HT.sIx xs.length xs.length hi = xs.length) ∧ ∀ p, H p = none → Q (.ref p) (upd H p (.tup (cutV xs lo hi)))
theorem sl_tup : SlR X (rSlT X.K) := by
  intro pins s σ H x v vl vu lo hi sl Q I rx hs pl pu h
  obtain ⟨a, xs, rfl, hx, hw, q⟩ := h
  cases rx
  obtain ⟨its, r, ht, hz⟩ := I.tuple hx
  have hlen : its.toArray.size = xs.length := by rw [List.size_toArray]; exact r.length.symm
  refine ⟨"tuple", _, PyProof.Rows.slot_tuple_getitem.lookup, ht.typeIs, ?_⟩
  refine HT.getItem_tuple_cut ht hs pl pu (by rw [hlen]; exact hw) ?_ (by rw [hlen]; exact hz)
  rw [hlen]
  refine ⟨.ref s.heap.objs.size, _, I.laid (t' := s.toks) (o := .tup (cutV xs lo hi)) (fun b ob q => Heap.get?_push_of_some _ q) (Nat.le_refl _) ?_, rfl, q _ (I.hok.fresh (Nat.le_refl _))⟩
  exact ⟨Nat.le_trans (cutV_length xs lo hi) hz, _, (r.drop (HT.sIx xs.length 0 lo)).take (HT.sIx xs.length xs.length hi - HT.sIx xs.length 0 lo), IsTup.new _ _⟩

/-! ### t < u, t + u -/
def rLtT (K : PySem.W.Frag) : R2 := fun x y H Q => ∃ a b ns ms, x = .ref a ∧ y = .ref b ∧ SqT K H a (ns.map V.int) ∧ SqT K H b (ms.map V.int) ∧ Q (.bl (HT.lexLt ns ms)) H
/-- t + u, t not empty: u empty gives t itself -/
def rCatT (K : PySem.W.Frag) : R2 := fun x y H Q => ∃ a b xs ys, x = .ref a ∧ y = .ref b ∧ SqT K H a xs ∧ SqT K H b ys ∧ xs ≠ [] ∧ xs.length + ys.length ≤ sizeLine ∧
  (ys = [] → Q (.ref a) H) ∧ (ys ≠ [] → ∀ p, H p = none → Q (.ref p) (upd H p (.tup (xs ++ ys))))
theorem Vals.nil_iff {xs : List V} {us : List Value} (r : Vals xs us) : us = [] ↔ xs = [] := by
  cases r with
  | nil => simp
  | cons _ _ => simp
theorem op_catT : OpR X (binaryOp .Add) (rCatT X.K) := by
  intro pins s σ H x y v u Q I rx ry h
  obtain ⟨a, b, xs, ys, rfl, rfl, ha, hb, hx, hz, q1, q2⟩ := h
  cases rx
  cases ry
  obtain ⟨its, r1, p1, _⟩ := I.tuple ha
  obtain ⟨its2, r2, p2, _⟩ := I.tuple hb
  refine HT.cat_tup p1 p2 (fun z => hx (r1.nil_iff.mp z)) (fun z => ⟨.ref a, H, I, rfl, q1 (r2.nil_iff.mp z)⟩) (fun z => ?_) (by rw [← r1.length, ← r2.length]; exact hz)
  refine ⟨.ref s.heap.objs.size, _, I.laid (t' := s.toks) (o := .tup (xs ++ ys)) (fun b ob q => Heap.get?_push_of_some _ q) (Nat.le_refl _) ?_, rfl, q2 (fun w => z (r2.nil_iff.mpr w)) _ (I.hok.fresh (Nat.le_refl _))⟩
  exact ⟨by rw [List.length_append]; exact hz, _, r1.append r2, IsTup.new _ _⟩
end
end L2

namespace L2
open PySem PySem.Spec PyProof.Rows

/-! ### places -/
/-- the place that an index of any sign means -/
def ixN (n : Nat) (i : Int) : Option Nat := if 0 ≤ i then (if i < n then some i.toNat else none) else if -(n : Int) ≤ i then some (i + n).toNat else none
def atI {α : Type} (xs : List α) (i : Int) : Option α := (ixN xs.length i).bind fun j => xs[j]?
theorem ixN_seq {n : Nat} {i : Int} {j : Nat} (h : ixN n i = some j) : seqIndex? i n = some j ∧ j < n ∧ -(n : Int) ≤ i ∧ i < n := by
  unfold ixN at h
  by_cases h0 : 0 ≤ i
  · rw [if_pos h0] at h
    by_cases h1 : i < n
    · rw [if_pos h1] at h
      have e : i.toNat = j := Option.some.inj h
      exact ⟨by rw [seqIndex_of h0 h1, e], by omega, by omega, h1⟩
    · rw [if_neg h1] at h; cases h
  · rw [if_neg h0] at h
    by_cases h1 : -(n : Int) ≤ i
    · rw [if_pos h1] at h
      have e : (i + n).toNat = j := Option.some.inj h
      exact ⟨by rw [seqIndex_neg (by omega) h1, e], by omega, h1, by omega⟩
    · rw [if_neg h1] at h; cases h
theorem atI_get {α : Type} {xs : List α} {i : Int} {v : α} (h : atI xs i = some v) : ∃ j, seqIndex? i xs.length = some j ∧ xs[j]? = some v ∧ j < xs.length ∧ -(xs.length : Int) ≤ i ∧ i < xs.length := by
  unfold atI at h
  cases e : ixN xs.length i with
  | none => rw [e] at h; cases h
  | some j =>
    rw [e] at h
    obtain ⟨h1, h2, h3, h4⟩ := ixN_seq e
    exact ⟨j, h1, h, h2, h3, h4⟩
theorem atI_last {α : Type} (xs : List α) (v : α) : atI (xs ++ [v]) (-1) = some v := by
  have hl : (xs ++ [v]).length = xs.length + 1 := by simp
  have e : ixN (xs ++ [v]).length (-1) = some xs.length := by
    unfold ixN
    rw [hl, if_neg (by decide), if_pos (by omega)]
    congr 1
    omega
  unfold atI
  rw [e]
  show (xs ++ [v])[xs.length]? = some v
  simp

/-! ### what may be subscripted -/
/-- what stands as an index of a plain subscript -/
def PlainIx (b : Expr) : Prop := ∀ o i, subscripted b false o i = operate [o, i] (getItem o i)
/-- a subscript by values -/
def IxR (X : Cx) (r : R2) : Prop :=
  ∀ (value slice : Expr) (pins : List (Addr × Obj)) (s : Shared) (σ : St) (H : Hp) (x y : V) (v u : Value) (Q : VK), Inv X pins σ H s → RelV x v → RelV y u → r x y H Q →
    subscripted slice false v u = operate [v, u] (getItem v u) → wpAny (model X.prog X.w) X.A (subscriptTail value slice v u) (EP X pins σ Q) X.xe s
/-- a call of a builtin's method by values: the receiver, the arguments -/
def MtR (X : Cx) (id : String) (r : V → List V → Hp → VK → Prop) : Prop :=
  ∀ (pins : List (Addr × Obj)) (s : Shared) (σ : St) (H : Hp) (x : V) (xs : List V) (v : Value) (us : List Value) (Q : VK), Inv X pins σ H s → RelV x v → Vals xs us → r x xs H Q →
    wpAny (model X.prog X.w) X.A (call (.builtin id) (v :: us)) (EP X pins σ Q) X.xe s
section
variable {X : Cx} {a b : Expr} {ta tb : TE} {pos : Pos}
theorem IxR.or {r r' : R2} (h : IxR X r) (h' : IxR X r') : IxR X (fun x y H Q => r x y H Q ∨ r' x y H Q) := by
  intro value slice pins s σ H x y v u Q I rx ry q hs
  rcases q with q | q
  · exact h value slice pins s σ H x y v u Q I rx ry q hs
  · exact h' value slice pins s σ H x y v u Q I rx ry q hs
theorem MtR.or {id : String} {r r' : V → List V → Hp → VK → Prop} (h : MtR X id r) (h' : MtR X id r') : MtR X id (fun x xs H Q => r x xs H Q ∨ r' x xs H Q) := by
  intro pins s σ H x xs v us Q I rx rs q
  rcases q with q | q
  · exact h pins s σ H x xs v us Q I rx rs q
  · exact h' pins s σ H x xs v us Q I rx rs q
/-- a[b] -/
theorem pe_ix {r : R2} (hr : IxR X r) (ha : PE X a ta) (hb : PE X b tb) (hs : PlainIx b) : PE X (.Subscript a b pos) (tOp r ta tb) := by
  intro pins s σ H Q I h
  exact Subscript_ (binT ha hb I h fun v u s2 x y H2 I2 rx ry q => hr a b pins s2 σ H2 x y v u Q I2 rx ry q (hs _ _))

def rIxL (K : PySem.W.Frag) : R2 := fun x y H Q => ∃ p xs i v, x = .ref p ∧ y = .int i ∧ SqL K H p xs ∧ atI xs i = some v ∧ Q v H
def rIxT (K : PySem.W.Frag) : R2 := fun x y H Q => ∃ p xs i v, x = .ref p ∧ y = .int i ∧ SqT K H p xs ∧ atI xs i = some v ∧ Q v H
def rIxS : R2 := fun x y H Q => ∃ z i c, x = .str z ∧ y = .int i ∧ z.length ≤ sizeLine ∧ atI z.cps.toList i = some c ∧ Q (.str ⟨#[c]⟩) H
theorem ix_list : IxR X (rIxL X.K) := by
  intro value slice pins s σ H x y v u Q I rx ry h hs
  obtain ⟨p, xs, i, z, rfl, rfl, hq, he, q⟩ := h
  cases rx
  obtain ⟨t, rfl⟩ := ry
  obtain ⟨its, r, pl, hz⟩ := I.list hq
  obtain ⟨j, h1, h2, h3, h4, h5⟩ := atI_get he
  obtain ⟨w, ew, rw'⟩ := r.get h2
  have hl := r.length
  have hn := line63
  have fin : EP X pins σ Q w s := ⟨z, H, I, rw', q⟩
  by_cases h0 : 0 ≤ i
  · have hj : i.toNat = j := by
      rw [seqIndex_of h0 h5] at h1
      exact Option.some.inj h1
    exact item_listR pl.isList h0 (by omega) (by rw [hj]; simpa using ew) fin hs
  · have hj : (i + (its.toArray.size : Int)).toNat = j := by
      rw [seqIndex_neg (by omega) h4] at h1
      rw [List.size_toArray, ← hl]
      exact Option.some.inj h1
    exact subscriptTail_builtinR (x := w) pl.isList.typeIs slot_list_getitem.lookup
      (wpAny_getItem_list_neg (Q := fun r s' => r = w ∧ EP X pins σ Q r s') pl.isList (by omega) (by rw [List.size_toArray] <;> omega) (by omega) (by rw [hj]; simpa using ew) ⟨rfl, fin⟩) hs
theorem ix_tup : IxR X (rIxT X.K) := by
  intro value slice pins s σ H x y v u Q I rx ry h hs
  obtain ⟨p, xs, i, z, rfl, rfl, hq, he, q⟩ := h
  cases rx
  obtain ⟨t, rfl⟩ := ry
  obtain ⟨its, r, pl, hz⟩ := I.tuple hq
  obtain ⟨j, h1, h2, h3, h4, h5⟩ := atI_get he
  obtain ⟨w, ew, rw'⟩ := r.get h2
  have hl := r.length
  have hn := line63
  have fin : EP X pins σ Q w s := ⟨z, H, I, rw', q⟩
  exact subscriptTail_builtinR (x := w) pl.typeIs slot_tuple_getitem.lookup
    (getItem_tuple (j := j) (Q := fun r s' => r = w ∧ EP X pins σ Q r s') pl (by omega) (by omega) (by rw [List.size_toArray, ← hl]; exact h1) (by simpa using ew) ⟨rfl, fin⟩) hs
theorem ix_str : IxR X rIxS := by
  intro value slice pins s σ H x y v u Q I rx ry h hs
  obtain ⟨z, i, c, rfl, rfl, hz, he, q⟩ := h
  obtain ⟨t, rfl⟩ := rx
  obtain ⟨t', rfl⟩ := ry
  obtain ⟨j, h1, h2, h3, h4, h5⟩ := atI_get he
  have hl : z.cps.toList.length = z.length := by simp [Str.length]
  rw [hl] at h1 h4 h5
  have hn := line63
  exact tail_any (typeIs_str s z t) slot_str_getitem.lookup (getItem_str (c := c) (by
    have e1 : decide (i < -(2 ^ 63 : Int)) = false := decide_eq_false (by omega)
    have e2 : decide (i ≥ 2 ^ 63) = false := decide_eq_false (by omega)
    rw [e1, e2, Bool.or_false]) (by rw [h1]; simpa using h2) ⟨.str ⟨#[c]⟩, H, I.tok _, ⟨_, rfl⟩, q⟩) hs
/-- list, tuple or str -/
def rIx (K : PySem.W.Frag) : R2 := fun x y H Q => rIxL K x y H Q ∨ rIxT K x y H Q ∨ rIxS x y H Q
/-! ### xs[i] = v, any sign -/
theorem Inv.lst {pins : List (Addr × Obj)} {σ : St} {H : Hp} {s : Shared} {p : Addr} {xs : List V} (I : Inv X pins σ H s) (h : H p = some (.lst xs)) :
    ∃ (its : List Value) (n : Nat), Vals xs its ∧ s.heap.get? p = some { cls := .type "list", data := .seq its.toArray n } ∧ xs.length ≤ sizeLine := by
  obtain ⟨z, its, n, r, e⟩ := I.hok p _ h
  exact ⟨its, n, r, e, z⟩
def rSetL : V → V → V → Hp → (Hp → Prop) → Prop := fun o i v H Q => ∃ p xs k j, o = .ref p ∧ i = .int k ∧ H p = some (.lst xs) ∧ ixN xs.length k = some j ∧ Q (upd H p (.lst (xs.set j v)))
/-! ### slices -/
theorem slice_bounds (lo hi : Option Int) (n : Nat) : (sliceBounds lo hi none n).1 = ((HT.sIx n 0 lo : Nat) : Int) ∧ (sliceBounds lo hi none n).2.1 = ((HT.sIx n n hi : Nat) : Int) ∧ (sliceBounds lo hi none n).2.2 = 1 := by
  refine ⟨?_, ?_, rfl⟩
  · cases lo with
    | none => simp [sliceBounds, HT.sIx]
    | some i =>
      simp only [sliceBounds, HT.sIx, Option.getD_none, show (1 : Int) > 0 by decide, if_true]
      by_cases h : i < 0
      · simp only [h, if_true] <;> omega
      · simp only [h, if_false] <;> omega
  · cases hi with
    | none => simp [sliceBounds, HT.sIx]
    | some i =>
      simp only [sliceBounds, HT.sIx, Option.getD_none, show (1 : Int) > 0 by decide, if_true]
      by_cases h : i < 0
      · simp only [h, if_true] <;> omega
      · simp only [h, if_false] <;> omega
theorem slicePick_cut (its : List Value) (lo hi : Option Int) : slicePick its.toArray lo hi none = ((its.drop (HT.sIx its.length 0 lo)).take (HT.sIx its.length its.length hi - HT.sIx its.length 0 lo)).toArray := by
  obtain ⟨h1, h2, h3⟩ := slice_bounds lo hi its.toArray.size
  unfold slicePick
  rw [h1, h2, h3]
  simp only [sliceRange_one, pick_run, List.size_toArray] <;> rfl
/-- xs[lo:hi] of a list: a new list -/
def rSlL (K : PySem.W.Frag) : V → Option Int → Option Int → Hp → VK → Prop := fun x lo hi H Q => ∃ a xs, x = .ref a ∧ SqL K H a xs ∧ ∀ p, H p = none → Q (.ref p) (upd H p (.lst (cutV xs lo hi)))
theorem sl_list : SlR X (rSlL X.K) := by
  intro pins s σ H x v vl vu lo hi sl Q I rx hs pl pu h
  obtain ⟨a, xs, rfl, hx, q⟩ := h
  cases rx
  obtain ⟨its, r, ht, hz⟩ := I.list hx
  have hlen := r.length
  refine ⟨"list", _, slot_list_getitem.lookup, ht.isList.typeIs, ?_⟩
  refine wpAny_getItem_list_slice ht.isList hs pl pu .none (by simp) ?_ (by rw [List.size_toArray] <;> omega)
  rw [slicePick_cut, ← hlen]
  refine ⟨.ref s.heap.objs.size, _, I.laid (t' := s.toks) (o := .lst (cutV xs lo hi)) (fun b ob q => Heap.get?_push_of_some _ q) (Nat.le_refl _) ?_, rfl, q _ (I.hok.fresh (Nat.le_refl _))⟩
  exact ⟨Nat.le_trans (cutV_length xs lo hi) hz, _, 0, (r.drop (HT.sIx xs.length 0 lo)).take (HT.sIx xs.length xs.length hi - HT.sIx xs.length 0 lo), Heap.get?_push_size _ rfl⟩

/-! ### in, not in: flat items -/
def flatV : V → Bool
  | .non => true
  | .bl _ => true
  | .int _ => true
  | .str _ => true
  | _ => false
/-- == of flat values -/
def eqV : V → V → Bool
  | .non, .non => true
  | .bl a, .bl b => a == b
  | .bl a, .int b => (if a then 1 else 0) == b
  | .int a, .bl b => a == (if b then 1 else 0)
  | .int a, .int b => a == b
  | .str a, .str b => a == b
  | _, _ => false
/-- the items' answers, read off the values (a value's own answer does not lean on its token) -/
def eqU (x : V) (u : Value) : Bool := match u with
  | .none => eqV .non x
  | .bool b => eqV (.bl b) x
  | .int i _ => eqV (.int i) x
  | .str z _ => eqV (.str z) x
  | _ => false
def inV (x : V) (xs : List V) : Bool := xs.any fun y => eqV y x
/-- x in a list or tuple of flat items -/
def rIn (K : PySem.W.Frag) (neg : Bool) : R2 := fun x y H Q => ∃ p xs, y = .ref p ∧ (SqL K H p xs ∨ SqT K H p xs) ∧ flatV x = true ∧ xs.all flatV = true ∧ Q (.bl (if neg then !inV x xs else inV x xs)) H
/-! ### len, list(x), tuple(x) of any list or tuple that is read -/
theorem call_len_seq : CallR X (.builtin "len") (fun xs H Q => ∃ p ys, xs = [.ref p] ∧ (SqL X.K H p ys ∨ SqT X.K H p ys) ∧ Q (.int ys.length) H) := by
  intro pins s σ H xs us Q I r h
  obtain ⟨p, ys, rfl, hq, q⟩ := h
  obtain ⟨u, rfl, rx⟩ := vals1 r
  cases rx
  have hn := line63
  rcases hq with hq | hq
  · obtain ⟨its, r', pl, hz⟩ := I.list hq
    have hlen := r'.length
    exact Calls.call_len_list pl.isList (by simp only [List.size_toArray] <;> omega) ⟨.int ys.length, H, I.tok _, ⟨s.toks + 1, by rw [List.size_toArray, hlen]⟩, q⟩
  · obtain ⟨its, r', pl, hz⟩ := I.tuple hq
    have hlen := r'.length
    exact len_tuple pl (by simp only [List.size_toArray] <;> omega) ⟨.int ys.length, H, I.tok _, ⟨s.toks + 1, by rw [List.size_toArray, hlen]⟩, q⟩
theorem call_len_str : CallR X (.builtin "len") (fun xs H Q => ∃ z, xs = [.str z] ∧ z.length ≤ sizeLine ∧ Q (.int z.length) H) := by
  intro pins s σ H xs us Q I r h
  obtain ⟨z, rfl, hz, q⟩ := h
  obtain ⟨u, rfl, t, rfl⟩ := vals1 r
  have hn := line63
  exact len_str (by omega) ⟨.int z.length, H, I.tok _, ⟨_, rfl⟩, q⟩
theorem CallR.or {f : Value} {r r' : List V → Hp → VK → Prop} (h : CallR X f r) (h' : CallR X f r') : CallR X f (fun xs H Q => r xs H Q ∨ r' xs H Q) := by
  intro pins s σ H xs us Q I rs q
  rcases q with q | q
  · exact h pins s σ H xs us Q I rs q
  · exact h' pins s σ H xs us Q I rs q
theorem call_tuple_of : CallR X (.type "tuple") (fun xs H Q => ∃ p ys, xs = [.ref p] ∧ ((SqL X.K H p ys ∧ ∀ l, H l = none → Q (.ref l) (upd H l (.tup ys))) ∨ (SqT X.K H p ys ∧ Q (.ref p) H))) := by
  intro pins s σ H xs us Q I r h
  obtain ⟨p, ys, rfl, h⟩ := h
  obtain ⟨u, rfl, rx⟩ := vals1 r
  cases rx
  rcases h with ⟨hq, q⟩ | ⟨hq, q⟩
  · obtain ⟨its, r', pl, hz⟩ := I.list hq
    have hlen := r'.length
    refine call_tuple_list pl.isList (fun h' kp => ?_) (by simp only [List.size_toArray] <;> omega)
    have I1 : Inv X pins σ H { s with heap := h' } := I.kept (t' := s.toks) kp
    have I2 : Inv X pins σ (upd H h'.objs.size (.tup ys)) { s with heap := h'.push { cls := .type "tuple", data := .seq its.toArray } } :=
      I1.laid (t' := s.toks) (fun b o e => Heap.get?_push_of_some _ e) (Nat.le_refl _) (show ObjOk X.prog X.w _ _ _ (.tup ys) from ⟨hz, its, r', IsTup.new _ _⟩)
    exact ⟨.ref h'.objs.size, _, I2, rfl, q _ (I1.hok.fresh (Nat.le_refl _))⟩
  · obtain ⟨its, r', pl, hz⟩ := I.tuple hq
    exact call_tuple_same pl ⟨.ref p, H, I, rfl, q⟩

/-! ### the call of a builtin's method: o.m(..) -/
/-- the value is of that builtin type -/
def tyV (K : PySem.W.Frag) (T : String) (x : V) (H : Hp) : Prop := match x with
  | .str _ => T = "str"
  | .int _ => T = "int"
  | .ref p => (T = "list" ∧ ∃ xs, SqL K H p xs) ∨ (T = "tuple" ∧ ∃ o, K.lookup p = some o ∧ o.cls = .type "tuple" ∧ o.dict = none) ∨
      (T = "dict" ∧ ((∃ kvs, H p = some (.dK kvs)) ∨ ∃ kvs, H p = some (.dT kvs))) ∨ (T = "set" ∧ ∃ S n, H p = some (.set S n))
  | _ => False
theorem tyV_is {pins : List (Addr × Obj)} {σ : St} {H : Hp} {s : Shared} {T : String} {x : V} {v : Value} (I : Inv X pins σ H s) (r : RelV x v) (ty : tyV X.K T x H) :
    s.TypeIs v T ∧ ∀ a, v = .ref a → ∃ ob, s.heap.get? a = some ob ∧ ob.dict = none := by
  cases x with
  | str z =>
    obtain ⟨t, rfl⟩ := r
    cases (show T = "str" from ty)
    exact ⟨typeIs_str s z t, fun _ e => nomatch e⟩
  | int i =>
    obtain ⟨t, rfl⟩ := r
    cases (show T = "int" from ty)
    exact ⟨typeIs_int s i t, fun _ e => nomatch e⟩
  | ref p =>
    cases r
    rcases ty with ⟨rfl, xs, hq⟩ | ⟨rfl, o, hk, hc, hd⟩ | ⟨rfl, hk⟩ | ⟨rfl, S, n, hk⟩
    · obtain ⟨its, _, pl, _⟩ := I.list hq
      refine ⟨pl.isList.typeIs, fun a e => ?_⟩
      cases e
      obtain ⟨o, n, e, c, hd, _⟩ := pl
      exact ⟨o, e, hd⟩
    · refine ⟨⟨o, I.kIn p o hk, hc⟩, fun a e => ?_⟩
      cases e
      exact ⟨o, I.kIn _ o hk, hd⟩
    · have z : ∃ o, s.heap.get? p = some o ∧ o.ExactDict := by
        rcases hk with ⟨kvs, hk⟩ | ⟨kvs, hk⟩
        · obtain ⟨_, _, _, _, o, _, _, e, ex, _⟩ := I.hok p _ hk
          exact ⟨o, e, ex⟩
        · obtain ⟨_, _, _, _, o, _, _, e, ex, _⟩ := I.hok p _ hk
          exact ⟨o, e, ex⟩
      obtain ⟨o, e, ex⟩ := z
      refine ⟨⟨o, e, ex.1⟩, fun a e2 => ?_⟩
      cases e2
      exact ⟨o, e, ex.2.1⟩
    · obtain ⟨o, _, _, _, e, ex, _⟩ := I.hok p _ hk
      refine ⟨⟨o, e, ex.1⟩, fun a e2 => ?_⟩
      cases e2
      exact ⟨o, e, ex.2.1⟩
  | _ => exact False.elim ty
def tBM0 (K : PySem.W.Frag) (T : String) (r : V → List V → Hp → VK → Prop) (to : TE) : TE := fun σ H Q => to σ H fun x H1 => tyV K T x H1 ∧ r x [] H1 Q
def tBM (K : PySem.W.Frag) (T : String) (r : V → List V → Hp → VK → Prop) (to : TE) (t : TA) : TE := fun σ H Q => to σ H fun x H1 => tyV K T x H1 ∧ t σ H1 fun xs H2 => r x xs H2 Q
variable {o e : Expr} {es : List Expr} {to : TE} {t : TA} {name : Str} {apos cpos : Pos} {T id : String} {r : V → List V → Hp → VK → Prop}
theorem pe_bm (pa : PlainAttrs T) (slot : Slot T name id) (hty : typeOf (.builtin id) = pure (.type "method_descriptor")) (hm : MtR X id r) (ho : PE X o to) (ha : PA X (e :: es) t)
    (hbase : attributeBase o name X.env (eval o X.env) = eval o X.env := by rfl)
    (hfew : ((backTo cpos (starEach (e :: es) X.env)).all (fun x => !x.1) && (backToKw cpos (keywordEach [] X.env)).all (fun x => x.1.isSome)
      && decide ((e :: es).length + ([] : List Keyword).length + (if ([] : List Keyword).isEmpty then 0 else 1) < 30)) = true := by rfl)
    (hline : (apos.endLine == cpos.line) = true := by rfl) (hs : starEach (e :: es) X.env = (false, eval e X.env) :: starEach es X.env := by rfl) (hplain : (backTo cpos (starEach es X.env)).any (·.1) = false := by rfl) :
    PE X (.Call (.Attribute o name apos) (e :: es) [] cpos) (tBM X.K T r to t) := by
  intro pins s σ H Q I h
  refine wpAny_Call_method_late hbase hfew hline rfl (thn (ho pins s σ H _ I h) fun v s1 ⟨x, H1, I1, r1, ty, q1⟩ => ?_)
  obtain ⟨h1, h2⟩ := tyV_is I1 r1 ty
  refine ⟨T, id, pa, slot, hty, h1, h2, ?_⟩
  have hA := ha cpos pins s1 σ H1 _ I1 q1
  rw [hs] at hA ⊢
  refine Calls.callWith_builtin (by show (false || (backTo cpos (starEach es X.env)).any (·.1)) = false; rw [hplain] <;> rfl) (Calls.evalArgs_plain ?_)
  exact thn hA fun us s2 ⟨vs, H2, I2, r2, q2⟩ => hm pins s2 σ H2 x vs v us Q I2 r1 r2 q2
/- xs.append(e), list.index on a module's tuple .. are MtR facts of 06m -/
end
end L2

namespace L2
open PySem PySem.Spec PyProof.Rows

def MtM (X : Cx) (id : String) (r : V → List V → Hp → VK → Prop) : Prop :=
  ∀ (pins : List (Addr × Obj)) (s : Shared) (σ : St) (H : Hp) (x : V) (xs : List V) (v : Value) (us : List Value) (Q : VK), Inv X pins σ H s → RelV x v → Vals xs us → r x xs H Q →
    wpAny (model X.prog X.w) X.A (call (.builtin id) (v :: us)) (EP X pins σ Q) X.xe s

/-! ### lists of values -/
theorem Vals.one : ∀ {x : V} {us : List Value}, Vals [x] us → ∃ u, us = [u] ∧ RelV x u
  | _, _, .cons r .nil => ⟨_, rfl, r⟩
theorem Vals.two : ∀ {x y : V} {us : List Value}, Vals [x, y] us → ∃ u v, us = [u, v] ∧ RelV x u ∧ RelV y v
  | _, _, _, .cons r (.cons q .nil) => ⟨_, _, rfl, r, q⟩
theorem Vals.zero : ∀ {us : List Value}, Vals [] us → us = []
  | _, .nil => rfl
theorem Vals.dropLast {xs : List V} {us : List Value} (h : Vals xs us) : Vals xs.dropLast us.dropLast := by
  induction h with
  | nil => exact .nil
  | cons r t ih =>
    cases t with
    | nil => exact .nil
    | cons q t' => exact .cons r ih
theorem Vals.eraseIdx : ∀ {xs : List V} {us : List Value} (i : Nat), Vals xs us → Vals (xs.eraseIdx i) (us.eraseIdx i)
  | _, _, _, .nil => .nil
  | _, _, 0, .cons _ t => t
  | _, _, i + 1, .cons r t => .cons r (Vals.eraseIdx i t)
theorem Vals.reverse {xs : List V} {us : List Value} (h : Vals xs us) : Vals xs.reverse us.reverse := by
  induction h with
  | nil => exact .nil
  | cons r t ih => rw [List.reverse_cons, List.reverse_cons]; exact Vals.append ih (.cons r .nil)
section
variable {X : Cx} {pins : List (Addr × Obj)} {σ : St} {H : Hp} {s : Shared} {l b : Addr} {xs ys zs : List V}

/-! ### the two steps: a tracked list is rewritten, a new list is laid -/
theorem Inv.lset {its its' : List Value} {n : Nat} {f : Array Value → Array Value} {t' : Nat} (I : Inv X pins σ H s) (hH : H l = some (.lst xs))
    (e : s.heap.get? l = some { cls := .type "list", data := .seq its.toArray n }) (hf : f its.toArray = its'.toArray) (hv : Vals ys its') (hz : ys.length ≤ sizeLine) :
    Inv X pins σ (upd H l (.lst ys)) { s with heap := s.heap.update l (Obj.mapSeq f), toks := t' } := by
  have q := PySem.IsL.update e f
  rw [hf] at q
  refine I.write (x := l) (e := l) (by rw [hH]; exact trivial) (.inl rfl) (fun b' u hb hu => (Heap.get?_update_other s.heap (Obj.mapSeq f) (Ne.symm hb)).trans hu) ⟨_, q⟩ ?_
  exact ⟨hz, its', _, hv, q⟩
theorem Inv.lnew {its : List Value} {t' : Nat} (I : Inv X pins σ H s) (hv : Vals ys its) (hz : ys.length ≤ sizeLine) :
    Inv X pins σ (upd H s.heap.objs.size (.lst ys)) { s with heap := s.heap.push { cls := .type "list", data := .seq its.toArray }, toks := t' } :=
  I.laid (fun _ _ q => Heap.get?_push_of_some _ q) (Nat.le_refl _) ⟨hz, its, 0, hv, Heap.get?_push_size _ rfl⟩
theorem Inv.fresh (I : Inv X pins σ H s) : H s.heap.objs.size = none := I.hok.fresh (Nat.le_refl _)
theorem Inv.lstM (I : Inv X pins σ H s) (hH : H l = some (.lst xs)) : xs.length ≤ sizeLine ∧ ∃ (its : List Value) (n : Nat), Vals xs its ∧ xs.length = its.length ∧ s.heap.get? l = some { cls := .type "list", data := .seq its.toArray n } := by
  obtain ⟨z, its, n, r, e⟩ := I.hok l _ hH
  exact ⟨z, its, n, r, r.length, e⟩

theorem notLongL {n : Nat} (h : n ≤ sizeLine) : Builtin.List.listTooLong n = false := by
  unfold Builtin.List.listTooLong
  exact decide_eq_false (by omega)
end

section
variable {X : Cx}

/-! ### methods -/
def rAppend : V → List V → Hp → VK → Prop := fun x vs H Q => ∃ l xs y, x = .ref l ∧ vs = [y] ∧ H l = some (.lst xs) ∧ xs.length < sizeLine ∧ Q .non (upd H l (.lst (xs ++ [y])))
theorem mt_append : MtM X "list.append" rAppend := by
  intro pins s σ H x vs v us Q I rx rv h
  obtain ⟨l, xs, y, rfl, rfl, hH, hz, q⟩ := h
  cases rx
  obtain ⟨u, rfl, ru⟩ := rv.one
  obtain ⟨z, its, n, r, hl, e⟩ := I.lstM hH
  refine call_meets F.slot_list_append ⟨_, e, rfl⟩ F.entry_list_append (F.args_list_append_2 _ _) (PySem.list_append l its.toArray n u (by rw [List.size_toArray]; omega)) ⟨e, ?_⟩
  refine ⟨.non, _, I.lset (its' := its ++ [u]) hH e (by simp) (r.append (.cons ru .nil)) ?_, rfl, q⟩
  rw [List.length_append, List.length_singleton]
  omega

def rExtend : V → List V → Hp → VK → Prop := fun x vs H Q => ∃ l b xs zs, x = .ref l ∧ vs = [.ref b] ∧ H l = some (.lst xs) ∧ H b = some (.lst zs) ∧ xs.length + zs.length ≤ sizeLine ∧ Q .non (upd H l (.lst (xs ++ zs)))
theorem mt_extend : MtM X "list.extend" rExtend := by
  intro pins s σ H x vs v us Q I rx rv h
  obtain ⟨l, b, xs, zs, rfl, rfl, hH, hB, hz, q⟩ := h
  cases rx
  obtain ⟨u, rfl, ru⟩ := rv.one
  cases ru
  obtain ⟨z, its, n, r, hl, e⟩ := I.lstM hH
  obtain ⟨z2, its2, n2, r2, hl2, e2⟩ := I.lstM hB
  have hsz : its.toArray.size + its2.toArray.size ≤ sizeLine := by rw [List.size_toArray, List.size_toArray]; omega
  have hlong : ¬ (!its.toArray.isEmpty && Builtin.List.listTooLong (its.toArray.size + its2.toArray.size)) = true := by
    rw [notLongL hsz, Bool.and_false]
    exact Bool.false_ne_true
  refine call_meets F.slot_list_extend ⟨_, e, rfl⟩ F.entry_list_extend (F.args_list_extend_2 _ _)
    (AutoSeq1.list_extend_list_list_0 l its.toArray n b its2.toArray n2 hlong (by rw [List.size_toArray]; omega) (by omega)) ⟨e, e2, ?_⟩
  refine ⟨.non, _, I.lset (its' := its ++ its2) hH e (by simp) (r.append r2) ?_, rfl, q⟩
  rw [List.length_append]
  omega

def rPop : V → List V → Hp → VK → Prop := fun x vs H Q => ∃ l xs y, x = .ref l ∧ vs = [] ∧ H l = some (.lst xs) ∧ xs[xs.length - 1]? = some y ∧ Q y (upd H l (.lst xs.dropLast))
def rPopAt : V → List V → Hp → VK → Prop := fun x vs H Q => ∃ l xs i k y, x = .ref l ∧ vs = [.int i] ∧ H l = some (.lst xs) ∧ -(2 ^ 63) ≤ i ∧ i < 2 ^ 63 ∧ seqIndex? i xs.length = some k ∧ xs[k]? = some y ∧ Q y (upd H l (.lst (xs.eraseIdx k)))
def rReverse : V → List V → Hp → VK → Prop := fun x vs H Q => ∃ l xs, x = .ref l ∧ vs = [] ∧ H l = some (.lst xs) ∧ Q .non (upd H l (.lst xs.reverse))
def rClear : V → List V → Hp → VK → Prop := fun x vs H Q => ∃ l xs, x = .ref l ∧ vs = [] ∧ H l = some (.lst xs) ∧ Q .non (upd H l (.lst []))
/-! ### list + list, list += list, list * int -/
def rCat : R2 := fun x y H Q => ∃ l b xs zs, x = .ref l ∧ y = .ref b ∧ H l = some (.lst xs) ∧ H b = some (.lst zs) ∧ xs.length + zs.length ≤ sizeLine ∧ ∀ p, H p = none → Q (.ref p) (upd H p (.lst (xs ++ zs)))
theorem op_cat : OpR X (binaryOp .Add) rCat := by
  intro pins s σ H x y v u Q I rx ry h
  obtain ⟨l, b, xs, zs, rfl, rfl, hH, hB, hz, q⟩ := h
  cases rx
  cases ry
  obtain ⟨z, its, n, r, hl, e⟩ := I.lstM hH
  obtain ⟨z2, its2, n2, r2, hl2, e2⟩ := I.lstM hB
  refine PySem.P.add_list e e2 ?_ (by rw [List.size_toArray, List.size_toArray]; omega)
  have ea : its.toArray ++ its2.toArray = (its ++ its2).toArray := by simp
  rw [ea]
  exact ⟨.ref _, _, I.lnew (t' := s.toks) (r.append r2) (by rw [List.length_append]; omega), rfl, q _ I.fresh⟩
/-- a list times an int (a negative one is nothing) -/
def rRep : R2 := fun x y H Q => ∃ l k xs, x = .ref l ∧ y = .int k ∧ H l = some (.lst xs) ∧ -(2 ^ 63) ≤ k ∧ k < 2 ^ 63 ∧ xs.length * k.toNat ≤ sizeLine ∧
  ∀ p, H p = none → Q (.ref p) (upd H p (.lst (List.replicate k.toNat xs).flatten))
/-! ### del xs[i] -/
end

/-! ### xs[a:b] = ys -/
section
variable {prog : Program} {w : World} {A : Around} {E : Value → Shared → Prop} {s : Shared}
end

section
variable {X : Cx}
end
end L2

namespace Att
open PySem PySem.W PySem.Calls PyProof.Rows

/-! ### the script -/
theorem ints_of_wellAll {P : Params} {h : Heap} : ∀ (ns : List Int) (vs : List Value), WellAll P h vs (ns.map WData.int) → IntsAre vs ns := by
  intro ns
  induction ns with
  | nil =>
    intro vs w
    rw [List.map_nil] at w
    cases w
    exact .nil
  | cons n ns ih =>
    intro vs w
    rw [List.map_cons] at w
    cases w with
    | cons a b =>
      cases a
      exact .cons _ _ (ih _ b)

theorem script_of {l : OpenLaw} {n : Nat} (hn : l.most = some n) {P : Params} {h : Heap} {args : List WData} {vals : List Value}
    (hpre : l.row.toRowW.claim.pre args = true) (hwl : WellAll P h vals args) :
    ∃ a vs ns, vals = [Value.ref a] ∧ args = [WData.list (ns.map WData.int)] ∧ h.get? a = some { cls := .type "list", data := .seq vs.toArray } ∧ IntsAre vs ns ∧ ns.length ≤ n := by
  have hsh : WShape.hasAll [] args [.list .int] = true := (pre_splitW hpre).1
  have hc : l.pre.holds [] { args := args } = true := (pre_splitW hpre).2
  obtain ⟨d, r, rfl, h1, h2⟩ := hasAllW_cons hsh
  obtain rfl := hasAllW_nil h2
  obtain ⟨xs, rfl, h3⟩ := hasW_list h1
  obtain ⟨ns, rfl⟩ := items_int h3
  have hlen : ns.length ≤ n := by
    unfold OpenLaw.pre at hc
    have h4 : (WTm.not (.lt (.lit (.int (n : Int))) (.len (.arg 0)))).holds [] { args := [.list (ns.map .int)] } = true := by
      have h4 := (holds_andW hc).1
      rw [hn] at h4
      exact h4
    have h5 := condW_of h4 (w_not (w_lt w_lit (w_len_list (w_arg rfl))))
    rw [List.length_map] at h5
    refine Nat.le_of_not_lt fun q => ?_
    have q' : (n : Int) < ((ns.length : Nat) : Int) := by omega
    first
      | (rw [decide_eq_true q'] at h5; exact absurd h5 (by decide))
      | (simp at h5; omega)
  cases hwl with
  | cons w1 w2 =>
    cases w2
    cases w1 with
    | list ho hall => exact ⟨_, _, ns, rfl, rfl, ho, ints_of_wellAll ns _ hall, hlen⟩

theorem post_true (l : OpenLaw) (args : List WData) : l.row.toRowW.claim.post args (.bool true) args = true :=
  postW_of (r := l.row.toRowW) (X := (true == true))
    (show WShape.has [] (.bool true) .bool = true by first | rfl | decide | simp [WShape.has, WShape.arms, WShape.armsAll])
    (show (WTm.eq .res (.lit (.bool true))).value [] { args := args, res := some (.bool true), after := args } = some (.bool (true == true)) from w_eq_bool (w_res rfl) w_lit) rfl

/-! ### the attachment: holds_open's last premise (the goal 'hc' behind k_head) from a wpAny of the law's body -/
/-- the same from a codeAny of the CALL (for a layer whose function contracts speak of calls) -/
theorem attach_call {l : OpenLaw} {n : Nat} {q : Program} {loose : List Str} {XP : (Str → Option Value) → Heap → Prop} {YP : World → Heap → Prop} {d : DefRec}
    (hn : l.most = some n) (hdf : d.params.defaults = [])
    (call : ∀ (w : World) (s₀ s₁ : Shared) (mg mb : Str → Option Value) (fa : Addr) (o : Obj) (pm cd doc : Value) (a : Addr) (vs : List Value) (ns : List Int),
      Ground q loose [] XP w s₀ mg mb s₁.heap → YP w s₁.heap →
      s₁.heap.get? fa = some o → o.data = .func (docDef d.name d.params d.body d.scope pm cd doc) → s₁.heap.CodeRec cd d.name → mg d.name = some (.ref fa) →
      s₁.heap.get? a = some { cls := .type "list", data := .seq vs.toArray } → IntsAre vs ns → ns.length ≤ n → s₁.gens = #[] →
      codeAny (model l.prog w) callerA (.call (.ref fa) ⟨[.ref a], []⟩) (fun r s' => r = .ok (.ret (.bool true)) ∧ OldK s₁.heap s'.heap ∧ s'.os = s₁.os ∧ AllBare s'.gens) s₁) :
    WalkO q loose XP YP l.row.toRowW d [] (fun f vs => PySem.call f vs) := by
  intro w s₀ s₁ mg mb G Y fa o pm cd doc dV kV ho hd hcd hD hmg hg args vals as hpre hlay hrd hwl hlo
  obtain rfl : dV = .none := Dflts.none hD hdf
  obtain rfl : kV = .none := Dflts.noKw hD
  obtain ⟨a, vs, ns, rfl, rfl, hobj, hints, hlen⟩ := script_of hn hpre hwl
  refine enter_call (codeAny_mono (call w s₀ s₁ mg mb fa o pm cd doc a vs ns G Y ho (fd_plain hd) hcd hmg hobj hints hlen hg) fun r s' hq => ?_)
  obtain ⟨rfl, h2, h3, h4⟩ := hq
  exact ⟨.inl ⟨.bool true, .bool true, [], rfl, fun _ => rfl, .bool true, post_true l _, fun _ => ⟨List.Pairwise.nil, fun _ hm => (nomatch hm)⟩⟩, h2, h3, h4⟩

/-! ### rules over ANY heap (no ledger) from facts about the written part K: the library's own take a ledger (News) for what they write -/
section
variable {prog : Program} {w : World} {A : Around} {E : Value → Shared → Prop} {s : Shared} {K : Frag}

/-! the whole heap as the ledger: makes every rule that writes through a ledger a rule over any heap -/
def noObjs (h : Heap) : Heap := { h with objs := #[] }
def ledger (h : Heap) (L d : Addr) : List (Addr × Obj) := (List.range h.objs.size).filterMap fun a => if a = L ∨ a = d then none else (h.get? a).map fun o => (a, o)
end
end Att

namespace L2
open PySem PySem.Spec PyProof.Rows

theorem vals_ints : ∀ {vs : List Value} {ns : List Int}, IntsAre vs ns → Vals (ns.map V.int) vs
  | _, _, .nil => .nil
  | _, _, .cons n t h => .cons ⟨t, rfl⟩ (vals_ints h)

/-- nothing is tracked but the script, known to the object (or it is an object of the module) -/
def Only (H : Hp) : Prop := ∀ b, H b = none ∨ ∃ o xs, H b = some (.frz o (.lst xs))

/-- THE HEAD: the law's promise, at the heap behind the top. F, the promise of the law's def, may use that base is part of the heap (so K.In base, base.Ns mainGlobals mg stand in Mod) -/
theorem law_call {P : Program} {w : World} {K : PySem.W.Frag} {mg mb : Str → Option Value} {CX : CXT} {k : Nat} {fa a : Addr} {fd : FuncData} {x : Str} {sp : Sp} {s₁ : Shared} {vs : List Value} {ns : List Int}
    (KX : K.In s₁.heap) (hns : s₁.heap.Ns mainGlobals mg) (hb : s₁.heap.Ns builtinsNs mb) (hbb : ∀ x : Str, x ≠ "__name__" → mb x = bootBuiltins x) (hlim : s₁.heap.NoLimit) (hg : s₁.gens = #[])
    (ha : s₁.heap.get? a = some { cls := .type "list", data := .seq vs.toArray }) (hi : IntsAre vs ns) (hl : ns.length ≤ sizeLine) (hr : Room k callerA)
    (F : ∀ base : Heap, K.In base → base.Ns mainGlobals mg → FnOk P w K mg base CX k fa fd [x] sp) (hbind : ∀ (s : Shared) (u : Value), BindsTo s fd ⟨[u], []⟩ [(x, u)])
    (hsp : ∀ H : Hp, Only H → SqL K H a (ns.map V.int) → sp [.ref a] H (fun v _ => v = .bl true) fun _ _ _ => False)
    (hCX : ∀ H e s', CX [] H s₁ (fun _ _ _ => False) e s' → False) :
    codeAny (model P w) callerA (.call (.ref fa) ⟨[.ref a], []⟩) (fun r s' => r = .ok (.ret (.bool true)) ∧ OldK s₁.heap s'.heap ∧ s'.os = s₁.os ∧ AllBare s'.gens) s₁ := by
  have rv := vals_ints hi
  have lenV := hi.length
  -- from an abstract heap in which nothing but the script may be tracked
  have core : ∀ H : Hp, Only H → SqL K H a (ns.map V.int) → HOk P w H s₁.heap → (∀ b, H b ≠ none → b = a) → (H a ≠ none → K.lookup a = none) →
      codeAny (model P w) callerA (.call (.ref fa) ⟨[.ref a], []⟩) (fun r s' => r = .ok (.ret (.bool true)) ∧ OldK s₁.heap s'.heap ∧ s'.os = s₁.os ∧ AllBare s'.gens) s₁ := by
    intro H hO hS hok hA hK
    have base_of : ∀ {b : Addr} {o : Obj}, s₁.heap.get? b = some o → H b = none → (hidT s₁.heap H).get? b = some o := fun e n => hidT_get e n
    have noA : ∀ {b : Addr} {o : Obj} {es : Array DictEntry} {ep : Nat}, s₁.heap.get? b = some o → o.data = .dict es ep → H b = none := fun {b o es ep} e d => by
      cases q : H b with
      | none => rfl
      | some u =>
        have e' : b = a := hA b (by rw [q]; simp)
        subst e'
        rw [ha] at e; cases e
        have d' : Data.seq vs.toArray _ = Data.dict es ep := d
        cases d'
    have nsK : ∀ {b : Addr} {m : Str → Option Value}, s₁.heap.Ns b m → (hidT s₁.heap H).Ns b m := fun {b m} ⟨o, es, ep, e, d, r⟩ => ⟨o, es, ep, base_of e (noA e d), d, r⟩
    have hKb : K.In (hidT s₁.heap H) := fun b o e => base_of (KX b o e) (by
      cases q : H b with
      | none => rfl
      | some u =>
        have e' : b = a := hA b (by rw [q]; simp)
        subst e'
        rw [hK (by rw [q]; simp)] at e; cases e)
    have hM : Mod K mg (hidT s₁.heap H) := ⟨hKb, nsK hns, ⟨mb, nsK hb, hbb⟩, let ⟨mc, h1, h2⟩ := hlim; ⟨mc, nsK h1, h2⟩⟩
    have e0 : Env0 P w K mg (hidT s₁.heap H) callerA [] s₁ H := ⟨rfl, hM, fun b o e => of_hidT e, Nat.le_of_eq (hidT_size _ _), trivial, fun b hb => absurd (show b ∈ ([] : List Addr) from hb) (by simp), hok, .of_eq hg⟩
    refine codeAny_mono ((F _ hKb (nsK hns)).run callerA [] s₁ H ⟨[.ref a], []⟩ [.ref a] [.ref a] _ _ hr e0 (hbind s₁ (.ref a)) (.cons rfl .nil) (hsp H hO hS)) fun r s' h => ?_
    cases r with
    | error e => exact (hCX H e s' h).elim
    | ok fl =>
      cases fl with
      | next => exact False.elim h
      | brk => exact False.elim h
      | cont => exact False.elim h
      | ret u =>
        obtain ⟨v, H', os, bare, un, hok', r', q⟩ := h
        have q' : v = .bl true := q
        subst q'
        obtain rfl : u = Value.bool true := r'
        refine ⟨rfl, OldK.of_keep fun b o e => ?_, os, bare⟩
        cases q : H b with
        | none => exact un.keep b o e q (by intro z; exact absurd (show b ∈ ([] : List Addr) from z) (by simp)) (by simp)
        | some u =>
          rcases hO b with z | ⟨ob, xs, z⟩
          · rw [q] at z; cases z
          · have z2 := un.frzs b ob _ z
            obtain ⟨e1, _⟩ := hok b _ z
            obtain ⟨e2, _⟩ := hok' b _ z2
            rw [e] at e1; cases e1
            exact e2
  cases hk : K.lookup a with
  | some o =>
    -- the script is one of the module's own objects
    have e := KX a o hk
    rw [ha] at e
    cases e
    refine core (fun _ => none) (fun _ => .inl rfl) (.inr ⟨_, vs.toArray, _, hk, rfl, rfl, rfl, by rw [List.size_toArray, lenV]; exact hl, by simpa using rv⟩) (fun b u z => by have z' : (none : Option HO) = some u := z; cases z') (fun b z => absurd rfl z) fun z => absurd rfl z
  | none =>
    refine core (fun b => if b = a then some (.frz { cls := .type "list", data := .seq vs.toArray } (.lst (ns.map V.int))) else none) (fun b => ?_) (.inl (.inr ⟨{ cls := .type "list", data := .seq vs.toArray }, if_pos rfl⟩)) (fun b u z => ?_) (fun b z => ?_) fun _ => hk
    · by_cases hb : b = a
      · exact .inr ⟨_, _, if_pos hb⟩
      · exact .inl (if_neg hb)
    · by_cases hb : b = a
      · have z' := (if_pos hb).symm.trans z
        cases z'
        subst hb
        exact ⟨ha, by rw [List.length_map]; exact hl, vs, _, rv, ha⟩
      · have z' := (if_neg hb).symm.trans z
        cases z'
    · by_cases hb : b = a
      · exact hb
      · exact absurd (if_neg hb) z
end L2

namespace L2
open PySem PySem.Spec PyProof.Rows

abbrev KOf {K : PySem.W.Frag} {h : Heap} (_ : K.In h) : PySem.W.Frag := K

/-- the goal that k_head leaves (case hc), from the law's promise. F gives the function object fd (K's own) once, then the promise over every base -/
theorem walk_of {l : PySem.W.OpenLaw} {n k : Nat} {q : Program} {loose : List Str} {XP : (Str → Option Value) → Heap → Prop} {YP : World → Heap → Prop} {d : DefRec} {K : Params → PySem.W.Frag} {CX : World → CXT} {sp : World → Sp} {x : Str}
    (hn : l.most = some n) (hn2 : n ≤ sizeLine) (hdf : d.params.defaults = []) (hr : Room k callerA)
    (hY : ∀ (w : World) (h : Heap), YP w h → (K w.params).In h)
    (F : ∀ (w : World) (mg : Str → Option Value) (fa : Addr) (h : Heap), (K w.params).In h → h.Ns mainGlobals mg → mg d.name = some (.ref fa) →
      ∃ fd : FuncData, (∀ (s : Shared) (u : Value), BindsTo s fd ⟨[u], []⟩ [(x, u)]) ∧
        ∀ base : Heap, (K w.params).In base → base.Ns mainGlobals mg → FnOk l.prog w (K w.params) mg base (CX w) k fa fd [x] (sp w))
    (hsp : ∀ (w : World) (H : Hp) (a : Addr) (ns : List Int), ns.length ≤ n → Only H → SqL (K w.params) H a (ns.map V.int) → sp w [.ref a] H (fun v _ => v = .bl true) fun _ _ _ => False)
    (hCX : ∀ (w : World) (H : Hp) (s : Shared) (e : Value) (s' : Shared), CX w [] H s (fun _ _ _ => False) e s' → False) :
    PySem.W.WalkO q loose XP YP l.row.toRowW d [] (fun f vs => PySem.call f vs) := by
  refine Att.attach_call hn hdf fun w s₀ s₁ mg mb fa o pm cd doc a vs ns G Y ho hd hcd hmg hobj hints hlen hg => ?_
  have KX := hY w _ Y
  obtain ⟨fd, hb, hF⟩ := F w mg fa _ KX G.T.g hmg
  exact law_call KX G.T.g G.T.b G.T.builtins G.T.nolimit hg hobj hints (Nat.le_trans hlen hn2) hr hF hb (fun H hO hS => hsp w H a ns hlen hO hS) fun H e s' => hCX w H s₁ e s'
end L2

/-! SHORT WORDS over the layer: a def of the text, its body, what a loop and a test want. -/
namespace L2
open PySem PySem.Spec PyProof.Rows

/-! ### the text by places -/
/-- the j-th statement of a class's body -/
def inClass (s : Stmt) (j : Nat) : Stmt := match s with
  | .ClassDef _ _ _ body _ _ _ _ _ _ _ => body.getD j (.Pass ⟨0, 0, 0, 0⟩)
  | _ => .Pass ⟨0, 0, 0, 0⟩
def defArgs (s : Stmt) : Arguments := match s with
  | .FunctionDef _ a _ _ _ _ _ _ _ _ => a
  | _ => { posonlyargs := [], args := [], vararg := none, kwonlyargs := [], kw_defaults := [], kwarg := none, defaults := [] }
def defBody (s : Stmt) : List Stmt := match s with
  | .FunctionDef _ _ b _ _ _ _ _ _ _ => b
  | _ => []
def defScope (s : Stmt) : Scope := match s with
  | .FunctionDef _ _ _ _ _ _ sc _ _ _ => sc
  | _ => { kind := .function, names := [], isGenerator := false, isCoroutine := false }

/-! ### no exception leaves a def -/
abbrev CX0 : CXT := fun _ _ _ _ _ _ => False
abbrev E0 : XK := fun _ _ _ => False
theorem pass0 {X : Cx} : Passes CX0 X E0 := fun _ _ _ _ _ _ _ h => h.elim

/-! ### a def (or method) of the text as it stands behind the top -/
structure Fun (K : PySem.W.Frag) (x qual : Str) (st : Stmt) (f : Addr) (fd : FuncData) : Prop where
  ex : ∃ (oc : Value) (od : Option Addr) (kV doc pm : Value) (an : Option Addr) (cdv ct : Value) (osl : Array (Option Value)),
    fd = PySem.W.fnOf x qual (defArgs st) (defBody st) (defScope st) .none kV doc pm an cdv ct ∧ K.lookup f = some ⟨oc, od, .func fd, osl⟩ ∧ PySem.W.codeIn K cdv qual = true
  kp : PySem.W.keepIn K (.ref f) = true
section
variable {P : Program} {w : World} {K : PySem.W.Frag} {mg : Str → Option Value} {base : Heap}
/-- THE RULE for a def: its body as a term of rules, and the reading of that term -/
theorem Fun.ok {x qual : Str} {st : Stmt} {f : Addr} {fd : FuncData} {N ps : List Str} {k : Nat} {sp : Sp} (F : Fun K x qual st f fd) (S : FnScope N ps (defScope st)) (len : ∀ vs H Q E, sp vs H Q E → vs.length = ps.length)
    (hbody : ∀ (cdv : Value) (A : Around) (outer : List Env) (s : Shared) (H : Hp) (vs : List V) (Q : VK) (E : XK), Room k (A.deeper (envOfC qual (defScope st) s.heap.objs.size f cdv)) → sp vs H Q E →
      ∃ t, PSs (cxOf CX0 P w K mg base N qual (defScope st) f cdv A outer s H E).nox (defBody st) t ∧ t { nx := fun _ H' => Q .non H', rt := Q } (start N vs) H) : FnOk P w K mg base CX0 (k + 1) f fd ps sp := by
  obtain ⟨oc, od, kV, doc, pm, an, cdv, ct, osl, rfl, lk, hcd⟩ := F.ex
  refine fn_of lk hcd S len fun A outer s H vs Q E hr hsp => ?_
  obtain ⟨t, h, q⟩ := hbody cdv A outer s H vs Q E hr hsp
  exact ⟨t, h.nox, q⟩
/-- how its arguments bind (no defaults): h is «fun _ _ _ _ _ _ us hl => match us, hl with | [_, _], _ => rfl», one _ a parameter -/
theorem Fun.binds {x qual : Str} {st : Stmt} {f : Addr} {fd : FuncData} {ps : List Str} (F : Fun K x qual st f fd)
    (h : ∀ (kV doc pm : Value) (an : Option Addr) (cdv ct : Value) (us : List Value), us.length = ps.length → bindArgs (PySem.W.fnOf x qual (defArgs st) (defBody st) (defScope st) .none kV doc pm an cdv ct) ⟨us, []⟩ = pure (ps.zip us)) : Binds K fd ps [] := by
  obtain ⟨oc, od, kV, doc, pm, an, cdv, ct, osl, rfl, lk, hcd⟩ := F.ex
  exact .all (h kV doc pm an cdv ct)
theorem fun_mk {x qual : Str} {st : Stmt} {f : Addr} {oc : Value} {od an : Option Addr} {osl : Array (Option Value)} {kV doc pm cdv ct : Value} (l : K.lookup f = some ⟨oc, od, .func (PySem.W.fnOf x qual (defArgs st) (defBody st) (defScope st) .none kV doc pm an cdv ct), osl⟩)
    (c : PySem.W.codeIn K cdv qual = true) (k : PySem.W.keepIn K (.ref f) = true) : Fun K x qual st f (PySem.W.fnOf x qual (defArgs st) (defBody st) (defScope st) .none kV doc pm an cdv ct) := ⟨⟨oc, od, kV, doc, pm, an, cdv, ct, osl, rfl, l, c⟩, k⟩
end
theorem hu_of {A : Around} {k : Nat} (hr : Room k A) : A.units + 1 < cLine := Nat.lt_of_le_of_lt (Nat.add_le_add_left (by decide : 1 ≤ 64) _) hr.units
/-! ### expressions in short: the name that stands in the i-th slot -/
section
variable {X : Cx}
theorem pv (i : Nat) {x : Str} {pos : Pos} (hN : X.N[i]? = some x := by rfl) (hv : Vis X.env.scope x := by first | exact Or.inl rfl | exact Or.inr (Or.inl rfl) | exact Or.inr (Or.inr rfl)) (hd : (x == ("__debug__" : Str)) = false := by decide)
    (hcd : (x == ("__classdict__" : Str)) = false := by decide) : PE X (.Name x pos) (tVar i) := pe_var hN hv hd hcd
end

/-! ### tests -/
/-! ### heaps -/
/-- all that was tracked is as it was -/
def Same (H H' : Hp) : Prop := ∀ b o, H b = some o → H' b = some o
theorem Same.refl (H : Hp) : Same H H := fun _ _ h => h
theorem Same.trans {H H1 H2 : Hp} (a : Same H H1) (b : Same H1 H2) : Same H H2 := fun c o h => b c o (a c o h)
theorem Same.free {H H' : Hp} (e : Same H H') {l : Addr} (h : H' l = Option.none) : H l = Option.none := by
  cases q : H l with
  | none => rfl
  | some o =>
    rw [e l o q] at h
    cases h
theorem Same.seq {K : PySem.W.Frag} {H H' : Hp} {a : Addr} {xs : List V} (e : Same H H') (h : SqL K H a xs) : SqL K H' a xs := by
  rcases h with (h | ⟨o, h⟩) | h
  · exact .inl (.inl (e _ _ h))
  · exact .inl (.inr ⟨o, e _ _ h⟩)
  · exact .inr h

end L2

namespace L2
open PySem PySem.Spec PyProof.Rows

/-! ### lists of pairs as tables -/
section
variable {κ : Type} [DecidableEq κ]
def valV (kvs : List (κ × V)) (k : κ) : Option V := (kvs.find? fun kv => decide (kv.1 = k)).map (·.2)
/-- in its place, or at the end -/
def putK (kvs : List (κ × V)) (k : κ) (v : V) : List (κ × V) :=
  if (kvs.any fun kv => decide (kv.1 = k)) = true then kvs.map (fun kv => if kv.1 = k then (kv.1, v) else kv) else kvs ++ [(k, v)]
def dropK (kvs : List (κ × V)) (k : κ) : List (κ × V) := kvs.filter fun kv => decide (kv.1 ≠ k)

theorem valV_pos {p : κ × V} {r : List (κ × V)} {k : κ} (e : p.1 = k) : valV (p :: r) k = some p.2 := by simp [valV, List.find?_cons, e]
theorem valV_neg {p : κ × V} {r : List (κ × V)} {k : κ} (e : ¬ p.1 = k) : valV (p :: r) k = valV r k := by simp [valV, List.find?_cons, e]
theorem valV_any (k : κ) : ∀ kvs : List (κ × V), (kvs.any fun kv => decide (kv.1 = k)) = (valV kvs k).isSome
  | [] => rfl
  | p :: r => by
    rw [List.any_cons]
    by_cases e : p.1 = k
    · simp only [valV_pos e, decide_eq_true e, Bool.true_or, Option.isSome_some]
    · rw [valV_neg e, decide_eq_false e, Bool.false_or]; exact valV_any k r
theorem length_putK (kvs : List (κ × V)) (k : κ) (v : V) : (putK kvs k v).length ≤ kvs.length + 1 := by
  unfold putK
  split
  · rw [List.length_map]; omega
  · rw [List.length_append, List.length_cons, List.length_nil]; omega
theorem RelO.isSome_eq {o : Option V} {u : Option Value} (r : RelO o u) : o.isSome = u.isSome := by
  cases o with
  | none => cases u with
    | none => rfl
    | some _ => exact (show False from r).elim
  | some _ => cases u with
    | none => exact (show False from r).elim
    | some _ => rfl
theorem RelO.getD {o : Option V} {u : Option Value} {d : V} {d' : Value} (r : RelO o u) (rd : RelV d d') : RelV (o.getD d) (u.getD d') := by
  cases o with
  | none => cases u with
    | none => exact rd
    | some _ => exact (show False from r).elim
  | some _ => cases u with
    | none => exact (show False from r).elim
    | some _ => exact r

/-- raw tables of the same keys -/
theorem KV.val {kvs : List (κ × V)} {vs : List (κ × Value)} (r : KV kvs vs) (k : κ) : RelO (valV kvs k) (valueAt vs k) := by
  unfold KV at r
  induction r with
  | nil => exact True.intro
  | @cons p q ps qs h t ih =>
    obtain ⟨h1, h2⟩ := h
    by_cases e : p.1 = k
    · have e' : q.1 = k := h1.symm.trans e
      have b : valueAt (q :: qs) k = some q.2 := by simp [valueAt, List.find?_cons, e']
      rw [valV_pos e, b]; exact h2
    · have e' : ¬ q.1 = k := fun z => e (h1.trans z)
      have b : valueAt (q :: qs) k = valueAt qs k := by simp [valueAt, List.find?_cons, e']
      rw [valV_neg e, b]; exact ih
theorem KV.any {kvs : List (κ × V)} {vs : List (κ × Value)} (r : KV kvs vs) (k : κ) : (kvs.any fun kv => decide (kv.1 = k)) = vs.any fun kv => decide (kv.1 = k) := by
  unfold KV at r
  induction r with
  | nil => rfl
  | cons h t ih => rw [List.any_cons, List.any_cons, ih, h.1]
theorem KV.repl {kvs : List (κ × V)} {vs : List (κ × Value)} (r : KV kvs vs) (k : κ) {y : V} {u : Value} (ry : RelV y u) :
    KV (kvs.map fun kv => if kv.1 = k then (kv.1, y) else kv) (vs.map fun kv => if kv.1 = k then (kv.1, u) else kv) := by
  unfold KV at r ⊢
  induction r with
  | nil => exact .nil
  | @cons p q ps qs h t ih =>
    rw [List.map_cons, List.map_cons]
    refine .cons ?_ ih
    obtain ⟨h1, h2⟩ := h
    by_cases e : p.1 = k
    · rw [if_pos e, if_pos (h1.symm.trans e)]; exact ⟨h1, ry⟩
    · rw [if_neg e, if_neg (fun z => e (h1.trans z))]; exact ⟨h1, h2⟩
theorem KV.put {kvs : List (κ × V)} {vs : List (κ × Value)} (r : KV kvs vs) (k : κ) {y : V} {u : Value} (ry : RelV y u) : KV (putK kvs k y) (stored vs k u) := by
  unfold putK stored
  rw [r.any k]
  by_cases e : (vs.any fun kv => decide (kv.1 = k)) = true
  · rw [if_pos e, if_pos e]; exact r.repl k ry
  · rw [if_neg e, if_neg e]; exact Paired.snoc r ⟨rfl, ry⟩
theorem KV.drop {kvs : List (κ × V)} {vs : List (κ × Value)} (r : KV kvs vs) (k : κ) : KV (dropK kvs k) (without vs k) := by
  unfold KV at r ⊢
  unfold dropK without
  induction r with
  | nil => exact .nil
  | @cons p q ps qs h t ih =>
    obtain ⟨h1, h2⟩ := h
    rw [List.filter_cons, List.filter_cons]
    by_cases e : p.1 = k
    · have a : ¬ decide (p.1 ≠ k) = true := by simp [e]
      have b : ¬ decide (q.1 ≠ k) = true := by simp [h1.symm.trans e]
      rw [if_neg a, if_neg b]; exact ih
    · have e' : ¬ q.1 = k := fun z => e (h1.trans z)
      have a : decide (p.1 ≠ k) = true := by simp [e]
      have b : decide (q.1 ≠ k) = true := by simp [e']
      rw [if_pos a, if_pos b]; exact .cons ⟨h1, h2⟩ ih
theorem KV.keys {kvs : List (κ × V)} {vs : List (κ × Value)} (r : KV kvs vs) : kvs.map (·.1) = vs.map (·.1) := by
  unfold KV at r
  induction r with
  | nil => rfl
  | cons h t ih => rw [List.map_cons, List.map_cons, ih, h.1]
theorem KV.length {kvs : List (κ × V)} {vs : List (κ × Value)} (r : KV kvs vs) : kvs.length = vs.length := Paired.length r
end


/-! ### a tracked dict, its keys ints and texts or tuples of these -/
theorem kV_is {P : Program} {w : World} {k : Key} {u : Value} (r : RelV (kV k) u) : (mixKind P w).is k u = true := by
  cases k with
  | inl i => obtain ⟨t, e⟩ := (show ∃ t, u = Value.int i t from r); subst e; exact mixKind_int P w i t
  | inr x => obtain ⟨t, e⟩ := (show ∃ t, u = Value.str x t from r); subst e; exact mixKind_str P w x t
theorem items_are {P : Program} {w : World} : ∀ {ks : List Key} {us : List Value}, Vals (ks.map kV) us → ItemsAre (mixKind P w) ks us
  | [], _, r => by rw [List.map_nil] at r; cases r; exact .nil
  | k :: ks, _, r => by
    rw [List.map_cons] at r
    cases r with
    | cons h t => exact .cons (kV_is h) (items_are t)

/-- raw entries of a dict with tuple keys -/
abbrev KT (H : Hp) : List (List Key × V) → List (List Key × Addr × Value) → Prop := Paired fun p q => p.1 = q.1 ∧ H q.2.1 = some (.tup (p.1.map kV)) ∧ RelV p.2 q.2.2
theorem KT.val {H : Hp} {kvs : List (List Key × V)} {xs : List (List Key × Addr × Value)} (r : KT H kvs xs) (k : List Key) : RelO (valV kvs k) ((atKey xs k).map (·.2)) := by
  induction r with
  | nil => exact True.intro
  | @cons p q ps qs h t ih =>
    obtain ⟨h1, _, h2⟩ := h
    by_cases e : p.1 = k
    · have e' : q.1 = k := h1.symm.trans e
      have b : atKey (q :: qs) k = some q.2 := by simp [atKey, List.find?_cons, e']
      rw [valV_pos e, b]; exact h2
    · have e' : ¬ q.1 = k := fun z => e (h1.trans z)
      have b : atKey (q :: qs) k = atKey qs k := by simp [atKey, List.find?_cons, e']
      rw [valV_neg e, b]; exact ih
theorem KT.repl {H : Hp} {kvs : List (List Key × V)} {xs : List (List Key × Addr × Value)} (r : KT H kvs xs) (k : List Key) {y : V} {u : Value} (ry : RelV y u) :
    KT H (kvs.map fun kv => if kv.1 = k then (kv.1, y) else kv) (xs.map (putAt k u)) := by
  induction r with
  | nil => exact .nil
  | @cons p q ps qs h t ih =>
    rw [List.map_cons, List.map_cons]
    refine .cons ?_ ih
    obtain ⟨h1, h2, h3⟩ := h
    unfold putAt
    by_cases e : p.1 = k
    · rw [if_pos e, if_pos (h1.symm.trans e)]; exact ⟨h1, h2, ry⟩
    · rw [if_neg e, if_neg (fun z => e (h1.trans z))]; exact ⟨h1, h2, h3⟩
theorem KT.put {H : Hp} {kvs : List (List Key × V)} {xs : List (List Key × Addr × Value)} (r : KT H kvs xs) (k : List Key) {b : Addr} {y : V} {u : Value} (hb : H b = some (.tup (k.map kV))) (ry : RelV y u) :
    KT H (putK kvs k y) (storedH xs k b u) := by
  have e : (kvs.any fun kv => decide (kv.1 = k)) = (atKey xs k).isSome := by
    rw [valV_any, (r.val k).isSome_eq, Option.isSome_map]
  unfold putK storedH
  rw [e]
  by_cases q : (atKey xs k).isSome = true
  · rw [if_pos q, if_pos q]; exact r.repl k ry
  · rw [if_neg q, if_neg q]; exact Paired.snoc r ⟨rfl, hb, ry⟩
theorem KT.keeps {H H' : Hp} {kvs : List (List Key × V)} {xs : List (List Key × Addr × Value)} (r : KT H kvs xs) (ht : ∀ b ys, H b = some (.tup ys) → H' b = some (.tup ys)) : KT H' kvs xs :=
  Paired.mapP r fun _ _ z => ⟨z.1, ht _ _ z.2.1, z.2.2⟩

section
variable {P : Program} {w : World} {H : Hp} {h : Heap} {a : Addr}
theorem rd_of {u : HO} (ok : HOk P w H h) (e : Rd H a u) : ObjOk P w H h a u := e.ok ok
theorem dk_rd {kvs : List (Key × V)} (ok : HOk P w H h) (e : Rd H a (.dK kvs)) : kvs.length ≤ sizeLine ∧ (a == sysModules) = false ∧ ∃ vs, KV kvs vs ∧ h.DictOf (mixKind P w) a vs :=
  show ObjOk P w H h a (.dK kvs) from rd_of ok e
theorem dk_of {kvs : List (Key × V)} (ok : HOk P w H h) (e : H a = some (.dK kvs)) : kvs.length ≤ sizeLine ∧ (a == sysModules) = false ∧ ∃ vs, KV kvs vs ∧ h.DictOf (mixKind P w) a vs := dk_rd ok (.inl e)
/-- a tracked tuple of ints and texts is a key -/
theorem key_of {ks : List Key} (ok : HOk P w H h) (e : H a = some (.tup (ks.map kV))) : (tupleKind (mixKind P w)).is h ks a := by
  obtain ⟨_, its, r, o, h1, h2, n, h3⟩ := (show ObjOk P w H h a (.tup (ks.map kV)) from ok a _ e)
  exact ⟨o, its.toArray, n, h1, h2, h3, by simpa using items_are r⟩
theorem dt_rd {kvs : List (List Key × V)} (ok : HOk P w H h) (e : Rd H a (.dT kvs)) : kvs.length ≤ sizeLine ∧ (a == sysModules) = false ∧
    ∃ xs, KT H kvs xs ∧ h.DictOfH (tupleKind (mixKind P w)) a xs := by
  obtain ⟨z, y, xs, r, o, es, ep, h1, h2, h3, h4, h5⟩ := (show ObjOk P w H h a (.dT kvs) from rd_of ok e)
  refine ⟨z, y, xs, r, o, es, ep, h1, h2, h3, h4, fun x hx => ?_, h5⟩
  have all : ∀ {l : List (List Key × V)} {m : List (List Key × Addr × Value)}, KT H l m → ∀ x ∈ m, (tupleKind (mixKind P w)).is h x.1 x.2.1 := by
    intro l m q
    induction q with
    | nil => intro x hx; exact nomatch hx
    | @cons p q ps qs hq t ih =>
      intro x hx
      rcases List.mem_cons.mp hx with e | hx
      · subst e
        exact key_of ok (by rw [← hq.1]; exact hq.2.1)
      · exact ih x hx
  exact all r x hx
theorem dt_of {kvs : List (List Key × V)} (ok : HOk P w H h) (e : H a = some (.dT kvs)) : kvs.length ≤ sizeLine ∧ (a == sysModules) = false ∧
    ∃ xs, KT H kvs xs ∧ h.DictOfH (tupleKind (mixKind P w)) a xs := dt_rd ok (.inl e)
end

/-- what the dict at a holds at the key y -/
def DGet (H : Hp) (a : Addr) (y : V) (r : Option V) : Prop :=
  (∃ kvs k, Rd H a (.dK kvs) ∧ y = kV k ∧ r = valV kvs k) ∨ ∃ kvs k b, Rd H a (.dT kvs) ∧ y = .ref b ∧ H b = some (.tup (k.map kV)) ∧ r = valV kvs k
/-- the heap behind a[y] = v -/
def DPut (H : Hp) (a : Addr) (y v : V) (H' : Hp) : Prop :=
  (∃ kvs k, H a = some (.dK kvs) ∧ y = kV k ∧ kvs.length < sizeLine ∧ H' = upd H a (.dK (putK kvs k v))) ∨
  ∃ kvs k b, H a = some (.dT kvs) ∧ y = .ref b ∧ H b = some (.tup (k.map kV)) ∧ kvs.length < sizeLine ∧ H' = upd H a (.dT (putK kvs k v))
theorem DGet.k {H : Hp} {a : Addr} {kvs : List (Key × V)} {k : Key} (e : H a = some (.dK kvs)) : DGet H a (kV k) (valV kvs k) := .inl ⟨kvs, k, .inl e, rfl, rfl⟩
theorem DGet.t {H : Hp} {a b : Addr} {kvs : List (List Key × V)} {k : List Key} (e : H a = some (.dT kvs)) (eb : H b = some (.tup (k.map kV))) : DGet H a (.ref b) (valV kvs k) := .inr ⟨kvs, k, b, .inl e, rfl, eb, rfl⟩
theorem DPut.k {H : Hp} {a : Addr} {kvs : List (Key × V)} {k : Key} {v : V} (e : H a = some (.dK kvs)) (hl : kvs.length < sizeLine) : DPut H a (kV k) v (upd H a (.dK (putK kvs k v))) := .inl ⟨kvs, k, e, rfl, hl, rfl⟩
theorem DPut.t {H : Hp} {a b : Addr} {kvs : List (List Key × V)} {k : List Key} {v : V} (e : H a = some (.dT kvs)) (eb : H b = some (.tup (k.map kV))) (hl : kvs.length < sizeLine) :
    DPut H a (.ref b) v (upd H a (.dT (putK kvs k v))) := .inr ⟨kvs, k, b, e, rfl, eb, hl, rfl⟩


section
variable {X : Cx} {pins : List (Addr × Obj)} {σ : St} {H : Hp} {s : Shared} {a : Addr} {y v : V} {u r : Value} {o : Option V} {A : Around} {E : Value → Shared → Prop}

theorem Inv.big (I : Inv X pins σ H s) : sysModules < s.heap.objs.size := by
  have h : mainGlobals < s.heap.objs.size := (I.mod.glob.keeps I.bk).lt
  exact Nat.lt_trans (by decide) h

/-- d[y], there -/
theorem d_getItem {Q : Value → Shared → Prop} (hu : A.units + 1 < cLine) (I : Inv X pins σ H s) (g : DGet H a y (some v)) (ry : RelV y u) (h : ∀ w' s', Inv X pins σ H s' → RelV v w' → Q w' s') :
    wpAny (model X.prog X.w) A (getItem (.ref a) u) Q E s := by
  rcases g with ⟨kvs, k, e, ey, l⟩ | ⟨kvs, k, b, e, ey, eb, l⟩
  · subst ey
    obtain ⟨z, hd, vs, rel, dd⟩ := dk_rd I.hok e
    obtain ⟨w', hw, rw'⟩ := RelO.some_of (v := v) (o := valueAt vs k) (by rw [l]; exact rel.val k)
    exact wpAny_getItem_of (kV_is ry) dd.mapOf hw (h w' _ (I.tok _) rw')
  · subst ey
    cases (show u = Value.ref b from ry)
    obtain ⟨z, hd, xs, rel, dd⟩ := dt_rd I.hok e
    obtain ⟨w', hw, rw'⟩ := RelO.some_of (v := v) (o := (atKey xs k).map (·.2)) (by rw [l]; exact rel.val k)
    obtain ⟨p, hp, hp2⟩ := Option.map_eq_some_iff.mp hw
    refine wpAny_getItem_heap (tupleKind_room_in1 hu) (key_of I.hok eb) dd hp ?_
    rw [hp2]
    exact h w' _ (I.tok _) rw'
/-- y in d -/
theorem d_in {Q : Value → Shared → Prop} (hu : A.units + 1 < cLine) (I : Inv X pins σ H s) (g : DGet H a y o) (ry : RelV y u) (h : ∀ s', Inv X pins σ H s' → Q (.bool o.isSome) s') :
    wpAny (model X.prog X.w) A (compareOp .In u (.ref a)) Q E s := by
  rcases g with ⟨kvs, k, e, ey, l⟩ | ⟨kvs, k, b, e, ey, eb, l⟩
  · subst ey
    obtain ⟨z, hd, vs, rel, dd⟩ := dk_rd I.hok e
    refine wpAny_in_of (kV_is ry) hd dd.mapOf ?_
    rw [← (rel.val k).isSome_eq, ← l]
    exact h _ (I.tok _)
  · subst ey
    cases (show u = Value.ref b from ry)
    obtain ⟨z, hd, xs, rel, dd⟩ := dt_rd I.hok e
    refine wpAny_in_heap (tupleKind_room_in1 hu) (key_of I.hok eb) hd dd ?_
    have q := (rel.val k).isSome_eq
    rw [Option.isSome_map] at q
    rw [← q, ← l]
    exact h _ (I.tok _)
/-- a dict's object is replaced -/
theorem d_write {h' : Heap} {t' : Nat} {ob : HO} (I : Inv X pins σ H s) (mu : Mut (H a)) (hs : Heap.SameBut a s.heap h') (he : ∃ q, h'.get? a = some q) (new : ObjOk X.prog X.w (upd H a ob) h' a ob) :
    Inv X pins σ (upd H a ob) { s with heap := h', toks := t' } :=
  I.write (x := a) (e := a) mu (.inl rfl) (fun b q hb z => (hs.2 b hb).trans z) he new
theorem dk_new {P : Program} {w : World} {H' : Hp} {h' : Heap} {kvs : List (Key × V)} {vs : List (Key × Value)} (z : kvs.length ≤ sizeLine) (hd : (a == sysModules) = false) (rel : KV kvs vs) (dd : h'.DictOf (mixKind P w) a vs) :
    ObjOk P w H' h' a (.dK kvs) := ⟨z, hd, vs, rel, dd⟩
/-- d[y] = v -/
theorem d_setItem {H' : Hp} {Q : Unit → Shared → Prop} (hu : A.units + 1 < cLine) (I : Inv X pins σ H s) (g : DPut H a y v H') (ry : RelV y u) (rv : RelV v r) (h : ∀ s', Inv X pins σ H' s' → Q () s') :
    wpAny (model X.prog X.w) A (setItem (.ref a) u r) Q E s := by
  rcases g with ⟨kvs, k, e, ey, l, eH⟩ | ⟨kvs, k, b, e, ey, eb, l, eH⟩
  · subst ey eH
    obtain ⟨z, hd, vs, rel, dd⟩ := dk_of I.hok e
    have hz : vs.length ≤ sizeLine := by rw [← rel.length]; exact z
    have hl : (putK kvs k v).length ≤ sizeLine := by have := length_putK kvs k v; omega
    refine wpAny_setItem_pairs (hsz := hz) (kV_is ry) dd fun h' dd' hs => h _ ?_
    have he : ∃ q, h'.get? a = some q := let ⟨q, _, _, hq, _⟩ := dd'; ⟨q, hq⟩
    exact d_write I (by rw [e]; exact True.intro) hs he (dk_new hl hd (rel.put k rv) dd')
  · subst ey eH
    cases (show u = Value.ref b from ry)
    obtain ⟨z, hd, xs, rel, dd⟩ := dt_of I.hok e
    have hz : xs.length ≤ sizeLine := by rw [← Paired.length rel]; exact z
    have hl : (putK kvs k v).length ≤ sizeLine := by have := length_putK kvs k v; omega
    refine wpAny_setItem_heap (hsz := hz) (tupleKind_room_in1 hu) (key_of I.hok eb) dd fun h' dd' hs => h _ ?_
    obtain ⟨q, es, ep, hq, h2, h3, h4, _, h5⟩ := dd'
    refine d_write I (by rw [e]; exact True.intro) hs ⟨q, hq⟩ ⟨hl, hd, _, (rel.put k eb rv).keeps fun c ys ec => ?_, q, es, ep, hq, h2, h3, h4, h5⟩
    rw [upd_ne (ne_of ec e (fun z => nomatch z))]
    exact ec
end

section
variable {X : Cx} {pins : List (Addr × Obj)} {σ : St} {H : Hp} {s : Shared} {a : Addr} {kvs : List (Key × V)} {k : Key} {u : Value} {A : Around} {E : Value → Shared → Prop}
end


/-! ### readings and rules -/
/-- the element of a subscription, not a slice -/
def NoSl (i : Expr) : Prop := ∀ ov iv, subscripted i false ov iv = operate [ov, iv] (getItem ov iv)
theorem subD_of {prog : Program} {w : World} {A : Around} {E : Value → Shared → Prop} {s : Shared} {env : Env} {value slice : Expr} {pos : Pos} {T id : String} {Q : Value → Shared → Prop}
    (hl : typeLookup (.type T) "__getitem__" = pure (some (.builtin id))) (hs : NoSl slice)
    (h : wpAny (model prog w) A (eval value env) (fun o s₁ => wpAny (model prog w) A (eval slice env) (fun i s₂ => s₂.TypeIs o T ∧ wpAny (model prog w) A (getItem o i) Q E s₂) E s₁) E s) :
    wpAny (model prog w) A (eval (.Subscript value slice pos) env) Q E s := by
  refine Subscript_ (wpAny_mono h (fun o s₁ h₁ => wpAny_mono h₁ (fun i s₂ h₂ => ?_) fun _ _ x => x) fun _ _ x => x)
  obtain ⟨hT, h₂⟩ := h₂
  unfold subscriptTail
  refine wpAny_bind ?_
  rw [getitemInPython_of_ne hT.not_modules]
  refine wpAny_bind (wpAny_specialOf hT hl ?_)
  have fin : wpAny (model prog w) A (subscripted slice false o i) (fun r s₃ => wpAny (model prog w) A (letTemporaryGo value o r >>= fun _ => pure r) Q E s₃) E s₂ := by
    rw [hs o i]
    exact wpAny_operating (wpAny_mono h₂ (fun r s₃ h₃ => wpAny_bind (wpAny_letTemporaryGo (wpAny_pure h₃))) fun _ _ x => x)
  first
    | exact wpAny_pure (wpAny_bind fin)
    | exact wpAny_bind (wpAny_pure (wpAny_bind fin))
    | exact wpAny_bind fin

theorem dict_typeIs {X : Cx} {pins : List (Addr × Obj)} {σ : St} {H : Hp} {s : Shared} {a : Addr} {y : V} {o : Option V} (I : Inv X pins σ H s) (g : DGet H a y o) : s.TypeIs (.ref a) "dict" := by
  rcases g with ⟨kvs, k, e, _, _⟩ | ⟨kvs, k, b, e, _, _, _⟩
  · obtain ⟨_, _, vs, _, dd⟩ := dk_rd I.hok e
    exact dd.typeIs
  · obtain ⟨_, _, xs, _, dd⟩ := dt_rd I.hok e
    exact dd.typeIs
/-- d[y] -/
def tDGet (td ty : TE) : TE := fun σ H Q => td σ H fun x H1 => ty σ H1 fun y H2 => ∃ a v, x = .ref a ∧ DGet H2 a y (some v) ∧ Q v H2
/-- y in d, y not in d -/
def tDIn (ty td : TE) : TE := fun σ H Q => ty σ H fun y H1 => td σ H1 fun x H2 => ∃ a o, x = .ref a ∧ DGet H2 a y o ∧ Q (.bl o.isSome) H2
def tDNotIn (ty td : TE) : TE := fun σ H Q => ty σ H fun y H1 => td σ H1 fun x H2 => ∃ a o, x = .ref a ∧ DGet H2 a y o ∧ Q (.bl (!o.isSome)) H2
/-- d[y] = v -/
def sDPut (td ty tv : TE) : TS := fun D σ H => tv σ H fun v H1 => td σ H1 fun x H2 => ty σ H2 fun y H3 => ∃ a H4, x = .ref a ∧ DPut H3 a y v H4 ∧ D.nx σ H4
/-- d[y] op= v -/
def sDAug (td ty tv : TE) (rd : V → V → Hp → VK → Prop) : TS := fun D σ H => td σ H fun x H1 => ty σ H1 fun y H2 => ∃ a v, x = .ref a ∧ DGet H2 a y (some v) ∧
  tv σ H2 fun y2 H3 => rd v y2 H3 fun z H4 => ∃ H5, DPut H4 a y z H5 ∧ D.nx σ H5
/-- del d[y] -/
def sDDel (td ty : TE) : TS := fun D σ H => td σ H fun x H1 => ty σ H1 fun y H2 => ∃ a kvs k, x = .ref a ∧ H2 a = some (.dK kvs) ∧ y = kV k ∧ (valV kvs k).isSome = true ∧ D.nx σ (upd H2 a (.dK (dropK kvs k)))

section
variable {X : Cx} {o i e value : Expr} {pos pos' tpos : Pos} {td ty tv : TE}
theorem pe_dget (hu : X.A.units + 1 < cLine) (ho : PE X o td) (hi : PE X i ty) (hs : NoSl i) : PE X (.Subscript o i pos) (tDGet td ty) := by
  intro pins s σ H Q I h
  refine subD_of PySem.F.slot_dict_getitem.lookup hs (thn (ho pins s σ H _ I h) fun u s1 ⟨x, H1, I1, rx, q1⟩ => thn (hi pins s1 σ H1 _ I1 q1) fun iv s2 ⟨y, H2, I2, ry, a, v, ex, g, q2⟩ => ?_)
  subst ex
  obtain rfl : u = Value.ref a := rx
  exact ⟨dict_typeIs I2 g, d_getItem hu I2 g ry fun w' s3 I3 rw' => ⟨v, H2, I3, rw', q2⟩⟩
theorem ps_dput (hu : X.A.units + 1 < cLine) (ho : PE X o td) (hi : PE X i ty) (hv : PE X value tv) (hs : swapsWith value (some (.Subscript o i pos')) pos.line X.env = pure false) :
    PS X (.Assign [.Subscript o i pos'] value pos) (sDPut td ty tv) := by
  intro pins s σ H D I h
  refine wpAny_Assign_Subscript (thn (hv pins s σ H _ I h) fun r s1 ⟨v, H1, I1, rv, q1⟩ => thn (ho pins s1 σ H1 _ I1 q1) fun u s2 ⟨x, H2, I2, rx, q2⟩ => thn (hi pins s2 σ H2 _ I2 q2) fun iv s3 ⟨y, H3, I3, ry, a, H4, ex, g, q3⟩ => ?_) hs
  subst ex
  obtain rfl : u = Value.ref a := rx
  exact d_setItem hu I3 g ry rv fun s4 I4 => ⟨σ, H4, I4, q3⟩
end


/-! ### displays -/
/-- {}, to be a dict of the kind that is wanted -/
def tDNewK : TE := fun _ H Q => ∀ p, H p = none → Q (.ref p) (upd H p (.dK []))
def tDNewT : TE := fun _ H Q => ∀ p, H p = none → Q (.ref p) (upd H p (.dT []))
section
variable {X : Cx} {pos : Pos}
end

/-- the pairs of a display, from the left -/
def tPairs : List (TE × TE) → St → Hp → (List (V × V) → Hp → Prop) → Prop
  | [], _, H, Q => Q [] H
  | (tk, tv) :: r, σ, H, Q => tk σ H fun x H1 => tv σ H1 fun y H2 => tPairs r σ H2 fun ps H3 => Q ((x, y) :: ps) H3
abbrev VV : List (V × V) → List (Value × Value) → Prop := Paired fun p q => RelV p.1 q.1 ∧ RelV p.2 q.2
def PPs (X : Cx) (pos : Pos) (keys : List (Option Expr)) (values : List Expr) (trs : List (TE × TE)) : Prop :=
  ∀ (pins : List (Addr × Obj)) (s : Shared) (σ : St) (H : Hp) (Q : List (V × V) → Hp → Prop), Inv X pins σ H s → tPairs trs σ H Q →
    wpAny (model X.prog X.w) X.A (evalPairs (pairTrees keys values X.env pos)) (fun vs s' => ∃ ps H', Inv X pins σ H' s' ∧ VV ps vs ∧ Q ps H') X.xe s
def mergeK (kvs more : List (Key × V)) : List (Key × V) := more.foldl (fun acc kv => putK acc kv.1 kv.2) kvs
theorem KV.merge : ∀ {more : List (Key × V)} {rs : List (Key × Value)} {kvs : List (Key × V)} {vs : List (Key × Value)}, KV more rs → KV kvs vs → KV (mergeK kvs more) (merged vs rs) := by
  intro more rs kvs vs r
  unfold KV at r
  induction r generalizing kvs vs with
  | nil => intro q; exact q
  | @cons p q ps qs h t ih =>
    intro r0
    have e : KV (putK kvs p.1 p.2) (stored vs q.1 q.2) := by
      have := r0.put p.1 h.2
      rw [← h.1]; exact this
    exact ih e
theorem length_mergeK : ∀ (more kvs : List (Key × V)), (mergeK kvs more).length ≤ kvs.length + more.length
  | [], kvs => by show kvs.length ≤ kvs.length + 0; omega
  | p :: r, kvs => by
    have h1 := length_mergeK r (putK kvs p.1 p.2)
    have h2 := length_putK kvs p.1 p.2
    show (mergeK (putK kvs p.1 p.2) r).length ≤ _
    rw [List.length_cons]; omega
/-- {k: v, ..} with keys ints and texts; the new dict stands empty while the pairs are made -/
def tDisp (trs : List (TE × TE)) : TE := fun σ H Q => ∀ p, H p = none → tPairs trs σ (upd H p (.dK [])) fun ps H2 => H2 p = some (.dK []) ∧ ∃ kvs : List (Key × V), ps = kvs.map (fun kv => (kV kv.1, kv.2)) ∧ kvs.length ≤ 15 ∧ Q (.ref p) (upd H2 p (.dK (mergeK [] kvs)))
/-! ### methods -/
/-- a method call o.m(e) of a built-in, with one argument: what must be seen of the text -/
structure M1 (X : Cx) (o : Expr) (m : Str) (apos : Pos) (e : Expr) (cpos : Pos) : Prop where
  base : attributeBase o m X.env (eval o X.env) = eval o X.env
  few : ((backTo cpos (starEach [e] X.env)).all (fun x => !x.1) && (backToKw cpos (keywordEach [] X.env)).all (fun x => x.1.isSome)
    && decide (([e] : List Expr).length + ([] : List Keyword).length + (if ([] : List Keyword).isEmpty then 0 else 1) < 30)) = true
  line : (apos.endLine == cpos.line) = true
  trees : backTo cpos (starEach [e] X.env) = [(false, eval e X.env)]
structure M2 (X : Cx) (o : Expr) (m : Str) (apos : Pos) (e f : Expr) (cpos : Pos) : Prop where
  base : attributeBase o m X.env (eval o X.env) = eval o X.env
  few : ((backTo cpos (starEach [e, f] X.env)).all (fun x => !x.1) && (backToKw cpos (keywordEach [] X.env)).all (fun x => x.1.isSome)
    && decide (([e, f] : List Expr).length + ([] : List Keyword).length + (if ([] : List Keyword).isEmpty then 0 else 1) < 30)) = true
  line : (apos.endLine == cpos.line) = true
  trees : backTo cpos (starEach [e, f] X.env) = [(false, eval e X.env), (false, eval f X.env)]

/-- a is a dict, whatever its keys -/
def IsD (H : Hp) (a : Addr) : Prop := (∃ kvs, Rd H a (.dK kvs)) ∨ ∃ kvs, Rd H a (.dT kvs)
section
variable {X : Cx} {pins : List (Addr × Obj)} {σ : St} {H : Hp} {s : Shared} {a : Addr} {y d : V} {u r : Value} {o : Option V} {A : Around} {E : Value → Shared → Prop}
end

def tDGet1 (td ty : TE) : TE := fun σ H Q => td σ H fun x H1 => ∃ a, x = .ref a ∧ IsD H1 a ∧ ty σ H1 fun y H2 => ∃ o, DGet H2 a y o ∧ Q (o.getD .non) H2
def tDGet2 (td ty tx : TE) : TE := fun σ H Q => td σ H fun x H1 => ∃ a, x = .ref a ∧ IsD H1 a ∧ ty σ H1 fun y H2 => tx σ H2 fun z H3 => ∃ o, DGet H3 a y o ∧ Q (o.getD z) H3
/-- d.pop(k): there; d.pop(k, x): there or not -/
def tDPop1 (td ty : TE) : TE := fun σ H Q => td σ H fun x H1 => ∃ a, x = .ref a ∧ IsD H1 a ∧ ty σ H1 fun y H2 => ∃ kvs k v, H2 a = some (.dK kvs) ∧ y = kV k ∧ valV kvs k = some v ∧ Q v (upd H2 a (.dK (dropK kvs k)))
def tDPop2 (td ty tx : TE) : TE := fun σ H Q => td σ H fun x H1 => ∃ a, x = .ref a ∧ IsD H1 a ∧ ty σ H1 fun y H2 => tx σ H2 fun z H3 => ∃ kvs k, H3 a = some (.dK kvs) ∧ y = kV k ∧
  (∀ v, valV kvs k = some v → Q v (upd H3 a (.dK (dropK kvs k)))) ∧ (valV kvs k = none → Q z H3)
section
variable {X : Cx} {o e f : Expr} {apos cpos : Pos} {td ty tx : TE}
end

/-! ### dict(d): a copy -/
section
variable {X : Cx} {pins : List (Addr × Obj)} {σ : St} {H : Hp} {s : Shared} {a : Addr} {kvs : List (Key × V)} {A : Around} {E : Value → Shared → Prop}
end


section
variable {X : Cx} {pins : List (Addr × Obj)} {σ : St} {H : Hp} {s : Shared} {a : Addr} {y : V} {u : Value} {A : Around} {E : Value → Shared → Prop}
end
end L2

namespace L2
open PySem PySem.Spec PyProof.Rows
section
variable {X : Cx}
end
section
variable {κ : Type} [DecidableEq κ]
end
end L2

namespace L2
open PySem PySem.Spec PyProof.Rows
open PySem.AutoSeq1 (wpAny_loadPart')
section
variable {prog : Program} {w : World} {A : Around} {E : Value → Shared → Prop} {s : Shared}
end
end L2

namespace L2
open PySem PySem.Spec PyProof.Rows

/-! ### comprehensions -/
/-- the tests of a comprehension -/
def PF (X : Cx) (ifs : List Expr) (t : TT) : Prop :=
  ∀ (pins : List (Addr × Obj)) (s : Shared) (σ : St) (H : Hp) (Q : Bool → Hp → Prop), Inv X pins σ H s → t σ H Q →
    wpAny (model X.prog X.w) X.A (forIn ifs true fun c r => if r = true then do let ok ← isTrue c X.env (eval c X.env); pure (ForInStep.yield ok) else pure (ForInStep.yield r)) (TP X pins σ Q) X.xe s
def tAlways : TT := fun _ H Q => Q true H
theorem pf_nil {X : Cx} : PF X [] tAlways := fun _ _ _ H _ I h => wpAny_tests_nil ⟨H, I, h⟩
theorem pf_one {X : Cx} {c : Expr} {t : TT} (h : PT X c t) : PF X [c] t := fun pins s σ H Q I q => wpAny_tests_one (h pins s σ H Q I q)

theorem comp_loop {prog : Program} {w : World} {A : Around} {R : Result → Shared → Prop} {s : Shared} {elt target iter : Expr} {ifs : List Expr} {scope : Scope} {pos : Pos} {it acc : Value} {env : Env} (I : Nat → Shared → Prop)
    (turn : ∀ n s, I n s → wpAny (model prog w) A (pyNext it) (fun r s1 => match r with
      | none => R (.ok .next) s1
      | some v => wpAny (model prog w) A (letOwnedTupleGo target it v) (fun _ s1' => wpAny (model prog w) A (assign target env v) (fun _ s2 =>
          wpAny (model prog w) A (forIn ifs true fun c r => if r = true then do let ok ← isTrue c env (eval c env); pure (ForInStep.yield ok) else pure (ForInStep.yield r)) (fun ok s3 =>
            if ok = true then wpAny (model prog w) A (eval elt env) (fun x s4 =>
              wpAny (model prog w) A (call (.builtin "list.append") [acc, x]) (fun _ s5 => ∃ m, m < n ∧ I m s5) (fun _ _ => False) s4) (fun _ _ => False) s3
            else ∃ m, m < n ∧ I m s3) (fun _ _ => False) s2) (fun _ _ => False) s1') (fun _ _ => False) s1) (fun _ _ => False) s)
    (n : Nat) (h : I n s) :
    codeAny (model prog w) A (.compLoop (.ListComp elt [⟨target, iter, ifs, 0⟩] scope pos) 0 it acc env) R s := by
  refine codeAny_loop rfl I (fun n s hI => ?_) n h
  show wpAny _ A ((compTurn (.ListComp elt [⟨target, iter, ifs, 0⟩] scope pos) 0 it acc env).onRaise (fun x => do noteFrame x env; theTreesLotGoes x)) _ _ s
  refine wpAny_noted ?_
  rw [compTurn_list]
  refine wpAny_bind (wpAny_standAt (wpAny_bind (wpAny_mono (turn n s hI) (fun r s1 h1 => ?_) fun _ _ h' => h'.elim)))
  cases r with
  | none => exact wpAny_pure h1
  | some v =>
    refine wpAny_bind (wpAny_mono h1 (fun _ s1' h1' => ?_) fun _ _ h' => h'.elim)
    refine wpAny_bind (wpAny_mono h1' (fun _ s2 h2 => wpAny_bind (wpAny_mono h2 (fun ok s3 h3 => ?_) fun _ _ h' => h'.elim)) fun _ _ h' => h'.elim)
    cases ok with
    | false => exact wpAny_pure ⟨rfl, h3⟩
    | true => exact wpAny_bind (wpAny_bind (wpAny_mono h3 (fun x s4 h4 => wpAny_bind (wpAny_mono h4 (fun _ s5 h5 => wpAny_pure (wpAny_pure ⟨rfl, h5⟩)) fun _ _ h' => h'.elim)) fun _ _ h' => h'.elim))

theorem closure_aux {env : Env} : ∀ (l : List (Str × NameKind)) (acc : List (Str × Addr)), (∀ y ∈ l, y.2 = .free → (env.cells.lookup y.1).isSome = true) → (∀ x c, acc.lookup x = some c → env.cells.lookup x = some c) →
    ∃ cl : List (Str × Addr), (forIn l acc (fun (x : Str × NameKind) (r : List (Str × Addr)) => match x with
      | (name, kind) => if (kind == NameKind.free) = true then do let a ← cellOf env name; pure (ForInStep.yield ((name, a) :: r)) else pure (ForInStep.yield r)) : Sem (List (Str × Addr))) = pure cl ∧
      (∀ x c, cl.lookup x = some c → env.cells.lookup x = some c) ∧ (∀ x, (x, NameKind.free) ∈ l → ∃ c, cl.lookup x = some c) ∧ ∀ x, (∃ c, acc.lookup x = some c) → ∃ c, cl.lookup x = some c
  | [], acc, _, ha => ⟨acc, rfl, ha, fun x h => (nomatch h), fun x h => h⟩
  | (n, k) :: r, acc, h, ha => by
    by_cases hk : k = NameKind.free
    · subst hk
      obtain ⟨c, hc⟩ := Option.isSome_iff_exists.mp (h (n, .free) List.mem_cons_self rfl)
      have ha' : ∀ x c', ((n, c) :: acc).lookup x = some c' → env.cells.lookup x = some c' := fun x c' e => by
        rw [List.lookup_cons] at e
        cases hx : x == n with
        | true =>
          rw [hx] at e
          have : x = n := eq_of_beq hx
          rw [this, hc]; simpa using e
        | false => rw [hx] at e; exact ha x c' e
      obtain ⟨cl, e1, e2, e3, e4⟩ := closure_aux r ((n, c) :: acc) (fun y hy => h y (List.mem_cons_of_mem _ hy)) ha'
      refine ⟨cl, ?_, e2, fun x hx => ?_, fun x ⟨d, hd⟩ => e4 x ?_⟩
      · rw [List.forIn_cons]
        show (if (NameKind.free == NameKind.free) = true then _ else _ : Sem _) >>= _ = _
        rw [if_pos (show (NameKind.free == NameKind.free) = true from rfl)]
        have hco : cellOf env n = pure c := by unfold cellOf; rw [hc]
        rw [hco]
        exact e1
      · rcases List.mem_cons.mp hx with q | q
        · cases q
          exact e4 n ⟨c, by simp [List.lookup_cons]⟩
        · exact e3 x q
      · cases hx : x == n with
        | true => exact ⟨c, by rw [List.lookup_cons, hx]⟩
        | false => exact ⟨d, by rw [List.lookup_cons, hx]; exact hd⟩
    · obtain ⟨cl, e1, e2, e3, e4⟩ := closure_aux r acc (fun y hy => h y (List.mem_cons_of_mem _ hy)) ha
      refine ⟨cl, ?_, e2, fun x hx => ?_, e4⟩
      · rw [List.forIn_cons]
        have hb : ¬ (k == NameKind.free) = true := by simpa using hk
        show (if (k == NameKind.free) = true then _ else _ : Sem _) >>= _ = _
        rw [if_neg hb]
        exact e1
      · rcases List.mem_cons.mp hx with q | q
        · cases q; exact absurd rfl hk
        · exact e3 x q
theorem closure_ok {scope : Scope} {env : Env} (h : ∀ y ∈ scope.names, y.2 = .free → (env.cells.lookup y.1).isSome = true) :
    ∃ cl : List (Str × Addr), closureFor scope env = pure cl ∧ (∀ x c, cl.lookup x = some c → env.cells.lookup x = some c) ∧ ∀ x, (x, NameKind.free) ∈ scope.names → ∃ c, cl.lookup x = some c := by
  obtain ⟨cl, e1, e2, e3, _⟩ := closure_aux (env := env) scope.names [] h (fun x c e => by simp at e)
  refine ⟨cl, ?_, e2, e3⟩
  unfold closureFor
  exact (congrArg (fun (m : Sem (List (Str × Addr))) => m >>= fun cs => pure cs) e1)

/-- what must hold of the names of a comprehension: osc, oN: the block around; N: the names that the comprehension sees (its own and the free ones), ms: their slots around -/
def compChk (osc : Scope) (oN : List Str) (scope : Scope) (N : List Str) (ms : List (Option Nat)) : Bool :=
  scope.names.all (fun y => decide (y.2 ≠ .cell) && (decide (y.2 ≠ .local) || decide (scope.names.lookup y.1 = some .local)) && (decide (y.2 ≠ .free) || decide (osc.names.lookup y.1 = some .cell) || decide (osc.names.lookup y.1 = some .free)))
  && decide (ms.length = N.length) && decide (N.Nodup) && decide (scope.kind = .function)
  && (N.zip ms).all (fun p => match p.2 with | none => true | some j => decide (oN[j]? = some p.1) && decide (scope.names.lookup p.1 = some .free))
structure CompOk (osc : Scope) (oN : List Str) (scope : Scope) (N : List Str) (ms : List (Option Nat)) : Prop where
  kind : scope.kind = .function
  nocell : ∀ y ∈ scope.names, y.2 ≠ .cell
  loc : ∀ y ∈ scope.names, y.2 = .local → scope.names.lookup y.1 = some .local
  fr : ∀ y ∈ scope.names, y.2 = .free → osc.names.lookup y.1 = some .cell ∨ osc.names.lookup y.1 = some .free
  len : ms.length = N.length
  nd : N.Nodup
  sel : ∀ (i : Nat) x j, N[i]? = some x → ms[i]? = some (some j) → oN[j]? = some x ∧ scope.names.lookup x = some .free
theorem CompOk.of {osc : Scope} {oN : List Str} {scope : Scope} {N : List Str} {ms : List (Option Nat)} (h : compChk osc oN scope N ms = true) : CompOk osc oN scope N ms := by
  unfold compChk at h
  simp only [Bool.and_eq_true, decide_eq_true_eq, List.all_eq_true, Bool.or_eq_true] at h
  obtain ⟨⟨⟨⟨h1, h2⟩, h3⟩, h4⟩, h5⟩ := h
  refine ⟨h4, fun y hy => (h1 y hy).1.1, fun y hy e => ?_, fun y hy e => ?_, h2, h3, fun i x j e1 e2 => ?_⟩
  · rcases (h1 y hy).1.2 with q | q
    · exact absurd e q
    · exact q
  · rcases (h1 y hy).2 with (q | q) | q
    · exact absurd e q
    · exact .inl q
    · exact .inr q
  · have m : (x, some j) ∈ N.zip ms := by
      have : (N.zip ms)[i]? = some (x, some j) := by rw [List.getElem?_zip_eq_some]; exact ⟨e1, e2⟩
      exact List.mem_of_getElem? this
    have q := h5 _ m
    simpa using q

/-- the context of a comprehension's block -/
def compCx (X : Cx) (scope : Scope) (cl : List (Str × Addr)) (C : Addr) (N : List Str) (s : Shared) (H : Hp) (ex : List Addr) : Cx :=
  { X with N := N, s₀ := s, H₀ := H, env := compEnvC scope cl C X.env, outer := X.stack, stack := X.stack, ex := ex, fn := fun _ => false, pn := [], xe := fun _ _ => False }
/-- the state that a comprehension's block begins with -/
def blk (ms : List (Option Nat)) (σ : St) : St := ms.map fun m => m.bind fun j => (σ[j]?).join
theorem blk_get {ms : List (Option Nat)} {σ : St} {i : Nat} {v : V} (h : (blk ms σ)[i]? = some (some v)) : ∃ j, ms[i]? = some (some j) ∧ σ[j]? = some (some v) := by
  unfold blk at h
  rw [List.getElem?_map] at h
  cases e : ms[i]? with
  | none => rw [e] at h; simp at h
  | some m =>
    rw [e] at h
    cases m with
    | none => simp at h
    | some j =>
      refine ⟨j, rfl, ?_⟩
      simp only [Option.map_some, Option.bind_some, Option.some.injEq] at h
      cases q : σ[j]? with
      | none => rw [q] at h; simp at h
      | some o => rw [q] at h; simp at h; rw [h]

theorem lookup_relabel {env : Env} : ∀ {names : List (Str × NameKind)} {x : Str} {k : NameKind},
    (names.map fun (n, k) => if (k == NameKind.free && env.scope.kind == .function && env.kindOf n == some .cell) then (n, NameKind.cell) else (n, k)).lookup x = some k →
    (names.lookup x = some k) ∨ (names.lookup x = some .free ∧ k = .cell)
  | [], _, _, h => by simp at h
  | (n, k') :: r, x, k, h => by
    have ih := @lookup_relabel env r x k
    rw [List.map_cons] at h
    by_cases hc : (k' == NameKind.free && env.scope.kind == .function && env.kindOf n == some .cell) = true
    · have hf : k' = .free := by
        simp only [Bool.and_eq_true] at hc
        simpa using hc.1.1
      have h' : List.lookup x ((n, NameKind.cell) :: r.map fun (n, k) => if (k == NameKind.free && env.scope.kind == .function && env.kindOf n == some .cell) then (n, NameKind.cell) else (n, k)) = some k := by
        have e : (match (n, k') with | (n, k) => if (k == NameKind.free && env.scope.kind == .function && env.kindOf n == some .cell) = true then (n, NameKind.cell) else (n, k)) = (n, NameKind.cell) := if_pos hc
        rw [e] at h; exact h
      rw [List.lookup_cons] at h' ⊢
      cases hx : x == n with
      | true => rw [hx] at h'; cases h'; exact .inr ⟨by rw [hf], rfl⟩
      | false => rw [hx] at h'; exact ih h'
    · have h' : List.lookup x ((n, k') :: r.map fun (n, k) => if (k == NameKind.free && env.scope.kind == .function && env.kindOf n == some .cell) then (n, NameKind.cell) else (n, k)) = some k := by
        have e : (match (n, k') with | (n, k) => if (k == NameKind.free && env.scope.kind == .function && env.kindOf n == some .cell) = true then (n, NameKind.cell) else (n, k)) = (n, k') := if_neg hc
        rw [e] at h; exact h
      rw [List.lookup_cons] at h' ⊢
      cases hx : x == n with
      | true => rw [hx] at h'; cases h'; exact .inl rfl
      | false => rw [hx] at h'; exact ih h'
theorem lookup_relabel_free {env : Env} : ∀ {names : List (Str × NameKind)} {x : Str}, names.lookup x = some .free →
    (names.map fun (n, k) => if (k == NameKind.free && env.scope.kind == .function && env.kindOf n == some .cell) then (n, NameKind.cell) else (n, k)).lookup x = some .free ∨
    (names.map fun (n, k) => if (k == NameKind.free && env.scope.kind == .function && env.kindOf n == some .cell) then (n, NameKind.cell) else (n, k)).lookup x = some .cell
  | [], _, h => by simp at h
  | (n, k') :: r, x, h => by
    have ih := @lookup_relabel_free env r x
    rw [List.map_cons]
    by_cases hc : (k' == NameKind.free && env.scope.kind == .function && env.kindOf n == some .cell) = true
    · have e : (match (n, k') with | (n, k) => if (k == NameKind.free && env.scope.kind == .function && env.kindOf n == some .cell) = true then (n, NameKind.cell) else (n, k)) = (n, NameKind.cell) := if_pos hc
      rw [e]
      rw [List.lookup_cons] at h ⊢
      cases hx : x == n with
      | true => exact .inr rfl
      | false => rw [hx] at h; exact ih h
    · have e : (match (n, k') with | (n, k) => if (k == NameKind.free && env.scope.kind == .function && env.kindOf n == some .cell) = true then (n, NameKind.cell) else (n, k)) = (n, k') := if_neg hc
      rw [e]
      rw [List.lookup_cons] at h ⊢
      cases hx : x == n with
      | true => rw [hx] at h; cases h; exact .inl rfl
      | false => rw [hx] at h; exact ih h

section
variable {X : Cx} {pins : List (Addr × Obj)} {σ : St} {H : Hp} {s : Shared}
/-- an object laid anew and not tracked is tracked -/
theorem HOk.track {P : Program} {w : World} {H : Hp} {h h' : Heap} {D : Addr} {o : HO} (x : HOk P w H h) (hn : H D = none) (k : ∀ b u, H b ≠ none → h.get? b = some u → h'.get? b = some u) (new : ObjOk P w (upd H D o) h' D o) : HOk P w (upd H D o) h' := fun b u e => by
  by_cases hb : b = D
  · subst hb; rw [upd_same] at e; cases e; exact new
  · rw [upd_ne hb] at e
    refine (x b u e).stay (fun c v hc q => k c v ?_ q) (fun c q => by rw [upd_ne (ne_of_none q hn)]; exact q) fun c xs q => by rw [upd_ne (ne_of_none q hn)]; exact q
    rcases hc with z | z
    · rw [z, e]; simp
    · rw [z]; simp

/-- the block of a comprehension begins -/
theorem comp_enter {scope : Scope} {cl : List (Str × Addr)} {N : List Str} {ms : List (Option Nat)} {fp : List Addr} {s3 : Shared} {D C : Addr} {h1 : Heap} {tk : Nat} {m0 : Str → Option Value}
    (I : Inv X pins σ H s) (ok : CompOk X.env.scope X.N scope N ms) (hcl : ∀ x c, cl.lookup x = some c → X.env.cells.lookup x = some c) (hcl2 : ∀ x, (x, NameKind.free) ∈ scope.names → ∃ c, cl.lookup x = some c)
    (hfp : ∀ b ∈ fp, FpOk X pins H b) (hfo : ∀ b ∈ fp, b < s.heap.objs.size) (hD : D = s.heap.objs.size) (hs3 : s3 = { s with heap := s.heap.push { cls := .type "list", data := .seq ([] : List Value).toArray } }) (hC : C = s3.heap.objs.size)
    (hns : h1.Ns C m0) (hk : ∀ b o, s3.heap.get? b = some o → h1.get? b = some o) : Inv (compCx X scope cl C N s3 H (D :: fp)) [] (blk ms σ) H { s3 with heap := h1, toks := tk } := by
  have up : ∀ b o, s.heap.get? b = some o → s3.heap.get? b = some o := fun b o e => by rw [hs3]; exact Heap.get?_push_of_some _ e
  have up1 : ∀ b o, s.heap.get? b = some o → h1.get? b = some o := fun b o e => hk b o (up b o e)
  have I3 : Inv X pins σ H s3 := by rw [hs3]; exact I.kept (t' := s.toks) fun b o e => Heap.get?_push_of_some _ e
  have hDs : s3.heap.objs.size = s.heap.objs.size + 1 := by rw [hs3]; exact Heap.size_push ..
  have cellLt : ∀ x c, cl.lookup x = some c → c < s.heap.objs.size := fun x c e => let ⟨v, q⟩ := I.cell x c (hcl x c e); q.lt
  have exLt : ∀ b ∈ D :: fp, b < s3.heap.objs.size := fun b hb => by
    rcases List.mem_cons.mp hb with q | q
    · rw [q, hD, hDs]; exact Nat.lt_succ_self _
    · rw [hDs]; exact Nat.lt_succ_of_lt (hfo b q)
  have exBase : ∀ b ∈ D :: fp, ∀ o, X.base.get? b = some o → False := fun b hb o e => by
    rcases List.mem_cons.mp hb with q | q
    · have := Heap.lt_size e
      have h2 := Nat.le_trans I.ok.bsz I.sz
      rw [q, hD] at this
      exact absurd (Nat.lt_of_lt_of_le this h2) (Nat.lt_irrefl _)
    · obtain ⟨_, _, _, z, _⟩ := hfp b q
      rcases z with z | z
      · exact I.ok.noex b o e z
      · exact absurd (Nat.lt_of_lt_of_le (Heap.lt_size e) (Nat.le_trans I.ok.bsz z)) (Nat.lt_irrefl _)
  refine ⟨⟨I.ok.mod, ok.kind, I.ok.glob, I.ok.blt, Nat.le_of_eq hC.symm, fun x y c a b => I.ok.inj x y c (hcl x c a) (hcl y c b), fun x hx => ?_, fun x c e => absurd e Bool.false_ne_true, I.ok.hd, I.ok.frames, .inl rfl,
    fun b hb => ⟨?_, fun x c e z => ?_⟩, fun b o e => I3.bs b o e, Nat.le_trans I.ok.bsz I3.sz, fun b o e hb => exBase b hb o e, fun b hb hf => ?_, I3.stack, I3.stkFree⟩, rfl, I3.bare, Un.kept hk, ⟨m0, hns, fun i x v e1 e2 e3 => ?_⟩, fun x c e => ?_,
    I3.hok.fresh (Nat.le_of_eq hC.symm), fun x c e => I.freeC x c (hcl x c e), fun p hp => (nomatch hp), I3.hok.kept hk, by simp [blk, ok.len, compCx]⟩
  · have fin : scope.names.lookup x = some .free → ∃ c, cl.lookup x = some c := fun q => hcl2 x (mem_of_lookup q)
    have no : scope.names.lookup x ≠ some .cell := fun q => ok.nocell _ (mem_of_lookup q) rfl
    rcases hx with hx | hx
    · rcases lookup_relabel (env := X.env) (show (relabel scope X.env).names.lookup x = some .cell from hx) with q | ⟨q, _⟩
      · exact absurd q no
      · exact fin q
    · rcases lookup_relabel (env := X.env) (show (relabel scope X.env).names.lookup x = some .free from hx) with q | ⟨q, _⟩
      · exact fin q
      · exact fin q
  · have := exLt b hb
    intro z
    have z' : b = C := z
    rw [z', hC] at this
    exact Nat.lt_irrefl _ this
  · have e' : cl.lookup x = some c := e
    rcases List.mem_cons.mp hb with q | q
    · have := cellLt x c e'
      rw [z, q, hD] at this
      exact Nat.lt_irrefl _ this
    · exact (hfp b q).2.2.2.2.1 x c (hcl x c e') z
  · have hf' : b ∈ frs X.stack := hf
    rcases List.mem_cons.mp hb with q | q
    · rcases List.mem_cons.mp (I.stkSub b hf') with z | z
      · have := I.lt
        rw [← z, q, hD] at this
        exact Nat.lt_irrefl _ this
      · exact I.nofs (a := b) (by rw [q, hD]; exact Nat.le_refl _) z
    · obtain ⟨_, n1, n2, _⟩ := hfp b q
      rcases List.mem_cons.mp (I.stkSub b hf') with z | z
      · exact n1 z
      · exact n2 z
  · obtain ⟨j, q1, q2⟩ := blk_get e2
    obtain ⟨q3, q4⟩ := ok.sel i x j e1 q1
    have hm : (x, NameKind.free) ∈ scope.names := mem_of_lookup q4
    obtain ⟨m, hn, hl⟩ := I.loc
    have kd := ok.fr _ hm rfl
    have vis : Vis X.env.scope x := kd.elim (fun z => .inr (.inl z)) fun z => .inr (.inr z)
    obtain ⟨u, r, l⟩ := hl j x v q3 q2 vis
    refine ⟨u, r, .inr ⟨?_, ?_⟩⟩
    · rcases lookup_relabel_free (env := X.env) q4 with z | z
      · exact .inr z
      · exact .inl z
    · rcases l with ⟨hk', _⟩ | ⟨_, c, hc, hcell⟩
      · have hk'' : X.env.scope.names.lookup x = some .local := hk'
        rcases kd with z | z
        · rw [hk''] at z; cases z
        · rw [hk''] at z; cases z
      · obtain ⟨c', hc'⟩ := hcl2 x hm
        have := hcl x c' hc'
        rw [hc] at this; cases this
        exact ⟨c, hc', hcell.keeps up1⟩
  · obtain ⟨v, q⟩ := I.cell x c (hcl x c e)
    exact ⟨v, q.keeps up1⟩

/-- the block of a comprehension ends -/
theorem comp_leave {scope : Scope} {cl : List (Str × Addr)} {N : List Str} {fp : List Addr} {s3 s' : Shared} {D C : Addr} {pl : List (Addr × Obj)} {sg : St} {H' : Hp} {its : List Value} {ys : List V} {n : Nat}
    (I : Inv X pins σ H s) (hfp : ∀ b ∈ fp, FpOk X pins H b) (hD : D = s.heap.objs.size) (hs3 : s3 = { s with heap := s.heap.push { cls := .type "list", data := .seq ([] : List Value).toArray } })
    (I' : Inv (compCx X scope cl C N s3 H (D :: fp)) pl sg H' s') (hDn : H' D = none) (hd : s'.heap.get? D = some { cls := .type "list", data := .seq its.toArray n }) (r : Vals ys its) (hz : ys.length ≤ sizeLine) :
    Inv X pins σ (upd H' D (.lst ys)) s' := by
  have up : ∀ b o, s.heap.get? b = some o → s3.heap.get? b = some o := fun b o e => by rw [hs3]; exact Heap.get?_push_of_some _ e
  have neD : ∀ b o, s.heap.get? b = some o → b ≠ D := fun b o e z => by
    have := Heap.lt_size e
    rw [z, hD] at this
    exact Nat.lt_irrefl _ this
  have U : Un (frs X.stack) (D :: fp) H H' s3.heap s'.heap := I'.base
  have HD : H D = none := I.hok.fresh (Nat.le_of_eq hD.symm)
  have nin : ∀ b o, s.heap.get? b = some o → b ∉ fp → b ∉ D :: fp := fun b o e h z => (List.mem_cons.mp z).elim (neD b o e) h
  refine I.call' (ch := fp) (by rw [I'.os]; show s3.os = s.os; rw [hs3]) ⟨fun b o e n h1 h2 => U.keep b o (up b o e) n h1 (nin b o e h2), fun b o e n h1 h2 => U.slot b o (up b o e) n h1 (nin b o e h2),
    fun b o e n h2 => by rw [upd_ne (neD b o e)]; exact U.free b o (up b o e) n (nin b o e h2), fun b o e h2 => U.there b o (up b o e) (nin b o e h2), fun b xs e => by rw [upd_ne (ne_of_none e HD)]; exact U.tups b xs e,
    fun b o u e => by rw [upd_ne (ne_of_none e HD)]; exact U.frzs b o u e, fun b ps e => by rw [upd_ne (ne_of_none e HD)]; exact U.tbls b ps e⟩ ?_ I'.bare fun b hb => ?_
  · exact HOk.track I'.hok hDn (fun _ _ _ q => q) ⟨hz, its, n, r, hd⟩
  · obtain ⟨_, n1, _, n2, n3, n4⟩ := hfp b hb
    exact ⟨n2, n1, n3, n4⟩

/-- what is known stays known -/
def Wk (σ σ2 : St) : Prop := σ.length = σ2.length ∧ ∀ (i : Nat) v, σ[i]? = some (some v) → σ2[i]? = some (some v)
/-- what a comprehension gives: W the invariant by the turn, a measure, the items so far -/
def CompW (J : It) (g : TG) (tf : TT) (te : TE) (σ : St) (H : Hp) (Fin : List V → Hp → Prop) : Prop :=
  ∃ W : Nat → Nat → List V → Hp → Prop, (∃ m, W 0 m [] H) ∧ ∀ i m ys H, W i m ys H → ys.length ≤ sizeLine ∧
    ((J.stop i H ∧ Fin ys H) ∨ (J.go i H ∧ ∀ x H', J.yld i H x H' → g x σ H' fun σ2 H2 => Wk σ σ2 ∧ tf σ2 H2 fun b H3 => if b = true then te σ2 H3 fun y H4 => ys.length + 1 ≤ sizeLine ∧ ∃ m', m' < m ∧ W (i + 1) m' (ys ++ [y]) H4 else ∃ m', m' < m ∧ W (i + 1) m' ys H3))

theorem comp_run {elt tg iter : Expr} {ifs : List Expr} {scope : Scope} {pos cpos : Pos} {use : Option (Value → Sem Unit)} {N : List Str} {ms : List (Option Nat)} {wi : TI} {g : TG} {tf : TT} {te : TE} {Q : Value → Shared → Prop} {Fin : List V → Hp → Prop}
    (hc : X.calm = true) (ok : CompOk X.env.scope X.N scope N ms) (hi : PI X tg iter wi)
    (hb : ∀ cl C s H ex, PG (compCx X scope cl C N s H ex) tg g ∧ PF (compCx X scope cl C N s H ex) ifs tf ∧ PE (compCx X scope cl C N s H ex) elt te)
    (hs : ∀ x, foldedSetIterable iter X.env x = pure x)
    (I : Inv X pins σ H s) (hw : wi σ H fun J H1 => CompW J g tf te (blk ms σ) H1 Fin)
    (fin : ∀ D C s' ys H' m, Inv X pins σ (upd H' D (.lst ys)) s' → H' D = none → Fin ys H' → s'.heap.Ns C m → FpOk X pins (upd H' D (.lst ys)) C → compPost (model X.prog X.w) X.A X.xe use Q (.ref D) C (.ok .next) s') :
    wpAny (model X.prog X.w) X.A (comprehension (.ListComp elt [⟨tg, iter, ifs, 0⟩] scope pos) scope X.env cpos (newList []) false (eval iter X.env) use) Q X.xe s := by
  obtain ⟨cl, hclos, hcl, hcl2⟩ := closure_ok (scope := scope) (env := X.env) (fun y hy e => by
    obtain ⟨c, hc⟩ := I.ok.has y.1 (ok.fr y hy e)
    rw [hc]; rfl)
  refine wpAny_comprehension_free (use := use) rfl hs hclos ok.kind ok.loc (thn (hi pins s σ H _ I hw) fun v s1 h1 => thn h1 fun itv s2 h2 => ?_)
  obtain ⟨it, fp, tn, J, H2, e, I2, T, st2, f2, W, ⟨m0, w0⟩, turn⟩ := h2
  subst e
  refine wpAny_newObj_type (wpAny_newFunctionEnv ok.nocell (by intro y hy; simp at hy) (fun h1 hns hsb => ?_) ok.kind)
  dsimp only at hns hsb ⊢
  generalize hs3 : ({ s2 with heap := s2.heap.push { cls := .type "list", dict := none, data := .seq ([] : List Value).toArray } } : Shared) = s3
  have hheap : s2.heap.push { cls := .type "list", dict := none, data := .seq ([] : List Value).toArray } = s3.heap := by rw [← hs3]
  rw [hheap] at hns hsb
  have hDs : s3.heap.objs.size = s2.heap.objs.size + 1 := by rw [← hheap]; exact Heap.size_push ..
  obtain ⟨D, hD⟩ : ∃ D, D = s2.heap.objs.size := ⟨_, rfl⟩
  obtain ⟨C, hC⟩ : ∃ C, C = s3.heap.objs.size := ⟨_, rfl⟩
  have hk : ∀ b o, s3.heap.get? b = some o → h1.get? b = some o := fun b o e => hsb.extBut b o (Nat.ne_of_lt (Heap.lt_size e)) (Heap.get?_push_of_some _ e)
  have up : ∀ b o, s2.heap.get? b = some o → s3.heap.get? b = some o := fun b o e => by rw [← hheap]; exact Heap.get?_push_of_some _ e
  have hfo : ∀ b ∈ fp, b < s2.heap.objs.size := fun b hb => let ⟨o, e, _⟩ := T.obj _ _ st2 b hb; Heap.lt_size e
  have hDC : D ≠ C := by rw [hD, hC, hDs]; exact Nat.ne_of_lt (Nat.lt_succ_self _)
  have hDfp : D ∉ fp := fun hm => by have := hfo D hm; rw [hD] at this; exact Nat.lt_irrefl _ this
  have hs3' : s3 = { s2 with heap := s2.heap.push { cls := .type "list", data := .seq ([] : List Value).toArray } } := hs3.symm
  have I3 : Inv X pins σ H2 s3 := by rw [hs3']; exact I2.kept (t' := s2.toks) fun b o e => Heap.get?_push_of_some _ e
  have en : ∀ tk, Inv (compCx X scope cl C N s3 H2 (D :: fp)) [] (blk ms σ) H2 { s3 with heap := h1, toks := tk } := fun tk => comp_enter I2 ok hcl hcl2 f2 hfo hD hs3' hC (by rw [hC]; exact hns) hk
  have fpX : ∀ {pl : List (Addr × Obj)} {H' : Hp}, (∀ b ∈ fp, H' b = none) → (∀ p ∈ pl, p.1 = D) → ∀ b ∈ fp, FpOk (compCx X scope cl C N s3 H2 (D :: fp)) pl H' b := fun {pl H'} hn hp b hb => by
    have ok' := (en 0).ok
    refine ⟨hn b hb, (ok'.exf b (List.mem_cons_of_mem _ hb)).1, ok'.exfs b (List.mem_cons_of_mem _ hb), .inl (List.mem_cons_of_mem _ hb), (ok'.exf b (List.mem_cons_of_mem _ hb)).2, fun p hpm z => ?_⟩
    have hpm' : p ∈ pl := hpm
    rw [hp p hpm'] at z
    exact hDfp (z ▸ hb)
  have DX : ∀ {pl : List (Addr × Obj)} {sg : St} {H' : Hp} {s' : Shared} {o : Obj}, Inv (compCx X scope cl C N s3 H2 (D :: fp)) pl sg H' s' → H' D = none → s'.heap.get? D = some o → (∀ v, o.data ≠ .cell v) → Inv (compCx X scope cl C N s3 H2 (D :: fp)) [(D, o)] sg H' s' := fun {pl sg H' s' o} J' hn ho hd =>
    J'.pins_of fun p hp => by
      obtain rfl := List.mem_singleton.mp hp
      exact ⟨ho, hn, (J'.ok.exf D List.mem_cons_self).1, J'.ok.exfs D List.mem_cons_self, hd⟩
  have loop : ∀ s4 : Shared, (∃ tk, s4 = { s3 with heap := h1, toks := tk }) →
      codeAny (model X.prog X.w) X.A (.compLoop (.ListComp elt [⟨tg, iter, ifs, 0⟩] scope pos) 0 (.ref it) (.ref D) (compEnvC scope cl C X.env)) (compPost (model X.prog X.w) X.A X.xe use Q (.ref D) C) s4 := by
    rintro s4 ⟨tk, rfl⟩
    refine comp_loop (fun n s' => ∃ i ys H' its nn, Inv (compCx X scope cl C N s3 H2 (D :: fp)) [] (blk ms σ) H' s' ∧ tn i s'.heap ∧ (∀ b ∈ fp, H' b = none) ∧ H' D = none ∧
      s'.heap.get? D = some { cls := .type "list", data := .seq (its : List Value).toArray nn } ∧ Vals ys its ∧ W i n ys H') ?_ m0 ⟨0, [], H2, [], 0, en tk, T.keep _ _ _ st2 fun b hb o e => hk b o (up b o e), fun b hb => (f2 b hb).1, I2.hok.fresh (Nat.le_of_eq hD.symm), hk _ _ ?_, .nil, w0⟩
    · rintro n s' ⟨i, ys, H', its, nn, I', st', fr', dn', hd', rv', w'⟩
      obtain ⟨gh, hb2⟩ := hb cl C s3 H2 (D :: fp)
      obtain ⟨tfh, teh⟩ := hb2
      obtain ⟨hz, alt⟩ := turn i n ys H' w'
      have nocell : ∀ v, (({ cls := .type "list", data := .seq its.toArray nn } : Obj)).data ≠ .cell v := fun v z => by
        have z' : Data.seq its.toArray nn = Data.cell v := z
        cases z'
      have ID := DX I' dn' hd' nocell
      have fpI := fpX (pl := [(D, ({ cls := .type "list", data := .seq its.toArray nn } : Obj))]) fr' (fun p hp => by obtain rfl := List.mem_singleton.mp hp; rfl)
      rcases alt with ⟨stop, qf⟩ | ⟨go, step⟩
      · refine thn (T.done (compCx X scope cl C N s3 H2 (D :: fp)) rfl rfl rfl hc i _ s' _ H' _ ID fpI st' stop) fun r s5 ⟨hr, I5⟩ => ?_
        subst hr
        have hd5 := (I5.pin (D, _) (List.mem_append_right _ (List.mem_singleton.mpr rfl))).1
        obtain ⟨m, hn5, _⟩ := I5.loc
        have Hc : (upd H' D (.lst ys)) C = none := by rw [upd_ne (Ne.symm hDC)]; exact I5.free
        exact fin D C s5 ys H' m (comp_leave I2 f2 hD hs3' I5 dn' hd5 rv' hz) dn' qf hn5 (I3.fpOk (Nat.le_of_eq hC.symm) Hc)
      · refine thn (T.item (compCx X scope cl C N s3 H2 (D :: fp)) rfl rfl rfl hc i _ s' _ H' _ ID fpI st' go) fun r s5 ⟨u, hr, h5⟩ => ?_
        subst hr
        refine thn h5 fun _ s6 ⟨x, H6, I6, r6, y6, st6, fr6⟩ => ?_
        have I6' := I6.pinned (fpX (pl := [(D, ({ cls := .type "list", data := .seq its.toArray nn } : Obj))]) fr6 (fun p hp => by obtain rfl := List.mem_singleton.mp hp; rfl)) (T.obj _ _ st6)
        refine thn (gh _ s6 _ H6 x u _ I6' r6 (step x H6 y6)) fun _ s7 ⟨sg7, H7, I7, wk7, q7⟩ => ?_
        have back : ∀ {H9 : Hp} {s9 : Shared} {its' : List Value} {ys' : List V} {m' nn' : Nat}, Inv (compCx X scope cl C N s3 H2 (D :: fp)) ([(D, ({ cls := .type "list", data := .seq its.toArray nn } : Obj))] ++ pinsAt fp s6.heap) sg7 H9 s9 →
            ∀ h10 : Heap, (∀ b o, b ≠ D → s9.heap.get? b = some o → h10.get? b = some o) → h10.get? D = some { cls := .type "list", data := .seq its'.toArray nn' } → Vals ys' its' → m' < n → W (i + 1) m' ys' H9 →
            ∃ m, m < n ∧ ∃ i ys H' its nn, Inv (compCx X scope cl C N s3 H2 (D :: fp)) [] (blk ms σ) H' { s9 with heap := h10 } ∧ tn i h10 ∧ (∀ b ∈ fp, H' b = none) ∧ H' D = none ∧
              h10.get? D = some { cls := .type "list", data := .seq (its : List Value).toArray nn } ∧ Vals ys its ∧ W i m ys H' := fun {H9 s9 its' ys' m' nn'} I9 h10 hb10 hd10 rv10 hm w9 => by
          have dn9 : H9 D = none := (I9.pin (D, _) (List.mem_append_right _ (List.mem_append_left _ (List.mem_singleton.mpr rfl)))).2.1
          have pk : ∀ b ∈ fp, ∀ o, s6.heap.get? b = some o → s9.heap.get? b = some o ∧ H9 b = none := fun b hb o e =>
            let q := I9.pin (b, o) (List.mem_append_right _ (List.mem_append_right _ (mem_pinsAt hb e))); ⟨q.1, q.2.1⟩
          have I10 : Inv (compCx X scope cl C N s3 H2 (D :: fp)) [] (blk ms σ) H9 s9 := (I9.pins_of (pins' := []) fun p hp => (nomatch hp)).weak wk7.1 wk7.2
          refine ⟨m', hm, i + 1, ys', H9, its', nn', I10.turned (t' := s9.toks) hb10 dn9 (I10.ok.exf D List.mem_cons_self).1 (.inl List.mem_cons_self) (fun x c e => (I10.ok.exf D List.mem_cons_self).2 x c e) (fun p hp => (nomatch hp)),
            T.keep _ _ _ st6 fun b hb o e => hb10 b o (fun z => hDfp (z ▸ hb)) (pk b hb o e).1, fun b hb => ?_, dn9, hd10, rv10, w9⟩
          obtain ⟨o, e, _⟩ := T.obj _ _ st6 b hb
          exact (pk b hb o e).2
        refine thn (tfh _ s7 sg7 H7 _ I7 q7) fun b s8 ⟨H8, I8, q8⟩ => ?_
        have hd8 : s8.heap.get? D = some { cls := .type "list", data := .seq its.toArray nn } := (I8.pin (D, _) (List.mem_append_right _ (List.mem_append_left _ (List.mem_singleton.mpr rfl)))).1
        cases b with
        | false =>
          obtain ⟨m', hm, w8⟩ := q8
          exact back I8 s8.heap (fun _ _ _ q => q) hd8 rv' hm w8
        | true =>
          refine thn (teh _ s8 sg7 H8 _ I8 q8) fun u9 s9 ⟨y9, H9, I9, r9, hz9, m', hm, w9⟩ => ?_
          have hd9 : s9.heap.get? D = some { cls := .type "list", data := .seq its.toArray nn } := (I9.pin (D, _) (List.mem_append_right _ (List.mem_append_left _ (List.mem_singleton.mpr rfl)))).1
          have hl := rv'.length
          refine append_at (hsz := by rw [List.size_toArray, ← hl]; exact hz) hd9 fun h10 hs10 hd10 => ?_
          refine back I9 h10 (fun b o hb e => (hs10.2 b hb).trans e) (its' := its ++ [u9]) (nn' := nn + 1) (by rw [hd10, List.push_toArray]) (rv'.append (.cons r9 .nil)) hm w9
    · rw [← hheap, hD]
      exact Heap.get?_push_size _ rfl
  subst hD
  subst hC
  subst hs3
  exact codeAny_compStart_list (loop _ ⟨_, rfl⟩) (T.self X.A 0 _ _ _ (T.keep _ _ _ st2 fun b hb o e => hk b o (up b o e)) (loop _ ⟨_, rfl⟩))

def tComp (wi : TI) (g : TG) (tf : TT) (te : TE) (ms : List (Option Nat)) : TE := fun σ H Q => wi σ H fun J H1 => CompW J g tf te (blk ms σ) H1 fun ys H' => ∀ p, H' p = none → Q (.ref p) (upd H' p (.lst ys))
theorem pe_comp {elt tg iter : Expr} {ifs : List Expr} {scope : Scope} {pos : Pos} {N : List Str} {ms : List (Option Nat)} {wi : TI} {g : TG} {tf : TT} {te : TE}
    (hc : X.calm = true) (ok : CompOk X.env.scope X.N scope N ms) (hi : PI X tg iter wi)
    (hb : ∀ cl C s H ex, PG (compCx X scope cl C N s H ex) tg g ∧ PF (compCx X scope cl C N s H ex) ifs tf ∧ PE (compCx X scope cl C N s H ex) elt te)
    (hs : ∀ x, foldedSetIterable iter X.env x = pure x := by intro _; rfl) : PE X (.ListComp elt [⟨tg, iter, ifs, 0⟩] scope pos) (tComp wi g tf te ms) := by
  intro pins s σ H Q I hw
  rw [eval_ListComp]
  refine comp_run (use := none) hc ok hi hb hs I hw ?_
  intro D C s' ys H' m I' hn fin hns fp
  refine ⟨m, hns, fun h' sb => ?_⟩
  exact ⟨.ref D, _, I'.turned (t' := s'.toks) (fun b o hb e => (sb.2 b hb).trans e) fp.1 fp.2.1 fp.2.2.2.1 fp.2.2.2.2.1 fp.2.2.2.2.2, rfl, fin D hn⟩
theorem ps_setC {elt tg iter : Expr} {ifs : List Expr} {scope : Scope} {pos spos py : Pos} {N : List Str} {ms : List (Option Nat)} {wi : TI} {g : TG} {tf : TT} {te : TE} {i : Nat} {y : Str}
    (hc : X.calm = true) (ok : CompOk X.env.scope X.N scope N ms) (hi : PI X tg iter wi)
    (hb : ∀ cl C s H ex, PG (compCx X scope cl C N s H ex) tg g ∧ PF (compCx X scope cl C N s H ex) ifs tf ∧ PE (compCx X scope cl C N s H ex) elt te)
    (hN : X.N.Nodup) (hy : X.N[i]? = some y) (hx : Loc X.env.scope y)
    (hsw : swapsWith (.ListComp elt [⟨tg, iter, ifs, 0⟩] scope pos) (some (.Name y py)) spos.line X.env = pure true)
    (hf : X.fn y = true ∨ X.env.scope.names.lookup y = some .local := by first | exact .inl rfl | exact .inr rfl | assumption)
    (hs : ∀ x, foldedSetIterable iter X.env x = pure x := by intro _; rfl) : PS X (.Assign [.Name y py] (.ListComp elt [⟨tg, iter, ifs, 0⟩] scope pos) spos) (tAsg (tComp wi g tf te ms) (gName i)) := by
  intro pins s σ H Dn I hw
  rw [exec_Assign_Name_used _ _ _ _ hsw]
  refine wpAny_bind (wpAny_standAt (wpAny_bind ?_))
  show wpAny _ X.A (do let _ ← comprehension (.ListComp elt [⟨tg, iter, ifs, 0⟩] scope pos) scope X.env _ (newList []) false (eval iter X.env) (some (assign (.Name y py) X.env))) _ _ s
  refine wpAny_bind (wpAny_mono (comp_run (use := some (assign (.Name y py) X.env)) (Q := fun _ s' => SP X pins Dn .next s') hc ok hi hb hs I hw ?_) (fun _ s' hq => wpAny_pure (wpAny_pure hq)) fun _ _ e => e)
  intro D C s' ys H' m I' hn fin hns fp
  show wpAny _ X.A (assign (.Name y py) X.env (.ref D)) _ _ s'
  refine wpAny_assign_Name (store_ok2 I' hN hy hx (v := .ref D) rfl (fun s2 I2 sb => ?_) hf)
  obtain ⟨a, sb, ha⟩ := sb
  have hne : C ≠ a := by
    rcases ha with z | z
    · rw [z]; exact fp.2.1
    · exact fun q => fp.2.2.2.2.1 y a z q.symm
  refine ⟨m, hns.sameBut sb hne, fun h' sb' => ?_⟩
  exact ⟨_, _, I2.turned (t' := s2.toks) (fun b o hb e => (sb'.2 b hb).trans e) fp.1 fp.2.1 fp.2.2.2.1 fp.2.2.2.2.1 fp.2.2.2.2.2, fin D hn⟩
/-- an iterable that is a list or a tuple -/
def iSeq (K : PySem.W.Frag) (tl : TE) : TI := fun σ H R => tl σ H fun x H1 => ∃ a, x = .ref a ∧ (((∃ xs, SqL K H1 a xs) ∧ R (Itl K a) H1) ∨ ((∃ xs, SqT K H1 a xs) ∧ R (Itt K a) H1))
theorem pi_seq {tg l : Expr} {tl : TE} (hl : PE X l tl) : PI X tg l (iSeq X.K tl) := by
  intro pins s σ H R I h
  refine thn (hl pins s σ H _ I h) fun v s1 ⟨x, H1, I1, r1, q1⟩ => ?_
  obtain ⟨a, e, q1⟩ := q1
  subst e
  cases r1
  rcases q1 with ⟨⟨xs, hq⟩, q⟩ | ⟨⟨xs, hq⟩, q⟩
  · obtain ⟨its, rv, p, hz⟩ := I1.list hq
    refine wpAny_pyIter_list p.isList ?_
    refine ⟨s1.heap.objs.size, [s1.heap.objs.size], _, _, H1, rfl, I1.kept (t' := s1.toks) fun b o e => Heap.get?_push_of_some _ e, turn_list a _, ⟨_, Heap.get?_push_size _ rfl, rfl, rfl⟩, fun b hb => ?_, q⟩
    have e : b = s1.heap.objs.size := by simpa using hb
    subst e
    exact I1.fpOk (Nat.le_refl _) (I1.hok.fresh (Nat.le_refl _))
  · obtain ⟨its, rv, p, hz⟩ := I1.tuple hq
    refine wpAny_pyIter_tuple (show s1.heap.IsTuple a its.toArray from p) ?_
    refine ⟨s1.heap.objs.size, [s1.heap.objs.size], _, _, H1, rfl, I1.kept (t' := s1.toks) fun b o e => Heap.get?_push_of_some _ e, turn_tuple a _, ⟨_, Heap.get?_push_size _ rfl, rfl, rfl⟩, fun b hb => ?_, q⟩
    have e : b = s1.heap.objs.size := by simpa using hb
    subst e
    exact I1.fpOk (Nat.le_refl _) (I1.hok.fresh (Nat.le_refl _))
end
end L2

namespace L2
open PySem PySem.Spec PyProof.Rows
/-- enumerate over what reads as xs at each turn -/
def Ite (rd : Hp → List V → Prop) : It :=
  ⟨fun i H => ∃ xs x, rd H xs ∧ xs[i]? = some x, fun i H x H' => ∃ T v, H T = none ∧ H' = upd H T (.tup [.int i, v]) ∧ x = .ref T ∧ ∀ xs, rd H xs → xs[i]? = some v, fun i H => ∃ xs, rd H xs ∧ xs.length ≤ i⟩
section
variable {X : Cx} {pins : List (Addr × Obj)} {σ : St} {H : Hp} {s : Shared}
end
section
variable {X : Cx}
/-- enumerate(t), t a tuple -/
def iEnT (K : PySem.W.Frag) (ta : TA) : TI := fun σ H R => ta σ H fun vs H1 => ∃ a, vs = [.ref a] ∧ (∃ xs, SqT K H1 a xs) ∧ R (Ite fun H xs => SqT K H a xs) H1
end
end L2

namespace L2
open PySem PySem.Spec PyProof.Rows
section
variable {X : Cx}
/-- enumerate(l), l a list -/
def iEnL (K : PySem.W.Frag) (ta : TA) : TI := fun σ H R => ta σ H fun vs H1 => ∃ a, vs = [.ref a] ∧ (∃ xs, SqL K H1 a xs) ∧ R (Ite fun H xs => SqL K H a xs) H1
end
end L2

namespace DD
open PySem PySem.Spec L2
open PyProof.Rows hiding St

/-! ### data without the heap -/
inductive D where
  | non | bl (b : Bool) | int (i : Int) | str (x : Str) | scr (ns : List Int) | tup (xs : List D) | lst (xs : List D) | dK (ks : List Key) (vs : List D) | dT (ks : List (List Key)) (vs : List D)

mutual
def Is (K : PySem.W.Frag) (F : Hp) : D → V → Prop
  | .non, v => v = .non
  | .bl b, v => v = .bl b
  | .int i, v => v = .int i
  | .str x, v => v = .str x
  | .scr ns, v => ∃ a, v = .ref a ∧ SqL K F a (ns.map V.int)
  | .tup ds, v => ∃ a vs, v = .ref a ∧ F a = some (.tup vs) ∧ Are K F ds vs
  | .lst ds, v => ∃ a vs, v = .ref a ∧ F a = some (.lst vs) ∧ Are K F ds vs
  | .dK ks ds, v => ∃ a ws, v = .ref a ∧ F a = some (.dK ws) ∧ ws.map Prod.fst = ks ∧ Are K F ds (ws.map Prod.snd)
  | .dT ks ds, v => ∃ a ws, v = .ref a ∧ F a = some (.dT ws) ∧ ws.map Prod.fst = ks ∧ Are K F ds (ws.map Prod.snd)
def Are (K : PySem.W.Frag) (F : Hp) : List D → List V → Prop
  | [], vs => vs = []
  | d :: ds, vs => ∃ v r, vs = v :: r ∧ Is K F d v ∧ Are K F ds r
end

section
variable {K : PySem.W.Frag} {F F' H H' : Hp}
mutual
theorem Is.mono (s : Same F F') : ∀ (d : D) {v : V}, Is K F d v → Is K F' d v
  | .non, _, h => by simpa [Is] using h
  | .bl _, _, h => by simpa [Is] using h
  | .int _, _, h => by simpa [Is] using h
  | .str _, _, h => by simpa [Is] using h
  | .scr ns, _, h => by
    simp only [Is] at h ⊢
    obtain ⟨a, e, hf⟩ := h
    exact ⟨a, e, s.seq hf⟩
  | .tup ds, _, h => by
    simp only [Is] at h ⊢
    obtain ⟨a, vs, e, hf, r⟩ := h
    exact ⟨a, vs, e, s _ _ hf, Are.mono s ds r⟩
  | .lst ds, _, h => by
    simp only [Is] at h ⊢
    obtain ⟨a, vs, e, hf, r⟩ := h
    exact ⟨a, vs, e, s _ _ hf, Are.mono s ds r⟩
  | .dK ks ds, _, h => by
    simp only [Is] at h ⊢
    obtain ⟨a, ws, e, hf, q, r⟩ := h
    exact ⟨a, ws, e, s _ _ hf, q, Are.mono s ds r⟩
  | .dT ks ds, _, h => by
    simp only [Is] at h ⊢
    obtain ⟨a, ws, e, hf, q, r⟩ := h
    exact ⟨a, ws, e, s _ _ hf, q, Are.mono s ds r⟩
theorem Are.mono (s : Same F F') : ∀ (ds : List D) {vs : List V}, Are K F ds vs → Are K F' ds vs
  | [], _, h => by simpa [Are] using h
  | d :: ds, _, h => by
    simp only [Are] at h ⊢
    obtain ⟨v, r, e, h1, h2⟩ := h
    exact ⟨v, r, e, Is.mono s d h1, Are.mono s ds h2⟩
end
theorem Are.nil : Are K F [] [] := by simp [Are]
theorem Are.cons {d : D} {ds : List D} {v : V} {vs : List V} (h : Is K F d v) (r : Are K F ds vs) : Are K F (d :: ds) (v :: vs) := by
  simp only [Are]
  exact ⟨v, vs, rfl, h, r⟩
theorem Are.inv {d : D} {ds : List D} {vs : List V} (h : Are K F (d :: ds) vs) : ∃ v r, vs = v :: r ∧ Is K F d v ∧ Are K F ds r := by
  simpa only [Are] using h
theorem Are.inv0 {vs : List V} (h : Are K F [] vs) : vs = [] := by simpa only [Are] using h
theorem Are.length : ∀ {ds : List D} {vs : List V}, Are K F ds vs → vs.length = ds.length
  | [], _, h => by rw [h.inv0]; rfl
  | d :: ds, _, h => by
    obtain ⟨v, r, e, _, q⟩ := h.inv
    rw [e, List.length_cons, List.length_cons, q.length]
theorem Are.get : ∀ {ds : List D} {vs : List V} {i : Nat} {d : D}, Are K F ds vs → ds[i]? = some d → ∃ v, vs[i]? = some v ∧ Is K F d v
  | [], _, _, _, _, e => by simp at e
  | x :: ds, _, 0, d, h, e => by
    obtain ⟨v, r, e1, q, _⟩ := h.inv
    simp at e; subst e; subst e1
    exact ⟨v, rfl, q⟩
  | x :: ds, _, i + 1, d, h, e => by
    obtain ⟨v, r, e1, _, q⟩ := h.inv
    subst e1
    obtain ⟨u, h1, h2⟩ := Are.get (i := i) (d := d) q (by simpa using e)
    exact ⟨u, by simpa using h1, h2⟩
theorem Are.append : ∀ {ds es : List D} {vs us : List V}, Are K F ds vs → Are K F es us → Are K F (ds ++ es) (vs ++ us)
  | [], _, _, _, h, q => by rw [h.inv0]; exact q
  | d :: ds, _, _, _, h, q => by
    obtain ⟨v, r, e, h1, h2⟩ := h.inv
    subst e
    exact .cons h1 (Are.append h2 q)
theorem Are.drop : ∀ {ds : List D} {vs : List V} (n : Nat), Are K F ds vs → Are K F (ds.drop n) (vs.drop n)
  | _, _, 0, h => h
  | [], _, n + 1, h => by rw [h.inv0]; exact .nil
  | d :: ds, _, n + 1, h => by
    obtain ⟨v, r, e, _, h2⟩ := h.inv
    subst e
    exact Are.drop n h2
theorem Are.take : ∀ {ds : List D} {vs : List V} (n : Nat), Are K F ds vs → Are K F (ds.take n) (vs.take n)
  | _, _, 0, h => by rw [List.take_zero, List.take_zero]; exact .nil
  | [], _, n + 1, h => by rw [h.inv0]; exact .nil
  | d :: ds, _, n + 1, h => by
    obtain ⟨v, r, e, h1, h2⟩ := h.inv
    subst e
    exact .cons h1 (Are.take n h2)
theorem Are.set {x : D} {u : V} (hx : Is K F x u) : ∀ {ds : List D} {vs : List V} (n : Nat), Are K F ds vs → Are K F (ds.set n x) (vs.set n u)
  | [], _, _, h => by rw [h.inv0]; exact .nil
  | d :: ds, _, 0, h => by
    obtain ⟨v, r, e, h1, h2⟩ := h.inv
    subst e
    exact .cons hx h2
  | d :: ds, _, n + 1, h => by
    obtain ⟨v, r, e, h1, h2⟩ := h.inv
    subst e
    exact .cons h1 (Are.set hx n h2)
theorem Are.flat (k : Nat) {ds : List D} {vs : List V} (h : Are K F ds vs) : Are K F (List.replicate k ds).flatten (List.replicate k vs).flatten := by
  induction k with
  | zero => exact .nil
  | succ k ih => rw [List.replicate_succ, List.replicate_succ, List.flatten_cons, List.flatten_cons]; exact h.append ih
theorem sqT_mono (s : Same F F') {a : Addr} {xs : List V} (h : SqT K F a xs) : SqT K F' a xs := by
  rcases h with (h | ⟨o, h⟩) | h
  · exact .inl (.inl (s _ _ h))
  · exact .inl (.inr ⟨o, s _ _ h⟩)
  · exact .inr h
end

/-! ### heaps: F what is fixed, H all that is tracked -/
structure Ext (F H F' H' : Hp) : Prop where
  ff : Same F F'
  hh : Same H H'
  fh : Same F' H'
  new : ∀ b, F b = none → F' b ≠ none → H b = none
theorem Ext.refl {F H : Hp} (s : Same F H) : Ext F H F H := ⟨Same.refl _, Same.refl _, s, fun _ h1 h2 => absurd h1 h2⟩
theorem Ext.trans {F H F1 H1 F2 H2 : Hp} (a : Ext F H F1 H1) (b : Ext F1 H1 F2 H2) : Ext F H F2 H2 :=
  ⟨a.ff.trans b.ff, a.hh.trans b.hh, b.fh, fun c h1 h2 => by
    by_cases q : F1 c = none
    · exact a.hh.free (b.new c q h2)
    · exact a.new c h1 q⟩
theorem same_upd {H : Hp} {p : Addr} (h : H p = none) (o : HO) : Same H (upd H p o) := fun b u q => by rw [upd_ne (ne_of_none q h)]; exact q
theorem same_upd2 {F H : Hp} {p : Addr} (s : Same F H) (o : HO) : Same (upd F p o) (upd H p o) := fun b u q => by
  by_cases e : b = p
  · subst e; rw [upd_same] at q ⊢; exact q
  · rw [upd_ne e] at q ⊢; exact s _ _ q
theorem Ext.freed {F H F' H' : Hp} (e : Ext F H F' H') {a : Addr} (h : F a = none) (n : H a ≠ none) : F' a = none := by
  cases z : F' a with
  | none => rfl
  | some u => exact absurd (e.new a h (by rw [z]; simp)) n
/-- a new thing, fixed -/
theorem Ext.fix {F H : Hp} {p : Addr} (s : Same F H) (h : H p = none) (o : HO) : Ext F H (upd F p o) (upd H p o) :=
  ⟨same_upd (s.free h) o, same_upd h o, same_upd2 s o, fun b h1 h2 => by
    by_cases e : b = p
    · subst e; exact h
    · rw [upd_ne e] at h2; exact absurd h1 h2⟩
/-- a new thing, not fixed -/
theorem Ext.own {F H : Hp} {p : Addr} (s : Same F H) (h : H p = none) (o : HO) : Ext F H F (upd H p o) :=
  ⟨Same.refl _, same_upd h o, fun b u q => same_upd h o b u (s b u q), fun b h1 h2 => absurd h1 h2⟩
/-- a thing of one's own changes -/
theorem Ext.turn {F0 H0 F H : Hp} {p : Addr} (e : Ext F0 H0 F H) (h0 : H0 p = none) (hf : F p = none) (o : HO) : Ext F0 H0 F (upd H p o) :=
  ⟨e.ff, fun b u q => by rw [upd_ne (ne_of_none q h0)]; exact e.hh b u q, fun b u q => by rw [upd_ne (ne_of_none q hf)]; exact e.fh b u q, e.new⟩
/-- a thing of one's own is fixed -/
theorem Ext.freeze {F0 H0 F H : Hp} {p : Addr} {o : HO} (e : Ext F0 H0 F H) (h0 : H0 p = none) (hf : F p = none) (hp : H p = some o) : Ext F0 H0 (upd F p o) H :=
  ⟨fun b u q => same_upd hf o b u (e.ff b u q), e.hh, fun b u q => by
    by_cases z : b = p
    · subst z; rw [upd_same] at q; rw [hp, q]
    · rw [upd_ne z] at q; exact e.fh b u q, fun b h1 h2 => by
    by_cases z : b = p
    · subst z; exact h0
    · rw [upd_ne z] at h2; exact e.new b h1 h2⟩

/-! ### slots -/
inductive S where
  | un | v (d : D) | ol (ds : List D) | ot (kvs : List (List Key × D)) | ok (kvs : List (Key × D))
abbrev G := List S
def S.own : S → Bool
  | .un => false | .v _ => false | _ => true
/-- the pairs of a dict -/
def PAre {κ : Type} (K : PySem.W.Frag) (F : Hp) : List (κ × D) → List (κ × V) → Prop := Paired fun p q => p.1 = q.1 ∧ Is K F p.2 q.2
theorem PAre.mono {κ : Type} {K : PySem.W.Frag} {F F' : Hp} (s : Same F F') {ps : List (κ × D)} {qs : List (κ × V)} (h : PAre K F ps qs) : PAre K F' ps qs := Paired.mapP h fun _ _ ⟨a, b⟩ => ⟨a, b.mono s⟩
def SIs (K : PySem.W.Frag) (H0 F H : Hp) : S → Option V → Prop
  | .un, _ => True
  | .v d, o => ∃ v, o = some v ∧ Is K F d v
  | .ol ds, o => ∃ a vs, o = some (.ref a) ∧ H a = some (.lst vs) ∧ Are K F ds vs ∧ F a = none ∧ H0 a = none
  | .ot kvs, o => ∃ a ws, o = some (.ref a) ∧ H a = some (.dT ws) ∧ PAre K F kvs ws ∧ F a = none ∧ H0 a = none
  | .ok kvs, o => ∃ a ws, o = some (.ref a) ∧ H a = some (.dK ws) ∧ PAre K F kvs ws ∧ F a = none ∧ H0 a = none
structure EnvIs (K : PySem.W.Frag) (F0 H0 F H : Hp) (σ : St) (Γ : G) : Prop where
  ext : Ext F0 H0 F H
  len : σ.length = Γ.length
  val : ∀ (i : Nat) s, Γ[i]? = some s → ∃ o, σ[i]? = some o ∧ SIs K H0 F H s o
  sep : ∀ (i j : Nat) s t a, i ≠ j → Γ[i]? = some s → Γ[j]? = some t → s.own = true → t.own = true → σ[i]? = some (some (.ref a)) → σ[j]? = some (some (.ref a)) → False
section
variable {K : PySem.W.Frag} {F0 H0 F H F' H' : Hp} {σ : St} {Γ : G}
theorem SIs.ext {s : S} {o : Option V} (h : SIs K H0 F H s o) (e : Ext F H F' H') : SIs K H0 F' H' s o := by
  cases s with
  | un => trivial
  | v d => obtain ⟨v, e1, q⟩ := h; exact ⟨v, e1, q.mono e.ff⟩
  | ol ds => obtain ⟨a, vs, e1, q1, q2, q3, q4⟩ := h; exact ⟨a, vs, e1, e.hh _ _ q1, q2.mono e.ff, e.freed q3 (by rw [q1]; simp), q4⟩
  | ot kvs => obtain ⟨a, vs, e1, q1, q2, q3, q4⟩ := h; exact ⟨a, vs, e1, e.hh _ _ q1, q2.mono e.ff, e.freed q3 (by rw [q1]; simp), q4⟩
  | ok kvs => obtain ⟨a, vs, e1, q1, q2, q3, q4⟩ := h; exact ⟨a, vs, e1, e.hh _ _ q1, q2.mono e.ff, e.freed q3 (by rw [q1]; simp), q4⟩
theorem EnvIs.grow (E : EnvIs K F0 H0 F H σ Γ) (e : Ext F H F' H') : EnvIs K F0 H0 F' H' σ Γ :=
  ⟨E.ext.trans e, E.len, fun i s h => let ⟨o, h1, h2⟩ := E.val i s h; ⟨o, h1, h2.ext e⟩, E.sep⟩
theorem EnvIs.fh (E : EnvIs K F0 H0 F H σ Γ) : Same F H := E.ext.fh
/-- a slot is set to a value that is no thing of one's own -/
theorem EnvIs.put {i : Nat} {d : D} {v : V} (E : EnvIs K F0 H0 F H σ Γ) (h : Is K F d v) : EnvIs K F0 H0 F H (σ.set i (some v)) (Γ.set i (.v d)) := by
  refine ⟨E.ext, by simpa using E.len, fun j s e => ?_, fun j k s t a hjk e1 e2 o1 o2 r1 r2 => ?_⟩
  · by_cases hj : j = i
    · subst hj
      have hlt : j < Γ.length := by
        have := (List.getElem?_eq_some_iff.mp e).1; simpa using this
      rw [List.getElem?_set_self hlt] at e
      cases e
      exact ⟨some v, List.getElem?_set_self (by rw [E.len]; exact hlt), v, rfl, h⟩
    · rw [List.getElem?_set_ne (Ne.symm hj)] at e ⊢
      exact E.val j s e
  · have no : ∀ (k : Nat) (t : S), (Γ.set i (.v d))[k]? = some t → t.own = true → k ≠ i := fun k t e o z => by
      subst z
      have hlt : k < Γ.length := by
        have := (List.getElem?_eq_some_iff.mp e).1; simpa using this
      rw [List.getElem?_set_self hlt] at e
      cases e; cases o
    have n1 := no j s e1 o1
    have n2 := no k t e2 o2
    rw [List.getElem?_set_ne (Ne.symm n1)] at e1 r1
    rw [List.getElem?_set_ne (Ne.symm n2)] at e2 r2
    exact E.sep j k s t a hjk e1 e2 o1 o2 r1 r2
/-- a slot is set to a new thing of one's own -/
theorem EnvIs.putOwn {i : Nat} {s0 : S} {a : Addr} (E : EnvIs K F0 H0 F H σ Γ) (h : SIs K H0 F H s0 (some (.ref a))) (nw : ∀ (j : Nat) s, j ≠ i → Γ[j]? = some s → s.own = true → σ[j]? ≠ some (some (.ref a))) :
    EnvIs K F0 H0 F H (σ.set i (some (.ref a))) (Γ.set i s0) := by
  refine ⟨E.ext, by simpa using E.len, fun j s e => ?_, fun j k s t b hjk e1 e2 o1 o2 r1 r2 => ?_⟩
  · by_cases hj : j = i
    · subst hj
      have hlt : j < Γ.length := by
        have := (List.getElem?_eq_some_iff.mp e).1; simpa using this
      rw [List.getElem?_set_self hlt] at e
      cases e
      exact ⟨_, List.getElem?_set_self (by rw [E.len]; exact hlt), h⟩
    · rw [List.getElem?_set_ne (Ne.symm hj)] at e ⊢
      exact E.val j s e
  · by_cases hj : j = i
    · subst hj
      have hk : k ≠ j := Ne.symm hjk
      have hlt : j < σ.length := by
        have := (List.getElem?_eq_some_iff.mp r1).1; simpa using this
      rw [List.getElem?_set_self hlt] at r1
      cases r1
      rw [List.getElem?_set_ne (Ne.symm hk)] at e2 r2
      exact nw k t hk e2 o2 r2
    · by_cases hk : k = i
      · subst hk
        have hlt : k < σ.length := by
          have := (List.getElem?_eq_some_iff.mp r2).1; simpa using this
        rw [List.getElem?_set_self hlt] at r2
        cases r2
        rw [List.getElem?_set_ne (Ne.symm hj)] at e1 r1
        exact nw j s hj e1 o1 r1
      · rw [List.getElem?_set_ne (Ne.symm hj)] at e1 r1
        rw [List.getElem?_set_ne (Ne.symm hk)] at e2 r2
        exact E.sep j k s t b hjk e1 e2 o1 o2 r1 r2
end

/-! ### what an expression comes to: a value, or a thing of one's own, looked at -/
/-- Python's own kinds -/
inductive Ty where
  | non | bl | int | str | tup | lst
  deriving DecidableEq
def Ty.name : Ty → String
  | .non => "NoneType" | .bl => "bool" | .int => "int" | .str => "str" | .tup => "tuple" | .lst => "list"
inductive B where
  | d (d : D) | l (ds : List D) | c (ds : List D) | t (kvs : List (List Key × D)) | k (kvs : List (Key × D)) | ty (c : Ty)
def BIs (K : PySem.W.Frag) (F H : Hp) : B → V → Prop
  | .d d, v => Is K F d v
  | .l ds, v => ∃ a vs, v = .ref a ∧ H a = some (.lst vs) ∧ Are K F ds vs
  | .c ds, v => ∃ a vs, v = .ref a ∧ SqT K H a vs ∧ Are K F ds vs
  | .t kvs, v => ∃ a ws, v = .ref a ∧ H a = some (.dT ws) ∧ PAre K F kvs ws
  | .k kvs, v => ∃ a ws, v = .ref a ∧ H a = some (.dK ws) ∧ PAre K F kvs ws
  | .ty c, v => v = .ty c.name
theorem BIs.ext {K : PySem.W.Frag} {F H F' H' : Hp} {b : B} {v : V} (h : BIs K F H b v) (e : Ext F H F' H') : BIs K F' H' b v := by
  cases b with
  | d d => exact Is.mono e.ff d h
  | l ds => obtain ⟨a, vs, e1, q, r⟩ := h; exact ⟨a, vs, e1, e.hh _ _ q, r.mono e.ff⟩
  | c ds => obtain ⟨a, vs, e1, q, r⟩ := h; exact ⟨a, vs, e1, sqT_mono e.hh q, r.mono e.ff⟩
  | t kvs => obtain ⟨a, ws, e1, q, r⟩ := h; exact ⟨a, ws, e1, e.hh _ _ q, r.mono e.ff⟩
  | k kvs => obtain ⟨a, ws, e1, q, r⟩ := h; exact ⟨a, ws, e1, e.hh _ _ q, r.mono e.ff⟩
  | ty c => exact h
def S.look : S → Option B
  | .un => none
  | .v d => some (.d d)
  | .ol ds => some (.l ds)
  | .ot kvs => some (.t kvs)
  | .ok kvs => some (.k kvs)
def B.asD : B → Option D
  | .d x => some x
  | _ => none

/-! ### the judgements -/
def dE (K : PySem.W.Frag) (f : G → Option B) : TE := fun σ H Q => ∃ F0 H0 F Γ b, EnvIs K F0 H0 F H σ Γ ∧ f Γ = some b ∧ ∀ v F' H', Ext F H F' H' → BIs K F' H' b v → Q v H'
def dT (K : PySem.W.Frag) (f : G → Option Bool) : TT := fun σ H Q => ∃ F0 H0 F Γ b, EnvIs K F0 H0 F H σ Γ ∧ f Γ = some b ∧ ∀ F' H', Ext F H F' H' → Q b H'
abbrev BAre (K : PySem.W.Frag) (F H : Hp) : List B → List V → Prop := Paired (BIs K F H)
def dA (K : PySem.W.Frag) (f : G → Option (List B)) : TA := fun σ H Q => ∃ F0 H0 F Γ ds, EnvIs K F0 H0 F H σ Γ ∧ f Γ = some ds ∧ ∀ vs F' H', Ext F H F' H' → BAre K F' H' ds vs → Q vs H'
/-- a new list -/
def dL (K : PySem.W.Frag) (f : G → Option (List D)) : TE := fun σ H Q => ∃ F0 H0 F Γ ds, EnvIs K F0 H0 F H σ Γ ∧ f Γ = some ds ∧
  ∀ a vs F' H', Ext F H F' H' → H a = none → F' a = none → H' a = some (.lst vs) → Are K F' ds vs → Q (.ref a) H'
inductive Out where
  | nx (g : G) | rt (d : D) | bk (g : G) | ct (g : G)
def OutIs (K : PySem.W.Frag) (F0 H0 Fs : Hp) (E : Ends) : Out → Prop
  | .nx g => ∀ σ F H, EnvIs K F0 H0 F H σ g → Same Fs F → E.nx σ H
  | .bk g => ∀ σ F H, EnvIs K F0 H0 F H σ g → Same Fs F → E.bk σ H
  | .ct g => ∀ σ F H, EnvIs K F0 H0 F H σ g → Same Fs F → E.ct σ H
  | .rt d => ∀ v F H, Ext F0 H0 F H → Is K F d v → E.rt v H
theorem OutIs.mono {K : PySem.W.Frag} {F0 H0 Fs Ft : Hp} {E : Ends} {o : Out} (h : OutIs K F0 H0 Fs E o) (s : Same Fs Ft) : OutIs K F0 H0 Ft E o := by
  cases o with
  | nx g => exact fun σ F H En z => h σ F H En (s.trans z)
  | bk g => exact fun σ F H En z => h σ F H En (s.trans z)
  | ct g => exact fun σ F H En z => h σ F H En (s.trans z)
  | rt d => exact h
def dS (K : PySem.W.Frag) (f : G → Option Out) : TS := fun E σ H => ∃ F0 H0 F Γ o, EnvIs K F0 H0 F H σ Γ ∧ f Γ = some o ∧ OutIs K F0 H0 F E o
def dG (K : PySem.W.Frag) (f : D → G → Option G) : TG := fun v σ H Q => ∃ F0 H0 F Γ d g, EnvIs K F0 H0 F H σ Γ ∧ Is K F d v ∧ f d Γ = some g ∧ ∀ σ' F' H', EnvIs K F0 H0 F' H' σ' g → Ext F H F' H' → Q σ' H'
def EE (X : Cx) (e : Expr) (f : G → Option B) : Prop := PE X e (dE X.K f)
def ET (X : Cx) (e : Expr) (f : G → Option Bool) : Prop := PT X e (dT X.K f)
def EW (X : Cx) (e : Expr) (f : G → Option Bool) : Prop := PW X e (dT X.K f)
def EA (X : Cx) (es : List Expr) (f : G → Option (List B)) : Prop := PA X es (dA X.K f)
def EL (X : Cx) (e : Expr) (f : G → Option (List D)) : Prop := PE X e (dL X.K f)
def SD (X : Cx) (st : Stmt) (f : G → Option Out) : Prop := PS X st (dS X.K f)
def SDs (X : Cx) (st : List Stmt) (f : G → Option Out) : Prop := PSs X st (dS X.K f)
def GD (X : Cx) (e : Expr) (f : D → G → Option G) : Prop := PG X e (dG X.K f)

section
variable {X : Cx}
theorem pe_weak {e : Expr} {t t' : TE} (h : PE X e t) (w : ∀ σ H Q, t' σ H Q → t σ H Q) : PE X e t' := fun pins s σ H Q I q => h pins s σ H Q I (w σ H Q q)
theorem pt_weak {e : Expr} {t t' : TT} (h : PT X e t) (w : ∀ σ H Q, t' σ H Q → t σ H Q) : PT X e t' := fun pins s σ H Q I q => h pins s σ H Q I (w σ H Q q)
theorem pw_weak {e : Expr} {t t' : TT} (h : PW X e t) (w : ∀ σ H Q, t' σ H Q → t σ H Q) : PW X e t' := fun wh pins s σ H Q I q => h wh pins s σ H Q I (w σ H Q q)
theorem pa_weak {e : List Expr} {t t' : TA} (h : PA X e t) (w : ∀ σ H Q, t' σ H Q → t σ H Q) : PA X e t' := fun p pins s σ H Q I q => h p pins s σ H Q I (w σ H Q q)
theorem ps_weak {st : Stmt} {t t' : TS} (h : PS X st t) (w : ∀ E σ H, t' E σ H → t E σ H) : PS X st t' := fun pins s σ H E I q => h pins s σ H E I (w E σ H q)
theorem pss_weak {st : List Stmt} {t t' : TS} (h : PSs X st t) (w : ∀ E σ H, t' E σ H → t E σ H) : PSs X st t' := fun pins s σ H E I q => h pins s σ H E I (w E σ H q)
theorem pg_weak {e : Expr} {t t' : TG} (h : PG X e t) (w : ∀ v σ H Q, t' v σ H Q → t v σ H Q) : PG X e t' := fun pins s σ H v u Q I r q => h pins s σ H v u Q I r (w v σ H Q q)

/-! ### names, constants -/
def xVar (i : Nat) : G → Option B := fun Γ => Γ[i]?.bind S.look
theorem e_var {i : Nat} {x : Str} {pos : Pos} (h : PE X (.Name x pos) (tVar i)) : EE X (.Name x pos) (xVar i) := pe_weak h fun σ H Q ⟨F0, H0, F, Γ, b, E, e, q⟩ => by
  unfold xVar at e
  cases z : Γ[i]? with
  | none => rw [z] at e; cases e
  | some s =>
    rw [z] at e
    have e' : s.look = some b := e
    obtain ⟨o, h1, h2⟩ := E.val i s z
    cases s with
    | un => cases e'
    | v d => cases e'; obtain ⟨v, rfl, r⟩ := h2; exact ⟨v, h1, q v F H (.refl E.fh) r⟩
    | ol ds => cases e'; obtain ⟨a, vs, rfl, r1, r2, _⟩ := h2; exact ⟨_, h1, q _ F H (.refl E.fh) ⟨a, vs, rfl, r1, r2⟩⟩
    | ot kvs => cases e'; obtain ⟨a, vs, rfl, r1, r2, _⟩ := h2; exact ⟨_, h1, q _ F H (.refl E.fh) ⟨a, vs, rfl, r1, r2⟩⟩
    | ok kvs => cases e'; obtain ⟨a, vs, rfl, r1, r2, _⟩ := h2; exact ⟨_, h1, q _ F H (.refl E.fh) ⟨a, vs, rfl, r1, r2⟩⟩
def xC (d : D) : G → Option B := fun _ => some (.d d)
theorem e_const {e : Expr} {v : V} {d : D} (h : PE X e (tC v)) (r : ∀ F, Is X.K F d v) : EE X e (xC d) := pe_weak h fun σ H Q ⟨F0, H0, F, Γ, b, E, e, q⟩ => by
  cases e
  exact q v F H (.refl E.fh) (r F)
theorem e_int {i j pos} : EE X (.Constant (.int i) j pos) (xC (.int i)) := e_const pe_int fun F => by simp [Is]
theorem e_str {i j pos} : EE X (.Constant (.str i) j pos) (xC (.str i)) := e_const pe_str fun F => by simp [Is]
theorem e_non {j pos} : EE X (.Constant .none j pos) (xC .non) := e_const pe_non fun F => by simp [Is]
theorem e_globI {x : Str} {i : Int} {t : Tok} {pos : Pos} (hg : Gl X x) (hm : X.mg x = some (.int i t)) (hd : (x == ("__debug__" : Str)) = false := by decide) : EE X (.Name x pos) (xC (.int i)) := e_const (pe_glob hg hm (v := .int i) ⟨t, rfl⟩ hd) fun F => by simp [Is]
end
end DD

namespace DD
open PySem PySem.Spec L2
open PyProof.Rows hiding St
section
variable {X : Cx} {a b c e : Expr} {f g h : G → Option B} {pos : Pos}

/-! ### operations -/
/-- what an operation's reading wants, by data -/
def OpB (K : PySem.W.Frag) (r : R2) (m : B → B → Option D) : Prop := ∀ F H x y v u d Q, Same F H → BIs K F H x v → BIs K F H y u → m x y = some d → (∀ w F' H', Ext F H F' H' → Is K F' d w → Q w H') → r v u H Q
def x2 (m : B → B → Option D) (f g : G → Option B) : G → Option B := fun Γ => (f Γ).bind fun x => (g Γ).bind fun y => (m x y).map B.d
theorem x2_some {m : B → B → Option D} {Γ : G} {z : B} (e : x2 m f g Γ = some z) : ∃ x y d, f Γ = some x ∧ g Γ = some y ∧ m x y = some d ∧ z = .d d := by
  unfold x2 at e
  cases hx : f Γ with
  | none => rw [hx] at e; cases e
  | some x =>
    cases hy : g Γ with
    | none => rw [hx, hy] at e; cases e
    | some y =>
      rw [hx, hy] at e
      cases hm : m x y with
      | none => simp [hm] at e
      | some d => simp [hm] at e; exact ⟨x, y, d, rfl, rfl, hm, e.symm⟩
theorem e_op {op : Operator} {r : R2} {m : B → B → Option D} (ho : OpR X (binaryOp op) r) (hm : OpB X.K r m) (ha : EE X a f) (hb : EE X b g) : EE X (.BinOp a op b pos) (x2 m f g) :=
  pe_weak (pe_op ho ha hb) fun σ H Q ⟨F0, H0, F, Γ, z, E, e, q⟩ => by
    obtain ⟨x, y, d, hx, hy, hd, rfl⟩ := x2_some e
    exact ⟨F0, H0, F, Γ, x, E, hx, fun v F1 H1 e1 r1 => ⟨F0, H0, F1, Γ, y, E.grow e1, hy, fun u F2 H2 e2 r2 => hm F2 H2 x y v u d Q e2.fh (r1.ext e2) r2 hd fun w F' H' e3 r3 => q w F' H' ((e1.trans e2).trans e3) r3⟩⟩
theorem e_cmp {op : CmpOp} {r : R2} {m : B → B → Option D} (ho : OpR X (compareOp op) r) (hm : OpB X.K r m) (ha : EE X a f) (hb : EE X b g) (hk : behindInMarks op b = false) : EE X (.Compare a [op] [b] pos) (x2 m f g) :=
  pe_weak (pe_cmpR ho ha hb hk) fun σ H Q ⟨F0, H0, F, Γ, z, E, e, q⟩ => by
    obtain ⟨x, y, d, hx, hy, hd, rfl⟩ := x2_some e
    exact ⟨F0, H0, F, Γ, x, E, hx, fun v F1 H1 e1 r1 => ⟨F0, H0, F1, Γ, y, E.grow e1, hy, fun u F2 H2 e2 r2 => hm F2 H2 x y v u d Q e2.fh (r1.ext e2) r2 hd fun w F' H' e3 r3 => q w F' H' ((e1.trans e2).trans e3) r3⟩⟩
/-- a bool, as a test -/
def B.tst : B → Option Bool
  | .d (.bl b) => some b
  | _ => none
def xT (f : G → Option B) : G → Option Bool := fun Γ => (f Γ).bind B.tst
theorem xT_some {Γ : G} {z : Bool} (e : xT f Γ = some z) : f Γ = some (.d (.bl z)) := by
  unfold xT at e
  cases hx : f Γ with
  | none => rw [hx] at e; cases e
  | some x =>
    rw [hx] at e
    have e' : x.tst = some z := e
    unfold B.tst at e'
    split at e'
    · cases e'; rfl
    · cases e'
theorem t_cmp {op : CmpOp} {r : R2} {m : B → B → Option D} (ho : OpR X (compareOp op) r) (hm : OpB X.K r m) (ha : EE X a f) (hb : EE X b g) (hk : behindInMarks op b = false) : ET X (.Compare a [op] [b] pos) (xT (x2 m f g)) :=
  pt_weak (pt_cmpR ho ha hb hk) fun σ H Q ⟨F0, H0, F, Γ, z, E, e, q⟩ => by
    obtain ⟨x, y, d, hx, hy, hd, hz⟩ := x2_some (xT_some e)
    cases hz
    exact ⟨F0, H0, F, Γ, x, E, hx, fun v F1 H1 e1 r1 => ⟨F0, H0, F1, Γ, y, E.grow e1, hy, fun u F2 H2 e2 r2 => hm F2 H2 x y v u _ _ e2.fh (r1.ext e2) r2 hd fun w F' H' e3 r3 => ⟨z, by simpa [Is] using r3, q F' H' ((e1.trans e2).trans e3)⟩⟩⟩
/-- any expression whose test is its truth (a bool) -/
theorem t_val (ha : EE X a f) (he : ∀ whole, isTrue a X.env whole = (do let v ← whole; standAt a.pos; holding [v] (truthy v)) := by intro _; rfl) : ET X a (xT f) :=
  pt_weak (pt_val ha he) fun σ H Q ⟨F0, H0, F, Γ, z, E, e, q⟩ => ⟨F0, H0, F, Γ, _, E, xT_some e, fun v F1 H1 e1 r1 => ⟨z, by
    have r1' : Is X.K F1 (.bl z) v := r1
    simpa [Is] using r1', q F1 H1 e1⟩⟩

/-! ### and, or, not -/
variable {tf tg : G → Option Bool} {rest : List Expr}
def xAnd (f g : G → Option Bool) : G → Option Bool := fun Γ => (f Γ).bind fun x => if x = true then g Γ else some false
def xOr (f g : G → Option Bool) : G → Option Bool := fun Γ => (f Γ).bind fun x => if x = true then some true else g Γ
def xNot (f : G → Option Bool) : G → Option Bool := fun Γ => (f Γ).map (!·)
theorem bind_some {α β : Type} {o : Option α} {k : α → Option β} {z : β} (e : o.bind k = some z) : ∃ x, o = some x ∧ k x = some z := by
  cases o with
  | none => cases e
  | some x => exact ⟨x, rfl, e⟩
theorem w_and1 (ha : ET X a tf) : EW X (.BoolOp .And [a] pos) tf := pw_and1 ha
theorem w_or1 (ha : ET X a tf) : EW X (.BoolOp .Or [a] pos) tf := pw_or1 ha
theorem w_and (ha : ET X a tf) (hb : EW X (.BoolOp .And (b :: rest) pos) tg) : EW X (.BoolOp .And (a :: b :: rest) pos) (xAnd tf tg) :=
  pw_weak (pw_and ha hb) fun σ H Q ⟨F0, H0, F, Γ, z, E, e, q⟩ => by
    obtain ⟨x, hx, e⟩ := bind_some e
    refine ⟨F0, H0, F, Γ, x, E, hx, fun F1 H1 e1 => ?_⟩
    cases x with
    | true => exact ⟨F0, H0, F1, Γ, z, E.grow e1, e, fun F2 H2 e2 => q F2 H2 (e1.trans e2)⟩
    | false => cases e; exact q F1 H1 e1
theorem w_or (ha : ET X a tf) (hb : EW X (.BoolOp .Or (b :: rest) pos) tg) : EW X (.BoolOp .Or (a :: b :: rest) pos) (xOr tf tg) :=
  pw_weak (pw_or ha hb) fun σ H Q ⟨F0, H0, F, Γ, z, E, e, q⟩ => by
    obtain ⟨x, hx, e⟩ := bind_some e
    refine ⟨F0, H0, F, Γ, x, E, hx, fun F1 H1 e1 => ?_⟩
    cases x with
    | true => cases e; exact q F1 H1 e1
    | false => exact ⟨F0, H0, F1, Γ, z, E.grow e1, e, fun F2 H2 e2 => q F2 H2 (e1.trans e2)⟩
theorem t_w (h : EW X e tf) : ET X e tf := PW.pt h
theorem t_not (ha : ET X a tf) : ET X (.UnaryOp .Not a pos) (xNot tf) :=
  pt_weak (pt_not ha) fun σ H Q ⟨F0, H0, F, Γ, z, E, e, q⟩ => by
    unfold xNot at e
    cases hx : tf Γ with
    | none => rw [hx] at e; cases e
    | some x => rw [hx] at e; cases e; exact ⟨F0, H0, F, Γ, x, E, hx, fun F1 H1 e1 => q F1 H1 e1⟩
/-- .. as values -/
def xB (f : G → Option Bool) : G → Option B := fun Γ => (f Γ).map fun x => .d (.bl x)
def xAndV (f g : G → Option B) : G → Option B := fun Γ => (xT f Γ).bind fun x => if x = true then g Γ else some (.d (.bl false))
def xOrV (f g : G → Option B) : G → Option B := fun Γ => (xT f Γ).bind fun x => if x = true then some (.d (.bl true)) else g Γ
def xNotV (f : G → Option B) : G → Option B := fun Γ => (xT f Γ).map fun x => .d (.bl (!x))
theorem is_bl {K : PySem.W.Frag} {F H : Hp} {b : Bool} : BIs K F H (.d (.bl b)) (.bl b) := by
  show Is K F (.bl b) (.bl b)
  simp [Is]
def xIf (t : G → Option Bool) (f g : G → Option B) : G → Option B := fun Γ => (t Γ).bind fun x => if x = true then f Γ else g Γ
theorem e_if (hc : ET X c tf) (ha : EE X a f) (hb : EE X b g) : EE X (.IfExp c a b pos) (xIf tf f g) :=
  pe_weak (pe_ifExp hc ha hb) fun σ H Q ⟨F0, H0, F, Γ, z, E, e, q⟩ => by
    obtain ⟨x, hx, e⟩ := bind_some e
    refine ⟨F0, H0, F, Γ, x, E, hx, fun F1 H1 e1 => ?_⟩
    cases x with
    | true => exact ⟨F0, H0, F1, Γ, z, E.grow e1, e, fun v F2 H2 e2 r2 => q v F2 H2 (e1.trans e2) r2⟩
    | false => exact ⟨F0, H0, F1, Γ, z, E.grow e1, e, fun v F2 H2 e2 r2 => q v F2 H2 (e1.trans e2) r2⟩
/-- a op b op c -/
def x3 (m m' : B → B → Option D) (f g h : G → Option B) : G → Option B := fun Γ => (f Γ).bind fun x => (g Γ).bind fun y => ((m x y).bind fun z => B.tst (.d z)).bind fun k =>
  if k = true then (h Γ).bind fun w => (m' y w).map B.d else some (.d (.bl false))
theorem tst_some {d : D} {k : Bool} (e : B.tst (.d d) = some k) : d = .bl k := by
  unfold B.tst at e
  split at e
  · rename_i q; cases q; cases e; rfl
  · cases e
theorem x3_go {r r' : R2} {m m' : B → B → Option D} {σ : St} {H : Hp} {Q : VK} (hm : OpB X.K r m) (hm' : OpB X.K r' m') : dE X.K (x3 m m' f g h) σ H Q → tChain r r' (dE X.K f) (dE X.K g) (dE X.K h) σ H Q := fun ⟨F0, H0, F, Γ, z, E, e, q⟩ => by
    obtain ⟨x, hx, e⟩ := bind_some e
    obtain ⟨y, hy, e⟩ := bind_some e
    obtain ⟨k, hk, e⟩ := bind_some e
    obtain ⟨d, hd, hk⟩ := bind_some hk
    have hd' := tst_some hk
    subst hd'
    refine ⟨F0, H0, F, Γ, x, E, hx, fun v F1 H1 e1 r1 => ⟨F0, H0, F1, Γ, y, E.grow e1, hy, fun u F2 H2 e2 r2 => hm F2 H2 x y v u _ _ e2.fh (r1.ext e2) r2 hd fun w F3 H3 e3 r3 => ⟨k, by simpa [Is] using r3, ?_⟩⟩⟩
    cases k with
    | false => cases e; exact q _ F3 H3 ((e1.trans e2).trans e3) is_bl
    | true =>
      obtain ⟨w', hw, e⟩ := bind_some e
      cases hq : m' y w' with
      | none => simp [hq] at e
      | some d' =>
        simp [hq] at e; subst e
        exact ⟨F0, H0, F3, Γ, w', ((E.grow e1).grow e2).grow e3, hw, fun v' F4 H4 e4 r4 => hm' F4 H4 y w' u v' d' Q e4.fh ((r2.ext e3).ext e4) r4 hq fun w2 F5 H5 e5 r5 => q w2 F5 H5 ((((e1.trans e2).trans e3).trans e4).trans e5) r5⟩
/-! ### arguments, displays -/
variable {es : List Expr} {fs : G → Option (List B)}
def xNil : G → Option (List B) := fun _ => some []
def xCons (f : G → Option B) (fs : G → Option (List B)) : G → Option (List B) := fun Γ => (f Γ).bind fun x => (fs Γ).map fun xs => x :: xs
theorem a_nil : EA X [] xNil := pa_weak pa_nil fun σ H Q ⟨F0, H0, F, Γ, z, E, e, q⟩ => by cases e; exact q [] F H (.refl E.fh) .nil
theorem a_cons (ha : EE X e f) (hr : EA X es fs) (hs : starEach (e :: es) X.env = (false, eval e X.env) :: starEach es X.env := by rfl) : EA X (e :: es) (xCons f fs) :=
  pa_weak (pa_cons ha hr hs) fun σ H Q ⟨F0, H0, F, Γ, z, E, e, q⟩ => by
    obtain ⟨x, hx, e⟩ := bind_some e
    cases hy : fs Γ with
    | none => rw [hy] at e; cases e
    | some xs =>
      rw [hy] at e; cases e
      exact ⟨F0, H0, F, Γ, x, E, hx, fun v F1 H1 e1 r1 => ⟨F0, H0, F1, Γ, xs, E.grow e1, hy, fun vs F2 H2 e2 r2 => q (v :: vs) F2 H2 (e1.trans e2) (.cons (r1.ext e2) r2)⟩⟩
/-- values that may be kept -/
def asDs : List B → Option (List D)
  | [] => some []
  | b :: r => b.asD.bind fun d => (asDs r).map fun ds => d :: ds
theorem asDs_are {K : PySem.W.Frag} {F H : Hp} : ∀ {bs : List B} {vs : List V} {ds : List D}, asDs bs = some ds → BAre K F H bs vs → Are K F ds vs
  | [], _, _, e, .nil => by cases e; exact .nil
  | b :: r, _, _, e, .cons h q => by
    obtain ⟨d, hd, e⟩ := bind_some e
    cases hr : asDs r with
    | none => rw [hr] at e; cases e
    | some ds =>
      rw [hr] at e; cases e
      cases b with
      | d d' => cases hd; exact .cons h (asDs_are hr q)
      | _ => cases hd
def xTup (fs : G → Option (List B)) : G → Option B := fun Γ => ((fs Γ).bind asDs).bind fun ds => if ds.length ≤ sizeLine then some (.d (.tup ds)) else none
theorem e_tup {k} (h : EA X es fs) : EE X (.Tuple es k pos) (xTup fs) := pe_weak (pe_tup h) fun σ H Q ⟨F0, H0, F, Γ, z, E, e, q⟩ => by
  obtain ⟨ds, hd, e⟩ := bind_some e
  obtain ⟨bs, hb, hd⟩ := bind_some hd
  by_cases hz : ds.length ≤ sizeLine
  · rw [if_pos hz] at e; cases e
    refine ⟨F0, H0, F, Γ, bs, E, hb, fun vs F1 H1 e1 r1 => ⟨by rw [(asDs_are hd r1).length]; exact hz, fun p hp => q _ (upd F1 p (.tup vs)) _ (e1.trans (.fix e1.fh hp _)) ?_⟩⟩
    show Is _ _ (.tup ds) _
    simp only [Is]
    exact ⟨p, vs, rfl, upd_same, (asDs_are hd r1).mono (same_upd (e1.fh.free hp) _)⟩
  · rw [if_neg hz] at e; cases e
/-- a new list, kept as a value -/
def xL (f : G → Option (List D)) : G → Option B := fun Γ => (f Γ).map fun ds => .d (.lst ds)
theorem e_new {fl : G → Option (List D)} (h : EL X e fl) : EE X e (xL fl) := pe_weak h fun σ H Q ⟨F0, H0, F, Γ, z, E, e, q⟩ => by
  unfold xL at e
  cases hx : fl Γ with
  | none => rw [hx] at e; cases e
  | some ds =>
    rw [hx] at e; cases e
    refine ⟨F0, H0, F, Γ, ds, E, hx, fun a vs F1 H1 e1 hn hf hh r1 => q _ (upd F1 a (.lst vs)) H1 ?_ ?_⟩
    · exact (Ext.freeze e1 hn hf hh)
    · show Is _ _ (.lst ds) _
      simp only [Is]
      exact ⟨a, vs, rfl, upd_same, r1.mono (same_upd hf _)⟩
def xLst (fs : G → Option (List B)) : G → Option (List D) := fun Γ => ((fs Γ).bind asDs).bind fun ds => if ds.length ≤ sizeLine then some ds else none
theorem l_lst (h : EA X es fs) : EL X (.List es pos) (xLst fs) := pe_weak (pe_lst h) fun σ H Q ⟨F0, H0, F, Γ, z, E, e, q⟩ => by
  obtain ⟨ds, hd, e⟩ := bind_some e
  obtain ⟨bs, hb, hd⟩ := bind_some hd
  by_cases hz : ds.length ≤ sizeLine
  · rw [if_pos hz] at e; cases e
    refine ⟨F0, H0, F, Γ, bs, E, hb, fun vs F1 H1 e1 r1 => ⟨by rw [(asDs_are hd r1).length]; exact hz, fun p hp => q p vs F1 _ (e1.trans (.own e1.fh hp _)) (e1.hh.free hp) (e1.fh.free hp) upd_same (asDs_are hd r1)⟩⟩
  · rw [if_neg hz] at e; cases e
end
end DD

namespace DD
open PySem PySem.Spec L2
open PyProof.Rows hiding St
section
variable {K : PySem.W.Frag} {F H F' H' : Hp}
/-! ### sequences -/
theorem are_ints : ∀ (ns : List Int), Are K F (ns.map D.int) (ns.map V.int)
  | [] => .nil
  | n :: r => .cons (by simp [Is]) (are_ints r)
def B.seq : B → Option (List D)
  | .d (.tup ds) => some ds
  | .d (.lst ds) => some ds
  | .d (.scr ns) => some (ns.map D.int)
  | .l ds => some ds
  | .c ds => some ds
  | _ => none
theorem seq_is {b : B} {ds : List D} {v : V} (s : Same F H) (e : b.seq = some ds) (h : BIs K F H b v) : ∃ a vs, v = .ref a ∧ (SqL K H a vs ∨ SqT K H a vs) ∧ Are K F ds vs := by
  cases b with
  | d d =>
    have h' : Is K F d v := h
    cases d with
    | tup xs => cases e; simp only [Is] at h'; obtain ⟨a, vs, e1, hf, r⟩ := h'; exact ⟨a, vs, e1, .inr (SqT.of (s _ _ hf)), r⟩
    | lst xs => cases e; simp only [Is] at h'; obtain ⟨a, vs, e1, hf, r⟩ := h'; exact ⟨a, vs, e1, .inl (SqL.of (s _ _ hf)), r⟩
    | scr ns => cases e; simp only [Is] at h'; obtain ⟨a, e1, hf⟩ := h'; exact ⟨a, _, e1, .inl (s.seq hf), are_ints ns⟩
    | _ => cases e
  | l xs => cases e; obtain ⟨a, vs, e1, hf, r⟩ := h; exact ⟨a, vs, e1, .inl (SqL.of hf), r⟩
  | c xs => cases e; obtain ⟨a, vs, e1, hf, r⟩ := h; exact ⟨a, vs, e1, .inr hf, r⟩
  | _ => cases e
/-- a list that is tracked -/
def B.lst : B → Option (List D)
  | .d (.lst ds) => some ds
  | .l ds => some ds
  | _ => none
theorem lst_is {b : B} {ds : List D} {v : V} (s : Same F H) (e : b.lst = some ds) (h : BIs K F H b v) : ∃ a vs, v = .ref a ∧ H a = some (.lst vs) ∧ Are K F ds vs := by
  cases b with
  | d d =>
    have h' : Is K F d v := h
    cases d with
    | lst xs => cases e; simp only [Is] at h'; obtain ⟨a, vs, e1, hf, r⟩ := h'; exact ⟨a, vs, e1, s _ _ hf, r⟩
    | _ => cases e
  | l xs => cases e; obtain ⟨a, vs, e1, hf, r⟩ := h; exact ⟨a, vs, e1, hf, r⟩
  | _ => cases e
def B.int : B → Option Int
  | .d (.int i) => some i
  | _ => none
theorem int_is {b : B} {i : Int} {v : V} (e : b.int = some i) (h : BIs K F H b v) : v = .int i := by
  cases b with
  | d d =>
    have h' : Is K F d v := h
    cases d with
    | int j => cases e; simpa [Is] using h'
    | _ => cases e
  | _ => cases e
theorem is_int {i : Int} : Is K F (.int i) (.int i) := by simp [Is]
theorem is_blD {i : Bool} : Is K F (.bl i) (.bl i) := by simp [Is]
theorem are_at {ds : List D} {vs : List V} {i : Int} {d : D} (r : Are K F ds vs) (e : atI ds i = some d) : ∃ v, atI vs i = some v ∧ Is K F d v := by
  unfold atI at e ⊢
  rw [r.length]
  obtain ⟨j, hj, e⟩ := bind_some e
  obtain ⟨v, h1, h2⟩ := r.get e
  exact ⟨v, by rw [hj]; exact h1, h2⟩
/-! ### arithmetic -/
def mI (p : Int → Int → Bool) (g : Int → Int → D) : B → B → Option D := fun x y => x.int.bind fun i => y.int.bind fun j => if p i j then some (g i j) else none
theorem mI_some {p : Int → Int → Bool} {g : Int → Int → D} {x y : B} {d : D} (e : mI p g x y = some d) : ∃ i j, x.int = some i ∧ y.int = some j ∧ p i j = true ∧ d = g i j := by
  obtain ⟨i, hi, e⟩ := bind_some e
  obtain ⟨j, hj, e⟩ := bind_some e
  by_cases hp : p i j = true
  · rw [if_pos hp] at e; cases e; exact ⟨i, j, hi, hj, hp, rfl⟩
  · rw [if_neg hp] at e; cases e
theorem ob_rI0 {g : Int → Int → V} {gd : Int → Int → D} (hg : ∀ F i j, Is K F (gd i j) (g i j)) : OpB K (rI0 g) (mI (fun _ _ => true) gd) := fun F H x y v u d Q s hx hy e q => by
  obtain ⟨i, j, h1, h2, _, rfl⟩ := mI_some e
  exact ⟨i, j, int_is h1 hx, int_is h2 hy, q _ F H (.refl s) (hg F i j)⟩
theorem ob_rI {C : Int → Int → Prop} {p : Int → Int → Bool} {g : Int → Int → V} {gd : Int → Int → D} (hp : ∀ i j, p i j = true → C i j) (hg : ∀ F i j, Is K F (gd i j) (g i j)) : OpB K (rI C g) (mI p gd) := fun F H x y v u d Q s hx hy e q => by
  obtain ⟨i, j, h1, h2, h3, rfl⟩ := mI_some e
  exact ⟨i, j, int_is h1 hx, int_is h2 hy, hp i j h3, q _ F H (.refl s) (hg F i j)⟩
def mAddI := mI (fun _ _ => true) fun i j => .int (i + j)
def mSub := mI (fun _ _ => true) fun i j => .int (i - j)
def small64 (i : Int) : Bool := decide (-(2 ^ 64) < i) && decide (i < 2 ^ 64)
def mMul := mI (fun i j => small64 i || small64 j) fun i j => .int (i * j)
def mMod := mI (fun _ j => decide (0 < j)) fun i j => .int (i % j)
def mDiv := mI (fun _ j => decide (0 < j) && decide (j < 1073741824)) fun i j => .int (i / j)
def mLt := mI (fun _ _ => true) fun i j => .bl (decide (i < j))
def mLe := mI (fun _ _ => true) fun i j => .bl (decide (i ≤ j))
def mGt := mI (fun _ _ => true) fun i j => .bl (decide (j < i))
def mGe := mI (fun _ _ => true) fun i j => .bl (decide (j ≤ i))
theorem ob_addI : OpB K (rI0 fun i j => .int (i + j)) mAddI := ob_rI0 fun F i j => is_int
theorem ob_sub : OpB K (rI0 fun i j => .int (i - j)) mSub := ob_rI0 fun F i j => is_int
theorem ob_mul : OpB K (rI CMul fun i j => .int (i * j)) mMul := ob_rI (fun i j h => by
  simp only [Bool.or_eq_true, small64, Bool.and_eq_true, decide_eq_true_eq] at h
  exact h) fun F i j => is_int
theorem ob_mod : OpB K (rI (fun _ j => 0 < j) fun i j => .int (i % j)) mMod := ob_rI (fun i j h => of_decide_eq_true h) fun F i j => is_int
theorem ob_div : OpB K (rI CDiv fun i j => .int (i / j)) mDiv := ob_rI (fun i j h => by
  simp only [Bool.and_eq_true, decide_eq_true_eq] at h
  exact h) fun F i j => is_int
theorem ob_lt : OpB K (rI0 fun i j => .bl (decide (i < j))) mLt := ob_rI0 fun F i j => is_blD
theorem ob_le : OpB K (rI0 fun i j => .bl (decide (i ≤ j))) mLe := ob_rI0 fun F i j => is_blD
theorem ob_gt : OpB K (rI0 fun i j => .bl (decide (j < i))) mGt := ob_rI0 fun F i j => is_blD
theorem ob_ge : OpB K (rI0 fun i j => .bl (decide (j ≤ i))) mGe := ob_rI0 fun F i j => is_blD
/-- either rule -/
def mOr (m n : B → B → Option D) : B → B → Option D := fun x y => (m x y).or (n x y)
theorem OpB.or {r r' : R2} {m n : B → B → Option D} (h : OpB K r m) (h' : OpB K r' n) : OpB K (fun x y H Q => r x y H Q ∨ r' x y H Q) (mOr m n) := fun F H x y v u d Q s hx hy e q => by
  unfold mOr at e
  cases hm : m x y with
  | some z => rw [hm] at e; cases e; exact .inl (h F H x y v u _ Q s hx hy hm q)
  | none => rw [hm] at e; exact .inr (h' F H x y v u _ Q s hx hy (by simpa using e) q)
/-! ### tuples and lists put together -/
def mCatT : B → B → Option D
  | .d (.tup a), .d (.tup b) => if a.length + b.length ≤ sizeLine then some (.tup (a ++ b)) else none
  | _, _ => none
def mCatL : B → B → Option D := fun x y => x.lst.bind fun a => y.lst.bind fun b => if a.length + b.length ≤ sizeLine then some (.lst (a ++ b)) else none
theorem ob_catL : OpB K rCat mCatL := fun F H x y v u d Q s hx hy e q => by
  obtain ⟨a, ha, e⟩ := bind_some e
  obtain ⟨b, hb, e⟩ := bind_some e
  obtain ⟨p, vs, rfl, hp, r1⟩ := lst_is s ha hx
  obtain ⟨p2, us, rfl, hp2, r2⟩ := lst_is s hb hy
  by_cases hz : a.length + b.length ≤ sizeLine
  · rw [if_pos hz] at e; cases e
    refine ⟨p, p2, vs, us, rfl, rfl, hp, hp2, by rw [r1.length, r2.length]; exact hz, fun l hl => q _ (upd F l (.lst (vs ++ us))) _ (.fix s hl _) ?_⟩
    simp only [Is]
    exact ⟨l, _, rfl, upd_same, (r1.append r2).mono (same_upd (s.free hl) _)⟩
  · rw [if_neg hz] at e; cases e
/-! ### an item -/
def mIx : B → B → Option D := fun x y => x.seq.bind fun ds => y.int.bind fun i => atI ds i
theorem ob_ix : OpB K (fun x y H Q => rIxL K x y H Q ∨ rIxT K x y H Q) mIx := fun F H x y v u d Q s hx hy e q => by
  obtain ⟨ds, hd, e⟩ := bind_some e
  obtain ⟨i, hi, e⟩ := bind_some e
  obtain ⟨a, vs, rfl, hs, r⟩ := seq_is s hd hx
  obtain ⟨w, hw, hq⟩ := are_at r e
  have hu := int_is hi hy
  subst hu
  rcases hs with hs | hs
  · exact .inl ⟨a, vs, i, w, rfl, rfl, hs, hw, q w F H (.refl s) hq⟩
  · exact .inr ⟨a, vs, i, w, rfl, rfl, hs, hw, q w F H (.refl s) hq⟩
end
section
variable {X : Cx} {a b c e : Expr} {f g h : G → Option B} {pos : Pos} {es : List Expr} {fs : G → Option (List B)}
theorem e_ix (ha : EE X a f) (hb : EE X b g) (hs : PlainIx b) : EE X (.Subscript a b pos) (x2 mIx f g) :=
  pe_weak (pe_ix (ix_list.or ix_tup) ha hb hs) fun σ H Q ⟨F0, H0, F, Γ, z, E, e, q⟩ => by
    obtain ⟨x, y, d, hx, hy, hd, rfl⟩ := x2_some e
    exact ⟨F0, H0, F, Γ, x, E, hx, fun v F1 H1 e1 r1 => ⟨F0, H0, F1, Γ, y, E.grow e1, hy, fun u F2 H2 e2 r2 => ob_ix F2 H2 x y v u d Q e2.fh (r1.ext e2) r2 hd fun w F' H' e3 r3 => q w F' H' ((e1.trans e2).trans e3) r3⟩⟩
/-! ### calls -/
/-- what a call's reading wants, by data -/
def CallB (K : PySem.W.Frag) (r : List V → Hp → VK → Prop) (m : List B → Option D) : Prop := ∀ F H bs vs d Q, Same F H → BAre K F H bs vs → m bs = some d → (∀ w F' H', Ext F H F' H' → Is K F' d w → Q w H') → r vs H Q
def xCall (m : List B → Option D) (fs : G → Option (List B)) : G → Option B := fun Γ => (fs Γ).bind fun bs => (m bs).map B.d
theorem map_some {α β : Type} {o : Option α} {k : α → β} {z : β} (e : o.map k = some z) : ∃ x, o = some x ∧ z = k x := by
  cases o with
  | none => cases e
  | some x => cases e; exact ⟨x, rfl, rfl⟩
theorem xCall_go {m : List B → Option D} {r : List V → Hp → VK → Prop} {σ : St} {H : Hp} {Q : VK} (hm : CallB X.K r m) : dE X.K (xCall m fs) σ H Q → tCB r (dA X.K fs) σ H Q := fun ⟨F0, H0, F, Γ, z, E, e, q⟩ => by
  obtain ⟨bs, hb, e⟩ := bind_some e
  obtain ⟨d, hd, rfl⟩ := map_some e
  exact ⟨F0, H0, F, Γ, bs, E, hb, fun vs F1 H1 e1 r1 => hm F1 H1 bs vs d Q e1.fh r1 hd fun w F' H' e2 r2 => q w F' H' (e1.trans e2) r2⟩
theorem e_callB {id : String} {x : Str} {p : Pos} {r : List V → Hp → VK → Prop} {m : List B → Option D} (hc : CallR X (.builtin id) r) (hm' : CallB X.K r m) (hg : Gl X x) (hm : X.mg x = none) (hv : bootBuiltins x = some (.builtin id)) (ha : EA X (e :: es) fs)
    (hn : x ≠ "__name__" := by decide) (hdb : (x == ("__debug__" : Str)) = false := by decide) (he : starEach (e :: es) X.env = (false, eval e X.env) :: starEach es X.env := by rfl) (hpl : (backTo pos (starEach es X.env)).any (·.1) = false := by rfl) :
    EE X (.Call (.Name x p) (e :: es) [] pos) (xCall m fs) := pe_weak (pe_callB hc hg hm hv ha hn hdb he hpl) fun σ H Q q => xCall_go hm' q
theorem e_callTy {T : String} {x : Str} {p : Pos} {r : List V → Hp → VK → Prop} {m : List B → Option D} (hc : CallR X (.type T) r) (hm' : CallB X.K r m) (hg : Gl X x) (hm : X.mg x = none) (hv : bootBuiltins x = some (.type T)) (ha : EA X (e :: es) fs)
    (hn : x ≠ "__name__" := by decide) (hdb : (x == ("__debug__" : Str)) = false := by decide) (he : starEach (e :: es) X.env = (false, eval e X.env) :: starEach es X.env := by rfl) (hpl : (backTo pos (starEach es X.env)).any (·.1) = false := by rfl) :
    EE X (.Call (.Name x p) (e :: es) [] pos) (xCall m fs) := pe_weak (pe_callTy hc hg hm hv ha hn hdb he hpl) fun σ H Q q => xCall_go hm' q
theorem bare1 {K : PySem.W.Frag} {F H : Hp} {b : B} {vs : List V} (h : BAre K F H [b] vs) : ∃ v, vs = [v] ∧ BIs K F H b v := by
  cases h with
  | cons p q => cases q; exact ⟨_, rfl, p⟩
def mLen : List B → Option D
  | [b] => b.seq.map fun ds => .int ds.length
  | _ => none
theorem cb_len {K : PySem.W.Frag} : CallB K (fun xs H Q => ∃ p ys, xs = [.ref p] ∧ (SqL K H p ys ∨ SqT K H p ys) ∧ Q (.int ys.length) H) mLen := fun F H bs vs d Q s h e q => by
  match bs, e, h with
  | [b], e, h =>
    obtain ⟨v, rfl, hb⟩ := bare1 h
    obtain ⟨ds, hd, rfl⟩ := map_some e
    obtain ⟨a, ys, rfl, hs, r⟩ := seq_is s hd hb
    refine ⟨a, ys, rfl, hs, q _ F H (.refl s) ?_⟩
    rw [r.length]; exact is_int
def mTup : List B → Option D := fun bs => match bs with
  | [.d (.tup ds)] => some (.tup ds)
  | [.d (.lst ds)] => some (.tup ds)
  | [.l ds] => some (.tup ds)
  | _ => none
theorem cb_tuple {K : PySem.W.Frag} : CallB K (fun xs H Q => ∃ p ys, xs = [.ref p] ∧ ((SqL K H p ys ∧ ∀ l, H l = none → Q (.ref l) (upd H l (.tup ys))) ∨ (SqT K H p ys ∧ Q (.ref p) H))) mTup := fun F H bs vs d Q s h e q => by
  have lst : ∀ {a : Addr} {ys : List V} {ds : List D}, H a = some (.lst ys) → Are K F ds ys → (∀ w F' H', Ext F H F' H' → Is K F' (.tup ds) w → Q w H') → ∀ l, H l = none → Q (.ref l) (upd H l (.tup ys)) := fun {a ys ds} ha r q l hl => q _ (upd F l (.tup ys)) _ (.fix s hl _) (by
    simp only [Is]
    exact ⟨l, ys, rfl, upd_same, r.mono (same_upd (s.free hl) _)⟩)
  match bs, e, h with
  | [.d (.tup ds)], e, h =>
    cases e
    obtain ⟨v, rfl, hb⟩ := bare1 h
    have hb' : Is K F (.tup ds) v := hb
    have hb2 := hb'
    simp only [Is] at hb'
    obtain ⟨a, ys, rfl, hf, r⟩ := hb'
    exact ⟨a, ys, rfl, .inr ⟨SqT.of (s _ _ hf), q _ F H (.refl s) hb2⟩⟩
  | [.d (.lst ds)], e, h =>
    cases e
    obtain ⟨v, rfl, hb⟩ := bare1 h
    obtain ⟨a, ys, rfl, hf, r⟩ := lst_is (b := .d (.lst ds)) s rfl hb
    exact ⟨a, ys, rfl, .inl ⟨SqL.of hf, lst hf r q⟩⟩
  | [.l ds], e, h =>
    cases e
    obtain ⟨v, rfl, hb⟩ := bare1 h
    obtain ⟨a, ys, rfl, hf, r⟩ := lst_is (b := .l ds) s rfl hb
    exact ⟨a, ys, rfl, .inl ⟨SqL.of hf, lst hf r q⟩⟩

/-! ### a def's promise, by data -/
def spD (K : PySem.W.Frag) (m : List D → Option D) : Sp := fun vs H Q _ => ∃ F ds d, Same F H ∧ Are K F ds vs ∧ m ds = some d ∧ ∀ v F' H', Ext F H F' H' → Is K F' d v → Q v H'
def xFn (m : List D → Option D) (fs : G → Option (List B)) : G → Option B := fun Γ => ((fs Γ).bind asDs).bind fun ds => (m ds).map B.d
theorem e_call {k : Nat} {x : Str} {p : Pos} {m : List D → Option D} {fa : Addr} {fd : FuncData} {ps : List Str} (Fn : FnOk X.prog X.w X.K X.mg X.base CX0 k fa fd ps (spD X.K m)) (hr : Room k X.A) (hg : Gl X x) (hm : X.mg x = some (.ref fa)) (hk : PySem.W.keepIn X.K (.ref fa) = true) (hb : Binds X.K fd ps [])
    (ha : EA X (e :: es) fs) (hdb : (x == ("__debug__" : Str)) = false := by decide) (he : starEach (e :: es) X.env = (false, eval e X.env) :: starEach es X.env := by rfl) (hpl : (backTo pos (starEach es X.env)).any (·.1) = false := by rfl) :
    EE X (.Call (.Name x p) (e :: es) [] pos) (xFn m fs) :=
  pe_weak (pe_call (E := E0) (dvs := []) (ds := []) Fn hr hg hm hk hb .nil pass0 ha hdb he hpl) fun σ H Q ⟨F0, H0, F, Γ, z, E, e, q⟩ => by
    obtain ⟨ds, hd, e⟩ := bind_some e
    obtain ⟨bs, hb', hd⟩ := bind_some hd
    obtain ⟨d, hm', rfl⟩ := map_some e
    refine ⟨F0, H0, F, Γ, bs, E, hb', fun vs F1 H1 e1 r1 => ?_⟩
    have r2 := asDs_are hd r1
    exact ⟨F1, ds, d, e1.fh, by rw [List.append_nil]; exact r2, hm', fun v F' H' e2 r3 => q v F' H' (e1.trans e2) r3⟩
end
end DD

namespace DD
open PySem PySem.Spec L2
open PyProof.Rows hiding St
section
variable {X : Cx} {a b c e : Expr} {f g h : G → Option B} {pos : Pos} {es : List Expr} {fs : G → Option (List B)} {tf : G → Option Bool}

/-! ### statements -/
def sNext : G → Option Out := fun Γ => some (.nx Γ)
def sSeq (f g : G → Option Out) : G → Option Out := fun Γ => (f Γ).bind fun o => match o with
  | .nx Γ' => g Γ'
  | o => some o
theorem ss_nil : SDs X [] sNext := pss_weak pss_nil fun E σ H ⟨F0, H0, F, Γ, o, En, e, q⟩ => by cases e; exact q σ F H En (Same.refl _)
theorem ss_cons {st : Stmt} {rest : List Stmt} {f g : G → Option Out} (h1 : SD X st f) (h2 : SDs X rest g) : SDs X (st :: rest) (sSeq f g) :=
  pss_weak (pss_cons h1 h2) fun E σ H ⟨F0, H0, F, Γ, o, En, e, q⟩ => by
    obtain ⟨o1, h1, e⟩ := bind_some e
    cases o1 with
    | nx g1 => exact ⟨F0, H0, F, Γ, _, En, h1, fun σ1 F1 H1 E1 z => ⟨F0, H0, F1, g1, o, E1, e, q.mono z⟩⟩
    | rt d => cases e; exact ⟨F0, H0, F, Γ, _, En, h1, q⟩
    | bk g1 => cases e; exact ⟨F0, H0, F, Γ, _, En, h1, q⟩
    | ct g1 => cases e; exact ⟨F0, H0, F, Γ, _, En, h1, q⟩
theorem ss_one {st : Stmt} {f : G → Option Out} (h1 : SD X st f) : SDs X [st] f := pss_one h1
def sRet (f : G → Option B) : G → Option Out := fun Γ => (f Γ).bind fun b => b.asD.map Out.rt
theorem asD_some {b : B} {d : D} (e : b.asD = some d) : b = .d d := by
  cases b with
  | d x => cases e; rfl
  | _ => cases e
theorem s_ret (he : EE X e f) : SD X (.Return (some e) pos) (sRet f) := ps_weak (ps_ret he) fun E σ H ⟨F0, H0, F, Γ, o, En, e, q⟩ => by
  obtain ⟨b, hb, e⟩ := bind_some e
  obtain ⟨d, hd, rfl⟩ := map_some e
  have := asD_some hd; subst this
  exact ⟨F0, H0, F, Γ, _, En, hb, fun v F1 H1 e1 r1 => q v F1 H1 (En.ext.trans e1) r1⟩
def sRetN : G → Option Out := fun _ => some (.rt .non)
def sIf (t : G → Option Bool) (f g : G → Option Out) : G → Option Out := fun Γ => (t Γ).bind fun x => if x = true then f Γ else g Γ
theorem s_if {p q : List Stmt} {f g : G → Option Out} (hc : ET X c tf) (ha : SDs X p f) (hb : SDs X q g) : SD X (.If c p q pos) (sIf tf f g) := ps_weak (ps_if hc ha hb) fun E σ H ⟨F0, H0, F, Γ, o, En, e, q⟩ => by
  obtain ⟨x, hx, e⟩ := bind_some e
  refine ⟨F0, H0, F, Γ, x, En, hx, fun F1 H1 e1 => ?_⟩
  cases x with
  | true => exact ⟨F0, H0, F1, Γ, o, En.grow e1, e, q.mono e1.ff⟩
  | false => exact ⟨F0, H0, F1, Γ, o, En.grow e1, e, q.mono e1.ff⟩
/-- code that is not come to -/
def sNo : G → Option Out := fun _ => none
theorem s_no {st : Stmt} : SD X st sNo := fun _ _ _ _ _ _ ⟨_, _, _, _, _, _, e, _⟩ => by cases e
def sPass : G → Option Out := fun Γ => some (.nx Γ)
def sBrk : G → Option Out := fun Γ => some (.bk Γ)
def sCnt : G → Option Out := fun Γ => some (.ct Γ)
def sDrop (f : G → Option B) : G → Option Out := fun Γ => (f Γ).map fun _ => .nx Γ
/-- name = value -/
def sSet (i : Nat) (f : G → Option B) : G → Option Out := fun Γ => (f Γ).bind fun b => b.asD.map fun d => .nx (Γ.set i (.v d))
theorem sSet_go {i : Nat} {E : Ends} {σ : St} {H : Hp} : dS X.K (sSet i f) E σ H → tAsg (dE X.K f) (gName i) E σ H := fun ⟨F0, H0, F, Γ, o, En, e, q⟩ => by
  obtain ⟨b, hb, e⟩ := bind_some e
  obtain ⟨d, hd, rfl⟩ := map_some e
  have := asD_some hd; subst this
  exact ⟨F0, H0, F, Γ, _, En, hb, fun v F1 H1 e1 r1 => q _ F1 H1 ((En.grow e1).put r1) e1.ff⟩
theorem s_set {i : Nat} {x : Str} {p : Pos} (hN : X.N.Nodup) (hi : X.N[i]? = some x) (hx : Loc X.env.scope x) (he : EE X e f) (hs : swapsWith e (some (.Name x p)) pos.line X.env = pure false := by rfl) (hf : X.fn x = true ∨ X.env.scope.names.lookup x = some .local := by first | exact .inl rfl | exact .inr rfl | assumption) :
    SD X (.Assign [.Name x p] e pos) (sSet i f) := ps_weak (ps_set hN hi hx he hs hf) fun E σ H q => sSet_go q
/-- name = a new list -/
def sOwn (i : Nat) (f : G → Option (List D)) : G → Option Out := fun Γ => (f Γ).map fun ds => .nx (Γ.set i (.ol ds))
theorem sOwn_go {i : Nat} {fl : G → Option (List D)} {E : Ends} {σ : St} {H : Hp} : dS X.K (sOwn i fl) E σ H → tAsg (dL X.K fl) (gName i) E σ H := fun ⟨F0, H0, F, Γ, o, En, e, q⟩ => by
  obtain ⟨ds, hb, rfl⟩ := map_some e
  refine ⟨F0, H0, F, Γ, _, En, hb, fun a vs F1 H1 e1 hn hf hh r1 => q _ F1 H1 ((En.grow e1).putOwn ⟨a, vs, rfl, hh, r1, hf, En.ext.hh.free hn⟩ fun j s hj hs ho z => ?_) e1.ff⟩
  obtain ⟨o, h1, h2⟩ := En.val j s hs
  rw [z] at h1; cases h1
  cases s with
  | un => cases ho
  | v d => cases ho
  | ol ds => obtain ⟨a', vs, e', q1, _⟩ := h2; cases e'; rw [hn] at q1; cases q1
  | ot kvs => obtain ⟨a', vs, e', q1, _⟩ := h2; cases e'; rw [hn] at q1; cases q1
  | ok kvs => obtain ⟨a', vs, e', q1, _⟩ := h2; cases e'; rw [hn] at q1; cases q1
theorem s_own {i : Nat} {x : Str} {p : Pos} {fl : G → Option (List D)} (hN : X.N.Nodup) (hi : X.N[i]? = some x) (hx : Loc X.env.scope x) (he : EL X e fl) (hs : swapsWith e (some (.Name x p)) pos.line X.env = pure false := by rfl) (hf : X.fn x = true ∨ X.env.scope.names.lookup x = some .local := by first | exact .inl rfl | exact .inr rfl | assumption) :
    SD X (.Assign [.Name x p] e pos) (sOwn i fl) := ps_weak (ps_set hN hi hx he hs hf) fun E σ H q => sOwn_go q
/-! ### targets -/
/-- the slots beside is stay -/
def Beside (is : List Nat) (σ σ' : St) : Prop := σ.length = σ'.length ∧ ∀ j, j ∉ is → σ'[j]? = σ[j]?
def dGs (K : PySem.W.Frag) (is : List Nat) (f : D → G → Option G) : TG := fun v σ H Q => ∃ F0 H0 F Γ d g, EnvIs K F0 H0 F H σ Γ ∧ Is K F d v ∧ f d Γ = some g ∧ ∀ σ', EnvIs K F0 H0 F H σ' g → Beside is σ σ' → Q σ' H
def GN (X : Cx) (e : Expr) (is : List Nat) (f : D → G → Option G) : Prop := PG X e (dGs X.K is f)
def gSet (i : Nat) : D → G → Option G := fun d Γ => some (Γ.set i (.v d))
theorem g_name {i : Nat} {x : Str} (hN : X.N.Nodup) (hi : X.N[i]? = some x) (hx : Loc X.env.scope x) (hf : X.fn x = true ∨ X.env.scope.names.lookup x = some .local := by first | exact .inl rfl | exact .inr rfl | assumption) : GN X (.Name x pos) [i] (gSet i) :=
  pg_weak (pg_name hN hi hx hf) fun v σ H Q ⟨F0, H0, F, Γ, d, g, En, r, e, q⟩ => by
    cases e
    exact q _ (En.put r) ⟨by simp, fun j hj => List.getElem?_set_ne (fun z => hj (by simp [z]))⟩
def dGl (K : PySem.W.Frag) (is : List Nat) (f : List D → G → Option G) : TGs := fun vs σ H Q => ∃ F0 H0 F Γ ds g, EnvIs K F0 H0 F H σ Γ ∧ Are K F ds vs ∧ f ds Γ = some g ∧ ∀ σ', EnvIs K F0 H0 F H σ' g → Beside is σ σ' → Q σ' H
def GL (X : Cx) (es : List Expr) (is : List Nat) (f : List D → G → Option G) : Prop := PGs X es (dGl X.K is f)
def glNil : List D → G → Option G := fun ds Γ => match ds with
  | [] => some Γ
  | _ => none
def glCons (f : D → G → Option G) (g : List D → G → Option G) : List D → G → Option G := fun ds Γ => match ds with
  | d :: r => (f d Γ).bind fun Γ' => g r Γ'
  | [] => none
theorem gl_nil : GL X [] [] glNil := fun pins s σ H vs us Q I r ⟨F0, H0, F, Γ, ds, g, En, ra, e, q⟩ => pgs_nil pins s σ H vs us Q I r (by
  cases ds with
  | nil => cases e; exact ⟨ra.inv0, q _ En ⟨rfl, fun _ _ => rfl⟩⟩
  | cons d r => cases e)
theorem gl_cons {is js : List Nat} {t : D → G → Option G} {u : List D → G → Option G} (h1 : GN X e is t) (h2 : GL X es js u) (hs : (assignEach (e :: es) X.env).map (·.2) = assign e X.env :: (assignEach es X.env).map (·.2) := by rfl) : GL X (e :: es) (is ++ js) (glCons t u) :=
  fun pins s σ H vs us Q I r ⟨F0, H0, F, Γ, ds, g, En, ra, e, q⟩ => pgs_cons h1 h2 hs pins s σ H vs us Q I r (by
    cases ds with
    | nil => cases e
    | cons d rd =>
      obtain ⟨g1, hg1, e⟩ := bind_some e
      obtain ⟨v, rv, rfl, r1, r2⟩ := ra.inv
      refine ⟨v, rv, rfl, F0, H0, F, Γ, d, g1, En, r1, hg1, fun σ1 E1 b1 => ⟨F0, H0, F, g1, rd, g, E1, r2, e, fun σ2 E2 b2 => q σ2 E2 ⟨b1.1.trans b2.1, fun j hj => ?_⟩⟩⟩
      rw [b2.2 j fun z => hj (List.mem_append_right _ z), b1.2 j fun z => hj (List.mem_append_left _ z)])
def gTupD (n : Nat) (u : List D → G → Option G) : D → G → Option G := fun d Γ => match d with
  | .tup ds => if ds.length = n then u ds Γ else none
  | _ => none
theorem g_tup {is : List Nat} {k n : Nat} {u : List D → G → Option G} (hc : X.calm = true) (h : GL X es is u) (hn : (assignEach es X.env).length = n := by rfl) (hst : (assignEach es X.env).findIdx? (·.1) = none := by rfl) : GN X (.Tuple es k pos) is (gTupD n u) :=
  pg_weak (pg_tup hc h hn hst) fun v σ H Q ⟨F0, H0, F, Γ, d, g, En, r, e, q⟩ => by
    cases d with
    | tup ds =>
      have r' := r
      simp only [Is] at r'
      obtain ⟨a, vs, rfl, hf, ra⟩ := r'
      unfold gTupD at e
      by_cases hl : ds.length = n
      · simp only [hl, if_true] at e
        exact ⟨a, vs, rfl, SqT.of (En.fh _ _ hf), by rw [ra.length]; exact hl, F0, H0, F, Γ, ds, g, En, ra, e, q⟩
      · simp only [hl, if_false] at e; cases e
    | _ => cases e
/-- target = value -/
def sAsg (t : D → G → Option G) (f : G → Option B) : G → Option Out := fun Γ => (f Γ).bind fun b => b.asD.bind fun d => (t d Γ).map .nx
/-! ### a thing of one's own is given away: from here on it is a value -/
def frzG (i : Nat) (Γ : G) : G := match Γ[i]? with
  | some (.ol ds) => Γ.set i (.v (.lst ds))
  | some (.ok kvs) => Γ.set i (.v (.dK (kvs.map Prod.fst) (kvs.map Prod.snd)))
  | some (.ot kvs) => Γ.set i (.v (.dT (kvs.map Prod.fst) (kvs.map Prod.snd)))
  | _ => Γ
theorem EnvIs.frzA {K : PySem.W.Frag} {F0 H0 F H : Hp} {σ : St} {Γ : G} {i : Nat} {a : Addr} {ho : HO} {s : S} {d : D} (E : EnvIs K F0 H0 F H σ Γ) (hi : Γ[i]? = some s) (own : s.own = true) (h1 : σ[i]? = some (some (.ref a))) (h2 : H a = some ho) (h4 : F a = none) (h5 : H0 a = none) (hd : Is K (upd F a ho) d (.ref a)) :
    EnvIs K F0 H0 (upd F a ho) H σ (Γ.set i (.v d)) := by
  have hlt : i < Γ.length := (List.getElem?_eq_some_iff.mp hi).1
  have ex : Ext F0 H0 (upd F a ho) H := E.ext.freeze h5 h4 h2
  have sm : Same F (upd F a ho) := same_upd h4 _
  refine ⟨ex, by simpa using E.len, fun j s' e => ?_, fun j k s' t b hjk e1 e2 o1 o2 r1 r2 => ?_⟩
  · by_cases hj : j = i
    · subst hj
      rw [List.getElem?_set_self hlt] at e
      cases e
      exact ⟨_, h1, .ref a, rfl, hd⟩
    · rw [List.getElem?_set_ne (Ne.symm hj)] at e
      obtain ⟨o, q1, q2⟩ := E.val j s' e
      refine ⟨o, q1, ?_⟩
      have ne : ∀ b, s'.own = true → σ[j]? = some (some (.ref b)) → b ≠ a := fun b so sb z => by
        subst z
        exact E.sep j i s' _ b hj e hi so own sb h1
      cases s' with
      | un => trivial
      | v d => obtain ⟨v, e1, q⟩ := q2; exact ⟨v, e1, q.mono sm⟩
      | ol ds' => obtain ⟨b, vs', rfl, p1, p2, p3, p4⟩ := q2; exact ⟨b, vs', rfl, p1, p2.mono sm, by rw [upd_ne (ne b rfl q1)]; exact p3, p4⟩
      | ot ds' => obtain ⟨b, vs', rfl, p1, p2, p3, p4⟩ := q2; exact ⟨b, vs', rfl, p1, p2.mono sm, by rw [upd_ne (ne b rfl q1)]; exact p3, p4⟩
      | ok ds' => obtain ⟨b, vs', rfl, p1, p2, p3, p4⟩ := q2; exact ⟨b, vs', rfl, p1, p2.mono sm, by rw [upd_ne (ne b rfl q1)]; exact p3, p4⟩
  · have no : ∀ (k : Nat) (t : S), (Γ.set i (.v d))[k]? = some t → t.own = true → Γ[k]? = some t := fun k t e o => by
      by_cases z : k = i
      · subst z
        rw [List.getElem?_set_self hlt] at e
        cases e; cases o
      · rw [List.getElem?_set_ne (Ne.symm z)] at e; exact e
    exact E.sep j k s' t b hjk (no j s' e1 o1) (no k t e2 o2) o1 o2 r1 r2
theorem PAre.keys {κ : Type} {K : PySem.W.Frag} {F : Hp} : ∀ {ps : List (κ × D)} {qs : List (κ × V)}, PAre K F ps qs → qs.map Prod.fst = ps.map Prod.fst ∧ Are K F (ps.map Prod.snd) (qs.map Prod.snd)
  | _, _, .nil => ⟨rfl, .nil⟩
  | _, _, .cons ⟨a, b⟩ r => by
    obtain ⟨h1, h2⟩ := PAre.keys r
    exact ⟨by rw [List.map_cons, List.map_cons, h1, a], .cons b h2⟩
theorem EnvIs.frz {K : PySem.W.Frag} {F0 H0 F H : Hp} {σ : St} {Γ : G} {i : Nat} (E : EnvIs K F0 H0 F H σ Γ) : ∃ F', EnvIs K F0 H0 F' H σ (frzG i Γ) ∧ Same F F' := by
  unfold frzG
  split
  · rename_i ds hi
    obtain ⟨o, h1, a, vs, rfl, h2, h3, h4, h5⟩ := E.val i _ hi
    exact ⟨_, E.frzA hi rfl h1 h2 h4 h5 (by simp only [Is]; exact ⟨a, vs, rfl, upd_same, h3.mono (same_upd h4 _)⟩), same_upd h4 _⟩
  · rename_i ds hi
    obtain ⟨o, h1, a, vs, rfl, h2, h3, h4, h5⟩ := E.val i _ hi
    obtain ⟨k1, k2⟩ := PAre.keys (h3.mono (same_upd h4 (.dK vs)))
    exact ⟨_, E.frzA hi rfl h1 h2 h4 h5 (by simp only [Is]; exact ⟨a, vs, rfl, upd_same, k1, k2⟩), same_upd h4 _⟩
  · rename_i ds hi
    obtain ⟨o, h1, a, vs, rfl, h2, h3, h4, h5⟩ := E.val i _ hi
    obtain ⟨k1, k2⟩ := PAre.keys (h3.mono (same_upd h4 (.dT vs)))
    exact ⟨_, E.frzA hi rfl h1 h2 h4 h5 (by simp only [Is]; exact ⟨a, vs, rfl, upd_same, k1, k2⟩), same_upd h4 _⟩
  · exact ⟨F, E, Same.refl _⟩
def sFrz (i : Nat) (f : G → Option Out) : G → Option Out := fun Γ => f (frzG i Γ)
theorem ss_frz {i : Nat} {st : List Stmt} {f : G → Option Out} (h : SDs X st f) : SDs X st (sFrz i f) := pss_weak h fun E σ H ⟨F0, H0, F, Γ, o, En, e, q⟩ => by
  obtain ⟨F', En', z⟩ := En.frz (i := i)
  exact ⟨F0, H0, F', _, o, En', e, q.mono z⟩
end
end DD

namespace DD
open PySem PySem.Spec L2
open PyProof.Rows hiding St
section
variable {X : Cx} {a b c e tg iter elt : Expr} {f g h : G → Option B} {pos : Pos} {es : List Expr} {fs : G → Option (List B)} {tf : G → Option Bool}

/-! ### what is walked -/
/-- the walk J gives the items ds, whatever is laid or changed meanwhile beside what is fixed -/
def Iter (K : PySem.W.Frag) (J : It) (F : Hp) (ds : List D) : Prop := ∀ (i : Nat) F2 H2, Same F F2 → Same F2 H2 →
  (∀ d, ds[i]? = some d → J.go i H2 ∧ ∀ x H', J.yld i H2 x H' → ∃ F3, Ext F2 H2 F3 H' ∧ Is K F3 d x) ∧ (ds.length ≤ i → J.stop i H2)
/-- .. whatever is laid meanwhile -/
def IterC (K : PySem.W.Frag) (J : It) (F H : Hp) (ds : List D) : Prop := ∀ (i : Nat) F2 H2, Ext F H F2 H2 →
  (∀ d, ds[i]? = some d → J.go i H2 ∧ ∀ x H', J.yld i H2 x H' → ∃ F3, Ext F2 H2 F3 H' ∧ Is K F3 d x) ∧ (ds.length ≤ i → J.stop i H2)
def dI (K : PySem.W.Frag) (f : G → Option (List D)) : TI := fun σ H R => ∃ F0 H0 F Γ ds, EnvIs K F0 H0 F H σ Γ ∧ f Γ = some ds ∧ ∀ J F' H', Ext F H F' H' → Iter K J F' ds → R J H'
def dIc (K : PySem.W.Frag) (f : G → Option (List D)) : TI := fun σ H R => ∃ F0 H0 F Γ ds, EnvIs K F0 H0 F H σ Γ ∧ f Γ = some ds ∧ ∀ J F' H', Ext F H F' H' → IterC K J F' H' ds → R J H'
def EI (X : Cx) (tg iter : Expr) (f : G → Option (List D)) : Prop := PI X tg iter (dI X.K f)
def EC (X : Cx) (tg iter : Expr) (f : G → Option (List D)) : Prop := PI X tg iter (dIc X.K f)
theorem pi_weak {t t' : TI} (h : PI X tg iter t) (w : ∀ σ H R, t' σ H R → t σ H R) : PI X tg iter t' := fun pins s σ H R I q => h pins s σ H R I (w σ H R q)
theorem c_of {fl : G → Option (List D)} (h : EI X tg iter fl) : EC X tg iter fl := pi_weak h fun σ H R ⟨F0, H0, F, Γ, ds, En, e, q⟩ =>
  ⟨F0, H0, F, Γ, ds, En, e, fun J F1 H1 e1 it => q J F1 H1 e1 fun i F2 H2 e2 => it i F2 H2 e2.ff e2.fh⟩
theorem iter_l {K : PySem.W.Frag} {F : Hp} {a : Addr} {vs : List V} {ds : List D} (h : ∀ H2, Same F H2 → SqL K H2 a vs) (inj : True) (r : Are K F ds vs) : ∀ (i : Nat) F2 H2, Same F F2 → Same F2 H2 →
    (∀ d, ds[i]? = some d → (Itl K a).go i H2 ∧ ∀ x H', (Itl K a).yld i H2 x H' → ∃ F3, Ext F2 H2 F3 H' ∧ Is K F3 d x) ∧ (ds.length ≤ i → (Itl K a).stop i H2) := fun i F2 H2 s1 s2 => by
  have hq := h H2 (s1.trans s2)
  refine ⟨fun d hd => ?_, fun hl => ⟨vs, hq, by rw [r.length]; exact hl⟩⟩
  obtain ⟨v, hv, hi⟩ := r.get hd
  refine ⟨⟨vs, v, hq, hv⟩, fun x H' y => ?_⟩
  obtain ⟨rfl, y⟩ := y
  have := y vs hq
  rw [hv] at this; cases this
  exact ⟨F2, .refl s2, hi.mono s1⟩
theorem iter_t {K : PySem.W.Frag} {F : Hp} {a : Addr} {vs : List V} {ds : List D} (h : ∀ H2, Same F H2 → SqT K H2 a vs) (r : Are K F ds vs) : ∀ (i : Nat) F2 H2, Same F F2 → Same F2 H2 →
    (∀ d, ds[i]? = some d → (Itt K a).go i H2 ∧ ∀ x H', (Itt K a).yld i H2 x H' → ∃ F3, Ext F2 H2 F3 H' ∧ Is K F3 d x) ∧ (ds.length ≤ i → (Itt K a).stop i H2) := fun i F2 H2 s1 s2 => by
  have hq := h H2 (s1.trans s2)
  refine ⟨fun d hd => ?_, fun hl => ⟨vs, hq, by rw [r.length]; exact hl⟩⟩
  obtain ⟨v, hv, hi⟩ := r.get hd
  refine ⟨⟨vs, v, hq, hv⟩, fun x H' y => ?_⟩
  obtain ⟨rfl, y⟩ := y
  have := y vs hq
  rw [hv] at this; cases this
  exact ⟨F2, .refl s2, hi.mono s1⟩
/-- a fixed list or tuple -/
def B.fix : B → Option (List D)
  | .d (.tup ds) => some ds
  | .d (.lst ds) => some ds
  | .d (.scr ns) => some (ns.map D.int)
  | _ => none
def xFix (f : G → Option B) : G → Option (List D) := fun Γ => (f Γ).bind B.fix
theorem i_seq (ha : EE X iter f) : EI X tg iter (xFix f) := pi_weak (pi_seq ha) fun σ H R ⟨F0, H0, F, Γ, ds, En, e, q⟩ => by
  obtain ⟨b, hb, e⟩ := bind_some e
  refine ⟨F0, H0, F, Γ, b, En, hb, fun v F1 H1 e1 r1 => ?_⟩
  cases b with
  | d d =>
    have r' : Is X.K F1 d v := r1
    cases d with
    | tup xs =>
      cases e
      simp only [Is] at r'
      obtain ⟨a, vs, rfl, hf, r⟩ := r'
      exact ⟨a, rfl, .inr ⟨⟨vs, SqT.of (e1.fh _ _ hf)⟩, q _ F1 H1 e1 (iter_t (fun H2 s => SqT.of (s _ _ hf)) r)⟩⟩
    | lst xs =>
      cases e
      simp only [Is] at r'
      obtain ⟨a, vs, rfl, hf, r⟩ := r'
      exact ⟨a, rfl, .inl ⟨⟨vs, SqL.of (e1.fh _ _ hf)⟩, q _ F1 H1 e1 (iter_l (fun H2 s => SqL.of (s _ _ hf)) trivial r)⟩⟩
    | scr ns =>
      cases e
      simp only [Is] at r'
      obtain ⟨a, rfl, hf⟩ := r'
      exact ⟨a, rfl, .inl ⟨⟨_, e1.fh.seq hf⟩, q _ F1 H1 e1 (iter_l (fun H2 s => s.seq hf) trivial (are_ints ns))⟩⟩
    | _ => cases e
  | _ => cases e
/-- any list or tuple, for a comprehension -/
def xSeq (f : G → Option B) : G → Option (List D) := fun Γ => (f Γ).bind B.seq
theorem c_seq (ha : EE X iter f) : EC X tg iter (xSeq f) := pi_weak (pi_seq ha) fun σ H R ⟨F0, H0, F, Γ, ds, En, e, q⟩ => by
  obtain ⟨b, hb, e⟩ := bind_some e
  refine ⟨F0, H0, F, Γ, b, En, hb, fun v F1 H1 e1 r1 => ?_⟩
  obtain ⟨a, vs, rfl, hs, r⟩ := seq_is e1.fh e r1
  refine ⟨a, rfl, ?_⟩
  rcases hs with hs | hs
  · refine .inl ⟨⟨vs, hs⟩, q _ F1 H1 e1 fun i F2 H2 e2 => ?_⟩
    have hq := e2.hh.seq hs
    refine ⟨fun d hd => ?_, fun hl => ⟨vs, hq, by rw [r.length]; exact hl⟩⟩
    obtain ⟨v, hv, hi⟩ := r.get hd
    refine ⟨⟨vs, v, hq, hv⟩, fun x H' y => ?_⟩
    obtain ⟨rfl, y⟩ := y
    have := y vs hq
    rw [hv] at this; cases this
    exact ⟨F2, .refl e2.fh, hi.mono e2.ff⟩
  · refine .inr ⟨⟨vs, hs⟩, q _ F1 H1 e1 fun i F2 H2 e2 => ?_⟩
    have hq := sqT_mono e2.hh hs
    refine ⟨fun d hd => ?_, fun hl => ⟨vs, hq, by rw [r.length]; exact hl⟩⟩
    obtain ⟨v, hv, hi⟩ := r.get hd
    refine ⟨⟨vs, v, hq, hv⟩, fun x H' y => ?_⟩
    obtain ⟨rfl, y⟩ := y
    have := y vs hq
    rw [hv] at this; cases this
    exact ⟨F2, .refl e2.fh, hi.mono e2.ff⟩
/-- range(n) -/
def rangeD (lo : Int) (n : Nat) : List D := (List.range n).map fun (k : Nat) => D.int (lo + (k : Int))
theorem iter_r {K : PySem.W.Frag} {F : Hp} (lo : Int) (n : Nat) : Iter K (Itr lo n) F (rangeD lo n) := fun i F2 H2 s1 s2 => by
  refine ⟨fun d hd => ?_, fun hl => by
    have hl' := hl
    simp only [rangeD, List.length_map, List.length_range] at hl'
    exact hl'⟩
  have hlt : i < n := by
    have := (List.getElem?_eq_some_iff.mp hd).1
    simpa [rangeD] using this
  refine ⟨hlt, fun x H' y => ?_⟩
  obtain ⟨rfl, rfl⟩ := y
  refine ⟨F2, .refl s2, ?_⟩
  have : d = .int (lo + i) := by
    simp [rangeD, List.getElem?_map, List.getElem?_range hlt] at hd
    exact hd.symm
  subst this
  exact is_int
def xR1 (fs : G → Option (List B)) : G → Option (List D) := fun Γ => (fs Γ).bind fun bs => match bs with
  | [b] => b.int.bind fun j => if -(2 ^ 62) ≤ j ∧ j < 2 ^ 62 then some (rangeD 0 j.toNat) else none
  | _ => none
theorem i_range1 {p : Pos} (hg : Gl X "range") (hm : X.mg "range" = none) (ha : EA X [a] fs) (hs : starEach [a] X.env = [(false, eval a X.env)] := by rfl) : EI X tg (.Call (.Name "range" p) [a] [] pos) (xR1 fs) :=
  pi_weak (pi_range1 hg hm ha hs) fun σ H R ⟨F0, H0, F, Γ, ds, En, e, q⟩ => by
    obtain ⟨bs, hb, e⟩ := bind_some e
    refine ⟨F0, H0, F, Γ, bs, En, hb, fun vs F1 H1 e1 r1 => ?_⟩
    match bs, e, r1 with
    | [b], e, r1 =>
      obtain ⟨v, rfl, hv⟩ := bare1 r1
      obtain ⟨j, hj, e⟩ := bind_some e
      have := int_is hj hv
      subst this
      by_cases hz : -(2 ^ 62) ≤ j ∧ j < 2 ^ 62
      · rw [if_pos hz] at e; cases e
        exact ⟨j, rfl, hz.1, hz.2, q _ F1 H1 e1 (iter_r 0 _)⟩
      · rw [if_neg hz] at e; cases e

/-! ### for -/
def forL (t : D → G → Option G) (fb : G → Option Out) : List D → G → Option Out
  | [], Γ => some (.nx Γ)
  | d :: r, Γ => (t d Γ).bind fun Γ1 => (fb Γ1).bind fun o => match o with
    | .nx Γ2 => forL t fb r Γ2
    | .ct Γ2 => forL t fb r Γ2
    | .bk Γ2 => some (.nx Γ2)
    | .rt d => some (.rt d)
def sFor (it : G → Option (List D)) (t : D → G → Option G) (fb : G → Option Out) : G → Option Out := fun Γ => (it Γ).bind fun ds => forL t fb ds Γ
theorem s_for {is : List Nat} {it : G → Option (List D)} {t : D → G → Option G} {fb : G → Option Out} {body : List Stmt} (hp : PassesOwn (model X.prog X.w) X.A X.env X.xe) (hc : X.calm = true) (hi : EI X tg iter it) (hg : GN X tg is t) (hb : SDs X body fb)
    (hs : ∀ x, foldedSetIterable iter X.env x = pure x := by intro _; rfl) : SD X (.For tg iter body [] pos) (sFor it t fb) := ps_weak (ps_for hp hc hi hg hb hs) fun E σ H ⟨F0, H0, F, Γ, o, En, e, q⟩ => by
  obtain ⟨ds, hd, e⟩ := bind_some e
  refine ⟨F0, H0, F, Γ, ds, En, hd, fun J F1 H1 e1 itr => ?_⟩
  refine ⟨fun i m σ H => m = ds.length - i ∧ i ≤ ds.length ∧ ∃ F2 Γ2, EnvIs X.K F0 H0 F2 H σ Γ2 ∧ Same F1 F2 ∧ forL t fb (ds.drop i) Γ2 = some o, ⟨ds.length, by simp, Nat.zero_le _, F1, Γ, En.grow e1, Same.refl _, by simpa using e⟩, ?_⟩
  rintro i m σ2 H2 ⟨rfl, hi, F2, Γ2, E2, s2, e2⟩
  obtain ⟨go, stop⟩ := itr i F2 H2 s2 E2.fh
  by_cases hlt : i < ds.length
  · obtain ⟨g1, g2⟩ := go ds[i] (by simp [hlt])
    rw [List.drop_eq_getElem_cons hlt] at e2
    obtain ⟨Γ3, h3, e2⟩ := bind_some e2
    obtain ⟨o1, h4, e2⟩ := bind_some e2
    refine .inr ⟨g1, fun σ' H' => ∃ F3 Γ3, EnvIs X.K F0 H0 F3 H' σ' Γ3 ∧ Same F1 F3 ∧ forL t fb (ds.drop (i + 1)) Γ3 = some o, fun σ' H' ⟨F3, Γ3, p1, p2, p3⟩ => ⟨ds.length - (i + 1), by omega, rfl, hlt, F3, Γ3, p1, p2, p3⟩, fun x H' y => ?_⟩
    obtain ⟨F3, ex, hx⟩ := g2 x H' y
    refine ⟨F0, H0, F3, Γ2, ds[i], Γ3, E2.grow ex, hx, h3, fun σ3 E3 _ => ⟨F0, H0, F3, Γ3, o1, E3, h4, ?_⟩⟩
    have s3 := s2.trans ex.ff
    cases o1 with
    | nx g => exact fun σ4 F4 H4 E4 z => ⟨F4, g, E4, s3.trans z, e2⟩
    | ct g => exact fun σ4 F4 H4 E4 z => ⟨F4, g, E4, s3.trans z, e2⟩
    | bk g => cases e2; exact fun σ4 F4 H4 E4 z => q σ4 F4 H4 E4 ((e1.ff.trans s3).trans z)
    | rt d => cases e2; exact q
  · have : i = ds.length := by omega
    subst this
    rw [List.drop_length] at e2
    cases e2
    exact .inl ⟨stop (Nat.le_refl _), q σ2 F2 H2 E2 (e1.ff.trans s2)⟩
/-! ### while -/
def whileL (t : G → Option Bool) (fb : G → Option Out) : Nat → G → Option Out
  | 0, _ => none
  | n + 1, Γ => (t Γ).bind fun x => if x = true then (fb Γ).bind fun o => match o with
    | .nx Γ2 => whileL t fb n Γ2
    | .ct Γ2 => whileL t fb n Γ2
    | .bk Γ2 => some (.nx Γ2)
    | .rt d => some (.rt d) else some (.nx Γ)
/-! ### comprehensions -/
def EF (X : Cx) (ifs : List Expr) (f : G → Option Bool) : Prop := PF X ifs (dT X.K f)
def xTrue : G → Option Bool := fun _ => some true
theorem f_nil : EF X [] xTrue := fun pins s σ H Q I ⟨F0, H0, F, Γ, b, En, e, q⟩ => pf_nil pins s σ H Q I (by cases e; exact q F H (.refl En.fh))
theorem f_one (h : ET X c tf) : EF X [c] tf := pf_one h
def blkG (ms : List (Option Nat)) (Γ : G) : G := ms.map fun m => match m with
  | none => S.un
  | some j => (Γ[j]?).getD S.un
theorem blkG_get {ms : List (Option Nat)} {Γ : G} {i : Nat} {s : S} (h : (blkG ms Γ)[i]? = some s) : s = S.un ∨ ∃ j, ms[i]? = some (some j) ∧ Γ[j]? = some s := by
  unfold blkG at h
  rw [List.getElem?_map] at h
  cases e : ms[i]? with
  | none => rw [e] at h; cases h
  | some m =>
    rw [e] at h
    cases m with
    | none => cases h; exact .inl rfl
    | some j =>
      simp only [Option.map_some, Option.some.injEq] at h
      cases q : Γ[j]? with
      | none => rw [q] at h; exact .inl h.symm
      | some z => rw [q] at h; simp at h; subst h; exact .inr ⟨j, rfl, q⟩
theorem EnvIs.blk {K : PySem.W.Frag} {F0 H0 F H : Hp} {σ : St} {Γ : G} {ms : List (Option Nat)} (E : EnvIs K F0 H0 F H σ Γ) (nd : ∀ (i k j : Nat), ms[i]? = some (some j) → ms[k]? = some (some j) → i = k) : EnvIs K F0 H0 F H (L2.blk ms σ) (blkG ms Γ) := by
  have get : ∀ (i j : Nat), ms[i]? = some (some j) → (L2.blk ms σ)[i]? = some ((σ[j]?).join) := fun i j e => by
    unfold L2.blk
    rw [List.getElem?_map, e]
    rfl
  refine ⟨E.ext, by simp [L2.blk, blkG], fun i s e => ?_, fun i k s t a hik e1 e2 o1 o2 r1 r2 => ?_⟩
  · have hlt : i < ms.length := by
      have := (List.getElem?_eq_some_iff.mp e).1
      simpa [blkG] using this
    rcases blkG_get e with rfl | ⟨j, h1, h2⟩
    · refine ⟨((L2.blk ms σ)[i]?).join, ?_, trivial⟩
      have : i < (L2.blk ms σ).length := by simpa [L2.blk] using hlt
      rw [List.getElem?_eq_getElem this]; rfl
    · obtain ⟨o, h3, h4⟩ := E.val j s h2
      refine ⟨o, ?_, h4⟩
      rw [get i j h1, h3]; rfl
  · rcases blkG_get e1 with rfl | ⟨j, h1, h2⟩
    · cases o1
    · rcases blkG_get e2 with rfl | ⟨j', h1', h2'⟩
      · cases o2
      · have hjj : j ≠ j' := fun z => hik (nd i k j h1 (z ▸ h1'))
        have q1 : σ[j]? = some (some (.ref a)) := by
          rw [get i j h1] at r1
          cases z : σ[j]? with
          | none => rw [z] at r1; cases r1
          | some u => rw [z] at r1; simp at r1; rw [r1]
        have q2 : σ[j']? = some (some (.ref a)) := by
          rw [get k j' h1'] at r2
          cases z : σ[j']? with
          | none => rw [z] at r2; cases r2
          | some u => rw [z] at r2; simp at r2; rw [r2]
        exact E.sep j j' s t a hjj h2 h2' o1 o2 q1 q2
def compL (t : D → G → Option G) (cond : G → Option Bool) (el : G → Option B) (Γ : G) : List D → Option (List D)
  | [] => some []
  | d :: r => (t d Γ).bind fun Γ1 => (cond Γ1).bind fun b => if b = true then (el Γ1).bind fun y => y.asD.bind fun z => (compL t cond el Γ r).map fun zs => z :: zs else compL t cond el Γ r
def xComp (src : G → Option (List D)) (ms : List (Option Nat)) (t : D → G → Option G) (cond : G → Option Bool) (el : G → Option B) : G → Option (List D) := fun Γ => (src Γ).bind fun ds => if ds.length ≤ sizeLine then compL t cond el (blkG ms Γ) ds else none
/-- a comprehension's parts in its block -/
structure Blk (X : Cx) (scope : Scope) (N : List Str) (tg : Expr) (ifs : List Expr) (elt : Expr) (is : List Nat) (t : D → G → Option G) (cond : G → Option Bool) (el : G → Option B) : Prop where
  go : ∀ cl C s H ex, GN (compCx X scope cl C N s H ex) tg is t ∧ EF (compCx X scope cl C N s H ex) ifs cond ∧ EE (compCx X scope cl C N s H ex) elt el
theorem comp_go {src : G → Option (List D)} {ms : List (Option Nat)} {is : List Nat} {t : D → G → Option G} {cond : G → Option Bool} {el : G → Option B} {K : PySem.W.Frag} {σ : St} {H : Hp} {Q : VK}
    (nd : ∀ (i k j : Nat), ms[i]? = some (some j) → ms[k]? = some (some j) → i = k) (fr : ∀ j ∈ is, ∀ k, ms[j]? ≠ some (some k)) : dL K (xComp src ms t cond el) σ H Q → tComp (dIc K src) (dGs K is t) (dT K cond) (dE K el) ms σ H Q := fun ⟨F0, H0, F, Γ, ys, En, e, q⟩ => by
  obtain ⟨ds, hd, e⟩ := bind_some e
  by_cases hz : ds.length ≤ sizeLine
  · rw [if_pos hz] at e
    refine ⟨F0, H0, F, Γ, ds, En, hd, fun J F1 H1 e1 itr => ?_⟩
    refine ⟨fun i m vs H2 => m = ds.length - i ∧ i ≤ ds.length ∧ vs.length ≤ i ∧ ∃ F2 dn rest, Ext F1 H1 F2 H2 ∧ Are K F2 dn vs ∧ compL t cond el (blkG ms Γ) (ds.drop i) = some rest ∧ ys = dn ++ rest, ⟨ds.length, by simp, Nat.zero_le _, Nat.le_refl _, F1, [], ys, .refl e1.fh, .nil, by simpa using e, rfl⟩, ?_⟩
    rintro i m vs H2 ⟨rfl, hi, hvi, F2, dn, rest, e2, r2, h2, rfl⟩
    obtain ⟨go, stop⟩ := itr i F2 H2 e2
    refine ⟨Nat.le_trans hvi (Nat.le_trans hi hz), ?_⟩
    by_cases hlt : i < ds.length
    · obtain ⟨g1, g2⟩ := go ds[i] (by simp [hlt])
      rw [List.drop_eq_getElem_cons hlt] at h2
      obtain ⟨Γ3, h3, h2⟩ := bind_some h2
      obtain ⟨b, h4, h2⟩ := bind_some h2
      refine .inr ⟨g1, fun x H' y => ?_⟩
      obtain ⟨F3, ex, hx⟩ := g2 x H' y
      have E3 : EnvIs K F0 H0 F3 H' (L2.blk ms σ) (blkG ms Γ) := (((En.grow e1).grow e2).grow ex).blk nd
      refine ⟨F0, H0, F3, blkG ms Γ, ds[i], Γ3, E3, hx, h3, fun σ4 E4 bs => ⟨⟨bs.1, fun j v hj => ?_⟩, F0, H0, F3, Γ3, b, E4, h4, fun F5 H5 e5 => ?_⟩⟩
      · rw [bs.2 j fun hm => ?_]
        · exact hj
        · obtain ⟨k, hk, _⟩ := blk_get hj
          exact fr j hm k hk
      · have ex5 := (e2.trans ex).trans e5
        cases b with
        | false => exact ⟨ds.length - (i + 1), by omega, rfl, hlt, by omega, F5, dn, rest, ex5, r2.mono (ex.ff.trans e5.ff), h2, rfl⟩
        | true =>
          obtain ⟨yb, h6, h2⟩ := bind_some h2
          obtain ⟨z, h7, h2⟩ := bind_some h2
          obtain ⟨zs, h8, rfl⟩ := map_some h2
          have := asD_some h7; subst this
          refine ⟨F0, H0, F5, Γ3, _, E4.grow e5, h6, fun v F6 H6 e6 r6 => ⟨by omega, ds.length - (i + 1), by omega, rfl, hlt, by rw [List.length_append, List.length_singleton]; omega, F6, dn ++ [z], zs, ex5.trans e6, ?_, h8, by rw [List.append_assoc]; rfl⟩⟩
          exact (r2.mono ((ex.ff.trans e5.ff).trans e6.ff)).append (.cons r6 .nil)
    · have : i = ds.length := by omega
      subst this
      rw [List.drop_length] at h2
      cases h2
      refine .inl ⟨stop (Nat.le_refl _), fun p hp => q p vs F2 _ ((e1.trans e2).trans (.own e2.fh hp _)) ((e1.hh.trans e2.hh).free hp) (e2.fh.free hp) upd_same ?_⟩
      rw [List.append_nil]; exact r2
  · rw [if_neg hz] at e; cases e
theorem l_comp {ifs : List Expr} {scope : Scope} {N : List Str} {src : G → Option (List D)} {ms : List (Option Nat)} {is : List Nat} {t : D → G → Option G} {cond : G → Option Bool} {el : G → Option B}
    (hc : X.calm = true) (ok : CompOk X.env.scope X.N scope N ms) (hi : EC X tg iter src) (hb : Blk X scope N tg ifs elt is t cond el) (nd : ∀ (i k j : Nat), ms[i]? = some (some j) → ms[k]? = some (some j) → i = k) (fr : ∀ j ∈ is, ∀ k, ms[j]? ≠ some (some k))
    (hs : ∀ x, foldedSetIterable iter X.env x = pure x := by intro _; rfl) : EL X (.ListComp elt [⟨tg, iter, ifs, 0⟩] scope pos) (xComp src ms t cond el) := pe_weak (pe_comp (g := dGs X.K is t) (tf := dT X.K cond) (te := dE X.K el) hc ok hi hb.go hs) fun σ H Q q => comp_go nd fr q
end
end DD

namespace DD
open PySem PySem.Spec L2
open PyProof.Rows hiding St
open PySem.SeqAt (shaped compareEq_shaped compareNe_shaped canLay_of_shaped room_of_shaped eqAt_reads)
section
variable {X : Cx} {pins : List (Addr × Obj)} {σ : St} {F H : Hp} {s : Shared}
/-! ### == at any depth, by the library's data -/
/-- a text that no program holds: dicts are not compared -/
def badS : Str := ⟨#[2000000]⟩
theorem badS_no : PyData.strOk badS = false := by decide +kernel
mutual
def toP : D → PyData
  | .non => .none
  | .bl b => .bool b
  | .int i => .int i
  | .str x => .str x
  | .scr ns => .list (ns.map PyData.int)
  | .tup xs => .tuple (toPs xs)
  | .lst xs => .list (toPs xs)
  | .dK _ _ => .str badS
  | .dT _ _ => .str badS
def toPs : List D → List PyData
  | [] => []
  | x :: xs => toP x :: toPs xs
end
theorem toPs_map : ∀ xs : List D, toPs xs = xs.map toP
  | [] => rfl
  | x :: xs => by rw [toPs, toPs_map xs, List.map_cons]
theorem reads_ints {h : Heap} : ∀ {ns : List Int} {us : List Value}, Vals (ns.map V.int) us → ∃ as, ReadsAll h us (ns.map PyData.int) as
  | [], _, .nil => ⟨_, .nil⟩
  | n :: r, _, .cons ⟨t, e⟩ q => by
    subst e
    obtain ⟨as, ha⟩ := reads_ints q
    exact ⟨_, .cons (.int n t) ha⟩
mutual
theorem reads_D (I : Inv X pins σ H s) (sm : Same F H) : ∀ (d : D) {v : V} {u : Value}, Is X.K F d v → RelV v u → (toP d).canLay0 = true → ∃ as, Reads s.heap u (toP d) as
  | .non, _, _, h, r, _ => by simp only [Is] at h; subst h; cases r; exact ⟨_, .none⟩
  | .bl b, _, _, h, r, _ => by simp only [Is] at h; subst h; cases r; exact ⟨_, .bool b⟩
  | .int i, _, _, h, r, _ => by simp only [Is] at h; subst h; obtain ⟨t, rfl⟩ := r; exact ⟨_, .int i t⟩
  | .str i, _, _, h, r, _ => by simp only [Is] at h; subst h; obtain ⟨t, rfl⟩ := r; exact ⟨_, .str i t⟩
  | .scr ns, _, _, h, r, _ => by
    simp only [Is] at h
    obtain ⟨a, rfl, hs⟩ := h
    cases r
    obtain ⟨its, rv, ⟨o, n, e, hc, _, hd⟩, _⟩ := I.list (sm.seq hs)
    obtain ⟨as, ha⟩ := reads_ints (h := s.heap) rv
    exact ⟨_, .list e hc hd (by simpa using ha)⟩
  | .tup ds, _, _, h, r, c => by
    simp only [Is] at h
    obtain ⟨a, vs, rfl, hf, ra⟩ := h
    cases r
    obtain ⟨its, rv, ⟨o, e, hc, n, hd⟩, _⟩ := I.tuple (SqT.of (K := X.K) (sm _ _ hf))
    obtain ⟨as, ha⟩ := reads_Ds I sm ds ra rv (by simpa [toP, PyData.canLay0] using c)
    exact ⟨_, .tuple e hc hd (by simpa using ha)⟩
  | .dK _ _, _, _, _, _, c => by rw [toP, PyData.canLay0, badS_no] at c; cases c
  | .dT _ _, _, _, _, _, c => by rw [toP, PyData.canLay0, badS_no] at c; cases c
  | .lst ds, _, _, h, r, c => by
    simp only [Is] at h
    obtain ⟨a, vs, rfl, hf, ra⟩ := h
    cases r
    obtain ⟨its, rv, ⟨o, n, e, hc, _, hd⟩, _⟩ := I.list (SqL.of (K := X.K) (sm _ _ hf))
    obtain ⟨as, ha⟩ := reads_Ds I sm ds ra rv (by simpa [toP, PyData.canLay0] using c)
    exact ⟨_, .list e hc hd (by simpa using ha)⟩
theorem reads_Ds (I : Inv X pins σ H s) (sm : Same F H) : ∀ (ds : List D) {vs : List V} {us : List Value}, Are X.K F ds vs → Vals vs us → PyData.canLayAll0 (toPs ds) = true → ∃ as, ReadsAll s.heap us (toPs ds) as
  | [], _, _, h, r, _ => by rw [h.inv0] at r; cases r; exact ⟨_, .nil⟩
  | d :: ds, _, _, h, r, c => by
    have c' : (toP d).canLay0 = true ∧ PyData.canLayAll0 (toPs ds) = true := by simpa [toPs, PyData.canLayAll0] using c
    obtain ⟨v, vs, rfl, h1, h2⟩ := h.inv
    cases r with
    | cons r1 r2 =>
      obtain ⟨as, ha⟩ := reads_D I sm d h1 r1 c'.1
      obtain ⟨bs, hb⟩ := reads_Ds I sm ds h2 r2 c'.2
      exact ⟨_, .cons ha hb⟩
end
def toPB : B → Option PyData
  | .d d => some (toP d)
  | .l ds => some (.list (toPs ds))
  | .c ds => some (.tuple (toPs ds))
  | _ => none
theorem reads_B {b : B} {p : PyData} {v : V} {u : Value} (I : Inv X pins σ H s) (sm : Same F H) (e : toPB b = some p) (h : BIs X.K F H b v) (r : RelV v u) (c : p.canLay0 = true) : ∃ as, Reads s.heap u p as := by
  cases b with
  | d d => cases e; exact reads_D I sm d h r c
  | l ds =>
    cases e
    obtain ⟨a, vs, rfl, hf, ra⟩ := h
    cases r
    obtain ⟨its, rv, ⟨o, n, e, hc, _, hd⟩, _⟩ := I.list (SqL.of (K := X.K) hf)
    obtain ⟨as, ha⟩ := reads_Ds I sm ds ra rv (by simpa [PyData.canLay0] using c)
    exact ⟨_, .list e hc hd (by simpa using ha)⟩
  | c ds =>
    cases e
    obtain ⟨a, vs, rfl, hf, ra⟩ := h
    cases r
    obtain ⟨its, rv, ⟨o, e, hc, n, hd⟩, _⟩ := I.tuple hf
    obtain ⟨as, ha⟩ := reads_Ds I sm ds ra rv (by simpa [PyData.canLay0] using c)
    exact ⟨_, .tuple e hc hd (by simpa using ha)⟩
  | _ => cases e
theorem lays : ∀ {ps : List PyData}, (∀ p ∈ ps, shaped p = true) → PyData.canLayAll0 ps = true
  | [], _ => rfl
  | p :: r, h => by
    have h1 := canLay_of_shaped (h p List.mem_cons_self)
    have h2 := lays fun q hq => h q (List.mem_cons_of_mem _ hq)
    simp [PyData.canLayAll0, h1, h2]
/-- the value v is the datum p -/
def RP (K : PySem.W.Frag) (H : Hp) (v : V) (p : PyData) : Prop := ∃ F b, Same F H ∧ toPB b = some p ∧ BIs K F H b v
def rEqP (K : PySem.W.Frag) (neg : Bool) : R2 := fun x y H Q => ∃ p q, RP K H x p ∧ RP K H y q ∧ shaped p = true ∧ shaped q = true ∧ Q (.bl (if neg then !PyData.eqv p q else PyData.eqv p q)) H
theorem op_eqP (hu : X.A.units + 64 < cLine) : OpR X (compareOp .Eq) (rEqP X.K false) := by
  intro pins s σ H x y v u Q I rx ry ⟨p, q, ⟨F, b, sm, e, h⟩, ⟨F', b', sm', e', h'⟩, sp, sq, hq⟩
  obtain ⟨as, ra⟩ := reads_B I sm e h rx (canLay_of_shaped sp)
  obtain ⟨bs, rb⟩ := reads_B I sm' e' h' ry (canLay_of_shaped sq)
  exact compareEq_shaped ra rb sp sq hu ⟨.bl _, H, I, rfl, hq⟩
theorem op_neP (hu : X.A.units + 64 < cLine) : OpR X (compareOp .NotEq) (rEqP X.K true) := by
  intro pins s σ H x y v u Q I rx ry ⟨p, q, ⟨F, b, sm, e, h⟩, ⟨F', b', sm', e', h'⟩, sp, sq, hq⟩
  obtain ⟨as, ra⟩ := reads_B I sm e h rx (canLay_of_shaped sp)
  obtain ⟨bs, rb⟩ := reads_B I sm' e' h' ry (canLay_of_shaped sq)
  exact compareNe_shaped ra rb sp sq hu ⟨.bl _, H, I, rfl, hq⟩
def mEq (neg : Bool) : B → B → Option D := fun x y => (toPB x).bind fun p => (toPB y).bind fun q => if shaped p = true ∧ shaped q = true then some (.bl (if neg then !PyData.eqv p q else PyData.eqv p q)) else none
theorem ob_eq {K : PySem.W.Frag} {neg : Bool} : OpB K (rEqP K neg) (mEq neg) := fun F H x y v u d Q sm hx hy e q => by
  obtain ⟨p, hp, e⟩ := bind_some e
  obtain ⟨p', hp', e⟩ := bind_some e
  by_cases hz : shaped p = true ∧ shaped p' = true
  · rw [if_pos hz] at e; cases e
    exact ⟨p, p', ⟨F, x, sm, hp, hx⟩, ⟨F, y, sm, hp', hy⟩, hz.1, hz.2, q _ F H (.refl sm) is_blD⟩
  · rw [if_neg hz] at e; cases e
/-! ### in -/
open Classical in
noncomputable def eqR (h : Heap) (q : PyData) (u : Value) : Bool := if z : ∃ p, (∃ as, Reads h u p as) ∧ p.canLay0 = true then PyData.eqv z.choose q else false
theorem eqR_of {h : Heap} {q p : PyData} {u : Value} {as : List Addr} (r : Reads h u p as) (c : p.canLay0 = true) : eqR h q u = PyData.eqv p q := by
  have z : ∃ p, (∃ as, Reads h u p as) ∧ p.canLay0 = true := ⟨p, ⟨as, r⟩, c⟩
  unfold eqR
  rw [dif_pos z]
  obtain ⟨⟨bs, r2⟩, c2⟩ := z.choose_spec
  rw [SeqAt.Reads.unique _ _ _ _ _ c2 r2 r]
theorem eqR_any {h : Heap} {q : PyData} : ∀ {ps : List PyData} {us : List Value} {as : List Addr}, ReadsAll h us ps as → (∀ p ∈ ps, shaped p = true) → us.any (eqR h q) = ps.any fun p => PyData.eqv p q
  | [], _, _, .nil, _ => rfl
  | p :: ps, _, _, .cons r t, c => by
    rw [List.any_cons, List.any_cons, eqR_of r (canLay_of_shaped (c p List.mem_cons_self)), eqR_any t fun p' hp => c p' (List.mem_cons_of_mem _ hp)]
theorem eqR_at {A : Around} {s : Shared} {q : PyData} {v : Value} {bs : List Addr} (rq : Reads s.heap v q bs) (sq : shaped q = true) (hu : A.units + 64 < cLine) : ∀ {ps : List PyData} {us : List Value} {as : List Addr}, ReadsAll s.heap us ps as → (∀ p ∈ ps, shaped p = true) → ∀ u ∈ us, SeqAt.EqAt A s u v (eqR s.heap q u)
  | [], _, _, .nil, _, u, hm => (nomatch hm)
  | p :: ps, _, _, .cons r t, c, u, hm => by
    rcases List.mem_cons.mp hm with rfl | hm
    · have sp := c p List.mem_cons_self
      rw [eqR_of r (canLay_of_shaped sp)]
      exact eqAt_reads _ _ _ _ _ _ _ _ r rq (canLay_of_shaped sp) (canLay_of_shaped sq) (room_of_shaped sp hu)
    · exact eqR_at rq sq hu t (fun p' hp => c p' (List.mem_cons_of_mem _ hp)) u hm
/-- the items of a sequence as data -/
def RPs (K : PySem.W.Frag) (H : Hp) (a : Addr) (ps : List PyData) : Prop := ∃ F ds vs, Same F H ∧ (SqL K H a vs ∨ SqT K H a vs) ∧ Are K F ds vs ∧ ps = toPs ds
def rInP (K : PySem.W.Frag) (neg : Bool) : R2 := fun x y H Q => ∃ q a ps, RP K H x q ∧ y = .ref a ∧ RPs K H a ps ∧ shaped q = true ∧ (∀ p ∈ ps, shaped p = true) ∧ Q (.bl (if neg then !ps.any (fun p => PyData.eqv p q) else ps.any fun p => PyData.eqv p q)) H
theorem op_inP (hu : X.A.units + 128 < cLine) : OpR X (compareOp .In) (rInP X.K false) := by
  intro pins s σ H x y v u Q I rx ry ⟨q, a, ps, ⟨F, b, sm, e, h⟩, ey, ⟨F', ds, vs, sm', hs, ra, eps⟩, sq, sp, hq⟩
  subst ey
  subst eps
  cases ry
  have hu1 : X.A.in1.units + 64 < cLine := by show X.A.units + 1 + 64 < cLine; omega
  obtain ⟨bs, rb⟩ := reads_B I sm e h rx (canLay_of_shaped sq)
  rcases hs with hs | hs
  · obtain ⟨its, rv, pl, hz⟩ := I.list hs
    obtain ⟨as, rs⟩ := reads_Ds I sm' ds ra rv (lays sp)
    refine SeqAt.in_listAt (eqR s.heap q) pl.isList (fun w hw => eqR_at rb sq hu1 rs sp w (by simpa using hw)) ⟨.bl _, H, I, rfl, ?_⟩
    rw [show its.toArray.any (eqR s.heap q) = its.any (eqR s.heap q) by simp, eqR_any rs sp]
    exact hq
  · obtain ⟨its, rv, pl, hz⟩ := I.tuple hs
    obtain ⟨as, rs⟩ := reads_Ds I sm' ds ra rv (lays sp)
    refine SeqAt.in_tupleAt (eqR s.heap q) pl (fun w hw => eqR_at rb sq hu1 rs sp w (by simpa using hw)) ⟨.bl _, H, I, rfl, ?_⟩
    rw [show its.toArray.any (eqR s.heap q) = its.any (eqR s.heap q) by simp, eqR_any rs sp]
    exact hq
theorem op_ninP (hu : X.A.units + 128 < cLine) : OpR X (compareOp .NotIn) (rInP X.K true) := by
  intro pins s σ H x y v u Q I rx ry ⟨q, a, ps, ⟨F, b, sm, e, h⟩, ey, ⟨F', ds, vs, sm', hs, ra, eps⟩, sq, sp, hq⟩
  subst ey
  subst eps
  cases ry
  have hu1 : X.A.in1.units + 64 < cLine := by show X.A.units + 1 + 64 < cLine; omega
  obtain ⟨bs, rb⟩ := reads_B I sm e h rx (canLay_of_shaped sq)
  rcases hs with hs | hs
  · obtain ⟨its, rv, pl, hz⟩ := I.list hs
    obtain ⟨as, rs⟩ := reads_Ds I sm' ds ra rv (lays sp)
    refine SeqAt.notIn_listAt (eqR s.heap q) pl.isList (fun w hw => eqR_at rb sq hu1 rs sp w (by simpa using hw)) ⟨.bl _, H, I, rfl, ?_⟩
    rw [show its.toArray.any (eqR s.heap q) = its.any (eqR s.heap q) by simp, eqR_any rs sp]
    exact hq
  · obtain ⟨its, rv, pl, hz⟩ := I.tuple hs
    obtain ⟨as, rs⟩ := reads_Ds I sm' ds ra rv (lays sp)
    refine SeqAt.notIn_tupleAt (eqR s.heap q) pl (fun w hw => eqR_at rb sq hu1 rs sp w (by simpa using hw)) ⟨.bl _, H, I, rfl, ?_⟩
    rw [show its.toArray.any (eqR s.heap q) = its.any (eqR s.heap q) by simp, eqR_any rs sp]
    exact hq
def mIn (neg : Bool) : B → B → Option D := fun x y => (toPB x).bind fun q => y.seq.bind fun ds => if shaped q = true ∧ (toPs ds).all shaped = true then some (.bl (if neg then !(toPs ds).any (fun p => PyData.eqv p q) else (toPs ds).any fun p => PyData.eqv p q)) else none
theorem ob_in {K : PySem.W.Frag} {neg : Bool} : OpB K (rInP K neg) (mIn neg) := fun F H x y v u d Q sm hx hy e q => by
  obtain ⟨p, hp, e⟩ := bind_some e
  obtain ⟨ds, hd, e⟩ := bind_some e
  by_cases hz : shaped p = true ∧ (toPs ds).all shaped = true
  · rw [if_pos hz] at e; cases e
    obtain ⟨a, vs, rfl, hs, ra⟩ := seq_is sm hd hy
    exact ⟨p, a, toPs ds, ⟨F, x, sm, hp, hx⟩, rfl, ⟨F, ds, vs, sm, hs, ra, rfl⟩, hz.1, fun p hp => List.all_eq_true.mp hz.2 p hp, q _ F H (.refl sm) is_blD⟩
  · rw [if_neg hz] at e; cases e
/-! ### is None -/
def xIsN (neg : Bool) (f : G → Option B) : G → Option B := fun Γ => (f Γ).bind fun b => match b with
  | .d .non => some (.d (.bl (!neg)))
  | .d _ => some (.d (.bl neg))
  | _ => none
/-! ### all -/
theorem call_all_bl (hc : X.calm = true) : CallR X (.builtin "all") (fun xs H Q => ∃ p bs, xs = [.ref p] ∧ SqL X.K H p ((bs : List Bool).map V.bl) ∧ Q (.bl (bs.all id)) H) := by
  intro pins s σ H xs us Q I r h
  obtain ⟨p, bs, rfl, hq, q⟩ := h
  obtain ⟨u, rfl, rx⟩ := vals1 r
  cases rx
  obtain ⟨its, rv, pl, hz⟩ := I.list hq
  have hl : its.length = bs.length := by rw [← rv.length, List.length_map]
  have get : ∀ (i : Nat) (b : Bool), bs[i]? = some b → its[i]? = some (.bool b) := fun i b e => by
    obtain ⟨u, h1, h2⟩ := rv.get (i := i) (x := .bl b) (by rw [List.getElem?_map, e]; rfl)
    cases h2
    exact h1
  have hp : p < s.heap.objs.size := by obtain ⟨o, n, e, _⟩ := pl; exact Heap.lt_size e
  refine call_all_walk (wpAny_pyIter_list pl.isList ?_)
  refine ⟨s.heap.objs.size, _, _, its.toArray.size, _, _, fun i => bs.getD i true, rfl, Walks.list (A := X.A.in1) (I.ok.hd hc) s.heap.objs.size p (Nat.ne_of_lt hp) its.toArray, ⟨⟨_, Heap.get?_push_size _ rfl, rfl, rfl⟩, pl.isList.push _⟩, fun i v s' Q' E' hP hQ => ?_, fun h' tk hk => ?_⟩
  · have hP' : its[i]? = some v := by simpa using hP
    have hlt : i < bs.length := by rw [← hl]; exact (List.getElem?_eq_some_iff.mp hP').1
    have := get i bs[i] (by simp [hlt])
    rw [hP'] at this; cases this
    have e : bs.getD i true = bs[i] := by simp [List.getD, hlt]
    refine wpAny_truthy_bool ?_
    rw [← e]; exact hQ
  · have I' : Inv X pins σ H { s with heap := h', toks := tk } := I.kept fun b o e => hk b o (by simpa using Nat.ne_of_lt (Heap.lt_size e)) (Heap.get?_push_of_some _ e)
    have e : (List.range its.toArray.size).all (fun i => bs.getD i true) = bs.all id := by
      rw [List.size_toArray, hl, Bool.eq_iff_iff]
      simp only [List.all_eq_true, List.mem_range, id]
      constructor
      · intro z b hb
        obtain ⟨i, hi, rfl⟩ := List.mem_iff_getElem.mp hb
        have := z i hi
        simpa [List.getD, hi] using this
      · intro z i hi
        have := z bs[i] (List.getElem_mem hi)
        simpa [List.getD, hi] using this
    rw [e]
    exact ⟨.bl _, H, I', rfl, q⟩
def bools : List D → Option (List Bool)
  | [] => some []
  | .bl b :: r => (bools r).map fun bs => b :: bs
  | _ :: _ => none
theorem bools_are {K : PySem.W.Frag} {F : Hp} : ∀ {ds : List D} {bs : List Bool} {vs : List V}, bools ds = some bs → Are K F ds vs → vs = bs.map V.bl
  | [], _, _, e, h => by cases e; rw [h.inv0]; rfl
  | d :: r, _, _, e, h => by
    obtain ⟨v, vs, rfl, h1, h2⟩ := h.inv
    cases d with
    | bl b =>
      obtain ⟨bs, hb, rfl⟩ := map_some (show (bools r).map _ = some _ from e)
      simp only [Is] at h1
      rw [h1, bools_are hb h2]; rfl
    | _ => cases e
def mAll : List B → Option D
  | [b] => b.lst.bind fun ds => (bools ds).map fun bs => .bl (bs.all id)
  | _ => none
theorem cb_all {K : PySem.W.Frag} : CallB K (fun xs H Q => ∃ p bs, xs = [.ref p] ∧ SqL K H p ((bs : List Bool).map V.bl) ∧ Q (.bl (bs.all id)) H) mAll := fun F H bs vs d Q sm h e q => by
  match bs, e, h with
  | [b], e, h =>
    obtain ⟨v, rfl, hb⟩ := bare1 h
    obtain ⟨ds, hd, e⟩ := bind_some e
    obtain ⟨bs, hb2, rfl⟩ := map_some e
    obtain ⟨a, ys, rfl, hs, r⟩ := lst_is sm hd hb
    have := bools_are hb2 r
    subst this
    exact ⟨a, bs, rfl, SqL.of hs, q _ F H (.refl sm) is_blD⟩
end
end DD

namespace DD
open PySem PySem.Spec L2
open PyProof.Rows hiding St
section
variable {X : Cx} {pins : List (Addr × Obj)} {σ : St} {F H : Hp} {s : Shared} {a b c e tg iter elt : Expr} {f g h : G → Option B} {pos : Pos} {es : List Expr} {fs : G → Option (List B)} {tf : G → Option Bool}
/-! ### isinstance -/
def isi (t c : Ty) : Bool := decide (t = c) || (decide (t = .bl) && decide (c = .int))
theorem kit_isi (K : PySem.W.Frag) (t c : Ty) : PySem.W.kitOne K (.type t.name) (.type c.name) = some (isi t c) := by
  cases t <;> cases c <;> rfl
def D.tyOf : D → Option Ty
  | .non => some .non
  | .bl _ => some .bl
  | .int _ => some .int
  | .str _ => some .str
  | .tup _ => some .tup
  | .lst _ => some .lst
  | .scr _ => none
  | .dK _ _ => none
  | .dT _ _ => none
theorem tyOf_is {K : PySem.W.Frag} {d : D} {t : Ty} {v : V} (sm : Same F H) (e : d.tyOf = some t) (h : Is K F d v) : TyOf K H v (.type t.name) := by
  cases d with
  | non => cases e; simp only [Is] at h; subst h; exact .non
  | bl b => cases e; simp only [Is] at h; subst h; exact .bl b
  | int b => cases e; simp only [Is] at h; subst h; exact .int b
  | str b => cases e; simp only [Is] at h; subst h; exact .str b
  | scr ns => cases e
  | dK _ _ => cases e
  | dT _ _ => cases e
  | tup ds => cases e; simp only [Is] at h; obtain ⟨p, vs, rfl, hf, _⟩ := h; exact .tup (sm _ _ hf)
  | lst ds => cases e; simp only [Is] at h; obtain ⟨p, vs, rfl, hf, _⟩ := h; exact .lst (sm _ _ hf)
theorem call_isi : CallR X (.builtin "isinstance") (fun xs H Q => ∃ x t c, xs = [x, .ty (Ty.name c)] ∧ TyOf X.K H x (.type (Ty.name t)) ∧ Q (.bl (isi t c)) H) := by
  intro pins s σ H xs us Q I r h
  obtain ⟨x, t, c, rfl, ty, q⟩ := h
  cases r with
  | cons r1 r2 =>
    cases r2 with
    | cons r2 r3 =>
      cases r3
      cases r2
      exact isinst_ok I r1 ty (kit_isi _ _ _) fun tk => ⟨.bl _, H, I.tok tk, rfl, q⟩
def mIsi : List B → Option D
  | [.d x, .ty c] => x.tyOf.map fun t => .bl (isi t c)
  | [.l _, .ty c] => some (.bl (isi .lst c))
  | _ => none
theorem cb_isi {K : PySem.W.Frag} : CallB K (fun xs H Q => ∃ x t c, xs = [x, .ty (Ty.name c)] ∧ TyOf K H x (.type (Ty.name t)) ∧ Q (.bl (isi t c)) H) mIsi := fun F H bs vs d Q sm h e q => by
  match bs, e, h with
  | [.d x, .ty c], e, h =>
    obtain ⟨t, ht, rfl⟩ := map_some e
    cases h with
    | cons h1 h2 =>
      cases h2 with
      | cons h2 h3 =>
        cases h3
        cases h2
        exact ⟨_, t, c, rfl, tyOf_is sm ht h1, q _ F H (.refl sm) is_blD⟩
  | [.l ds, .ty c], e, h =>
    cases e
    cases h with
    | cons h1 h2 =>
      cases h2 with
      | cons h2 h3 =>
        cases h3
        cases h2
        obtain ⟨p, ws, rfl, hf, _⟩ := h1
        exact ⟨_, .lst, c, rfl, .lst hf, q _ F H (.refl sm) is_blD⟩
def xTy (c : Ty) : G → Option B := fun _ => some (.ty c)
theorem e_ty {x : Str} (c : Ty) {p : Pos} (hg : Gl X x) (hm : X.mg x = none) (hv : bootBuiltins x = some (.type c.name)) (hn : x ≠ "__name__" := by decide) (hd : (x == ("__debug__" : Str)) = false := by decide) : EE X (.Name x p) (xTy c) :=
  pe_weak (pe_bltn (v := .ty c.name) hg hm hv rfl hn hd) fun σ H Q ⟨F0, H0, F, Γ, z, E, e, q⟩ => by cases e; exact q _ F H (.refl E.fh) rfl
/-! ### a thing of one's own changes -/
theorem EnvIs.change {K : PySem.W.Frag} {F0 H0 F H : Hp} {σ : St} {Γ : G} {i : Nat} {s1 s0 : S} {p : Addr} {o : HO} (E : EnvIs K F0 H0 F H σ Γ) (hi : Γ[i]? = some s1) (ho : s1.own = true) (hs : σ[i]? = some (some (.ref p))) (h0 : H0 p = none) (hf : F p = none)
    (h : SIs K H0 F (upd H p o) s0 (some (.ref p))) : EnvIs K F0 H0 F (upd H p o) σ (Γ.set i s0) := by
  have hlt : i < Γ.length := (List.getElem?_eq_some_iff.mp hi).1
  have ownRef : ∀ (j : Nat) s, Γ[j]? = some s → s.own = true → ∃ q, σ[j]? = some (some (.ref q)) := fun j s e so => by
    obtain ⟨o', h1, h2⟩ := E.val j s e
    cases s with
    | un => cases so
    | v d => cases so
    | ol ds => obtain ⟨q, _, rfl, _⟩ := h2; exact ⟨q, h1⟩
    | ot ds => obtain ⟨q, _, rfl, _⟩ := h2; exact ⟨q, h1⟩
    | ok ds => obtain ⟨q, _, rfl, _⟩ := h2; exact ⟨q, h1⟩
  refine ⟨E.ext.turn h0 hf o, by simpa using E.len, fun j s e => ?_, fun j k s t b hjk e1 e2 o1 o2 r1 r2 => ?_⟩
  · by_cases hj : j = i
    · subst hj
      rw [List.getElem?_set_self hlt] at e
      cases e
      exact ⟨_, hs, h⟩
    · rw [List.getElem?_set_ne (Ne.symm hj)] at e
      obtain ⟨o', h1, h2⟩ := E.val j s e
      refine ⟨o', h1, ?_⟩
      have ne : ∀ q, s.own = true → σ[j]? = some (some (.ref q)) → q ≠ p := fun q so sq z => by
        subst z
        exact E.sep j i s s1 q hj e hi so ho sq hs
      cases s with
      | un => trivial
      | v d => exact h2
      | ol ds => obtain ⟨q, vs, rfl, p1, p2, p3, p4⟩ := h2; exact ⟨q, vs, rfl, by rw [upd_ne (ne q rfl h1)]; exact p1, p2, p3, p4⟩
      | ot ds => obtain ⟨q, vs, rfl, p1, p2, p3, p4⟩ := h2; exact ⟨q, vs, rfl, by rw [upd_ne (ne q rfl h1)]; exact p1, p2, p3, p4⟩
      | ok ds => obtain ⟨q, vs, rfl, p1, p2, p3, p4⟩ := h2; exact ⟨q, vs, rfl, by rw [upd_ne (ne q rfl h1)]; exact p1, p2, p3, p4⟩
  · have old : ∀ (k : Nat) (t : S), (Γ.set i s0)[k]? = some t → t.own = true → ∃ t', Γ[k]? = some t' ∧ t'.own = true := fun k t e o => by
      by_cases z : k = i
      · subst z; exact ⟨s1, hi, ho⟩
      · rw [List.getElem?_set_ne (Ne.symm z)] at e; exact ⟨t, e, o⟩
    obtain ⟨s', e1', o1'⟩ := old j s e1 o1
    obtain ⟨t', e2', o2'⟩ := old k t e2 o2
    exact E.sep j k s' t' b hjk e1' e2' o1' o2' r1 r2
def ownL (Γ : G) (i : Nat) : Option (List D) := match Γ[i]? with
  | some (.ol ds) => some ds
  | _ => none
theorem ownL_some {Γ : G} {i : Nat} {ds : List D} (e : ownL Γ i = some ds) : Γ[i]? = some (.ol ds) := by
  unfold ownL at e
  split at e
  · rename_i q; cases e; exact q
  · cases e
/-- x.append(e) -/
def sApp (i : Nat) (f : G → Option B) : G → Option Out := fun Γ => (ownL Γ i).bind fun ds => (f Γ).bind fun b => b.asD.bind fun d => if ds.length < sizeLine then some (.nx (Γ.set i (.ol (ds ++ [d])))) else none
theorem s_app {i : Nat} {x : Str} {px apos cpos : Pos}
    (hsw : swapsWith (.Call (.Attribute (.Name x px) "append" apos) [e] [] cpos) none pos.line X.env = pure false := by rfl)
    (h1 : PE X (.Call (.Attribute (.Name x px) "append" apos) [e] [] cpos) (tBM X.K "list" rAppend (tVar i) (tCons (dE X.K f) tNil))) :
    SD X (.Expr (.Call (.Attribute (.Name x px) "append" apos) [e] [] cpos) pos) (sApp i f) := ps_weak (ps_expr h1 hsw) fun E σ H ⟨F0, H0, F, Γ, o, En, e, q⟩ => by
  obtain ⟨ds, hd, e⟩ := bind_some e
  obtain ⟨b, hb, e⟩ := bind_some e
  obtain ⟨d, hd2, e3⟩ := bind_some e
  have := asD_some hd2; subst this
  have hi := ownL_some hd
  by_cases hz : ds.length < sizeLine
  · rw [if_pos hz] at e3; cases e3
    obtain ⟨o, h1, p, vs, rfl, h2, h3, h4, h5⟩ := En.val i _ hi
    refine ⟨.ref p, h1, .inl ⟨rfl, vs, SqL.of h2⟩, F0, H0, F, Γ, _, En, hb, fun v F1 H1 e1 r1 => ⟨p, vs, v, rfl, rfl, e1.hh _ _ h2, by rw [h3.length]; exact hz, ?_⟩⟩
    have hf1 : F1 p = none := e1.freed h4 (by rw [h2]; simp)
    refine q σ F1 _ ((En.grow e1).change (s1 := .ol ds) hi rfl h1 h5 hf1 ⟨p, vs ++ [v], rfl, upd_same, (h3.mono e1.ff).append (.cons r1 .nil), hf1, h5⟩) e1.ff
  · rw [if_neg hz] at e3; cases e3
/-- x.extend(e) -/
def sExt (i : Nat) (f : G → Option B) : G → Option Out := fun Γ => (ownL Γ i).bind fun ds => (f Γ).bind fun b => b.lst.bind fun es => if ds.length + es.length ≤ sizeLine then some (.nx (Γ.set i (.ol (ds ++ es)))) else none
theorem s_ext {i : Nat} {x : Str} {px apos cpos : Pos}
    (hsw : swapsWith (.Call (.Attribute (.Name x px) "extend" apos) [e] [] cpos) none pos.line X.env = pure false := by rfl)
    (h1 : PE X (.Call (.Attribute (.Name x px) "extend" apos) [e] [] cpos) (tBM X.K "list" rExtend (tVar i) (tCons (dE X.K f) tNil))) :
    SD X (.Expr (.Call (.Attribute (.Name x px) "extend" apos) [e] [] cpos) pos) (sExt i f) := ps_weak (ps_expr h1 hsw) fun E σ H ⟨F0, H0, F, Γ, o, En, e, q⟩ => by
  obtain ⟨ds, hd, e⟩ := bind_some e
  obtain ⟨b, hb, e⟩ := bind_some e
  obtain ⟨es, he, e⟩ := bind_some e
  have hi := ownL_some hd
  by_cases hz : ds.length + es.length ≤ sizeLine
  · rw [if_pos hz] at e; cases e
    obtain ⟨o, h1, p, vs, rfl, h2, h3, h4, h5⟩ := En.val i _ hi
    refine ⟨.ref p, h1, .inl ⟨rfl, vs, SqL.of h2⟩, F0, H0, F, Γ, _, En, hb, fun v F1 H1 e1 r1 => ?_⟩
    obtain ⟨l, us, rfl, hl, ru⟩ := lst_is e1.fh he r1
    refine ⟨p, l, vs, us, rfl, rfl, e1.hh _ _ h2, hl, by rw [h3.length, ru.length]; exact hz, ?_⟩
    have hf1 : F1 p = none := e1.freed h4 (by rw [h2]; simp)
    refine q σ F1 _ ((En.grow e1).change (s1 := .ol ds) hi rfl h1 h5 hf1 ⟨p, vs ++ us, rfl, upd_same, (h3.mono e1.ff).append ru, hf1, h5⟩) e1.ff
  · rw [if_neg hz] at e; cases e
/-! ### a def by its body -/
def startG (n : Nat) (ds : List D) : G := ds.map S.v ++ List.replicate (n - ds.length) S.un
def mir (np n : Nat) (f : G → Option Out) : List D → Option D := fun ds => if ds.length = np then match f (startG n ds) with
  | some (.rt d) => some d
  | some (.nx _) => some .non
  | _ => none else none
theorem start_is {K : PySem.W.Frag} {F H : Hp} {N : List Str} {ds : List D} {vs : List V} (sm : Same F H) (r : Are K F ds vs) : EnvIs K F H F H (L2.start N vs) (startG N.length ds) := by
  have hl := r.length
  refine ⟨.refl sm, by simp [L2.start, startG, hl], fun i s e => ?_, fun i j s t p hij e1 e2 o1 o2 _ _ => ?_⟩
  · unfold startG at e
    unfold L2.start
    by_cases hi : i < ds.length
    · rw [List.getElem?_append_left (by simpa using hi), List.getElem?_map] at e
      rw [List.getElem?_append_left (by simpa [hl] using hi), List.getElem?_map]
      obtain ⟨d, hd, rfl⟩ := map_some e
      obtain ⟨v, hv, hq⟩ := r.get hd
      exact ⟨some v, by rw [hv]; rfl, v, rfl, hq⟩
    · rw [List.getElem?_append_right (by simpa using hi), List.getElem?_replicate] at e
      rw [List.getElem?_append_right (by simpa [hl] using hi), List.getElem?_replicate]
      simp only [List.length_map] at e ⊢
      split at e
      · rename_i hlt
        cases e
        exact ⟨none, by rw [if_pos (by rw [hl]; exact hlt)], trivial⟩
      · cases e
  · have no : ∀ (k : Nat) (t : S), (startG N.length ds)[k]? = some t → t.own = false := fun k t e => by
      have hm := List.mem_of_getElem? e
      unfold startG at hm
      rcases List.mem_append.mp hm with hm | hm
      · obtain ⟨d, _, rfl⟩ := List.mem_map.mp hm; rfl
      · rw [(List.mem_replicate.mp hm).2]; rfl
    rw [no i s e1] at o1; cases o1
/-- a def that a caller may call -/
structure Callee (P : Program) (w : World) (K : PySem.W.Frag) (mg : Str → Option Value) (base : Heap) (k : Nat) (x : Str) (m : List D → Option D) : Prop where
  ex : ∃ fa fd ps, FnOk P w K mg base CX0 k fa fd ps (spD K m) ∧ mg x = some (.ref fa) ∧ PySem.W.keepIn K (.ref fa) = true ∧ Binds K fd ps []
theorem callee_of {P : Program} {w : World} {K : PySem.W.Frag} {mg : Str → Option Value} {base : Heap} {k : Nat} {x : Str} {st : Stmt} {fa : Addr} {fd : FuncData} {N ps : List Str} {f : G → Option Out} (Fn : Fun K x x st fa fd) (hm : mg x = some (.ref fa)) (S : FnScope N ps (defScope st)) (hb : Binds K fd ps [])
    (body : ∀ (cdv : Value) (A : Around) (outer : List Env) (s : Shared) (H : Hp) (E : XK), Room k (A.deeper (envOfC x (defScope st) s.heap.objs.size fa cdv)) → SDs (cxOf CX0 P w K mg base N x (defScope st) fa cdv A outer s H E).nox (defBody st) f) :
    Callee P w K mg base (k + 1) x (mir ps.length N.length f) := by
  refine ⟨fa, fd, ps, Fn.ok S (fun vs H Q E ⟨F, ds, d, sm, r, e, q⟩ => ?_) (fun cdv A outer s H vs Q E hr ⟨F, ds, d, sm, r, e, q⟩ => ⟨_, body cdv A outer s H E hr, ?_⟩), hm, Fn.kp, hb⟩
  · unfold mir at e
    split at e
    · rename_i h; rw [r.length]; exact h
    · cases e
  · unfold mir at e
    split at e
    · cases ho : f (startG N.length ds) with
      | none => rw [ho] at e; cases e
      | some o =>
        rw [ho] at e
        refine ⟨F, H, F, startG N.length ds, o, start_is sm r, ho, ?_⟩
        cases o with
        | rt d' => cases e; exact fun v F' H' ex hv => q v F' H' ex hv
        | nx g => cases e; exact fun σ' F' H' En z => q _ F' H' En.ext (by simp [Is])
        | bk g => cases e
        | ct g => cases e
    · cases e
theorem e_callC {k k' : Nat} {x : Str} {p : Pos} {m : List D → Option D} (C : Callee X.prog X.w X.K X.mg X.base k x m) (hr : Room k' X.A) (hk : k ≤ k') (hg : Gl X x)
    (ha : EA X (e :: es) fs) (hdb : (x == ("__debug__" : Str)) = false := by decide) (he : starEach (e :: es) X.env = (false, eval e X.env) :: starEach es X.env := by rfl) (hpl : (backTo pos (starEach es X.env)).any (·.1) = false := by rfl) :
    EE X (.Call (.Name x p) (e :: es) [] pos) (xFn m fs) := by
  obtain ⟨fa, fd, ps, Fn, hm, hkp, hb⟩ := C.ex
  exact e_call Fn (hr.mono hk) hg hm hkp hb ha hdb he hpl
/-- enumerate(t), unpacked -/
def enumD (ds : List D) : List D := (List.range ds.length).map fun (k : Nat) => D.tup [.int (k : Int), ds.getD k .non]
def xEn (fs : G → Option (List B)) : G → Option (List D) := fun Γ => (fs Γ).bind fun bs => match bs with
  | [.d (.tup ds)] => some (enumD ds)
  | _ => none
end
end DD

namespace DD
open PySem PySem.Spec L2
open PyProof.Rows hiding St
section
variable {X : Cx} {pins : List (Addr × Obj)} {σ : St} {F H : Hp} {s : Shared} {a b c e tg iter elt : Expr} {f g h : G → Option B} {pos : Pos} {es : List Expr} {fs : G → Option (List B)} {tf : G → Option Bool}
theorem new_go {K : PySem.W.Frag} {fl : G → Option (List D)} {σ : St} {H : Hp} {Q : VK} : dE K (xL fl) σ H Q → dL K fl σ H Q := fun ⟨F0, H0, F, Γ, z, E, e, q⟩ => by
  unfold xL at e
  cases hx : fl Γ with
  | none => rw [hx] at e; cases e
  | some ds =>
    rw [hx] at e; cases e
    refine ⟨F0, H0, F, Γ, ds, E, hx, fun a vs F1 H1 e1 hn hf hh r1 => q _ (upd F1 a (.lst vs)) H1 ?_ ?_⟩
    · exact (Ext.freeze e1 hn hf hh)
    · show Is _ _ (.lst ds) _
      simp only [Is]
      exact ⟨a, vs, rfl, upd_same, r1.mono (same_upd hf _)⟩
theorem s_setC {ifs : List Expr} {scope : Scope} {N : List Str} {src : G → Option (List D)} {ms : List (Option Nat)} {is : List Nat} {t : D → G → Option G} {cond : G → Option Bool} {el : G → Option B} {i : Nat} {y : Str} {py spos : Pos}
    (hc : X.calm = true) (ok : CompOk X.env.scope X.N scope N ms) (hi : EC X tg iter src) (hb : Blk X scope N tg ifs elt is t cond el) (nd : ∀ (i k j : Nat), ms[i]? = some (some j) → ms[k]? = some (some j) → i = k) (fr : ∀ j ∈ is, ∀ k, ms[j]? ≠ some (some k))
    (hN : X.N.Nodup) (hy : X.N[i]? = some y) (hx : Loc X.env.scope y) (hsw : swapsWith (.ListComp elt [⟨tg, iter, ifs, 0⟩] scope pos) (some (.Name y py)) spos.line X.env = pure true := by rfl)
    (hf : X.fn y = true ∨ X.env.scope.names.lookup y = some .local := by first | exact .inl rfl | exact .inr rfl | assumption)
    (hs : ∀ x, foldedSetIterable iter X.env x = pure x := by intro _; rfl) : SD X (.Assign [.Name y py] (.ListComp elt [⟨tg, iter, ifs, 0⟩] scope pos) spos) (sSet i (xL (xComp src ms t cond el))) :=
  ps_weak (ps_setC (g := dGs X.K is t) (tf := dT X.K cond) (te := dE X.K el) hc ok hi hb.go hN hy hx hsw hf hs) fun E σ H q => by
    have q' := sSet_go (X := X) q
    exact comp_go nd fr (new_go q')
/-! ### what is shown of a comprehension's slots by computation -/
def ndChk (ms : List (Option Nat)) : Bool := (List.range ms.length).all fun i => (List.range ms.length).all fun k => decide (i = k) || decide (ms[i]? = some none) || decide (ms[i]? ≠ ms[k]?)
theorem nd_of {ms : List (Option Nat)} (h : ndChk ms = true) (i k j : Nat) (e1 : ms[i]? = some (some j)) (e2 : ms[k]? = some (some j)) : i = k := by
  have l1 := (List.getElem?_eq_some_iff.mp e1).1
  have l2 := (List.getElem?_eq_some_iff.mp e2).1
  have q := List.all_eq_true.mp (List.all_eq_true.mp h i (List.mem_range.mpr l1)) k (List.mem_range.mpr l2)
  simp only [Bool.or_eq_true, decide_eq_true_eq] at q
  rcases q with (q | q) | q
  · exact q
  · rw [e1] at q; cases q
  · exact absurd (e1.trans e2.symm) q
def frChk (is : List Nat) (ms : List (Option Nat)) : Bool := is.all fun j => decide (ms[j]? = some none)
theorem fr_of {is : List Nat} {ms : List (Option Nat)} (h : frChk is ms = true) (j : Nat) (hj : j ∈ is) (k : Nat) : ms[j]? ≠ some (some k) := fun e => by
  have q := of_decide_eq_true (List.all_eq_true.mp h j hj)
  rw [e] at q; cases q
/-- a def's promise, from its body (the law's own) -/
theorem fn_den {P : Program} {w : World} {K : PySem.W.Frag} {mg : Str → Option Value} {base : Heap} {k : Nat} {x : Str} {st : Stmt} {fa : Addr} {fd : FuncData} {N ps : List Str} {f : G → Option Out} (Fn : Fun K x x st fa fd) (S : FnScope N ps (defScope st))
    (body : ∀ (cdv : Value) (A : Around) (outer : List Env) (s : Shared) (H : Hp) (E : XK), Room k (A.deeper (envOfC x (defScope st) s.heap.objs.size fa cdv)) → SDs (cxOf CX0 P w K mg base N x (defScope st) fa cdv A outer s H E).nox (defBody st) f) :
    FnOk P w K mg base CX0 (k + 1) fa fd ps (spD K (mir ps.length N.length f)) := by
  refine Fn.ok S (fun vs H Q E ⟨F, ds, d, sm, r, e, q⟩ => ?_) (fun cdv A outer s H vs Q E hr ⟨F, ds, d, sm, r, e, q⟩ => ⟨_, body cdv A outer s H E hr, ?_⟩)
  · unfold mir at e
    split at e
    · rename_i h; rw [r.length]; exact h
    · cases e
  · unfold mir at e
    split at e
    · cases ho : f (startG N.length ds) with
      | none => rw [ho] at e; cases e
      | some o =>
        rw [ho] at e
        refine ⟨F, H, F, startG N.length ds, o, start_is sm r, ho, ?_⟩
        cases o with
        | rt d' => cases e; exact fun v F' H' ex hv => q v F' H' ex hv
        | nx g => cases e; exact fun σ' F' H' En z => q _ F' H' En.ext (by simp [Is])
        | bk g => cases e
        | ct g => cases e
    · cases e
/-- the law's promise at the script -/
theorem law_sp {K : PySem.W.Frag} {m : List D → Option D} {H : Hp} {p : Addr} {ns : List Int} (hS : SqL K H p (ns.map V.int)) (h : m [.scr ns] = some (.bl true)) : spD K m [.ref p] H (fun v _ => v = .bl true) fun _ _ _ => False :=
  ⟨H, [.scr ns], .bl true, Same.refl _, .cons (by simp only [Is]; exact ⟨p, rfl, hS⟩) .nil, h, fun v F' H' _ r => by simpa [Is] using r⟩
/-- a tuple of the module -/
structure GlobT (K : PySem.W.Frag) (mg : Str → Option Value) (x : Str) (ds : List D) : Prop where
  ex : ∃ p vs, mg x = some (.ref p) ∧ (∀ H, SqT K H p vs) ∧ ∀ F, Are K F ds vs
theorem globT_strs {K : PySem.W.Frag} {mg : Str → Option Value} {x : Str} {p : Addr} {dd : Option Addr} {its : Array Value} {n : Nat} {sl : Array (Option Value)} (xs : List Str) (hm : mg x = some (.ref p)) (hl : K.lookup p = some ⟨.type "tuple", dd, .seq its n, sl⟩) (hz : its.size ≤ sizeLine) (hv : Vals (xs.map V.str) its.toList) : GlobT K mg x (xs.map D.str) :=
  ⟨p, xs.map V.str, hm, fun H => .inr ⟨_, its, n, hl, rfl, rfl, hz, hv⟩, fun F => by
    induction xs with
    | nil => exact .nil
    | cons y r ih => exact .cons (by simp [Is]) (by
        have : ∀ zs : List Str, Are K F (zs.map D.str) (zs.map V.str) := fun zs => by
          induction zs with
          | nil => exact .nil
          | cons a b ih2 => exact .cons (by simp [Is]) ih2
        exact this r)⟩
def xG (ds : List D) : G → Option B := fun _ => some (.c ds)
theorem e_globT {x : Str} {ds : List D} {p : Pos} (T : GlobT X.K X.mg x ds) (hg : Gl X x) (hd : (x == ("__debug__" : Str)) = false := by decide) : EE X (.Name x p) (xG ds) := by
  obtain ⟨q, vs, hm, h1, h2⟩ := T.ex
  exact pe_weak (pe_glob (v := .ref q) hg hm rfl hd) fun σ H Q ⟨F0, H0, F, Γ, z, E, e, k⟩ => by cases e; exact k _ F H (.refl E.fh) ⟨q, vs, rfl, h1 H, h2 F⟩
theorem room128 {k : Nat} {A : Around} (r : Room k A) : A.units + 128 < cLine := by have := r.un; omega
/-! ### unary minus -/
def xNeg (f : G → Option B) : G → Option B := fun Γ => (f Γ).bind fun b => b.int.map fun i => .d (.int (-i))
theorem e_neg (ha : EE X a f) : EE X (.UnaryOp .USub a pos) (xNeg f) := pe_weak (pe_un un_neg ha) fun σ H Q ⟨F0, H0, F, Γ, z, E, e, q⟩ => by
  obtain ⟨x, hx, e⟩ := bind_some e
  obtain ⟨i, hi, rfl⟩ := map_some e
  exact ⟨F0, H0, F, Γ, x, E, hx, fun v F1 H1 e1 r1 => ⟨i, int_is hi r1, q _ F1 H1 e1 (is_int (K := X.K) (F := F1))⟩⟩
/-! ### tuples put together -/
theorem op_catT0 : OpR X (binaryOp .Add) (fun x y H Q => ∃ p q ys, x = .ref p ∧ y = .ref q ∧ SqT X.K H p [] ∧ SqT X.K H q ys ∧ Q (.ref q) H) := by
  intro pins s σ H x y v u Q I rx ry h
  obtain ⟨p, q, ys, rfl, rfl, hp, hq, k⟩ := h
  cases rx
  cases ry
  obtain ⟨its, r1, p1, _⟩ := I.tuple hp
  obtain ⟨its2, r2, p2, _⟩ := I.tuple hq
  cases r1
  obtain ⟨⟨cls, dd, data, sl⟩, ho, hc, n, hd⟩ := id p1
  obtain ⟨⟨cls2, dd2, data2, sl2⟩, ho2, hc2, n2, hd2⟩ := id p2
  simp only at hc hd hc2 hd2
  subst hc hd hc2 hd2
  exact concat_meets ⟨_, ho, rfl⟩ ⟨_, ho2, rfl⟩ noFill_tuple_add seq_tuple_add PySem.F.slot_tuple_add PySem.F.entry_tuple_add (PySem.F.args_tuple_add_2 _ _)
      (tuple_addW0 p q #[] its2.toArray n n2 dd dd2 sl sl2 rfl) ⟨ho, ho2, ⟨.ref q, H, I, rfl, k⟩⟩
def rCatTT (K : PySem.W.Frag) : R2 := fun x y H Q => rCatT K x y H Q ∨ (∃ p q ys, x = .ref p ∧ y = .ref q ∧ SqT K H p [] ∧ SqT K H q ys ∧ Q (.ref q) H)
theorem op_catTT : OpR X (binaryOp .Add) (rCatTT X.K) := op_catT.or op_catT0
theorem ob_catT {K : PySem.W.Frag} : OpB K (rCatTT K) mCatT := fun F H x y v u d Q sm hx hy e q => by
  match x, y, e, hx, hy with
  | .d (.tup a), .d (.tup b), e, hx, hy =>
    unfold mCatT at e
    simp only at e
    by_cases hz : a.length + b.length ≤ sizeLine
    · rw [if_pos hz] at e; cases e
      have hx' : Is K F (.tup a) v := hx
      have hy' : Is K F (.tup b) u := hy
      have hx2 := hx'
      have hy2 := hy'
      simp only [Is] at hx' hy'
      obtain ⟨p, vs, rfl, hp, r1⟩ := hx'
      obtain ⟨p2, us, rfl, hp2, r2⟩ := hy'
      by_cases ha : a = []
      · subst ha
        have := r1.inv0; subst this
        exact .inr ⟨p, p2, us, rfl, rfl, SqT.of (sm _ _ hp), SqT.of (sm _ _ hp2), q _ F H (.refl sm) hy2⟩
      · have hv : vs ≠ [] := fun z => ha (by have := r1.length; rw [z] at this; exact List.length_eq_zero_iff.mp this.symm)
        refine .inl ⟨p, p2, vs, us, rfl, rfl, SqT.of (sm _ _ hp), SqT.of (sm _ _ hp2), hv, by rw [r1.length, r2.length]; exact hz, fun z => ?_, fun z l hl => q _ (upd F l (.tup (vs ++ us))) _ (.fix sm hl _) ?_⟩
        · subst z
          have hb : b = [] := List.length_eq_zero_iff.mp (by rw [← r2.length]; rfl)
          subst hb
          rw [List.append_nil] at q
          exact q _ F H (.refl sm) hx2
        · simp only [Is]
          exact ⟨l, _, rfl, upd_same, (r1.append r2).mono (same_upd (sm.free hl) _)⟩
    · rw [if_neg hz] at e; cases e
/-- + -/
def mAdd := mOr mAddI (mOr mCatT mCatL)
theorem op_addAll : OpR X (binaryOp .Add) (fun x y H Q => rI0 (fun i j => .int (i + j)) x y H Q ∨ (rCatTT X.K x y H Q ∨ rCat x y H Q)) := op_add.or (op_catTT.or op_cat)
theorem ob_addAll {K : PySem.W.Frag} : OpB K (fun x y H Q => rI0 (fun i j => .int (i + j)) x y H Q ∨ (rCatTT K x y H Q ∨ rCat x y H Q)) mAdd := ob_addI.or (ob_catT.or ob_catL)
end
end DD

namespace DD
open PySem PySem.Spec L2
open PyProof.Rows hiding St
/-! ### dicts of one's own: keys that are ints and texts, or tuples of them -/
def keyD : D → Option Key
  | .int i => some (.inl i)
  | .str x => some (.inr x)
  | _ => none
def keysD : List D → Option (List Key)
  | [] => some []
  | d :: r => (keyD d).bind fun k => (keysD r).map fun ks => k :: ks
def keyT : D → Option (List Key)
  | .tup ds => keysD ds
  | _ => none
def valD {κ : Type} [DecidableEq κ] (kvs : List (κ × D)) (k : κ) : Option D := (kvs.find? fun kv => decide (kv.1 = k)).map (·.2)
def putD {κ : Type} [DecidableEq κ] (kvs : List (κ × D)) (k : κ) (v : D) : List (κ × D) :=
  if (kvs.any fun kv => decide (kv.1 = k)) = true then kvs.map (fun kv => if kv.1 = k then (kv.1, v) else kv) else kvs ++ [(k, v)]
/-- what a dict holds at a key -/
def B.dget : B → D → Option (Option D)
  | .t kvs, z => (keyT z).map fun q => valD kvs q
  | .k kvs, z => (keyD z).map fun q => valD kvs q
  | .d (.dK ks vs), z => (keyD z).map fun q => valD (ks.zip vs) q
  | .d (.dT ks vs), z => (keyT z).map fun q => valD (ks.zip vs) q
  | _, _ => none
def mDIn (neg : Bool) : B → B → Option D := fun x y => x.asD.bind fun d => (y.dget d).map fun o => .bl (if neg then !o.isSome else o.isSome)
def mDGet : B → B → Option D := fun x y => y.asD.bind fun d => (x.dget d).bind id
def mLenD : List B → Option D
  | [.t kvs] => some (.int kvs.length)
  | [.k kvs] => some (.int kvs.length)
  | _ => none
def sNewT (i : Nat) : G → Option Out := fun Γ => some (.nx (Γ.set i (.ot [])))
def sNewK (i : Nat) : G → Option Out := fun Γ => some (.nx (Γ.set i (.ok [])))
def putS : S → D → D → Option S
  | .ot kvs, k, v => (keyT k).bind fun k => if kvs.length < sizeLine then some (.ot (putD kvs k v)) else none
  | .ok kvs, k, v => (keyD k).bind fun k => if kvs.length < sizeLine then some (.ok (putD kvs k v)) else none
  | _, _, _ => none
def sDPutM (i : Nat) (fk fv : G → Option B) : G → Option Out := fun Γ => (fv Γ).bind fun bv => bv.asD.bind fun v => (fk Γ).bind fun bk => bk.asD.bind fun k => (Γ[i]?).bind fun s => (putS s k v).map fun s' => .nx (Γ.set i s')
section
variable {K : PySem.W.Frag} {F H : Hp}
theorem keyD_is {d : D} {k : Key} {v : V} (e : keyD d = some k) (h : Is K F d v) : v = kV k := by
  cases d with
  | int i => cases e; show v = V.int i; simpa [Is] using h
  | str x => cases e; show v = V.str x; simpa [Is] using h
  | _ => cases e
theorem keysD_is : ∀ {ds : List D} {ks : List Key} {vs : List V}, keysD ds = some ks → Are K F ds vs → vs = ks.map kV
  | [], _, _, e, h => by cases e; rw [h.inv0]; rfl
  | d :: r, _, _, e, h => by
    obtain ⟨k, hk, e⟩ := bind_some e
    obtain ⟨ks, hks, rfl⟩ := map_some e
    obtain ⟨v, vs, rfl, h1, h2⟩ := h.inv
    rw [keyD_is hk h1, keysD_is hks h2]; rfl
theorem valD_is {κ : Type} [DecidableEq κ] {k : κ} : ∀ {kvs : List (κ × D)} {ws : List (κ × V)}, PAre K F kvs ws → match valD kvs k with
    | none => valV ws k = none
    | some d => ∃ v, valV ws k = some v ∧ Is K F d v
  | _, _, .nil => rfl
  | _, _, @Paired.cons _ _ _ p q ps qs ⟨e, h⟩ r => by
    by_cases z : p.1 = k
    · have e1 : valD (p :: ps) k = some p.2 := by simp [valD, List.find?_cons, z]
      rw [e1]
      exact ⟨q.2, valV_pos (by rw [← e]; exact z), h⟩
    · have e1 : valD (p :: ps) k = valD ps k := by simp [valD, List.find?_cons, z]
      rw [e1, valV_neg (by rw [← e]; exact z)]
      exact valD_is r
theorem pare_any {κ : Type} [DecidableEq κ] {k : κ} : ∀ {kvs : List (κ × D)} {ws : List (κ × V)}, PAre K F kvs ws → (kvs.any fun kv => decide (kv.1 = k)) = ws.any fun kv => decide (kv.1 = k)
  | _, _, .nil => rfl
  | _, _, .cons ⟨e, _⟩ r => by rw [List.any_cons, List.any_cons, e, pare_any r]
theorem pare_map {κ : Type} [DecidableEq κ] {k : κ} {d : D} {v : V} (hd : Is K F d v) : ∀ {kvs : List (κ × D)} {ws : List (κ × V)}, PAre K F kvs ws → PAre K F (kvs.map fun kv => if kv.1 = k then (kv.1, d) else kv) (ws.map fun kv => if kv.1 = k then (kv.1, v) else kv)
  | _, _, .nil => .nil
  | _, _, @Paired.cons _ _ _ p q ps qs ⟨e, h⟩ r => by
    rw [List.map_cons, List.map_cons]
    refine .cons ?_ (pare_map hd r)
    by_cases z : p.1 = k
    · rw [if_pos z, if_pos (by rw [← e]; exact z)]; exact ⟨e, hd⟩
    · rw [if_neg z, if_neg (by rw [← e]; exact z)]; exact ⟨e, h⟩
theorem pare_snoc {κ : Type} {p : κ × D} {q : κ × V} (hp : p.1 = q.1 ∧ Is K F p.2 q.2) : ∀ {kvs : List (κ × D)} {ws : List (κ × V)}, PAre K F kvs ws → PAre K F (kvs ++ [p]) (ws ++ [q])
  | _, _, .nil => .cons hp .nil
  | _, _, .cons h r => .cons h (pare_snoc hp r)
theorem putD_is {κ : Type} [DecidableEq κ] {k : κ} {d : D} {v : V} {kvs : List (κ × D)} {ws : List (κ × V)} (h : PAre K F kvs ws) (hd : Is K F d v) : PAre K F (putD kvs k d) (putK ws k v) := by
  unfold putD putK
  rw [pare_any h]
  split
  · exact pare_map hd h
  · exact pare_snoc ⟨rfl, hd⟩ h
theorem pare_len {κ : Type} {kvs : List (κ × D)} {ws : List (κ × V)} (h : PAre K F kvs ws) : ws.length = kvs.length := (Paired.length h).symm
theorem keyT_is {d : D} {ks : List Key} {v : V} (sm : Same F H) (e : keyT d = some ks) (h : Is K F d v) : ∃ b, v = .ref b ∧ H b = some (.tup (ks.map kV)) := by
  cases d with
  | tup ds =>
    have h' := h
    simp only [Is] at h'
    obtain ⟨b, vs, rfl, hf, ra⟩ := h'
    have := keysD_is e ra
    subst this
    exact ⟨b, rfl, sm _ _ hf⟩
  | _ => cases e
def OIs (K : PySem.W.Frag) (F : Hp) (o : Option D) (r : Option V) : Prop := match o with
  | none => r = none
  | some z => ∃ v, r = some v ∧ Is K F z v
theorem pare_zip {κ : Type} : ∀ {ws : List (κ × V)} {ds : List D}, Are K F ds (ws.map Prod.snd) → PAre K F ((ws.map Prod.fst).zip ds) ws
  | [], ds, h => by
    cases ds with
    | nil => exact .nil
    | cons d r => obtain ⟨_, _, e, _⟩ := h.inv; cases e
  | w :: ws, ds, h => by
    cases ds with
    | nil => have := h.inv0; cases this
    | cons d r =>
      obtain ⟨v, q, e, h1, h2⟩ := h.inv
      rw [List.map_cons] at e
      cases e
      exact .cons ⟨rfl, h1⟩ (pare_zip h2)
theorem dget_is {b : B} {d : D} {o : Option D} {x y : V} (sm : Same F H) (hb : BIs K F H b x) (hd : Is K F d y) (e : b.dget d = some o) : ∃ a r, x = .ref a ∧ DGet H a y r ∧ OIs K F o r := by
  cases b with
  | t kvs =>
    obtain ⟨ks, hk, rfl⟩ := map_some e
    obtain ⟨a, ws, rfl, ha, hp⟩ := hb
    obtain ⟨b, rfl, hb⟩ := keyT_is sm hk hd
    refine ⟨a, valV ws ks, rfl, DGet.t ha hb, ?_⟩
    have := valD_is (k := ks) hp
    cases q : valD kvs ks with
    | none => rw [q] at this; exact this
    | some z => rw [q] at this; exact this
  | k kvs =>
    obtain ⟨ks, hk, rfl⟩ := map_some e
    obtain ⟨a, ws, rfl, ha, hp⟩ := hb
    have := keyD_is hk hd
    subst this
    refine ⟨a, valV ws ks, rfl, DGet.k ha, ?_⟩
    have := valD_is (k := ks) hp
    cases q : valD kvs ks with
    | none => rw [q] at this; exact this
    | some z => rw [q] at this; exact this
  | d b =>
    cases b with
    | dK ks ds =>
      obtain ⟨k, hk, rfl⟩ := map_some e
      have hb' : Is K F (.dK ks ds) x := hb
      simp only [Is] at hb'
      obtain ⟨a, ws, rfl, ha, rfl, hr⟩ := hb'
      have := keyD_is hk hd
      subst this
      refine ⟨a, valV ws k, rfl, DGet.k (sm _ _ ha), ?_⟩
      have := valD_is (k := k) (pare_zip hr)
      cases q : valD ((ws.map Prod.fst).zip ds) k with
      | none => rw [q] at this; exact this
      | some z => rw [q] at this; exact this
    | dT ks ds =>
      obtain ⟨k, hk, rfl⟩ := map_some e
      have hb' : Is K F (.dT ks ds) x := hb
      simp only [Is] at hb'
      obtain ⟨a, ws, rfl, ha, rfl, hr⟩ := hb'
      obtain ⟨b, rfl, hb⟩ := keyT_is sm hk hd
      refine ⟨a, valV ws k, rfl, DGet.t (sm _ _ ha) hb, ?_⟩
      have := valD_is (k := k) (pare_zip hr)
      cases q : valD ((ws.map Prod.fst).zip ds) k with
      | none => rw [q] at this; exact this
      | some z => rw [q] at this; exact this
    | _ => cases e
  | _ => cases e
end
section
variable {X : Cx} {a b c e : Expr} {f g h : G → Option B} {pos : Pos} {es : List Expr} {fs : G → Option (List B)}
def rDIn (neg : Bool) : R2 := fun x y H Q => ∃ a o, y = .ref a ∧ DGet H a x o ∧ Q (.bl (if neg then !o.isSome else o.isSome)) H
theorem op_dinP (hu : X.A.units + 1 < cLine) : OpR X (compareOp .In) (rDIn false) := by
  intro pins s σ H x y v u Q I rx ry ⟨a, o, ey, g, q⟩
  subst ey
  cases ry
  exact d_in hu I g rx fun s' I' => ⟨.bl _, H, I', rfl, q⟩
theorem ob_din {K : PySem.W.Frag} {neg : Bool} : OpB K (rDIn neg) (mDIn neg) := fun F H x y v u d Q sm hx hy e q => by
  obtain ⟨z, hz, e⟩ := bind_some e
  obtain ⟨o, ho, rfl⟩ := map_some e
  have := asD_some hz; subst this
  obtain ⟨a, r, rfl, g, hr⟩ := dget_is sm hy hx ho
  refine ⟨a, r, rfl, g, ?_⟩
  have : r.isSome = o.isSome := by
    cases o with
    | none => rw [hr]; rfl
    | some z => obtain ⟨v, rfl, _⟩ := hr; rfl
  rw [this]
  exact q _ F H (.refl sm) is_blD
theorem e_dget (hu : X.A.units + 1 < cLine) (ha : EE X a f) (hb : EE X b g) (hs : NoSl b) : EE X (.Subscript a b pos) (x2 mDGet f g) :=
  pe_weak (pe_dget hu ha hb hs) fun σ H Q ⟨F0, H0, F, Γ, z, E, e, q⟩ => by
    obtain ⟨x, y, d, hx, hy, hd, rfl⟩ := x2_some e
    refine ⟨F0, H0, F, Γ, x, E, hx, fun v F1 H1 e1 r1 => ⟨F0, H0, F1, Γ, y, E.grow e1, hy, fun u F2 H2 e2 r2 => ?_⟩⟩
    obtain ⟨k, hk, hd1⟩ := bind_some hd
    obtain ⟨o, ho, hd2⟩ := bind_some hd1
    have := asD_some hk; subst this
    have hd' : o = some d := hd2
    subst hd'
    obtain ⟨a, r, rfl, g, w, rfl, hw⟩ := dget_is e2.fh (r1.ext e2) r2 ho
    exact ⟨a, w, rfl, g, q w F2 H2 (e1.trans e2) hw⟩
/-! len -/
/-! x = {} -/
/-! x[k] = v -/
theorem s_dput {i : Nat} {x : Str} {key value : Expr} {fk fv : G → Option B} {px ppos : Pos} (hu : X.A.units + 1 < cLine) (ho : PE X (.Name x px) (tVar i)) (hk : EE X key fk) (hv : EE X value fv) (hs : swapsWith value (some (.Subscript (.Name x px) key ppos)) pos.line X.env = pure false := by rfl) :
    SD X (.Assign [.Subscript (.Name x px) key ppos] value pos) (sDPutM i fk fv) := ps_weak (ps_dput hu ho hk hv hs) fun E σ H ⟨F0, H0, F, Γ, z, En, e, q⟩ => by
  obtain ⟨bv, hbv, e⟩ := bind_some e
  obtain ⟨v, hv, e⟩ := bind_some e
  obtain ⟨bk, hbk, e⟩ := bind_some e
  obtain ⟨k, hk, e⟩ := bind_some e
  obtain ⟨s, hs, e⟩ := bind_some e
  obtain ⟨s', hs', rfl⟩ := map_some e
  have := asD_some hv; subst this
  have := asD_some hk; subst this
  refine ⟨F0, H0, F, Γ, _, En, hbv, fun vv F1 H1 e1 r1 => ?_⟩
  have E1 := En.grow e1
  obtain ⟨o, ho, hso⟩ := E1.val i s hs
  cases s with
  | ot kvs =>
    obtain ⟨ks, hks, hs'⟩ := bind_some hs'
    by_cases hz : kvs.length < sizeLine
    · rw [if_pos hz] at hs'; cases hs'
      obtain ⟨a, ws, rfl, ha, hp, hfa, h0a⟩ := hso
      refine ⟨.ref a, ho, F0, H0, F1, Γ, _, E1, hbk, fun kk F2 H2 e2 r2 => ?_⟩
      have ha2 := e2.hh _ _ ha
      have hf2 : F2 a = none := e2.freed hfa (by rw [ha]; simp)
      obtain ⟨b, rfl, hb⟩ := keyT_is e2.fh hks r2
      have hp2 := hp.mono e2.ff
      refine ⟨a, _, rfl, DPut.t (v := vv) ha2 hb (by rw [pare_len hp2]; exact hz), ?_⟩
      exact q σ F2 _ ((E1.grow e2).change (s1 := .ot kvs) hs rfl ho h0a hf2 ⟨a, _, rfl, upd_same, putD_is hp2 (r1.mono e2.ff), hf2, h0a⟩) (e1.ff.trans e2.ff)
    · rw [if_neg hz] at hs'; cases hs'
  | ok kvs =>
    obtain ⟨ks, hks, hs'⟩ := bind_some hs'
    by_cases hz : kvs.length < sizeLine
    · rw [if_pos hz] at hs'; cases hs'
      obtain ⟨a, ws, rfl, ha, hp, hfa, h0a⟩ := hso
      refine ⟨.ref a, ho, F0, H0, F1, Γ, _, E1, hbk, fun kk F2 H2 e2 r2 => ?_⟩
      have ha2 := e2.hh _ _ ha
      have hf2 : F2 a = none := e2.freed hfa (by rw [ha]; simp)
      have := keyD_is hks r2
      subst this
      have hp2 := hp.mono e2.ff
      refine ⟨a, _, rfl, DPut.k (v := vv) ha2 (by rw [pare_len hp2]; exact hz), ?_⟩
      exact q σ F2 _ ((E1.grow e2).change (s1 := .ok kvs) hs rfl ho h0a hf2 ⟨a, _, rfl, upd_same, putD_is hp2 (r1.mono e2.ff), hf2, h0a⟩) (e1.ff.trans e2.ff)
    · rw [if_neg hz] at hs'; cases hs'
  | _ => cases hs'
end
end DD

namespace DD
open PySem PySem.Spec L2
open PyProof.Rows hiding St
open PySem.SeqAt (shaped compareEq_shaped compareNe_shaped canLay_of_shaped room_of_shaped eqAt_reads)
section
variable {X : Cx} {a b c e : Expr} {f g h : G → Option B} {pos : Pos} {es : List Expr} {fs : G → Option (List B)}
/-! ### cuts -/
def dO (K : PySem.W.Frag) (f : G → Option (Option Int)) : TO := fun σ H Q => ∃ F0 H0 F Γ z, EnvIs K F0 H0 F H σ Γ ∧ f Γ = some z ∧ ∀ F' H', Ext F H F' H' → Q z H'
def EO (X : Cx) (e : Option Expr) (f : G → Option (Option Int)) : Prop := PO X e (dO X.K f)
def xNoP : G → Option (Option Int) := fun _ => some none
def xP (f : G → Option B) : G → Option (Option Int) := fun Γ => (f Γ).bind fun b => b.int.map some
theorem po_weak {o : Option Expr} {t t' : TO} (h : PO X o t) (w : ∀ σ H Q, t' σ H Q → t σ H Q) : PO X o t' := fun pins s σ H Q I q => h pins s σ H Q I (w σ H Q q)
theorem o_none : EO X none xNoP := po_weak po_none fun σ H Q ⟨F0, H0, F, Γ, z, E, e, q⟩ => by cases e; exact q F H (.refl E.fh)
theorem o_some (h : EE X e f) : EO X (some e) (xP f) := po_weak (po_some h) fun σ H Q ⟨F0, H0, F, Γ, z, E, e, q⟩ => by
  obtain ⟨x, hx, e⟩ := bind_some e
  obtain ⟨i, hi, rfl⟩ := map_some e
  exact ⟨F0, H0, F, Γ, x, E, hx, fun v F1 H1 e1 r1 => ⟨i, int_is hi r1, q F1 H1 e1⟩⟩
def cutD (ds : List D) (lo hi : Option Int) : List D := (ds.drop (HT.sIx ds.length 0 lo)).take (HT.sIx ds.length ds.length hi - HT.sIx ds.length 0 lo)
def wholeD (ds : List D) (lo hi : Option Int) : Bool := decide (HT.sIx ds.length 0 lo = 0) && decide (HT.sIx ds.length ds.length hi = ds.length)
def slB : B → Option Int → Option Int → Option D
  | .d (.tup ds), lo, hi => if wholeD ds lo hi = true then none else some (.tup (cutD ds lo hi))
  | .d (.lst ds), lo, hi => some (.lst (cutD ds lo hi))
  | .l ds, lo, hi => some (.lst (cutD ds lo hi))
  | _, _, _ => none
def xSl (f : G → Option B) (fl fh : G → Option (Option Int)) : G → Option B := fun Γ => (f Γ).bind fun x => (fl Γ).bind fun lo => (fh Γ).bind fun hi => (slB x lo hi).map B.d
theorem cut_are {K : PySem.W.Frag} {F : Hp} {ds : List D} {vs : List V} {lo hi : Option Int} (r : Are K F ds vs) : Are K F (cutD ds lo hi) (cutV vs lo hi) := by
  unfold cutD cutV
  rw [r.length]
  exact (r.drop _).take _
theorem e_sl {lo hi : Option Expr} {fl fh : G → Option (Option Int)} {p2 : Pos} (he : EE X e f) (hl : EO X lo fl) (hh : EO X hi fh) : EE X (.Subscript e (.Slice lo hi none p2) pos) (xSl f fl fh) :=
  pe_weak (pe_slice (sl_list.or sl_tup) he hl hh) fun σ H Q ⟨F0, H0, F, Γ, z, E, e, q⟩ => by
    obtain ⟨x, hx, e⟩ := bind_some e
    obtain ⟨l, hl, e⟩ := bind_some e
    obtain ⟨u, hu, e⟩ := bind_some e
    obtain ⟨d, hd, rfl⟩ := map_some e
    refine ⟨F0, H0, F, Γ, x, E, hx, fun v F1 H1 e1 r1 => ⟨F0, H0, F1, Γ, l, E.grow e1, hl, fun F2 H2 e2 => ⟨F0, H0, F2, Γ, u, (E.grow e1).grow e2, hu, fun F3 H3 e3 => ?_⟩⟩⟩
    have r3 : BIs X.K F3 H3 x v := (r1.ext e2).ext e3
    have e123 := (e1.trans e2).trans e3
    have lst : ∀ {ds : List D}, x.lst = some ds → d = .lst (cutD ds l u) → (rSlL X.K v l u H3 Q ∨ rSlT X.K v l u H3 Q) := fun {ds} h1 h2 => by
      obtain ⟨p, vs, rfl, hp, ra⟩ := lst_is e3.fh h1 r3
      refine .inl ⟨p, vs, rfl, SqL.of hp, fun q' hq' => q _ (upd F3 q' (.lst (cutV vs l u))) _ (e123.trans (.fix e3.fh hq' _)) ?_⟩
      subst h2
      show Is _ _ (.lst _) _
      simp only [Is]
      exact ⟨q', _, rfl, upd_same, (cut_are ra).mono (same_upd (e3.fh.free hq') _)⟩
    cases x with
    | d w =>
      cases w with
      | tup ds =>
        unfold slB at hd
        simp only at hd
        by_cases hw : wholeD ds l u = true
        · rw [if_pos hw] at hd; cases hd
        · rw [if_neg hw] at hd; cases hd
          have r3' : Is X.K F3 (.tup ds) v := r3
          simp only [Is] at r3'
          obtain ⟨p, vs, rfl, hp, ra⟩ := r3'
          refine .inr ⟨p, vs, rfl, SqT.of (e3.fh _ _ hp), fun hz => hw ?_, fun q' hq' => q _ (upd F3 q' (.tup (cutV vs l u))) _ (e123.trans (.fix e3.fh hq' _)) ?_⟩
          · unfold wholeD
            rw [ra.length] at hz
            rw [decide_eq_true hz.1, decide_eq_true hz.2]; rfl
          · show Is _ _ (.tup _) _
            simp only [Is]
            exact ⟨q', _, rfl, upd_same, (cut_are ra).mono (same_upd (e3.fh.free hq') _)⟩
      | lst ds => exact lst rfl (by cases hd; rfl)
      | _ => cases hd
    | l ds => exact lst rfl (by cases hd; rfl)
    | _ => cases hd
/-! ### xs.index(y) -/
def mIndex : B → B → Option D := fun x y => x.lst.bind fun ds => (toPB y).bind fun q => if shaped q = true ∧ (toPs ds).all shaped = true then ((toPs ds).findIdx? fun p => PyData.eqv p q).map fun (j : Nat) => .int (j : Int) else none
def rIndex (K : PySem.W.Frag) : V → List V → Hp → VK → Prop := fun x vs H Q => ∃ F l ds ws y q j, x = .ref l ∧ vs = [y] ∧ Same F H ∧ H l = some (.lst ws) ∧ Are K F ds ws ∧ RP K H y q ∧ shaped q = true ∧ (∀ p ∈ toPs ds, shaped p = true) ∧ (toPs ds).findIdx? (fun p => PyData.eqv p q) = some j ∧ Q (.int (j : Nat)) H
end
end DD

namespace HT
open PySem PyProof.Rows
open PySem.SeqAt
open PySem.AutoSeq1 (wpAny_loadPart')
open PySem.MeetsSeq PySem.MeetsSeq2 PySem.MeetsSeq3
/-! ### tuples in order -/
def ordSz (op : CmpOp) (m n : Nat) : Bool := match op with
  | .LtE => decide (m ≤ n)
  | .Gt => decide (n < m)
  | _ => false
inductive OrdL (A : Around) (s : Shared) (op : CmpOp) : List Value → List Value → Bool → Prop where
  | fin {r : Bool} (vs ws : List Value) (h : vs = [] ∨ ws = []) (hr : r = ordSz op vs.length ws.length) : OrdL A s op vs ws r
  | eq {vs ws : List Value} {r : Bool} (v u : Value) (h : EqAt A s v u true) (t : OrdL A s op vs ws r) : OrdL A s op (v :: vs) (u :: ws) r
  | ne {vs ws : List Value} {r : Bool} (v u : Value) (h : EqAt A s v u false) (hc : ∀ (prog : Program) (w : World) (E : Value → Shared → Prop) (Q : Value → Shared → Prop), Q (.bool r) s → wpAny (model prog w) A (richCompare op v u) Q E s) : OrdL A s op (v :: vs) (u :: ws) r

end HT

namespace DD
open PySem PySem.Spec L2
open PyProof.Rows hiding St
open PySem.SeqAt (shaped compareEq_shaped compareNe_shaped canLay_of_shaped room_of_shaped eqAt_reads)
/-! ### pairs of a number and a tuple of numbers, in order -/
def lexLe : List Int → List Int → Bool
  | [], _ => true
  | _ :: _, [] => false
  | x :: xs, y :: ys => if x = y then lexLe xs ys else decide (x ≤ y)
def lexGt : List Int → List Int → Bool
  | [], _ => false
  | _ :: _, [] => true
  | x :: xs, y :: ys => if x = y then lexGt xs ys else decide (y < x)
def intsD (ns : List Int) : List D := ns.map D.int
def pairLe (i j : Int) (ns ms : List Int) : Bool := if i = j then lexLe ns ms else decide (i ≤ j)
def pairGt (i j : Int) (ns ms : List Int) : Bool := if i = j then lexGt ns ms else decide (j < i)
def rPair (K : PySem.W.Frag) (res : Int → Int → List Int → List Int → Bool) : R2 := fun x y H Q => ∃ F i j ns ms, Same F H ∧ Is K F (.tup [.int i, .tup (intsD ns)]) x ∧ Is K F (.tup [.int j, .tup (intsD ms)]) y ∧ Q (.bl (res i j ns ms)) H
section
variable {X : Cx} {pins : List (Addr × Obj)} {σ : St} {F H : Hp} {s : Shared}
def ordB : CmpOp → Bool
  | .LtE => true
  | _ => false
end
/-- a list of numbers -/
def asInts : List D → Option (List Int)
  | [] => some []
  | .int i :: r => (asInts r).map fun ns => i :: ns
  | _ :: _ => none
def mPair (res : Int → Int → List Int → List Int → Bool) : B → B → Option D
  | .d (.tup [.int i, .tup as]), .d (.tup [.int j, .tup bs]) => (asInts as).bind fun ns => (asInts bs).map fun ms => .bl (res i j ns ms)
  | _, _ => none
section
variable {X : Cx} {a b c e f' : Expr} {f g h : G → Option B} {pos : Pos} {es : List Expr} {fs : G → Option (List B)}
/-! ### is None -/
def mIsN : B → B → Option D
  | .d .non, .d .non => some (.bl true)
  | .d (.tup _), .d .non => some (.bl false)
  | _, _ => none
/-! ### d.get(k, x) -/
def x3get (f g h : G → Option B) : G → Option B := fun Γ => (f Γ).bind fun x => (g Γ).bind fun y => (h Γ).bind fun z => y.asD.bind fun k => z.asD.bind fun dd => (x.dget k).map fun o => .d (o.getD dd)
/-! ### enumerate(l), l a list -/
def xEnL (fs : G → Option (List B)) : G → Option (List D) := fun Γ => (fs Γ).bind fun bs => match bs with
  | [.d (.lst ds)] => some (enumD ds)
  | _ => none
/-! ### {k: v}, k a tuple -/
def tDisp1 (tk tv : TE) : TE := fun σ H Q => ∀ p, H p = none → tPairs [(tk, tv)] σ (upd H p (.dT [])) fun ps H2 => ∃ (x y : V) (ks : List Key) (b : Addr), ps = [(x, y)] ∧ x = .ref b ∧ H2 b = some (.tup (ks.map kV)) ∧ H2 p = some (.dT []) ∧ Q (.ref p) (upd H2 p (.dT [(ks, y)]))
def sNewT1 (i : Nat) (fk fv : G → Option B) : G → Option Out := fun Γ => (fk Γ).bind fun bk => bk.asD.bind fun k => (fv Γ).bind fun bv => bv.asD.bind fun v => (keyT k).map fun ks => .nx (Γ.set i (.ot [(ks, v)]))
end
end DD

namespace L2
open PySem PySem.Spec PyProof.Rows
/-! ### a tuple times an int -/
section
variable {X : Cx}
def rRepT (K : PySem.W.Frag) : R2 := fun x y H Q => ∃ l k xs, x = .ref l ∧ y = .int k ∧ SqT K H l xs ∧ xs ≠ [] ∧ 2 ≤ k ∧ k < 2 ^ 63 ∧ xs.length * k.toNat ≤ sizeLine ∧
  ∀ p, H p = none → Q (.ref p) (upd H p (.tup (List.replicate k.toNat xs).flatten))
end
end L2
namespace DD
open PySem PySem.Spec L2
open PyProof.Rows hiding St
section
variable {K : PySem.W.Frag} {F H : Hp} {X : Cx}
def mRepT : B → B → Option D
  | .d (.tup ds), .d (.int k) => if ds ≠ [] ∧ 2 ≤ k ∧ k < 2 ^ 62 ∧ ds.length * k.toNat ≤ sizeLine then some (.tup (List.replicate k.toNat ds).flatten) else none
  | _, _ => none
def mMulT := mOr mMul mRepT
def mPow := mI (fun i j => decide (0 ≤ j) && decide (j ≤ 1000) && decide (-1000 < i) && decide (i < 1000)) fun i j => .int (i ^ j.toNat)
theorem ob_pow : OpB K (rI CPow fun i j => .int (i ^ j.toNat)) mPow := ob_rI (fun i j h => by
  simp only [Bool.and_eq_true, decide_eq_true_eq] at h
  exact ⟨h.1.1.1, by omega, by omega⟩) fun F i j => is_int
/-- list(..) -/
def mList : List B → Option D := fun bs => match bs with
  | [b] => b.seq.map D.lst
  | _ => none
end
end DD

namespace L2
open PySem PySem.Spec PyProof.Rows
/-! ### an exception of an own class that passes from a callee -/
theorem ObjOk.ex {P : Program} {w : World} {H : Hp} {h : Heap} {a : Addr} {o : HO} (x : ObjOk P w H h a o) : ∃ ob, h.get? a = some ob := by
  cases o with
  | lst xs => obtain ⟨_, _, _, _, e⟩ := x; exact ⟨_, e⟩
  | tup xs => obtain ⟨_, _, _, o, e, _⟩ := x; exact ⟨_, e⟩
  | dK kvs => obtain ⟨_, _, _, _, o, _, _, e, _⟩ := x; exact ⟨_, e⟩
  | dT kvs => obtain ⟨_, _, _, _, o, _, _, e, _⟩ := x; exact ⟨_, e⟩
  | set S n => obtain ⟨o, _, _, _, e, _⟩ := x; exact ⟨_, e⟩
  | ins C dx fs => obtain ⟨_, _, _, e, _⟩ := x; exact ⟨_, e⟩
  | own y => obtain ⟨_, e⟩ := x; exact ⟨_, e⟩
  | xd fs => obtain ⟨_, ⟨_, _, _, e, _⟩, _⟩ := x; exact ⟨_, e⟩
  | rng lo hi => obtain ⟨_, _, _, e⟩ := x; exact ⟨_, e⟩
  | frz ob u => obtain ⟨e, _⟩ := x; exact ⟨_, e⟩
  | tbl ps => exact ⟨_, (show h.get? a = some _ from x)⟩
  | met f y => exact ⟨_, (show h.get? a = some _ from x)⟩
  | ext φ => obtain ⟨_, ⟨_, e⟩, _⟩ := x; exact ⟨_, e⟩
structure FlyS (P : Program) (w : World) (C : Addr) (outer : List Env) (H : Hp) (s : Shared) (e : Value) (s' : Shared) (a : Addr) (H' : Hp) (B : Heap) (a0 : Value) : Prop where
  ee : e = .ref a
  same : Same H H'
  os : s'.os = s.os
  bare : AllBare s'.gens
  un : Un (frs outer) [] H H' s.heap s'.heap
  hok : HOk P w H' s'.heap
  fly : Heap.FlyingW B outer a (.ref C) a0 s'.heap
  old : ∀ b o, s.heap.get? b = some o → H b = none → b ∉ frs outer → B.get? b = some o
  trk : ∀ b u o, H' b = some u → s'.heap.get? b = some o → B.get? b = some o
def Fly (P : Program) (w : World) (C : Addr) : CXT := fun outer H s _ e s' => ∃ a H' B a0, FlyS P w C outer H s e s' a H' B a0
section
variable {P : Program} {w : World} {K : PySem.W.Frag} {mg : Str → Option Value} {base : Heap} {N : List Str} {qual : Str} {scope : Scope} {f C : Addr} {cdv : Value} {A : Around} {outer : List Env} {s₀ : Shared} {H₀ : Hp} {E : XK}
/-- raised in a def's body -/
theorem fly_raise {pins : List (Addr × Obj)} {σ : St} {H : Hp} {s : Shared} {h₁ : Heap} {e : Addr} {vs : List Value} (I : Inv (cxOf (Fly P w C) P w K mg base N qual scope f cdv A outer s₀ H₀ E) pins σ H s) (hs : Same H₀ H) (hx : Heap.MadeExcOf s.heap h₁ e (.ref C) vs) :
    (cxOf (Fly P w C) P w K mg base N qual scope f cdv A outer s₀ H₀ E).xe (.ref e) { s with heap := h₁ } := by
  show wpAny (model P w) (A.deeper (envOfC qual scope s₀.heap.objs.size f cdv)) (leaving (envOfC qual scope s₀.heap.objs.size f cdv) (.ref e)) _ _ { s with heap := h₁ }
  have stk : s.heap.FunFrames base (envOfC qual scope s₀.heap.objs.size f cdv :: outer) := I.stack
  have frm : (A.deeper (envOfC qual scope s₀.heap.objs.size f cdv)).frames = some (envOfC qual scope s₀.heap.objs.size f cdv :: outer) := I.ok.frames
  have free : ∀ b ∈ frs (envOfC qual scope s₀.heap.objs.size f cdv :: outer), H b = none := I.stkFree
  generalize hfr : frs (envOfC qual scope s₀.heap.objs.size f cdv :: outer) = fr at free
  have hin : ∀ env ∈ (envOfC qual scope s₀.heap.objs.size f cdv :: outer), ∀ b, env.frame = some b → b ∈ fr := fun env he b hb => by rw [← hfr]; exact List.mem_filterMap.mpr ⟨env, he, hb⟩
  have sub : ∀ b ∈ fr, b = s₀.heap.objs.size ∨ b ∈ frs outer := fun b hb => by
    rw [← hfr] at hb
    obtain ⟨env, he, hf⟩ := List.mem_filterMap.mp hb
    rcases List.mem_cons.mp he with rfl | he
    · exact .inl (Option.some.inj hf).symm
    · exact .inr (List.mem_filterMap.mpr ⟨env, he, hf⟩)
  have nin : ∀ b o, s₀.heap.get? b = some o → b ∉ frs outer → b ∉ fr := fun b o q hb z => by
    rcases sub b z with z | z
    · exact absurd (Heap.lt_size q) (by rw [z]; exact Nat.lt_irrefl _)
    · exact hb z
  refine wpAny_leaves_madeW (base := PySem.W.hideAll s.heap fr) (h := s.heap) frm rfl (fun b o q => PySem.W.of_hideAll _ q) (PySem.W.funFrames_hide stk hin) hx fun h' t x1 x2 x3 x4 => ?_
  have stay : ∀ b o, b ∉ fr → s.heap.get? b = some o → h'.get? b = some o := fun b o hb q => x1.1 b o (PySem.W.hideAll_get _ q hb)
  have slots : ∀ b o, b ∈ fr → s.heap.get? b = some o → ∃ sl, h'.get? b = some { o with slots := sl } := fun b o hb q => by
    have hm : b ∈ (envOfC qual scope s₀.heap.objs.size f cdv :: outer).filterMap (·.frame) := by rw [← hfr] at hb; exact hb
    obtain ⟨_, o', ho', hnf⟩ := stk.mem hm
    rw [q] at ho'; cases ho'
    exact x4 b o (hx.keeps b o q) hnf
  have base0 : Un (frs outer) [] H₀ H s₀.heap s.heap := I.base
  refine ⟨e, H, PySem.W.hideAll s.heap fr, .ref t, rfl, hs, I.os, I.bare, ⟨fun b o q n hb hx' => ?_, fun b o q n hb hx' => ?_, fun b o q n hx' => base0.free b o q n hx', fun b o q hx' => ?_, base0.tups, base0.frzs, base0.tbls⟩, fun b u hbu => ?_, x1, fun b o q n hb => ?_, fun b u o hbu q => ?_⟩
  · exact stay b o (nin b o q hb) (base0.keep b o q n hb hx')
  · obtain ⟨sl, e1⟩ := base0.slot b o q n hb hx'
    by_cases hf : b ∈ fr
    · obtain ⟨sl', e2⟩ := slots b _ hf e1
      exact ⟨sl', e2⟩
    · exact ⟨sl, stay b _ hf e1⟩
  · obtain ⟨o', e1⟩ := base0.there b o q hx'
    by_cases hf : b ∈ fr
    · obtain ⟨sl', e2⟩ := slots b _ hf e1
      exact ⟨_, e2⟩
    · exact ⟨o', stay b _ hf e1⟩
  · refine (I.hok b u hbu).stay (fun c v hc q => stay c v (fun z => ?_) q) (fun _ q => q) fun _ _ q => q
    have := free c z
    rcases hc with rfl | hc
    · rw [hbu] at this; cases this
    · rw [hc] at this; cases this
  · exact PySem.W.hideAll_get _ (base0.keep b o q n hb (by simp)) (nin b o q hb)
  · have nf : b ∉ fr := fun z => by rw [free b z] at hbu; cases hbu
    obtain ⟨o₁, h1⟩ := (I.hok b u hbu).ex
    have := stay b o₁ nf h1
    rw [q] at this; cases this
    exact PySem.W.hideAll_get _ h1 nf
end
section
variable {X : Cx} {pins : List (Addr × Obj)} {σ : St} {H : Hp} {s s' : Shared} {C a : Addr} {e : Value} {H' : Hp} {B h : Heap} {a0 : Value}
/-- what is held behind it -/
theorem fly_inv {t' : Nat} (I : Inv X pins σ H s) (S : FlyS X.prog X.w C X.stack H s e s' a H' B a0) (hB : B.StaysIn h) (hS : s'.heap.UpToSlots h) : Inv X pins σ H' { s' with heap := h, toks := t' } := by
  have stay : ∀ b o, s.heap.get? b = some o → H b = none → b ∉ frs X.stack → h.get? b = some o := fun b o q n hb => hB b o (S.old b o q n hb)
  have slots : ∀ b o, s.heap.get? b = some o → H b = none → b ∈ frs X.stack → ∃ sl, h.get? b = some { o with slots := sl } := fun b o q n hb => by
    obtain ⟨sl, e1⟩ := S.un.slot b o q n hb (by simp)
    obtain ⟨_, o', ho', hnf⟩ := I.stack.mem hb
    rw [q] at ho'; cases ho'
    obtain ⟨sl', e2⟩ := hS b _ e1 hnf
    exact ⟨sl', e2⟩
  have tk : ∀ b u o, H' b = some u → s'.heap.get? b = some o → h.get? b = some o := fun b u o q1 q2 => hB b o (S.trk b u o q1 q2)
  refine I.call' (s' := { s' with heap := h, toks := t' }) (ch := []) S.os ⟨fun b o q n hb _ => stay b o q n hb, fun b o q n hb _ => slots b o q n hb, S.un.free, fun b o q hx => ?_, S.un.tups, S.un.frzs, S.un.tbls⟩ (fun b u hbu => ?_) S.bare (fun b z => absurd z (by simp))
  · cases n : H b with
    | none =>
      by_cases hb : b ∈ frs X.stack
      · obtain ⟨sl, e1⟩ := slots b o q n hb; exact ⟨_, e1⟩
      · exact ⟨o, stay b o q n hb⟩
    | some u =>
      obtain ⟨o', e1⟩ := S.un.there b o q hx
      exact ⟨o', tk b u o' (S.same b u n) e1⟩
  · refine (S.hok b u hbu).stay (fun c v hc q => ?_) (fun _ q => q) fun _ _ q => q
    rcases hc with rfl | hc
    · exact tk c u v hbu q
    · exact tk c _ v hc q
end
end L2

namespace L2
open PySem PySem.Spec PyProof.Rows
/-! ### raise -/
theorem exc_obj {K : PySem.W.Frag} {h : Heap} {C : Addr} {bmB : List Value} {newId : String} (X : K.In h) (q : PySem.W.excIn K C bmB newId = true) :
    ∃ bm N nm q bs hdct sn sub ab col dd k0 k1 k2 k3 k5 mN, h.get? C = some (excClassObj nm q C N bs bm hdct sn sub ab col dd k0 k1 k2 k3 k5 newId) ∧ h.Ns N mN ∧ mN "__init__" = none ∧ OwnTail h bmB bm := by
  unfold PySem.W.excIn at q
  split at q
  · rename_i dd cd sl ho
    split at q
    · rename_i C' bm k0 k1 k2 k3 n k5 hm hs
      simp only [Bool.and_eq_true, beq_iff_eq, Bool.not_eq_true'] at q
      obtain ⟨⟨⟨⟨⟨rfl, rfl⟩, hdel⟩, ht⟩, hok⟩, hni⟩ := q
      obtain ⟨nm, bs, mro, ns, qn, hd, sn, sub, ab, col, del⟩ := cd
      dsimp only at hm hdel hok hni
      subst hm hdel
      have hsl : sl = #[k0, k1, k2, k3, some (.builtin n), k5] := by
        obtain ⟨l⟩ := sl
        simp only at hs
        rw [hs]
      subst hsl
      exact ⟨bm, ns, nm, qn, bs, hd, sn, sub, ab, col, dd, k0, k1, k2, k3, k5, _, X _ _ ho, .of_isNs (PySem.W.isNs_of_in X hok), PySem.W.nsMap_none_of_in X hok hni, PySem.W.tail_of_in X ht⟩
    · cases q
  · cases q
section
variable {P : Program} {w : World} {K : PySem.W.Frag} {mg : Str → Option Value} {base : Heap} {N : List Str} {qual : Str} {scope : Scope} {f C : Addr} {cdv : Value} {A : Around} {outer : List Env} {s₀ : Shared} {H₀ : Hp} {E : XK}
theorem ps_raise {B newId initId : String} {bmB : List Value} {x : Str} {msg : Str} {j : Nat} {np apos cpos pos : Pos} (FB : ExcBaseFacts B newId initId bmB) (hq : PySem.W.excIn K C bmB newId = true)
    (hg : Gl (cxOf (Fly P w C) P w K mg base N qual scope f cdv A outer s₀ H₀ E) x) (hm : mg x = some (.ref C)) (hd : (x == ("__debug__" : Str)) = false := by decide) :
    PS (cxOf (Fly P w C) P w K mg base N qual scope f cdv A outer s₀ H₀ E) (.Raise (some (.Call (.Name x np) [.Constant (.str msg) j apos] [] cpos)) none pos) (fun _ _ H => Same H₀ H) := by
  intro pins s σ H D I hs
  obtain ⟨bm, NN, nm, q, bs, hdct, sn, sub, ab, col, dd, k0, k1, k2, k3, k5, mN, hC, hN, hni, T⟩ := exc_obj I.ok.mod.kin hq
  refine wpAny_Raise_call_subT (C := C) (nm := nm) (q := q) (N := NN) (bs := bs) (bm := bm) (hdct := hdct) (sn := sn) (sub := sub) (ab := ab) (col := col) (dd := dd) (k0 := k0) (k1 := k1) (k2 := k2) (k3 := k3) (k5 := k5)
    FB (mN := mN) (T.hasType FB.hasBase) (I.ok.hd rfl) rfl hni (ld_glob I hg hm ⟨rfl, ?_⟩ hd)
  have hp := (pa_cons (X := cxOf (Fly P w C) P w K mg base N qual scope f cdv A outer s₀ H₀ E) (pe_str (x := msg) (j := j) (pos := apos)) pa_nil) cpos pins s σ H (fun vs H1 => H1 = H ∧ vs.length ≤ sizeLine) I (show _ from ⟨rfl, by show 1 ≤ sizeLine; decide⟩)
  refine Calls.evalArgs_plain (wpAny_mono hp (fun us s₂ ⟨vs, H1, I1, r, h1, h2⟩ => ?_) fun _ _ y => y)
  subst h1
  exact ⟨rfl, by rw [← r.length]; exact h2, I1.bk _ _ hC, hN.keeps I1.bk, T.keeps I1.bk, fun h' e hm => fly_raise I1 hs hm⟩
end
/-! ### within an except suite -/
/-- the context of the suite: the exception at a is handled, its object pinned; nothing is raised there -/
abbrev Cx.marked (X : Cx) (a : Addr) (oe : Obj) : Cx := { X with A := X.A.mark (some (.ref a)), calm := false, pn := (a, oe) :: X.pn, xe := fun _ _ => False }
theorem Cx.Ok.marked {X : Cx} (ok : X.Ok) (a : Addr) (oe : Obj) : (X.marked a oe).Ok :=
  ⟨ok.mod, ok.kind, ok.glob, ok.blt, ok.above, ok.inj, ok.has, ok.cab, (fun z => by cases z), ok.frames, ok.stk, ok.exf, ok.bs, ok.bsz, ok.noex, ok.exfs, ok.funs, ok.frf⟩
section
variable {X : Cx} {pins : List (Addr × Obj)} {σ : St} {H : Hp} {s : Shared}
theorem Inv.marked {a : Addr} {oe : Obj} (I : Inv X pins σ H s) (h1 : s.heap.get? a = some oe) (h2 : H a = none) (h3 : a ≠ X.env.locals) (h4 : a ∉ X.fs) (h5 : ∀ v, oe.data ≠ .cell v) : Inv (X.marked a oe) pins σ H s :=
  ⟨I.ok.marked a oe, I.os, I.bare, I.base, I.loc, I.cell, I.free, I.freeC, fun p hp => by
    rcases List.mem_cons.mp (show p ∈ (a, oe) :: (X.pn ++ pins) from hp) with rfl | hp
    · exact ⟨h1, h2, h3, h4, h5⟩
    · exact I.pin p hp, I.hok, I.len⟩
theorem Inv.unmarked {a : Addr} {oe : Obj} (I : Inv (X.marked a oe) pins σ H s) (hok : X.Ok) : Inv X pins σ H s :=
  ⟨hok, I.os, I.bare, I.base, I.loc, I.cell, I.free, I.freeC, fun p hp => I.pin p (List.mem_cons_of_mem _ hp), I.hok, I.len⟩
end
end L2
namespace DD
open PySem PySem.Spec L2
open PyProof.Rows hiding St
/-- a def that refuses, by data -/
def spX (K : PySem.W.Frag) (m : List D → Bool) : Sp := fun vs H _ _ => ∃ F ds, Same F H ∧ Are K F ds vs ∧ m ds = true
def sTry (i : Nat) (m : List D → Bool) : G → Option Out := fun Γ => (xVar i Γ).bind fun b => b.asD.bind fun d => if m [d] = true then some (.rt (.bl true)) else none
section
variable {X : Cx}
end
end DD

namespace L2
open PySem PySem.Spec PyProof.Rows PySem.W
section
variable {prog : Program} {w : World} {A : Around} {E : Value → Shared → Prop} {K : PySem.W.Frag} {h : Heap} {g : Array GenState} {d : Drawn} {t : Nat} {os : OsState} {a C : Addr} {oe : Obj}
/-- what K tells of an own exception's class -/
structure ExcK (K : PySem.W.Frag) (C : Addr) : Prop where
  ga : PySem.W.findIn K (.ref C) "__getattribute__" = some (some (.builtin "BaseException.__getattribute__"))
  gn : PySem.W.findIn K (.ref C) "__getattr__" = some none
  ca : PySem.W.findIn K (.ref C) "__class__" = some (some (.builtin "object.__class__"))
  cg : PySem.W.specialIn K (.builtin "object.__class__") "__get__" = some (some (.builtin "getset_descriptor.__get__"))
  tk : PySem.W.takesIn K (.builtin "object.__class__") = some true
  mo : PySem.W.mroIn K C (.type "object") = some true
  sb : PySem.W.subIn K (.ref C) (.type "BaseException") = some true
  cl : (PySem.W.clsIn K C).isSome = true
/-- a is of the class at C -/
structure TyAt (h : Heap) (a C : Addr) : Prop where
  ex : ∃ o : Obj, h.get? a = some o ∧ o.cls = .ref C
theorem TyAt.type {M : Model} (I : TyAt h a C) : Looks M h (typeOf (.ref a)) (.ref C) := by
  obtain ⟨o, h1, h2⟩ := I.ex
  exact h2 ▸ (Looks.ld h1).andThen .now
theorem exc_find {M : Model} (X : K.In h) (k : ExcK K C) : Looks M h (Builtin.ObjectAttr.find (.ref a) (.ref C) "__class__") (.bind (.builtin "getset_descriptor.__get__") (.builtin "object.__class__")) := by
  have L1 := PySem.W.looks_findIn (M := M) X k.ca
  have L2 : Looks M h (Builtin.ObjectAttr.getOf (some (.builtin "object.__class__"))) (some (.builtin "getset_descriptor.__get__")) := PySem.W.looks_specialIn X k.cg
  have L3 := PySem.W.looks_takesIn (M := M) X k.tk
  refine L1.andThen (L2.andThen ?_)
  exact (show Looks M h (Builtin.ObjectAttr.dataDescriptor? (some (.builtin "object.__class__")) (some (.builtin "getset_descriptor.__get__"))) (some (.builtin "getset_descriptor.__get__", .builtin "object.__class__")) from L3.andThen .now).andThen (Looks.tag .now)
theorem exc_get {R : Result → Shared → Prop} {tp : Value} (X : K.In h) (I : TyAt h a C) (hm : PySem.W.mroIn K C (.type "object") = some true)
    (hq : R (.ok (.ret (.ref C))) ⟨h, g, d, t, os⟩) : codeAny (model prog w) A (.call (.builtin "getset_descriptor.__get__") ⟨[.builtin "object.__class__", .ref a, tp], []⟩) R ⟨h, g, d, t, os⟩ := by
  have L0 := I.type (M := model prog w)
  have L1 := looks_mroIn (M := model prog w) X hm
  refine codeAny_call_builtin KF.slot_gs.plain KF.entry_gs (KF.slot_gs.check _ _ _ _ _ _ _ _ KF.type_class (KF.args_gs _ _ _) ?_)
  unfold Builtin.«getset_descriptor.__get__» Builtin.Getset_descriptor.descrGet
  rw [dga_obj]
  refine wpAny_bind (wpAny_pure ?_)
  unfold Builtin.Getset_descriptor.descrGetter Builtin.Getset_descriptor.descrCheckInstance Builtin.Getset_descriptor.descrNameAndClass isInstance
  simp only [KF.owner_class]
  repeat lk
  refine ⟨Code.quiet_builtin _ (by decide +kernel), codeAny_builtin KF.entry_class ?_⟩
  unfold Builtin.«object.__class__» shownTypeOf
  repeat lk
  exact hq
theorem exc_entry {tk : Tok} {Q : Fin → Shared → Prop} (X : K.In h) (I : TyAt h a C) (k : ExcK K C) (hq : Q (.done (.ret (.ref C))) ⟨h, g, d, t, os⟩) :
    wpAny (model prog w) A (Builtin.«object.__getattribute__» ⟨[.ref a, .str "__class__" tk], []⟩) Q E ⟨h, g, d, t, os⟩ := by
  have L0 := I.type (M := model prog w)
  have L1 := exc_find (a := a) (M := model prog w) X k
  have C1 : ∀ (R : Result → Shared → Prop), R (.ok (.ret (.ref C))) ⟨h, g, d, t, os⟩ → codeAny (model prog w) A (.call (.builtin "getset_descriptor.__get__") ⟨[.builtin "object.__class__", .ref a, .ref C], []⟩) R ⟨h, g, d, t, os⟩ := fun R hR => exc_get X I k.mo hR
  unfold Builtin.«object.__getattribute__»
  repeat (any_goals (first | assumption | (with_reducible refine L0.at ?_) | (with_reducible refine L1.at ?_) | wp_step))
  exact C1 _ (wpAny_pure hq)
theorem exc_check {M : Model} {nameV : Value} {Q : Unit → Shared → Prop} (X : K.In h) (I : TyAt h a C) (k : ExcK K C) (hq : Q () ⟨h, g, d, t, os⟩) : wpAny M A (checkBuiltinCall "BaseException.__getattribute__" ⟨[.ref a, nameV], []⟩) Q E ⟨h, g, d, t, os⟩ := by
  have hk : builtinKind "BaseException.__getattribute__" = some .slot := by decide +kernel
  have hsplit : splitId "BaseException.__getattribute__" = some ("BaseException", "__getattribute__") := by decide +kernel
  have ha := F.args_bexc_ga (.ref a) nameV
  have L0 := I.type (M := M)
  have L2 : Looks M h (isSubtype (.ref C) (.type "BaseException")) true := PySem.W.looks_subIn X k.sb
  simp only [checkBuiltinCall, hk, hsplit]
  refine wpAny_bind ?_
  · unfold isInstance
    repeat (first | (with_reducible refine L0.at ?_) | (with_reducible refine L2.at ?_) | wp_step)
    exact hq
theorem exc_call {tk : Tok} {R : Result → Shared → Prop} (X : K.In h) (I : TyAt h a C) (k : ExcK K C) (hq : R (.ok (.ret (.ref C))) ⟨h, g, d, t, os⟩) :
    codeAny (model prog w) A (.call (.builtin "BaseException.__getattribute__") ⟨[.ref a, .str "__class__" tk], []⟩) R ⟨h, g, d, t, os⟩ :=
  codeAny_call_builtin PySem.F.attr_ValueError.ga.plain F.entry_bexc_ga (exc_check X I k (exc_entry X I k hq))
theorem exc_class {Q : Option Value → Shared → Prop} (X : K.In h) (I : TyAt h a C) (k : ExcK K C) (hq : Q (some (.ref C)) ⟨h, g, d, t + 1, os⟩) :
    wpAny (model prog w) A (getAttr? (.ref a) "__class__") Q E ⟨h, g, d, t, os⟩ := by
  have f3 := PySem.F.attr_ValueError.ga.bind (.ref a)
  have L0 := I.type (M := model prog w)
  have L1 := PySem.W.looks_findIn (M := model prog w) X k.ga
  have L2 := PySem.W.looks_findIn (M := model prog w) X k.gn
  have hx2 : (Value.builtin "BaseException.__getattribute__" == Value.builtin "object.__getattribute__") = false := by decide +kernel
  have hx1 : (onTheHeap (Value.ref C) && Value.builtin "BaseException.__getattribute__" == Value.builtin "object.__getattribute__") = false := by rw [hx2]; rfl
  unfold getAttr? getAttrBy?
  refine wpAny_bind (wpAny_mkText (wpAny_bind (wpAny_attempt ?_)))
  unfold getAttrBy
  refine wpAny_holding (wpAny_bind (L0.at (wpAny_bind (L1.at ?_))))
  dsimp only
  rw [hx1, if_neg Bool.false_ne_true]
  unfold getAttrByItsOwn
  repeat (any_goals (first | assumption | (with_reducible refine L0.at ?_) | (with_reducible refine L1.at ?_) | (with_reducible refine L2.at ?_) | wp_step))
  exact exc_call X I k (PySem.W.handed_on rfl (wpAny_pure hq))
theorem kitx_exc (k : ExcK K C) : PySem.W.KitX K (.ref a) (.ref C) (fun h => TyAt h a C) where
  ty := fun _ _ _ I => I.type
  it := fun _ _ X _ => by
    obtain ⟨cdD, hcD⟩ := Option.isSome_iff_exists.mp k.cl
    unfold PySem.W.clsIn at hcD
    split at hcD
    · rename_i c' d' cd' sl' ho
      intro A' Q' E' s' k q
      unfold isType loadHead
      exact wpAny_bind (wpAny_loadPart (k _ _ (X _ _ ho)) (wpAny_pure q))
    · cases hcD
  ne := fun h tp dd its n sl X htp => by
    obtain ⟨cdD, hcD⟩ := Option.isSome_iff_exists.mp k.cl
    refine Bool.eq_false_iff.mpr fun q => ?_
    have e : C = tp := Value.ref.inj (beq_iff_eq.mp q)
    subst e
    unfold PySem.W.clsIn at hcD
    split at hcD
    · rename_i c' d' cd' sl' ho
      have z := (X _ _ ho).symm.trans htp
      cases z
    · cases hcD
  ca := fun {_ _ _ _ _ s} X I q => by
    obtain ⟨h, g, d, t, os⟩ := s
    exact exc_class X I k q
end
section
variable {X : Cx}
/-- isinstance(e, c), e the exception that is handled -/
def rIsE (K : PySem.W.Frag) (a C : Addr) : List V → Hp → VK → Prop := fun xs H Q => ∃ c u b, xs = [.ref a, c] ∧ (∀ u', RelV c u' → u' = u) ∧ PySem.W.kitOne K (.ref C) u = some b ∧ Q (.bl b) H
theorem call_isE {a C : Addr} {oe : Obj} (k : ExcK X.K C) (hp : (a, oe) ∈ X.pn) (hc : oe.cls = .ref C) : CallR X (.builtin "isinstance") (rIsE X.K a C) := by
  intro pins s σ H xs us Q I r ⟨c, u, b, e, hu, hk, q⟩
  subst e
  cases r with
  | cons r1 r2 =>
    cases r2 with
    | cons r2 r3 =>
      cases r3
      cases r1
      have := hu _ r2
      subst this
      obtain ⟨h1, _⟩ := I.pin (a, oe) (List.mem_append_left _ hp)
      exact PySem.W.kia_one (kitx_exc k) I.kIn ⟨oe, h1, hc⟩ hk (fun z => nomatch z) fun tk => ⟨.bl b, H, I.tok tk, rfl, q⟩
end
end L2

namespace DD
open PySem PySem.Spec L2
open PyProof.Rows hiding St
section
variable {X : Cx}
/-- isinstance(e, c), e at slot j the exception that is handled -/
def tIsE (j : Nat) (a : Addr) (b : Bool) : TE := fun σ H Q => σ[j]? = some (some (.ref a)) ∧ Q (.bl b) H
theorem isE1 {a C : Addr} {oe : Obj} {j : Nat} {n y : Str} {c : V} {u : Value} {b : Bool} {p1 p2 p3 q : Pos} (k : ExcK X.K C) (hp : (a, oe) ∈ X.pn) (hc : oe.cls = .ref C) (hv : PE X (.Name n p1) (tVar j)) (gi : Gl X "isinstance") (mi : X.mg "isinstance" = none)
    (hy : PE X (.Name y p3) (tC c)) (hu : ∀ u', RelV c u' → u' = u) (ht : PySem.W.kitOne X.K (.ref C) u = some b) :
    PE X (.Call (.Name "isinstance" p2) [.Name n p1, .Name y p3] [] q) (tIsE j a b) :=
  pe_weak (pe_callB (call_isE k hp hc) gi mi boot_isinstance (pa_cons hv (pa_cons hy pa_nil))) fun σ H Q ⟨h1, h2⟩ => ⟨.ref a, h1, c, u, b, rfl, hu, ht, h2⟩
/-- when a def refuses -/
def xRef (np n : Nat) (tf : G → Option Bool) : List D → Bool := fun ds => decide (ds.length = np) && decide (tf (startG n ds) = some true)
/-- an own error's class -/
structure ErrC (K : PySem.W.Frag) (mg : Str → Option Value) (x : Str) (C : Addr) : Prop where
  nm : mg x = some (.ref C)
  ex : PySem.W.excIn K C [.type "ValueError", .type "Exception", .type "BaseException", .type "object"] "ValueError.__new__" = true
  kt : PySem.W.ktsIn K C "BaseException" = true
  ek : ExcK K C
theorem errC {K : PySem.W.Frag} {mg : Str → Option Value} {x : Str} {C : Addr} (nm : mg x = some (.ref C)) (ex : PySem.W.excIn K C [.type "ValueError", .type "Exception", .type "BaseException", .type "object"] "ValueError.__new__" = true)
    (kt : PySem.W.ktsIn K C "BaseException" = true) (ga : PySem.W.findIn K (.ref C) "__getattribute__" = some (some (.builtin "BaseException.__getattribute__"))) (gn : PySem.W.findIn K (.ref C) "__getattr__" = some none)
    (ca : PySem.W.findIn K (.ref C) "__class__" = some (some (.builtin "object.__class__"))) (cg : PySem.W.specialIn K (.builtin "object.__class__") "__get__" = some (some (.builtin "getset_descriptor.__get__")))
    (tk : PySem.W.takesIn K (.builtin "object.__class__") = some true) (mo : PySem.W.mroIn K C (.type "object") = some true) (sb : PySem.W.subIn K (.ref C) (.type "BaseException") = some true) : ErrC K mg x C :=
  ⟨nm, ex, kt, ga, gn, ca, cg, tk, mo, sb, by
    cases h : PySem.W.clsIn K C with
    | none => unfold PySem.W.mroIn at mo; rw [h] at mo; cases mo
    | some c => rfl⟩
/-- a def that a caller may call and that refuses -/
structure Refuser (P : Program) (w : World) (K : PySem.W.Frag) (mg : Str → Option Value) (base : Heap) (k : Nat) (x : Str) (C : Addr) (m : List D → Bool) : Prop where
  ex : ∃ fa fd ps, FnOk P w K mg base (Fly P w C) k fa fd ps (spX K m) ∧ mg x = some (.ref fa) ∧ PySem.W.keepIn K (.ref fa) = true ∧ Binds K fd ps []
end
end DD

namespace L2
open PySem PySem.Spec PyProof.Rows
/-! ### a tuple times one: the same tuple -/
section
variable {X : Cx}
def rRepT1 (K : PySem.W.Frag) : R2 := fun x y H Q => ∃ l xs, x = .ref l ∧ y = .int 1 ∧ SqT K H l xs ∧ Q (.ref l) H
end
end L2
namespace DD
open PySem PySem.Spec L2
open PyProof.Rows hiding St
section
variable {K : PySem.W.Frag} {F H : Hp} {X : Cx}
def mRepT1 : B → B → Option D
  | .d (.tup ds), .d (.int k) => if k = 1 then some (.tup ds) else none
  | _, _ => none
def mRepA := mOr mRepT1 mRepT
end
end DD

namespace L2
open PySem PySem.Spec PyProof.Rows
/-! ### texts put together -/
theorem strsAre_of : ∀ {xs : List Str} {its : List Value}, Vals (xs.map V.str) its → StrsAre its xs
  | [], _, r => by cases r; exact .nil
  | x :: xs, _, r => by
    cases r with
    | cons r1 r2 =>
      obtain ⟨t, rfl⟩ := r1
      exact .cons x t (strsAre_of r2)
section
variable {X : Cx}
def rJoin (K : PySem.W.Frag) : V → List V → Hp → VK → Prop := fun x vs H Q => ∃ sep p xs, x = .str sep ∧ vs = [.ref p] ∧ (SqL K H p (xs.map V.str) ∨ SqT K H p (xs.map V.str)) ∧ sep.length ≤ 16 ∧ (xs.map (·.length)).sum + xs.length ≤ 1048576 ∧ Q (.str (Txt.join sep xs)) H
theorem mt_join : MtM X "str.join" (rJoin X.K) := by
  intro pins s σ H x vs v us Q I rx rv ⟨sep, p, xs, e1, e2, hq, h1, h2, q⟩
  subst e1 e2
  obtain ⟨t, rfl⟩ := rx
  obtain ⟨u, rfl, ru⟩ := rv.one
  cases ru
  rcases hq with hq | hq
  · obtain ⟨its, r', pl, hz⟩ := I.list hq
    exact join_listW pl.isList (strsAre_of r') h1 h2 fun t' k => ⟨.str _, H, I.tok k, ⟨t', rfl⟩, q⟩
  · obtain ⟨its, r', pl, hz⟩ := I.tuple hq
    exact join_tupleW pl (strsAre_of r') h1 h2 fun t' k => ⟨.str _, H, I.tok k, ⟨t', rfl⟩, q⟩
end
end L2
namespace DD
open PySem PySem.Spec L2
open PyProof.Rows hiding St
section
variable {X : Cx} {K : PySem.W.Frag} {a e : Expr} {f g : G → Option B}
def strsD : List D → Option (List Str)
  | [] => some []
  | .str x :: r => (strsD r).map (x :: ·)
  | _ => none
theorem strsD_is {F : Hp} : ∀ {ds : List D} {vs : List V} {xs : List Str}, strsD ds = some xs → Are K F ds vs → vs = xs.map V.str
  | [], vs, xs, e, r => by cases e; exact r.inv0
  | d :: ds, vs, xs, e, r => by
    cases d with
    | str x =>
      obtain ⟨ys, hy, rfl⟩ := map_some e
      have r' : ∃ v w, vs = v :: w ∧ Is K F (.str x) v ∧ Are K F ds w := by simpa only [Are] using r
      obtain ⟨v, w, rfl, r1, r2⟩ := r'
      have := strsD_is hy r2
      simp only [Is] at r1
      rw [this, r1]; rfl
    | _ => cases e
def joinOk (sep : Str) (xs : List Str) : Bool := decide (sep.length ≤ 16) && decide ((xs.map (·.length)).sum + xs.length ≤ 1048576)
def mJoin : B → B → Option D
  | .d (.str sep), b => b.seq.bind fun ds => (strsD ds).bind fun xs => if joinOk sep xs = true then some (.str (Txt.join sep xs)) else none
  | _, _ => none
/-- sep.join(..) -/
theorem e_join {apos cpos : Pos} (h1 : PE X (.Call (.Attribute a "join" apos) [e] [] cpos) (tBM X.K "str" (rJoin X.K) (dE X.K f) (tCons (dE X.K g) tNil))) : EE X (.Call (.Attribute a "join" apos) [e] [] cpos) (x2 mJoin f g) :=
  pe_weak h1 fun σ H Q ⟨F0, H0, F, Γ, z, E, e, q⟩ => by
    obtain ⟨x, y, d, hx, hy, hd, rfl⟩ := x2_some e
    match x, hd, hx with
    | .d (.str sep), hd, hx =>
      have hd' : (y.seq.bind fun ds => (strsD ds).bind fun xs => if joinOk sep xs = true then some (D.str (Txt.join sep xs)) else none) = some d := hd
      obtain ⟨ds, hds, hd1⟩ := bind_some hd'
      obtain ⟨xs, hxs, hd2⟩ := bind_some hd1
      by_cases hz : joinOk sep xs = true
      · rw [if_pos hz] at hd2
        cases hd2
        unfold joinOk at hz
        simp only [Bool.and_eq_true, decide_eq_true_eq] at hz
        refine ⟨F0, H0, F, Γ, _, E, hx, fun v F1 H1 e1 r1 => ?_⟩
        have r1' : Is X.K F1 (.str sep) v := r1
        simp only [Is] at r1'
        subst r1'
        refine ⟨rfl, F0, H0, F1, Γ, y, E.grow e1, hy, fun u F2 H2 e2 r2 => ?_⟩
        obtain ⟨p, vs, rfl, hs, ra⟩ := seq_is e2.fh hds r2
        have := strsD_is hxs ra
        subst this
        exact ⟨sep, p, xs, rfl, rfl, hs, hz.1, hz.2, q _ F2 H2 (e1.trans e2) (by show Is X.K F2 (.str _) _; simp only [Is])⟩
      · rw [if_neg hz] at hd2; cases hd2
/-- str(i) -/
def mStr : List B → Option D
  | [b] => b.int.bind fun i => if -1000000 < i ∧ i < 1000000 then some (.str (toString i)) else none
  | _ => none
theorem log_small {i : Int} (h : -1000000 < i ∧ i < 1000000) : i.natAbs.log2 < 1920 := by
  have h1 : i.natAbs < 2 ^ 1920 := Nat.lt_of_lt_of_le (show i.natAbs < 2 ^ 20 by omega) (Nat.pow_le_pow_right (by decide) (by decide))
  by_cases h0 : i.natAbs = 0
  · rw [h0]; decide
  · exact (Nat.log2_lt h0).mpr h1
theorem cb_str : CallB K (fun xs H Q => ∃ i, xs = [.int i] ∧ i.natAbs.log2 < 1920 ∧ Q (.str (toString i)) H) mStr := fun F H bs vs d Q s h e q => by
  match bs, e, h with
  | [b], e, h =>
    obtain ⟨v, rfl, hb⟩ := bare1 h
    obtain ⟨i, hi, e⟩ := bind_some e
    by_cases hz : -1000000 < i ∧ i < 1000000
    · rw [if_pos hz] at e; cases e
      exact ⟨i, by rw [int_is hi hb], log_small hz, q _ F H (.refl s) (by simp only [Is])⟩
    · rw [if_neg hz] at e; cases e
/-- text + text -/
def mCatS : B → B → Option D
  | .d (.str a), .d (.str b) => if a.length + b.length ≤ sizeLine then some (.str (a ++ b)) else none
  | _, _ => none
theorem ob_addS : OpB K (fun x y H Q => ∃ i j, x = .str i ∧ y = .str j ∧ i.length + j.length ≤ sizeLine ∧ Q (.str (i ++ j)) H) mCatS := fun F H x y v u d Q sm hx hy e q => by
  match x, y, e, hx, hy with
  | .d (.str a), .d (.str b), e, hx, hy =>
    unfold mCatS at e
    simp only at e
    by_cases hz : a.length + b.length ≤ sizeLine
    · rw [if_pos hz] at e; cases e
      have hx' : Is K F (.str a) v := hx
      have hy' : Is K F (.str b) u := hy
      simp only [Is] at hx' hy'
      exact ⟨a, b, hx', hy', hz, q _ F H (.refl sm) (by simp only [Is])⟩
    · rw [if_neg hz] at e; cases e
end
end DD

namespace L2
open PySem PySem.Spec PyProof.Rows
/-! ### a text cut at a separator -/
theorem vals_numbered : ∀ (l : List (Str × Tok)), Vals ((l.map (·.1)).map V.str) (strValues l)
  | [] => .nil
  | p :: r => .cons ⟨p.2, rfl⟩ (vals_numbered r)
section
variable {X : Cx}
def rSplit : V → List V → Hp → VK → Prop := fun x vs H Q => ∃ a y, x = .str a ∧ vs = [.str y] ∧ (y.length == 0) = false ∧ a.length + 2 ≤ sizeLine ∧ ∀ l, H l = none → Q (.ref l) (upd H l (.lst ((Txt.split a y).map V.str)))
theorem mt_split : MtM X "str.split" rSplit := by
  intro pins s σ H x vs v us Q I rx rv ⟨a, y, e1, e2, hy, hz, q⟩
  subst e1 e2
  obtain ⟨t, rfl⟩ := rx
  obtain ⟨u, rfl, ru⟩ := rv.one
  obtain ⟨u', rfl⟩ := ru
  have hn : (Builtin.Str.partsBetween a (Builtin.Str.occurrences a y 0 a.length (a.length + 1)) y.length).length ≤ sizeLine := by
    rw [length_partsBetween]
    have := StrLaws.occ_length_le a y 0 a.length (a.length + 1)
    omega
  have fin : ∀ (l : List (Str × Tok)) (k : Nat), l.map (·.1) = Txt.split a y → l.length ≤ sizeLine → EP X pins σ Q (.ref s.heap.objs.size) { s with heap := s.heap.push { cls := .type "list", data := .seq (strValues l).toArray }, toks := k } := fun l k hl hlen =>
    ⟨.ref s.heap.objs.size, _, I.laid (t' := k) (fun b o e => Heap.get?_push_of_some _ e) (Nat.le_refl _) (show ObjOk X.prog X.w _ _ _ (.lst ((Txt.split a y).map V.str)) from ⟨by rw [← hl]; simpa using hlen, strValues l, 0, by rw [← hl]; exact vals_numbered l, Heap.get?_push_size _ rfl⟩), rfl, q _ (I.hok.fresh (Nat.le_refl _))⟩
  have one : ∀ (b : Str) (t : Tok), [Value.str b t] = strValues [(b, t)] := fun _ _ => rfl
  cases h1 : (decide (a.length < y.length) || decide (Builtin.Str.strKind a < Builtin.Str.strKind y)) with
  | true =>
    refine call_meets F.slot_str_split (typeIs_str _ _ _) F.entry_str_split (F.args_str_split_2 _ _) (meets_str_split_cannot_occur a y t u' h1) ?_
    exact fin [(a, t)] s.toks (by unfold Txt.split; simp [h1]) (by show 1 ≤ sizeLine; decide)
  | false =>
    cases hf : (Builtin.Str.occurrences a y 0 a.length (a.length + 1)).isEmpty with
    | true =>
      refine call_meets F.slot_str_split (typeIs_str _ _ _) F.entry_str_split (F.args_str_split_2 _ _) (meets_str_split_not_found a y t u' h1 hy hf) ?_
      exact fin [(a, t)] s.toks (by unfold Txt.split; rw [if_neg (by rw [h1]; exact Bool.false_ne_true), if_pos hf]; rfl) (by show 1 ≤ sizeLine; decide)
    | false =>
      refine call_meets F.slot_str_split (typeIs_str _ _ _) F.entry_str_split (F.args_str_split_2 _ _) (meets_str_split_sep a y t u' h1 hy hf (by omega) hn) ?_
      show wants _ _ _ _
      have e := strsFrom_eq s.toks (Builtin.Str.partsBetween a (Builtin.Str.occurrences a y 0 a.length (a.length + 1)) y.length)
      rw [e]
      exact fin (numbered s.toks _) _ (by rw [numbered_texts]; unfold Txt.split; rw [if_neg (by rw [h1]; exact Bool.false_ne_true), if_neg (by rw [hf]; exact Bool.false_ne_true)]) (by
        have := congrArg List.length (numbered_texts s.toks (Builtin.Str.partsBetween a (Builtin.Str.occurrences a y 0 a.length (a.length + 1)) y.length))
        rw [List.length_map] at this
        rw [this]; exact hn)
end
end L2
namespace DD
open PySem PySem.Spec L2
open PyProof.Rows hiding St
section
variable {X : Cx} {K : PySem.W.Frag} {a e : Expr} {f g : G → Option B}
theorem are_strs {F : Hp} : ∀ (xs : List Str), Are K F (xs.map D.str) (xs.map V.str)
  | [] => .nil
  | x :: r => .cons (by simp only [Is]) (are_strs r)
def mSplit : B → B → Option D
  | .d (.str x), .d (.str y) => if (y.length == 0) = false ∧ x.length + 2 ≤ sizeLine then some (.lst ((Txt.split x y).map D.str)) else none
  | _, _ => none
/-- text.split(sep) -/
theorem e_split {apos cpos : Pos} (h1 : PE X (.Call (.Attribute a "split" apos) [e] [] cpos) (tBM X.K "str" rSplit (dE X.K f) (tCons (dE X.K g) tNil))) : EE X (.Call (.Attribute a "split" apos) [e] [] cpos) (x2 mSplit f g) :=
  pe_weak h1 fun σ H Q ⟨F0, H0, F, Γ, z, E, e, q⟩ => by
    obtain ⟨x, y, d, hx, hy, hd, rfl⟩ := x2_some e
    match x, y, hd, hx, hy with
    | .d (.str x), .d (.str y), hd, hx, hy =>
      have hd' : (if (y.length == 0) = false ∧ x.length + 2 ≤ sizeLine then some (D.lst ((Txt.split x y).map D.str)) else none) = some d := hd
      by_cases hz : (y.length == 0) = false ∧ x.length + 2 ≤ sizeLine
      · rw [if_pos hz] at hd'
        cases hd'
        refine ⟨F0, H0, F, Γ, _, E, hx, fun v F1 H1 e1 r1 => ?_⟩
        have r1' : Is X.K F1 (.str x) v := r1
        simp only [Is] at r1'
        subst r1'
        refine ⟨rfl, F0, H0, F1, Γ, _, E.grow e1, hy, fun u F2 H2 e2 r2 => ?_⟩
        have r2' : Is X.K F2 (.str y) u := r2
        simp only [Is] at r2'
        subst r2'
        refine ⟨x, y, rfl, rfl, hz.1, hz.2, fun l hl => q _ (upd F2 l (.lst ((Txt.split x y).map V.str))) _ (e1.trans (e2.trans (.fix e2.fh hl _))) ?_⟩
        show Is X.K _ (.lst _) _
        simp only [Is]
        exact ⟨l, _, rfl, upd_same, are_strs _⟩
      · rw [if_neg hz] at hd'; cases hd'
end
end DD

namespace DD
open PySem PySem.Spec L2
open PyProof.Rows hiding St
section
variable {X : Cx} {a b tg : Expr} {fs : G → Option (List B)} {pos : Pos}
/-- range(a, b) -/
def xR2 (fs : G → Option (List B)) : G → Option (List D) := fun Γ => (fs Γ).bind fun bs => match bs with
  | [x, y] => x.int.bind fun i => y.int.bind fun j => if (-(2 ^ 62) ≤ i ∧ i < 2 ^ 62) ∧ -(2 ^ 62) ≤ j ∧ j < 2 ^ 62 then some (rangeD i (j - i).toNat) else none
  | _ => none
theorem bare2 {K : PySem.W.Frag} {F H : Hp} {x y : B} {vs : List V} (h : BAre K F H [x, y] vs) : ∃ u v, vs = [u, v] ∧ BIs K F H x u ∧ BIs K F H y v := by
  cases h with
  | cons p q =>
    cases q with
    | cons p2 q2 => cases q2; exact ⟨_, _, rfl, p, p2⟩
theorem i_range2 {p : Pos} (hg : Gl X "range") (hm : X.mg "range" = none) (ha : EA X [a, b] fs) (hs : starEach [a, b] X.env = [(false, eval a X.env), (false, eval b X.env)] := by rfl) (hs2 : starEach [b] X.env = [(false, eval b X.env)] := by rfl) : EI X tg (.Call (.Name "range" p) [a, b] [] pos) (xR2 fs) :=
  pi_weak (pi_range2 hg hm ha hs hs2) fun σ H R ⟨F0, H0, F, Γ, ds, En, e, q⟩ => by
    obtain ⟨bs, hb, e⟩ := bind_some e
    refine ⟨F0, H0, F, Γ, bs, En, hb, fun vs F1 H1 e1 r1 => ?_⟩
    match bs, e, r1 with
    | [x, y], e, r1 =>
      obtain ⟨u, v, rfl, hu, hv⟩ := bare2 r1
      obtain ⟨i, hi, e⟩ := bind_some e
      obtain ⟨j, hj, e⟩ := bind_some e
      have := int_is hi hu
      subst this
      have := int_is hj hv
      subst this
      by_cases hz : (-(2 ^ 62) ≤ i ∧ i < 2 ^ 62) ∧ -(2 ^ 62) ≤ j ∧ j < 2 ^ 62
      · rw [if_pos hz] at e; cases e
        exact ⟨i, j, rfl, ⟨hz.1.1, hz.1.2, hz.2.1, hz.2.2⟩, q _ F1 H1 e1 (iter_r i _)⟩
      · rw [if_neg hz] at e; cases e
end
end DD

namespace L2
open PySem PySem.Spec PyProof.Rows
/-- zip over what reads as xs and ys at each turn -/
def Itz (r1 r2 : Hp → List V → Prop) : It :=
  ⟨fun i H => ∃ xs ys x y, r1 H xs ∧ r2 H ys ∧ xs[i]? = some x ∧ ys[i]? = some y, fun i H x H' => ∃ T u v, H T = none ∧ H' = upd H T (.tup [u, v]) ∧ x = .ref T ∧ (∀ xs, r1 H xs → xs[i]? = some u) ∧ ∀ ys, r2 H ys → ys[i]? = some v,
    fun i H => ∃ xs ys, r1 H xs ∧ r2 H ys ∧ (xs.length ≤ i ∨ ys.length ≤ i)⟩
section
variable {X : Cx} {pins : List (Addr × Obj)} {σ : St} {H : Hp} {s : Shared}
/-- some records have turned, a pair is laid -/
theorem pair_step {cs : List Addr} {u v : V} {x y : Value} {tk' : Nat} {h' : Heap} (I : Inv X pins σ H s) (hcs : ∀ b ∈ cs, FpOk X pins H b) (ru : RelV u x) (rv : RelV v y)
    (hT : h'.get? s.heap.objs.size = some { cls := .type "tuple", data := .seq #[x, y] }) (hk : ∀ b o, b ∉ cs → s.heap.get? b = some o → h'.get? b = some o) :
    Inv X pins σ (upd H s.heap.objs.size (.tup [u, v])) { s with heap := h', toks := tk' } := by
  have hn : H s.heap.objs.size = none := I.hok.fresh (Nat.le_refl _)
  have fT : FpOk X pins H s.heap.objs.size := I.fpOk (Nat.le_refl _) hn
  have ch : ∀ b ∈ s.heap.objs.size :: cs, FpOk X pins H b := fun b hb => by
    rcases List.mem_cons.mp hb with q | hb
    · rw [q]; exact fT
    · exact hcs b hb
  have ne : ∀ b, b ∉ s.heap.objs.size :: cs → b ∉ cs := fun b hb z => hb (List.mem_cons_of_mem _ z)
  have neT : ∀ b o, s.heap.get? b = some o → b ≠ s.heap.objs.size := fun b o q => Nat.ne_of_lt (Heap.lt_size q)
  refine I.step (g' := s.gens) (d' := s.drawn) (ch := s.heap.objs.size :: cs) (fun b hb => let ⟨_, q1, _, q2, q3, q4⟩ := ch b hb; ⟨q2, q1, q3, q4⟩)
    (fun b o _ _ hc q _ => hk b o (ne b hc) q) (fun b o _ _ hc q _ => ⟨o.slots, hk b o (ne b hc) q⟩) (fun b o hc q n => by rw [upd_ne (neT b o q)]; exact n) (fun b o hc q => ⟨o, hk b o (ne b hc) q⟩)
    (fun b xs q => by rw [upd_ne (ne_of_none q hn)]; exact q) (fun b o u q => by rw [upd_ne (ne_of_none q hn)]; exact q) (fun b ps q => ⟨#[], by rw [upd_ne (ne_of_none q hn), q]; simp⟩) (fun m hm => ?_) ?_ I.bare
  · obtain ⟨o, es, ep, ho, r⟩ := hm
    exact ⟨o, es, ep, hk _ o (fun z => (hcs _ z).2.1 rfl) ho, r⟩
  · refine HOk.track I.hok hn (fun b u nb q => hk b u (fun z => nb (hcs b z).1) q) ?_
    exact ⟨by show 2 ≤ sizeLine; decide, [x, y], .cons ru (.cons rv .nil), ⟨_, hT, rfl, _, rfl⟩⟩
/-- some records have turned -/
theorem turned_all {cs : List Addr} {tk' : Nat} {h' : Heap} (I : Inv X pins σ H s) (hcs : ∀ b ∈ cs, FpOk X pins H b) (hk : ∀ b o, b ∉ cs → s.heap.get? b = some o → h'.get? b = some o) :
    Inv X pins σ H { s with heap := h', toks := tk' } := by
  refine I.step (g' := s.gens) (d' := s.drawn) (ch := cs) (fun b hb => let ⟨_, q1, _, q2, q3, q4⟩ := hcs b hb; ⟨q2, q1, q3, q4⟩)
    (fun b o _ _ hc q _ => hk b o hc q) (fun b o _ _ hc q _ => ⟨o.slots, hk b o hc q⟩) (fun _ _ _ _ n => n) (fun b o hc q => ⟨o, hk b o hc q⟩)
    (fun _ _ q => q) (fun _ _ _ q => q) (fun b ps q => ⟨#[], by rw [q]; simp⟩) (fun m hm => ?_) (fun b u q => ?_) I.bare
  · obtain ⟨o, es, ep, ho, r⟩ := hm
    exact ⟨o, es, ep, hk _ o (fun z => (hcs _ z).2.1 rfl) ho, r⟩
  · refine (I.hok b u q).stay (fun c v hc e => hk c v (fun z => ?_) e) (fun _ q => q) fun _ _ q => q
    have := (hcs c z).1
    rcases hc with rfl | hc
    · rw [q] at this; cases this
    · rw [hc] at this; cases this
end
/-- where the records of a zip stand -/
structure ZipRec (z TI TO i1 i2 l1 l2 : Addr) (i : Nat) (h : Heap) : Prop where
  hz : IsZip h z TI TO .none
  hTI : IsPair h TI (.ref i1) (.ref i2)
  hTO : ∃ a b, IsPair h TO a b
  h1 : h.IsListIter i1 l1 i
  h2 : h.IsListIter i2 l2 i
structure ZipDiff (z TI TO i1 i2 : Addr) : Prop where
  TIz : TI ≠ z
  TOz : TO ≠ z
  i1z : i1 ≠ z
  i2z : i2 ≠ z
  TITO : TI ≠ TO
  TIi1 : TI ≠ i1
  TIi2 : TI ≠ i2
  TOi1 : TO ≠ i1
  TOi2 : TO ≠ i2
  i12 : i1 ≠ i2
theorem ZipRec.apart {z TI TO i1 i2 l1 l2 : Addr} {i : Nat} {h : Heap} {xs ys : Array Value} (R : ZipRec z TI TO i1 i2 l1 l2 i h) (D : ZipDiff z TI TO i1 i2) (hl1 : h.IsList l1 xs) (hl2 : h.IsList l2 ys) : ZipApart z TI TO i1 i2 l1 l2 := by
  obtain ⟨a, b, hTO⟩ := R.hTO
  obtain ⟨o1, e1, c1, _⟩ := R.h1
  obtain ⟨o2, e2, c2, _⟩ := R.h2
  have nz : ∀ {l : Addr} {zs : Array Value}, h.IsList l zs → l ≠ z ∧ l ≠ TO ∧ l ≠ i1 ∧ l ≠ i2 := fun {l zs} hl => by
    obtain ⟨o, e, c, _⟩ := hl
    refine ⟨fun q => ?_, fun q => ?_, fun q => ?_, fun q => ?_⟩
    · subst q; have z := e.symm.trans R.hz; cases z; simp at c
    · subst q; have z := e.symm.trans hTO; cases z; simp at c
    · subst q; have z := e.symm.trans e1; cases z; rw [c1] at c; simp at c
    · subst q; have z := e.symm.trans e2; cases z; rw [c2] at c; simp at c
  obtain ⟨a1, a2, a3, a4⟩ := nz hl1
  obtain ⟨b1, b2, b3, b4⟩ := nz hl2
  exact ⟨D.TIz, D.TOz, D.i1z, D.i2z, D.TITO, D.TIi1, D.TIi2, D.TOi1, D.TOi2, D.i12, a1, a2, a3, a4, b1, b2, b3, b4⟩
end L2

namespace L2
open PySem PySem.Spec PyProof.Rows
theorem turn_zip {P : Program} {w : World} {K : PySem.W.Frag} {elts : List Expr} {k : Nat} {tp : Pos} {z TI TO i1 i2 l1 l2 : Addr} (D : ZipDiff z TI TO i1 i2) :
    Turn P w K (.Tuple elts k tp) (Itz (fun H xs => SqL K H l1 xs) fun H ys => SqL K H l2 ys) [z, TI, TO, i1, i2] z (ZipRec z TI TO i1 i2 l1 l2) where
  mem := by simp
  obj := fun i h R b hb => by
    obtain ⟨a, b', hTO⟩ := R.hTO
    obtain ⟨o1, e1, c1, d1⟩ := R.h1
    obtain ⟨o2, e2, c2, d2⟩ := R.h2
    simp only [List.mem_cons, List.not_mem_nil, or_false] at hb
    rcases hb with q | q | q | q | q
    · rw [q]; exact ⟨_, R.hz, fun v z => by
        have z' : Data.fields _ = Data.cell v := z
        cases z'⟩
    · rw [q]; exact ⟨_, R.hTI, fun v z => by
        have z' : Data.seq _ _ = Data.cell v := z
        cases z'⟩
    · rw [q]; exact ⟨_, hTO, fun v z => by
        have z' : Data.seq _ _ = Data.cell v := z
        cases z'⟩
    · rw [q]; exact ⟨_, e1, fun v z => by rw [d1] at z; cases z⟩
    · rw [q]; exact ⟨_, e2, fun v z => by rw [d2] at z; cases z⟩
  keep := fun i h h' R k => ⟨k z (by simp) _ R.hz, k TI (by simp) _ R.hTI, let ⟨a, b, q⟩ := R.hTO; ⟨a, b, k TO (by simp) _ q⟩, R.h1.at fun o q => k i1 (by simp) o q, R.h2.at fun o q => k i2 (by simp) o q⟩
  item := by
    intro X hP hw hK hc i pins s σ H E I hf R hg
    subst hP hw hK
    obtain ⟨xs, ys, x, y, hq1, hq2, hx, hy⟩ := hg
    obtain ⟨its, rv1, p1, hz1⟩ := I.list hq1
    obtain ⟨jts, rv2, p2, hz2⟩ := I.list hq2
    obtain ⟨u, hu, ru⟩ := rv1.get hx
    obtain ⟨v, hv, rv⟩ := rv2.get hy
    have D' := R.apart D p1.isList p2.isList
    obtain ⟨a, b, hTO⟩ := R.hTO
    refine wpAny_pyNext_zip_item D' R.hz R.hTI hTO R.h1 R.h2 p1.isList p2.isList (x := u) (y := v) (by simpa using hu) (by simpa using hv) fun h' a1 a2 a3 a4 a5 a6 hk => ?_
    refine ⟨_, rfl, wpAny_letOwnedTupleGo_zip a1 fun h2 hz2' hs2 => ?_⟩
    have lt : ∀ {c o}, s.heap.get? c = some o → c ≠ s.heap.objs.size := fun e => Nat.ne_of_lt (Heap.lt_size e)
    have hk2 : ∀ b o, b ∉ [z, TI, TO, i1, i2] → s.heap.get? b = some o → h2.get? b = some o := fun b o nb q => by
      simp only [List.mem_cons, List.not_mem_nil, or_false, not_or] at nb
      exact (hs2.2 b nb.1).trans (hk b o nb.1 nb.2.2.1 nb.2.2.2.1 nb.2.2.2.2 q)
    have I2 := pair_step (tk' := s.toks) (cs := [z, TI, TO, i1, i2]) (h' := h2) I (fun b hb => hf b hb) ru rv ((hs2.2 _ (Ne.symm (lt R.hz))).trans a5) hk2
    refine ⟨.ref s.heap.objs.size, _, I2, rfl, ⟨_, x, y, I.hok.fresh (Nat.le_refl _), rfl, rfl, fun zs hz => by rw [I.list_inj hz hq1]; exact hx, fun zs hz => by rw [I.list_inj hz hq2]; exact hy⟩, ⟨hz2', (hs2.2 _ D.TIz).trans (hk _ _ D.TIz D.TITO D.TIi1 D.TIi2 R.hTI), ⟨_, _, (hs2.2 _ D.TOz).trans a2⟩, a3.at fun o q => (hs2.2 _ D.i1z).trans q, a4.at fun o q => (hs2.2 _ D.i2z).trans q⟩, fun b hb => ?_⟩
    have hb' : FpOk X pins H b := hf b hb
    obtain ⟨o1, e1, _⟩ := R.h1
    obtain ⟨o2, e2, _⟩ := R.h2
    rw [upd_ne (fun q => ?_)]
    · exact hb'.1
    · simp only [List.mem_cons, List.not_mem_nil, or_false] at hb
      rcases hb with q' | q' | q' | q' | q'
      · exact lt R.hz (q'.symm.trans q)
      · exact lt R.hTI (q'.symm.trans q)
      · exact lt hTO (q'.symm.trans q)
      · exact lt e1 (q'.symm.trans q)
      · exact lt e2 (q'.symm.trans q)
  done := by
    intro X hP hw hK hc i pins s σ H E I hf R hg
    subst hP hw hK
    obtain ⟨xs, ys, hq1, hq2, hx⟩ := hg
    obtain ⟨its, rv1, p1, hz1⟩ := I.list hq1
    obtain ⟨jts, rv2, p2, hz2⟩ := I.list hq2
    have D' := R.apart D p1.isList p2.isList
    obtain ⟨a, b, hTO⟩ := R.hTO
    have n1 := rv1.length
    have n2 := rv2.length
    refine wpAny_pyNext_zip_end (I.ok.hd hc) D' R.hz R.hTI hTO R.h1 R.h2 p1.isList p2.isList (by
      rcases hx with hx | hx
      · exact .inl (by simp; omega)
      · exact .inr (by simp; omega)) fun h' hk => ⟨rfl, turned_all (cs := [z, TI, TO, i1, i2]) I (fun b hb => hf b hb) fun b o nb q => ?_⟩
    simp only [List.mem_cons, List.not_mem_nil, or_false, not_or] at nb
    exact hk b o nb.1 nb.2.2.1 nb.2.2.2.1 nb.2.2.2.2 q
  self := fun _ _ _ _ _ R h => wpAny_pyIter_zip R.hz h
end L2

namespace L2
open PySem PySem.Spec PyProof.Rows
theorem zip_diff (n : Nat) : ZipDiff (n + 4) (n + 2) (n + 3) n (n + 1) := ⟨fun (q : (n + 2 : Nat) = n + 4) => by omega, fun (q : (n + 3 : Nat) = n + 4) => by omega, fun (q : (n : Nat) = n + 4) => by omega, fun (q : (n + 1 : Nat) = n + 4) => by omega, fun (q : (n + 2 : Nat) = n + 3) => by omega, fun (q : (n + 2 : Nat) = n) => by omega, fun (q : (n + 2 : Nat) = n + 1) => by omega, fun (q : (n + 3 : Nat) = n) => by omega, fun (q : (n + 3 : Nat) = n + 1) => by omega, fun (q : (n : Nat) = n + 1) => by omega⟩
section
variable {X : Cx}
/-- zip(a, b), both lists -/
def iZip (K : PySem.W.Frag) (ta : TA) : TI := fun σ H R => ta σ H fun vs H1 => ∃ a b, vs = [.ref a, .ref b] ∧ (∃ xs, SqL K H1 a xs) ∧ (∃ ys, SqL K H1 b ys) ∧ R (Itz (fun H xs => SqL K H a xs) fun H ys => SqL K H b ys) H1
theorem pi_zip {a b : Expr} {ta : TA} {p pos tp : Pos} {elts : List Expr} {k : Nat} (hg : Gl X "zip") (hm : X.mg "zip" = none) (ha : PA X [a, b] ta) (hs : starEach [a, b] X.env = [(false, eval a X.env), (false, eval b X.env)] := by rfl) (hs2 : starEach [b] X.env = [(false, eval b X.env)] := by rfl) :
    PI X (.Tuple elts k tp) (.Call (.Name "zip" p) [a, b] [] pos) (iZip X.K ta) := by
  intro pins s σ H R I h
  refine Call_ (ld_blt I hg hm boot_zip (PyProof.Rows.callWith_type1 (thn (ha pos pins s σ H _ I h) fun us s1 ⟨vs, H1, I1, r1, q1⟩ => ?_) (by rw [hs, hs2]) (by rw [hs2]; rfl)))
  obtain ⟨l, l', e, ⟨xs, hq⟩, ⟨ys, hq'⟩, q⟩ := q1
  subst e
  cases r1 with
  | cons r rr =>
    cases rr with
    | cons r' rr =>
      cases rr
      cases r
      cases r'
      obtain ⟨its, rv, pt, hz⟩ := I1.list hq
      obtain ⟨jts, rv', pt', hz'⟩ := I1.list hq'
      refine call_zip_2 (xs := its.toArray) (ys := jts.toArray) pt.isList pt'.isList fun h' e1 e2 e3 e4 e5 hsz hk => ?_
      refine wpAny_pyIter_zip e1 ?_
      have I2 : Inv X pins σ H1 { s1 with heap := h' } := I1.kept (t' := s1.toks) hk
      generalize hn : s1.heap.objs.size = n at e1 e2 e3 e4 e5
      refine ⟨n + 4, [n + 4, n + 2, n + 3, n, n + 1], _, _, H1, rfl, I2, turn_zip (z := n + 4) (TI := n + 2) (TO := n + 3) (i1 := n) (i2 := n + 1) (l1 := l) (l2 := l') (zip_diff n), ⟨e1, e2, ⟨_, _, e3⟩, e4, e5⟩, fun b hb => ?_, q⟩
      have hb' : s1.heap.objs.size ≤ b := by
        simp only [List.mem_cons, List.not_mem_nil, or_false] at hb
        show (s1.heap.objs.size : Nat) ≤ (b : Nat)
        rw [hn]
        rcases hb with z | z | z | z | z <;> rw [z]
        · exact Nat.le_add_right n 4
        · exact Nat.le_add_right n 2
        · exact Nat.le_add_right n 3
        · exact Nat.le_refl n
        · exact Nat.le_add_right n 1
      exact I1.fpOk hb' (I1.hok.fresh hb')
end
end L2

namespace DD
open PySem PySem.Spec L2
open PyProof.Rows hiding St
section
variable {X : Cx} {a b : Expr} {fs : G → Option (List B)} {pos : Pos}
/-- zip(a, b), unpacked -/
def zipD (xs ys : List D) : List D := List.zipWith (fun u v => D.tup [u, v]) xs ys
def xZip (fs : G → Option (List B)) : G → Option (List D) := fun Γ => (fs Γ).bind fun bs => match bs with
  | [.d (.lst xs), .d (.lst ys)] => some (zipD xs ys)
  | _ => none
theorem i_zip {p tp : Pos} {elts : List Expr} {k : Nat} (hg : Gl X "zip") (hm : X.mg "zip" = none) (ha : EA X [a, b] fs) (hs : starEach [a, b] X.env = [(false, eval a X.env), (false, eval b X.env)] := by rfl) (hs2 : starEach [b] X.env = [(false, eval b X.env)] := by rfl) :
    EI X (.Tuple elts k tp) (.Call (.Name "zip" p) [a, b] [] pos) (xZip fs) := pi_weak (pi_zip hg hm ha hs hs2) fun σ H R ⟨F0, H0, F, Γ, ds, En, e, q⟩ => by
  obtain ⟨bs, hb, e⟩ := bind_some e
  refine ⟨F0, H0, F, Γ, bs, En, hb, fun vs F1 H1 e1 r1 => ?_⟩
  match bs, e, r1 with
  | [.d (.lst xs), .d (.lst ys)], e, r1 =>
    cases e
    obtain ⟨u, v, rfl, hu, hv⟩ := bare2 r1
    have hu' : Is X.K F1 (.lst xs) u := hu
    have hv' : Is X.K F1 (.lst ys) v := hv
    simp only [Is] at hu' hv'
    obtain ⟨l, us, rfl, hf, ra⟩ := hu'
    obtain ⟨l', ws, rfl, hf', ra'⟩ := hv'
    refine ⟨l, l', rfl, ⟨us, SqL.of (e1.fh _ _ hf)⟩, ⟨ws, SqL.of (e1.fh _ _ hf')⟩, q _ F1 H1 e1 fun i F2 H2 s1 s2 => ?_⟩
    have hq : SqL X.K H2 l us := SqL.of (s2 _ _ (s1 _ _ hf))
    have hq' : SqL X.K H2 l' ws := SqL.of (s2 _ _ (s1 _ _ hf'))
    have n1 := ra.length
    have n2 := ra'.length
    refine ⟨fun d hd => ?_, fun hl => ⟨us, ws, hq, hq', ?_⟩⟩
    · have hlt : i < xs.length ∧ i < ys.length := by
        have := (List.getElem?_eq_some_iff.mp hd).1
        simp [zipD] at this
        omega
      obtain ⟨x, hx, hix⟩ := ra.get (i := i) (d := xs[i]'hlt.1) (by simp [hlt.1])
      obtain ⟨y, hy, hiy⟩ := ra'.get (i := i) (d := ys[i]'hlt.2) (by simp [hlt.2])
      have hd' : d = .tup [xs[i]'hlt.1, ys[i]'hlt.2] := by
        have : (zipD xs ys)[i]? = some (.tup [xs[i]'hlt.1, ys[i]'hlt.2]) := by simp [zipD, List.getElem?_zipWith, hlt.1, hlt.2]
        rw [this] at hd; cases hd; rfl
      subst hd'
      refine ⟨⟨us, ws, x, y, hq, hq', hx, hy⟩, fun x0 H' h0 => ?_⟩
      obtain ⟨T, x', y', hT, rfl, rfl, g1, g2⟩ := h0
      have := g1 us hq
      rw [hx] at this; cases this
      have := g2 ws hq'
      rw [hy] at this; cases this
      refine ⟨upd F2 T (.tup [x, y]), .fix s2 hT _, ?_⟩
      simp only [Is]
      exact ⟨T, _, rfl, upd_same, .cons (hix.mono (s1.trans (same_upd (s2.free hT) _))) (.cons (hiy.mono (s1.trans (same_upd (s2.free hT) _))) .nil)⟩
    · simp [zipD] at hl
      omega
end
end DD

namespace DD
open PySem PySem.Spec L2
open PyProof.Rows hiding St
section
variable {X : Cx} {a b c : Expr} {f g h : G → Option B} {pos : Pos}
/-- if a op b op c -/
theorem t_chain {op op' : CmpOp} {r r' : R2} {m m' : B → B → Option D} (ho : OpR X (compareOp op) r) (hm : OpB X.K r m) (ho' : OpR X (compareOp op') r') (hm' : OpB X.K r' m') (ha : EE X a f) (hb : EE X b g) (hc : EE X c h)
    (hk : lastMarks [op, op'] [b, c] = false := by with_unfolding_all rfl) : ET X (.Compare a [op, op'] [b, c] pos) (xT (x3 m m' f g h)) :=
  pt_weak (pt_chain ho ho' ha hb hc hk) fun σ H Q ⟨F0, H0, F, Γ, z, E, e, q⟩ => x3_go hm hm' ⟨F0, H0, F, Γ, .d (.bl z), E, xT_some e, fun v F' H' e' r => ⟨z, by
    have r' : Is X.K F' (.bl z) v := r
    simpa [Is] using r', q F' H' e'⟩⟩
end
end DD

namespace DN
open PySem PySem.Spec L2
open PyProof.Rows hiding St
/-! ### dict(..) of a list of pairs -/
theorem entry_loop : entryFor table "dict.update.loop" = some Builtin.«dict.update.loop» := entryFor_of_tree (by kernel_rfl)
theorem plain_loop : plainId "dict.update.loop" = true := by decide +kernel
theorem no_keys : typeLookup (.type "list") "keys" = pure none := by rw [typeLookup_type, builtinLookup_eq_fast]; kernel_rfl
section
variable {prog : Program} {w : World} {A : Around} {E : Value → Shared → Prop} {s : Shared}
theorem by_miss {a : Addr} {xs : Array Value} {k : Nat} {sl : Array (Option Value)} {name : Str} {u : Tok} {Q : Value → Shared → Prop}
    (hx : s.heap.get? a = some { cls := .type "list", dict := none, data := .seq xs k, slots := sl }) (hmiss : typeLookup (.type "list") name = pure none)
    (hname : (["__module__", "__name__", "__qualname__", "__doc__", "__annotations__"] : List Str).contains name = false) (hA : A.handled = none)
    (h : ∀ h' tk e, Heap.NewExcOf s.heap h' e "AttributeError" → E (.ref e) { s with heap := h', toks := tk }) (hsz : name.length + 100 ≤ sizeLine := by size_fits) :
    wpAny (model prog w) A (getAttrBy (.ref a) (.str name u) false) Q E s := by
  obtain ⟨hp, g, d, tk, os⟩ := s
  have hT : ∀ tk', (⟨hp, g, d, tk', os⟩ : Shared).TypeIs (.ref a) "list" := fun _ => ⟨_, hx, rfl⟩
  have f1 := sub_AttributeError
  have f3 := F.slot_list_getattribute.lookup
  have f4 := F.slot_list_getattribute.bind (.ref a)
  have f5 := am_list_getattr_none
  unfold getAttrBy
  repeat (any_goals (first | assumption | exact hT _ | ((with_reducible show wpAny _ _ (call (Value.builtin "list.__getattribute__") _ _) _ _ _); refine call_meets F.slot_list_getattribute (hT _) am_entry_list_getattribute (F.args_list_getattribute_2 _ _) (meets_getattribute_miss_list a xs k sl name _ hmiss hname hsz) ⟨hx, hA, fun h' tk' e hx' => ?_⟩) | wp_step))
  obtain ⟨t', u', he⟩ := hx'.there
  show wpAny _ _ (getattributeRaised _ _ _ _ _ _ _) _ _ _
  unfold getattributeRaised
  repeat (any_goals (first | assumption | wp_step))
  exact h _ _ _ hx'.of
theorem attr_miss {a : Addr} {xs : Array Value} {k : Nat} {sl : Array (Option Value)} {name : Str} {Q : Option Value → Shared → Prop}
    (hx : s.heap.get? a = some { cls := .type "list", dict := none, data := .seq xs k, slots := sl }) (hmiss : typeLookup (.type "list") name = pure none)
    (hname : (["__module__", "__name__", "__qualname__", "__doc__", "__annotations__"] : List Str).contains name = false) (hA : A.handled = none)
    (h : ∀ h' tk, (∀ b o, s.heap.get? b = some o → h'.get? b = some o) → Q none { s with heap := h', toks := tk }) (hsz : name.length + 100 ≤ sizeLine := by size_fits) :
    wpAny (model prog w) A (getAttr? (.ref a) name) Q E s := by
  unfold getAttr? getAttrBy?
  refine wpAny_bind (wpAny_mkText ?_)
  refine wpAny_bind (wpAny_attempt (by_miss (s := { s with toks := s.toks + 1 }) hx hmiss hname hA (fun h' tk e hx' => ?_) hsz))
  obtain ⟨ob, vs, he, hc, _⟩ := hx'.there
  refine wpAny_bind (wpAny_isInstance (T := "AttributeError") ⟨ob, he, hc⟩ sub_AttributeError ?_)
  exact wpAny_pure (h _ _ hx'.keeps)
theorem loop {d I l : Addr} {its : Array Value} (hA : A.handled = none) (hdI : d ≠ I) (hdl : d ≠ l) (hlI : l ≠ I) (kvs : List (Key × Value)) (hn : its.size = kvs.length) (hsz : kvs.length ≤ 1000) {R : Result → Shared → Prop} :
    ∀ (n i : Nat) (s : Shared) (acc : List (Key × Value)), kvs.length - i = n → i ≤ kvs.length → acc.length ≤ i → s.heap.IsListIter I l i → s.heap.IsList l its → s.heap.DictOf (mixKind prog w) d acc →
      (∀ j (hj : j < kvs.length), ∃ b key, its[j]? = some (.ref b) ∧ b ≠ d ∧ b ≠ I ∧ IsTup s.heap b #[key, (kvs[j]'hj).2] ∧ (mixKind prog w).is (kvs[j]'hj).1 key = true) →
      (∀ h' tk, h'.DictOf (mixKind prog w) d (merged acc (kvs.drop i)) → (∀ b o, b ≠ d → b ≠ I → s.heap.get? b = some o → h'.get? b = some o) → R (.ok (.ret .none)) { s with heap := h', toks := tk }) →
      codeAny (model prog w) A (.builtin "dict.update.loop" ⟨[.ref d, .ref I, .int i 0, .none], []⟩) R s := by
  have hA1 : A.in1.handled = none := by simp [hA]
  intro n
  induction n with
  | zero =>
    intro i s acc hk hi hac hit hl hd hT hR
    have hin : i = kvs.length := by omega
    subst hin
    refine codeAny_builtin entry_loop ?_
    rw [Around.under_plainId plain_loop _]
    show wpAny _ A.in1 (pyNext (.ref I) >>= _) _ _ s
    refine wpAny_bind (wpAny_pyNext_list_end hA1 hit hl (by simp [hn]) fun h' he => ?_)
    refine wpAny_pure ?_
    rw [List.drop_length] at hR
    exact hR h' s.toks (let ⟨o, es, ep, ho, r⟩ := hd; ⟨o, es, ep, he d o hdI ho, r⟩) fun b o h1 h2 e => he b o h2 e
  | succ n ih =>
    intro i s acc hk hi hac hit hl hd hT hR
    have hlt : i < kvs.length := by omega
    obtain ⟨b, key, hb, hbd, hbI, ht, hkey⟩ := hT i hlt
    refine codeAny_builtin entry_loop ?_
    rw [Around.under_plainId plain_loop _]
    show wpAny _ A.in1 (pyNext (.ref I) >>= _) _ _ s
    refine wpAny_bind (wpAny_pyNext_list_item hit hl hb fun h1 hit1 hs1 => ?_)
    have k1 : ∀ b o, b ≠ I → s.heap.get? b = some o → h1.get? b = some o := fun b o hb e => hs1.extBut b o hb e
    have ht1 : IsTup h1 b #[key, (kvs[i]'hlt).2] := let ⟨o, ho, r⟩ := ht; ⟨o, k1 b o hbI ho, r⟩
    have hd1 : h1.DictOf (mixKind prog w) d acc := let ⟨o, es, ep, ho, r⟩ := hd; ⟨o, es, ep, k1 d o hdI ho, r⟩
    refine wpAny_bind (wpAny_holding ?_)
    refine wpAny_bind (wpAny_tryCatch ?_)
    obtain ⟨o, ho, hc, m, hdat⟩ := ht1
    unfold Builtin.Dict.pairItems
    refine wpAny_bind (wpAny_typeOf (T := "tuple") ⟨o, ho, hc⟩ ?_)
    rw [if_pos (by decide)]
    refine wpAny_bind (wpAny_seqItems ho hdat (wpAny_pure ?_))
    show wpAny _ _ (holding [key, (kvs[i]'hlt).2] (dictSet d key (kvs[i]'hlt).2)) _ _ _
    refine wpAny_holding ?_
    refine wpAny_dictSet_pairs (s := { s with heap := h1 }) (knd := mixKind prog w) hkey hd1 (fun h2 hd2 hs2 => ?_) (by rw [sizeLine_eq]; omega)
    have k2 : ∀ b o, b ≠ d → b ≠ I → s.heap.get? b = some o → h2.get? b = some o := fun b o h3 h4 e => hs2.extBut b o h3 (k1 b o h4 e)
    refine wpAny_pure ⟨plainId_quiet plain_loop _, ?_⟩
    show codeAny (model prog w) A (.builtin "dict.update.loop" ⟨[.ref d, .ref I, .int ((i : Int) + 1) 0, .none], []⟩) R _
    have ei : ((i : Int) + 1) = ((i + 1 : Nat) : Int) := by omega
    rw [ei]
    refine ih (i + 1) _ (stored acc (kvs[i]'hlt).1 (kvs[i]'hlt).2) (by omega) (by omega) (by have := stored_length_le acc (kvs[i]'hlt).1 (kvs[i]'hlt).2; omega) ?_ ?_ hd2 ?_ ?_
    · obtain ⟨o, ho, r⟩ := hit1
      exact ⟨o, hs2.extBut I o (Ne.symm hdI) ho, r⟩
    · obtain ⟨o, ho, r⟩ := hl
      exact ⟨o, k2 l o (Ne.symm hdl) hlI ho, r⟩
    · intro j hj
      obtain ⟨b, key, q1, q2, q3, ⟨o, ho, r⟩, q5⟩ := hT j hj
      exact ⟨b, key, q1, q2, q3, ⟨o, k2 b o q2 q3 ho, r⟩, q5⟩
    · intro h' tk hd' hk'
      refine hR h' tk ?_ fun b o h3 h4 e => hk' b o h3 h4 (k2 b o h3 h4 e)
      rw [List.drop_eq_getElem_cons hlt]
      exact hd'
theorem call_pairs {l : Addr} {its : Array Value} {n : Nat} {sl : Array (Option Value)} {kvs : List (Key × Value)} {Q : Value → Shared → Prop} (hA : A.handled = none)
    (hl : s.heap.get? l = some { cls := .type "list", dict := none, data := .seq its n, slots := sl }) (hn : its.size = kvs.length) (hsz : kvs.length ≤ 1000)
    (hp : ∀ j (hj : j < kvs.length), ∃ b key, its[j]? = some (.ref b) ∧ IsTup s.heap b #[key, (kvs[j]'hj).2] ∧ (mixKind prog w).is (kvs[j]'hj).1 key = true)
    (h : ∀ h' tk, h'.DictOf (mixKind prog w) s.heap.objs.size (merged [] kvs) → (∀ b o, s.heap.get? b = some o → h'.get? b = some o) → Q (.ref s.heap.objs.size) { s with heap := h', toks := tk }) :
    wpAny (model prog w) A (call (.type "dict") [.ref l]) Q E s := by
  refine callType_codes (Q₁ := fun obj s₁ => obj = .ref s.heap.objs.size ∧ s₁ = { s with heap := s.heap.push { cls := .type "dict", data := .dict #[] } }) F.kt_called_dict (F.kt_typeCall_dict_1 _) F.entry_dict_init (kt_code_dict_new _ ⟨rfl, rfl⟩) ?_
  rintro obj s₁ ⟨rfl, rfl⟩
  have hnew : (s.heap.push { cls := .type "dict", data := .dict #[] }).DictOf (mixKind prog w) s.heap.objs.size [] := Heap.DictOf.new s.heap
  have hl' : (s.heap.push { cls := .type "dict", data := .dict #[] }).get? l = some { cls := .type "list", dict := none, data := .seq its n, slots := sl } := Heap.get?_push_of_some _ hl
  have hA2 : A.in1.in1.handled = none := by simp [hA]
  refine ⟨hnew.typeIs, F.args_dict_init_2 _ _, ?_⟩
  unfold Builtin.«dict.__init__»
  refine wpAny_bind ?_
  unfold Builtin.Dict.selfAndRest
  refine wpAny_bind (wpAny_notOrdered_dict hnew.typeIs ?_)
  show wpAny _ _ (pure (s.heap.objs.size, [Value.ref l])) _ _ _
  refine wpAny_pure ?_
  show wpAny _ _ (Builtin.Dict.updateFrom "dict.__init__" s.heap.objs.size (.ref l) [] .none) _ _ _
  unfold Builtin.Dict.updateFrom
  refine wpAny_bind (wpAny_typeOf (T := "list") ⟨_, hl', rfl⟩ ?_)
  rw [if_pos (by decide)]
  refine wpAny_bind (attr_miss hl' no_keys (by decide +kernel) hA2 fun h1 tk1 k1 => ?_)
  rw [if_pos (show (Option.none : Option Value).isNone = true from rfl)]
  refine wpAny_bind (wpAny_rule ?_)
  have hl1 : h1.IsList l its := ⟨_, k1 _ _ hl', rfl, n, rfl⟩
  refine wpAny_bind (wpAny_pyIter_list hl1 ?_)
  have hdl : s.heap.objs.size < h1.objs.size := Heap.lt_size (k1 s.heap.objs.size _ (Heap.get?_push_size _ rfl))
  have hll : l < s.heap.objs.size := Heap.lt_size hl
  refine wpAny_pure ⟨plainId_quiet plain_loop _, ?_⟩
  have k0 : ∀ b o, s.heap.get? b = some o → (h1.push { cls := .type "list_iterator", data := .fields #[.ref l, .int 0 0] }).get? b = some o := fun b o e => Heap.get?_push_of_some _ (k1 b o (Heap.get?_push_of_some _ e))
  refine loop (by simp [hA]) (d := s.heap.objs.size) (I := h1.objs.size) (l := l) (its := its) (Nat.ne_of_lt hdl) (Nat.ne_of_gt hll) (Nat.ne_of_lt (Nat.lt_trans hll hdl)) kvs hn hsz kvs.length 0 _ [] (by omega) (by omega) (by simp) ?_ ?_ ?_ ?_ ?_
  · exact ⟨_, Heap.get?_push_size _ rfl, rfl, rfl⟩
  · exact ⟨_, k0 _ _ hl, rfl, n, rfl⟩
  · obtain ⟨o, es, ep, ho, r⟩ := hnew
    exact ⟨o, es, ep, Heap.get?_push_of_some _ (k1 _ _ ho), r⟩
  · intro j hj
    obtain ⟨b, key, q1, ⟨o, ho, r⟩, q3⟩ := hp j hj
    have hb : b < s.heap.objs.size := Heap.lt_size ho
    exact ⟨b, key, q1, Nat.ne_of_lt hb, Nat.ne_of_lt (Nat.lt_trans hb hdl), ⟨o, k0 b o ho, r⟩, q3⟩
  · intro h' tk hd' hk'
    refine ⟨rfl, h h' tk hd' fun b o e => hk' b o ?_ ?_ (k0 b o e)⟩
    · exact Nat.ne_of_lt (Heap.lt_size e)
    · exact Nat.ne_of_lt (Nat.lt_trans (Heap.lt_size e) hdl)
end
end DN
namespace L2
open PySem PySem.Spec PyProof.Rows
section
variable {X : Cx}
/-- the pairs of a list of pairs -/
def PrsV (H : Hp) : List V → List (Key × V) → Prop := Paired fun v kv => ∃ b, v = .ref b ∧ H b = some (.tup [kV kv.1, kv.2])
def rDictL : List V → Hp → VK → Prop := fun xs H Q => ∃ a ps kvs, xs = [.ref a] ∧ H a = some (.lst ps) ∧ PrsV H ps kvs ∧ kvs.length ≤ 1000 ∧ ∀ p, H p = none → Q (.ref p) (upd H p (.dK (mergeK [] kvs)))
theorem prs_vals {P : Program} {w : World} {H : Hp} {h : Heap} (ok : HOk P w H h) : ∀ {ps : List V} {kvs : List (Key × V)} {its : List Value}, PrsV H ps kvs → Vals ps its → ∃ rs : List (Key × Value), KV kvs rs ∧ rs.length = its.length ∧
    ∀ j (hj : j < rs.length), ∃ b key, its[j]? = some (.ref b) ∧ IsTup h b #[key, (rs[j]'hj).2] ∧ (mixKind P w).is (rs[j]'hj).1 key = true
  | _, _, its, .nil, r => by
    cases r
    exact ⟨[], .nil, rfl, fun j hj => absurd hj (by simp)⟩
  | _, _, its, @Paired.cons _ _ _ v kv vs kvs ⟨b, e, hb⟩ t, r => by
    cases r with
    | @cons _ u _ us r1 r2 =>
      obtain ⟨rs, h1, h2, h3⟩ := prs_vals ok t r2
      subst e
      cases r1
      obtain ⟨_, ts, rt, hT⟩ := (show ObjOk P w H h b (.tup _) from ok b _ hb)
      obtain ⟨key, val, rfl, rk, rv⟩ : ∃ key val, ts = [key, val] ∧ RelV (kV kv.1) key ∧ RelV kv.2 val := by
        cases rt with
        | cons q1 q2 =>
          cases q2 with
          | cons q3 q4 => cases q4; exact ⟨_, _, rfl, q1, q3⟩
      refine ⟨(kv.1, val) :: rs, .cons ⟨rfl, rv⟩ h1, by simp [h2], fun j hj => ?_⟩
      cases j with
      | zero => exact ⟨b, key, rfl, hT, kV_is rk⟩
      | succ j => exact h3 j (by simpa using hj)
theorem call_dictL (hc : X.calm = true) : CallR X (.type "dict") rDictL := by
  intro pins s σ H xs us Q I r ⟨a, ps, kvs, e, ha, hp, hz, q⟩
  subst e
  obtain ⟨u, rfl, ru⟩ := vals1 r
  cases ru
  obtain ⟨_, its, n, rv, e⟩ := (show ObjOk X.prog X.w H s.heap a (.lst ps) from I.hok a _ ha)
  obtain ⟨rs, hkv, hl, hj⟩ := prs_vals I.hok hp rv
  have hlen : rs.length = kvs.length := (Paired.length hkv).symm
  refine DN.call_pairs (kvs := rs) (I.ok.hd hc) e (by simp [hl]) (by omega) (fun j h => by simpa using hj j h) fun h' tk hd hk => ?_
  have hz2 : (mergeK [] kvs).length ≤ sizeLine := by
    have h1 := length_mergeK kvs []
    rw [List.length_nil] at h1
    rw [sizeLine_eq]; omega
  exact ⟨.ref s.heap.objs.size, _, I.laid (a := s.heap.objs.size) (o := .dK (mergeK [] kvs)) (t' := tk) hk (Nat.le_refl _) (dk_new hz2 (by
    have := I.big
    simp; exact Nat.ne_of_gt this) (hkv.merge .nil) hd), rfl, q _ (I.hok.fresh (Nat.le_refl _))⟩
end
end L2
namespace DD
open PySem PySem.Spec L2
open PyProof.Rows hiding St
section
variable {X : Cx} {e : Expr} {fs : G → Option (List B)} {pos : Pos}
def pairsL : List D → Option (List (Key × D))
  | [] => some []
  | .tup [k, v] :: r => (keyD k).bind fun k => (pairsL r).map fun t => (k, v) :: t
  | _ => none
def mergeD (kvs more : List (Key × D)) : List (Key × D) := more.foldl (fun acc kv => putD acc kv.1 kv.2) kvs
/-- name = dict([(k, v) ..]) -/
def sNewKL (i : Nat) (fs : G → Option (List B)) : G → Option Out := fun Γ => (fs Γ).bind fun bs => match bs with
  | [.d (.lst ds)] => (pairsL ds).bind fun kvs => if kvs.length ≤ 1000 then some (.nx (Γ.set i (.ok (mergeD [] kvs)))) else none
  | _ => none
theorem pairsL_is {K : PySem.W.Frag} {F : Hp} : ∀ {ds : List D} {kvs : List (Key × D)} {vs : List V}, pairsL ds = some kvs → Are K F ds vs → ∃ ws, PrsV F vs ws ∧ PAre K F kvs ws
  | [], kvs, vs, e, r => by
    cases e
    rw [r.inv0]
    exact ⟨[], .nil, .nil⟩
  | d :: ds, kvs, vs, e, r => by
    match d, e, r with
    | .tup [k, v], e, r =>
      obtain ⟨k', hk, e⟩ := bind_some e
      obtain ⟨t, ht, rfl⟩ := map_some e
      obtain ⟨x, xs, rfl, h1, h2⟩ := r.inv
      obtain ⟨ws, q1, q2⟩ := pairsL_is ht h2
      simp only [Is] at h1
      obtain ⟨b, us, rfl, hb, ra⟩ := h1
      obtain ⟨u1, r1, rfl, i1, ra⟩ := ra.inv
      obtain ⟨u2, r2, rfl, i2, ra⟩ := ra.inv
      have := ra.inv0; subst this
      have := keyD_is hk i1; subst this
      exact ⟨(k', u2) :: ws, .cons ⟨b, rfl, hb⟩ q1, .cons ⟨rfl, i2⟩ q2⟩
theorem mergeD_is {K : PySem.W.Frag} {F : Hp} : ∀ {more : List (Key × D)} {ws : List (Key × V)} {kvs : List (Key × D)} {vs : List (Key × V)}, PAre K F more ws → PAre K F kvs vs → PAre K F (mergeD kvs more) (mergeK vs ws)
  | _, _, kvs, vs, .nil, r => r
  | _, _, kvs, vs, @Paired.cons _ _ _ p q ps qs ⟨e, h⟩ t, r => by
    have : PAre K F (putD kvs p.1 p.2) (putK vs q.1 q.2) := by rw [← e]; exact putD_is r h
    exact mergeD_is (more := ps) (ws := qs) t this
theorem PrsV.mono {F H : Hp} (s : Same F H) {vs : List V} {ws : List (Key × V)} (h : PrsV F vs ws) : PrsV H vs ws := Paired.mapP h fun _ _ ⟨b, e, hb⟩ => ⟨b, e, s _ _ hb⟩
theorem s_newKL {i : Nat} {x : Str} {p p2 p3 : Pos} (hc : X.calm = true) (hN : X.N.Nodup) (hi : X.N[i]? = some x) (hx : Loc X.env.scope x) (hg : Gl X "dict") (hm : X.mg "dict" = none) (ha : EA X [e] fs)
    (he : starEach [e] X.env = [(false, eval e X.env)] := by rfl) (hs : swapsWith (.Call (.Name "dict" p2) [e] [] p3) (some (.Name x p)) pos.line X.env = pure false := by rfl)
    (hf : X.fn x = true ∨ X.env.scope.names.lookup x = some .local := by first | exact .inl rfl | exact .inr rfl | assumption) :
    SD X (.Assign [.Name x p] (.Call (.Name "dict" p2) [e] [] p3) pos) (sNewKL i fs) :=
  ps_weak (ps_set hN hi hx (pe_callTy (call_dictL hc) hg hm boot_dict ha (by decide) (by decide) he (by rfl)) hs hf) fun E σ H ⟨F0, H0, F, Γ, z, En, e, q⟩ => by
    obtain ⟨bs, hb, e⟩ := bind_some e
    refine ⟨F0, H0, F, Γ, bs, En, hb, fun vs F1 H1 e1 r1 => ?_⟩
    match bs, e, r1 with
    | [.d (.lst ds)], e, r1 =>
      obtain ⟨kvs, hk, e⟩ := bind_some e
      by_cases hz : kvs.length ≤ 1000
      · rw [if_pos hz] at e; cases e
        obtain ⟨v, rfl, hv⟩ := bare1 r1
        have hv' : Is X.K F1 (.lst ds) v := hv
        simp only [Is] at hv'
        obtain ⟨a, us, rfl, hfa, ra⟩ := hv'
        obtain ⟨ws, q1, q2⟩ := pairsL_is hk ra
        refine ⟨a, us, ws, rfl, e1.fh _ _ hfa, PrsV.mono e1.fh q1, by rw [pare_len q2]; exact hz, fun pp hp => ?_⟩
        have E1 := En.grow e1
        have ex : Ext F1 H1 F1 (upd H1 pp (.dK (mergeK [] ws))) := .own e1.fh hp _
        refine q _ F1 _ ((E1.grow ex).putOwn ⟨pp, mergeK [] ws, rfl, upd_same, mergeD_is q2 .nil, e1.fh.free hp, E1.ext.hh.free hp⟩ fun j s hj hs ho z => ?_) (e1.trans ex).ff
        obtain ⟨o', h1, h2⟩ := E1.val j s hs
        rw [z] at h1; cases h1
        cases s with
        | un => cases ho
        | v d => cases ho
        | ol ds => obtain ⟨a', vs, e', q1, _⟩ := h2; cases e'; rw [hp] at q1; cases q1
        | ot kvs => obtain ⟨a', vs, e', q1, _⟩ := h2; cases e'; rw [hp] at q1; cases q1
        | ok kvs => obtain ⟨a', vs, e', q1, _⟩ := h2; cases e'; rw [hp] at q1; cases q1
      · rw [if_neg hz] at e; cases e
end
end DD

namespace L2
open PySem PySem.Spec PyProof.Rows
/-! ### an exception that passes through a caller -/
section
variable {M : Model} {A : Around} {E : Value → Shared → Prop} {s : Shared}
/-- a frame is left, wherever the exception was noted last -/
theorem leaves_any {B : Heap} {env : Env} {outer : List Env} {L a : Addr} {cls a0 v : Value} {Q : Unit → Shared → Prop} (hfr : A.frames = some (env :: outer)) (hf : env.frame = some L)
    (hB : B.StaysIn s.heap) (hn : B.get? a = none) (hF : s.heap.FunFrames B (env :: outer)) (ht : s.heap.TracedAtW B a cls a0 v)
    (hQ : ∀ h', Heap.FlyingW B outer a cls a0 h' → s.heap.UpToSlots h' → Q () { s with heap := h' }) : wpAny M A (leaving env (.ref a)) Q E s := by
  cases hv : (v == rawInt L) with
  | true =>
    have e : v = rawInt L := by simpa using hv
    subst e
    unfold leaving
    refine wpAny_bind (wpAny_noteFrame_againW hf ht ?_)
    refine wpAny_landsW (show Heap.HeldW B (env :: outer) a cls a0 L s.heap from ⟨hB, hn, hF, ht⟩) fun h' fl sm => ?_
    obtain ⟨k1, k2, ⟨_, _, k3⟩, k4⟩ := fl
    exact hQ h' ⟨k1, k2, k3, k4⟩ sm
  | false =>
    obtain ⟨oe, vs, T, oT, ts, he, ⟨hc, h0⟩, hd, h1, hnT, hTe, hT, hdT, h3⟩ := ht
    subst hc
    unfold leaving noteFrame
    simp only [hf]
    refine wpAny_bind (wpAny_bind (wpAny_field he hd h1 ?_))
    rw [if_pos (show (Value.ref T != Value.none) = true by simp)]
    refine wpAny_bind (wpAny_field hT hdT h3 ?_)
    rw [if_neg (by rw [hv]; exact Bool.false_ne_true)]
    refine wpAny_bind (wpAny_setField hT hdT (Array.getElem?_eq_some_iff.mp h3).1 ?_)
    have oth : ∀ b, b ≠ T → (s.heap.update T (Obj.mapFields (·.setIfInBounds 3 Value.none))).get? b = s.heap.get? b := fun b hb => Heap.get?_update_other s.heap _ (Ne.symm hb)
    have nrec : ∀ b o, s.heap.get? b = some o → (∀ vs, o.data ≠ .fields vs) → b ≠ T := fun b o hb hnf q => by
      rw [q, hT] at hb
      cases hb
      exact hnf ts hdT
    refine wpAny_newEntryW hfr (hF.of_keeps fun b o hb hnf => ⟨o, (oth b (nrec b o hb hnf)).trans hb, rfl⟩) hf ((oth a (Ne.symm hTe)).trans he) (fun b o hbo => (oth b fun q => by rw [q, hnT] at hbo; cases hbo).trans (hB b o hbo)) hn hd (Array.getElem?_eq_some_iff.mp h1).1 h0 fun h' ⟨x1, x2, x3, x4⟩ => ?_
    obtain ⟨_, _, x2⟩ := x2
    exact hQ h' ⟨x1, hn, x2, x3⟩ fun b o hb hnf => x4 b o ((oth b (nrec b o hb hnf)).trans hb) hnf
end
/-- an exception on its way, as the code of X sees it -/
structure FlyX (X : Cx) (C : Addr) (s' : Shared) (a : Addr) (H' : Hp) (B : Heap) (a0 v : Value) : Prop where
  same : Same X.H₀ H'
  os : s'.os = X.s₀.os
  bare : AllBare s'.gens
  un : Un X.fs X.ex X.H₀ H' X.s₀.heap s'.heap
  hok : HOk X.prog X.w H' s'.heap
  stays : B.StaysIn s'.heap
  nb : B.get? a = none
  frm : s'.heap.FunFrames B X.stack
  trc : s'.heap.TracedAtW B a (.ref C) a0 v
  old : ∀ b o, X.s₀.heap.get? b = some o → X.H₀ b = none → b ∉ X.fs → b ∉ X.ex → B.get? b = some o
  trk : ∀ b u o, H' b = some u → s'.heap.get? b = some o → B.get? b = some o
  loc : ∃ m, s'.heap.Ns X.env.locals m
  nloc : H' X.env.locals = none
def Flx (X : Cx) (C : Addr) (e : Value) (s' : Shared) : Prop := ∃ a H' B a0 v, e = .ref a ∧ FlyX X C s' a H' B a0 v
/-- what leaves may fly -/
def XR (X : Cx) (C : Addr) : Prop := ∀ (e : Value) (s' : Shared), Flx X C e s' → X.xe e s'
section
variable {X : Cx} {pins : List (Addr × Obj)} {σ : St} {H : Hp} {s s' : Shared} {C a : Addr} {e : Value}
theorem Inv.nostk (I : Inv X pins σ H s) {b : Addr} {o : Obj} (q : X.s₀.heap.get? b = some o) (hb : b ∉ X.fs) : b ∉ frs X.stack := fun z => by
  rcases I.ok.stk with h | ⟨h, hf⟩
  · rw [h] at z; exact hb z
  · rw [h] at z
    obtain ⟨en, he, hf'⟩ := List.mem_filterMap.mp z
    rcases List.mem_cons.mp he with rfl | he
    · rw [hf] at hf'
      have e1 : X.env.locals = b := Option.some.inj hf'
      have h1 := Heap.lt_size q
      rw [← e1] at h1
      exact Nat.lt_irrefl _ (Nat.lt_of_lt_of_le h1 I.ok.above)
    · exact hb (List.mem_filterMap.mpr ⟨en, he, hf'⟩)
theorem flx_of {E' : XK} (I : Inv X pins σ H s) (hs : Same X.H₀ H) (hf : Fly X.prog X.w C X.stack H s E' e s') : Flx X C e s' := by
  obtain ⟨a, H', B, a0, S⟩ := hf
  have I' := fly_inv (t' := s'.toks) I S S.fly.1 (Heap.UpToSlots.refl _)
  obtain ⟨m, hn, _⟩ := I'.loc
  refine ⟨a, H', B, a0, .none, S.ee, hs.trans S.same, I'.os, S.bare, I'.base, S.hok, S.fly.1, S.fly.2.1, S.fly.2.2.1, S.fly.2.2.2.at, fun b o q n h1 h2 => ?_, S.trk, ⟨m, hn⟩, I'.free⟩
  exact S.old b o (I.base.keep b o q n h1 h2) (I.base.free b o q n h2) (I.nostk q h1)
/-- what is held when only slots, and things that nobody holds, have changed -/
theorem FlyX.up {H' : Hp} {B h' : Heap} {a0 v : Value} (S : FlyX X C s' a H' B a0 v) (ok : X.Ok) (hB : B.StaysIn h') (sm : ∀ b ∈ X.fs, ∀ o, s'.heap.get? b = some o → (∀ vs, o.data ≠ .fields vs) → ∃ sl, h'.get? b = some { o with slots := sl }) :
    Un X.fs X.ex X.H₀ H' X.s₀.heap h' ∧ HOk X.prog X.w H' h' ∧ ∀ b u o, H' b = some u → h'.get? b = some o → B.get? b = some o := by
  have sub : ∀ b ∈ X.fs, b ∈ frs X.stack := fun b hb => by
    rcases ok.stk with h | ⟨h, _⟩
    · rw [h]; exact hb
    · rw [h]
      obtain ⟨en, he, hf⟩ := List.mem_filterMap.mp hb
      exact List.mem_filterMap.mpr ⟨en, List.mem_cons_of_mem _ he, hf⟩
  have slot : ∀ b o, X.s₀.heap.get? b = some o → X.H₀ b = none → b ∈ X.fs → b ∉ X.ex → ∃ sl, h'.get? b = some { o with slots := sl } := fun b o q n h1 h2 => by
    obtain ⟨sl, e1⟩ := S.un.slot b o q n h1 h2
    obtain ⟨_, o', ho', hnf⟩ := S.frm.mem (sub b h1)
    rw [e1] at ho'; cases ho'
    obtain ⟨sl', e2⟩ := sm b h1 _ e1 hnf
    exact ⟨sl', e2⟩
  have tk : ∀ b u o, H' b = some u → s'.heap.get? b = some o → h'.get? b = some o := fun b u o q1 q2 => hB b o (S.trk b u o q1 q2)
  refine ⟨⟨fun b o q n h1 h2 => hB b o (S.old b o q n h1 h2), slot, S.un.free, fun b o q hx => ?_, S.un.tups, S.un.frzs, S.un.tbls⟩, fun b u hbu => ?_, fun b u o hbu q => ?_⟩
  · cases n : X.H₀ b with
    | none =>
      by_cases hb : b ∈ X.fs
      · obtain ⟨sl, e1⟩ := slot b o q n hb hx; exact ⟨_, e1⟩
      · exact ⟨o, hB b o (S.old b o q n hb hx)⟩
    | some u =>
      obtain ⟨o', e1⟩ := S.un.there b o q hx
      exact ⟨o', tk b u o' (S.same b u n) e1⟩
  · refine (S.hok b u hbu).stay (fun c v hc q => ?_) (fun _ q => q) fun _ _ q => q
    rcases hc with rfl | hc
    · exact tk c u v hbu q
    · exact tk c _ v hc q
  · obtain ⟨o₁, h1⟩ := (S.hok b u hbu).ex
    have h2 := S.trk b u o₁ hbu h1
    have h3 := hB b o₁ h2
    rw [h3] at q; cases q
    exact h2
end
section
variable {P : Program} {w : World} {K : PySem.W.Frag} {mg : Str → Option Value} {base : Heap} {N : List Str} {qual : Str} {scope : Scope} {f C : Addr} {cdv : Value} {A : Around} {outer : List Env} {s₀ : Shared} {H₀ : Hp} {E : XK}
theorem xr_fn (ok : (cxOf (Fly P w C) P w K mg base N qual scope f cdv A outer s₀ H₀ E).Ok) : XR (cxOf (Fly P w C) P w K mg base N qual scope f cdv A outer s₀ H₀ E) C := fun e s' ⟨a, H', B, a0, v, he, S⟩ => by
  subst he
  show wpAny (model P w) (A.deeper (envOfC qual scope s₀.heap.objs.size f cdv)) (leaving (envOfC qual scope s₀.heap.objs.size f cdv) (.ref a)) _ _ s'
  have frm : (A.deeper (envOfC qual scope s₀.heap.objs.size f cdv)).frames = some (envOfC qual scope s₀.heap.objs.size f cdv :: outer) := ok.frames
  refine leaves_any frm rfl S.stays S.nb S.frm S.trc fun h' fl sm => ?_
  obtain ⟨u1, u2, u3⟩ := S.up ok fl.1 fun b _ o q hnf => sm b o q hnf
  exact ⟨a, H', B, a0, rfl, S.same, S.os, S.bare, u1, u2, fl, fun b o q n hb => S.old b o q n hb (by intro z; cases z), u3⟩
end
section
variable {X : Cx} {C : Addr} {H0 : Hp}
theorem PS.nox {st : Stmt} {t : TS} (h : PS X.nox st t) : PS X st t := fun pins s σ H D I hw =>
  wpAny_mono (h pins s σ H D (I.wish _) hw) (fun _ _ q => q.unwish) fun _ _ z => False.elim z
theorem PA.nox {es : List Expr} {t : TA} (h : PA X.nox es t) : PA X es t := fun pos pins s σ H Q I hw =>
  wpAny_mono (h pos pins s σ H Q (I.wish _) hw) (fun _ _ ⟨v, H', I', r, q⟩ => ⟨v, H', I'.unwish, r, q⟩) fun _ _ z => False.elim z
end
end L2
namespace DD
open PySem PySem.Spec L2
open PyProof.Rows hiding St
section
variable {X : Cx} {C : Addr} {e : Expr} {es : List Expr} {fs : G → Option (List B)} {x x1 x2 : G → Bool} {f : G → Option Out} {pos : Pos}
/-- at these data it refuses -/
def dR (K : PySem.W.Frag) (H0 : Hp) (x : G → Bool) (σ : St) (H : Hp) : Prop := ∃ F0 F Γ, EnvIs K F0 H0 F H σ Γ ∧ x Γ = true
/-- the same, wherever the things of one's own began -/
def dRe (X : Cx) (x : G → Bool) (σ : St) (H : Hp) : Prop := ∃ F0 H0 F Γ, EnvIs X.K F0 H0 F H σ Γ ∧ Same X.H₀ H ∧ x Γ = true
theorem dR.re {X : Cx} {x : G → Bool} {σ : St} {H : Hp} : dR X.K X.H₀ x σ H → dRe X x σ H := fun ⟨F0, F, Γ, En, hy⟩ => ⟨F0, X.H₀, F, Γ, En, En.ext.hh, hy⟩
def RE (X : Cx) (e : Expr) (x : G → Bool) : Prop := PE X e fun σ H _ => dRe X x σ H
def RS (X : Cx) (s : Stmt) (x : G → Bool) : Prop := PS X s fun _ σ H => dR X.K X.H₀ x σ H
def RSs (X : Cx) (s : List Stmt) (x : G → Bool) : Prop := PSs X s fun _ σ H => dR X.K X.H₀ x σ H
def yNo : G → Bool := fun _ => false
def yAll : G → Bool := fun _ => true
def yCall (m : List D → Bool) (fs : G → Option (List B)) : G → Bool := fun Γ => match (fs Γ).bind asDs with
  | some ds => m ds
  | none => false
/-- f(..), a def that refuses -/
theorem r_call {k k' : Nat} {n : Str} {p : Pos} {m : List D → Bool} (hx : X.Ok → XR X C) (R : Refuser X.prog X.w X.K X.mg X.base k n C m) (hr : Room k' X.A) (hk : k ≤ k') (hg : Gl X n) (ha : EA X.nox (e :: es) fs)
    (hdb : (n == ("__debug__" : Str)) = false := by decide) (he : starEach (e :: es) X.env = (false, eval e X.env) :: starEach es X.env := by rfl) (hpl : (backTo pos (starEach es X.env)).any (·.1) = false := by rfl) :
    RE X (.Call (.Name n p) (e :: es) [] pos) (yCall m fs) := by
  obtain ⟨fa, fd, ps, Fn, hm, hkp, hb⟩ := R.ex
  intro pins s σ H Q I ⟨F0, H0, F, Γ, En, hsm, hy⟩
  unfold yCall at hy
  cases hds : (fs Γ).bind asDs with
  | none => rw [hds] at hy; cases hy
  | some ds =>
    rw [hds] at hy
    have hy' : m ds = true := hy
    obtain ⟨bs, hbs, hds'⟩ := bind_some hds
    refine wpAny_Call_Name_kw (ld_glob I hg hm ?_ hdb)
    refine PySem.W.callWith_K (h₀ := X.base) I.ok.mod.kin hkp (thn ((PA.nox ha) pos pins s σ H (fun vs H1 => ∃ F1, Same F1 H1 ∧ Are X.K F1 ds vs ∧ Same X.H₀ H1) I ⟨F0, H0, F, Γ, bs, En, hbs, fun vs F1 H1 e1 r1 => ⟨F1, e1.fh, asDs_are hds' r1, hsm.trans e1.hh⟩⟩) fun us s1 ⟨vs, H1, I1, r, F1, sm, ra, hs⟩ => ⟨I1.kIn, ?_⟩) he hpl
    have hl : (us ++ []).length = ps.length := by
      rw [List.append_nil, ← r.length]
      exact (hr.mono hk |> fun _ => Fn.len vs H1 (fun _ _ => False) (fun _ _ _ => True) ⟨F1, ds, sm, ra, hy'⟩)
    refine wpAny_call (codeAny_mono (Fn.run X.A X.stack s1 H1 ⟨us, []⟩ (us ++ []) vs (fun _ _ => False) (fun _ _ _ => True) (hr.mono hk) I1.env0 (hb s1 us I1.kIn hl) (by rw [List.append_nil]; exact r) ⟨F1, ds, sm, ra, hy'⟩) fun rr s' hq => ?_)
    cases rr with
    | ok fl =>
      cases fl with
      | ret u => obtain ⟨_, _, _, _, _, _, _, z⟩ := hq; exact z.elim
      | next => exact False.elim hq
      | brk => exact False.elim hq
      | cont => exact False.elim hq
    | error ee => exact hx I1.ok ee s' (flx_of (E' := fun _ _ _ => True) I1 hs hq)
/-- name = e -/
theorem r_set {i : Nat} {y : Str} {p : Pos} (hN : X.N.Nodup) (hi : X.N[i]? = some y) (hx : Loc X.env.scope y) (he : RE X e x) (hs : swapsWith e (some (.Name y p)) pos.line X.env = pure false := by rfl) (hf : X.fn y = true ∨ X.env.scope.names.lookup y = some .local := by first | exact .inl rfl | exact .inr rfl | assumption) :
    RS X (.Assign [.Name y p] e pos) x := ps_weak (ps_set hN hi hx he hs hf) fun E σ H q => q.re
theorem r_ret (he : RE X e x) : RS X (.Return (some e) pos) x := ps_weak (ps_ret he) fun E σ H q => q.re
theorem r_tup2 {a b : Expr} {fa : G → Option B} {k : Nat} (h1 : EE X.nox a fa) (h2 : RE X b x) (hs : starEach [a, b] X.env = (false, eval a X.env) :: starEach [b] X.env := by rfl) (hs2 : starEach [b] X.env = [(false, eval b X.env)] := by rfl) :
    RE X (.Tuple [a, b] k pos) (fun Γ => (fa Γ).isSome && x Γ) := pe_weak (pe_tup (pa_cons (PE.nox h1) (pa_cons h2 pa_nil hs2) hs)) fun σ H Q ⟨F0, H0, F, Γ, En, hsm, hy⟩ => by
  rw [Bool.and_eq_true] at hy
  cases hb : fa Γ with
  | none => rw [hb] at hy; cases hy.1
  | some b => exact ⟨F0, H0, F, Γ, b, En, hb, fun v F1 H1 e1 r1 => ⟨F0, H0, F1, Γ, En.grow e1, hsm.trans e1.hh, hy.2⟩⟩
theorem r_callTy {T : String} {n : Str} {p : Pos} {r : List V → Hp → VK → Prop} (hc : CallR X (.type T) r) (hg : Gl X n) (hm : X.mg n = none) (hv : bootBuiltins n = some (.type T)) (ha : RE X e x)
    (hn : n ≠ "__name__" := by decide) (hdb : (n == ("__debug__" : Str)) = false := by decide) (he : starEach [e] X.env = [(false, eval e X.env)] := by rfl) : RE X (.Call (.Name n p) [e] [] pos) x :=
  pe_weak (pe_callTy hc hg hm hv (pa_cons ha pa_nil he) hn hdb he (by rfl)) fun σ H Q q => q
/-- the first that refuses -/
def ySeq (x1 : G → Bool) (f : G → Option Out) (x2 : G → Bool) : G → Bool := fun Γ => x1 Γ || match f Γ with
  | some (.nx g) => x2 g
  | _ => false
theorem rs_next {st : Stmt} {rest : List Stmt} (h1 : SD X.nox st f) (h2 : RSs X rest x2) : RSs X (st :: rest) (ySeq yNo f x2) :=
  pss_weak (pss_cons (PS.nox h1) h2) fun E σ H ⟨F0, F, Γ, En, hy⟩ => by
    unfold ySeq yNo at hy
    rw [Bool.false_or] at hy
    split at hy
    · rename_i g hg
      exact ⟨F0, X.H₀, F, Γ, _, En, hg, fun σ1 F1 H1 E1 z => ⟨F0, F1, g, E1, hy⟩⟩
    · cases hy
theorem rs_both {st : Stmt} {rest : List Stmt} (h0 : RS X st x1) (h1 : SD X.nox st f) (h2 : RSs X rest x2) : RSs X (st :: rest) (ySeq x1 f x2) := fun pins s σ H D I ⟨F0, F, Γ, En, hy⟩ => by
  cases h : x1 Γ with
  | true => exact (pss_cons h0 (pss_never (X := X))) pins s σ H D I ⟨F0, F, Γ, En, h⟩
  | false =>
    refine rs_next h1 h2 pins s σ H D I ⟨F0, F, Γ, En, ?_⟩
    unfold ySeq at hy ⊢
    rw [h] at hy
    exact hy
theorem rs_one {st : Stmt} {rest : List Stmt} (h0 : RS X st x1) : RSs X (st :: rest) x1 := fun pins s σ H D I ⟨F0, F, Γ, En, hy⟩ =>
  (pss_cons h0 (pss_never (X := X))) pins s σ H D I ⟨F0, F, Γ, En, hy⟩
def yIf (t : G → Option Bool) (x1 x2 : G → Bool) : G → Bool := fun Γ => match t Γ with
  | some true => x1 Γ
  | some false => x2 Γ
  | none => false
theorem r_if {c : Expr} {a b : List Stmt} {t : G → Option Bool} (hc : ET X.nox c t) (ha : RSs X a x1) (hb : RSs X b x2) : RS X (.If c a b pos) (yIf t x1 x2) :=
  ps_weak (ps_if (PT.nox hc) ha hb) fun E σ H ⟨F0, F, Γ, En, hy⟩ => by
    unfold yIf at hy
    cases h : t Γ with
    | none => rw [h] at hy; cases hy
    | some b =>
      rw [h] at hy
      refine ⟨F0, X.H₀, F, Γ, b, En, h, fun F1 H1 e1 => ?_⟩
      cases b with
      | true => exact ⟨F0, F1, Γ, En.grow e1, hy⟩
      | false => exact ⟨F0, F1, Γ, En.grow e1, hy⟩
end
section
variable {P : Program} {w : World} {K : PySem.W.Frag} {mg : Str → Option Value} {base : Heap} {N : List Str} {qual : Str} {scope : Scope} {f C : Addr} {cdv : Value} {A : Around} {outer : List Env} {s₀ : Shared} {H₀ : Hp} {E : XK}
theorem r_raise {cx msg : Str} {j : Nat} {np apos cpos pos : Pos} (EC : ErrC K mg cx C) (hg : Gl (cxOf (Fly P w C) P w K mg base N qual scope f cdv A outer s₀ H₀ E) cx) (hd : (cx == ("__debug__" : Str)) = false := by decide) :
    RS (cxOf (Fly P w C) P w K mg base N qual scope f cdv A outer s₀ H₀ E) (.Raise (some (.Call (.Name cx np) [.Constant (.str msg) j apos] [] cpos)) none pos) yAll :=
  ps_weak (ps_raise PySem.F.excBase_ValueError EC.ex hg EC.nm hd) fun D σ H ⟨F0, F, Γ, En, _⟩ => En.ext.hh
end
/-- a def that refuses, by its body -/
def xBody (np n : Nat) (x : G → Bool) : List D → Bool := fun ds => decide (ds.length = np) && x (startG n ds)
theorem refuser_body {P : Program} {w : World} {K : PySem.W.Frag} {mg : Str → Option Value} {base : Heap} {k : Nat} {n : Str} {st : Stmt} {fa C : Addr} {fd : FuncData} {N ps : List Str} {x : G → Bool}
    (Fn : Fun K n n st fa fd) (hx : mg n = some (.ref fa)) (S : FnScope N ps (defScope st)) (hb : Binds K fd ps [])
    (body : ∀ (cdv : Value) (A : Around) (outer : List Env) (s : Shared) (H : Hp) (E : XK), Room k (A.deeper (envOfC n (defScope st) s.heap.objs.size fa cdv)) → RSs (cxOf (Fly P w C) P w K mg base N n (defScope st) fa cdv A outer s H E) (defBody st) x) :
    Refuser P w K mg base (k + 1) n C (xBody ps.length N.length x) := by
  obtain ⟨oc, od, kV, doc, pm, an, cdv, ct, osl, rfl, lk, hcd⟩ := Fn.ex
  refine ⟨fa, _, ps, fn_of lk hcd S (fun vs H Q E ⟨F, ds, sm, r, e⟩ => ?_) (fun A outer s H vs Q E hr ⟨F, ds, sm, r, e⟩ => ⟨_, body cdv A outer s H E hr, ?_⟩), hx, Fn.kp, hb⟩
  · unfold xBody at e
    rw [Bool.and_eq_true, decide_eq_true_eq] at e
    rw [r.length]; exact e.1
  · unfold xBody at e
    rw [Bool.and_eq_true] at e
    exact ⟨F, F, startG N.length ds, start_is sm r, e.2⟩
end DD

namespace L2
open PySem PySem.Spec PyProof.Rows
/-! ### an exception that leaves a comprehension -/
section
variable {M : Model} {A : Around} {E : Value → Shared → Prop} {s : Shared}
theorem note_any {B : Heap} {env env' : Env} {outer : List Env} {L a : Addr} {cls a0 v : Value} {Q : Unit → Shared → Prop} (hfr : A.frames = some (env :: outer)) (hf : env.frame = some L) (hf' : env'.frame = some L)
    (hB : B.StaysIn s.heap) (hn : B.get? a = none) (hF : s.heap.FunFrames B (env :: outer)) (ht : s.heap.TracedAtW B a cls a0 v)
    (hQ : ∀ h', B.StaysIn h' → h'.FunFrames B (env :: outer) → h'.TracedAtW B a cls a0 (rawInt L) → s.heap.UpToSlots h' → Q () { s with heap := h' }) : wpAny M A (noteFrame (.ref a) env') Q E s := by
  cases hv : (v == rawInt L) with
  | true =>
    have e : v = rawInt L := by simpa using hv
    subst e
    exact wpAny_noteFrame_againW hf' ht (hQ s.heap hB hF ht (.refl _))
  | false =>
    obtain ⟨oe, vs, T, oT, ts, he, ⟨hc, h0⟩, hd, h1, hnT, hTe, hT, hdT, h3⟩ := ht
    subst hc
    have hfo : PySem.frameOf env' = PySem.frameOf env := by unfold PySem.frameOf; rw [hf, hf']
    unfold noteFrame
    simp only [hf', hfo]
    refine wpAny_bind (wpAny_field he hd h1 ?_)
    rw [if_pos (show (Value.ref T != Value.none) = true by simp)]
    refine wpAny_bind (wpAny_field hT hdT h3 ?_)
    rw [if_neg (by rw [hv]; exact Bool.false_ne_true)]
    refine wpAny_bind (wpAny_setField hT hdT (Array.getElem?_eq_some_iff.mp h3).1 ?_)
    have oth : ∀ b, b ≠ T → (s.heap.update T (Obj.mapFields (·.setIfInBounds 3 Value.none))).get? b = s.heap.get? b := fun b hb => Heap.get?_update_other s.heap _ (Ne.symm hb)
    have nrec : ∀ b o, s.heap.get? b = some o → (∀ vs, o.data ≠ .fields vs) → b ≠ T := fun b o hb hnf q => by
      rw [q, hT] at hb
      cases hb
      exact hnf ts hdT
    refine wpAny_entryW hfr (hF.of_keeps fun b o hb hnf => ⟨o, (oth b (nrec b o hb hnf)).trans hb, rfl⟩) hf ((oth a (Ne.symm hTe)).trans he) (fun b o hbo => (oth b fun q => by rw [q, hnT] at hbo; cases hbo).trans (hB b o hbo)) hn hd (Array.getElem?_eq_some_iff.mp h1).1 h0 fun h' ⟨x1, x2, x3, x4⟩ => ?_
    exact hQ h' x1 x2 x3 fun b o hb hnf => x4 b o ((oth b (nrec b o hb hnf)).trans hb) hnf
theorem flight_any {B : Heap} {l : List Env} {a : Addr} {cls a0 v : Value} {fr : Option Addr} {Q : Unit → Shared → Prop} (hB : B.StaysIn s.heap) (hF : s.heap.FunFrames B l) (ht : s.heap.TracedAtW B a cls a0 v)
    (hQ : ∀ h' v', B.StaysIn h' → h'.FunFrames B l → h'.TracedAtW B a cls a0 v' → s.heap.UpToSlots h' → Q () { s with heap := h' }) : wpAny M A (setFlight (.ref a) fr) Q E s := by
  obtain ⟨oe, vs, T, oT, ts, he, hc, hd, h1, hnT, hTe, hT, hdT, h3⟩ := ht
  have hz : 3 < ts.size := (Array.getElem?_eq_some_iff.mp h3).1
  have oth : ∀ b, b ≠ T → (s.heap.update T (Obj.mapFields (·.setIfInBounds 3 (fr.elim Value.none fun f => rawInt f)))).get? b = s.heap.get? b := fun b hb => Heap.get?_update_other s.heap _ (Ne.symm hb)
  have nrec : ∀ b o, s.heap.get? b = some o → (∀ vs, o.data ≠ .fields vs) → b ≠ T := fun b o hb hnf q => by
    rw [q, hT] at hb
    cases hb
    exact hnf ts hdT
  unfold setFlight
  refine wpAny_bind (wpAny_field he hd h1 ?_)
  rw [if_pos (show (Value.ref T != Value.none) = true by simp)]
  refine wpAny_setField hT hdT hz (hQ _ (fr.elim Value.none fun f => rawInt f) (fun b o hbo => (oth b fun q => by rw [q, hnT] at hbo; cases hbo).trans (hB b o hbo)) (hF.of_keeps fun b o hb hnf => ⟨o, (oth b (nrec b o hb hnf)).trans hb, rfl⟩) ?_ fun b o hb hnf => ⟨o.slots, (oth b (nrec b o hb hnf)).trans hb⟩)
  exact ⟨oe, vs, T, _, _, (oth a (Ne.symm hTe)).trans he, hc, hd, h1, hnT, hTe, Heap.get?_update_self _ hT (Obj.isFreed_of_fields (Obj.data_mapFields hdT _)), Obj.data_mapFields hdT _, by simp [hz]⟩
theorem traced_base {B B' h : Heap} {a : Addr} {cls a0 v : Value} (k : B'.StaysIn B) (ht : h.TracedAtW B a cls a0 v) : h.TracedAtW B' a cls a0 v := by
  obtain ⟨oe, vs, T, oT, ts, h1, h2, h3, h4, h5, h6⟩ := ht
  exact ⟨oe, vs, T, oT, ts, h1, h2, h3, h4, PySem.W.fresh_of_stays k h5, h6⟩
theorem traced_but {B h h' : Heap} {a b : Addr} {cls a0 v : Value} {ob : Obj} (hb : h.get? b = some ob) (hnf : ∀ vs, ob.data ≠ .fields vs) (sb : Heap.SameBut b h h') (ht : h.TracedAtW B a cls a0 v) : h'.TracedAtW B a cls a0 v := by
  obtain ⟨oe, vs, T, oT, ts, h1, h2, h3, h4, h5, h6, h7, h8, h9⟩ := ht
  have na : a ≠ b := fun z => by rw [z, hb] at h1; cases h1; exact hnf vs h3
  have nT : T ≠ b := fun z => by rw [z, hb] at h7; cases h7; exact hnf ts h8
  exact ⟨oe, vs, T, oT, ts, (sb.2 a na).trans h1, h2, h3, h4, h5, h6, (sb.2 T nT).trans h7, h8, h9⟩
end
theorem comp_loopX {prog : Program} {w : World} {A : Around} {R : Result → Shared → Prop} {s : Shared} {elt target iter : Expr} {ifs : List Expr} {scope : Scope} {pos : Pos} {it acc : Value} {env : Env} (I : Nat → Shared → Prop) (Z : Value → Shared → Prop) (hz : ∀ e s, Z e s → notedBy (model prog w) A env (fun e s' => R (.error e) s') e s)
    (turn : ∀ n s, I n s → wpAny (model prog w) A (pyNext it) (fun r s1 => match r with
      | none => R (.ok .next) s1
      | some v => wpAny (model prog w) A (letOwnedTupleGo target it v) (fun _ s1' => wpAny (model prog w) A (assign target env v) (fun _ s2 =>
          wpAny (model prog w) A (forIn ifs true fun c r => if r = true then do let ok ← isTrue c env (eval c env); pure (ForInStep.yield ok) else pure (ForInStep.yield r)) (fun ok s3 =>
            if ok = true then wpAny (model prog w) A (eval elt env) (fun x s4 =>
              wpAny (model prog w) A (call (.builtin "list.append") [acc, x]) (fun _ s5 => ∃ m, m < n ∧ I m s5) (fun _ _ => False) s4) Z s3
            else ∃ m, m < n ∧ I m s3) (fun _ _ => False) s2) (fun _ _ => False) s1') (fun _ _ => False) s1) (fun _ _ => False) s)
    (n : Nat) (h : I n s) :
    codeAny (model prog w) A (.compLoop (.ListComp elt [⟨target, iter, ifs, 0⟩] scope pos) 0 it acc env) R s := by
  refine codeAny_loop rfl I (fun n s hI => ?_) n h
  show wpAny _ A ((compTurn (.ListComp elt [⟨target, iter, ifs, 0⟩] scope pos) 0 it acc env).onRaise (fun x => do noteFrame x env; theTreesLotGoes x)) _ _ s
  refine wpAny_noted ?_
  rw [compTurn_list]
  refine wpAny_bind (wpAny_standAt (wpAny_bind (wpAny_mono (turn n s hI) (fun r s1 h1 => ?_) fun _ _ h' => h'.elim)))
  cases r with
  | none => exact wpAny_pure h1
  | some v =>
    refine wpAny_bind (wpAny_mono h1 (fun _ s1' h1' => ?_) fun _ _ h' => h'.elim)
    refine wpAny_bind (wpAny_mono h1' (fun _ s2 h2 => wpAny_bind (wpAny_mono h2 (fun ok s3 h3 => ?_) fun _ _ h' => h'.elim)) fun _ _ h' => h'.elim)
    cases ok with
    | false => exact wpAny_pure ⟨rfl, h3⟩
    | true => exact wpAny_bind (wpAny_bind (wpAny_mono h3 (fun x s4 h4 => wpAny_bind (wpAny_mono h4 (fun _ s5 h5 => wpAny_pure (wpAny_pure ⟨rfl, h5⟩)) fun _ _ h' => h'.elim)) fun e s4 h4 => hz e s4 h4))

theorem funFrames_but {base h h' : Heap} : ∀ {l : List Env}, (∀ b ∈ l.filterMap (·.frame), h'.get? b = h.get? b) → h.FunFrames base l → h'.FunFrames base l
  | [], _, _ => trivial
  | en :: r, k, ⟨hk, ⟨L, o, hf, hn, ho, hd⟩, hr⟩ => ⟨hk, ⟨L, o, hf, hn, (k L (List.mem_filterMap.mpr ⟨en, List.mem_cons_self, hf⟩)).trans ho, hd⟩, funFrames_but (fun b hb => k b (by
      obtain ⟨e, he, hf⟩ := List.mem_filterMap.mp hb
      exact List.mem_filterMap.mpr ⟨e, List.mem_cons_of_mem _ he, hf⟩)) hr⟩
section
variable {X : Cx} {pins : List (Addr × Obj)} {σ : St} {H2 : Hp} {s2 s3 : Shared} {Ce D C : Addr} {scope : Scope} {cl : List (Str × Addr)} {N : List Str} {fp : List Addr} {use : Option (Value → Sem Unit)} {Q : Value → Shared → Prop} {acc : Value}
theorem comp_fly (hst : X.stack = X.env :: X.outer) (hfrm : X.env.frame = some X.env.locals) (hxr : XR X Ce) (I2 : Inv X pins σ H2 s2) (hsm : Same X.H₀ H2) (hD : D = s2.heap.objs.size)
    (hs3 : s3 = { s2 with heap := s2.heap.push { cls := .type "list", data := .seq ([] : List Value).toArray } }) (hC : C = s3.heap.objs.size) (hfp : ∀ b ∈ fp, FpOk X pins H2 b) (hfo : ∀ b ∈ fp, b < s2.heap.objs.size)
    (e : Value) (s' : Shared) (hz : Flx (compCx X scope cl C N s3 H2 (D :: fp)) Ce e s') :
    notedBy (model X.prog X.w) X.A (compEnvC scope cl C X.env) (fun e s' => compPost (model X.prog X.w) X.A X.xe use Q acc C (.error e) s') e s' := by
  obtain ⟨a, H', B, a0, v, he, S⟩ := hz
  subst he
  have frm : X.A.frames = some (X.env :: X.outer) := by rw [I2.ok.frames, hst]
  have F0 : s'.heap.FunFrames B (X.env :: X.outer) := by have := S.frm; rw [show (compCx X scope cl C N s3 H2 (D :: fp)).stack = X.stack from rfl, hst] at this; exact this
  refine note_any frm hfrm (show (compEnvC scope cl C X.env).frame = some X.env.locals from hfrm) S.stays S.nb F0 S.trc fun h1 st1 F1 t1 u1 => ?_
  obtain ⟨m, hn⟩ := S.loc
  have hnC : s'.heap.Ns C m := hn
  have hn1 : h1.Ns C m := u1.ns hnC
  show ∃ m, h1.Ns C m ∧ ∀ h', Heap.SameBut C h1 h' → ∀ cenv : Env, cenv.locals = C → wpAny (model X.prog X.w) X.A (PySem.passOn "comprehension.variables-let-go" (.ref a) cenv : Sem Value) (fun _ _ => False) X.xe { s' with heap := h' }
  refine ⟨m, hn1, fun h2 sb cenv _ => ?_⟩
  obtain ⟨oC, es, ep, hoC, hdC, _⟩ := id hn1
  have nfC : ∀ vs, oC.data ≠ .fields vs := fun vs z => by rw [hdC] at z; cases z
  have up : ∀ b o, s2.heap.get? b = some o → s3.heap.get? b = some o := fun b o e => by rw [hs3]; exact Heap.get?_push_of_some _ e
  have hz3 : s3.heap.objs.size = s2.heap.objs.size + 1 := by rw [hs3]; exact Heap.size_push ..
  have neC : ∀ b o, s2.heap.get? b = some o → b ≠ C := fun b o q z => by
    have := Heap.lt_size q
    rw [z, hC, hz3] at this
    exact absurd this (Nat.not_lt.mpr (Nat.le_succ _))
  have neD : ∀ b o, s2.heap.get? b = some o → b ≠ D := fun b o q z => by
    have := Heap.lt_size q
    rw [z, hD] at this
    exact Nat.lt_irrefl _ this
  -- the ground without the comprehension's names
  have kB : (PySem.W.hideAll B [C]).StaysIn B := fun b o q => PySem.W.of_hideAll _ q
  have st2 : (PySem.W.hideAll B [C]).StaysIn h2 := fun b o q => by
    have nb : b ≠ C := fun z => by rw [PySem.W.hideAll_none [C] (by rw [z]; exact List.mem_singleton.mpr rfl)] at q; cases q
    exact (sb.2 b nb).trans (st1 b o (kB b o q))
  have t2 : h2.TracedAtW (PySem.W.hideAll B [C]) a (.ref Ce) a0 (rawInt X.env.locals) := traced_but hoC nfC sb (traced_base kB t1)
  have frC : C ∉ frs X.stack := fun z => by
    have hz' : C ∈ (X.env :: X.outer).filterMap (·.frame) := by rw [← hst]; exact z
    obtain ⟨_, o, ho, _⟩ := I2.stack.mem z
    exact neC C o ho rfl
  have F2 : h2.FunFrames (PySem.W.hideAll B [C]) (X.env :: X.outer) := by
    have F1' := PySem.W.funFrames_base kB F1
    exact funFrames_but (fun b hb => sb.2 b fun z => frC (by rw [hst, ← z]; exact hb)) F1'
  unfold PySem.passOn
  obtain ⟨oe, vs, T, oT, ts, hoe, _, hd, hv1, _⟩ := id t2
  refine wpAny_bind (wpAny_field hoe hd hv1 ?_)
  rw [if_neg (show ¬ ((Value.ref T == Value.none) = true) by simp)]
  refine wpAny_bind (flight_any (s := { s' with heap := h2 }) st2 F2 t2 fun h3 v' st3 F3 t3 u3 => wpAny_throw ?_)
  refine hxr _ _ ⟨a, H', PySem.W.hideAll B [C], a0, v', rfl, ?_⟩
  -- what is held
  have inB : ∀ b o, B.get? b = some o → b ≠ C → (PySem.W.hideAll B [C]).get? b = some o := fun b o q nb => PySem.W.hideAll_get _ q fun z => nb (List.mem_singleton.mp z)
  have HC : H' C = none := S.nloc
  have trk3 : ∀ b u o, H' b = some u → h3.get? b = some o → (PySem.W.hideAll B [C]).get? b = some o := fun b u o hbu q => by
    obtain ⟨o₁, q1⟩ := (S.hok b u hbu).ex
    have nb : b ≠ C := fun z => by rw [z, HC] at hbu; cases hbu
    have q2 := inB b o₁ (S.trk b u o₁ hbu q1) nb
    have q3 := st3 b o₁ q2
    rw [q3] at q; cases q
    exact q2
  have keep : ∀ b o, s2.heap.get? b = some o → H2 b = none → b ∉ frs X.stack → b ∉ fp → (PySem.W.hideAll B [C]).get? b = some o := fun b o q n h1' h2' =>
    inB b o (S.old b o (up b o q) n h1' (fun z => (List.mem_cons.mp z).elim (neD b o q) h2')) (neC b o q)
  have slot : ∀ b o, s2.heap.get? b = some o → H2 b = none → b ∈ frs X.stack → b ∉ fp → ∃ sl, h3.get? b = some { o with slots := sl } := fun b o q n h1' h2' => by
    obtain ⟨sl, e1⟩ := S.un.slot b o (up b o q) n h1' (fun z => (List.mem_cons.mp z).elim (neD b o q) h2')
    obtain ⟨_, o', ho', hnf⟩ := S.frm.mem h1'
    rw [e1] at ho'; cases ho'
    obtain ⟨sl1, e2⟩ := u1 b _ e1 hnf
    have e3 := (sb.2 b (neC b o q)).trans e2
    obtain ⟨sl2, e4⟩ := u3 b _ e3 hnf
    exact ⟨sl2, e4⟩
  have hok3 : HOk X.prog X.w H' h3 := fun b u hbu => by
    refine (S.hok b u hbu).stay (fun c v hc q => ?_) (fun _ q => q) fun _ _ q => q
    rcases hc with rfl | hc
    · have nb : c ≠ C := fun z => by rw [z, HC] at hbu; cases hbu
      exact st3 c v (inB c v (S.trk c u v hbu q) nb)
    · have nb : c ≠ C := fun z => by rw [z, HC] at hc; cases hc
      exact st3 c v (inB c v (S.trk c _ v hc q) nb)
  have I3 : Inv X pins σ H' { s' with heap := h3 } := by
    refine I2.call' (s' := { s' with heap := h3 }) (ch := fp) (by rw [show ({ s' with heap := h3 } : Shared).os = s'.os from rfl, S.os]; show s3.os = s2.os; rw [hs3]) ⟨fun b o q n h1' h2' => st3 b o (keep b o q n h1' h2'), slot,
      fun b o q n hx => S.un.free b o (up b o q) n (fun z => (List.mem_cons.mp z).elim (neD b o q) hx), fun b o q hx => ?_, S.un.tups, S.un.frzs, S.un.tbls⟩ hok3 S.bare fun b hb => ?_
    · cases n : H2 b with
      | none =>
        by_cases hb : b ∈ frs X.stack
        · obtain ⟨sl, e1⟩ := slot b o q n hb hx; exact ⟨_, e1⟩
        · exact ⟨o, st3 b o (keep b o q n hb hx)⟩
      | some u =>
        obtain ⟨o', e1⟩ := S.un.there b o (up b o q) (fun z => (List.mem_cons.mp z).elim (neD b o q) hx)
        have hbu := S.same b u n
        have nb : b ≠ C := neC b o q
        exact ⟨o', st3 b o' (inB b o' (S.trk b u o' hbu e1) nb)⟩
    · obtain ⟨_, n1, _, n2, n3, n4⟩ := hfp b hb
      exact ⟨n2, n1, n3, n4⟩
  obtain ⟨m3, hn3, _⟩ := I3.loc
  refine ⟨hsm.trans S.same, I3.os, S.bare, I3.base, hok3, st3, PySem.W.fresh_of_stays kB S.nb, by rw [hst]; exact F3, t3, fun b o q n h1' h2' => ?_, trk3, ⟨m3, hn3⟩, I3.free⟩
  have q2 := I2.base.keep b o q n h1' h2'
  refine keep b o q2 (I2.base.free b o q n h2') (I2.nostk q h1') fun z => ?_
  obtain ⟨_, _, _, n2, _, _⟩ := hfp b z
  rcases n2 with n2 | n2
  · exact h2' n2
  · exact Nat.lt_irrefl _ (Nat.lt_of_lt_of_le (Heap.lt_size q) n2)
end
section
variable {X : Cx} {pins : List (Addr × Obj)} {σ : St} {H : Hp} {s : Shared}
theorem comp_runX {Ce : Addr} {elt tg iter : Expr} {ifs : List Expr} {scope : Scope} {pos cpos : Pos} {use : Option (Value → Sem Unit)} {N : List Str} {ms : List (Option Nat)} {wi : TI} {g : TG} {tf : TT} {te : Hp → TE} {Q : Value → Shared → Prop} {Fin : List V → Hp → Prop}
    (hst : X.stack = X.env :: X.outer) (hfrm : X.env.frame = some X.env.locals) (hxr : XR X Ce) (hc : X.calm = true) (ok : CompOk X.env.scope X.N scope N ms) (hi : PI X tg iter wi)
    (hb : ∀ cl C s H ex, PG (compCx X scope cl C N s H ex) tg g ∧ PF (compCx X scope cl C N s H ex) ifs tf ∧ PE ((compCx X scope cl C N s H ex).wish (Flx (compCx X scope cl C N s H ex) Ce)) elt (te H))
    (hs : ∀ x, foldedSetIterable iter X.env x = pure x)
    (I : Inv X pins σ H s) (hw : wi σ H fun J H1 => Same X.H₀ H1 ∧ CompW J g tf (te H1) (blk ms σ) H1 Fin)
    (fin : ∀ D C s' ys H' m, Inv X pins σ (upd H' D (.lst ys)) s' → H' D = none → Fin ys H' → s'.heap.Ns C m → FpOk X pins (upd H' D (.lst ys)) C → compPost (model X.prog X.w) X.A X.xe use Q (.ref D) C (.ok .next) s') :
    wpAny (model X.prog X.w) X.A (comprehension (.ListComp elt [⟨tg, iter, ifs, 0⟩] scope pos) scope X.env cpos (newList []) false (eval iter X.env) use) Q X.xe s := by
  obtain ⟨cl, hclos, hcl, hcl2⟩ := closure_ok (scope := scope) (env := X.env) (fun y hy e => by
    obtain ⟨c, hc⟩ := I.ok.has y.1 (ok.fr y hy e)
    rw [hc]; rfl)
  refine wpAny_comprehension_free (use := use) rfl hs hclos ok.kind ok.loc (thn (hi pins s σ H _ I hw) fun v s1 h1 => thn h1 fun itv s2 h2 => ?_)
  obtain ⟨it, fp, tn, J, H2, e, I2, T, st2, f2, hsm, W, ⟨m0, w0⟩, turn⟩ := h2
  subst e
  refine wpAny_newObj_type (wpAny_newFunctionEnv ok.nocell (by intro y hy; simp at hy) (fun h1 hns hsb => ?_) ok.kind)
  dsimp only at hns hsb ⊢
  generalize hs3 : ({ s2 with heap := s2.heap.push { cls := .type "list", dict := none, data := .seq ([] : List Value).toArray } } : Shared) = s3
  have hheap : s2.heap.push { cls := .type "list", dict := none, data := .seq ([] : List Value).toArray } = s3.heap := by rw [← hs3]
  rw [hheap] at hns hsb
  have hDs : s3.heap.objs.size = s2.heap.objs.size + 1 := by rw [← hheap]; exact Heap.size_push ..
  obtain ⟨D, hD⟩ : ∃ D, D = s2.heap.objs.size := ⟨_, rfl⟩
  obtain ⟨C, hC⟩ : ∃ C, C = s3.heap.objs.size := ⟨_, rfl⟩
  have hk : ∀ b o, s3.heap.get? b = some o → h1.get? b = some o := fun b o e => hsb.extBut b o (Nat.ne_of_lt (Heap.lt_size e)) (Heap.get?_push_of_some _ e)
  have up : ∀ b o, s2.heap.get? b = some o → s3.heap.get? b = some o := fun b o e => by rw [← hheap]; exact Heap.get?_push_of_some _ e
  have hfo : ∀ b ∈ fp, b < s2.heap.objs.size := fun b hb => let ⟨o, e, _⟩ := T.obj _ _ st2 b hb; Heap.lt_size e
  have hDC : D ≠ C := by rw [hD, hC, hDs]; exact Nat.ne_of_lt (Nat.lt_succ_self _)
  have hDfp : D ∉ fp := fun hm => by have := hfo D hm; rw [hD] at this; exact Nat.lt_irrefl _ this
  have hs3' : s3 = { s2 with heap := s2.heap.push { cls := .type "list", data := .seq ([] : List Value).toArray } } := hs3.symm
  have I3 : Inv X pins σ H2 s3 := by rw [hs3']; exact I2.kept (t' := s2.toks) fun b o e => Heap.get?_push_of_some _ e
  have en : ∀ tk, Inv (compCx X scope cl C N s3 H2 (D :: fp)) [] (blk ms σ) H2 { s3 with heap := h1, toks := tk } := fun tk => comp_enter I2 ok hcl hcl2 f2 hfo hD hs3' hC (by rw [hC]; exact hns) hk
  have fpX : ∀ {pl : List (Addr × Obj)} {H' : Hp}, (∀ b ∈ fp, H' b = none) → (∀ p ∈ pl, p.1 = D) → ∀ b ∈ fp, FpOk (compCx X scope cl C N s3 H2 (D :: fp)) pl H' b := fun {pl H'} hn hp b hb => by
    have ok' := (en 0).ok
    refine ⟨hn b hb, (ok'.exf b (List.mem_cons_of_mem _ hb)).1, ok'.exfs b (List.mem_cons_of_mem _ hb), .inl (List.mem_cons_of_mem _ hb), (ok'.exf b (List.mem_cons_of_mem _ hb)).2, fun p hpm z => ?_⟩
    have hpm' : p ∈ pl := hpm
    rw [hp p hpm'] at z
    exact hDfp (z ▸ hb)
  have DX : ∀ {pl : List (Addr × Obj)} {sg : St} {H' : Hp} {s' : Shared} {o : Obj}, Inv (compCx X scope cl C N s3 H2 (D :: fp)) pl sg H' s' → H' D = none → s'.heap.get? D = some o → (∀ v, o.data ≠ .cell v) → Inv (compCx X scope cl C N s3 H2 (D :: fp)) [(D, o)] sg H' s' := fun {pl sg H' s' o} J' hn ho hd =>
    J'.pins_of fun p hp => by
      obtain rfl := List.mem_singleton.mp hp
      exact ⟨ho, hn, (J'.ok.exf D List.mem_cons_self).1, J'.ok.exfs D List.mem_cons_self, hd⟩
  have loop : ∀ s4 : Shared, (∃ tk, s4 = { s3 with heap := h1, toks := tk }) →
      codeAny (model X.prog X.w) X.A (.compLoop (.ListComp elt [⟨tg, iter, ifs, 0⟩] scope pos) 0 (.ref it) (.ref D) (compEnvC scope cl C X.env)) (compPost (model X.prog X.w) X.A X.xe use Q (.ref D) C) s4 := by
    rintro s4 ⟨tk, rfl⟩
    refine comp_loopX (Z := Flx (compCx X scope cl C N s3 H2 (D :: fp)) Ce) (hz := fun e s' hz => comp_fly hst hfrm hxr I2 hsm hD hs3' hC f2 hfo e s' hz) (I := fun n s' => ∃ i ys H' its nn, Inv (compCx X scope cl C N s3 H2 (D :: fp)) [] (blk ms σ) H' s' ∧ tn i s'.heap ∧ (∀ b ∈ fp, H' b = none) ∧ H' D = none ∧
      s'.heap.get? D = some { cls := .type "list", data := .seq (its : List Value).toArray nn } ∧ Vals ys its ∧ W i n ys H') ?_ m0 ⟨0, [], H2, [], 0, en tk, T.keep _ _ _ st2 fun b hb o e => hk b o (up b o e), fun b hb => (f2 b hb).1, I2.hok.fresh (Nat.le_of_eq hD.symm), hk _ _ ?_, .nil, w0⟩
    · rintro n s' ⟨i, ys, H', its, nn, I', st', fr', dn', hd', rv', w'⟩
      obtain ⟨gh, hb2⟩ := hb cl C s3 H2 (D :: fp)
      obtain ⟨tfh, teh⟩ := hb2
      obtain ⟨hz, alt⟩ := turn i n ys H' w'
      have nocell : ∀ v, (({ cls := .type "list", data := .seq its.toArray nn } : Obj)).data ≠ .cell v := fun v z => by
        have z' : Data.seq its.toArray nn = Data.cell v := z
        cases z'
      have ID := DX I' dn' hd' nocell
      have fpI := fpX (pl := [(D, ({ cls := .type "list", data := .seq its.toArray nn } : Obj))]) fr' (fun p hp => by obtain rfl := List.mem_singleton.mp hp; rfl)
      rcases alt with ⟨stop, qf⟩ | ⟨go, step⟩
      · refine thn (T.done (compCx X scope cl C N s3 H2 (D :: fp)) rfl rfl rfl hc i _ s' _ H' _ ID fpI st' stop) fun r s5 ⟨hr, I5⟩ => ?_
        subst hr
        have hd5 := (I5.pin (D, _) (List.mem_append_right _ (List.mem_singleton.mpr rfl))).1
        obtain ⟨m, hn5, _⟩ := I5.loc
        have Hc : (upd H' D (.lst ys)) C = none := by rw [upd_ne (Ne.symm hDC)]; exact I5.free
        exact fin D C s5 ys H' m (comp_leave I2 f2 hD hs3' I5 dn' hd5 rv' hz) dn' qf hn5 (I3.fpOk (Nat.le_of_eq hC.symm) Hc)
      · refine thn (T.item (compCx X scope cl C N s3 H2 (D :: fp)) rfl rfl rfl hc i _ s' _ H' _ ID fpI st' go) fun r s5 ⟨u, hr, h5⟩ => ?_
        subst hr
        refine thn h5 fun _ s6 ⟨x, H6, I6, r6, y6, st6, fr6⟩ => ?_
        have I6' := I6.pinned (fpX (pl := [(D, ({ cls := .type "list", data := .seq its.toArray nn } : Obj))]) fr6 (fun p hp => by obtain rfl := List.mem_singleton.mp hp; rfl)) (T.obj _ _ st6)
        refine thn (gh _ s6 _ H6 x u _ I6' r6 (step x H6 y6)) fun _ s7 ⟨sg7, H7, I7, wk7, q7⟩ => ?_
        have back : ∀ {H9 : Hp} {s9 : Shared} {its' : List Value} {ys' : List V} {m' nn' : Nat}, Inv (compCx X scope cl C N s3 H2 (D :: fp)) ([(D, ({ cls := .type "list", data := .seq its.toArray nn } : Obj))] ++ pinsAt fp s6.heap) sg7 H9 s9 →
            ∀ h10 : Heap, (∀ b o, b ≠ D → s9.heap.get? b = some o → h10.get? b = some o) → h10.get? D = some { cls := .type "list", data := .seq its'.toArray nn' } → Vals ys' its' → m' < n → W (i + 1) m' ys' H9 →
            ∃ m, m < n ∧ ∃ i ys H' its nn, Inv (compCx X scope cl C N s3 H2 (D :: fp)) [] (blk ms σ) H' { s9 with heap := h10 } ∧ tn i h10 ∧ (∀ b ∈ fp, H' b = none) ∧ H' D = none ∧
              h10.get? D = some { cls := .type "list", data := .seq (its : List Value).toArray nn } ∧ Vals ys its ∧ W i m ys H' := fun {H9 s9 its' ys' m' nn'} I9 h10 hb10 hd10 rv10 hm w9 => by
          have dn9 : H9 D = none := (I9.pin (D, _) (List.mem_append_right _ (List.mem_append_left _ (List.mem_singleton.mpr rfl)))).2.1
          have pk : ∀ b ∈ fp, ∀ o, s6.heap.get? b = some o → s9.heap.get? b = some o ∧ H9 b = none := fun b hb o e =>
            let q := I9.pin (b, o) (List.mem_append_right _ (List.mem_append_right _ (mem_pinsAt hb e))); ⟨q.1, q.2.1⟩
          have I10 : Inv (compCx X scope cl C N s3 H2 (D :: fp)) [] (blk ms σ) H9 s9 := (I9.pins_of (pins' := []) fun p hp => (nomatch hp)).weak wk7.1 wk7.2
          refine ⟨m', hm, i + 1, ys', H9, its', nn', I10.turned (t' := s9.toks) hb10 dn9 (I10.ok.exf D List.mem_cons_self).1 (.inl List.mem_cons_self) (fun x c e => (I10.ok.exf D List.mem_cons_self).2 x c e) (fun p hp => (nomatch hp)),
            T.keep _ _ _ st6 fun b hb o e => hb10 b o (fun z => hDfp (z ▸ hb)) (pk b hb o e).1, fun b hb => ?_, dn9, hd10, rv10, w9⟩
          obtain ⟨o, e, _⟩ := T.obj _ _ st6 b hb
          exact (pk b hb o e).2
        refine thn (tfh _ s7 sg7 H7 _ I7 q7) fun b s8 ⟨H8, I8, q8⟩ => ?_
        have hd8 : s8.heap.get? D = some { cls := .type "list", data := .seq its.toArray nn } := (I8.pin (D, _) (List.mem_append_right _ (List.mem_append_left _ (List.mem_singleton.mpr rfl)))).1
        cases b with
        | false =>
          obtain ⟨m', hm, w8⟩ := q8
          exact back I8 s8.heap (fun _ _ _ q => q) hd8 rv' hm w8
        | true =>
          refine thn (teh _ s8 sg7 H8 _ (I8.wish _) q8) fun u9 s9 ⟨y9, H9, I9', r9, hz9, m', hm, w9⟩ => ?_
          have I9 := I9'.unwish
          have hd9 : s9.heap.get? D = some { cls := .type "list", data := .seq its.toArray nn } := (I9.pin (D, _) (List.mem_append_right _ (List.mem_append_left _ (List.mem_singleton.mpr rfl)))).1
          have hl := rv'.length
          refine append_at (hsz := by rw [List.size_toArray, ← hl]; exact hz) hd9 fun h10 hs10 hd10 => ?_
          refine back I9 h10 (fun b o hb e => (hs10.2 b hb).trans e) (its' := its ++ [u9]) (nn' := nn + 1) (by rw [hd10, List.push_toArray]) (rv'.append (.cons r9 .nil)) hm w9
    · rw [← hheap, hD]
      exact Heap.get?_push_size _ rfl
  subst hD
  subst hC
  subst hs3
  exact codeAny_compStart_list (loop _ ⟨_, rfl⟩) (T.self X.A 0 _ _ _ (T.keep _ _ _ st2 fun b hb o e => hk b o (up b o e)) (loop _ ⟨_, rfl⟩))

end
end L2

namespace L2
open PySem PySem.Spec PyProof.Rows
theorem PI.nox {X : Cx} {tg iter : Expr} {wi : TI} (h : PI X.nox tg iter wi) : PI X tg iter wi := fun pins s σ H R I hw =>
  wpAny_mono (h pins s σ H R (I.wish _) hw) (fun v s1 h1 => wpAny_mono h1 (fun itv s2 ⟨it, fp, tn, J, H', e, I', T, t0, f, r⟩ => ⟨it, fp, tn, J, H', e, I'.unwish, T, t0, f, r⟩) fun _ _ z => False.elim z) fun _ _ z => False.elim z
end L2
namespace DD
open PySem PySem.Spec L2
open PyProof.Rows hiding St
section
variable {X : Cx} {Ce : Addr} {elt tg iter : Expr} {pos : Pos}
/-- a comprehension that meets a refusal -/
def compX (t : D → G → Option G) (cond : G → Option Bool) (el : G → Option B) (y : G → Bool) (Γ : G) : List D → Bool
  | [] => false
  | d :: r => match t d Γ with
    | none => false
    | some Γ1 => match cond Γ1 with
      | none => false
      | some false => compX t cond el y Γ r
      | some true => y Γ1 || (((el Γ1).bind B.asD).isSome && compX t cond el y Γ r)
def yComp (src : G → Option (List D)) (ms : List (Option Nat)) (t : D → G → Option G) (cond : G → Option Bool) (el : G → Option B) (y : G → Bool) : G → Bool := fun Γ => match src Γ with
  | none => false
  | some ds => decide (ds.length ≤ sizeLine) && compX t cond el y (blkG ms Γ) ds
structure BlkX (X : Cx) (Ce : Addr) (scope : Scope) (N : List Str) (tg : Expr) (ifs : List Expr) (elt : Expr) (is : List Nat) (t : D → G → Option G) (cond : G → Option Bool) (el : G → Option B) (y : G → Bool) : Prop where
  go : ∀ cl C s H ex, GN (compCx X scope cl C N s H ex) tg is t ∧ EF (compCx X scope cl C N s H ex) ifs cond ∧ EE (compCx X scope cl C N s H ex) elt el ∧ RE ((compCx X scope cl C N s H ex).wish (Flx (compCx X scope cl C N s H ex) Ce)) elt y
/-- within a comprehension a refusal may leave -/
theorem xr_comp {scope : Scope} {cl : List (Str × Addr)} {C : Addr} {N : List Str} {s : Shared} {H : Hp} {ex : List Addr} : XR ((compCx X scope cl C N s H ex).wish (Flx (compCx X scope cl C N s H ex) Ce)) Ce := fun e s' ⟨a, H', B, a0, v, he, S⟩ =>
  ⟨a, H', B, a0, v, he, S.same, S.os, S.bare, S.un, S.hok, S.stays, S.nb, S.frm, S.trc, S.old, S.trk, S.loc, S.nloc⟩
def teX (K : PySem.W.Frag) (el : G → Option B) (y : G → Bool) (H0 : Hp) : TE := fun σ H Q => dE K el σ H Q ∨ ∃ F0 H1 F Γ, EnvIs K F0 H1 F H σ Γ ∧ Same H0 H ∧ y Γ = true
theorem BlkX.pe {scope : Scope} {N : List Str} {ifs : List Expr} {is : List Nat} {t : D → G → Option G} {cond : G → Option Bool} {el : G → Option B} {y : G → Bool} (hb : BlkX X Ce scope N tg ifs elt is t cond el y) (cl : List (Str × Addr)) (C : Addr) (s : Shared) (H : Hp) (ex : List Addr) :
    PE ((compCx X scope cl C N s H ex).wish (Flx (compCx X scope cl C N s H ex) Ce)) elt (teX X.K el y H) := fun pins s1 σ H1 Q I hq => by
  obtain ⟨_, _, h3, h4⟩ := hb.go cl C s H ex
  rcases hq with hq | hq
  · exact (PE.nox (X := (compCx X scope cl C N s H ex).wish (Flx (compCx X scope cl C N s H ex) Ce)) h3) pins s1 σ H1 Q I hq
  · exact h4 pins s1 σ H1 Q I hq
theorem r_comp {ifs : List Expr} {scope : Scope} {N : List Str} {src : G → Option (List D)} {ms : List (Option Nat)} {is : List Nat} {t : D → G → Option G} {cond : G → Option Bool} {el : G → Option B} {y : G → Bool}
    (hst : X.stack = X.env :: X.outer) (hfrm : X.env.frame = some X.env.locals) (hxr : X.Ok → XR X Ce) (hc : X.calm = true) (ok : CompOk X.env.scope X.N scope N ms) (hi : EC X.nox tg iter src) (hb : BlkX X Ce scope N tg ifs elt is t cond el y)
    (nd : ∀ (i k j : Nat), ms[i]? = some (some j) → ms[k]? = some (some j) → i = k) (fr : ∀ j ∈ is, ∀ k, ms[j]? ≠ some (some k))
    (hs : ∀ x, foldedSetIterable iter X.env x = pure x := by intro _; rfl) : RE X (.ListComp elt [⟨tg, iter, ifs, 0⟩] scope pos) (yComp src ms t cond el y) := by
  intro pins s σ H Q I ⟨F0, H0, F, Γ, En, hsm, hy⟩
  unfold yComp at hy
  cases hds : src Γ with
  | none => rw [hds] at hy; cases hy
  | some ds =>
    rw [hds] at hy
    have hy' : (decide (ds.length ≤ sizeLine) && compX t cond el y (blkG ms Γ) ds) = true := hy
    rw [Bool.and_eq_true, decide_eq_true_eq] at hy'
    obtain ⟨hz, hy'⟩ := hy'
    rw [eval_ListComp]
    refine comp_runX (use := none) (g := dGs X.K is t) (tf := dT X.K cond) (te := teX X.K el y) (Fin := fun _ _ => False) hst hfrm (hxr I.ok) hc ok (PI.nox hi) (fun cl C s H ex => ⟨(hb.go cl C s H ex).1, (hb.go cl C s H ex).2.1, hb.pe cl C s H ex⟩) hs I ?_ (fun D C s' ys H' m _ _ z => z.elim)
    refine ⟨F0, H0, F, Γ, ds, En, hds, fun J F1 H1 e1 itr => ⟨hsm.trans e1.hh, ?_⟩⟩
    refine ⟨fun i m vs H2 => m = ds.length - i ∧ i ≤ ds.length ∧ vs.length ≤ i ∧ ∃ F2, Ext F1 H1 F2 H2 ∧ compX t cond el y (blkG ms Γ) (ds.drop i) = true, ⟨ds.length, by simp, Nat.zero_le _, Nat.le_refl _, F1, .refl e1.fh, by simpa using hy'⟩, ?_⟩
    rintro i m vs H2 ⟨rfl, hi, hvi, F2, e2, h2⟩
    obtain ⟨go, _⟩ := itr i F2 H2 e2
    refine ⟨Nat.le_trans hvi (Nat.le_trans hi hz), ?_⟩
    by_cases hlt : i < ds.length
    · obtain ⟨g1, g2⟩ := go ds[i] (by simp [hlt])
      rw [List.drop_eq_getElem_cons hlt] at h2
      unfold compX at h2
      cases h3 : t ds[i] (blkG ms Γ) with
      | none => rw [h3] at h2; cases h2
      | some Γ3 =>
        rw [h3] at h2
        simp only at h2
        cases h4 : cond Γ3 with
        | none => rw [h4] at h2; cases h2
        | some b =>
          rw [h4] at h2
          refine .inr ⟨g1, fun x H' yy => ?_⟩
          obtain ⟨F3, ex, hx⟩ := g2 x H' yy
          have E3 : EnvIs X.K F0 H0 F3 H' (L2.blk ms σ) (blkG ms Γ) := (((En.grow e1).grow e2).grow ex).blk nd
          refine ⟨F0, H0, F3, blkG ms Γ, ds[i], Γ3, E3, hx, h3, fun σ4 E4 bs => ⟨⟨bs.1, fun j v hj => ?_⟩, F0, H0, F3, Γ3, b, E4, h4, fun F5 H5 e5 => ?_⟩⟩
          · rw [bs.2 j fun hm => ?_]
            · exact hj
            · obtain ⟨k, hk, _⟩ := blk_get hj
              exact fr j hm k hk
          · have ex5 := (e2.trans ex).trans e5
            cases b with
            | false => exact ⟨ds.length - (i + 1), by omega, rfl, hlt, by omega, F5, ex5, h2⟩
            | true =>
              simp only at h2
              cases hyy : y Γ3 with
              | true => exact .inr ⟨F0, H0, F5, Γ3, E4.grow e5, ex5.hh, hyy⟩
              | false =>
                rw [hyy, Bool.false_or, Bool.and_eq_true] at h2
                cases h6 : el Γ3 with
                | none => rw [h6] at h2; cases h2.1
                | some yb =>
                  rw [h6] at h2
                  cases h7 : yb.asD with
                  | none => rw [Option.bind_some, h7] at h2; cases h2.1
                  | some z =>
                    have := asD_some h7; subst this
                    exact .inl ⟨F0, H0, F5, Γ3, _, E4.grow e5, h6, fun v F6 H6 e6 r6 => ⟨by omega, ds.length - (i + 1), by omega, rfl, hlt, by rw [List.length_append, List.length_singleton]; omega, F6, ex5.trans e6, h2.2⟩⟩
    · have : i = ds.length := by omega
      subst this
      rw [List.drop_length] at h2
      cases h2
end
end DD

namespace L2
open PySem PySem.Spec PyProof.Rows
section
variable {X : Cx} {pins : List (Addr × Obj)} {σ : St} {H : Hp} {s : Shared} {M : Model} {A : Around} {E : Value → Shared → Prop}
/-- a name goes, behind an except suite -/
theorem names_go {j : Nat} {n : Str} {pos : Pos} {Q : Unit → Shared → Prop} (I : Inv X pins σ H s) (hN : X.N.Nodup) (hj : X.N[j]? = some n) (hloc : X.env.scope.names.lookup n = some .local) (h : ∀ s', Inv X pins (σ.set j none) H s' → Q () s') :
    wpAny M A (do bindName X.env n .none; unbindBehindTheSuite X.env n pos) Q E s := by
  obtain ⟨m, hn, hl⟩ := I.loc
  refine wpAny_nameGoes_keeps (show X.env.kindOf n = some .local from hloc) hn (by rw [I.ok.kind]; rfl) fun h' v hns hsb => h _ ?_
  have keep : ∀ b o, b ≠ X.env.locals → s.heap.get? b = some o → h'.get? b = some o := fun b o hb q => (hsb.2 b hb).trans q
  have neL : ∀ b o, X.s₀.heap.get? b = some o → b ≠ X.env.locals := fun b o e => Nat.ne_of_lt (Nat.lt_of_lt_of_le (Heap.lt_size e) I.ok.above)
  refine ⟨I.ok, I.os, I.bare, ⟨fun b o e n hb hx => keep b o (neL b o e) (I.base.keep b o e n hb hx), fun b o e n hb hx => ?_, I.base.free, fun b o e hx => ?_, I.base.tups, I.base.frzs, I.base.tbls⟩, ⟨_, hns, fun i x v1 e1 e2 e3 => ?_⟩, fun x c e => ?_, I.free, I.freeC, fun p hp => ?_, fun b u hbu => ?_, ?_⟩
  · obtain ⟨sl, e1⟩ := I.base.slot b o e n hb hx
    exact ⟨sl, keep b _ (neL b o e) e1⟩
  · obtain ⟨o', e1⟩ := I.base.there b o e hx
    exact ⟨o', keep b o' (neL b o e) e1⟩
  · by_cases hij : i = j
    · subst hij
      have : i < σ.length := by
        have := (List.getElem?_eq_some_iff.mp e2).1
        simpa using this
      rw [List.getElem?_set_self this] at e2
      cases e2
    · rw [List.getElem?_set_ne (Ne.symm hij)] at e2
      obtain ⟨u, r, lk⟩ := hl i x v1 e1 e2 e3
      have hxn : x ≠ n := fun z => hij (nodup_ix hN (z ▸ e1) hj)
      refine ⟨u, r, ?_⟩
      rcases lk with ⟨k1, k2⟩ | ⟨k1, c, k2, k3⟩
      · exact .inl ⟨k1, (if_neg hxn).trans k2⟩
      · obtain ⟨o, ho, hd⟩ := k3
        exact .inr ⟨k1, c, k2, o, keep c o (I.cne x c k2) ho, hd⟩
  · obtain ⟨v, o, ho, hd⟩ := I.cell x c e
    exact ⟨v, o, keep c o (I.cne x c e) ho, hd⟩
  · obtain ⟨e, n, ne, nf, d⟩ := I.pin p hp
    exact ⟨keep p.1 p.2 ne e, n, ne, nf, d⟩
  · refine (I.hok b u hbu).stay (fun c v hc q => keep c v (fun z => ?_) q) (fun _ q => q) fun _ _ q => q
    have := I.free
    rcases hc with rfl | hc
    · rw [← z, hbu] at this; cases this
    · rw [← z, hc] at this; cases this
  · rw [List.length_set]; exact I.len
end
end L2
namespace DD
open PySem PySem.Spec L2
open PyProof.Rows hiding St
theorem EnvIs.unset {K : PySem.W.Frag} {F0 H0 F H : Hp} {σ : St} {Γ : G} {j : Nat} (E : EnvIs K F0 H0 F H σ Γ) : EnvIs K F0 H0 F H (σ.set j none) (Γ.set j .un) := by
  refine ⟨E.ext, by simpa using E.len, fun i s e => ?_, fun i k s t a hik e1 e2 o1 o2 r1 r2 => ?_⟩
  · by_cases hj : i = j
    · subst hj
      have hlt : i < Γ.length := by have := (List.getElem?_eq_some_iff.mp e).1; simpa using this
      rw [List.getElem?_set_self hlt] at e
      cases e
      exact ⟨none, List.getElem?_set_self (by rw [E.len]; exact hlt), trivial⟩
    · rw [List.getElem?_set_ne (Ne.symm hj)] at e ⊢
      exact E.val i s e
  · have h1 : i ≠ j := fun z => by
      subst z
      have hlt : i < Γ.length := by have := (List.getElem?_eq_some_iff.mp e1).1; simpa using this
      rw [List.getElem?_set_self hlt] at e1
      cases e1; cases o1
    have h2 : k ≠ j := fun z => by
      subst z
      have hlt : k < Γ.length := by have := (List.getElem?_eq_some_iff.mp e2).1; simpa using this
      rw [List.getElem?_set_self hlt] at e2
      cases e2; cases o2
    rw [List.getElem?_set_ne (Ne.symm h1)] at e1 r1
    rw [List.getElem?_set_ne (Ne.symm h2)] at e2 r2
    exact E.sep i k s t a hik e1 e2 o1 o2 r1 r2
/-- try: y = f(x) / except C as e: if ..: return .. -/
def sTryA (i i2 j : Nat) (mr : List D → Option D) (m : List D → Bool) : G → Option Out := fun Γ => (xVar i Γ).bind fun b => b.asD.bind fun d => if m [d] = true then some (.nx (Γ.set j .un)) else (mr [d]).map fun r => .nx (Γ.set i2 (.v r))
section
variable {X : Cx}
theorem s_tryA {C fa : Addr} {fd : FuncData} {ps : List Str} {k : Nat} {m : List D → Bool} {mr : List D → Option D} {fx ax cx nx yx : Str} {i i2 j : Nat} {test : Expr} {ifb : List Stmt} {p1 pa cpos epos np rpos hpos pos py : Pos}
    (hst : X.stack = X.env :: X.outer) (hfrm : X.env.frame = some X.env.locals)
    (Fn : FnOk X.prog X.w X.K X.mg X.base (Fly X.prog X.w C) k fa fd ps (spX X.K m)) (hr : Room k X.A) (hg : Gl X fx) (hm : X.mg fx = some (.ref fa)) (hk : PySem.W.keepIn X.K (.ref fa) = true) (hb : Binds X.K fd ps [])
    (hv : ∀ E', PE (X.wish E') (.Name ax pa) (tVar i)) (hn : SD X.nox (.Assign [.Name yx py] (.Call (.Name fx p1) [.Name ax pa] [] cpos) epos) (sSet i2 (xFn mr (xCons (xVar i) xNil))))
    (hcg : Gl X cx) (hcm : X.mg cx = some (.ref C)) (hcls : PySem.W.ktsIn X.K C "BaseException" = true)
    (hN : X.N.Nodup) (hj : X.N[j]? = some nx) (hloc : X.env.scope.names.lookup nx = some .local)
    (htest : ∀ (a : Addr) (oe : Obj), oe.cls = .ref C → PT (X.marked a oe) test (fun σ H Q => σ[j]? = some (some (.ref a)) ∧ Q false H))
    (hdf : (fx == ("__debug__" : Str)) = false := by decide) (hdc : (cx == ("__debug__" : Str)) = false := by decide)
    (he : starEach [.Name ax pa] X.env = [(false, eval (.Name ax pa) X.env)] := by rfl) (hsw : swapsWith (.Call (.Name fx p1) [.Name ax pa] [] cpos) (some (.Name yx py)) epos.line X.env = pure false := by rfl) :
    SD X (.Try [.Assign [.Name yx py] (.Call (.Name fx p1) [.Name ax pa] [] cpos) epos] [.ExceptHandler (some (.Name cx np)) (some nx) [.If test ifb [] rpos] hpos] [] [] pos) (sTryA i i2 j mr m) := by
  intro pins s σ H D I ⟨F0, H0, F, Γ, o, En, e, q⟩
  obtain ⟨b, hb1, ea⟩ := bind_some e
  obtain ⟨d, hd1, eb⟩ := bind_some ea
  have := asD_some hd1; subst this
  by_cases hmd : m [d] = true
  · rw [if_pos hmd] at eb
    cases eb
    -- the argument's value
    have hval : ∃ v, σ[i]? = some (some v) ∧ Is X.K F d v := by
      unfold xVar at hb1
      cases z : Γ[i]? with
      | none => rw [z] at hb1; cases hb1
      | some sl =>
        rw [z] at hb1
        have hb1' : sl.look = some (.d d) := hb1
        obtain ⟨o, h1, h2⟩ := En.val i sl z
        cases sl with
        | v d' => cases hb1'; obtain ⟨v, rfl, r⟩ := h2; exact ⟨v, h1, r⟩
        | _ => cases hb1'
    obtain ⟨v, hσ, hv1⟩ := hval
    refine wpAny_Try_except ?_
    refine wpAny_execs_cons (wpAny_Assign_Name ?_ hsw)
    refine wpAny_mono (Q := fun _ _ => False) ?_ (fun _ _ z => False.elim z) fun _ _ z => z
    refine wpAny_Call_Name_kw (ld_glob I hg hm ?_ hdf)
    refine PySem.W.callWith_K (h₀ := X.base) I.ok.mod.kin hk (wpAny_mono ((pa_cons (X := X.wish fun _ _ => False) (hv fun _ _ => False) pa_nil he) cpos pins s σ H (fun vs H1 => vs = [v] ∧ H = H1) (I.wish _) ⟨v, hσ, rfl, rfl⟩) (fun us s1 ⟨vs, H1, I1', r, e1, e2⟩ => ⟨I1'.kIn, ?_⟩) fun _ _ z => False.elim z) he rfl
    subst e1 e2
    have I1 := I1'.unwish
    have hl : (us ++ []).length = ps.length := by
      rw [List.append_nil, ← r.length]
      exact Fn.len [v] H (fun _ _ => False) (fun _ _ _ => True) ⟨F, [d], En.fh, .cons hv1 .nil, hmd⟩
    refine wpAny_call (codeAny_mono (Fn.run X.A X.stack s1 H ⟨us, []⟩ (us ++ []) [v] (fun _ _ => False) (fun _ _ _ => True) hr I1.env0 (hb s1 us I1.kIn hl) (by rw [List.append_nil]; exact r) ⟨F, [d], En.fh, .cons hv1 .nil, hmd⟩) fun rr s' hq => ?_)
    cases rr with
    | ok fl =>
      cases fl with
      | ret u => obtain ⟨_, _, _, _, _, _, _, z⟩ := hq; exact z.elim
      | next => exact False.elim hq
      | brk => exact False.elim hq
      | cont => exact False.elim hq
    | error ee =>
      obtain ⟨a, H', B, a0, S⟩ := hq
      have := S.ee; subst this
      obtain ⟨hp, g, dr, tk, os⟩ := s'
      have fly : Heap.FlyingW B (X.env :: X.outer) a (.ref C) a0 hp := by have := S.fly; rw [hst] at this; exact this
      have frm : X.A.frames = some (X.env :: X.outer) := by rw [I1.ok.frames, hst]
      refine wpAny_looks_onW frm hfrm fly fun h₄ held sm₄ => ?_
      refine wpAny_landsW held fun h₅ fly₅ sm₅ => ?_
      have I5 : Inv X pins σ H' ⟨h₅, g, dr, tk, os⟩ := fly_inv (t' := tk) I1 S fly₅.1 (sm₄.trans sm₅)
      obtain ⟨nm, q', NN, bs, bm, hdct, sn, sub, ab, col, dd, k0, k1, k2, k3, k5, newId, hC, hbase, _⟩ := PySem.W.kts_cls I5.kIn hcls
      have hnone : H' a = none := by
        cases z : H' a with
        | none => rfl
        | some u =>
          obtain ⟨ob, hob⟩ := (S.hok a u z).ex
          have := S.trk a u ob z hob
          rw [S.fly.2.1] at this; cases this
      have pinOf : ∀ {h : Heap} {oe : Obj} {vs : Array Value}, h.FunFrames B (X.env :: X.outer) → h.get? a = some oe → oe.data = .fields vs → a ≠ X.env.locals ∧ a ∉ X.fs ∧ ∀ v, oe.data ≠ .cell v := fun {h oe vs} hf ho hd => by
        have nin : a ∉ (X.env :: X.outer).filterMap (·.frame) := fun z => by
          obtain ⟨_, o', ho', hnf⟩ := hf.mem z
          rw [ho] at ho'; cases ho'
          exact hnf vs hd
        refine ⟨fun z => nin (List.mem_filterMap.mpr ⟨X.env, List.mem_cons_self, by rw [hfrm, z]⟩), fun z => nin ?_, fun v z => by rw [hd] at z; cases z⟩
        obtain ⟨en, hen, hf'⟩ := List.mem_filterMap.mp z
        exact List.mem_filterMap.mpr ⟨en, List.mem_cons_of_mem _ hen, hf'⟩
      obtain ⟨oe5, vs5, hoe5, hcl5, hdt5, _⟩ := fly₅.first
      obtain ⟨p51, p52, p53⟩ := pinOf fly₅.2.2.1 hoe5 hdt5
      have I5m : Inv (X.marked a oe5) pins σ H' ⟨h₅, g, dr, tk, os⟩ := I5.marked hoe5 hnone p51 p52 p53
      refine wpAny_handleBy_cons (codeAny_handlers_test (ld_glob (X := X.marked a oe5) I5m hcg hcm ?_ hdc)) (by intro q; cases q)
      refine wpAny_excMatches_sub_self hC hoe5 hcl5 hbase ?_
      refine codeAny_handlers_suite_as (lands_againW fly₅ fun h₆ fly₆ sm₆ => ?_)
      obtain ⟨oe, vs6, hoe, hcl, hdt, _⟩ := fly₆.first
      obtain ⟨p61, p62, p63⟩ := pinOf fly₆.2.2.1 hoe hdt
      have I6 : Inv X pins σ H' ⟨h₆, g, dr, tk, os⟩ := fly_inv (t' := tk) I1 S fly₆.1 ((sm₄.trans sm₅).trans sm₆)
      have I6m : Inv (X.marked a oe) pins σ H' ⟨h₆, g, dr, tk, os⟩ := I6.marked hoe hnone p61 p62 p63
      refine store_ok (X := X.marked a oe) I6m hN hj (Or.inl hloc) (v := .ref a) (u := .ref a) rfl (fun s₇ I7 => ?_) (.inr hloc)
      have hjl : j < σ.length := by
        have h1 := (List.getElem?_eq_some_iff.mp hj).1
        have h2 := I1.len
        omega
      have hrun := (pss_one (ps_if (pos := rpos) (htest a oe hcl) (pss_never (sts := ifb)) pss_nil)) pins s₇ (σ.set j (some (.ref a))) H' { nx := fun σ2 H2 => σ2 = σ.set j (some (.ref a)) ∧ H2 = H', rt := fun _ _ => False } I7 ⟨by rw [List.getElem?_set_self hjl], rfl, rfl⟩
      refine wpAny_mono hrun (fun fl s₈ hq => ?_) fun _ _ z => False.elim z
      cases fl with
      | next =>
        obtain ⟨σ8, H8, I8, rfl, rfl⟩ := hq
        refine names_go (I8.unmarked I1.ok) hN hj hloc fun s₉ I9 => ?_
        rw [List.set_set] at I9
        have ex : Ext F H F H8 := ⟨Same.refl _, S.same, fun b u z => S.same b u (En.fh b u z), fun b h1 h2 => absurd h1 h2⟩
        exact ⟨_, H8, I9, q _ F H8 ((En.grow ex).unset) (Same.refl _)⟩
      | ret u => obtain ⟨_, _, _, _, _, z⟩ := hq; exact z.elim
      | brk => obtain ⟨_, _, _, z⟩ := hq; exact z.elim
      | cont => obtain ⟨_, _, _, z⟩ := hq; exact z.elim
  · rw [if_neg hmd] at eb
    obtain ⟨r, hr1, rfl⟩ := map_some eb
    refine wpAny_Try_except ?_
    refine wpAny_mono ((pss_one hn) pins s σ H D (I.wish _) ⟨F0, H0, F, Γ, .nx (Γ.set i2 (.v r)), En, ?_, q⟩) (fun f s1 hq => ?_) fun _ _ z => False.elim z
    · show (xFn mr (xCons (xVar i) xNil) Γ).bind _ = _
      have e1 : xFn mr (xCons (xVar i) xNil) Γ = some (.d r) := by
        unfold xFn xCons xNil
        rw [hb1]
        show ((some [B.d d]).bind asDs).bind _ = _
        show (mr [d]).map B.d = _
        rw [hr1]; rfl
      rw [e1]; rfl
    · have hq' := SP.unwish hq
      cases f with
      | next => exact wpAny_execs_nil hq'
      | brk => exact hq'
      | cont => exact hq'
      | ret u => exact hq'
/-- tests over the exception that is handled -/
def tTE (j : Nat) (a : Addr) (b : Bool) : TT := fun σ H Q => σ[j]? = some (some (.ref a)) ∧ Q b H
theorem te_val {a : Addr} {j : Nat} {e : Expr} {b : Bool} (h : PE X e (tIsE j a b)) (he : ∀ whole, isTrue e X.env whole = (do let v ← whole; standAt e.pos; holding [v] (truthy v)) := by intro _; rfl) : PT X e (tTE j a b) :=
  pt_weak (pt_val h he) fun σ H Q ⟨h1, h2⟩ => ⟨h1, b, rfl, h2⟩
theorem te_not {a : Addr} {j : Nat} {e : Expr} {p : Pos} {b : Bool} (h : PT X e (tTE j a b)) : PT X (.UnaryOp .Not e p) (tTE j a (!b)) := pt_weak (pt_not h) fun σ H Q ⟨h1, h2⟩ => ⟨h1, h2⟩
theorem te_or1 {a : Addr} {j : Nat} {e : Expr} {p : Pos} {b : Bool} (h : PT X e (tTE j a b)) : PW X (.BoolOp .Or [e] p) (tTE j a b) := pw_or1 h
theorem te_or {a : Addr} {j : Nat} {e1 e2 : Expr} {es : List Expr} {p : Pos} {b : Bool} (h1 : PT X e1 (tTE j a false)) (h2 : PW X (.BoolOp .Or (e2 :: es) p) (tTE j a b)) : PW X (.BoolOp .Or (e1 :: e2 :: es) p) (tTE j a b) :=
  pw_weak (pw_or h1 h2) fun σ H Q ⟨q1, q2⟩ => ⟨q1, q1, q2⟩
theorem s_tryB {C : Addr} {k k' : Nat} {m : List D → Bool} {mr : List D → Option D} {fx ax cx nx yx : Str} {i i2 j : Nat} {test : Expr} {ifb : List Stmt} {p1 pa cpos epos np rpos hpos pos py : Pos} (R : Refuser X.prog X.w X.K X.mg X.base k fx C m) (EC : ErrC X.K X.mg cx C)
    (hn : SD X.nox (.Assign [.Name yx py] (.Call (.Name fx p1) [.Name ax pa] [] cpos) epos) (sSet i2 (xFn mr (xCons (xVar i) xNil))))
    (hst : X.stack = X.env :: X.outer) (hfrm : X.env.frame = some X.env.locals) (hr : Room k' X.A) (hk : k ≤ k') (hg : Gl X fx) (hv : ∀ E', PE (X.wish E') (.Name ax pa) (tVar i)) (hcg : Gl X cx)
    (hN : X.N.Nodup) (hj : X.N[j]? = some nx) (hloc : X.env.scope.names.lookup nx = some .local)
    (htest : ∀ (a : Addr) (oe : Obj), oe.cls = .ref C → PT (X.marked a oe) test (tTE j a false))
    (hdf : (fx == ("__debug__" : Str)) = false := by decide) (hdc : (cx == ("__debug__" : Str)) = false := by decide)
    (he : starEach [.Name ax pa] X.env = [(false, eval (.Name ax pa) X.env)] := by rfl) (hsw : swapsWith (.Call (.Name fx p1) [.Name ax pa] [] cpos) (some (.Name yx py)) epos.line X.env = pure false := by rfl) :
    SD X (.Try [.Assign [.Name yx py] (.Call (.Name fx p1) [.Name ax pa] [] cpos) epos] [.ExceptHandler (some (.Name cx np)) (some nx) [.If test ifb [] rpos] hpos] [] [] pos) (sTryA i i2 j mr m) := by
  obtain ⟨fa, fd, ps, Fn, hm, hkp, hb⟩ := R.ex
  exact s_tryA hst hfrm Fn (hr.mono hk) hg hm hkp hb hv hn hcg EC.nm EC.kt hN hj hloc htest hdf hdc he hsw
end
end DD
namespace DD
open PySem PySem.Spec L2
theorem rs_no {X : Cx} {sts : List Stmt} : RSs X sts yNo := fun pins s σ H D I ⟨F0, F, Γ, En, hy⟩ => by cases hy
end DD
namespace DD
open PySem PySem.Spec L2
theorem te_notT {X : Cx} {a : Addr} {j : Nat} {e : Expr} {p : Pos} (h : PT X e (tTE j a true)) : PT X (.UnaryOp .Not e p) (tTE j a false) := te_not h
end DD

namespace L2
open PySem PySem.Spec PyProof.Rows
section
variable {X : Cx}
/-! ### a text's slices, int(text), a text walked -/
def rSlS : V → Option Int → Option Int → Hp → VK → Prop := fun x lo hi H Q => ∃ z, x = .str z ∧ z.length ≤ sizeLine ∧ Q (.str (Txt.slice z lo hi)) H
theorem sl_str : SlR X rSlS := by
  intro pins s σ H x v vl vu lo hi sl Q I rx hs pl pu h
  obtain ⟨z, rfl, hz, q⟩ := h
  obtain ⟨t, rfl⟩ := rx
  refine ⟨"str", _, PySem.F.slot_str_getitem.lookup, typeIs_str _ _ _, ?_⟩
  have fin : ∀ t' k, EP X pins σ Q (.str (Txt.slice z lo hi) t') { s with toks := k } := fun t' k => ⟨.str _, H, I.tok k, ⟨t', rfl⟩, q⟩
  cases pl with
  | none =>
    cases pu with
    | none => exact wpAny_getItem_str_slice (l := none) (u := none) (st := none) hs rfl (post_val_or_str ⟨Nat.le_trans (Txt.slice_le z none none) hz, fin⟩)
    | int j uj => exact wpAny_getItem_str_slice (l := none) (u := some (j, uj)) (st := none) hs rfl (post_val_or_str ⟨Nat.le_trans (Txt.slice_le z none (some j)) hz, fin⟩)
  | int i ui =>
    cases pu with
    | none => exact wpAny_getItem_str_slice (l := some (i, ui)) (u := none) (st := none) hs rfl (post_val_or_str ⟨Nat.le_trans (Txt.slice_le z (some i) none) hz, fin⟩)
    | int j uj => exact wpAny_getItem_str_slice (l := some (i, ui)) (u := some (j, uj)) (st := none) hs rfl (post_val_or_str ⟨Nat.le_trans (Txt.slice_le z (some i) (some j)) hz, fin⟩)
theorem call_int_str : CallR X (.type "int") (fun xs H Q => ∃ x n, xs = [.str x] ∧ PySem.intText? x = some n ∧ x.length ≤ 640 ∧ Q (.int n) H) := by
  intro pins s σ H xs us Q I r h
  obtain ⟨x, n, rfl, hn, hl, q⟩ := h
  obtain ⟨u, rfl, t, rfl⟩ := vals1 r
  exact PySem.W.KIN.call_text hn hl ⟨.int n, H, I.tok _, ⟨_, rfl⟩, q⟩
/-- a text's signs, one by one -/
def Its (x : Str) : It := ⟨fun i _ => i < x.cps.size, fun i H v H' => H' = H ∧ ∃ c, x.cps[i]? = some c ∧ v = .str ⟨#[c]⟩, fun i _ => x.cps.size ≤ i⟩
theorem turn_str {P : Program} {w : World} {K : PySem.W.Frag} {tg : Expr} (it : Addr) (x : Str) (t : Tok) : Turn P w K tg (Its x) [it] it (fun i h => h.IsStrIter it "str_ascii_iterator" x t i) where
  mem := by simp
  obj := fun i h st b hb => by
    have e : b = it := by simpa using hb
    subst e
    obtain ⟨o, e, c, d⟩ := st
    exact ⟨o, e, fun v z => by rw [d] at z; cases z⟩
  keep := fun i h h' st k => let ⟨o, ho, r⟩ := st; ⟨o, k it (by simp) o ho, r⟩
  item := by
    intro X hP hw hK hc i pins s σ H E I hf st hg
    subst hP hw hK
    have hi : i < x.cps.size := hg
    obtain ⟨f0, f1, f2, f3, f4, f5⟩ := hf it (by simp)
    refine wpAny_pyNext_ascii_item st (c := x.cps[i]) (by simp [hi]) fun h' st' sb => ?_
    have I1 : Inv X pins σ H { s with heap := h', toks := s.toks + 1 } := I.turned (t' := s.toks + 1) (fun b o hb e => (sb.2 b hb).trans e) f0 f1 f3 f4 f5
    obtain ⟨o, e, c, d⟩ := id st'
    exact ⟨_, rfl, go_of (s := { s with heap := h', toks := s.toks + 1 }) e c d (by decide) ⟨.str ⟨#[x.cps[i]]⟩, H, I1, ⟨_, rfl⟩, ⟨rfl, _, by simp [hi], rfl⟩, st', fun b hb => (hf b hb).1⟩⟩
  done := by
    intro X hP hw hK hc i pins s σ H E I hf st hg
    subst hP hw hK
    have hi : x.cps.size ≤ i := hg
    obtain ⟨f0, f1, f2, f3, f4, f5⟩ := hf it (by simp)
    exact wpAny_pyNext_ascii_end (I.ok.hd hc) st (by simp [hi]) fun h' eb => ⟨rfl, I.turned (t' := s.toks) (fun b o hb e => eb b o hb e) f0 f1 f3 f4 f5⟩
  self := fun _ _ _ _ _ st h => wpAny_pyIter_striter_ascii st h
def iStr (tl : TE) : TI := fun σ H R => tl σ H fun v H1 => ∃ x, v = .str x ∧ x.cps.all (· < 128) = true ∧ R (Its x) H1
theorem pi_str {tg l : Expr} {tl : TE} (hl : PE X l tl) : PI X tg l (iStr tl) := by
  intro pins s σ H R I h
  refine thn (hl pins s σ H _ I h) fun v s1 ⟨y, H1, I1, r1, q1⟩ => ?_
  obtain ⟨x, e, ha, q⟩ := q1
  subst e
  obtain ⟨t, rfl⟩ := r1
  refine wpAny_pyIter_ascii ha ?_
  refine ⟨s1.heap.objs.size, [s1.heap.objs.size], _, _, H1, rfl, I1.kept (t' := s1.toks) fun b o e => Heap.get?_push_of_some _ e, turn_str _ x t, ⟨_, Heap.get?_push_size _ rfl, rfl, rfl⟩, fun b hb => ?_, q⟩
  have e : b = s1.heap.objs.size := by simpa using hb
  subst e
  exact I1.fpOk (Nat.le_refl _) (I1.hok.fresh (Nat.le_refl _))
end
end L2
namespace DD
open PySem PySem.Spec L2
open PyProof.Rows hiding St
section
variable {X : Cx} {K : PySem.W.Frag} {e a b tg iter : Expr} {f g : G → Option B} {pos : Pos}
/-- text[lo:hi] -/
def slSB : B → Option Int → Option Int → Option D
  | .d (.str z), lo, hi => if z.length ≤ sizeLine then some (.str (Txt.slice z lo hi)) else none
  | _, _, _ => none
def xSlS (f : G → Option B) (fl fh : G → Option (Option Int)) : G → Option B := fun Γ => (f Γ).bind fun x => (fl Γ).bind fun lo => (fh Γ).bind fun hi => (slSB x lo hi).map B.d
theorem e_slS {lo hi : Option Expr} {fl fh : G → Option (Option Int)} {p2 : Pos} (he : EE X e f) (hl : EO X lo fl) (hh : EO X hi fh) : EE X (.Subscript e (.Slice lo hi none p2) pos) (xSlS f fl fh) :=
  pe_weak (pe_slice sl_str he hl hh) fun σ H Q ⟨F0, H0, F, Γ, z, E, e, q⟩ => by
    obtain ⟨x, hx, e⟩ := bind_some e
    obtain ⟨l, hl, e⟩ := bind_some e
    obtain ⟨u, hu, e⟩ := bind_some e
    obtain ⟨d, hd, rfl⟩ := map_some e
    refine ⟨F0, H0, F, Γ, x, E, hx, fun v F1 H1 e1 r1 => ⟨F0, H0, F1, Γ, l, E.grow e1, hl, fun F2 H2 e2 => ⟨F0, H0, F2, Γ, u, (E.grow e1).grow e2, hu, fun F3 H3 e3 => ?_⟩⟩⟩
    match x, hd, r1 with
    | .d (.str y), hd, r1 =>
      have hd' : (if y.length ≤ sizeLine then some (D.str (Txt.slice y l u)) else none) = some d := hd
      by_cases hz : y.length ≤ sizeLine
      · rw [if_pos hz] at hd'; cases hd'
        have r1' : Is X.K F1 (.str y) v := r1
        simp only [Is] at r1'
        exact ⟨y, r1', hz, q _ F3 H3 ((e1.trans e2).trans e3) (by show Is X.K F3 (.str _) _; simp only [Is])⟩
      · rw [if_neg hz] at hd'; cases hd'
/-- text[i] -/
def mIxS : B → B → Option D
  | .d (.str z), y => y.int.bind fun i => if z.length ≤ sizeLine then (atI z.cps.toList i).map fun c => .str ⟨#[c]⟩ else none
  | _, _ => none
theorem ob_ixS : OpB K rIxS mIxS := fun F H x y v u d Q s hx hy e q => by
  match x, e, hx with
  | .d (.str z), e, hx =>
    obtain ⟨i, hi, e⟩ := bind_some e
    by_cases hz : z.length ≤ sizeLine
    · rw [if_pos hz] at e
      obtain ⟨c, hc, rfl⟩ := map_some e
      have hx' : Is K F (.str z) v := hx
      simp only [Is] at hx'
      exact ⟨z, i, c, hx', int_is hi hy, hz, hc, q _ F H (.refl s) (by simp only [Is])⟩
    · rw [if_neg hz] at e; cases e
theorem e_ixS (ha : EE X a f) (hb : EE X b g) (hs : PlainIx b) : EE X (.Subscript a b pos) (x2 mIxS f g) :=
  pe_weak (pe_ix ix_str ha hb hs) fun σ H Q ⟨F0, H0, F, Γ, z, E, e, q⟩ => by
    obtain ⟨x, y, d, hx, hy, hd, rfl⟩ := x2_some e
    exact ⟨F0, H0, F, Γ, x, E, hx, fun v F1 H1 e1 r1 => ⟨F0, H0, F1, Γ, y, E.grow e1, hy, fun u F2 H2 e2 r2 => ob_ixS F2 H2 x y v u d Q e2.fh (r1.ext e2) r2 hd fun w F' H' e3 r3 => q w F' H' ((e1.trans e2).trans e3) r3⟩⟩
/-- len(text) -/
def mLenS : List B → Option D
  | [.d (.str z)] => if z.length ≤ sizeLine then some (.int z.length) else none
  | _ => none
theorem cb_lenS : CallB K (fun xs H Q => ∃ z, xs = [.str z] ∧ z.length ≤ sizeLine ∧ Q (.int z.length) H) mLenS := fun F H bs vs d Q s h e q => by
  match bs, e, h with
  | [.d (.str z)], e, h =>
    have e' : (if z.length ≤ sizeLine then some (D.int z.length) else none) = some d := e
    by_cases hz : z.length ≤ sizeLine
    · rw [if_pos hz] at e'; cases e'
      obtain ⟨v, rfl, hb⟩ := bare1 h
      have hb' : Is K F (.str z) v := hb
      simp only [Is] at hb'
      exact ⟨z, by rw [hb'], hz, q _ F H (.refl s) is_int⟩
    · rw [if_neg hz] at e'; cases e'
/-- text in text -/
def mInS (neg : Bool) : B → B → Option D
  | .d (.str i), .d (.str j) => some (.bl (if neg then !(!(Builtin.Str.occurrences j i 0 j.length 1).isEmpty) else !(Builtin.Str.occurrences j i 0 j.length 1).isEmpty))
  | _, _ => none
theorem ob_ninS : OpB K (fun x y H Q => ∃ i j, x = .str i ∧ y = .str j ∧ Q (.bl (!(!(Builtin.Str.occurrences j i 0 j.length 1).isEmpty))) H) (mInS true) := fun F H x y v u d Q sm hx hy e q => by
  match x, y, e, hx, hy with
  | .d (.str i), .d (.str j), e, hx, hy =>
    cases e
    have hx' : Is K F (.str i) v := hx
    have hy' : Is K F (.str j) u := hy
    simp only [Is] at hx' hy'
    exact ⟨i, j, hx', hy', q _ F H (.refl sm) is_blD⟩
/-- int(bool), int(text) -/
def mIntA : List B → Option D
  | [.d (.bl k)] => some (.int (if k then 1 else 0))
  | [.d (.str x)] => if x.length ≤ 640 then (PySem.intText? x).map D.int else none
  | _ => none
theorem call_intA : CallR X (.type "int") (fun xs H Q => ((∃ i, xs = [.int i] ∧ Q (.int i) H) ∨ ∃ k, xs = [.bl k] ∧ Q (.int (if k then 1 else 0)) H) ∨ ∃ x n, xs = [.str x] ∧ PySem.intText? x = some n ∧ x.length ≤ 640 ∧ Q (.int n) H) := call_int1.or call_int_str
theorem cb_intA : CallB K (fun xs H Q => ((∃ i, xs = [.int i] ∧ Q (.int i) H) ∨ ∃ k, xs = [.bl k] ∧ Q (.int (if k then 1 else 0)) H) ∨ ∃ x n, xs = [.str x] ∧ PySem.intText? x = some n ∧ x.length ≤ 640 ∧ Q (.int n) H) mIntA := fun F H bs vs d Q s h e q => by
  match bs, e, h with
  | [.d (.bl k)], e, h =>
    cases e
    obtain ⟨v, rfl, hb⟩ := bare1 h
    have hb' : Is K F (.bl k) v := hb
    simp only [Is] at hb'
    exact .inl (.inr ⟨k, by rw [hb'], q _ F H (.refl s) is_int⟩)
  | [.d (.str x)], e, h =>
    have e' : (if x.length ≤ 640 then (PySem.intText? x).map D.int else none) = some d := e
    by_cases hz : x.length ≤ 640
    · rw [if_pos hz] at e'
      obtain ⟨n, hn, rfl⟩ := map_some e'
      obtain ⟨v, rfl, hb⟩ := bare1 h
      have hb' : Is K F (.str x) v := hb
      simp only [Is] at hb'
      exact .inr ⟨x, n, by rw [hb'], hn, hz, q _ F H (.refl s) is_int⟩
    · rw [if_neg hz] at e'; cases e'
/-- for c in text -/
def charsD (x : Str) : List D := x.cps.toList.map fun c => D.str ⟨#[c]⟩
def xChars (f : G → Option B) : G → Option (List D) := fun Γ => (f Γ).bind fun b => match b with
  | .d (.str x) => if x.cps.all (· < 128) = true then some (charsD x) else none
  | _ => none
theorem i_str (ha : EE X iter f) : EI X tg iter (xChars f) := pi_weak (pi_str ha) fun σ H R ⟨F0, H0, F, Γ, ds, En, e, q⟩ => by
  obtain ⟨b, hb, e⟩ := bind_some e
  refine ⟨F0, H0, F, Γ, b, En, hb, fun v F1 H1 e1 r1 => ?_⟩
  match b, e, r1 with
  | .d (.str x), e, r1 =>
    have e' : (if x.cps.all (· < 128) = true then some (charsD x) else none) = some ds := e
    by_cases hz : x.cps.all (· < 128) = true
    · rw [if_pos hz] at e'; cases e'
      have r1' : Is X.K F1 (.str x) v := r1
      simp only [Is] at r1'
      refine ⟨x, r1', hz, q _ F1 H1 e1 fun i F2 H2 s1 s2 => ⟨fun d hd => ?_, fun hl => ?_⟩⟩
      · have hlt : i < x.cps.size := by
          have := (List.getElem?_eq_some_iff.mp hd).1
          simpa [charsD] using this
        refine ⟨hlt, fun y H' yy => ?_⟩
        obtain ⟨rfl, c, hc, rfl⟩ := yy
        refine ⟨F2, .refl s2, ?_⟩
        have : d = .str ⟨#[c]⟩ := by
          simp only [charsD, List.getElem?_map, Array.getElem?_toList, hc, Option.map_some] at hd
          exact (Option.some.inj hd).symm
        subst this
        simp only [Is]
      · have : (charsD x).length = x.cps.size := by simp [charsD]
        rw [this] at hl
        exact hl
    · rw [if_neg hz] at e'; cases e'
end
end DD

namespace DD
open PySem L2
open PySem.SeqAt (shaped)
section
variable {Γ : G}
/-! ### the mirrors, reckoned -/
@[simp] theorem r_xVar {i} : xVar i Γ = Γ[i]?.bind S.look := id rfl
@[simp] theorem r_look_v {d} : S.look (.v d) = some (.d d) := id rfl
@[simp] theorem r_look_ol {d} : S.look (.ol d) = some (.l d) := id rfl
@[simp] theorem r_look_ot {d} : S.look (.ot d) = some (.t d) := id rfl
@[simp] theorem r_look_ok {d} : S.look (.ok d) = some (.k d) := id rfl
@[simp] theorem r_xC {d} : xC d Γ = some (.d d) := id rfl
def ap2 (m : B → B → Option D) : Option B → Option B → Option B
  | some x, some y => (m x y).map B.d
  | _, _ => none
@[simp] theorem ap2_some {m x y} : ap2 m (some x) (some y) = (m x y).map B.d := id rfl
@[simp] theorem r_x2 {m f g} : x2 m f g Γ = ap2 m (f Γ) (g Γ) := by unfold x2 ap2; cases f Γ <;> cases g Γ <;> rfl
@[simp] theorem r_tst {b} : B.tst (.d (.bl b)) = some b := id rfl
def tstO : Option B → Option Bool := fun o => o.bind B.tst
@[simp] theorem tstO_some {b} : tstO (some (.d (.bl b))) = some b := id rfl
@[simp] theorem r_xT {f} : xT f Γ = tstO (f Γ) := id rfl
def andO (o : Option Bool) (g : G → Option Bool) (Γ : G) : Option Bool := o.bind fun x => if x = true then g Γ else some false
@[simp] theorem andO_t {g} : andO (some true) g Γ = g Γ := id rfl
@[simp] theorem andO_f {g} : andO (some false) g Γ = some false := id rfl
@[simp] theorem r_xAnd {f g} : xAnd f g Γ = andO (f Γ) g Γ := id rfl
def orO (o : Option Bool) (g : G → Option Bool) (Γ : G) : Option Bool := o.bind fun x => if x = true then some true else g Γ
@[simp] theorem orO_t {g} : orO (some true) g Γ = some true := id rfl
@[simp] theorem orO_f {g} : orO (some false) g Γ = g Γ := id rfl
@[simp] theorem r_xOr {f g} : xOr f g Γ = orO (f Γ) g Γ := id rfl
@[simp] theorem r_xNot {f} : xNot f Γ = (f Γ).map (!·) := id rfl
@[simp] theorem r_xB {f} : xB f Γ = (f Γ).map fun x => .d (.bl x) := id rfl
def andV (o : Option Bool) (g : G → Option B) (Γ : G) : Option B := o.bind fun x => if x = true then g Γ else some (.d (.bl false))
@[simp] theorem andV_t {g} : andV (some true) g Γ = g Γ := id rfl
@[simp] theorem andV_f {g} : andV (some false) g Γ = some (.d (.bl false)) := id rfl
@[simp] theorem r_xAndV {f g} : xAndV f g Γ = andV (tstO (f Γ)) g Γ := id rfl
def orV (o : Option Bool) (g : G → Option B) (Γ : G) : Option B := o.bind fun x => if x = true then some (.d (.bl true)) else g Γ
@[simp] theorem orV_t {g} : orV (some true) g Γ = some (.d (.bl true)) := id rfl
@[simp] theorem orV_f {g} : orV (some false) g Γ = g Γ := id rfl
@[simp] theorem r_xOrV {f g} : xOrV f g Γ = orV (tstO (f Γ)) g Γ := id rfl
@[simp] theorem r_xNotV {f} : xNotV f Γ = (tstO (f Γ)).map fun x => .d (.bl (!x)) := id rfl
def ifV (o : Option Bool) (f g : G → Option B) (Γ : G) : Option B := o.bind fun x => if x = true then f Γ else g Γ
@[simp] theorem ifV_t {f g} : ifV (some true) f g Γ = f Γ := id rfl
@[simp] theorem ifV_f {f g} : ifV (some false) f g Γ = g Γ := id rfl
@[simp] theorem r_xIf {t f g} : xIf t f g Γ = ifV (t Γ) f g Γ := id rfl
def ch3 (m m' : B → B → Option D) (h : G → Option B) (Γ : G) : Option B → Option B → Option B
  | some x, some y => ((m x y).bind fun z => B.tst (.d z)).bind fun k => if k = true then ap2 m' (some y) (h Γ) else some (.d (.bl false))
  | _, _ => none
@[simp] theorem r_x3 {m m' f g h} : x3 m m' f g h Γ = ch3 m m' h Γ (f Γ) (g Γ) := by
  unfold x3 ch3
  cases f Γ with
  | none => rfl
  | some x =>
    cases g Γ with
    | none => rfl
    | some y =>
      simp only [Option.bind_some]
      congr 1; funext k
      cases h Γ <;> rfl
@[simp] theorem r_xNil : xNil Γ = some [] := id rfl
def consO : Option B → Option (List B) → Option (List B)
  | some x, some xs => some (x :: xs)
  | _, _ => none
@[simp] theorem consO_some {x xs} : consO (some x) (some xs) = some (x :: xs) := id rfl
@[simp] theorem r_xCons {f fs} : xCons f fs Γ = consO (f Γ) (fs Γ) := by unfold xCons consO; cases f Γ <;> cases fs Γ <;> rfl
@[simp] theorem r_asD {d} : B.asD (.d d) = some d := id rfl
@[simp] theorem r_asDs0 : asDs [] = some [] := id rfl
@[simp] theorem r_asDs {d r} : asDs (.d d :: r) = (asDs r).map (d :: ·) := id rfl
def tupO (o : Option (List D)) : Option B := o.bind fun ds => if ds.length ≤ sizeLine then some (.d (.tup ds)) else none
@[simp] theorem tupO_some {ds} : tupO (some ds) = if ds.length ≤ sizeLine then some (.d (.tup ds)) else none := id rfl
def dsO (o : Option (List B)) : Option (List D) := o.bind asDs
@[simp] theorem dsO_some {bs} : dsO (some bs) = asDs bs := id rfl
@[simp] theorem r_xTup {fs} : xTup fs Γ = tupO (dsO (fs Γ)) := id rfl
@[simp] theorem r_xL {f} : xL f Γ = (f Γ).map fun ds => .d (.lst ds) := id rfl
def lstO (o : Option (List D)) : Option (List D) := o.bind fun ds => if ds.length ≤ sizeLine then some ds else none
@[simp] theorem lstO_some {ds} : lstO (some ds) = if ds.length ≤ sizeLine then some ds else none := id rfl
@[simp] theorem r_xLst {fs} : xLst fs Γ = lstO (dsO (fs Γ)) := id rfl
def callO (m : List B → Option D) (o : Option (List B)) : Option B := o.bind fun bs => (m bs).map B.d
@[simp] theorem callO_some {m bs} : callO m (some bs) = (m bs).map B.d := id rfl
@[simp] theorem r_xCall {m fs} : xCall m fs Γ = callO m (fs Γ) := id rfl
def fnO (m : List D → Option D) (o : Option (List D)) : Option B := o.bind fun bs => (m bs).map B.d
@[simp] theorem fnO_some {m ds} : fnO m (some ds) = (m ds).map B.d := id rfl
@[simp] theorem r_xFn {m fs} : xFn m fs Γ = fnO m (dsO (fs Γ)) := id rfl
@[simp] theorem r_xTy {c} : xTy c Γ = some (.ty c) := id rfl
@[simp] theorem r_xG {c} : xG c Γ = some (.c c) := id rfl
def negO (o : Option B) : Option B := o.bind fun b => b.int.map fun i => .d (.int (-i))
@[simp] theorem negO_some {i} : negO (some (.d (.int i))) = some (.d (.int (-i))) := id rfl
@[simp] theorem r_xNeg {f} : xNeg f Γ = negO (f Γ) := id rfl
@[simp] theorem r_int {i} : B.int (.d (.int i)) = some i := id rfl
@[simp] theorem r_xTrue : xTrue Γ = some true := id rfl
def fixO (o : Option B) : Option (List D) := o.bind B.fix
@[simp] theorem fixO_tup {ds} : fixO (some (.d (.tup ds))) = some ds := id rfl
@[simp] theorem fixO_lst {ds} : fixO (some (.d (.lst ds))) = some ds := id rfl
@[simp] theorem r_xFix {f} : xFix f Γ = fixO (f Γ) := id rfl
@[simp] theorem r_sNext : sNext Γ = some (.nx Γ) := id rfl
def thenO (o : Option Out) (g : G → Option Out) : Option Out := o.bind fun o => match o with
  | .nx Γ' => g Γ'
  | o => some o
@[simp] theorem thenO_nx {g Γ'} : thenO (some (.nx Γ')) g = g Γ' := id rfl
@[simp] theorem thenO_rt {g d} : thenO (some (.rt d)) g = some (.rt d) := id rfl
@[simp] theorem r_sSeq {f g} : sSeq f g Γ = thenO (f Γ) g := id rfl
def retO (o : Option B) : Option Out := o.bind fun b => b.asD.map Out.rt
@[simp] theorem retO_some {d} : retO (some (.d d)) = some (.rt d) := id rfl
@[simp] theorem r_sRet {f} : sRet f Γ = retO (f Γ) := id rfl
def ifO (o : Option Bool) (f g : G → Option Out) (Γ : G) : Option Out := o.bind fun x => if x = true then f Γ else g Γ
@[simp] theorem ifO_t {f g} : ifO (some true) f g Γ = f Γ := id rfl
@[simp] theorem ifO_f {f g} : ifO (some false) f g Γ = g Γ := id rfl
@[simp] theorem r_sIf {t f g} : sIf t f g Γ = ifO (t Γ) f g Γ := id rfl
@[simp] theorem r_sNo : sNo Γ = none := id rfl
def dropO (o : Option B) (Γ : G) : Option Out := o.map fun _ => .nx Γ
@[simp] theorem dropO_some {b} : dropO (some b) Γ = some (.nx Γ) := id rfl
@[simp] theorem r_sDrop {f} : sDrop f Γ = dropO (f Γ) Γ := id rfl
def setO (i : Nat) (o : Option B) (Γ : G) : Option Out := o.bind fun b => b.asD.map fun d => .nx (Γ.set i (.v d))
@[simp] theorem setO_some {i d} : setO i (some (.d d)) Γ = some (.nx (Γ.set i (.v d))) := id rfl
@[simp] theorem r_sSet {i f} : sSet i f Γ = setO i (f Γ) Γ := id rfl
def ownO (i : Nat) (o : Option (List D)) (Γ : G) : Option Out := o.map fun ds => .nx (Γ.set i (.ol ds))
@[simp] theorem ownO_some {i ds} : ownO i (some ds) Γ = some (.nx (Γ.set i (.ol ds))) := id rfl
@[simp] theorem r_sOwn {i f} : sOwn i f Γ = ownO i (f Γ) Γ := id rfl
@[simp] theorem r_gSet {i d} : gSet i d Γ = some (Γ.set i (.v d)) := id rfl
def appO (i : Nat) : Option (List D) → Option B → G → Option Out
  | some ds, some (.d d), Γ => if ds.length < sizeLine then some (.nx (Γ.set i (.ol (ds ++ [d])))) else none
  | _, _, _ => none
@[simp] theorem appO_some {i ds d} : appO i (some ds) (some (.d d)) Γ = if ds.length < sizeLine then some (.nx (Γ.set i (.ol (ds ++ [d])))) else none := id rfl
@[simp] theorem r_sApp {i f} : sApp i f Γ = appO i (ownL Γ i) (f Γ) Γ := by
  unfold sApp appO
  cases ownL Γ i with
  | none => rfl
  | some ds =>
    cases f Γ with
    | none => rfl
    | some b => cases b <;> rfl
def extO (i : Nat) : Option (List D) → Option (List D) → G → Option Out
  | some ds, some es, Γ => if ds.length + es.length ≤ sizeLine then some (.nx (Γ.set i (.ol (ds ++ es)))) else none
  | _, _, _ => none
@[simp] theorem extO_some {i ds es} : extO i (some ds) (some es) Γ = if ds.length + es.length ≤ sizeLine then some (.nx (Γ.set i (.ol (ds ++ es)))) else none := id rfl
def lsO (o : Option B) : Option (List D) := o.bind B.lst
@[simp] theorem lsO_l {ds} : lsO (some (.d (.lst ds))) = some ds := id rfl
@[simp] theorem lsO_l2 {ds} : lsO (some (.l ds)) = some ds := id rfl
@[simp] theorem r_sExt {i f} : sExt i f Γ = extO i (ownL Γ i) (lsO (f Γ)) Γ := by
  unfold sExt extO lsO
  cases ownL Γ i with
  | none => rfl
  | some ds =>
    cases f Γ with
    | none => rfl
    | some b =>
      simp only [Option.bind_some]
      cases b.lst <;> rfl
@[simp] theorem r_lst {ds} : B.lst (.d (.lst ds)) = some ds := id rfl
@[simp] theorem r_lst2 {ds} : B.lst (.l ds) = some ds := id rfl
def forO (o : Option (List D)) (t : D → G → Option G) (fb : G → Option Out) (Γ : G) : Option Out := o.bind fun ds => forL t fb ds Γ
@[simp] theorem forO_some {ds t fb} : forO (some ds) t fb Γ = forL t fb ds Γ := id rfl
@[simp] theorem r_sFor {it t fb} : sFor it t fb Γ = forO (it Γ) t fb Γ := id rfl
def compO (o : Option (List D)) (ms : List (Option Nat)) (t : D → G → Option G) (cond : G → Option Bool) (el : G → Option B) (Γ : G) : Option (List D) := o.bind fun ds => if ds.length ≤ sizeLine then compL t cond el (blkG ms Γ) ds else none
@[simp] theorem r_xComp {src ms t cond el} : xComp src ms t cond el Γ = compO (src Γ) ms t cond el Γ := id rfl
@[simp] theorem r_fix_tup {ds} : B.fix (.d (.tup ds)) = some ds := id rfl
@[simp] theorem r_fix_lst {ds} : B.fix (.d (.lst ds)) = some ds := id rfl
theorem sz (n : Nat) (h : n ≤ 16777216) : n ≤ sizeLine := h
@[simp] theorem szv : sizeLine = 16777216 := id rfl
/-! ### operations -/
@[simp] theorem o_add {i j} : mAdd (.d (.int i)) (.d (.int j)) = some (.int (i + j)) := id rfl
@[simp] theorem o_addT {a b : List D} : mAdd (.d (.tup a)) (.d (.tup b)) = if a.length + b.length ≤ sizeLine then some (.tup (a ++ b)) else none := by
  unfold mAdd mOr mAddI mI mCatT mCatL
  by_cases h : a.length + b.length ≤ sizeLine <;> simp [h, B.int, B.lst]
@[simp] theorem o_addL {a b : List D} : mAdd (.d (.lst a)) (.d (.lst b)) = if a.length + b.length ≤ sizeLine then some (.lst (a ++ b)) else none := by
  unfold mAdd mOr mAddI mI mCatT mCatL
  by_cases h : a.length + b.length ≤ sizeLine <;> simp [h, B.int, B.lst]
@[simp] theorem o_addL2 {a b : List D} : mAdd (.l a) (.d (.lst b)) = if a.length + b.length ≤ sizeLine then some (.lst (a ++ b)) else none := by
  unfold mAdd mOr mAddI mI mCatT mCatL
  by_cases h : a.length + b.length ≤ sizeLine <;> simp [h, B.int, B.lst]
@[simp] theorem o_sub {i j} : mSub (.d (.int i)) (.d (.int j)) = some (.int (i - j)) := id rfl
theorem o_mul {i j} (h : small64 i = true ∨ small64 j = true) : mMul (.d (.int i)) (.d (.int j)) = some (.int (i * j)) := by
  unfold mMul mI
  simp [h]
theorem o_mod {i j : Int} (h : 0 < j) : mMod (.d (.int i)) (.d (.int j)) = some (.int (i % j)) := by
  unfold mMod mI
  simp [h]
theorem o_div {i j : Int} (h : 0 < j) (h2 : j < 1073741824) : mDiv (.d (.int i)) (.d (.int j)) = some (.int (i / j)) := by
  unfold mDiv mI
  simp [h, h2]
@[simp] theorem o_lt {i j} : mLt (.d (.int i)) (.d (.int j)) = some (.bl (decide (i < j))) := id rfl
@[simp] theorem o_le {i j} : mLe (.d (.int i)) (.d (.int j)) = some (.bl (decide (i ≤ j))) := id rfl
@[simp] theorem o_gt {i j} : mGt (.d (.int i)) (.d (.int j)) = some (.bl (decide (j < i))) := id rfl
@[simp] theorem o_ge {i j} : mGe (.d (.int i)) (.d (.int j)) = some (.bl (decide (j ≤ i))) := id rfl
@[simp] theorem o_eqI {n : Bool} {i j : Int} : mEq n (.d (.int i)) (.d (.int j)) = some (.bl (if n then !decide (i = j) else decide (i = j))) := by
  have h : ∀ i : Int, shaped (.int i) = true := fun i => by simp [shaped, PyData.canLay0, PyData.depth]
  unfold mEq
  simp [toPB, toP, h, PyData.eqv, Bool.beq_eq_decide_eq]
@[simp] theorem o_seqT {ds} : B.seq (.d (.tup ds)) = some ds := id rfl
@[simp] theorem o_seqL {ds} : B.seq (.d (.lst ds)) = some ds := id rfl
@[simp] theorem o_seqS {ns} : B.seq (.d (.scr ns)) = some (ns.map D.int) := id rfl
@[simp] theorem o_seql {ds} : B.seq (.l ds) = some ds := id rfl
@[simp] theorem o_seqc {ds} : B.seq (.c ds) = some ds := id rfl
@[simp] theorem o_ix {x : B} {i : Int} : mIx x (.d (.int i)) = x.seq.bind fun ds => atI ds i := id rfl
theorem atI_n {α : Type} {xs : List α} {k : Nat} : atI xs (k : Int) = xs[k]? := by
  unfold atI ixN
  by_cases h : k < xs.length
  · simp [h]
  · simp [h]
@[simp] theorem atI_0 {α : Type} {xs : List α} : atI xs 0 = xs[0]? := atI_n (k := 0)
@[simp] theorem atI_1 {α : Type} {xs : List α} : atI xs 1 = xs[1]? := atI_n (k := 1)
@[simp] theorem atI_2 {α : Type} {xs : List α} : atI xs 2 = xs[2]? := atI_n (k := 2)
theorem atI_last {α : Type} {xs : List α} {x : α} : atI (xs ++ [x]) (-1) = some x := by
  unfold atI ixN
  rw [if_neg (by omega), List.length_append, List.length_singleton, if_pos (by omega), Option.bind_some, show (-1 + ((xs.length + 1 : Nat) : Int)).toNat = xs.length by omega]
  simp
@[simp] theorem o_len {b} : mLen [b] = b.seq.map fun ds => .int ds.length := id rfl
@[simp] theorem o_tupT {ds} : mTup [.d (.tup ds)] = some (.tup ds) := id rfl
@[simp] theorem o_tupL {ds} : mTup [.d (.lst ds)] = some (.tup ds) := id rfl
@[simp] theorem o_tupl {ds} : mTup [.l ds] = some (.tup ds) := id rfl
@[simp] theorem o_isi {x c} : mIsi [.d x, .ty c] = x.tyOf.map fun t => .bl (isi t c) := id rfl
@[simp] theorem ty_non : D.tyOf .non = some .non := id rfl
@[simp] theorem ty_bl {b} : D.tyOf (.bl b) = some .bl := id rfl
@[simp] theorem ty_int {b} : D.tyOf (.int b) = some .int := id rfl
@[simp] theorem ty_str {b} : D.tyOf (.str b) = some .str := id rfl
@[simp] theorem ty_tup {b} : D.tyOf (.tup b) = some .tup := id rfl
@[simp] theorem ty_lst {b} : D.tyOf (.lst b) = some .lst := id rfl
@[simp] theorem o_all {b} : mAll [b] = b.lst.bind fun ds => (bools ds).map fun bs => .bl (bs.all id) := id rfl
def enO (o : Option (List B)) : Option (List D) := o.bind fun bs => match bs with
  | [.d (.tup ds)] => some (enumD ds)
  | _ => none
@[simp] theorem enO_some {ds} : enO (some [.d (.tup ds)]) = some (enumD ds) := id rfl
@[simp] theorem r_xEn {fs} : xEn fs Γ = enO (fs Γ) := id rfl
def enLO (o : Option (List B)) : Option (List D) := o.bind fun bs => match bs with
  | [.d (.lst ds)] => some (enumD ds)
  | _ => none
@[simp] theorem enLO_some {ds} : enLO (some [.d (.lst ds)]) = some (enumD ds) := id rfl
def new1O (i : Nat) : Option B → Option B → G → Option Out
  | some (.d k), some (.d v), Γ => (keyT k).map fun ks => .nx (Γ.set i (.ot [(ks, v)]))
  | _, _, _ => none
@[simp] theorem new1O_some {i k v} : new1O i (some (.d k)) (some (.d v)) Γ = (keyT k).map fun ks => .nx (Γ.set i (.ot [(ks, v)])) := id rfl
def getO : Option B → Option B → Option B → Option B
  | some x, some (.d k), some (.d dd) => (x.dget k).map fun o => .d (o.getD dd)
  | _, _, _ => none
@[simp] theorem getO_some {x k dd} : getO (some x) (some (.d k)) (some (.d dd)) = (x.dget k).map fun o => .d (o.getD dd) := id rfl
@[simp] theorem r_sFrz {i f} : sFrz i f Γ = f (frzG i Γ) := id rfl
@[simp] theorem r_xEnL {fs} : xEnL fs Γ = enLO (fs Γ) := id rfl
@[simp] theorem r_sNewT1 {i fk fv} : sNewT1 i fk fv Γ = new1O i (fk Γ) (fv Γ) Γ := by
  unfold sNewT1 new1O
  cases fk Γ with
  | none => rfl
  | some bk =>
    cases bk with
    | d k =>
      cases fv Γ with
      | none => rfl
      | some bv => cases bv <;> rfl
    | _ => rfl
@[simp] theorem r_x3get {f g h} : x3get f g h Γ = getO (f Γ) (g Γ) (h Γ) := by
  unfold x3get getO
  cases f Γ with
  | none => rfl
  | some x =>
    cases g Γ with
    | none => rfl
    | some y =>
      cases h Γ with
      | none => cases y <;> rfl
      | some z => cases y <;> cases z <;> rfl
def asgO (t : D → G → Option G) (o : Option B) (Γ : G) : Option Out := o.bind fun b => b.asD.bind fun d => (t d Γ).map .nx
@[simp] theorem asgO_some {t d} : asgO t (some (.d d)) Γ = (t d Γ).map .nx := id rfl
@[simp] theorem r_sAsg {t f} : sAsg t f Γ = asgO t (f Γ) Γ := id rfl
@[simp] theorem r_sNewT {i} : sNewT i Γ = some (.nx (Γ.set i (.ot []))) := id rfl
@[simp] theorem r_sNewK {i} : sNewK i Γ = some (.nx (Γ.set i (.ok []))) := id rfl
def slO (o : Option B) (l h : Option (Option Int)) : Option B := o.bind fun x => l.bind fun lo => h.bind fun hi => (slB x lo hi).map B.d
@[simp] theorem slO_some {x lo hi} : slO (some x) (some lo) (some hi) = (slB x lo hi).map B.d := id rfl
@[simp] theorem r_xSl {f l h} : xSl f l h Γ = slO (f Γ) (l Γ) (h Γ) := id rfl
@[simp] theorem r_xNoP : xNoP Γ = some none := id rfl
def pO (o : Option B) : Option (Option Int) := o.bind fun b => b.int.map some
@[simp] theorem pO_some {i} : pO (some (.d (.int i))) = some (some i) := id rfl
@[simp] theorem r_xP {f} : xP f Γ = pO (f Γ) := id rfl
@[simp] theorem o_lenT {kvs} : mLenD [.t kvs] = some (.int kvs.length) := id rfl
@[simp] theorem o_lenK {kvs} : mLenD [.k kvs] = some (.int kvs.length) := id rfl
@[simp] theorem o_dinT {neg d kvs} : mDIn neg (.d d) (.t kvs) = (keyT d).map fun k => .bl (if neg then !(valD kvs k).isSome else (valD kvs k).isSome) := by
  unfold mDIn B.dget
  simp only [r_asD, Option.bind_some, Option.map_map]
  rfl
@[simp] theorem o_dgetT {d kvs} : mDGet (.t kvs) (.d d) = (keyT d).bind fun k => valD kvs k := by
  unfold mDGet B.dget
  simp only [r_asD, Option.bind_some]
  cases keyT d <;> rfl
def putO (i : Nat) : Option B → Option B → Option S → G → Option Out
  | some (.d v), some (.d k), some s, Γ => (putS s k v).map fun s' => .nx (Γ.set i s')
  | _, _, _, _ => none
@[simp] theorem putO_some {i v k s} : putO i (some (.d v)) (some (.d k)) (some s) Γ = (putS s k v).map fun s' => .nx (Γ.set i s') := id rfl
@[simp] theorem r_sDPutM {i fk fv} : sDPutM i fk fv Γ = putO i (fv Γ) (fk Γ) Γ[i]? Γ := by
  unfold sDPutM putO
  cases fv Γ with
  | none => rfl
  | some bv =>
    cases bv with
    | d v =>
      cases fk Γ with
      | none => rfl
      | some bk =>
        cases bk with
        | d k => cases Γ[i]? <;> rfl
        | _ => rfl
    | _ => rfl
@[simp] theorem r_gTup {n u ds} : gTupD n u (.tup ds) Γ = if ds.length = n then u ds Γ else none := id rfl
@[simp] theorem r_glNil : glNil [] Γ = some Γ := id rfl
@[simp] theorem r_glCons {f g d r} : glCons f g (d :: r) Γ = (f d Γ).bind fun Γ' => g r Γ' := id rfl
def rngB (j : Int) : Bool := decide (-(2 ^ 62) ≤ j) && decide (j < 2 ^ 62)
def r1I (j : Int) : Option (List D) := if rngB j = true then some (rangeD 0 j.toNat) else none
def r1O (o : Option (List B)) : Option (List D) := o.bind fun bs => match bs with
  | [b] => b.int.bind r1I
  | _ => none
@[simp] theorem r1O_some {j} : r1O (some [.d (.int j)]) = r1I j := id rfl
theorem r1I_eq (j : Int) : (if -(2 ^ 62) ≤ j ∧ j < 2 ^ 62 then some (rangeD 0 j.toNat) else none) = r1I j := by
  unfold r1I rngB
  by_cases h : -(2 ^ 62) ≤ j ∧ j < 2 ^ 62
  · rw [if_pos h, if_pos (by rw [decide_eq_true h.1, decide_eq_true h.2]; rfl)]
  · rw [if_neg h, if_neg fun z => h (by rw [Bool.and_eq_true, decide_eq_true_eq, decide_eq_true_eq] at z; exact z)]
@[simp] theorem r_xR1 {fs} : xR1 fs Γ = r1O (fs Γ) := by
  unfold xR1 r1O
  cases fs Γ with
  | none => rfl
  | some bs =>
    rw [Option.bind_some, Option.bind_some]
    match bs with
    | [] => rfl
    | [b] => exact congrArg b.int.bind (funext r1I_eq)
    | _ :: _ :: _ => rfl
theorem r1I_nat {n : Nat} (h : n < 1000000) : r1I (n : Int) = some (rangeD 0 n) := by
  have e1 : -(2 ^ 62) ≤ (n : Int) := by omega
  have e2 : (n : Int) < 2 ^ 62 := by omega
  have e : rngB (n : Int) = true := by unfold rngB; rw [decide_eq_true e1, decide_eq_true e2]; rfl
  unfold r1I
  rw [if_pos e, Int.toNat_natCast]
/-! ### comprehensions and loops -/
theorem ch3_le {h : G → Option B} {i j k : Int} (hh : h Γ = some (.d (.int k))) : ch3 mLe mLe h Γ (some (.d (.int i))) (some (.d (.int j))) = some (.d (.bl (decide (i ≤ j ∧ j ≤ k)))) := by
  unfold ch3
  rw [hh]
  by_cases h1 : i ≤ j <;> by_cases h2 : j ≤ k <;> simp [h1, h2]
theorem bools_map {α : Type} (p : α → Bool) : ∀ xs : List α, bools (xs.map fun x => D.bl (p x)) = some (xs.map p)
  | [] => rfl
  | x :: r => by
    rw [List.map_cons]
    show (bools _).map _ = _
    rw [bools_map p r]; rfl
theorem bools_true : ∀ (xs : List D), (∀ x ∈ xs, x = .bl true) → (bools xs).map (fun bs => D.bl (bs.all id)) = some (.bl true)
  | [], _ => rfl
  | x :: r, h => by
    have hx := h x List.mem_cons_self
    subst hx
    have := bools_true r fun y hy => h y (List.mem_cons_of_mem _ hy)
    show ((bools r).map _).map _ = _
    cases e : bools r with
    | none => rw [e] at this; cases this
    | some bs => rw [e] at this; simpa using this
theorem mir_rt {np n : Nat} {f : G → Option Out} {ds : List D} {d : D} (h : ds.length = np) (e : f (startG n ds) = some (.rt d)) : mir np n f ds = some d := by unfold mir; rw [if_pos h, e]
end
end DD

namespace DD
open PySem L2
open PySem.SeqAt (shaped)
/-! ### what may be held against each other -/
structure OkD (n : Nat) (d : D) : Prop where
  lay : (toP d).canLay0 = true
  dep : (toP d).depth ≤ n
structure OkDs (n : Nat) (ds : List D) : Prop where
  lay : PyData.canLayAll0 (toPs ds) = true
  dep : PyData.depthAll (toPs ds) ≤ n
theorem okDs_of {n : Nat} : ∀ {ds : List D}, (∀ d ∈ ds, OkD n d) → OkDs n ds
  | [], _ => ⟨rfl, Nat.zero_le _⟩
  | d :: r, h => by
    have h1 := h d List.mem_cons_self
    have h2 := okDs_of fun x hx => h x (List.mem_cons_of_mem _ hx)
    refine ⟨?_, ?_⟩
    · rw [toPs, PyData.canLayAll0, h1.lay, h2.lay]; rfl
    · rw [toPs, PyData.depthAll]; exact Nat.max_le.mpr ⟨h1.dep, h2.dep⟩
theorem OkD.int {n : Nat} {i : Int} : OkD n (.int i) := ⟨by simp [toP, PyData.canLay0], by simp [toP, PyData.depth]⟩
theorem OkD.bl {n : Nat} {i : Bool} : OkD n (.bl i) := ⟨by simp [toP, PyData.canLay0], by simp [toP, PyData.depth]⟩
theorem OkD.non {n : Nat} : OkD n .non := ⟨by simp [toP, PyData.canLay0], by simp [toP, PyData.depth]⟩
theorem OkD.str {n : Nat} {x : Str} (h : PyData.strOk x = true) : OkD n (.str x) := ⟨by simp [toP, PyData.canLay0, h], by simp [toP, PyData.depth]⟩
theorem OkD.tup {n : Nat} {ds : List D} (h : ∀ d ∈ ds, OkD n d) : OkD (n + 1) (.tup ds) := by
  have := okDs_of h
  exact ⟨by rw [toP, PyData.canLay0]; exact this.lay, by rw [toP, PyData.depth]; exact Nat.succ_le_succ this.dep⟩
theorem OkD.lst {n : Nat} {ds : List D} (h : ∀ d ∈ ds, OkD n d) : OkD (n + 1) (.lst ds) := by
  have := okDs_of h
  exact ⟨by rw [toP, PyData.canLay0]; exact this.lay, by rw [toP, PyData.depth]; exact Nat.succ_le_succ this.dep⟩
theorem OkD.scr {n : Nat} {ns : List Int} : OkD (n + 1) (.scr ns) := by
  have h : ∀ ns : List Int, PyData.canLayAll0 (ns.map PyData.int) = true ∧ PyData.depthAll (ns.map PyData.int) = 0 := fun ns => by
    induction ns with
    | nil => exact ⟨rfl, rfl⟩
    | cons a r ih => simp [PyData.canLayAll0, PyData.depthAll, PyData.canLay0, PyData.depth, ih]
  exact ⟨by rw [toP, PyData.canLay0]; exact (h ns).1, by rw [toP, PyData.depth, (h ns).2]; omega⟩
theorem OkD.mono {n m : Nat} {d : D} (h : OkD n d) (k : n ≤ m) : OkD m d := ⟨h.lay, Nat.le_trans h.dep k⟩
theorem OkD.shp {n : Nat} {d : D} (h : OkD n d) (k : n ≤ 64 := by decide) : shaped (toP d) = true := by
  unfold shaped
  rw [h.lay, decide_eq_true (Nat.le_trans h.dep k)]; rfl
mutual
theorem eqv_refl : ∀ d : D, PyData.eqv (toP d) (toP d) = true
  | .non => by simp [toP, PyData.eqv]
  | .bl b => by simp [toP, PyData.eqv]
  | .int i => by simp [toP, PyData.eqv]
  | .str x => by simp [toP, PyData.eqv]
  | .scr ns => by
    rw [toP, PyData.eqv]
    induction ns with
    | nil => rfl
    | cons a r ih => simp [PyData.eqvAll, PyData.eqv, ih]
  | .tup ds => by rw [toP, PyData.eqv]; exact eqvAll_refl ds
  | .lst ds => by rw [toP, PyData.eqv]; exact eqvAll_refl ds
  | .dK _ _ => by simp [toP, PyData.eqv]
  | .dT _ _ => by simp [toP, PyData.eqv]
theorem eqvAll_refl : ∀ ds : List D, PyData.eqvAll (toPs ds) (toPs ds) = true
  | [] => rfl
  | d :: r => by rw [toPs, PyData.eqvAll, eqv_refl d, eqvAll_refl r]; rfl
end
theorem o_eqD {n : Nat} {neg : Bool} {x y : D} (hx : OkD n x) (hy : OkD n y) (k : n ≤ 64 := by decide) : mEq neg (.d x) (.d y) = some (.bl (if neg then !PyData.eqv (toP x) (toP y) else PyData.eqv (toP x) (toP y))) := by
  unfold mEq
  simp [toPB, hx.shp k, hy.shp k]
theorem o_eqSame {n : Nat} {x : D} (hx : OkD n x) (k : n ≤ 64 := by decide) : mEq false (.d x) (.d x) = some (.bl true) := by
  rw [o_eqD hx hx k, eqv_refl]; rfl
theorem o_neSame {n : Nat} {x : D} (hx : OkD n x) (k : n ≤ 64 := by decide) : mEq true (.d x) (.d x) = some (.bl false) := by
  rw [o_eqD hx hx k, eqv_refl]; rfl
theorem o_eqNil {ns : List Int} : mEq false (.d (.scr ns)) (.d (.lst [])) = some (.bl (decide (ns = []))) := by
  rw [o_eqD (n := 1) OkD.scr (OkD.lst (by simp))]
  cases ns <;> simp [toP, toPs, PyData.eqv, PyData.eqvAll]
/-- in, over data -/
theorem o_in {n : Nat} {neg : Bool} {x : D} {b : B} {ds : List D} (hx : OkD n x) (hb : b.seq = some ds) (hd : ∀ d ∈ ds, OkD n d) (k : n ≤ 64 := by decide) : mIn neg (.d x) b = some (.bl (if neg then !(ds.any fun d => PyData.eqv (toP d) (toP x)) else ds.any fun d => PyData.eqv (toP d) (toP x))) := by
  have h1 : (toPs ds).all shaped = true := by
    rw [toPs_map, List.all_eq_true]
    intro p hp
    obtain ⟨d, hd', rfl⟩ := List.mem_map.mp hp
    exact (hd d hd').shp k
  have h2 : ∀ q, (toPs ds).any (fun p => PyData.eqv p q) = ds.any fun d => PyData.eqv (toP d) q := fun q => by
    rw [toPs_map, List.any_map]; rfl
  unfold mIn
  simp only [toPB, Option.bind_some, hb, hx.shp k, h1, h2, and_self, if_true]
/-! ### loops and comprehensions, by what each turn gives -/
theorem forL_nx {t : D → G → Option G} {fb : G → Option Out} : ∀ (ds : List D) (I : Nat → G → Prop) (Γ : G), I 0 Γ → (∀ k Γ (h : k < ds.length), I k Γ → ∃ g1 g2, t ds[k] Γ = some g1 ∧ fb g1 = some (.nx g2) ∧ I (k + 1) g2) → ∃ g, forL t fb ds Γ = some (.nx g) ∧ I ds.length g
  | [], I, Γ, h0, _ => ⟨Γ, rfl, h0⟩
  | d :: r, I, Γ, h0, hs => by
    obtain ⟨g1, g2, h1, h2, h3⟩ := hs 0 Γ (by simp) h0
    obtain ⟨g, h4, h5⟩ := forL_nx (t := t) (fb := fb) r (fun k => I (k + 1)) g2 h3 fun k Γ h hi => hs (k + 1) Γ (by simpa using h) hi
    refine ⟨g, ?_, h5⟩
    unfold forL
    rw [show t d Γ = some g1 from h1, Option.bind_some, h2]
    exact h4
theorem compL_ex {β : Type} (enc : β → D) {t : D → G → Option G} {cond : G → Option Bool} {el : G → Option B} {Γ : G} : ∀ (ds : List D) (R : Nat → β → Prop), (∀ k (h : k < ds.length), ∃ g y, t ds[k] Γ = some g ∧ cond g = some true ∧ el g = some (.d (enc y)) ∧ R k y) →
    ∃ ys : List β, compL t cond el Γ ds = some (ys.map enc) ∧ ys.length = ds.length ∧ ∀ k (h : k < ys.length), R k ys[k]
  | [], R, _ => ⟨[], rfl, rfl, fun k h => absurd h (by simp)⟩
  | d :: r, R, hs => by
    obtain ⟨g, y, h1, h2, h3, h4⟩ := hs 0 (by simp)
    obtain ⟨ys, e, hl, hr⟩ := compL_ex enc (t := t) (cond := cond) (el := el) (Γ := Γ) r (fun k => R (k + 1)) fun k h => hs (k + 1) (by simpa using h)
    refine ⟨y :: ys, ?_, by simp [hl], fun k h => ?_⟩
    · unfold compL
      rw [show t d Γ = some g from h1, Option.bind_some, h2, Option.bind_some, if_pos rfl, h3, Option.bind_some, r_asD, Option.bind_some, e]
      rfl
    · cases k with
      | zero => exact h4
      | succ k => exact hr k (by simpa using h)
theorem compO_ex {β : Type} (enc : β → D) {t : D → G → Option G} {cond : G → Option Bool} {el : G → Option B} {Γ : G} {ms : List (Option Nat)} {ds : List D} (R : Nat → β → Prop) (hl : ds.length ≤ 16777216) (hs : ∀ k (h : k < ds.length), ∃ g y, t ds[k] (blkG ms Γ) = some g ∧ cond g = some true ∧ el g = some (.d (enc y)) ∧ R k y) :
    ∃ ys : List β, compO (some ds) ms t cond el Γ = some (ys.map enc) ∧ ys.length = ds.length ∧ ∀ k (h : k < ys.length), R k ys[k] := by
  obtain ⟨ys, e, h⟩ := compL_ex enc ds R hs
  exact ⟨ys, by unfold compO; rw [Option.bind_some, if_pos (show ds.length ≤ sizeLine from hl), e], h⟩
@[simp] theorem rangeD_len {lo : Int} {n : Nat} : (rangeD lo n).length = n := by simp [rangeD]
@[simp] theorem rangeD_get {lo : Int} {n k : Nat} {h : k < (rangeD lo n).length} : (rangeD lo n)[k] = .int (lo + k) := by simp [rangeD]
@[simp] theorem enumD_len {ds : List D} : (enumD ds).length = ds.length := by simp [enumD]
@[simp] theorem enumD_get {ds : List D} {k : Nat} {h : k < (enumD ds).length} : (enumD ds)[k] = .tup [.int k, ds[k]'(by simpa using h)] := by
  have : k < ds.length := by simpa using h
  simp [enumD, List.getD_eq_getElem?_getD, this]

theorem compO_is {β : Type} (enc : β → D) {t : D → G → Option G} {cond : G → Option Bool} {el : G → Option B} {Γ : G} {ms : List (Option Nat)} {ds : List D} (zs : List β) (hz : zs.length = ds.length) (hl : ds.length ≤ 16777216) (hs : ∀ k (h : k < ds.length), ∃ g, t ds[k] (blkG ms Γ) = some g ∧ cond g = some true ∧ el g = some (.d (enc (zs[k]'(by rw [hz]; exact h))))) :
    compO (some ds) ms t cond el Γ = some (zs.map enc) := by
  obtain ⟨ys, h1, h2, h3⟩ := compO_ex enc (t := t) (cond := cond) (el := el) (Γ := Γ) (ms := ms) (ds := ds) (fun k y => ∃ h : k < zs.length, y = zs[k]) hl fun k h => by
    obtain ⟨g, a, b, c⟩ := hs k h
    exact ⟨g, _, a, b, c, by rw [hz]; exact h, rfl⟩
  have : ys = zs := List.ext_getElem (by rw [h2, hz]) fun k a b => (h3 k a).2
  rw [h1, this]
end DD

namespace DD
open PySem L2
section
variable {Γ : G}
/-! ### texts, zips and dicts, reckoned -/
def seqO (o : Option B) : Option (List D) := o.bind B.seq
@[simp] theorem seqO_some {b} : seqO (some b) = b.seq := id rfl
@[simp] theorem r_xSeq {f} : xSeq f Γ = seqO (f Γ) := id rfl
theorem o_cat {a b : Str} (h : a.length + b.length ≤ 16777216) : mCatS (.d (.str a)) (.d (.str b)) = some (.str (a ++ b)) := by
  unfold mCatS
  exact if_pos h
theorem o_str {i : Int} (h : -1000000 < i ∧ i < 1000000) : mStr [.d (.int i)] = some (.str (toString i)) := by
  unfold mStr
  exact if_pos h
theorem strsD_map : ∀ xs : List Str, strsD (xs.map D.str) = some xs
  | [] => rfl
  | x :: r => by
    rw [List.map_cons]
    show (strsD (r.map D.str)).map _ = _
    rw [strsD_map r]; rfl
theorem o_join {sep : Str} {b : B} {xs : List Str} (hb : b.seq = some (xs.map D.str)) (h : joinOk sep xs = true) : mJoin (.d (.str sep)) b = some (.str (Txt.join sep xs)) := by
  show (b.seq.bind fun ds => (strsD ds).bind fun xs => if joinOk sep xs = true then some (D.str (Txt.join sep xs)) else none) = _
  rw [hb, Option.bind_some, strsD_map, Option.bind_some]
  exact if_pos h
theorem o_split {x y : Str} (h1 : (y.length == 0) = false) (h2 : x.length + 2 ≤ 16777216) : mSplit (.d (.str x)) (.d (.str y)) = some (.lst ((Txt.split x y).map D.str)) := by
  unfold mSplit
  exact if_pos ⟨h1, h2⟩
def zipO (o : Option (List B)) : Option (List D) := o.bind fun bs => match bs with
  | [.d (.lst xs), .d (.lst ys)] => some (zipD xs ys)
  | _ => none
@[simp] theorem zipO_some {xs ys} : zipO (some [.d (.lst xs), .d (.lst ys)]) = some (zipD xs ys) := id rfl
@[simp] theorem r_xZip {fs} : xZip fs Γ = zipO (fs Γ) := id rfl
def r2O (o : Option (List B)) : Option (List D) := o.bind fun bs => match bs with
  | [x, y] => x.int.bind fun i => y.int.bind fun j => if (-(2 ^ 62) ≤ i ∧ i < 2 ^ 62) ∧ -(2 ^ 62) ≤ j ∧ j < 2 ^ 62 then some (rangeD i (j - i).toNat) else none
  | _ => none
@[simp] theorem r_xR2 {fs} : xR2 fs Γ = r2O (fs Γ) := id rfl
@[simp] theorem o_dgetK {ks vs x} : mDGet (.d (.dK ks vs)) (.d (.str x)) = valD (ks.zip vs) (.inr x) := id rfl
@[simp] theorem o_dinK {ks vs x} : mDIn false (.d (.str x)) (.d (.dK ks vs)) = some (.bl (valD (ks.zip vs) (.inr x)).isSome) := id rfl
def newKO (i : Nat) (o : Option (List B)) (Γ : G) : Option Out := o.bind fun bs => match bs with
  | [.d (.lst ds)] => (pairsL ds).bind fun kvs => if kvs.length ≤ 1000 then some (.nx (Γ.set i (.ok (mergeD [] kvs)))) else none
  | _ => none
@[simp] theorem newKO_some {i ds} : newKO i (some [.d (.lst ds)]) Γ = (pairsL ds).bind fun kvs => if kvs.length ≤ 1000 then some (.nx (Γ.set i (.ok (mergeD [] kvs)))) else none := id rfl
@[simp] theorem r_sNewKL {i fs} : sNewKL i fs Γ = newKO i (fs Γ) Γ := id rfl
/-! what a dict holds, by its pairs -/
theorem valD_put {κ : Type} [DecidableEq κ] {kvs : List (κ × D)} {k : κ} {v : D} (h : ∀ p ∈ kvs, p.1 ≠ k) : putD kvs k v = kvs ++ [(k, v)] := by
  unfold putD
  rw [if_neg]
  rw [List.any_eq_true]
  rintro ⟨p, hp, e⟩
  exact h p hp (by simpa using e)
theorem valD_mem {κ : Type} [DecidableEq κ] : ∀ {kvs : List (κ × D)} {k : κ} {v : D}, valD kvs k = some v → (k, v) ∈ kvs
  | [], _, _, h => by cases h
  | p :: r, k, v, h => by
    by_cases e : p.1 = k
    · have e1 : valD (p :: r) k = some p.2 := by simp [valD, List.find?_cons, e]
      rw [e1] at h; cases h
      rw [← e]; exact List.mem_cons_self
    · have e1 : valD (p :: r) k = valD r k := by simp [valD, List.find?_cons, e]
      rw [e1] at h
      exact List.mem_cons_of_mem _ (valD_mem h)
theorem zip_fs {κ : Type} : ∀ kvs : List (κ × D), (kvs.map Prod.fst).zip (kvs.map Prod.snd) = kvs
  | [] => rfl
  | p :: r => by rw [List.map_cons, List.map_cons, List.zip_cons_cons, zip_fs r]
@[simp] theorem zipD_len {xs ys : List D} : (zipD xs ys).length = min xs.length ys.length := by simp [zipD]
theorem zipD_get {xs ys : List D} {k : Nat} {h : k < (zipD xs ys).length} (h1 : k < xs.length) (h2 : k < ys.length) : (zipD xs ys)[k] = .tup [xs[k], ys[k]] := by simp [zipD]
end
end DD

namespace Pu
/-! ### a way that is gone step by step -/
section
variable {α : Type} (f : α → Option α)
/-- where one stands after k steps -/
def go : Nat → α → Option α
  | 0, a => some a
  | k + 1, a => (f a).bind (go k)
end
/-! ### as many as fit -/
/-! ### ways that may end -/
section
variable {α ρ : Type} (f : α → Sum ρ α)
def nxt (a : α) : Option α := match f a with
  | .inl _ => none
  | .inr b => some b
def run : Nat → α → Sum ρ α
  | 0, a => .inr a
  | k + 1, a => match f a with
    | .inl x => .inl x
    | .inr b => run k b
def Halts (a : α) (x : ρ) : Prop := ∃ k, run f k a = .inl x
open Classical in
noncomputable def sem (rd : ρ) (a : α) : ρ := if h : ∃ x, Halts f a x then h.choose else rd
variable {f} {rd : ρ}
/-- a search that remembers where it was -/
def loopV [DecidableEq α] (f : α → Sum ρ α) (rd : ρ) : Nat → List α → α → Option ρ
  | 0, _, _ => none
  | n + 1, met, a => if a ∈ met then some rd else match f a with
    | .inl x => some x
    | .inr b => loopV f rd n (met ++ [a]) b
/-- a search of so many steps -/
def loopN (f : α → Sum ρ α) (rd : ρ) : Nat → α → ρ
  | 0, _ => rd
  | n + 1, a => match f a with
    | .inl x => x
    | .inr b => loopN f rd n b
end

/-! ### machines -/
inductive Mv (τ : Type) where
  | fin (s : τ) | go (r : Nat) (right : Bool)
inductive Res (τ : Type) where
  | fin (s : τ) | out (r : Nat)
  deriving DecidableEq
section
variable {τ : Type} (mv : Nat → Nat → Mv τ) (rd : τ)
def col (w : List Nat) (p : Nat) : Nat := if p = 0 then 0 else w.getD (p - 1) 0 + 1
/-- a step on a word that has a left wall alone -/
def stepO (w : List Nat) (c : Nat × Nat) : Sum (Res τ) (Nat × Nat) := if w.length < c.2 then .inl (.out c.1) else match mv c.1 (col w c.2) with
  | .fin s => .inl (.fin s)
  | .go r true => .inr (r, c.2 + 1)
  | .go r false => .inr (r, c.2 - 1)
noncomputable def semO (w : List Nat) (c : Nat × Nat) : Res τ := sem (stepO mv w) (.fin rd) c
/-- the head at a word's last letter: what it comes to, by what the word ahead of it does -/
def hop (mva : Nat → Mv τ) (done : Nat → Res τ) (r : Nat) : Sum (Res τ) Nat := match mva r with
  | .fin s => .inl (.fin s)
  | .go r' true => .inl (.out r')
  | .go r' false => match done r' with
    | .fin s => .inl (.fin s)
    | .out b => .inr b
noncomputable abbrev hopW (w : List Nat) (a : Nat) : Nat → Sum (Res τ) Nat := hop (fun r => mv r (a + 1)) (fun r => semO mv rd w (r, w.length))
end
/-- all rooms at all places -/
def grid (n m : Nat) : List (Nat × Nat) := (List.range (n * m)).map fun i => (i / m, i % m)
@[simp] theorem grid_len {n m : Nat} : (grid n m).length = n * m := by simp [grid]
/-- the same search, that tells more -/
def loopW {α ρ β : Type} [DecidableEq α] (f : α → Sum ρ α) (onMet : List α → α → β) (onEnd : List α → ρ → β) : Nat → List α → α → Option β
  | 0, _, _ => none
  | n + 1, met, a => if a ∈ met then some (onMet met a) else match f a with
    | .inl x => some (onEnd met x)
    | .inr b => loopW f onMet onEnd n (met ++ [a]) b
end Pu

namespace DD
open PySem L2
section
variable {Γ : G}
/-! ### more of texts, reckoned -/
def slSO (o : Option B) (l h : Option (Option Int)) : Option B := o.bind fun x => l.bind fun lo => h.bind fun hi => (slSB x lo hi).map B.d
@[simp] theorem slSO_some {x lo hi} : slSO (some x) (some lo) (some hi) = (slSB x lo hi).map B.d := id rfl
@[simp] theorem r_xSlS {f l h} : xSlS f l h Γ = slSO (f Γ) (l Γ) (h Γ) := id rfl
theorem o_slS {z : Str} {lo hi : Option Int} (h : z.length ≤ sizeLine) : slSB (.d (.str z)) lo hi = some (.str (Txt.slice z lo hi)) := if_pos h
theorem o_lenS {z : Str} (h : z.length ≤ sizeLine) : mLenS [.d (.str z)] = some (.int z.length) := if_pos h
theorem o_ixS {z : Str} {i : Int} (h : z.length ≤ sizeLine) : mIxS (.d (.str z)) (.d (.int i)) = (atI z.cps.toList i).map fun c => .str ⟨#[c]⟩ := if_pos h
@[simp] theorem o_intB {k : Bool} : mIntA [.d (.bl k)] = some (.int (if k then 1 else 0)) := id rfl
theorem o_intS {x : Str} (h : x.length ≤ 640) : mIntA [.d (.str x)] = (PySem.intText? x).map D.int := if_pos h
@[simp] theorem o_ninS {i j : Str} : mInS true (.d (.str i)) (.d (.str j)) = some (.bl (!(!(Builtin.Str.occurrences j i 0 j.length 1).isEmpty))) := id rfl
def charsO (o : Option B) : Option (List D) := o.bind fun b => match b with
  | .d (.str x) => if x.cps.all (· < 128) = true then some (charsD x) else none
  | _ => none
@[simp] theorem r_xChars {f} : xChars f Γ = charsO (f Γ) := id rfl
theorem charsO_some {x : Str} (h : x.cps.all (· < 128) = true) : charsO (some (.d (.str x))) = some (charsD x) := if_pos h
@[simp] theorem r_yNo : yNo Γ = false := id rfl
@[simp] theorem r_yAll : yAll Γ = true := id rfl
end
end DD

namespace Tx
open PySem
/-! ### texts, put together and cut again -/
theorem ext {a b : Str} (h : a.cps.toList = b.cps.toList) : a = b := Str.ext' (Array.toList_inj.mp h)
theorem app (a b : Str) : (a ++ b).cps.toList = a.cps.toList ++ b.cps.toList := by rw [Str.cps_append, Array.toList_append]
theorem cut_inj {c : Nat} : ∀ {x y A B : List Nat}, c ∉ x → c ∉ y → x ++ c :: A = y ++ c :: B → x = y ∧ A = B
  | [], [], A, B, _, _, h => by simpa using h
  | [], b :: y, A, B, _, hy, h => by
    simp only [List.nil_append, List.cons_append, List.cons.injEq] at h
    exact absurd h.1 fun e => hy (by simp [e])
  | a :: x, [], A, B, hx, _, h => by
    simp only [List.nil_append, List.cons_append, List.cons.injEq] at h
    exact absurd h.1 fun e => hx (by simp [e])
  | a :: x, b :: y, A, B, hx, hy, h => by
    simp only [List.cons_append, List.cons.injEq] at h
    obtain ⟨rfl, h⟩ := h
    obtain ⟨e1, e2⟩ := cut_inj (fun m => hx (List.mem_cons_of_mem _ m)) (fun m => hy (List.mem_cons_of_mem _ m)) h
    exact ⟨by rw [e1], e2⟩
theorem join2 (sep x y : Str) (r : List Str) : Str.join sep (x :: y :: r) = x ++ sep ++ Str.join sep (y :: r) := rfl
theorem join_inj {c : Nat} : ∀ {ps qs : List Str}, ps ≠ [] → qs ≠ [] → (∀ p ∈ ps, c ∉ p.cps.toList) → (∀ q ∈ qs, c ∉ q.cps.toList) → Str.join ⟨#[c]⟩ ps = Str.join ⟨#[c]⟩ qs → ps = qs
  | [], _, h, _, _, _, _ => absurd rfl h
  | _, [], _, h, _, _, _ => absurd rfl h
  | [x], [y], _, _, _, _, h => by
    have h' : x = y := h
    rw [h']
  | [x], y :: z :: r, _, _, hx, _, h => by
    have h' : x = y ++ ⟨#[c]⟩ ++ Str.join ⟨#[c]⟩ (z :: r) := h
    exact absurd (show c ∈ x.cps.toList by rw [h', app, app]; simp) (hx x List.mem_cons_self)
  | x :: z :: r, [y], _, _, _, hy, h => by
    have h' : x ++ ⟨#[c]⟩ ++ Str.join ⟨#[c]⟩ (z :: r) = y := h
    exact absurd (show c ∈ y.cps.toList by rw [← h', app, app]; simp) (hy y List.mem_cons_self)
  | x :: z :: r, y :: z' :: r', _, _, hx, hy, h => by
    rw [join2, join2] at h
    have h1 := congrArg (fun s : Str => s.cps.toList) h
    simp only [app, List.append_assoc] at h1
    obtain ⟨e1, e2⟩ := cut_inj (hx x List.mem_cons_self) (hy y List.mem_cons_self) h1
    have := join_inj (ps := z :: r) (qs := z' :: r') (by simp) (by simp) (fun p hp => hx p (List.mem_cons_of_mem _ hp)) (fun p hp => hy p (List.mem_cons_of_mem _ hp)) (ext e2)
    rw [ext e1, this]
theorem split_ne (x y : Str) : Txt.split x y ≠ [] := fun h => by
  have := PyProof.Rows.split_pos x y
  rw [h] at this; simp at this
theorem split_join {c : Nat} {ps : List Str} (h0 : ps ≠ []) (hf : ∀ p ∈ ps, c ∉ p.cps.toList) : Txt.split (Str.join ⟨#[c]⟩ ps) ⟨#[c]⟩ = ps :=
  join_inj (split_ne _ _) h0 (StrLaws.split_free _ c) hf (StrLaws.join_split _ _)
theorem join_all : ∀ xs : List Str, (Str.join ⟨#[]⟩ xs).cps.toList = (xs.map fun x => x.cps.toList).flatten
  | [] => rfl
  | [x] => by simp [Str.join]
  | x :: y :: r => by
    rw [join2, app, app, join_all (y :: r)]
    simp
theorem join_ends {c : Nat} : ∀ xs : List Str, (Str.join ⟨#[c]⟩ (xs ++ [⟨#[]⟩])).cps.toList = (xs.map fun x => x.cps.toList ++ [c]).flatten
  | [] => rfl
  | [x] => by
    show (Str.join ⟨#[c]⟩ [x, ⟨#[]⟩]).cps.toList = _
    rw [join2, app, app]
    simp [Str.join]
  | x :: y :: r => by
    have e : (x :: y :: r) ++ [(⟨#[]⟩ : Str)] = x :: y :: (r ++ [⟨#[]⟩]) := rfl
    have ih := join_ends (c := c) (y :: r)
    rw [e, join2, app, app]
    have e2 : y :: (r ++ [(⟨#[]⟩ : Str)]) = (y :: r) ++ [⟨#[]⟩] := rfl
    rw [e2, ih]
    simp
/-- lines with their ends -/
theorem lines_eq {c : Nat} (xs : List Str) : Str.join ⟨#[]⟩ (xs.map fun x => x ++ ⟨#[c]⟩) = Str.join ⟨#[c]⟩ (xs ++ [⟨#[]⟩]) := ext (by
  rw [join_all, join_ends, List.map_map]
  congr 1
  refine List.map_congr_left fun x _ => ?_
  show (x ++ ⟨#[c]⟩).cps.toList = _
  rw [app])
theorem mem_join {c : Nat} {sep : Str} : ∀ {xs : List Str}, c ∈ (Str.join sep xs).cps.toList → c ∈ sep.cps.toList ∨ ∃ x ∈ xs, c ∈ x.cps.toList
  | [], h => by
    have : c ∈ ([] : List Nat) := h
    simp at this
  | [x], h => .inr ⟨x, List.mem_cons_self, h⟩
  | x :: y :: r, h => by
    rw [join2, app, app, List.mem_append, List.mem_append] at h
    rcases h with (h | h) | h
    · exact .inr ⟨x, List.mem_cons_self, h⟩
    · exact .inl h
    · rcases mem_join h with h | ⟨z, hz, h⟩
      · exact .inl h
      · exact .inr ⟨z, List.mem_cons_of_mem _ hz, h⟩
theorem sum_le {k : Nat} : ∀ {xs : List Str}, (∀ x ∈ xs, x.length ≤ k) → (xs.map (·.length)).sum ≤ xs.length * k
  | [], _ => Nat.zero_le _
  | x :: r, h => by
    have h1 := h x List.mem_cons_self
    have h2 := sum_le fun y hy => h y (List.mem_cons_of_mem _ hy)
    simp only [List.map_cons, List.sum_cons, List.length_cons, Nat.succ_mul]
    omega
theorem join_le {k : Nat} {sep : Str} {xs : List Str} (h : ∀ x ∈ xs, x.length ≤ k) : (Str.join sep xs).length ≤ xs.length * (k + sep.length) := by
  have h1 := StrLaws.join_length_le sep xs
  have h2 := sum_le h
  rw [Nat.mul_add]; omega
end Tx

namespace Tx
open PySem PySem.Builtin PySem.Builtin.Str
theorem slice_list (x : Str) (lo hi : Option Int) : (Txt.slice x lo hi).cps.toList = (strSliceIndices lo hi 1 x.length).filterMap (x.cps[·]?) ∨ Txt.slice x lo hi = x := by
  unfold Txt.slice
  split
  · exact .inr rfl
  · exact .inl (by simp)
theorem slice_sub {x : Str} {lo hi : Option Int} {c : Nat} (h : c ∈ (Txt.slice x lo hi).cps.toList) : c ∈ x.cps.toList := by
  rcases slice_list x lo hi with e | e
  · rw [e] at h
    obtain ⟨i, _, hi⟩ := List.mem_filterMap.mp h
    have := Array.getElem?_toList (xs := x.cps) (i := i)
    rw [hi] at this
    exact List.mem_of_getElem? this
  · rw [e] at h; exact h
theorem idx_to {n : Nat} (hn : 1 ≤ n) : strSliceIndices none (some (-1)) 1 n = strSliceIndices (some ((0 : Nat) : Int)) (some ((n - 1 : Nat) : Int)) 1 n := by
  have e1 : max (0 : Int) (min (-1 + (n : Int)) (n : Int)) = ((n - 1 : Nat) : Int) := by omega
  have e2 : max (0 : Int) (min ((0 : Nat) : Int) (n : Int)) = 0 := by omega
  have e3 : max (0 : Int) (min ((n - 1 : Nat) : Int) (n : Int)) = ((n - 1 : Nat) : Int) := by omega
  have h1 : ¬ (((n - 1 : Nat) : Int) < 0) := by omega
  have h2 : ¬ (((0 : Nat) : Int) < 0) := by omega
  simp only [strSliceIndices, show ((1 : Int) > 0) = True from by simp, if_true, show ((-1 : Int) < 0) = True from by simp, h1, h2, if_false, e1, e2, e3]
theorem idx_from {n : Nat} (hn : 1 ≤ n) : strSliceIndices (some (-1)) none 1 n = strSliceIndices (some ((n - 1 : Nat) : Int)) (some ((n : Nat) : Int)) 1 n := by
  have e1 : max (0 : Int) (min (-1 + (n : Int)) (n : Int)) = ((n - 1 : Nat) : Int) := by omega
  have e2 : max (0 : Int) (min (n : Int) (n : Int)) = n := by omega
  have e3 : max (0 : Int) (min ((n - 1 : Nat) : Int) (n : Int)) = ((n - 1 : Nat) : Int) := by omega
  have h1 : ¬ (((n - 1 : Nat) : Int) < 0) := by omega
  have h2 : ¬ ((n : Int) < 0) := by omega
  simp only [strSliceIndices, show ((1 : Int) > 0) = True from by simp, if_true, show ((-1 : Int) < 0) = True from by simp, h1, h2, if_false, e1, e2, e3]
theorem len_toList (x : Str) : x.cps.toList.length = x.length := by simp [Str.length]
theorem slice_init {x : Str} {f : List Nat} {c : Nat} (h : x.cps.toList = f ++ [c]) : Txt.slice x none (some (-1)) = ⟨f.toArray⟩ := by
  have hn : x.length = f.length + 1 := by rw [← len_toList, h]; simp
  have hi : strSliceIndices none (some (-1)) 1 x.length = (List.range (x.length - 1 - 0)).map (fun k => 0 + k) := by
    rw [idx_to (by omega), StrLaws.strSliceIndices_plain (by omega) (by omega)]
  have hl : (strSliceIndices none (some (-1)) 1 x.length).length = f.length := by rw [hi]; simp; omega
  unfold Txt.slice
  rw [if_neg (by rw [hl, hn]; simp)]
  rw [idx_to (by omega), StrLaws.sliced_plain x (by omega) (by omega), h]
  congr 2
  simp [hn]
theorem slice_last {x : Str} {f : List Nat} {c : Nat} (h : x.cps.toList = f ++ [c]) : Txt.slice x (some (-1)) none = ⟨#[c]⟩ := by
  have hn : x.length = f.length + 1 := by rw [← len_toList, h]; simp
  have key : (⟨((strSliceIndices (some (-1)) none 1 x.length).filterMap (x.cps[·]?)).toArray⟩ : Str) = ⟨#[c]⟩ := by
    rw [idx_from (by omega), StrLaws.sliced_plain x (by omega) (by omega), h]
    simp [hn]
  unfold Txt.slice
  split
  · rename_i hc
    have hi : strSliceIndices (some (-1)) none 1 x.length = (List.range (x.length - (x.length - 1))).map (fun k => (x.length - 1) + k) := by
      rw [idx_from (by omega), StrLaws.strSliceIndices_plain (by omega) (by omega)]
    have hl : (strSliceIndices (some (-1)) none 1 x.length).length = 1 := by rw [hi]; simp; omega
    rw [hl, hn] at hc
    have hf : f = [] := by simp at hc; exact hc
    subst hf
    exact ext (by rw [h]; rfl)
  · exact key
theorem slice_e0 {lo hi : Option Int} : Txt.slice ⟨#[]⟩ lo hi = ⟨#[]⟩ := ext (by
  have : ∀ c, c ∉ (Txt.slice ⟨#[]⟩ lo hi).cps.toList := fun c h => by
    have := slice_sub h
    simp at this
  exact List.eq_nil_iff_forall_not_mem.mpr this)
theorem split_sub {x sep p : Str} {c : Nat} (hp : p ∈ Txt.split x sep) (h : c ∈ p.cps.toList) : c ∈ x.cps.toList := by
  have e := StrLaws.join_split x sep
  rw [← e]
  clear e
  generalize Txt.split x sep = ps at hp
  induction ps with
  | nil => cases hp
  | cons q r ih =>
    cases r with
    | nil =>
      have : p = q := by simpa using hp
      rw [this] at h; exact h
    | cons q2 r2 =>
      rw [join2, app, app, List.mem_append, List.mem_append]
      rcases List.mem_cons.mp hp with rfl | hp
      · exact .inl (.inl h)
      · exact .inr (ih hp)
end Tx

namespace Py
open PySem PySem.Spec L2 DD
open PyProof.Rows hiding St
/-- turns of a while, at most -/
def WF : Nat := 1000000
/-- ways_at -/
def b_f_ways_at : G → Option Out := (sSeq (sIf (xT (x2 (mEq false) (xVar 0) (xC (.int 0)))) (sRet (xTup (xCons (xC (.int 1)) xNil))) sNext) (sSeq (sIf (xT (x2 (mEq false) (xVar 0) (x2 mAdd (xVar 1) (xC (.int 1))))) (sRet (xTup (xCons (xNeg (xC (.int 1))) xNil))) sNext) (sRet (xTup (xCons (xC (.int 1)) (xCons (xNeg (xC (.int 1))) xNil))))))
def m_f_ways_at : List D → Option D := mir 2 2 b_f_ways_at
/-- shown_move -/
def b_f_shown_move : G → Option Out := (sSeq (sIf (xT (xCall mIsi (xCons (xVar 0) (xCons (xTy .str) xNil)))) (sRet (xVar 0)) sNext) (sRet (x2 mCatS (xCall mStr (xCons (x2 mIx (xVar 0) (xC (.int 0))) xNil)) (xIf (xT (x2 (mEq false) (x2 mIx (xVar 0) (xC (.int 1))) (xC (.int 1)))) (xC (.str ">")) (xC (.str "<"))))))
def m_f_shown_move : List D → Option D := mir 1 1 b_f_shown_move
/-- moves_by_text -/
def ce_f_moves_by_text_1 : G → Option B := (xTup (xCons (xVar 0) (xCons (xVar 0) xNil)))
def lb_f_moves_by_text_1 : G → Option Out := (sDPutM 2 (xFn m_f_shown_move (xCons (xTup (xCons (xVar 4) (xCons (xVar 3) xNil))) xNil)) (xTup (xCons (xVar 4) (xCons (xVar 3) xNil))))
def lb_f_moves_by_text_2 : G → Option Out := (sFor (xR1 (xCons (xVar 0) xNil)) (gSet 4) lb_f_moves_by_text_1)
def b_f_moves_by_text : G → Option Out := (sSeq (sNewKL 2 (xCons (xL (xComp (xSeq (xG [(.str "yes"), (.str "no")])) [none] (gSet 0) xTrue ce_f_moves_by_text_1)) xNil)) (sSeq (sFor (xFix (xVar 1)) (gSet 3) lb_f_moves_by_text_2) (sFrz 2 (sRet (xVar 2)))))
def m_f_moves_by_text : List D → Option D := mir 2 5 b_f_moves_by_text
/-- letters_read -/
def lb_f_letters_read_1 : G → Option Out := (sIf (xT (x2 (mEq false) (xVar 0) (xCall mStr (xCons (xVar 1) xNil)))) (sRet (xVar 1)) sNext)
def b_f_letters_read : G → Option Out := (sSeq (sFor (xR2 (xCons (xC (.int 1)) (xCons (x2 mAdd (xC (.int 3)) (xC (.int 1))) xNil))) (gSet 1) lb_f_letters_read_1) sNo)
def m_f_letters_read : List D → Option D := mir 1 2 b_f_letters_read
def y_f_letters_read : G → Bool := (ySeq yNo (sFor (xR2 (xCons (xC (.int 1)) (xCons (x2 mAdd (xC (.int 3)) (xC (.int 1))) xNil))) (gSet 1) lb_f_letters_read_1) yAll)
def x_f_letters_read : List D → Bool := xBody 1 2 y_f_letters_read
/-- room_read -/
def ce_f_room_read_1 : G → Option B := (x2 (mDIn false) (xVar 0) (xVar 1))
def ce_f_room_read_2 : G → Option B := (x2 mDGet (xVar 1) (xVar 0))
def b_f_room_read : G → Option Out := (sSeq (sSet 2 (x2 mSplit (xVar 0) (xC (.str " ")))) (sSeq (sIf (xT (x2 (mEq true) (xCall mLen (xCons (xVar 2) xNil)) (xCall mLen (xCons (xVar 1) xNil)))) sNo sNext) (sSeq (sIf (xNot (xT (xCall mAll (xCons (xL (xComp (xZip (xCons (xVar 2) (xCons (xVar 1) xNil))) [none, none] (gTupD 2 (glCons (gSet 0) (glCons (gSet 1) glNil))) xTrue ce_f_room_read_1)) xNil)))) sNo sNext) (sRet (xCall mTup (xCons (xL (xComp (xZip (xCons (xVar 2) (xCons (xVar 1) xNil))) [none, none] (gTupD 2 (glCons (gSet 0) (glCons (gSet 1) glNil))) xTrue ce_f_room_read_2)) xNil))))))
def m_f_room_read : List D → Option D := mir 2 3 b_f_room_read
def y_f_room_read : G → Bool := (ySeq yNo (sSet 2 (x2 mSplit (xVar 0) (xC (.str " ")))) (ySeq (yIf (xT (x2 (mEq true) (xCall mLen (xCons (xVar 2) xNil)) (xCall mLen (xCons (xVar 1) xNil)))) yAll yNo) (sIf (xT (x2 (mEq true) (xCall mLen (xCons (xVar 2) xNil)) (xCall mLen (xCons (xVar 1) xNil)))) sNo sNext) (ySeq (yIf (xNot (xT (xCall mAll (xCons (xL (xComp (xZip (xCons (xVar 2) (xCons (xVar 1) xNil))) [none, none] (gTupD 2 (glCons (gSet 0) (glCons (gSet 1) glNil))) xTrue ce_f_room_read_1)) xNil)))) yAll yNo) (sIf (xNot (xT (xCall mAll (xCons (xL (xComp (xZip (xCons (xVar 2) (xCons (xVar 1) xNil))) [none, none] (gTupD 2 (glCons (gSet 0) (glCons (gSet 1) glNil))) xTrue ce_f_room_read_1)) xNil)))) sNo sNext) yNo)))
def x_f_room_read : List D → Bool := xBody 2 3 y_f_room_read
/-- read -/
def ce_f_read_1 : G → Option B := (xFn m_f_moves_by_text (xCons (xVar 1) (xCons (xFn m_f_ways_at (xCons (xVar 0) (xCons (xVar 2) xNil))) xNil)))
def ce_f_read_2 : G → Option B := (xFn m_f_room_read (xCons (xVar 0) (xCons (xVar 1) xNil)))
def b_f_read : G → Option Out := (sSeq (sIf (xNot (xT (xCall mIsi (xCons (xVar 0) (xCons (xTy .str) xNil))))) sNo sNext) (sSeq (sSet 1 (x2 mSplit (xVar 0) (xC (.str "\n")))) (sSeq (sIf (xT (x2 (mEq true) (x2 mIx (xVar 1) (xNeg (xC (.int 1)))) (xC (.str "")))) sNo sNext) (sSeq (sSet 2 (xFn m_f_letters_read (xCons (x2 mIx (xVar 1) (xC (.int 0))) xNil))) (sSeq (sSet 3 (x2 mSub (xCall mLen (xCons (xVar 1) xNil)) (xC (.int 2)))) (sSeq (sIf (xNot (xT (x3 mLe mLe (xC (.int 1)) (xVar 3) (xC (.int 12))))) sNo sNext) (sSeq (sSet 4 (xL (xComp (xR1 (xCons (x2 mAdd (xVar 2) (xC (.int 2))) xNil)) [none, some 3, some 2] (gSet 0) xTrue ce_f_read_1))) (sRet (xTup (xCons (xVar 2) (xCons (xCall mTup (xCons (xL (xComp (xFix (xSl (xVar 1) (xP (xC (.int 1))) (xP (xNeg (xC (.int 1)))))) [none, some 4] (gSet 0) xTrue ce_f_read_2)) xNil)) xNil)))))))))))
def m_f_read : List D → Option D := mir 1 5 b_f_read
def y_f_read : G → Bool := (ySeq (yIf (xNot (xT (xCall mIsi (xCons (xVar 0) (xCons (xTy .str) xNil))))) yAll yNo) (sIf (xNot (xT (xCall mIsi (xCons (xVar 0) (xCons (xTy .str) xNil))))) sNo sNext) (ySeq yNo (sSet 1 (x2 mSplit (xVar 0) (xC (.str "\n")))) (ySeq (yIf (xT (x2 (mEq true) (x2 mIx (xVar 1) (xNeg (xC (.int 1)))) (xC (.str "")))) yAll yNo) (sIf (xT (x2 (mEq true) (x2 mIx (xVar 1) (xNeg (xC (.int 1)))) (xC (.str "")))) sNo sNext) (ySeq (yCall x_f_letters_read (xCons (x2 mIx (xVar 1) (xC (.int 0))) xNil)) (sSet 2 (xFn m_f_letters_read (xCons (x2 mIx (xVar 1) (xC (.int 0))) xNil))) (ySeq yNo (sSet 3 (x2 mSub (xCall mLen (xCons (xVar 1) xNil)) (xC (.int 2)))) (ySeq (yIf (xNot (xT (x3 mLe mLe (xC (.int 1)) (xVar 3) (xC (.int 12))))) yAll yNo) (sIf (xNot (xT (x3 mLe mLe (xC (.int 1)) (xVar 3) (xC (.int 12))))) sNo sNext) (ySeq yNo (sSet 4 (xL (xComp (xR1 (xCons (x2 mAdd (xVar 2) (xC (.int 2))) xNil)) [none, some 3, some 2] (gSet 0) xTrue ce_f_read_1))) (fun Γ => ((xVar 2) Γ).isSome && (yComp (xFix (xSl (xVar 1) (xP (xC (.int 1))) (xP (xNeg (xC (.int 1)))))) [none, some 4] (gSet 0) xTrue ce_f_read_2 (yCall x_f_room_read (xCons (xVar 0) (xCons (xVar 1) xNil)))) Γ))))))))
def x_f_read : List D → Bool := xBody 1 5 y_f_read
/-- _law_cell_at -/
def b_f_law_cell_at : G → Option Out := (sSeq (sIf (xT (x2 mLt (xVar 1) (xCall mLen (xCons (xVar 0) xNil)))) (sRet (x2 mIx (xVar 0) (xVar 1))) sNext) (sSeq (sIf (xT (x2 (mEq false) (xVar 0) (xL (xLst xNil)))) (sRet (xC (.int 0))) sNext) (sRet (x2 mAdd (x2 mMul (x2 mIx (xVar 0) (x2 mMod (xVar 1) (xCall mLen (xCons (xVar 0) xNil)))) (xC (.int 31))) (xVar 1)))))
def m_f_law_cell_at : List D → Option D := mir 2 2 b_f_law_cell_at
/-- _law_mixed -/
def b_f_law_mixed : G → Option Out := (sSeq (sSet 3 (x2 mMod (x2 mMul (x2 mAdd (x2 mAdd (xFn m_f_law_cell_at (xCons (xVar 0) (xCons (xVar 1) xNil))) (x2 mMul (xC (.int 7919)) (xVar 1))) (xC (.int 1))) (xC (.int 48271))) (xC (.int 2147483647)))) (sRet (x2 mMod (x2 mMod (x2 mAdd (x2 mAdd (x2 mMul (xVar 3) (xVar 3)) (x2 mMul (xC (.int 7)) (xVar 3))) (xVar 1)) (xC (.int 2147483629))) (xVar 2))))
def m_f_law_mixed : List D → Option D := mir 3 4 b_f_law_mixed
/-- _law_move -/
def b_f_law_move : G → Option Out := (sSeq (sSet 4 (xFn m_f_law_mixed (xCons (xVar 0) (xCons (xVar 1) (xCons (x2 mMul (xC (.int 40)) (xVar 2)) xNil))))) (sSeq (sIf (xT (x2 mLt (x2 mMod (xVar 4) (xC (.int 20))) (xC (.int 4)))) (sRet (x2 mIx (xL (xLst (xCons (xC (.str "yes")) (xCons (xC (.str "no")) xNil)))) (x2 mMod (xVar 4) (xC (.int 2))))) sNext) (sRet (xTup (xCons (x2 mDiv (xVar 4) (xC (.int 40))) (xCons (x2 mIx (xVar 3) (x2 mMod (x2 mDiv (xVar 4) (xC (.int 20))) (xCall mLen (xCons (xVar 3) xNil)))) xNil))))))
def m_f_law_move : List D → Option D := mir 4 5 b_f_law_move
/-- _law_machine -/
def ce_f_law_machine_1 : G → Option B := (xFn m_f_law_move (xCons (xVar 1) (xCons (x2 mAdd (x2 mAdd (xVar 2) (xC (.int 1))) (xVar 0)) (xCons (xVar 3) (xCons (xL (xLst (xCons (xC (.int 1)) (xCons (xNeg (xC (.int 1))) xNil)))) xNil)))))
def lb_f_law_machine_1 : G → Option Out := (sSeq (sSet 7 (x2 mAdd (x2 mAdd (xVar 1) (xC (.int 1))) (x2 mMul (xC (.int 5)) (xVar 6)))) (sSeq (sOwn 8 (xLst (xCons (xFn m_f_law_move (xCons (xVar 0) (xCons (xVar 7) (xCons (xVar 4) (xCons (xL (xLst (xCons (xC (.int 1)) xNil))) xNil))))) xNil))) (sSeq (sExt 8 (xL (xComp (xR1 (xCons (xVar 2) xNil)) [none, some 0, some 7, some 4] (gSet 0) xTrue ce_f_law_machine_1))) (sApp 5 (xCall mTup (xCons (x2 mAdd (xVar 8) (xL (xLst (xCons (xFn m_f_law_move (xCons (xVar 0) (xCons (x2 mAdd (xVar 7) (xC (.int 4))) (xCons (xVar 4) (xCons (xL (xLst (xCons (xNeg (xC (.int 1))) xNil))) xNil))))) xNil)))) xNil))))))
def b_f_law_machine : G → Option Out := (sSeq (sSet 4 (x2 mAdd (xC (.int 1)) (xFn m_f_law_mixed (xCons (xVar 0) (xCons (xVar 1) (xCons (xVar 3) xNil)))))) (sSeq (sOwn 5 (xLst xNil)) (sSeq (sFor (xR1 (xCons (xVar 4) xNil)) (gSet 6) lb_f_law_machine_1) (sRet (xTup (xCons (xVar 2) (xCons (xCall mTup (xCons (xVar 5) xNil)) xNil)))))))
def m_f_law_machine : List D → Option D := mir 4 9 b_f_law_machine
/-- _law_letters -/
def b_f_law_letters : G → Option Out := (sRet (x2 mIx (xL (xLst (xCons (xC (.int 1)) (xCons (xC (.int 2)) (xCons (xC (.int 2)) (xCons (xC (.int 2)) (xCons (xC (.int 2)) (xCons (xC (.int 3)) xNil)))))))) (xFn m_f_law_mixed (xCons (xVar 0) (xCons (xVar 1) (xCons (xC (.int 6)) xNil))))))
def m_f_law_letters : List D → Option D := mir 2 2 b_f_law_letters
/-- _law_part -/
def b_f_law_part : G → Option Out := (sSeq (sIf (xT (xCall mIsi (xCons (xVar 0) (xCons (xTy .str) xNil)))) (sRet (xVar 0)) sNext) (sRet (x2 mCatS (xCall mStr (xCons (x2 mIx (xVar 0) (xC (.int 0))) xNil)) (x2 mIxS (xC (.str "<>")) (xCall mIntA (xCons (x2 (mEq false) (x2 mIx (xVar 0) (xC (.int 1))) (xC (.int 1))) xNil))))))
def m_f_law_part : List D → Option D := mir 1 1 b_f_law_part
/-- _law_written -/
def ce_f_law_written_1 : G → Option B := (xFn m_f_law_part (xCons (xVar 0) xNil))
def ce_f_law_written_2 : G → Option B := (x2 mJoin (xC (.str " ")) (xL (xComp (xFix (xVar 0)) [none] (gSet 0) xTrue ce_f_law_written_1)))
def ce_f_law_written_3 : G → Option B := (x2 mCatS (xVar 0) (xC (.str "\n")))
def b_f_law_written : G → Option Out := (sSeq (sSet 1 (x2 mAdd (xL (xLst (xCons (xCall mStr (xCons (x2 mIx (xVar 0) (xC (.int 0))) xNil)) xNil))) (xL (xComp (xFix (x2 mIx (xVar 0) (xC (.int 1)))) [none] (gSet 0) xTrue ce_f_law_written_2)))) (sRet (x2 mJoin (xC (.str "")) (xL (xComp (xFix (xVar 1)) [none] (gSet 0) xTrue ce_f_law_written_3)))))
def m_f_law_written : List D → Option D := mir 1 2 b_f_law_written
/-- _law_spoilt -/
def b_f_law_spoilt : G → Option Out := (sSeq (sSet 2 (x2 mMod (xVar 1) (x2 mAdd (xCall mLenS (xCons (xVar 0) xNil)) (xC (.int 1))))) (sSeq (sSet 3 (x2 mIxS (xC (.str " \n0123456789<>-+yesno.")) (x2 mMod (x2 mDiv (xVar 1) (xC (.int 100))) (xC (.int 22))))) (sSeq (sSet 4 (x2 mMod (x2 mDiv (xVar 1) (xC (.int 2200))) (xC (.int 6)))) (sSeq (sIf (xT (x2 (mEq false) (xVar 4) (xC (.int 0)))) (sRet (x2 mCatS (x2 mCatS (xSlS (xVar 0) xNoP (xP (xVar 2))) (xVar 3)) (xSlS (xVar 0) (xP (xVar 2)) xNoP))) sNext) (sSeq (sIf (xT (x2 (mEq false) (xVar 4) (xC (.int 1)))) (sRet (x2 mCatS (xSlS (xVar 0) xNoP (xP (xVar 2))) (xSlS (xVar 0) (xP (x2 mAdd (xVar 2) (xC (.int 1)))) xNoP))) sNext) (sSeq (sIf (xT (x2 (mEq false) (xVar 4) (xC (.int 2)))) (sRet (x2 mCatS (x2 mCatS (xSlS (xVar 0) xNoP (xP (xVar 2))) (xVar 3)) (xSlS (xVar 0) (xP (x2 mAdd (xVar 2) (xC (.int 1)))) xNoP))) sNext) (sSeq (sIf (xT (x2 (mEq false) (xVar 4) (xC (.int 3)))) (sRet (x2 mCatS (xVar 0) (xSlS (xVar 0) (xP (xC (.int 2))) xNoP))) sNext) (sSeq (sIf (xT (x2 (mEq false) (xVar 4) (xC (.int 4)))) (sRet (x2 mCatS (xVar 0) (x2 mIx (xL (xLst (xCons (xC (.str "\n")) (xCons (xC (.str "yes no no\n")) (xCons (xC (.str "0> 0< 0<\n")) (xCons (xC (.str "2\n")) (xCons (xC (.str "00> no no\n")) xNil))))))) (x2 mMod (xVar 1) (xC (.int 5)))))) sNext) (sRet (x2 mIx (xL (xLst (xCons (xC .non) (xCons (xC (.int 5)) (xCons (xL (xLst (xCons (xVar 0) xNil))) (xCons (xSlS (xVar 0) xNoP (xP (xNeg (xC (.int 1))))) (xCons (xC (.str "")) (xCons (xC (.str "2\n")) xNil)))))))) (x2 mMod (xVar 1) (xC (.int 6)))))))))))))
def m_f_law_spoilt : List D → Option D := mir 2 5 b_f_law_spoilt
/-- _law_read_move -/
def ce_f_law_read_move_1 : G → Option B := (xVar 0)
def cc_f_law_read_move_1 : G → Option Bool := (xT (x2 (mInS true) (xVar 0) (xC (.str "0123456789"))))
def b_f_law_read_move : G → Option Out := (sSeq (sIf (xT (x2 (mIn false) (xVar 0) (xTup (xCons (xC (.str "yes")) (xCons (xC (.str "no")) xNil))))) (sRet (xVar 0)) sNext) (sSeq (sSet 3 (xSlS (xVar 0) xNoP (xP (xNeg (xC (.int 1)))))) (sSeq (sIf (xOr (xT (x2 (mIn true) (xSlS (xVar 0) (xP (xNeg (xC (.int 1)))) xNoP) (xTup (xCons (xC (.str "<")) (xCons (xC (.str ">")) xNil))))) (xOr (xT (x2 (mEq false) (xVar 3) (xC (.str "")))) (xT (x2 mGt (xCall mLenS (xCons (xVar 3) xNil)) (xC (.int 2)))))) (sRet (xC .non)) sNext) (sSeq (sIf (xOr (xT (x2 (mEq true) (xL (xComp (xChars (xVar 3)) [none] (gSet 0) cc_f_law_read_move_1 ce_f_law_read_move_1)) (xL (xLst xNil)))) (xAnd (xT (x2 (mEq false) (x2 mIxS (xVar 3) (xC (.int 0))) (xC (.str "0")))) (xT (x2 (mEq true) (xVar 3) (xC (.str "0")))))) (sRet (xC .non)) sNext) (sSeq (sIf (xOr (xT (x2 mGe (xCall mIntA (xCons (xVar 3) xNil)) (xVar 1))) (xT (x2 (mIn true) (xSlS (xVar 0) (xP (xNeg (xC (.int 1)))) xNoP) (xVar 2)))) (sRet (xC .non)) sNext) (sRet (xTup (xCons (xCall mIntA (xCons (xVar 3) xNil)) (xCons (x2 mIx (xL (xLst (xCons (xNeg (xC (.int 1))) (xCons (xC (.int 1)) xNil)))) (xCall mIntA (xCons (x2 (mEq false) (xSlS (xVar 0) (xP (xNeg (xC (.int 1)))) xNoP) (xC (.str ">"))) xNil))) xNil)))))))))
def m_f_law_read_move : List D → Option D := mir 3 4 b_f_law_read_move
/-- _law_due -/
def ce_f_law_due_1 : G → Option B := (xL (xLst (xCons (xC (.str "<")) (xCons (xC (.str ">")) xNil))))
def ce_f_law_due_2 : G → Option B := (xFn m_f_law_read_move (xCons (xVar 0) (xCons (x2 mSub (xCall mLen (xCons (xVar 2) xNil)) (xC (.int 1))) (xCons (xVar 1) xNil))))
def lb_f_law_due_1 : G → Option Out := (sSeq (sSet 5 (x2 mSplit (xVar 4) (xC (.str " ")))) (sSeq (sIf (xT (x2 (mEq true) (xCall mLen (xCons (xVar 5) xNil)) (x2 mAdd (xVar 2) (xC (.int 2))))) (sRet (xC .non)) sNext) (sSeq (sSet 6 (x2 mAdd (x2 mAdd (xL (xLst (xCons (xL (xLst (xCons (xC (.str ">")) xNil))) xNil))) (xL (xComp (xFix (xSl (xVar 5) (xP (xC (.int 1))) (xP (xNeg (xC (.int 1)))))) [none] (gSet 0) xTrue ce_f_law_due_1))) (xL (xLst (xCons (xL (xLst (xCons (xC (.str "<")) xNil))) xNil))))) (sSeq (sSet 7 (xL (xComp (xZip (xCons (xVar 5) (xCons (xVar 6) xNil))) [none, none, some 1] (gTupD 2 (glCons (gSet 0) (glCons (gSet 1) glNil))) xTrue ce_f_law_due_2))) (sSeq (sIf (xT (x2 (mIn false) (xC .non) (xVar 7))) (sRet (xC .non)) sNext) (sApp 3 (xCall mTup (xCons (xVar 7) xNil))))))))
def b_f_law_due : G → Option Out := (sSeq (sIf (xOr (xNot (xT (xCall mIsi (xCons (xVar 0) (xCons (xTy .str) xNil))))) (xT (x2 (mEq true) (xSlS (xVar 0) (xP (xNeg (xC (.int 1)))) xNoP) (xC (.str "\n"))))) (sRet (xC .non)) sNext) (sSeq (sSet 1 (x2 mSplit (xSlS (xVar 0) xNoP (xP (xNeg (xC (.int 1))))) (xC (.str "\n")))) (sSeq (sIf (xOr (xT (x2 (mIn true) (x2 mIx (xVar 1) (xC (.int 0))) (xTup (xCons (xC (.str "1")) (xCons (xC (.str "2")) (xCons (xC (.str "3")) xNil)))))) (xNot (xT (x3 mLe mLe (xC (.int 2)) (xCall mLen (xCons (xVar 1) xNil)) (xC (.int 13)))))) (sRet (xC .non)) sNext) (sSeq (sSet 2 (xCall mIntA (xCons (x2 mIx (xVar 1) (xC (.int 0))) xNil))) (sSeq (sOwn 3 (xLst xNil)) (sSeq (sFor (xFix (xSl (xVar 1) (xP (xC (.int 1))) xNoP)) (gSet 4) lb_f_law_due_1) (sRet (xTup (xCons (xVar 2) (xCons (xCall mTup (xCons (xVar 3) xNil)) xNil))))))))))
def m_f_law_due : List D → Option D := mir 1 8 b_f_law_due
/-- law -/
def b_f_law : G → Option Out := (sSeq (sSet 1 (xFn m_f_law_machine (xCons (xVar 0) (xCons (xC (.int 1)) (xCons (xFn m_f_law_letters (xCons (xVar 0) (xCons (xC (.int 0)) xNil))) (xCons (xC (.int 3)) xNil)))))) (sSeq (sSet 2 (xFn m_f_law_spoilt (xCons (xFn m_f_law_written (xCons (xVar 1) xNil)) (xCons (xFn m_f_law_mixed (xCons (xVar 0) (xCons (xC (.int 20)) (xCons (x2 mPow (xC (.int 10)) (xC (.int 6))) xNil)))) xNil)))) (sSeq (sSet 3 (xC .non)) (sSeq (sTryA 2 3 4 m_f_read x_f_read) (sRet (x2 (mEq false) (xVar 3) (xFn m_f_law_due (xCons (xVar 2) xNil))))))))
def m_f_law : List D → Option D := mir 1 5 b_f_law
--OK
end Py

namespace Py
open PySem L2 DD Pu
/-! ### what the law draws -/
theorem small_lit {i : Int} (h : -(2 ^ 64) < i ∧ i < 2 ^ 64) : small64 i = true := by unfold small64; simp only [h.1, h.2, decide_true, Bool.and_self]
theorem q_cell {ns : List Int} {k : Nat} : ∃ v : Int, m_f_law_cell_at [.scr ns, .int k] = some (.int v) := by
  by_cases h : k < ns.length
  · refine ⟨ns[k], mir_rt rfl ?_⟩
    simp [b_f_law_cell_at, startG, atI_n, h]
  · by_cases h2 : ns = []
    · subst h2
      refine ⟨0, mir_rt rfl ?_⟩
      have e : ¬ ((k : Int) < 0) := by omega
      simp [b_f_law_cell_at, startG, o_eqNil, e]
    · have h0 : 0 < ns.length := List.length_pos_iff.mpr h2
      have hm : (k : Int) % (ns.length : Int) = ((k % ns.length : Nat) : Int) := by simp
      have hlt : k % ns.length < ns.length := Nat.mod_lt _ h0
      refine ⟨ns[k % ns.length] * 31 + k, mir_rt rfl ?_⟩
      have e : ¬ ((k : Int) < (ns.length : Int)) := by omega
      have hp : (0 : Int) < (ns.length : Int) := by omega
      simp [b_f_law_cell_at, startG, o_eqNil, h2, e, o_mod hp]
      rw [hm, atI_n]
      simp [hlt, o_mul (.inr (show small64 31 = true by decide))]
theorem q_mixed {ns : List Int} {k many : Nat} (hm : 0 < many) : ∃ v : Nat, v < many ∧ m_f_law_mixed [.scr ns, .int k, .int many] = some (.int v) := by
  obtain ⟨c, hc⟩ := q_cell (ns := ns) (k := k)
  have hpos : (0 : Int) < many := by omega
  generalize hd : (c + 7919 * (k : Int) + 1) * 48271 % 2147483647 = d
  have d0 : 0 ≤ d := by rw [← hd]; exact Int.emod_nonneg _ (by decide)
  have d1 : d < 2147483647 := by rw [← hd]; exact Int.emod_lt_of_pos _ (by decide)
  refine ⟨((d * d + 7 * d + k) % 2147483629 % many).toNat, ?_, mir_rt rfl ?_⟩
  · have h1 := Int.emod_nonneg ((d * d + 7 * d + k) % 2147483629) (b := (many : Int)) (by omega)
    have h2 := Int.emod_lt_of_pos ((d * d + 7 * d + k) % 2147483629) hpos
    omega
  · have h1 := Int.emod_nonneg ((d * d + 7 * d + k) % 2147483629) (b := (many : Int)) (by omega)
    have sd : small64 d = true := small_lit ⟨by omega, by omega⟩
    have s1 : small64 7919 = true := by decide
    have s2 : small64 48271 = true := by decide
    have s3 : small64 7 = true := by decide
    simp [b_f_law_mixed, startG, hc, o_mul (.inl s1), o_mul (.inr s2), o_mod (show (0 : Int) < 2147483647 by decide), hd, o_mul (.inl s3), o_mul (.inl sd), o_mod (show (0 : Int) < 2147483629 by decide), o_mod hpos]
    omega

/-! ### machines as data -/
abbrev sYes : Str := Str.ofString "yes"
abbrev sNoo : Str := Str.ofString "no"
abbrev sRound : Str := Str.ofString "round"
def encMv : Mv Str → D
  | .fin s => .str s
  | .go r b => .tup [.int r, .int (if b then 1 else -1)]
def encRoom (rm : List (Mv Str)) : D := .tup (rm.map encMv)
def encM (L : Nat) (rooms : List (List (Mv Str))) : D := .tup [.int L, .tup (rooms.map encRoom)]
def encW (w : List Nat) : D := .tup (w.map fun (a : Nat) => D.int (a : Int))
@[simp] theorem encM_seq {L : Nat} {rooms : List (List (Mv Str))} : (B.d (encM L rooms)).seq = some [.int L, .tup (rooms.map encRoom)] := id rfl
@[simp] theorem encW_seq {w : List Nat} : (B.d (encW w)).seq = some (w.map fun (a : Nat) => D.int (a : Int)) := id rfl
@[simp] theorem encW_fix {w : List Nat} : fixO (some (B.d (encW w))) = some (w.map fun (a : Nat) => D.int (a : Int)) := id rfl
@[simp] theorem encM_ty {L : Nat} {rooms : List (List (Mv Str))} : D.tyOf (encM L rooms) = some .tup := id rfl
@[simp] theorem encW_ty {w : List Nat} : D.tyOf (encW w) = some .tup := id rfl
/-- a move that may stand in column c -/
def OkMv (n L c : Nat) : Mv Str → Prop
  | .fin s => s = sYes ∨ s = sNoo
  | .go r b => r < n ∧ (c = 0 → b = true) ∧ (c = L + 1 → b = false)
structure OkRoom (n L : Nat) (rm : List (Mv Str)) : Prop where
  len : rm.length = L + 2
  mvs : ∀ (c : Nat) (h : c < rm.length), OkMv n L c rm[c]
structure OkM (L : Nat) (rooms : List (List (Mv Str))) : Prop where
  l1 : 1 ≤ L
  l3 : L ≤ 3
  r1 : 1 ≤ rooms.length
  r12 : rooms.length ≤ 12
  all : ∀ rm ∈ rooms, OkRoom rooms.length L rm
theorem q_move {ns : List Int} {k many : Nat} {ways : List Bool} (hm : 0 < many) (hw : 0 < ways.length) (hw2 : ways.length < 1000) : ∃ m : Mv Str, m_f_law_move [.scr ns, .int k, .int many, .lst (ways.map fun b => .int (if b then 1 else -1))] = some (encMv m) ∧ match m with
    | .fin s => s = sYes ∨ s = sNoo
    | .go r b => r < many ∧ b ∈ ways := by
  obtain ⟨v, hv, hc⟩ := q_mixed (ns := ns) (k := k) (many := 40 * many) (by omega)
  have s1 : small64 40 = true := by decide
  have e40 : ((40 * many : Nat) : Int) = 40 * (many : Int) := by omega
  rw [e40] at hc
  by_cases h : v % 20 < 4
  · have h' : (v : Int) % 20 < 4 := by omega
    have e2 : (v : Int) % 2 = ((v % 2 : Nat) : Int) := by omega
    refine ⟨.fin (if v % 2 = 0 then sYes else sNoo), mir_rt rfl ?_, ?_⟩
    · simp [b_f_law_move, startG, o_mul (.inl s1), hc, o_mod (show (0 : Int) < 20 by decide), h', o_mod (show (0 : Int) < 2 by decide)]
      rw [e2, atI_n]
      rcases Nat.mod_two_eq_zero_or_one v with z | z <;> simp [z, encMv, sYes, sNoo]
    · by_cases z : v % 2 = 0 <;> simp [z]
  · have h' : ¬ (v : Int) % 20 < 4 := by omega
    have hlt : v / 20 % ways.length < ways.length := Nat.mod_lt _ hw
    have e1 : (v : Int) / 20 % (ways.length : Int) = ((v / 20 % ways.length : Nat) : Int) := by simp
    have hp : (0 : Int) < (ways.length : Int) := by omega
    refine ⟨.go (v / 40) ways[v / 20 % ways.length], mir_rt rfl ?_, ?_, List.getElem_mem _⟩
    · simp [b_f_law_move, startG, o_mul (.inl s1), hc, o_mod (show (0 : Int) < 20 by decide), h', o_div (show (0 : Int) < 40 by decide) (by decide), o_div (show (0 : Int) < 20 by decide) (by decide), o_mod hp]
      rw [e1, atI_n]
      simp [hlt, encMv]
    · omega

theorem q_room {ns : List Int} {a L n k : Nat} {most : Int} {s6 s7 s8 : S} {rooms : List (List (Mv Str))} (hL : L ≤ 3) (hn : 0 < n) (hr : rooms.length < 1000) : ∃ g2 rm, lb_f_law_machine_1 [.v (.scr ns), .v (.int a), .v (.int L), .v (.int most), .v (.int n), .ol (rooms.map encRoom), .v (.int k), s7, s8] = some (.nx g2) ∧ OkRoom n L rm ∧
    ∃ s6 s7 s8, g2 = [.v (.scr ns), .v (.int a), .v (.int L), .v (.int most), .v (.int n), .ol ((rooms ++ [rm]).map encRoom), s6, s7, s8] := by
  have s5 : small64 5 = true := by decide
  obtain ⟨m0, hm0, ho0⟩ := q_move (ns := ns) (k := a + 1 + 5 * k) (many := n) (ways := [true]) hn (by simp) (by simp)
  obtain ⟨m9, hm9, ho9⟩ := q_move (ns := ns) (k := a + 1 + 5 * k + 4) (many := n) (ways := [false]) hn (by simp) (by simp)
  obtain ⟨ms, hc, hml, hmo⟩ := compO_ex encMv (t := gSet 0) (cond := xTrue) (el := ce_f_law_machine_1)
    (Γ := [.v (.scr ns), .v (.int a), .v (.int L), .v (.int most), .v (.int n), .ol (rooms.map encRoom), .v (.int k), .v (.int (a + 1 + 5 * k)), .ol [encMv m0]]) (ms := [none, some 0, some 7, some 4]) (ds := rangeD 0 L)
    (fun _ m => match m with | .fin s => s = sYes ∨ s = sNoo | .go r b => r < n) (by simp; omega) (by
      intro j hj
      have hj' : j < L := by simpa using hj
      obtain ⟨m, hm, ho⟩ := q_move (ns := ns) (k := a + 1 + 5 * k + 1 + j) (many := n) (ways := [true, false]) hn (by simp) (by simp)
      refine ⟨_, m, rfl, rfl, ?_, ?_⟩
      · have e2 : ((a + 1 + 5 * k + 1 + j : Nat) : Int) = (a : Int) + 1 + 5 * k + 1 + j := by omega
        rw [e2] at hm
        simp at hm
        simp [blkG, ce_f_law_machine_1, hm]
      · cases m with
        | fin s => exact ho
        | go r b => exact ho.1)
  have e3 : ((a + 1 + 5 * k : Nat) : Int) = (a : Int) + 1 + 5 * k := by omega
  have e4 : ((a + 1 + 5 * k + 4 : Nat) : Int) = (a : Int) + 1 + 5 * k + 4 := by omega
  rw [e3] at hm0
  rw [e4] at hm9
  simp at hm0 hm9
  have hml' : ms.length = L := by simpa using hml
  refine ⟨[.v (.scr ns), .v (.int a), .v (.int L), .v (.int most), .v (.int n), .ol ((rooms ++ [m0 :: ms ++ [m9]]).map encRoom), .v (.int k), .v (.int (a + 1 + 5 * k)), .ol ((m0 :: ms).map encMv)], m0 :: ms ++ [m9], ?_, ⟨by simp [hml'], fun c hc => ?_⟩, _, _, _, rfl⟩
  · have c1 : ¬ 16777216 < 1 + L := by omega
    have c2 : 1 + L ≤ 16777216 := by omega
    have c3 : L + 1 + 1 ≤ 16777216 := by omega
    have c4 : rooms.length < 16777216 := by omega
    simp [lb_f_law_machine_1, o_mul (.inl s5), hm0, ownL, r1I_nat (show L < 1000000 by omega), hc, hm9, hml', c2, c3, c4, encRoom]
  · have hc' : c < L + 2 := by simpa [hml'] using hc
    by_cases h0 : c = 0
    · subst h0
      cases m0 with
      | fin s => exact ho0
      | go r b => exact ⟨ho0.1, fun _ => by simpa using ho0.2, fun z => by omega⟩
    · by_cases h1 : c = L + 1
      · subst h1
        have : (m0 :: ms ++ [m9])[L + 1]'hc = m9 := by simp [hml']
        rw [this]
        cases m9 with
        | fin s => exact ho9
        | go r b => exact ⟨ho9.1, fun z => by omega, fun _ => by simpa using ho9.2⟩
      · obtain ⟨j, rfl⟩ : ∃ j, c = j + 1 := ⟨c - 1, by omega⟩
        have hj : j < ms.length := by omega
        have : (m0 :: ms ++ [m9])[j + 1]'hc = ms[j] := by simp [List.getElem_append_left, hj]
        rw [this]
        have := hmo j hj
        cases hq : ms[j] with
        | fin s => rw [hq] at this; exact this
        | go r b => rw [hq] at this; exact ⟨this, fun z => by omega, fun z => by omega⟩
theorem q_machine {ns : List Int} {a L most : Nat} (hL : L ≤ 3) (hm : 0 < most) (hm2 : most ≤ 12) : ∃ rooms : List (List (Mv Str)), m_f_law_machine [.scr ns, .int a, .int L, .int most] = some (encM L rooms) ∧ 1 ≤ rooms.length ∧ rooms.length ≤ most ∧ ∀ rm ∈ rooms, OkRoom rooms.length L rm := by
  obtain ⟨v, hv, hc⟩ := q_mixed (ns := ns) (k := a) hm
  obtain ⟨g, h1, s6, s7, s8, rooms, hg, hlen, hok⟩ := forL_nx (t := gSet 6) (fb := lb_f_law_machine_1) (rangeD 0 (1 + v))
    (fun k Γ => ∃ s6 s7 s8, ∃ rooms : List (List (Mv Str)), Γ = [.v (.scr ns), .v (.int a), .v (.int L), .v (.int most), .v (.int ((1 + v : Nat) : Int)), .ol (rooms.map encRoom), s6, s7, s8] ∧ rooms.length = k ∧ ∀ rm ∈ rooms, OkRoom (1 + v) L rm)
    [.v (.scr ns), .v (.int a), .v (.int L), .v (.int most), .v (.int ((1 + v : Nat) : Int)), .ol [], .un, .un, .un] ⟨.un, .un, .un, [], rfl, rfl, by simp⟩ (by
      rintro k Γ hk ⟨s6, s7, s8, rooms, rfl, hl, hok⟩
      have hk' : k < 1 + v := by simpa using hk
      obtain ⟨g2, rm, h2, h3, h4⟩ := q_room (ns := ns) (a := a) (L := L) (n := 1 + v) (k := k) (most := most) (s6 := s6) (s7 := s7) (s8 := s8) (rooms := rooms) hL (by omega) (by omega)
      refine ⟨_, g2, ?_, h2, ?_⟩
      · simp
      · obtain ⟨t6, t7, t8, rfl⟩ := h4
        refine ⟨_, _, _, rooms ++ [rm], rfl, by simp [hl], fun r hr => ?_⟩
        rcases List.mem_append.mp hr with h | h
        · exact hok r h
        · simp at h; subst h; exact h3)
  have hlen' : rooms.length = 1 + v := by simpa using hlen
  refine ⟨rooms, mir_rt rfl ?_, by omega, by omega, by rw [hlen']; exact hok⟩
  have e : (1 : Int) + (v : Int) = ((1 + v : Nat) : Int) := by omega
  subst hg
  simp only [b_f_law_machine, startG, r_sSeq, r_sSet, r_x2, r_xC, r_xFn, r_xCons, r_xVar, r_xNil]
  simp [hc]
  rw [e, r1I_nat (by omega), forO_some, h1]
  simp [encM]
end Py

namespace Py
open PySem L2 DD Pu
theorem q_letters {ns : List Int} {a : Nat} : ∃ L : Nat, 1 ≤ L ∧ L ≤ 3 ∧ m_f_law_letters [.scr ns, .int a] = some (.int L) := by
  obtain ⟨v, hv, hc⟩ := q_mixed (ns := ns) (k := a) (many := 6) (by decide)
  have hc' : m_f_law_mixed [.scr ns, .int a, .int 6] = some (.int v) := hc
  refine ⟨[1, 2, 2, 2, 2, 3].getD v 1, ?_, ?_, mir_rt rfl ?_⟩
  · rcases v with _ | _ | _ | _ | _ | _ | v <;> simp at hv ⊢
  · rcases v with _ | _ | _ | _ | _ | _ | v <;> simp at hv ⊢
  · simp [b_f_law_letters, startG, hc', atI_n]
    rcases v with _ | _ | _ | _ | _ | _ | v
    all_goals first | omega | simp
end Py

namespace Py
open PySem L2 DD Pu
/-! ### the program's checks, of what is right -/
@[simp] theorem isi_bb : isi .bl .bl = true := by decide
@[simp] theorem isi_bi : isi .bl .int = true := by decide
@[simp] theorem isi_ib : isi .int .bl = false := by decide
@[simp] theorem isi_ii : isi .int .int = true := by decide
@[simp] theorem isi_is : isi .int .str = false := by decide
@[simp] theorem isi_it : isi .int .tup = false := by decide
@[simp] theorem isi_ss : isi .str .str = true := by decide
@[simp] theorem isi_sb : isi .str .bl = false := by decide
@[simp] theorem isi_si : isi .str .int = false := by decide
@[simp] theorem isi_st : isi .str .tup = false := by decide
@[simp] theorem isi_ts : isi .tup .str = false := by decide
@[simp] theorem isi_tt : isi .tup .tup = true := by decide
@[simp] theorem isi_tb : isi .tup .bl = false := by decide
@[simp] theorem isi_ti : isi .tup .int = false := by decide
@[simp] theorem isi_ls : isi .lst .str = false := by decide
@[simp] theorem isi_lt : isi .lst .tup = false := by decide
@[simp] theorem isi_lb : isi .lst .bl = false := by decide
@[simp] theorem isi_li : isi .lst .int = false := by decide
@[simp] theorem isi_ns : isi .non .str = false := by decide
@[simp] theorem isi_nt : isi .non .tup = false := by decide
@[simp] theorem isi_nb : isi .non .bl = false := by decide
@[simp] theorem isi_ni : isi .non .int = false := by decide
def ways (c L : Nat) : List Bool := if c = 0 then [true] else if c = L + 1 then [false] else [true, false]
def wayD (b : Bool) : D := .int (if b then 1 else -1)
theorem k_ways {c L : Nat} : m_f_ways_at [.int c, .int L] = some (.tup ((ways c L).map wayD)) := by
  refine mir_rt rfl ?_
  unfold ways
  by_cases h0 : c = 0
  · subst h0
    simp [b_f_ways_at, startG, wayD]
  · by_cases h1 : c = L + 1
    · subst h1
      have e0 : ((L + 1 : Nat) : Int) ≠ 0 := by omega
      have e0' : ¬ ((L : Int) + 1 = 0) := by omega
      simp [b_f_ways_at, startG, wayD, e0']
    · have e0 : ¬ ((c : Int) = 0) := by omega
      have e1 : ¬ ((c : Int) = (L : Int) + 1) := by omega
      simp [b_f_ways_at, startG, wayD, h0, h1, e1]
end Py

namespace Py
open PySem L2 DD Pu
/-! ### the text of a machine -/
abbrev nlS : Str := ⟨#[10]⟩
abbrev spS : Str := ⟨#[32]⟩
abbrev e0S : Str := ⟨#[]⟩
theorem nl_eq : Str.ofString "\n" = nlS := by decide +kernel
theorem sp_eq : Str.ofString " " = spS := by decide +kernel
theorem e0_eq : Str.ofString "" = e0S := by decide +kernel
theorem len_gt : (Str.ofString ">").length = 1 := by decide +kernel
theorem len_lt : (Str.ofString "<").length = 1 := by decide +kernel
def numS (r : Nat) : Str := Str.ofString (toString (r : Int))
theorem o_num {r : Nat} (h : r < 1000000) : mStr [.d (.int (r : Int))] = some (.str (numS r)) := o_str ⟨by omega, by omega⟩
def txMv : Mv Str → Str
  | .fin s => s
  | .go r b => numS r ++ if b then Str.ofString ">" else Str.ofString "<"
def txRoom (rm : List (Mv Str)) : Str := Str.join spS (rm.map txMv)
def txLines (L : Nat) (rooms : List (List (Mv Str))) : List Str := numS L :: rooms.map txRoom
def txText (L : Nat) (rooms : List (List (Mv Str))) : Str := Str.join nlS (txLines L rooms ++ [e0S])
def allLt (x : Str) : Bool := x.cps.toList.all fun c => decide (c < 1114112)
structure Plain (k : Nat) (x : Str) : Prop where
  len : x.length ≤ k
  sp : 32 ∉ x.cps.toList
  nl : 10 ∉ x.cps.toList
  ok : ∀ c ∈ x.cps.toList, c < 1114112
def plainB (k : Nat) (x : Str) : Bool := decide (x.length ≤ k) && !x.cps.toList.contains 32 && !x.cps.toList.contains 10 && x.cps.toList.all fun c => decide (c < 1114112)
theorem plain_of {k : Nat} {x : Str} (h : plainB k x = true) : Plain k x := by
  unfold plainB at h
  simp only [Bool.and_eq_true, decide_eq_true_eq, Bool.not_eq_true', List.all_eq_true] at h
  obtain ⟨⟨⟨h1, h2⟩, h3⟩, h4⟩ := h
  refine ⟨h1, fun m => ?_, fun m => ?_, h4⟩
  · rw [List.contains_iff_mem.mpr m] at h2; cases h2
  · rw [List.contains_iff_mem.mpr m] at h3; cases h3
theorem strOk_of {x : Str} (h : ∀ c ∈ x.cps.toList, c < 1114112) : PyData.strOk x = true := by
  unfold PyData.strOk
  rw [← Array.all_toList, List.all_eq_true]
  intro c hc
  exact decide_eq_true (h c hc)
theorem go_plain : ∀ r : Fin 12, ∀ b : Bool, plainB 3 (txMv (.go r.val b)) = true := by decide +kernel
theorem num_plain : ∀ r : Fin 12, plainB 2 (numS r.val) = true := by decide +kernel
theorem fin_plain : plainB 3 sYes = true ∧ plainB 3 sNoo = true := by decide +kernel
theorem go_fin : ∀ r : Fin 12, ∀ b : Bool, txMv (.go r.val b) ≠ sYes ∧ txMv (.go r.val b) ≠ sNoo := by decide +kernel
theorem go_inj : ∀ r r' : Fin 12, ∀ b b' : Bool, txMv (.go r.val b) = txMv (.go r'.val b') → r = r' ∧ b = b' := by decide +kernel
theorem yes_no : sYes ≠ sNoo := by decide +kernel
/-- a move of some machine -/
def AMv : Mv Str → Prop
  | .fin s => s = sYes ∨ s = sNoo
  | .go r _ => r < 12
theorem OkMv.a {n L c : Nat} {m : Mv Str} (hn : n ≤ 12) (h : OkMv n L c m) : AMv m := by
  cases m with
  | fin s => exact h
  | go r b => exact Nat.lt_of_lt_of_le h.1 hn
theorem AMv.plain {m : Mv Str} (h : AMv m) : Plain 3 (txMv m) := by
  cases m with
  | fin s =>
    rcases h with rfl | rfl
    · exact plain_of fin_plain.1
    · exact plain_of fin_plain.2
  | go r b => exact plain_of (go_plain ⟨r, h⟩ b)
theorem AMv.inj {m m' : Mv Str} (h : AMv m) (h' : AMv m') (e : txMv m = txMv m') : m = m' := by
  cases m with
  | fin s =>
    cases m' with
    | fin s' => exact congrArg Mv.fin e
    | go r b =>
      have e' : txMv (.go r b) = s := e.symm
      have := go_fin ⟨r, h'⟩ b
      rcases h with rfl | rfl
      · exact absurd e' this.1
      · exact absurd e' this.2
  | go r b =>
    cases m' with
    | fin s =>
      have e' : txMv (.go r b) = s := e
      have := go_fin ⟨r, h⟩ b
      rcases h' with rfl | rfl
      · exact absurd e' this.1
      · exact absurd e' this.2
    | go r' b' =>
      obtain ⟨e1, e2⟩ := go_inj ⟨r, h⟩ ⟨r', h'⟩ b b' e
      cases e1; cases e2; rfl
theorem k_shown_move {m : Mv Str} (h : AMv m) : m_f_shown_move [encMv m] = some (.str (txMv m)) := by
  refine mir_rt rfl ?_
  cases m with
  | fin s => simp [b_f_shown_move, startG, encMv, txMv]
  | go r b =>
    have hr : r < 12 := h
    have hp := plain_of (num_plain ⟨r, hr⟩)
    have h1 := o_num (r := r) (by omega)
    have l1 : (numS r).length ≤ 2 := hp.len
    have c1 := o_cat (a := numS r) (b := Str.ofString ">") (by rw [len_gt]; omega)
    have c2 := o_cat (a := numS r) (b := Str.ofString "<") (by rw [len_lt]; omega)
    cases b <;> simp [b_f_shown_move, startG, encMv, txMv, h1, c1, c2]
theorem tjoin (sep : Str) (xs : List Str) : Txt.join sep xs = Str.join sep xs := StrLaws.glued_eq_join sep xs
theorem join_ok {k : Nat} {sep : Str} {xs : List Str} (hs : sep.length ≤ 16) (h : ∀ x ∈ xs, x.length ≤ k) (hk : xs.length * k + xs.length ≤ 1048576) : joinOk sep xs = true := by
  unfold joinOk
  have := Tx.sum_le h
  simp only [Bool.and_eq_true, decide_eq_true_eq]
  exact ⟨hs, by omega⟩
/-- all moves of a room -/
def AllA (rm : List (Mv Str)) : Prop := ∀ m ∈ rm, AMv m
theorem OkRoom.a {n L : Nat} {rm : List (Mv Str)} (hn : n ≤ 12) (h : OkRoom n L rm) : AllA rm := fun m hm => by
  obtain ⟨k, hk, rfl⟩ := List.mem_iff_getElem.mp hm
  exact (h.mvs k hk).a hn
theorem room_tx {rm : List (Mv Str)} (h : AllA rm) : ∀ x ∈ rm.map txMv, Plain 3 x := fun x hx => by
  obtain ⟨m, hm, rfl⟩ := List.mem_map.mp hx
  exact (h m hm).plain
theorem room_len {rm : List (Mv Str)} (h : AllA rm) (hl : rm.length ≤ 5) : (txRoom rm).length ≤ 20 := by
  have := Tx.join_le (sep := spS) fun x hx => (room_tx h x hx).len
  have e : spS.length = 1 := rfl
  rw [e, List.length_map] at this
  unfold txRoom
  omega
theorem room_nl {rm : List (Mv Str)} (h : AllA rm) : 10 ∉ (txRoom rm).cps.toList := fun m => by
  rcases Tx.mem_join m with m | ⟨x, hx, m⟩
  · exact absurd m (by decide)
  · exact (room_tx h x hx).nl m
theorem room_ok {rm : List (Mv Str)} (h : AllA rm) : ∀ c ∈ (txRoom rm).cps.toList, c < 1114112 := fun c m => by
  rcases Tx.mem_join m with m | ⟨x, hx, m⟩
  · have : c = 32 := by simpa using m
    omega
  · exact (room_tx h x hx).ok c m
/-- the rooms of a machine, as the texts want them -/
structure TxM (L : Nat) (rooms : List (List (Mv Str))) : Prop where
  l3 : L ≤ 3
  r12 : rooms.length ≤ 12
  all : ∀ rm ∈ rooms, AllA rm ∧ rm.length ≤ 5
theorem OkM.tx {L : Nat} {rooms : List (List (Mv Str))} (h : OkM L rooms) : TxM L rooms := ⟨h.l3, h.r12, fun rm hm => ⟨(h.all rm hm).a h.r12, by have := (h.all rm hm).len; have := h.l3; omega⟩⟩
theorem line_plain {L : Nat} {rooms : List (List (Mv Str))} (h : TxM L rooms) : ∀ x ∈ txLines L rooms, x.length ≤ 20 ∧ 10 ∉ x.cps.toList ∧ ∀ c ∈ x.cps.toList, c < 1114112 := fun x hx => by
  have hn := plain_of (num_plain ⟨L, by have := h.l3; omega⟩)
  rcases List.mem_cons.mp hx with rfl | hx
  · exact ⟨Nat.le_trans hn.len (by decide), hn.nl, hn.ok⟩
  · obtain ⟨rm, hm, rfl⟩ := List.mem_map.mp hx
    obtain ⟨h1, h2⟩ := h.all rm hm
    exact ⟨room_len h1 h2, room_nl h1, room_ok h1⟩
theorem text_len {L : Nat} {rooms : List (List (Mv Str))} (h : TxM L rooms) : (txText L rooms).length ≤ 1000 := by
  have := Tx.join_le (k := 20) (sep := nlS) (xs := txLines L rooms ++ [e0S]) fun x hx => by
    rcases List.mem_append.mp hx with hx | hx
    · exact (line_plain h x hx).1
    · have : x = e0S := by simpa using hx
      subst this; decide
  have e : nlS.length = 1 := rfl
  have e2 : (txLines L rooms ++ [e0S]).length = rooms.length + 2 := by simp [txLines]
  rw [e, e2] at this
  have := h.r12
  unfold txText
  omega
theorem text_split {L : Nat} {rooms : List (List (Mv Str))} (h : TxM L rooms) : Txt.split (txText L rooms) nlS = txLines L rooms ++ [e0S] := Tx.split_join (by simp) fun x hx => by
  rcases List.mem_append.mp hx with hx | hx
  · exact (line_plain h x hx).2.1
  · have : x = e0S := by simpa using hx
    subst this; simp
theorem room_split {rm : List (Mv Str)} (h : AllA rm) (h0 : rm ≠ []) : Txt.split (txRoom rm) spS = rm.map txMv := Tx.split_join (by simpa using h0) fun x hx => (room_tx h x hx).sp
/-! ### shown -/
theorem parts_comp {rm : List (Mv Str)} {Γ : G} {el : G → Option B} (h : AllA rm) (hl : rm.length ≤ 5) (hel : ∀ m ∈ rm, el [.v (encMv m)] = some (.d (.str (txMv m)))) : compO (some (rm.map encMv)) [none] (gSet 0) xTrue el Γ = some ((rm.map txMv).map D.str) :=
  compO_is D.str (rm.map txMv) (by simp) (by simp; omega) fun k hk => by
    have hk' : k < rm.length := by simpa using hk
    refine ⟨[.v (encMv rm[k])], by simp [blkG], rfl, ?_⟩
    rw [hel _ (List.getElem_mem hk')]
    simp
end Py

namespace Py
open PySem L2 DD Pu
/-! ### the moves that may stand in a column -/
def mvKV (m : Mv Str) : Key × D := (.inr (txMv m), encMv m)
def goes (n : Nat) (b : Bool) : List (Mv Str) := (List.range n).map fun r => .go r b
def mvs (n : Nat) (ws : List Bool) : List (Mv Str) := [.fin sYes, .fin sNoo] ++ ws.flatMap (goes n)
def colD (n L c : Nat) : D := .dK ((mvs n (ways c L)).map fun m => (mvKV m).1) ((mvs n (ways c L)).map fun m => (mvKV m).2)
theorem k_inner {n : Nat} {b : Bool} {w : D} {M : List (Mv Str)} {s4 : S} (hn : n ≤ 12) (hM : ∀ m ∈ M, AMv m) (hb : ∀ r, Mv.go r b ∉ M) (hl : M.length ≤ 100) :
    ∃ s4', lb_f_moves_by_text_2 [.v (.int n), .v w, .ok (M.map mvKV), .v (wayD b), s4] = some (.nx [.v (.int n), .v w, .ok ((M ++ goes n b).map mvKV), .v (wayD b), s4']) := by
  obtain ⟨g, h1, s4', hg⟩ := forL_nx (t := gSet 4) (fb := lb_f_moves_by_text_1) (rangeD 0 n)
    (fun k Γ => ∃ s4, Γ = [.v (.int n), .v w, .ok ((M ++ goes k b).map mvKV), .v (wayD b), s4])
    [.v (.int n), .v w, .ok (M.map mvKV), .v (wayD b), s4] ⟨s4, by simp [goes]⟩ (by
      rintro k Γ hk ⟨s4, rfl⟩
      have hk' : k < n := by simpa using hk
      have ha : AMv (.go k b) := show k < 12 by omega
      have hs := k_shown_move ha
      have hlen : ((M ++ goes k b).map mvKV).length < 16777216 := by simp [goes]; omega
      have hp : putD ((M ++ goes k b).map mvKV) (.inr (txMv (.go k b))) (encMv (.go k b)) = (M ++ goes (k + 1) b).map mvKV := by
        rw [valD_put]
        · simp [goes, List.range_succ, mvKV]
        · intro p hp e
          obtain ⟨m, hm, rfl⟩ := List.mem_map.mp hp
          have e' : txMv m = txMv (.go k b) := Sum.inr.inj e
          rcases List.mem_append.mp hm with hm | hm
          · have := (hM m hm).inj ha e'
            subst this
            exact hb k hm
          · obtain ⟨r, hr, rfl⟩ := List.mem_map.mp hm
            have hr' : r < k := List.mem_range.mp hr
            have := AMv.inj (show AMv (.go r b) from show r < 12 by omega) ha e'
            cases this
            omega
      refine ⟨[.v (.int n), .v w, .ok ((M ++ goes k b).map mvKV), .v (wayD b), .v (.int k)], [.v (.int n), .v w, .ok ((M ++ goes (k + 1) b).map mvKV), .v (wayD b), .v (.int k)], by simp, ?_, _, rfl⟩
      have e : D.tup [.int k, wayD b] = encMv (.go k b) := id rfl
      generalize (M ++ goes (k + 1) b).map mvKV = V' at hp ⊢
      generalize (M ++ goes k b).map mvKV = V at hp hlen ⊢
      have hput : putS (.ok V) (.str (txMv (.go k b))) (encMv (.go k b)) = some (.ok V') := by
        rw [← hp]
        exact if_pos hlen
      simp [lb_f_moves_by_text_1, e, hs, hput])
  refine ⟨s4', ?_⟩
  subst hg
  rw [rangeD_len] at h1
  simp [lb_f_moves_by_text_2, r1I_nat (show n < 1000000 by omega), h1]
def endM : List (Mv Str) := [.fin sYes, .fin sNoo]
theorem ends_map : endM.map mvKV = [(.inr sYes, .str sYes), (.inr sNoo, .str sNoo)] := id rfl
theorem ends_merge : mergeD [] [(.inr sYes, D.str sYes), (.inr sNoo, D.str sNoo)] = endM.map mvKV := by
  unfold mergeD
  rw [ends_map, List.foldl_cons, List.foldl_cons, List.foldl_nil, valD_put (kvs := []) (by simp), valD_put]
  · rfl
  · intro p hp e
    have : p = (.inr sYes, .str sYes) := by simpa using hp
    subst this
    exact yes_no (Sum.inr.inj e)
theorem ends_comp {Γ : G} : compO (some [.str sYes, .str sNoo]) [none] (gSet 0) xTrue ce_f_moves_by_text_1 Γ = some [.tup [.str sYes, .str sYes], .tup [.str sNoo, .str sNoo]] := id rfl
theorem ends_pairs : pairsL [.tup [.str sYes, .str sYes], .tup [.str sNoo, .str sNoo]] = some [(.inr sYes, .str sYes), (.inr sNoo, .str sNoo)] := id rfl
theorem ends_start {n : Nat} {w : D} : newKO 2 (some [.d (.lst [.tup [.str sYes, .str sYes], .tup [.str sNoo, .str sNoo]])]) [.v (.int n), .v w, .un, .un, .un] = some (.nx [.v (.int n), .v w, .ok (endM.map mvKV), .un, .un]) := by
  rw [newKO_some, ends_pairs, Option.bind_some, ends_merge]
  exact if_pos (show (2 : Nat) ≤ 1000 by decide)
theorem ends_a : ∀ m ∈ endM, AMv m := fun m hm => by
  rcases List.mem_cons.mp hm with rfl | hm
  · exact Or.inl rfl
  · rw [List.mem_singleton.mp hm]; exact Or.inr rfl
theorem ends_go (b : Bool) (r : Nat) : Mv.go r b ∉ endM := fun hm => by
  rcases List.mem_cons.mp hm with h | hm
  · cases h
  · cases List.mem_singleton.mp hm
theorem moves_fin {n : Nat} {ws : List Bool} {M : List (Mv Str)} {s3 s4 : S} (hf : forL (gSet 3) lb_f_moves_by_text_2 (ws.map wayD) [.v (.int n), .v (.tup (ws.map wayD)), .ok (endM.map mvKV), .un, .un] = some (.nx [.v (.int n), .v (.tup (ws.map wayD)), .ok (M.map mvKV), s3, s4])) :
    b_f_moves_by_text (startG 5 [.int n, .tup (ws.map wayD)]) = some (.rt (.dK (M.map fun m => (mvKV m).1) (M.map fun m => (mvKV m).2))) := by
  have hcomp := ends_comp (Γ := [.v (.int n), .v (.tup (ws.map wayD)), .un, .un, .un])
  have e1 : (M.map mvKV).map Prod.fst = M.map fun m => (mvKV m).1 := by rw [List.map_map]; rfl
  have e2 : (M.map mvKV).map Prod.snd = M.map fun m => (mvKV m).2 := by rw [List.map_map]; rfl
  rw [← e1, ← e2]
  generalize M.map mvKV = V at hf ⊢
  simp only [b_f_moves_by_text, startG, r_sSeq, r_sNewKL, r_xCons, r_xNil, r_xL, r_xComp, r_xSeq, r_xG]
  simp [hcomp, -newKO_some]
  rw [ends_start]
  simp [hf, frzG]
theorem forL_step {t : D → G → Option G} {fb : G → Option Out} {d : D} {r : List D} {Γ g1 g2 : G} (h1 : t d Γ = some g1) (h2 : fb g1 = some (.nx g2)) : forL t fb (d :: r) Γ = forL t fb r g2 := by
  conv => lhs; unfold forL
  rw [h1, Option.bind_some, h2]
  rfl
theorem ends_len : endM.length ≤ 100 := by
  have : endM.length = 2 := rfl
  omega
theorem k_moves {n L c : Nat} (hn : n ≤ 12) : m_f_moves_by_text [.int n, .tup ((ways c L).map wayD)] = some (colD n L c) := by
  refine mir_rt rfl ?_
  unfold colD
  have one : ∀ b : Bool, b_f_moves_by_text (startG 5 [.int n, .tup ([b].map wayD)]) = some (.rt (.dK ((mvs n [b]).map fun m => (mvKV m).1) ((mvs n [b]).map fun m => (mvKV m).2))) := fun b => by
    obtain ⟨t4, h1⟩ := k_inner (n := n) (b := b) (w := .tup ([b].map wayD)) (M := endM) (s4 := .un) hn ends_a (ends_go b) ends_len
    refine moves_fin (ws := [b]) (s3 := .v (wayD b)) (s4 := t4) ?_
    have e : mvs n [b] = endM ++ goes n b := by simp [mvs, endM]
    rw [e]
    generalize endM.map mvKV = V at h1 ⊢
    generalize (endM ++ goes n b).map mvKV = V' at h1 ⊢
    simp only [List.map_cons, List.map_nil] at h1 ⊢
    rw [forL_step rfl h1]
    rfl
  by_cases h0 : c = 0
  · have : ways c L = [true] := by unfold ways; rw [if_pos h0]
    rw [this]; exact one true
  · by_cases h2 : c = L + 1
    · have : ways c L = [false] := by unfold ways; rw [if_neg h0, if_pos h2]
      rw [this]; exact one false
    · have : ways c L = [true, false] := by unfold ways; rw [if_neg h0, if_neg h2]
      rw [this]
      obtain ⟨t4, h1⟩ := k_inner (n := n) (b := true) (w := .tup ([true, false].map wayD)) (M := endM) (s4 := .un) hn ends_a (ends_go true) ends_len
      have hlen : (endM ++ goes n true).length ≤ 100 := by
        have : endM.length = 2 := rfl
        rw [List.length_append, this]
        unfold goes
        rw [List.length_map, List.length_range]
        omega
      obtain ⟨u4, h3⟩ := k_inner (n := n) (b := false) (w := .tup ([true, false].map wayD)) (M := endM ++ goes n true) (s4 := t4) hn (fun m hm => by
        rcases List.mem_append.mp hm with hm | hm
        · exact ends_a m hm
        · obtain ⟨r, hr, rfl⟩ := List.mem_map.mp hm
          exact (show r < 12 by have := List.mem_range.mp hr; omega)) (fun r hm => by
        rcases List.mem_append.mp hm with hm | hm
        · exact ends_go _ _ hm
        · obtain ⟨r', _, e⟩ := List.mem_map.mp hm
          cases e) hlen
      refine moves_fin (ws := [true, false]) (s3 := .v (wayD false)) (s4 := u4) ?_
      have e : mvs n [true, false] = endM ++ goes n true ++ goes n false := by simp [mvs, endM]
      rw [e]
      generalize endM.map mvKV = V at h1 ⊢
      generalize (endM ++ goes n true).map mvKV = V' at h1 h3
      generalize (endM ++ goes n true ++ goes n false).map mvKV = V2 at h3 ⊢
      simp only [List.map_cons, List.map_nil] at h1 h3 ⊢
      rw [forL_step rfl h1, forL_step rfl h3]
      rfl
theorem mvs_a {n : Nat} {ws : List Bool} (hn : n ≤ 12) : ∀ m ∈ mvs n ws, AMv m := fun m hm => by
  rcases List.mem_append.mp hm with hm | hm
  · simp at hm
    rcases hm with rfl | rfl
    · exact Or.inl rfl
    · exact Or.inr rfl
  · obtain ⟨b, _, hm⟩ := List.mem_flatMap.mp hm
    obtain ⟨r, hr, rfl⟩ := List.mem_map.mp hm
    exact (show r < 12 by have := List.mem_range.mp hr; omega)
theorem mvs_mem {n L c : Nat} {m : Mv Str} (h : OkMv n L c m) : m ∈ mvs n (ways c L) := by
  cases m with
  | fin s =>
    refine List.mem_append_left _ ?_
    rcases h with rfl | rfl <;> simp
  | go r b =>
    obtain ⟨h1, h2, h3⟩ := h
    have hw : b ∈ ways c L := by
      unfold ways
      by_cases q0 : c = 0
      · rw [if_pos q0, h2 q0]; simp
      · rw [if_neg q0]
        by_cases q1 : c = L + 1
        · rw [if_pos q1, h3 q1]; simp
        · rw [if_neg q1]; cases b <;> simp
    exact List.mem_append_right _ (List.mem_flatMap.mpr ⟨b, hw, List.mem_map.mpr ⟨r, List.mem_range.mpr h1, rfl⟩⟩)
theorem valD_one {κ : Type} [DecidableEq κ] : ∀ {kvs : List (κ × D)} {k : κ} {v : D}, (k, v) ∈ kvs → (∀ p ∈ kvs, p.1 = k → p.2 = v) → valD kvs k = some v
  | [], _, _, h, _ => absurd h (by simp)
  | p :: r, k, v, h, hu => by
    by_cases e : p.1 = k
    · have e1 : valD (p :: r) k = some p.2 := by simp [valD, List.find?_cons, e]
      rw [e1, hu p List.mem_cons_self e]
    · have e1 : valD (p :: r) k = valD r k := by simp [valD, List.find?_cons, e]
      rw [e1]
      rcases List.mem_cons.mp h with rfl | h
      · exact absurd rfl e
      · exact valD_one h fun q hq => hu q (List.mem_cons_of_mem _ hq)
theorem col_zip (M : List (Mv Str)) : (M.map fun m => (mvKV m).1).zip (M.map fun m => (mvKV m).2) = M.map mvKV := by
  have := zip_fs (M.map mvKV)
  rw [List.map_map, List.map_map] at this
  exact this
theorem col_val {n L c : Nat} {m : Mv Str} (hn : n ≤ 12) (h : OkMv n L c m) : valD (((mvs n (ways c L)).map fun m => (mvKV m).1).zip ((mvs n (ways c L)).map fun m => (mvKV m).2)) (.inr (txMv m)) = some (encMv m) := by
  rw [col_zip]
  refine valD_one (List.mem_map.mpr ⟨m, mvs_mem h, rfl⟩) fun p hp e => ?_
  obtain ⟨m', hm', rfl⟩ := List.mem_map.mp hp
  have := (mvs_a hn m' hm').inj (h.a hn) (Sum.inr.inj e)
  rw [this]; rfl
/-! ### read -/
theorem k_room_read {n L : Nat} {rm : List (Mv Str)} (hn : n ≤ 12) (hL : L ≤ 3) (h : OkRoom n L rm) : m_f_room_read [.str (txRoom rm), .lst ((List.range (L + 2)).map (colD n L))] = some (encRoom rm) := by
  have ha := h.a hn
  have hlen := h.len
  have h5 : rm.length ≤ 5 := by omega
  have hs := o_split (x := txRoom rm) (y := spS) rfl (by have := room_len ha h5; omega)
  rw [room_split ha (by intro e; rw [e] at hlen; simp at hlen)] at hs
  have zl : (zipD ((rm.map txMv).map D.str) ((List.range (L + 2)).map (colD n L))).length = L + 2 := by simp [hlen]
  have zg : ∀ (k : Nat) (hk : k < (zipD ((rm.map txMv).map D.str) ((List.range (L + 2)).map (colD n L))).length), (zipD ((rm.map txMv).map D.str) ((List.range (L + 2)).map (colD n L)))[k] = .tup [.str (txMv (rm[k]'(by rw [zl] at hk; omega))), colD n L k] := fun k hk => by
    rw [zl] at hk
    rw [zipD_get (by simp; omega) (by simp; omega)]
    simp
  refine mir_rt rfl ?_
  obtain ⟨ys, h1, h2, h3⟩ := compO_ex (fun (b : Bool) => D.bl b) (t := gTupD 2 (glCons (gSet 0) (glCons (gSet 1) glNil))) (cond := xTrue) (el := ce_f_room_read_1) (Γ := [.v (.str (txRoom rm)), .v (.lst ((List.range (L + 2)).map (colD n L))), .v (.lst ((rm.map txMv).map D.str))]) (ms := [none, none])
    (ds := zipD ((rm.map txMv).map D.str) ((List.range (L + 2)).map (colD n L))) (fun _ b => b = true) (by rw [zl]; omega) (by
      intro k hk
      rw [zg k hk]
      rw [zl] at hk
      have hk' : k < rm.length := by omega
      refine ⟨[.v (.str (txMv rm[k])), .v (colD n L k)], true, by simp [blkG], rfl, ?_, rfl⟩
      have hv := col_val hn (h.mvs k hk')
      simp only [ce_f_room_read_1, r_x2, r_xVar]
      unfold colD
      simp [hv])
  have hy : (bools (ys.map fun b => D.bl b)).map (fun bs => D.bl (bs.all id)) = some (.bl true) := bools_true _ (by
    intro x hx
    obtain ⟨b, hb, rfl⟩ := List.mem_map.mp hx
    obtain ⟨k, hk, rfl⟩ := List.mem_iff_getElem.mp hb
    rw [h3 k hk])
  have hr := compO_is encMv (t := gTupD 2 (glCons (gSet 0) (glCons (gSet 1) glNil))) (cond := xTrue) (el := ce_f_room_read_2) (Γ := [.v (.str (txRoom rm)), .v (.lst ((List.range (L + 2)).map (colD n L))), .v (.lst ((rm.map txMv).map D.str))]) (ms := [none, none])
    (ds := zipD ((rm.map txMv).map D.str) ((List.range (L + 2)).map (colD n L))) rm (by rw [zl, hlen]) (by rw [zl]; omega) (by
      intro k hk
      rw [zg k hk]
      rw [zl] at hk
      have hk' : k < rm.length := by omega
      refine ⟨[.v (.str (txMv rm[k])), .v (colD n L k)], by simp [blkG], rfl, ?_⟩
      have hv := col_val hn (h.mvs k hk')
      simp only [ce_f_room_read_2, r_x2, r_xVar]
      unfold colD
      simp [hv])
  have hl1 : ((rm.map txMv).map D.str).length = L + 2 := by simp [hlen]
  have hl2 : ((List.range (L + 2)).map (colD n L)).length = L + 2 := by simp
  generalize (rm.map txMv).map D.str = P at hs h1 hr hl1
  generalize (List.range (L + 2)).map (colD n L) = C at h1 hr hl2
  simp only [b_f_room_read, startG, r_sSeq, r_sSet, r_x2, r_xVar, r_xC, sp_eq]
  simp [hs, hl1, hl2, h1, hy, hr, encRoom]
theorem num_inj : ∀ r r' : Fin 12, numS r.val = numS r'.val → r = r' := by decide +kernel
theorem k_letters_read {L : Nat} (h1 : 1 ≤ L) (h3 : L ≤ 3) : m_f_letters_read [.str (numS L)] = some (.int L) := by
  have ok : ∀ r : Nat, r < 12 → OkD 0 (.str (numS r)) := fun r hr => OkD.str (strOk_of (plain_of (num_plain ⟨r, hr⟩)).ok)
  have eqn : ∀ r : Nat, r < 12 → mEq false (.d (.str (numS L))) (.d (.str (numS r))) = some (.bl (decide (L = r))) := fun r hr => by
    rw [o_eqD (ok L (by omega)) (ok r hr)]
    by_cases e : L = r
    · subst e; simp [eqv_refl]
    · have : numS L ≠ numS r := fun z => e (by have := num_inj ⟨L, by omega⟩ ⟨r, hr⟩ z; exact Fin.mk.inj this)
      simp [e, toP, PyData.eqv, this]
  have s1 : mStr [.d (.int 1)] = some (.str (numS 1)) := id rfl
  have s2 : mStr [.d (.int 2)] = some (.str (numS 2)) := id rfl
  have s3 : mStr [.d (.int 3)] = some (.str (numS 3)) := id rfl
  have er : r2O (some [.d (.int 1), .d (.int 4)]) = some [.int 1, .int 2, .int 3] := id rfl
  refine mir_rt rfl ?_
  simp only [b_f_letters_read, startG, r_sSeq, r_sFor, r_xR2, r_xCons, r_xNil, r_xC, r_x2, ap2_some, o_add, Option.map_some, consO_some]
  have e4 : (3 : Int) + 1 = 4 := rfl
  rw [e4, er, forO_some]
  have t1 := eqn 1 (by decide)
  have t2 := eqn 2 (by decide)
  have t3 := eqn 3 (by decide)
  have hL : L = 1 ∨ L = 2 ∨ L = 3 := by omega
  rcases hL with rfl | rfl | rfl <;> simp [forL, lb_f_letters_read_1, gSet, s1, s2, s3, t1, t2, t3]
theorem cut_mid {a z : D} {xs : List D} : cutD (a :: (xs ++ [z])) (some 1) (some (-1)) = xs := by
  have e1 : HT.sIx (a :: (xs ++ [z])).length 0 (some 1) = 1 := by simp [HT.sIx]
  have e2 : HT.sIx (a :: (xs ++ [z])).length (a :: (xs ++ [z])).length (some (-1)) = xs.length + 1 := by simp [HT.sIx]; omega
  unfold cutD
  rw [e1, e2]
  simp
theorem k_read {L : Nat} {rooms : List (List (Mv Str))} (h : OkM L rooms) : m_f_read [.str (txText L rooms)] = some (encM L rooms) := by
  have hx := h.tx
  have hl1 := h.l1
  have hl3 := h.l3
  have hr1 := h.r1
  have hr12 := h.r12
  have hs := o_split (x := txText L rooms) (y := nlS) rfl (by have := text_len hx; omega)
  rw [text_split hx] at hs
  have hs' : (txLines L rooms ++ [e0S]).map D.str = D.str (numS L) :: (rooms.map (fun rm => D.str (txRoom rm)) ++ [.str e0S]) := by simp [txLines]
  rw [hs'] at hs
  have hlast : atI (D.str (numS L) :: (rooms.map (fun rm => D.str (txRoom rm)) ++ [.str e0S])) (-1) = some (.str e0S) := atI_last (xs := D.str (numS L) :: rooms.map (fun rm => D.str (txRoom rm)))
  have hne : mEq true (.d (.str e0S)) (.d (.str e0S)) = some (.bl false) := o_neSame (n := 0) (OkD.str (by decide +kernel))
  have hlet := k_letters_read hl1 hl3
  have hlen : (D.str (numS L) :: (rooms.map (fun rm => D.str (txRoom rm)) ++ [.str e0S])).length = rooms.length + 2 := by simp
  have hcut := cut_mid (a := D.str (numS L)) (z := .str e0S) (xs := rooms.map (fun rm => D.str (txRoom rm)))
  generalize hP : D.str (numS L) :: (rooms.map (fun rm => D.str (txRoom rm)) ++ [.str e0S]) = P at hs hlast hlen hcut
  have h0 : P[0]? = some (.str (numS L)) := by rw [← hP]; rfl
  have hc1 := compO_is (fun d : D => d) (t := gSet 0) (cond := xTrue) (el := ce_f_read_1) (Γ := [.v (.str (txText L rooms)), .v (.lst P), .v (.int L), .v (.int rooms.length), .un]) (ms := [none, some 3, some 2]) (ds := rangeD 0 (L + 2)) ((List.range (L + 2)).map (colD rooms.length L)) (by simp) (by simp; omega) fun k hk => by
    have hk' : k < L + 2 := by simpa using hk
    refine ⟨[.v (.int k), .v (.int rooms.length), .v (.int L)], by simp [blkG], rfl, ?_⟩
    simp [ce_f_read_1, k_ways, k_moves hr12]
  have hc2 := compO_is encRoom (t := gSet 0) (cond := xTrue) (el := ce_f_read_2) (Γ := [.v (.str (txText L rooms)), .v (.lst P), .v (.int L), .v (.int rooms.length), .v (.lst ((List.range (L + 2)).map (colD rooms.length L)))]) (ms := [none, some 4]) (ds := rooms.map (fun rm => D.str (txRoom rm))) rooms (by simp) (by simp; omega) fun k hk => by
    have hk' : k < rooms.length := by simpa using hk
    refine ⟨[.v (.str (txRoom rooms[k])), .v (.lst ((List.range (L + 2)).map (colD rooms.length L)))], by simp [blkG], rfl, ?_⟩
    simp [ce_f_read_2, k_room_read hr12 hl3 (h.all _ (List.getElem_mem hk'))]
  have e2 : ((L + 2 : Nat) : Int) = (L : Int) + 2 := by omega
  have r1 := r1I_nat (n := L + 2) (by omega)
  rw [e2] at r1
  have ec : ((rooms.length + 2 : Nat) : Int) - 2 = (rooms.length : Int) := by omega
  have hch : (1 : Int) ≤ rooms.length ∧ (rooms.length : Int) ≤ 12 := by omega
  rw [List.map_id'] at hc1
  generalize (List.range (L + 2)).map (colD rooms.length L) = C at hc1 hc2
  refine mir_rt rfl ?_
  simp only [b_f_read, startG, r_sSeq, r_sIf, r_sSet, r_xNot, r_xT, r_xCall, r_xCons, r_xVar, r_xNil, r_xTy, r_x2, r_xC, nl_eq, e0_eq]
  have h0' : P[0]'(by omega) = .str (numS L) := by
    have := h0
    rw [List.getElem?_eq_getElem (by omega)] at this
    exact Option.some.inj this
  simp [hs, hlast, hne, h0, h0', hlet, hlen, ec, r1]
  rw [ch3_le (k := 12) (by simp)]
  simp [hch.1, hch.2, hc1, r1, slB, hcut, hc2, encM]
end Py

namespace Py
open PySem L2 DD Pu
/-! ### tame texts -/
structure Tame (x : Str) : Prop where
  len : x.length ≤ 10000
  asc : ∀ c ∈ x.cps.toList, c < 128
theorem Tame.ok {x : Str} (h : Tame x) : PyData.strOk x = true := strOk_of fun c m => by have := h.asc c m; omega
theorem Tame.okD {n : Nat} {x : Str} (h : Tame x) : OkD n (.str x) := OkD.str h.ok
theorem Tame.sz {x : Str} (h : Tame x) : x.length ≤ sizeLine := Nat.le_trans h.len (show 10000 ≤ 16777216 by omega)
theorem Tame.slice {x : Str} {lo hi : Option Int} (h : Tame x) : Tame (Txt.slice x lo hi) := ⟨Nat.le_trans (Txt.slice_le x lo hi) h.len, fun c m => h.asc c (Tx.slice_sub m)⟩
theorem Tame.part {x sep p : Str} (h : Tame x) (hp : p ∈ Txt.split x sep) : Tame p := ⟨Nat.le_trans (PyProof.Rows.part_short hp) h.len, fun c m => h.asc c (Tx.split_sub hp m)⟩
def tameB (x : Str) : Bool := decide (x.length ≤ 10000) && x.cps.toList.all fun c => decide (c < 128)
theorem tame_of {x : Str} (h : tameB x = true) : Tame x := by
  unfold tameB at h
  simp only [Bool.and_eq_true, decide_eq_true_eq, List.all_eq_true] at h
  exact ⟨h.1, h.2⟩
theorem tame_e0 : Tame e0S := tame_of (by decide +kernel)
theorem tame_one {c : Nat} (h : c < 128) : Tame ⟨#[c]⟩ := ⟨by show 1 ≤ 10000; omega, fun d m => by
  have e : d = c := by simpa using m
  rw [e]; exact h⟩
theorem eqS {neg : Bool} {x y : Str} (hx : Tame x) (hy : Tame y) : mEq neg (.d (.str x)) (.d (.str y)) = some (.bl (if neg then !decide (x = y) else decide (x = y))) := by
  rw [o_eqD (n := 0) hx.okD hy.okD]
  by_cases e : x = y
  · subst e; simp [eqv_refl]
  · have : PyData.eqv (toP (.str x)) (toP (.str y)) = false := by
      rw [toP, toP, PyData.eqv]
      simp [e]
    rw [this]; simp [e]
theorem any_eqv {x : Str} : ∀ ys : List Str, ((ys.map D.str).any fun d => PyData.eqv (toP d) (toP (.str x))) = decide (x ∈ ys)
  | [] => by simp
  | y :: r => by
    rw [List.map_cons, List.any_cons, any_eqv r]
    by_cases e : x = y
    · subst e; simp [eqv_refl]
    · have : PyData.eqv (toP (.str y)) (toP (.str x)) = false := by
        rw [toP, toP, PyData.eqv]
        simp [Ne.symm e]
      simp [this, e]
theorem inS {neg : Bool} {x : Str} {ys : List Str} {b : B} (hb : b.seq = some (ys.map D.str)) (hx : Tame x) (hy : ∀ y ∈ ys, Tame y) : mIn neg (.d (.str x)) b = some (.bl (if neg then !decide (x ∈ ys) else decide (x ∈ ys))) := by
  rw [o_in (n := 0) hx.okD hb (by
    intro d hd
    obtain ⟨y, hy', rfl⟩ := List.mem_map.mp hd
    exact (hy y hy').okD), any_eqv]
/-! ### a move, read by the law -/
def dig (c : Nat) : Bool := decide (48 ≤ c) && decide (c ≤ 57)
def okFig : List Nat → Bool
  | [a] => dig a
  | [a, b] => dig a && dig b && !decide (a = 48)
  | _ => false
def figVal : List Nat → Nat
  | [a] => a - 48
  | [a, b] => (a - 48) * 10 + (b - 48)
  | _ => 0
def pmGo (l : List Nat) : Option (Mv Str) := match l.reverse with
  | [] => none
  | c :: r => if (c = 60 ∨ c = 62) ∧ okFig r.reverse = true then some (.go (figVal r.reverse) (decide (c = 62))) else none
def pm0 (p : Str) : Option (Mv Str) := if p = sYes ∨ p = sNoo then some (.fin p) else pmGo p.cps.toList
theorem fig1 : ∀ a : Fin 10, numS a.val = ⟨#[48 + a.val]⟩ ∧ PySem.intText? ⟨#[48 + a.val]⟩ = some (a.val : Int) := by decide +kernel
theorem fig2 : ∀ a b : Fin 10, a ≠ 0 → numS (a.val * 10 + b.val) = ⟨#[48 + a.val, 48 + b.val]⟩ ∧ PySem.intText? ⟨#[48 + a.val, 48 + b.val]⟩ = some ((a.val * 10 + b.val : Nat) : Int) := by decide +kernel
theorem fig_num {f : List Nat} (h : okFig f = true) : numS (figVal f) = ⟨f.toArray⟩ ∧ PySem.intText? ⟨f.toArray⟩ = some ((figVal f : Nat) : Int) := by
  match f, h with
  | [a], h =>
    unfold okFig dig at h
    simp only [Bool.and_eq_true, decide_eq_true_eq] at h
    have := fig1 ⟨a - 48, by omega⟩
    have e : 48 + (a - 48) = a := by omega
    simp only [e] at this
    exact this
  | [a, b], h =>
    unfold okFig dig at h
    simp only [Bool.and_eq_true, decide_eq_true_eq, Bool.not_eq_true', decide_eq_false_iff_not] at h
    obtain ⟨⟨⟨h1, h2⟩, h3, h4⟩, h5⟩ := h
    have := fig2 ⟨a - 48, by omega⟩ ⟨b - 48, by omega⟩ (by intro z; have z' := congrArg Fin.val z; simp at z'; omega)
    have e : 48 + (a - 48) = a := by omega
    have e2 : 48 + (b - 48) = b := by omega
    simp only [e, e2] at this
    exact this
theorem gt_eq : Str.ofString ">" = ⟨#[62]⟩ := by decide +kernel
theorem lt_eq : Str.ofString "<" = ⟨#[60]⟩ := by decide +kernel
def isGo (o : Option (Mv Str)) (r : Nat) (b : Bool) : Bool := match o with
  | some (.go r' b') => decide (r' = r) && decide (b' = b)
  | _ => false
theorem isGo_eq {o : Option (Mv Str)} {r : Nat} {b : Bool} (h : isGo o r b = true) : o = some (.go r b) := by
  match o, h with
  | some (.go r' b'), h =>
    unfold isGo at h
    simp only [Bool.and_eq_true, decide_eq_true_eq] at h
    rw [h.1, h.2]
theorem go_back : ∀ r : Fin 12, ∀ b : Bool, isGo (pmGo (txMv (.go r.val b)).cps.toList) r.val b = true := by decide +kernel
theorem pm0_tx {m : Mv Str} (h : AMv m) : pm0 (txMv m) = some m := by
  cases m with
  | fin s => exact if_pos h
  | go r b =>
    have hr : r < 12 := h
    have h1 := go_fin ⟨r, hr⟩ b
    unfold pm0
    rw [if_neg (fun z => z.elim h1.1 h1.2)]
    exact isGo_eq (go_back ⟨r, hr⟩ b)
theorem pm0_back {p : Str} {m : Mv Str} (h : pm0 p = some m) : p = txMv m := by
  unfold pm0 at h
  split at h
  · cases h; rfl
  · unfold pmGo at h
    split at h
    · cases h
    · rename_i c r hr
      split at h
      · rename_i hc
        cases h
        obtain ⟨h1, h2⟩ := hc
        have hl : p.cps.toList = r.reverse ++ [c] := by
          have := congrArg List.reverse hr
          simpa using this
        have hf := (fig_num h2).1
        refine Tx.ext ?_
        show _ = (numS (figVal r.reverse) ++ if decide (c = 62) = true then Str.ofString ">" else Str.ofString "<").cps.toList
        rw [hl, Tx.app, hf]
        rcases h1 with rfl | rfl
        · rw [lt_eq]; simp
        · rw [gt_eq]; simp
      · cases h
end Py

namespace Py
open PySem L2 DD Pu
theorem dig_in : ∀ c : Fin 128, (Builtin.Str.occurrences (Str.ofString "0123456789") ⟨#[c.val]⟩ 0 (Str.ofString "0123456789").length 1).isEmpty = !dig c.val := by decide +kernel
theorem compL_filter {t : D → G → Option G} {cond : G → Option Bool} {el : G → Option B} {Γ : G} (p : D → Bool) : ∀ ds : List D, (∀ d ∈ ds, ∃ g, t d Γ = some g ∧ cond g = some (p d) ∧ el g = some (.d d)) → compL t cond el Γ ds = some (ds.filter p)
  | [], _ => rfl
  | d :: r, h => by
    obtain ⟨g, h1, h2, h3⟩ := h d List.mem_cons_self
    have ih := compL_filter (t := t) (cond := cond) (el := el) (Γ := Γ) p r fun x hx => h x (List.mem_cons_of_mem _ hx)
    unfold compL
    rw [h1, Option.bind_some, h2, Option.bind_some]
    by_cases e : p d = true
    · rw [if_pos e, h3, Option.bind_some, r_asD, Option.bind_some, ih, List.filter_cons_of_pos e]; rfl
    · rw [if_neg e, ih, List.filter_cons_of_neg e]
def nondig (f : List Nat) : List Nat := f.filter fun c => !dig c
theorem q_nondig {f : List Nat} {Γ : G} (hl : f.length ≤ 10000) (ha : ∀ c ∈ f, c < 128) : compO (some (charsD ⟨f.toArray⟩)) [none] (gSet 0) cc_f_law_read_move_1 ce_f_law_read_move_1 Γ = some ((nondig f).map fun c => D.str ⟨#[c]⟩) := by
  have hlen : (charsD ⟨f.toArray⟩).length ≤ sizeLine := by
    show (List.map _ _).length ≤ 16777216
    simp; omega
  unfold compO
  rw [Option.bind_some, if_pos hlen]
  have key := compL_filter (t := gSet 0) (cond := cc_f_law_read_move_1) (el := ce_f_law_read_move_1) (Γ := blkG [none] Γ) (fun d => match d with | .str x => !dig (x.cps.toList.headD 0) | _ => false) (charsD ⟨f.toArray⟩) (by
    intro d hd
    obtain ⟨c, hc, rfl⟩ := List.mem_map.mp hd
    have hc' : c < 128 := ha c (by simpa using hc)
    refine ⟨[.v (.str ⟨#[c]⟩)], by simp [blkG], ?_, by simp [ce_f_law_read_move_1]⟩
    have := dig_in ⟨c, hc'⟩
    simp only [cc_f_law_read_move_1, r_xT, r_x2, r_xC, r_xVar]
    simp [this])
  have e : charsD ⟨f.toArray⟩ = f.map fun c => D.str ⟨#[c]⟩ := by unfold charsD; simp
  rw [key, e, List.filter_map]
  rfl
theorem lst_ne {zs : List Nat} (hz : ∀ c ∈ zs, c < 128) : mEq true (.d (.lst (zs.map fun c => D.str ⟨#[c]⟩))) (.d (.lst [])) = some (.bl (!decide (zs = []))) := by
  rw [o_eqD (n := 1) (OkD.lst (by
    intro d hd
    obtain ⟨c, hc, rfl⟩ := List.mem_map.mp hd
    exact (tame_one (hz c hc)).okD)) (OkD.lst (by simp))]
  cases zs <;> simp [toP, toPs, PyData.eqv, PyData.eqvAll]
/-! the law's reading of one move -/
def wayS (b : Bool) : Str := if b then ⟨#[62]⟩ else ⟨#[60]⟩
def outMv (n : Nat) (ws : List Bool) : Option (Mv Str) → D
  | none => .non
  | some (.fin s) => .str s
  | some (.go r b) => if r < n ∧ b ∈ ws then encMv (.go r b) else .non
theorem wayS_tame {b : Bool} : Tame (wayS b) := by cases b <;> exact tame_one (by decide)
theorem wayS_mem {b : Bool} {ws : List Bool} : wayS b ∈ ws.map wayS ↔ b ∈ ws := by
  constructor
  · intro h
    obtain ⟨b', hb', e⟩ := List.mem_map.mp h
    have : b' = b := by
      cases b <;> cases b' <;> first | rfl | (exfalso; revert e; decide)
    rw [← this]; exact hb'
  · intro h
    exact List.mem_map.mpr ⟨b, h, rfl⟩
theorem q_read_move {p : Str} {n : Nat} {ws : List Bool} (hp : Tame p) : m_f_law_read_move [.str p, .int n, .lst ((ws.map wayS).map D.str)] = some (outMv n ws (pm0 p)) := by
  refine mir_rt rfl ?_
  have tY : Tame sYes := tame_of (by decide +kernel)
  have tN : Tame sNoo := tame_of (by decide +kernel)
  have h1 := inS (neg := false) (x := p) (ys := [sYes, sNoo]) (b := .d (.tup [.str sYes, .str sNoo])) rfl hp (by
    intro y hy
    simp at hy
    rcases hy with rfl | rfl
    · exact tY
    · exact tN)
  have s1 := o_slS (z := p) (lo := none) (hi := some (-1)) hp.sz
  have s2 := o_slS (z := p) (lo := some (-1)) (hi := none) hp.sz
  by_cases hy : p = sYes ∨ p = sNoo
  · have : p ∈ [sYes, sNoo] := by simpa using hy
    have e : pm0 p = some (.fin p) := if_pos hy
    rw [e]
    simp only [b_f_law_read_move, startG, r_sSeq, r_sIf, r_xT, r_x2, r_xVar, r_xTup, r_xCons, r_xC, r_xNil]
    simp [h1, this, outMv]
  · have hny : ¬ p ∈ [sYes, sNoo] := by simpa using hy
    have e0 : pm0 p = pmGo p.cps.toList := if_neg hy
    rw [e0]
    have t60 : Tame (Str.ofString "<") := tame_of (by decide +kernel)
    have t62 : Tame (Str.ofString ">") := tame_of (by decide +kernel)
    have tz : Tame (Str.ofString "0") := tame_of (by decide +kernel)
    have te : Tame (Str.ofString "") := tame_of (by decide +kernel)
    have h2 := inS (neg := true) (x := Txt.slice p (some (-1)) none) (ys := [Str.ofString "<", Str.ofString ">"]) (b := .d (.tup [.str (Str.ofString "<"), .str (Str.ofString ">")])) rfl hp.slice (by
      intro y hy
      simp at hy
      rcases hy with rfl | rfl
      · exact t60
      · exact t62)
    have r1 := List.eq_nil_or_concat p.cps.toList
    obtain ⟨W, hW⟩ : ∃ W, W = (ws.map wayS).map D.str := ⟨_, rfl⟩
    rw [← hW]
    rcases r1 with hnil | ⟨f, c, hfc⟩
    · have hpe : p = e0S := Tx.ext (by rw [hnil])
      have e2 : Txt.slice p (some (-1)) none = e0S := by rw [hpe]; exact Tx.slice_e0
      have e3 : pmGo p.cps.toList = none := by rw [hnil]; rfl
      rw [e2] at s2 h2
      have hno : ¬ e0S ∈ [Str.ofString "<", Str.ofString ">"] := by decide +kernel
      rw [e3]
      simp only [b_f_law_read_move, startG, r_sSeq, r_sIf, r_xT, r_x2, r_xVar, r_xTup, r_xCons, r_xC, r_xNil]
      simp [h1, hny, hy, s1, s2, h2, hno, outMv]
    · have hfc' : p.cps.toList = f ++ [c] := by simpa using hfc
      have e1 : Txt.slice p none (some (-1)) = ⟨f.toArray⟩ := Tx.slice_init hfc'
      have e2 : Txt.slice p (some (-1)) none = ⟨#[c]⟩ := Tx.slice_last hfc'
      have hlf : f.length + 1 ≤ 10000 := by
        have := hp.len
        rw [← Tx.len_toList, hfc'] at this
        simpa using this
      have hcl : c < 128 := hp.asc c (by rw [hfc']; simp)
      have hfl : ∀ d ∈ f, d < 128 := fun d hd => hp.asc d (by rw [hfc']; simp [hd])
      have tf0 : Tame ⟨f.toArray⟩ := ⟨by show f.toArray.size ≤ 10000; simp; omega, fun d m => hfl d (by simpa using m)⟩
      obtain ⟨Fs, hFs⟩ : ∃ Fs : Str, Fs = ⟨f.toArray⟩ := ⟨_, rfl⟩
      have tf : Tame Fs := by rw [hFs]; exact tf0
      rw [e1, ← hFs] at s1
      rw [e2] at s2 h2
      have hE := eqS (neg := false) (x := Fs) (y := Str.ofString "") tf te
      have hEe : (decide (Fs = Str.ofString "")) = decide (f = []) := by
        rw [e0_eq, hFs]
        by_cases z : f = []
        · subst z; simp
        · have : ¬ ((⟨f.toArray⟩ : Str) = e0S) := fun w => z (by have := congrArg (fun s : Str => s.cps.toList) w; simpa using this)
          simp [z, this]
      rw [if_neg (by decide), hEe] at hE
      have hL := o_lenS (z := Fs) tf.sz
      have hLe : Fs.length = f.length := by rw [hFs]; show f.toArray.size = _; simp
      rw [hLe] at hL
      have hmem : (⟨#[c]⟩ : Str) ∈ [Str.ofString "<", Str.ofString ">"] ↔ c = 60 ∨ c = 62 := by
        rw [lt_eq, gt_eq]; simp
      have hpm : pmGo p.cps.toList = if (c = 60 ∨ c = 62) ∧ okFig f = true then some (.go (figVal f) (decide (c = 62))) else none := by
        rw [hfc']
        unfold pmGo
        simp
      rw [hpm]
      by_cases hc : c = 60 ∨ c = 62
      · have hm := hmem.mpr hc
        by_cases hf0 : f = []
        · rw [if_neg (by rw [hf0]; intro z; cases z.2)]
          simp only [b_f_law_read_move, startG, r_sSeq, r_sIf, r_xT, r_x2, r_xVar, r_xTup, r_xCons, r_xC, r_xNil]
          simp [h1, hny, hy, s1, s2, h2, hm, hE, hf0, outMv]
        · by_cases hf2 : f.length > 2
          · rw [if_neg (by
              intro z
              match f, hf2, z.2 with
              | a :: b :: c :: r, _, z => cases z)]
            have hf2' : (2 : Int) < (f.length : Int) := by omega
            simp only [b_f_law_read_move, startG, r_sSeq, r_sIf, r_xT, r_x2, r_xVar, r_xTup, r_xCons, r_xC, r_xNil]
            simp [h1, hny, hy, s1, s2, h2, hm, hE, hf0, hL, hf2', outMv]
          · have hf2' : ¬ ((2 : Int) < (f.length : Int)) := by omega
            have hch : charsO (some (.d (.str Fs))) = some (charsD Fs) := charsO_some (by rw [hFs]; simpa using hfl)
            have hnd := q_nondig (Γ := [.v (.str p), .v (.int n), .v (.lst W), .v (.str Fs)]) (f := f) (by omega) hfl
            rw [← hFs] at hnd
            have hne := lst_ne (zs := nondig f) (fun d hd => hfl d (List.mem_filter.mp hd).1)
            by_cases hd : nondig f = []
            · rw [hd] at hnd hne
              simp only [List.map_nil] at hnd hne
              obtain ⟨a, r, hfa⟩ : ∃ a r, f = a :: r := by
                cases f with
                | nil => exact absurd rfl hf0
                | cons a r => exact ⟨a, r, rfl⟩
              have hix := o_ixS (z := Fs) (i := 0) tf.sz
              have hix' : (atI Fs.cps.toList 0) = some a := by rw [hFs, atI_0]; simp [hfa]
              rw [hix', Option.map_some] at hix
              have ha : a < 128 := hfl a (by rw [hfa]; simp)
              have hz1 := eqS (neg := false) (x := ⟨#[a]⟩) (y := Str.ofString "0") (tame_one ha) tz
              have hz2 := eqS (neg := true) (x := Fs) (y := Str.ofString "0") tf tz
              have zeq : Str.ofString "0" = ⟨#[48]⟩ := by decide +kernel
              have hq1 : decide ((⟨#[a]⟩ : Str) = Str.ofString "0") = decide (a = 48) := by rw [zeq]; simp
              have hq2 : decide (Fs = Str.ofString "0") = decide (f = [48]) := by
                rw [zeq, hFs]
                by_cases z : f = [48]
                · subst z; simp
                · have : ¬ ((⟨f.toArray⟩ : Str) = ⟨#[48]⟩) := fun w => z (by have := congrArg (fun s : Str => s.cps.toList) w; simpa using this)
                  simp [z, this]
              rw [if_neg (by decide), hq1] at hz1
              rw [if_pos rfl, hq2] at hz2
              have hall : ∀ d ∈ f, dig d = true := fun d hd' => by
                cases hdd : dig d with
                | true => rfl
                | false =>
                  have : d ∈ nondig f := List.mem_filter.mpr ⟨hd', by simp [hdd]⟩
                  rw [hd] at this; cases this
              by_cases hlead : a = 48 ∧ f ≠ [48]
              · rw [if_neg (by
                  intro z
                  obtain ⟨z1, z2⟩ := hlead
                  match f, hfa, z.2, z2 with
                  | [x], hfa, _, z2 => exact z2 (by rw [(List.cons.inj hfa).1, z1])
                  | [x, y], hfa, z, _ =>
                    have hxa : x = a := (List.cons.inj hfa).1
                    unfold okFig at z
                    simp [hxa, z1] at z)]
                obtain ⟨ha48, hf48⟩ := hlead
                rw [ha48] at hix hz1
                simp only [b_f_law_read_move, startG, r_sSeq, r_sIf, r_xT, r_x2, r_xVar, r_xTup, r_xCons, r_xC, r_xNil]
                simp [h1, hny, hy, s1, s2, h2, hm, hE, hf0, hL, hf2', outMv, hch, hnd, hne, hd, hix, hz1, hz2, hf48]
              · have hok : okFig f = true := by
                  match f, hfa, hall, hf2, hlead with
                  | [x], _, hall, _, _ => exact hall x (by simp)
                  | [x, y], hfa, hall, _, hlead =>
                    have hxa : x = a := (List.cons.inj hfa).1
                    have h1 := hall x (by simp)
                    have h2 := hall y (by simp)
                    have h3 : x ≠ 48 := fun z => hlead ⟨by rw [← hxa]; exact z, by simp⟩
                    unfold okFig
                    simp [h1, h2, h3]
                  | x :: y :: z :: r, _, _, hf2, _ => exact absurd hf2 (by simp)
                rw [if_pos ⟨hc, hok⟩]
                have hint := o_intS (x := Fs) (by rw [hLe]; omega)
                rw [show PySem.intText? Fs = some ((figVal f : Nat) : Int) by rw [hFs]; exact (fig_num hok).2, Option.map_some] at hint
                have hw := inS (neg := true) (x := ⟨#[c]⟩) (ys := ws.map wayS) (b := .d (.lst W)) (by rw [hW]; rfl) (tame_one hcl) (by
                  intro y hy'
                  obtain ⟨b, _, rfl⟩ := List.mem_map.mp hy'
                  exact wayS_tame)
                have hcw : (⟨#[c]⟩ : Str) = wayS (decide (c = 62)) := by rcases hc with rfl | rfl <;> rfl
                have hwm : ((⟨#[c]⟩ : Str) ∈ ws.map wayS) ↔ decide (c = 62) ∈ ws := by rw [hcw]; exact wayS_mem
                have hwd : decide ((⟨#[c]⟩ : Str) ∈ ws.map wayS) = decide (decide (c = 62) ∈ ws) := decide_eq_decide.mpr hwm
                rw [hwd] at hw
                have hg := eqS (neg := false) (x := ⟨#[c]⟩) (y := Str.ofString ">") (tame_one hcl) t62
                have hgq : decide ((⟨#[c]⟩ : Str) = Str.ofString ">") = decide (c = 62) := by rw [gt_eq]; simp
                rw [if_neg (by decide), hgq] at hg
                have hl0 : ¬ (a = 48 ∧ ¬ f = [48]) := hlead
                have hor : ∀ g : G → Option Bool, (xAnd (xT (x2 (mEq false) (x2 mIxS (xVar 3) (xC (.int 0))) (xC (.str "0")))) (xT (x2 (mEq true) (xVar 3) (xC (.str "0"))))) [.v (.str p), .v (.int n), .v (.lst W), .v (.str Fs)] = some false := fun g => by
                  simp only [r_xAnd, r_xT, r_x2, r_xVar, r_xC]
                  by_cases z : a = 48
                  · have z2 : f = [48] := by
                      by_cases q : f = [48]
                      · exact q
                      · exact absurd ⟨z, q⟩ hl0
                    rw [z] at hix hz1
                    simp [hix, hz1, hz2, z2]
                  · simp [hix, hz1, z]
                have hor' := hor fun _ => none
                by_cases hrn : figVal f < n
                · have hrn' : ¬ ((n : Int) ≤ (figVal f : Int)) := by omega
                  by_cases hbw : decide (c = 62) ∈ ws
                  · have ho : outMv n ws (some (.go (figVal f) (decide (c = 62)))) = encMv (.go (figVal f) (decide (c = 62))) := if_pos ⟨hrn, hbw⟩
                    rw [ho]
                    simp only [b_f_law_read_move, startG, r_sSeq, r_sIf, r_xOr, r_xT, r_x2, r_xVar, r_xTup, r_xCons, r_xC, r_xNil]
                    simp [h1, hny, hy, s1, s2, h2, hm, hE, hf0, hL, hf2', hch, hnd, hne, hd, -r_xAnd, hor', hint, hrn', hw, hbw, hg]
                    by_cases z : c = 62 <;> simp [z, encMv]
                  · have ho : outMv n ws (some (.go (figVal f) (decide (c = 62)))) = .non := if_neg fun z => hbw z.2
                    rw [ho]
                    simp only [b_f_law_read_move, startG, r_sSeq, r_sIf, r_xOr, r_xT, r_x2, r_xVar, r_xTup, r_xCons, r_xC, r_xNil]
                    simp [h1, hny, hy, s1, s2, h2, hm, hE, hf0, hL, hf2', hch, hnd, hne, hd, -r_xAnd, hor', hint, hrn', hw, hbw]
                · have hrn' : (n : Int) ≤ (figVal f : Int) := by omega
                  have ho : outMv n ws (some (.go (figVal f) (decide (c = 62)))) = .non := if_neg fun z => hrn z.1
                  rw [ho]
                  simp only [b_f_law_read_move, startG, r_sSeq, r_sIf, r_xOr, r_xT, r_x2, r_xVar, r_xTup, r_xCons, r_xC, r_xNil]
                  simp [h1, hny, hy, s1, s2, h2, hm, hE, hf0, hL, hf2', hch, hnd, hne, hd, -r_xAnd, hor', hint, hrn']
            · rw [if_neg (by
                intro z
                have hall : ∀ d ∈ f, dig d = true := by
                  match f, z.2 with
                  | [x], z => intro d hd'; simp at hd'; rw [hd']; exact z
                  | [x, y], z =>
                    unfold okFig at z
                    simp only [Bool.and_eq_true] at z
                    intro d hd'
                    simp at hd'
                    rcases hd' with rfl | rfl
                    · exact z.1.1
                    · exact z.1.2
                refine hd (List.filter_eq_nil_iff.mpr fun d hd' => ?_)
                simp [hall d hd'])]
              simp only [b_f_law_read_move, startG, r_sSeq, r_sIf, r_xT, r_x2, r_xVar, r_xTup, r_xCons, r_xC, r_xNil]
              simp [h1, hny, hy, s1, s2, h2, hm, hE, hf0, hL, hf2', outMv, hch, hnd, hne, hd]
      · have hm : ¬ (⟨#[c]⟩ : Str) ∈ [Str.ofString "<", Str.ofString ">"] := fun z => hc (hmem.mp z)
        rw [if_neg (fun z => hc z.1)]
        simp only [b_f_law_read_move, startG, r_sSeq, r_sIf, r_xT, r_x2, r_xVar, r_xTup, r_xCons, r_xC, r_xNil]
        simp [h1, hny, hy, s1, s2, h2, hm, outMv]
end Py

namespace Py
open PySem L2 DD Pu
/-! ### which part may stand where -/
def okAt (n L c : Nat) (p : Str) : Option (Mv Str) := match pm0 p with
  | none => none
  | some (.fin s) => some (.fin s)
  | some (.go r b) => if r < n ∧ b ∈ ways c L then some (.go r b) else none
theorem ways_iff {c L : Nat} {b : Bool} : b ∈ ways c L ↔ (c = 0 → b = true) ∧ (c = L + 1 → b = false) := by
  unfold ways
  by_cases h0 : c = 0
  · rw [if_pos h0]
    have h1 : ¬ c = L + 1 := by omega
    simp [h0]
  · rw [if_neg h0]
    by_cases h1 : c = L + 1
    · rw [if_pos h1]
      simp [h1]
    · rw [if_neg h1]
      cases b <;> simp [h0, h1]
theorem okAt_some {n L c : Nat} {p : Str} {m : Mv Str} (h : okAt n L c p = some m) : OkMv n L c m ∧ p = txMv m := by
  unfold okAt at h
  cases hp : pm0 p with
  | none => rw [hp] at h; cases h
  | some m' =>
    rw [hp] at h
    have hb := pm0_back hp
    cases m' with
    | fin s =>
      cases h
      refine ⟨?_, hb⟩
      unfold pm0 at hp
      split at hp
      · rename_i z; cases hp; exact z
      · unfold pmGo at hp
        split at hp
        · cases hp
        · split at hp <;> cases hp
    | go r b =>
      simp only at h
      split at h
      · rename_i z
        cases h
        exact ⟨⟨z.1, ways_iff.mp z.2⟩, hb⟩
      · cases h
theorem okAt_tx {n L c : Nat} {m : Mv Str} (hn : n ≤ 12) (h : OkMv n L c m) : okAt n L c (txMv m) = some m := by
  unfold okAt
  rw [pm0_tx (h.a hn)]
  cases m with
  | fin s => rfl
  | go r b => exact if_pos ⟨h.1, ways_iff.mpr h.2⟩
theorem col_none {n L c : Nat} {p : Str} (hn : n ≤ 12) (h : okAt n L c p = none) : valD (((mvs n (ways c L)).map fun m => (mvKV m).1).zip ((mvs n (ways c L)).map fun m => (mvKV m).2)) (.inr p) = none := by
  rw [col_zip]
  cases hv : valD ((mvs n (ways c L)).map mvKV) (.inr p) with
  | none => rfl
  | some v =>
    obtain ⟨m, hm, e⟩ := List.mem_map.mp (valD_mem hv)
    have ep : txMv m = p := Sum.inr.inj (congrArg Prod.fst e)
    have ok : OkMv n L c m := by
      rcases List.mem_append.mp hm with hm | hm
      · simp at hm
        rcases hm with rfl | rfl
        · exact Or.inl rfl
        · exact Or.inr rfl
      · obtain ⟨b, hb, hm⟩ := List.mem_flatMap.mp hm
        obtain ⟨r, hr, rfl⟩ := List.mem_map.mp hm
        exact ⟨List.mem_range.mp hr, ways_iff.mp hb⟩
    have := okAt_tx hn ok
    rw [ep, h] at this
    cases this
/-- a line of a room: right, of another length, or with a part that is no move there -/
theorem room_case {n L : Nat} (line : Str) : (∃ rm, OkRoom n L rm ∧ line = txRoom rm ∧ Txt.split line spS = rm.map txMv) ∨ (Txt.split line spS).length ≠ L + 2 ∨ ((Txt.split line spS).length = L + 2 ∧ ∃ (k : Nat) (h : k < (Txt.split line spS).length), okAt n L k (Txt.split line spS)[k] = none) := by
  have hj := StrLaws.join_split line spS
  generalize Txt.split line spS = ps at hj
  by_cases hl : ps.length = L + 2
  · by_cases hk : ∃ (k : Nat) (h : k < ps.length), okAt n L k ps[k] = none
    · exact .inr (.inr ⟨hl, hk⟩)
    · refine .inl ⟨(List.range ps.length).map fun k => (okAt n L k (ps.getD k e0S)).getD (.fin sYes), ?_⟩
      have key : ∀ k (h : k < ps.length), ∃ m, okAt n L k ps[k] = some m := fun k h => by
        cases z : okAt n L k ps[k] with
        | none => exact absurd ⟨k, h, z⟩ hk
        | some m => exact ⟨m, rfl⟩
      have get : ∀ k (h : k < ps.length), (okAt n L k (ps.getD k e0S)).getD (.fin sYes) = ((okAt n L k ps[k]).getD (.fin sYes)) := fun k h => by
        rw [List.getD_eq_getElem?_getD, List.getElem?_eq_getElem h]; rfl
      have e : ((List.range ps.length).map fun k => (okAt n L k (ps.getD k e0S)).getD (.fin sYes)).map txMv = ps := by
        refine List.ext_getElem (by simp) fun k h1 h2 => ?_
        simp only [List.getElem_map, List.getElem_range]
        rw [get k h2]
        obtain ⟨m, hm⟩ := key k h2
        rw [hm]
        exact (okAt_some hm).2.symm
      refine ⟨⟨by simp [hl], fun c hc => ?_⟩, ?_, e.symm⟩
      · have hc' : c < ps.length := by simpa using hc
        simp only [List.getElem_map, List.getElem_range]
        rw [get c hc']
        obtain ⟨m, hm⟩ := key c hc'
        rw [hm]
        exact (okAt_some hm).1
      · unfold txRoom
        rw [e]; exact hj.symm
  · exact .inr (.inl hl)
theorem no_room {n L : Nat} {line : Str} (hn : n ≤ 12) (h : (Txt.split line spS).length ≠ L + 2 ∨ ((Txt.split line spS).length = L + 2 ∧ ∃ (k : Nat) (h : k < (Txt.split line spS).length), okAt n L k (Txt.split line spS)[k] = none)) : ¬ ∃ rm, OkRoom n L rm ∧ line = txRoom rm := by
  rintro ⟨rm, ok, rfl⟩
  have hs := room_split (ok.a hn) (by intro e; have := ok.len; rw [e] at this; simp at this)
  rw [hs] at h
  rcases h with h | ⟨_, k, hk, h⟩
  · exact h (by simp [ok.len])
  · have hk' : k < rm.length := by simpa using hk
    have := okAt_tx hn (ok.mvs k hk')
    simp only [List.getElem_map] at h
    rw [this] at h; cases h
/-! ### the program's reading of a room: refused -/
theorem col_isSome {n L c : Nat} {p : Str} (hn : n ≤ 12) : (valD (((mvs n (ways c L)).map fun m => (mvKV m).1).zip ((mvs n (ways c L)).map fun m => (mvKV m).2)) (.inr p)).isSome = (okAt n L c p).isSome := by
  cases h : okAt n L c p with
  | none => rw [col_none hn h]; rfl
  | some m =>
    obtain ⟨ok, rfl⟩ := okAt_some h
    rw [col_val hn ok]; rfl
theorem bools_false : ∀ (bs : List Bool), (bools (bs.map fun b => D.bl b)).map (fun bs => D.bl (bs.all id)) = some (.bl (bs.all id)) := fun bs => by
  rw [bools_map (fun b : Bool => b) bs]
  simp
theorem room_comp {n L : Nat} {ps : List Str} {Γ : G} (hn : n ≤ 12) (hL : L ≤ 3) (hl : ps.length = L + 2) :
    compO (some (zipD (ps.map D.str) ((List.range (L + 2)).map (colD n L)))) [none, none] (gTupD 2 (glCons (gSet 0) (glCons (gSet 1) glNil))) xTrue ce_f_room_read_1 Γ = some (((List.range ps.length).map fun k => (okAt n L k (ps.getD k e0S)).isSome).map fun b => D.bl b) := by
  have zl : (zipD (ps.map D.str) ((List.range (L + 2)).map (colD n L))).length = L + 2 := by simp [hl]
  refine compO_is (fun b : Bool => D.bl b) ((List.range ps.length).map fun k => (okAt n L k (ps.getD k e0S)).isSome) (by rw [zl]; simp [hl]) (by rw [zl]; omega) fun k hk => ?_
  rw [zl] at hk
  have hk' : k < ps.length := by omega
  rw [zipD_get (by simp; omega) (by simp; omega)]
  refine ⟨[.v (.str ps[k]), .v (colD n L k)], by simp [blkG], rfl, ?_⟩
  have hv := col_isSome (n := n) (L := L) (c := k) (p := ps[k]) hn
  simp only [ce_f_room_read_1, r_x2, r_xVar]
  unfold colD
  simp [hv, List.getD_eq_getElem?_getD, hk']
theorem x_room {n L : Nat} {line : Str} (hn : n ≤ 12) (hL : L ≤ 3) (hline : Tame line) : x_f_room_read [.str line, .lst ((List.range (L + 2)).map (colD n L))] = !decide ((Txt.split line spS).length = L + 2 ∧ ∀ (k : Nat) (h : k < (Txt.split line spS).length), okAt n L k (Txt.split line spS)[k] ≠ none) := by
  have hs := o_split (x := line) (y := spS) rfl (by have := hline.len; omega)
  generalize Txt.split line spS = ps at hs
  have hl1 : (ps.map D.str).length = ps.length := by simp
  have hl2 : ((List.range (L + 2)).map (colD n L)).length = L + 2 := by simp
  unfold x_f_room_read xBody
  have e0 : decide (([.str line, .lst ((List.range (L + 2)).map (colD n L))] : List D).length = 2) = true := rfl
  rw [e0, Bool.true_and]
  by_cases hl : ps.length = L + 2
  · have hc := room_comp (Γ := [.v (.str line), .v (.lst ((List.range (L + 2)).map (colD n L))), .v (.lst (ps.map D.str))]) hn hL hl
    have hb := bools_false ((List.range ps.length).map fun k => (okAt n L k (ps.getD k e0S)).isSome)
    have hall : (((List.range ps.length).map fun k => (okAt n L k (ps.getD k e0S)).isSome).all id) = decide (∀ (k : Nat) (h : k < ps.length), okAt n L k ps[k] ≠ none) := by
      rw [Bool.eq_iff_iff, List.all_eq_true, decide_eq_true_eq]
      constructor
      · intro h k hk
        have := h _ (List.mem_map.mpr ⟨k, List.mem_range.mpr hk, rfl⟩)
        rw [List.getD_eq_getElem?_getD, List.getElem?_eq_getElem hk] at this
        intro z
        simp [z] at this
      · intro h b hb
        obtain ⟨k, hk, rfl⟩ := List.mem_map.mp hb
        have hk' := List.mem_range.mp hk
        have := h k hk'
        rw [List.getD_eq_getElem?_getD, List.getElem?_eq_getElem hk']
        cases z : okAt n L k ps[k] with
        | none => exact absurd z this
        | some m => simp [z]
    rw [hall] at hb
    generalize ((List.range ps.length).map fun k => (okAt n L k (ps.getD k e0S)).isSome).map (fun b => D.bl b) = BS at hc hb
    generalize hA : decide (∀ (k : Nat) (h : k < ps.length), okAt n L k ps[k] ≠ none) = A at hb
    have goal : (!decide (ps.length = L + 2 ∧ ∀ (k : Nat) (h : k < ps.length), okAt n L k ps[k] ≠ none)) = !A := by
      rw [← hA]
      simp [hl]
    rw [goal]
    generalize (List.range (L + 2)).map (colD n L) = C at hl2 hc
    generalize hPP : ps.map D.str = PP at hl1 hs hc
    rw [hl] at hl1
    simp only [y_f_room_read, startG, ySeq, yIf, r_yNo, Bool.false_or, r_sSet, r_x2, r_xVar, r_xC, sp_eq]
    cases A <;> simp [hs, hl1, hl2, hc, hb]
  · have hg : (!decide (ps.length = L + 2 ∧ ∀ (k : Nat) (h : k < ps.length), okAt n L k ps[k] ≠ none)) = true := by simp [hl]
    rw [hg]
    generalize (List.range (L + 2)).map (colD n L) = C at hl2
    generalize hPP : ps.map D.str = PP at hl1 hs
    have hne : ¬ ((PP.length : Int) = (C.length : Int)) := by rw [hl1, hl2]; omega
    simp only [y_f_room_read, startG, ySeq, yIf, r_yNo, Bool.false_or, r_sSet, r_x2, r_xVar, r_xC, sp_eq]
    simp [hs, hne]
end Py

namespace Py
open PySem L2 DD Pu
/-! ### a line, read by the law -/
def wsL (c L : Nat) : List Bool := if c = 0 then [true] else if c = L + 1 then [false] else [false, true]
theorem wsL_iff {c L : Nat} {b : Bool} : b ∈ wsL c L ↔ b ∈ ways c L := by
  unfold wsL ways
  by_cases h0 : c = 0
  · rw [if_pos h0, if_pos h0]
  · rw [if_neg h0, if_neg h0]
    by_cases h1 : c = L + 1
    · rw [if_pos h1, if_pos h1]
    · rw [if_neg h1, if_neg h1]
      cases b <;> simp
def wayLD (L c : Nat) : D := .lst (((wsL c L).map wayS).map D.str)
def mvO : Option (Mv Str) → D
  | none => .non
  | some m => encMv m
theorem out_ok {n L c : Nat} {p : Str} : outMv n (wsL c L) (pm0 p) = mvO (okAt n L c p) := by
  unfold okAt
  cases pm0 p with
  | none => rfl
  | some m =>
    cases m with
    | fin s => rfl
    | go r b =>
      simp only [outMv]
      by_cases h : r < n ∧ b ∈ ways c L
      · rw [if_pos ⟨h.1, wsL_iff.mpr h.2⟩, if_pos h]; rfl
      · rw [if_neg (fun z => h ⟨z.1, wsL_iff.mp z.2⟩), if_neg h]; rfl
theorem ways_list (L : Nat) : [D.lst [.str (Str.ofString ">")]] ++ (List.replicate L (D.lst [.str (Str.ofString "<"), .str (Str.ofString ">")])) ++ [D.lst [.str (Str.ofString "<")]] = (List.range (L + 2)).map (wayLD L) := by
  rw [gt_eq, lt_eq]
  refine List.ext_getElem (by simp) fun k h1 h2 => ?_
  have hk : k < L + 2 := by simpa using h2
  simp only [List.getElem_map, List.getElem_range]
  unfold wayLD wsL
  by_cases h0 : k = 0
  · subst h0
    simp [wayS]
  · by_cases h3 : k = L + 1
    · subst h3
      simp [wayS]
    · obtain ⟨j, rfl⟩ : ∃ j, k = j + 1 := ⟨k - 1, by omega⟩
      have hj : j < L := by omega
      have hj2 : ¬ j = L := by omega
      rw [if_neg h0, if_neg h3]
      simp [List.getElem_append, hj, wayS]
theorem okD_mvO {n L c : Nat} {p : Str} : OkD 1 (mvO (okAt n L c p)) := by
  cases h : okAt n L c p with
  | none => exact OkD.non
  | some m =>
    have ok := (okAt_some h).1
    cases m with
    | fin s => exact OkD.str (by rcases ok with rfl | rfl <;> decide +kernel)
    | go r b => exact OkD.tup (n := 0) (by simp [OkD.int])
theorem eqv_mvO {o : Option (Mv Str)} : PyData.eqv (toP (mvO o)) (toP .non) = o.isNone := by
  cases o with
  | none => rfl
  | some m => cases m <;> rfl
theorem q_line {n L : Nat} {d0 : D} {lines : List D} {rooms : List D} {line : Str} {s5 s6 s7 : S} (hn : n ≤ 12) (hL : L ≤ 3) (hlen : lines.length = n + 1) (hr : rooms.length < 1000) (hline : Tame line) :
    (∃ rm, OkRoom n L rm ∧ line = txRoom rm ∧ ∃ t4 t5 t6 t7, lb_f_law_due_1 [.v d0, .v (.lst lines), .v (.int L), .ol rooms, .v (.str line), s5, s6, s7] = some (.nx [.v d0, .v (.lst lines), .v (.int L), .ol (rooms ++ [encRoom rm]), t4, t5, t6, t7])) ∨
    ((¬ ∃ rm, OkRoom n L rm ∧ line = txRoom rm) ∧ lb_f_law_due_1 [.v d0, .v (.lst lines), .v (.int L), .ol rooms, .v (.str line), s5, s6, s7] = some (.rt .non)) := by
  have hs := o_split (x := line) (y := spS) rfl (by have := hline.len; omega)
  have hcase := room_case (n := n) (L := L) line
  have hpt : ∀ p ∈ Txt.split line spS, Tame p := fun p hp => hline.part hp
  have hno := no_room (n := n) (L := L) (line := line) hn
  by_cases hl : (Txt.split line spS).length = L + 2
  · generalize Txt.split line spS = ps at hs hcase hpt hno hl
    have hcut : cutD (ps.map D.str) (some 1) (some (-1)) = ((ps.drop 1).take L).map D.str := by
      match ps, hl with
      | a :: r, hl =>
        have hr2 : r.length = L + 1 := by simpa using hl
        obtain ⟨mid, z, hz⟩ : ∃ mid z, r = mid ++ [z] := by
          rcases List.eq_nil_or_concat r with e | ⟨mid, z, e⟩
          · rw [e] at hr2; simp at hr2
          · exact ⟨mid, z, by simpa using e⟩
        subst hz
        have hm : mid.length = L := by simpa using hr2
        rw [List.map_cons, List.map_append]
        have := cut_mid (a := D.str a) (z := D.str z) (xs := mid.map D.str)
        rw [show [z].map D.str = [D.str z] from rfl, this]
        simp [hm]
    have hmidlen : (((ps.drop 1).take L).map D.str).length = L := by simp; omega
    generalize ((ps.drop 1).take L).map D.str = mid at hcut hmidlen
    have hc1 : ∀ Γ : G, compO (some mid) [none] (gSet 0) xTrue ce_f_law_due_1 Γ = some (List.replicate L (D.lst [.str (Str.ofString "<"), .str (Str.ofString ">")])) := fun Γ => by
      have := compO_is (fun d : D => d) (Γ := Γ) (ms := [none]) (t := gSet 0) (cond := xTrue) (el := ce_f_law_due_1) (ds := mid) (List.replicate L (D.lst [.str (Str.ofString "<"), .str (Str.ofString ">")])) (by simp [hmidlen]) (by omega) fun k hk => by
        refine ⟨[.v mid[k]], by simp [blkG], rfl, ?_⟩
        simp [ce_f_law_due_1]
      rw [List.map_id'] at this
      exact this
    have hw : (D.lst [.str (Str.ofString ">")] :: (List.replicate L (D.lst [.str (Str.ofString "<"), .str (Str.ofString ">")]) ++ [D.lst [.str (Str.ofString "<")]])) = (List.range (L + 2)).map (wayLD L) := by rw [← ways_list]; simp
    have zl : (zipD (ps.map D.str) ((List.range (L + 2)).map (wayLD L))).length = L + 2 := by simp [hl]
    have hnn : ((n + 1 : Nat) : Int) - 1 = (n : Int) := by omega
    have hc2 : ∀ (s3 s4 s5 s6 s7 : S), compO (some (zipD (ps.map D.str) ((List.range (L + 2)).map (wayLD L)))) [none, none, some 1] (gTupD 2 (glCons (gSet 0) (glCons (gSet 1) glNil))) xTrue ce_f_law_due_2 [.v d0, .v (.lst lines), .v (.int L), s3, s4, s5, s6, s7] = some (((List.range ps.length).map fun k => okAt n L k (ps.getD k e0S)).map mvO) := fun s3 s4 s5 s6 s7 => by
      refine compO_is mvO ((List.range ps.length).map fun k => okAt n L k (ps.getD k e0S)) (by rw [zl]; simp [hl]) (by rw [zl]; omega) fun k hk => ?_
      rw [zl] at hk
      have hk' : k < ps.length := by omega
      rw [zipD_get (by simp; omega) (by simp; omega)]
      refine ⟨[.v (.str ps[k]), .v (wayLD L k), .v (.lst lines)], by simp [blkG], rfl, ?_⟩
      have hq := q_read_move (p := ps[k]) (n := n) (ws := wsL k L) (hpt _ (List.getElem_mem hk'))
      rw [out_ok] at hq
      have hq' : m_f_law_read_move [.str ps[k], .int n, wayLD L k] = some (mvO (okAt n L k ps[k])) := hq
      simp only [ce_f_law_due_2, r_xFn, r_xCons, r_xVar, r_x2, r_xCall, r_xNil, r_xC]
      simp [hlen, hnn, hq', List.getD_eq_getElem?_getD, hk']
    generalize hMV : ((List.range ps.length).map fun k => okAt n L k (ps.getD k e0S)) = MV at hc2
    have hin : mIn false (.d .non) (.d (.lst (MV.map mvO))) = some (.bl (MV.any Option.isNone)) := by
      rw [o_in (n := 1) OkD.non rfl (by
        intro d hd
        obtain ⟨o, ho, rfl⟩ := List.mem_map.mp hd
        rw [← hMV] at ho
        obtain ⟨k, _, rfl⟩ := List.mem_map.mp ho
        exact okD_mvO)]
      rw [if_neg (by decide), List.any_map]
      congr 3
      funext o
      exact eqv_mvO
    have hlP : (ps.map D.str).length = L + 2 := by simp [hl]
    have eLL : (L : Int) + 2 = ((L + 2 : Nat) : Int) := by omega
    rcases hcase with ⟨rm, ok, e1, e2⟩ | hbad | ⟨_, k, hk, hbad⟩
    · refine .inl ⟨rm, ok, e1, ?_⟩
      have hMV2 : MV = rm.map some := by
        rw [← hMV, e2]
        refine List.ext_getElem (by simp) fun k h1 h2 => ?_
        have hk : k < rm.length := by simpa using h2
        simp only [List.getElem_map, List.getElem_range]
        rw [List.getD_eq_getElem?_getD, List.getElem?_eq_getElem (by simpa using hk)]
        simp only [List.getElem_map, Option.getD_some]
        exact okAt_tx hn (ok.mvs k hk)
      have hany : MV.any Option.isNone = false := by rw [hMV2]; simp
      have hmv : MV.map mvO = rm.map encMv := by rw [hMV2, List.map_map]; rfl
      rw [hany] at hin
      rw [hmv] at hin hc2
      generalize hPP : ps.map D.str = PP at hs hcut hc2 hlP
      have c4 : rooms.length < 16777216 := by omega
      refine ⟨.v (.str line), .v (.lst PP), .v (.lst ((List.range (L + 2)).map (wayLD L))), .v (.lst (rm.map encMv)), ?_⟩
      have c1 : 1 + L ≤ 16777216 := by omega
      have c2 : L + 1 + 1 ≤ 16777216 := by omega
      have c3 : 1 + (L + 1) ≤ 16777216 := by omega
      simp only [lb_f_law_due_1, r_sSeq, r_sSet, r_x2, r_xVar, r_xC, sp_eq]
      simp [hs, hlP]
      simp [slB, hcut, hc1, c1, c2, c3]
      rw [hw]
      simp [hc2, hin, ownL, c4, encRoom]
    · exact absurd hl hbad
    · refine .inr ⟨hno (.inr ⟨hl, k, hk, hbad⟩), ?_⟩
      have hany : MV.any Option.isNone = true := by
        rw [← hMV, List.any_eq_true]
        refine ⟨okAt n L k (ps.getD k e0S), List.mem_map.mpr ⟨k, List.mem_range.mpr hk, rfl⟩, ?_⟩
        rw [List.getD_eq_getElem?_getD, List.getElem?_eq_getElem hk]
        simp [hbad]
      rw [hany] at hin
      generalize hPP : ps.map D.str = PP at hs hcut hc2 hlP
      generalize MV.map mvO = MW at hin hc2
      have c1 : 1 + L ≤ 16777216 := by omega
      have c2 : L + 1 + 1 ≤ 16777216 := by omega
      have c3 : 1 + (L + 1) ≤ 16777216 := by omega
      simp only [lb_f_law_due_1, r_sSeq, r_sSet, r_x2, r_xVar, r_xC, sp_eq]
      simp [hs, hlP]
      simp [slB, hcut, hc1, c1, c2, c3]
      rw [hw]
      simp [hc2, hin]
  · refine .inr ⟨hno (.inl hl), ?_⟩
    generalize hPP : (Txt.split line spS).map D.str = PP at hs
    have hlP : PP.length = (Txt.split line spS).length := by rw [← hPP]; simp
    have hne : ¬ ((PP.length : Int) = (L : Int) + 2) := by rw [hlP]; omega
    simp only [lb_f_law_due_1, r_sSeq, r_sSet, r_x2, r_xVar, r_xC, sp_eq]
    simp [hs, hne]
end Py

namespace Py
open PySem L2 DD Pu
/-! ### the shape of a text -/
theorem join_snoc {sep : Str} : ∀ {xs : List Str}, xs ≠ [] → Str.join sep (xs ++ [e0S]) = Str.join sep xs ++ sep
  | [], h => absurd rfl h
  | [x], _ => Tx.ext (by
    show (Str.join sep [x, e0S]).cps.toList = _
    rw [Tx.join2, Tx.app, Tx.app, Tx.app]
    simp [Str.join])
  | x :: y :: r, _ => by
    have ih := join_snoc (sep := sep) (xs := y :: r) (by simp)
    have e : (x :: y :: r) ++ [e0S] = x :: y :: (r ++ [e0S]) := rfl
    have e2 : y :: (r ++ [e0S]) = (y :: r) ++ [e0S] := rfl
    rw [e, Tx.join2, e2, ih, Tx.join2]
    exact Tx.ext (by simp [Tx.app])
theorem shape (t : Str) : (t = e0S ∧ Txt.split t nlS = [e0S]) ∨ (∃ f c, t.cps.toList = f ++ [c] ∧ c ≠ 10 ∧ ∃ xs z, Txt.split t nlS = xs ++ [z] ∧ z ≠ e0S) ∨
    (∃ (t' : Str) (l0 : Str) (rest : List Str), t.cps.toList = t'.cps.toList ++ [10] ∧ Txt.split t' nlS = l0 :: rest ∧ Txt.split t nlS = l0 :: rest ++ [e0S]) := by
  rcases List.eq_nil_or_concat t.cps.toList with h | ⟨f, c, h⟩
  · have ht : t = e0S := Tx.ext (by rw [h])
    subst ht
    exact .inl ⟨rfl, Tx.split_join (c := 10) (ps := [e0S]) (by simp) (by simp)⟩
  · have h' : t.cps.toList = f ++ [c] := by simpa using h
    by_cases hc : c = 10
    · subst hc
      refine .inr (.inr ?_)
      obtain ⟨l0, rest, hs⟩ : ∃ l0 rest, Txt.split ⟨f.toArray⟩ nlS = l0 :: rest := by
        cases e : Txt.split ⟨f.toArray⟩ nlS with
        | nil => exact absurd e (Tx.split_ne _ _)
        | cons a r => exact ⟨a, r, rfl⟩
      refine ⟨⟨f.toArray⟩, l0, rest, by simpa using h', hs, ?_⟩
      have hj := StrLaws.join_split ⟨f.toArray⟩ nlS
      have hfree := StrLaws.split_free ⟨f.toArray⟩ 10
      rw [hs] at hj hfree
      have e : t = Str.join nlS ((l0 :: rest) ++ [e0S]) := by
        rw [join_snoc (by simp), hj]
        exact Tx.ext (by rw [Tx.app, h'])
      rw [e]
      exact Tx.split_join (c := 10) (by simp) fun p hp => by
        rcases List.mem_append.mp hp with hp | hp
        · exact hfree p hp
        · have : p = e0S := by simpa using hp
          rw [this]; simp
    · refine .inr (.inl ⟨f, c, h', hc, ?_⟩)
      rcases List.eq_nil_or_concat (Txt.split t nlS) with e | ⟨xs, z, e⟩
      · exact absurd e (Tx.split_ne _ _)
      · have e' : Txt.split t nlS = xs ++ [z] := by simpa using e
        refine ⟨xs, z, e', fun hz => ?_⟩
        subst hz
        have hj := StrLaws.join_split t nlS
        rw [e'] at hj
        cases xs with
        | nil =>
          have : t = e0S := hj.symm
          rw [this] at h'; simp at h'
        | cons a r =>
          rw [join_snoc (by simp)] at hj
          have := congrArg (fun s : Str => s.cps.toList) hj
          simp only [Tx.app] at this
          rw [h'] at this
          have := List.append_inj_right' this rfl
          simp at this
          exact hc this.symm
def okLine (n L : Nat) (l : Str) : Prop := ∃ rm, OkRoom n L rm ∧ l = txRoom rm
def Good (t : Str) : Prop := ∃ L rooms, OkM L rooms ∧ t = txText L rooms
theorem rooms_of {n L : Nat} : ∀ {ls : List Str}, (∀ l ∈ ls, okLine n L l) → ∃ rooms : List (List (Mv Str)), ls = rooms.map txRoom ∧ ∀ rm ∈ rooms, OkRoom n L rm
  | [], _ => ⟨[], rfl, by simp⟩
  | l :: r, h => by
    obtain ⟨rm, h1, h2⟩ := h l List.mem_cons_self
    obtain ⟨rooms, h3, h4⟩ := rooms_of fun x hx => h x (List.mem_cons_of_mem _ hx)
    exact ⟨rm :: rooms, by rw [h2, h3]; rfl, fun x hx => by
      rcases List.mem_cons.mp hx with rfl | hx
      · exact h1
      · exact h4 x hx⟩
theorem good_of {t : Str} {L : Nat} {rest : List Str} (h : Txt.split t nlS = numS L :: rest ++ [e0S]) (hL1 : 1 ≤ L) (hL3 : L ≤ 3) (h1 : 1 ≤ rest.length) (h12 : rest.length ≤ 12) (hok : ∀ l ∈ rest, okLine rest.length L l) : Good t := by
  obtain ⟨rooms, e, hr⟩ := rooms_of hok
  have hlen : rooms.length = rest.length := by rw [e]; simp
  refine ⟨L, rooms, ⟨hL1, hL3, by omega, by omega, by rw [hlen]; exact hr⟩, ?_⟩
  have hj := StrLaws.join_split t nlS
  rw [h] at hj
  unfold txText txLines
  rw [← e]; exact hj.symm
theorem good_split {t : Str} (h : Good t) : ∃ L rooms, OkM L rooms ∧ t = txText L rooms ∧ Txt.split t nlS = numS L :: rooms.map txRoom ++ [e0S] := by
  obtain ⟨L, rooms, ok, rfl⟩ := h
  exact ⟨L, rooms, ok, rfl, text_split ok.tx⟩
/-! ### letters -/
theorem n1 : Str.ofString "1" = numS 1 := by decide +kernel
theorem n2 : Str.ofString "2" = numS 2 := by decide +kernel
theorem n3 : Str.ofString "3" = numS 3 := by decide +kernel
theorem num_tame : ∀ r : Fin 12, tameB (numS r.val) = true := by decide +kernel
theorem numT {r : Nat} (h : r < 12) : Tame (numS r) := tame_of (num_tame ⟨r, h⟩)
theorem forL_stop {t : D → G → Option G} {fb : G → Option Out} {d v : D} {r : List D} {Γ g1 : G} (h1 : t d Γ = some g1) (h2 : fb g1 = some (.rt v)) : forL t fb (d :: r) Γ = some (.rt v) := by
  unfold forL
  rw [h1, Option.bind_some, h2]
  rfl
theorem lb_letters {l : Str} (hl : Tame l) {k : Nat} (hk : k < 12) : lb_f_letters_read_1 [.v (.str l), .v (.int k)] = if l = numS k then some (.rt (.int k)) else some (.nx [.v (.str l), .v (.int k)]) := by
  have t1 := eqS (neg := false) (x := l) (y := numS k) hl (numT hk)
  have s1 := o_num (r := k) (by omega)
  by_cases h : l = numS k
  · rw [if_pos h]
    simp only [lb_f_letters_read_1, r_sIf, r_xT, r_x2, r_xVar, r_xCall, r_xCons, r_xNil]
    rw [decide_eq_true h] at t1
    simp [s1, t1]
  · rw [if_neg h]
    simp only [lb_f_letters_read_1, r_sIf, r_xT, r_x2, r_xVar, r_xCall, r_xCons, r_xNil]
    rw [decide_eq_false h] at t1
    simp [s1, t1]
theorem for_letters {l : Str} (hl : Tame l) {s1 : S} : forL (gSet 1) lb_f_letters_read_1 [.int 1, .int 2, .int 3] [.v (.str l), s1] = if l = numS 1 then some (.rt (.int 1)) else if l = numS 2 then some (.rt (.int 2)) else if l = numS 3 then some (.rt (.int 3)) else some (.nx [.v (.str l), .v (.int 3)]) := by
  have b1 := lb_letters hl (k := 1) (by decide)
  have b2 := lb_letters hl (k := 2) (by decide)
  have b3 := lb_letters hl (k := 3) (by decide)
  by_cases h1 : l = numS 1
  · rw [if_pos h1] at b1 ⊢
    exact forL_stop rfl b1
  · rw [if_neg h1] at b1 ⊢
    rw [forL_step rfl b1]
    by_cases h2 : l = numS 2
    · rw [if_pos h2] at b2 ⊢
      exact forL_stop rfl b2
    · rw [if_neg h2] at b2 ⊢
      rw [forL_step rfl b2]
      by_cases h3 : l = numS 3
      · rw [if_pos h3] at b3 ⊢
        exact forL_stop rfl b3
      · rw [if_neg h3] at b3 ⊢
        rw [forL_step rfl b3]
        rfl
theorem x_letters {l : Str} (hl : Tame l) : x_f_letters_read [.str l] = !decide (l = numS 1 ∨ l = numS 2 ∨ l = numS 3) := by
  have er : r2O (some [.d (.int 1), .d (.int 4)]) = some [.int 1, .int 2, .int 3] := id rfl
  unfold x_f_letters_read xBody
  have e0 : decide (([.str l] : List D).length = 1) = true := rfl
  rw [e0, Bool.true_and]
  simp only [y_f_letters_read, startG, ySeq, r_yNo, Bool.false_or, r_sFor, r_xR2, r_xCons, r_xNil, r_xC, r_x2, ap2_some, o_add, Option.map_some, consO_some]
  have e4 : (3 : Int) + 1 = 4 := rfl
  rw [e4, er, forO_some]
  have hf := for_letters hl (s1 := .un)
  have hst : (([D.str l].map S.v ++ List.replicate (2 - [D.str l].length) S.un) : G) = [.v (.str l), .un] := rfl
  first
    | rw [hst, hf]
    | (simp only [List.map_cons, List.map_nil, List.length_cons, List.length_nil]; rw [show ([S.v (D.str l)] ++ List.replicate (2 - (0 + 1)) S.un : G) = [.v (.str l), .un] from rfl, hf])
    | rw [hf]
  by_cases h1 : l = numS 1
  · rw [if_pos h1]; simp [h1]
  · rw [if_neg h1]
    by_cases h2 : l = numS 2
    · rw [if_pos h2]; simp [h2]
    · rw [if_neg h2]
      by_cases h3 : l = numS 3
      · rw [if_pos h3]; simp [h3]
      · rw [if_neg h3]; simp [h1, h2, h3]
end Py

namespace Py
open PySem L2 DD Pu
theorem x_room_ok {n L : Nat} {line : Str} (hn : n ≤ 12) (hL : L ≤ 3) (ht : Tame line) (h : okLine n L line) : x_f_room_read [.str line, .lst ((List.range (L + 2)).map (colD n L))] = false := by
  rw [x_room hn hL ht]
  have hc := room_case (n := n) (L := L) line
  have hno := no_room (n := n) (L := L) (line := line) hn
  have : (Txt.split line spS).length = L + 2 ∧ ∀ (k : Nat) (h : k < (Txt.split line spS).length), okAt n L k (Txt.split line spS)[k] ≠ none := by
    refine ⟨?_, fun k hk z => ?_⟩
    · by_cases e : (Txt.split line spS).length = L + 2
      · exact e
      · exact absurd h (hno (.inl e))
    · by_cases e : (Txt.split line spS).length = L + 2
      · exact absurd h (hno (.inr ⟨e, k, hk, z⟩))
      · exact absurd h (hno (.inl e))
  rw [decide_eq_true this]; rfl
theorem x_room_bad {n L : Nat} {line : Str} (hn : n ≤ 12) (hL : L ≤ 3) (ht : Tame line) (h : ¬ okLine n L line) : x_f_room_read [.str line, .lst ((List.range (L + 2)).map (colD n L))] = true := by
  rw [x_room hn hL ht]
  have : ¬ ((Txt.split line spS).length = L + 2 ∧ ∀ (k : Nat) (h : k < (Txt.split line spS).length), okAt n L k (Txt.split line spS)[k] ≠ none) := fun z => by
    rcases room_case (n := n) (L := L) line with ⟨rm, h1, h2, _⟩ | h2 | ⟨_, k, hk, h3⟩
    · exact h ⟨rm, h1, h2⟩
    · exact h2 z.1
    · exact z.2 k hk h3
  rw [decide_eq_false this]; rfl
abbrev yRow : G → Bool := yCall x_f_room_read (xCons (xVar 0) (xCons (xVar 1) xNil))
theorem rows_ok {n L : Nat} (hn : n ≤ 12) (hL : L ≤ 3) {s0 : S} : ∀ ls : List Str, (∀ l ∈ ls, Tame l) → (∀ l ∈ ls, okLine n L l) → compX (gSet 0) xTrue ce_f_read_2 yRow [s0, .v (.lst ((List.range (L + 2)).map (colD n L)))] (ls.map D.str) = false
  | [], _, _ => rfl
  | l :: r, ht, h => by
    have ih := rows_ok hn hL (s0 := s0) r (fun x hx => ht x (List.mem_cons_of_mem _ hx)) fun x hx => h x (List.mem_cons_of_mem _ hx)
    have hx := x_room_ok hn hL (ht l List.mem_cons_self) (h l List.mem_cons_self)
    have hy : yRow [.v (.str l), .v (.lst ((List.range (L + 2)).map (colD n L)))] = false := hx
    rw [List.map_cons]
    unfold compX
    simp only [r_gSet, List.set_cons_zero, r_xTrue, hy, Bool.false_or, ih, Bool.and_false]
theorem rows_bad {n L : Nat} (hn : n ≤ 12) (hL : L ≤ 3) {s0 : S} : ∀ ls : List Str, (∀ l ∈ ls, Tame l) → (∃ l ∈ ls, ¬ okLine n L l) → compX (gSet 0) xTrue ce_f_read_2 yRow [s0, .v (.lst ((List.range (L + 2)).map (colD n L)))] (ls.map D.str) = true
  | [], _, h => by obtain ⟨l, h1, _⟩ := h; cases h1
  | l :: r, ht, h => by
    rw [List.map_cons]
    unfold compX
    simp only [r_gSet, List.set_cons_zero, r_xTrue]
    by_cases hl : okLine n L l
    · have ih := rows_bad hn hL (s0 := s0) r (fun x hx => ht x (List.mem_cons_of_mem _ hx)) (by
        obtain ⟨x, hx, hb⟩ := h
        rcases List.mem_cons.mp hx with rfl | hx
        · exact absurd hl hb
        · exact ⟨x, hx, hb⟩)
      obtain ⟨rm, ok, rfl⟩ := hl
      have hm := k_room_read hn hL ok
      have he : ((ce_f_read_2 [.v (.str (txRoom rm)), .v (.lst ((List.range (L + 2)).map (colD n L)))]).bind B.asD).isSome = true := by
        simp only [ce_f_read_2, r_xFn, r_xCons, r_xVar, r_xNil]
        simp [hm]
      rw [he, ih]; simp
    · have hx := x_room_bad hn hL (ht l List.mem_cons_self) hl
      have hy : yRow [.v (.str l), .v (.lst ((List.range (L + 2)).map (colD n L)))] = true := hx
      rw [hy]; rfl
theorem ySeq_nx {x1 x2 : G → Bool} {f : G → Option Out} {Γ g : G} (h1 : x1 Γ = false) (h2 : f Γ = some (.nx g)) : ySeq x1 f x2 Γ = x2 g := by
  unfold ySeq
  rw [h1, h2]
  rfl
theorem x_read_last {t z : Str} {P : List D} (ht : Tame t) (hs : mSplit (.d (.str t)) (.d (.str nlS)) = some (.lst P)) (hlast : atI P (-1) = some (.str z)) (hz : Tame z) (hne : z ≠ e0S) : x_f_read [.str t] = true := by
  have hE := eqS (neg := true) (x := z) (y := e0S) hz tame_e0
  rw [if_pos rfl, decide_eq_false hne] at hE
  unfold x_f_read xBody
  have e0 : decide (([.str t] : List D).length = 1) = true := rfl
  rw [e0, Bool.true_and]
  simp only [y_f_read, startG, ySeq, yIf, r_yNo, r_yAll, Bool.false_or, r_sIf, r_sSet, r_xNot, r_xT, r_xCall, r_xCons, r_xVar, r_xNil, r_xTy, r_x2, r_xC, nl_eq, e0_eq]
  simp [hs, hlast, hE]
theorem x_read_letters {t l0 : Str} {P : List D} (ht : Tame t) (hs : mSplit (.d (.str t)) (.d (.str nlS)) = some (.lst P)) (hlast : atI P (-1) = some (.str e0S)) (h0 : P[0]? = some (.str l0)) (hl : Tame l0) (hx : x_f_letters_read [.str l0] = true) : x_f_read [.str t] = true := by
  have hE := eqS (neg := true) (x := e0S) (y := e0S) tame_e0 tame_e0
  rw [if_pos rfl, decide_eq_true rfl] at hE
  have hlt : 0 < P.length := by
    cases P with
    | nil => cases h0
    | cons a r => simp
  have h0' : P[0]'hlt = .str l0 := by
    rw [List.getElem?_eq_getElem hlt] at h0
    exact Option.some.inj h0
  unfold x_f_read xBody
  have e0 : decide (([.str t] : List D).length = 1) = true := rfl
  rw [e0, Bool.true_and]
  simp only [y_f_read, startG, ySeq, yIf, yCall, r_yNo, r_yAll, Bool.false_or, r_sIf, r_sSet, r_xNot, r_xT, r_xCall, r_xCons, r_xVar, r_xNil, r_xTy, r_x2, r_xC, nl_eq, e0_eq]
  simp [hs, hlast, hE, h0, hx]
theorem x_read_rest {t : Str} {L : Nat} {rest : List Str} (ht : Tame t) (hL1 : 1 ≤ L) (hL3 : L ≤ 3) (hsp : Txt.split t nlS = numS L :: rest ++ [e0S]) :
    ((1 ≤ rest.length ∧ rest.length ≤ 12) ∧ (∀ l ∈ rest, okLine rest.length L l) → x_f_read [.str t] = false) ∧ (¬ ((1 ≤ rest.length ∧ rest.length ≤ 12) ∧ ∀ l ∈ rest, okLine rest.length L l) → x_f_read [.str t] = true) := by
  have hs := o_split (x := t) (y := nlS) rfl (by have := ht.len; omega)
  have htl : ∀ l ∈ rest, Tame l := fun l hl => ht.part (sep := nlS) (by rw [hsp]; simp [hl])
  rw [hsp] at hs
  have hs' : (numS L :: rest ++ [e0S]).map D.str = D.str (numS L) :: (rest.map D.str ++ [.str e0S]) := by simp
  rw [hs'] at hs
  have hlast : atI (D.str (numS L) :: (rest.map D.str ++ [.str e0S])) (-1) = some (.str e0S) := atI_last (xs := D.str (numS L) :: rest.map D.str)
  have hlet := k_letters_read hL1 hL3
  have hxl : x_f_letters_read [.str (numS L)] = false := by
    rw [x_letters (numT (by omega))]
    have : L = 1 ∨ L = 2 ∨ L = 3 := by omega
    rcases this with rfl | rfl | rfl <;> simp
  have hE := eqS (neg := true) (x := e0S) (y := e0S) tame_e0 tame_e0
  rw [if_pos rfl, decide_eq_true rfl] at hE
  have hlen : (D.str (numS L) :: (rest.map D.str ++ [.str e0S])).length = rest.length + 2 := by simp
  have hcut := cut_mid (a := D.str (numS L)) (z := .str e0S) (xs := rest.map D.str)
  generalize hP : D.str (numS L) :: (rest.map D.str ++ [.str e0S]) = P at hs hlast hlen hcut
  have h0 : P[0]? = some (.str (numS L)) := by rw [← hP]; rfl
  have h0' : P[0]'(by omega) = .str (numS L) := by
    have := h0
    rw [List.getElem?_eq_getElem (by omega)] at this
    exact Option.some.inj this
  have ec : ((rest.length + 2 : Nat) : Int) - 2 = (rest.length : Int) := by omega
  have chain : ∀ Γ : G, (xC (.int 12) : G → Option B) Γ = some (.d (.int 12)) := fun _ => rfl
  have reduce : ∀ b : Bool, ((1 ≤ rest.length ∧ rest.length ≤ 12) → (compX (gSet 0) xTrue ce_f_read_2 yRow [.un, .v (.lst ((List.range (L + 2)).map (colD rest.length L)))] (rest.map D.str)) = b) → (¬ (1 ≤ rest.length ∧ rest.length ≤ 12) → b = true) → x_f_read [.str t] = b := fun b hb1 hb2 => by
    unfold x_f_read xBody
    have e0 : decide (([.str t] : List D).length = 1) = true := rfl
    rw [e0, Bool.true_and]
    by_cases hc : 1 ≤ rest.length ∧ rest.length ≤ 12
    · have hb := hb1 hc
      have hch : (1 : Int) ≤ rest.length ∧ (rest.length : Int) ≤ 12 := by omega
      have hc1 := compO_is (fun d : D => d) (t := gSet 0) (cond := xTrue) (el := ce_f_read_1) (Γ := [.v (.str t), .v (.lst P), .v (.int L), .v (.int rest.length), .un]) (ms := [none, some 3, some 2]) (ds := rangeD 0 (L + 2)) ((List.range (L + 2)).map (colD rest.length L)) (by simp) (by simp; omega) fun k hk => by
        have hk' : k < L + 2 := by simpa using hk
        refine ⟨[.v (.int k), .v (.int rest.length), .v (.int L)], by simp [blkG], rfl, ?_⟩
        simp [ce_f_read_1, k_ways, k_moves hc.2]
      rw [List.map_id'] at hc1
      have e2 : ((L + 2 : Nat) : Int) = (L : Int) + 2 := by omega
      have r1 := r1I_nat (n := L + 2) (by omega)
      rw [e2] at r1
      have hsz : (rest.map D.str).length ≤ sizeLine := by
        show _ ≤ 16777216
        simp; omega
      generalize (List.range (L + 2)).map (colD rest.length L) = C at hc1 hb
      have hch3 : ∀ s4 : S, ch3 mLe mLe (xC (.int 12)) [.v (.str t), .v (.lst P), .v (.int L), .v (.int rest.length), s4] (some (.d (.int 1))) (some (.d (.int rest.length))) = some (.d (.bl true)) := fun s4 => by
        rw [ch3_le (k := 12) (by simp), decide_eq_true hch]
      have hyc : yComp (xFix (xSl (xVar 1) (xP (xC (.int 1))) (xP (xNeg (xC (.int 1)))))) [none, some 4] (gSet 0) xTrue ce_f_read_2 yRow [.v (.str t), .v (.lst P), .v (.int L), .v (.int rest.length), .v (.lst C)] = b := by
        unfold yComp
        have e5 : xFix (xSl (xVar 1) (xP (xC (.int 1))) (xP (xNeg (xC (.int 1))))) [.v (.str t), .v (.lst P), .v (.int L), .v (.int rest.length), .v (.lst C)] = some (rest.map D.str) := by
          simp [slB, hcut]
        rw [e5]
        show (decide ((rest.map D.str).length ≤ sizeLine) && compX (gSet 0) xTrue ce_f_read_2 yRow (blkG [none, some 4] _) (rest.map D.str)) = b
        rw [decide_eq_true hsz, Bool.true_and]
        have e6 : blkG [none, some 4] [.v (.str t), .v (.lst P), .v (.int L), .v (.int rest.length), .v (.lst C)] = [.un, .v (.lst C)] := rfl
        rw [e6]; exact hb
      have g0 : startG 5 [D.str t] = [.v (.str t), .un, .un, .un, .un] := rfl
      rw [g0]
      unfold y_f_read
      rw [ySeq_nx (g := [.v (.str t), .un, .un, .un, .un]) (by simp [yIf]) (by simp)]
      rw [ySeq_nx (g := [.v (.str t), .v (.lst P), .un, .un, .un]) rfl (by simp only [r_sSet, r_x2, r_xVar, r_xC, nl_eq]; simp [hs])]
      rw [ySeq_nx (g := [.v (.str t), .v (.lst P), .un, .un, .un]) (by simp only [yIf, r_xT, r_x2, r_xVar, r_xC, r_xNeg, e0_eq]; simp [hlast, hE]) (by simp only [r_sIf, r_xT, r_x2, r_xVar, r_xC, r_xNeg, e0_eq]; simp [hlast, hE])]
      rw [ySeq_nx (g := [.v (.str t), .v (.lst P), .v (.int L), .un, .un]) (by simp only [yCall, r_xCons, r_x2, r_xVar, r_xC, r_xNil]; simp [h0, h0', hxl]) (by simp only [r_sSet, r_xFn, r_xCons, r_x2, r_xVar, r_xC, r_xNil]; simp [h0, h0', hlet])]
      rw [ySeq_nx (g := [.v (.str t), .v (.lst P), .v (.int L), .v (.int rest.length), .un]) rfl (by simp only [r_sSet, r_x2, r_xCall, r_xCons, r_xVar, r_xC, r_xNil]; simp [hlen, ec])]
      rw [ySeq_nx (g := [.v (.str t), .v (.lst P), .v (.int L), .v (.int rest.length), .un]) (by simp only [yIf, r_xNot, r_xT, r_x3, r_xVar, r_xC]; simp [hch3]) (by simp only [r_sIf, r_xNot, r_xT, r_x3, r_xVar, r_xC]; simp [hch3])]
      rw [ySeq_nx (g := [.v (.str t), .v (.lst P), .v (.int L), .v (.int rest.length), .v (.lst C)]) rfl (by simp only [r_sSet, r_xL, r_xComp, r_xR1, r_xCons, r_x2, r_xVar, r_xC, r_xNil]; simp [r1, hc1])]
      show ((xVar 2 [.v (.str t), .v (.lst P), .v (.int L), .v (.int rest.length), .v (.lst C)]).isSome && _) = b
      rw [hyc]
      rfl
    · have hb := hb2 hc
      have hch : ¬ ((1 : Int) ≤ rest.length ∧ (rest.length : Int) ≤ 12) := by omega
      have hch3 : ∀ s4 : S, ch3 mLe mLe (xC (.int 12)) [.v (.str t), .v (.lst P), .v (.int L), .v (.int rest.length), s4] (some (.d (.int 1))) (some (.d (.int rest.length))) = some (.d (.bl false)) := fun s4 => by
        rw [ch3_le (k := 12) (by simp), decide_eq_false hch]
      rw [hb]
      simp only [y_f_read, startG, ySeq, yIf, yCall, r_yNo, r_yAll, Bool.false_or, r_sIf, r_sSet, r_xNot, r_xT, r_xCall, r_xCons, r_xVar, r_xNil, r_xTy, r_x2, r_x3, r_xC, nl_eq, e0_eq]
      simp [hs, hlast, hE, h0, h0', hxl, hlet, hlen, ec, hch3]
  constructor
  · rintro ⟨hc, hok⟩
    exact reduce false (fun _ => rows_ok hc.2 hL3 rest htl hok) fun z => absurd hc z
  · intro hb
    refine reduce true (fun hc => ?_) fun _ => rfl
    have : ∃ l ∈ rest, ¬ okLine rest.length L l := by
      by_cases z : ∃ l ∈ rest, ¬ okLine rest.length L l
      · exact z
      · exact absurd ⟨hc, fun l hl => by
          by_cases q : okLine rest.length L l
          · exact q
          · exact absurd ⟨l, hl, q⟩ z⟩ hb
    exact rows_bad hc.2 hL3 rest htl this
theorem x_read_good {t : Str} (ht : Tame t) (h : Good t) : x_f_read [.str t] = false := by
  obtain ⟨L, rooms, ok, _, hsp⟩ := good_split h
  refine (x_read_rest ht ok.l1 ok.l3 hsp).1 ⟨⟨by simpa using ok.r1, by simpa using ok.r12⟩, fun l hl => ?_⟩
  obtain ⟨rm, hm, rfl⟩ := List.mem_map.mp hl
  exact ⟨rm, by simpa using ok.all rm hm, rfl⟩
theorem x_read_bad {t : Str} (ht : Tame t) (h : ¬ Good t) : x_f_read [.str t] = true := by
  have hs := o_split (x := t) (y := nlS) rfl (by have := ht.len; omega)
  rcases shape t with ⟨e1, e2⟩ | ⟨f, c, _, _, xs, z, e2, hz⟩ | ⟨t', l0, rest, _, _, e2⟩
  · rw [e2] at hs
    refine x_read_letters ht hs rfl rfl tame_e0 ?_
    rw [x_letters tame_e0]
    have : ¬ (e0S = numS 1 ∨ e0S = numS 2 ∨ e0S = numS 3) := by decide +kernel
    rw [decide_eq_false this]; rfl
  · have hzt : Tame z := ht.part (sep := nlS) (by rw [e2]; simp)
    rw [e2, List.map_append] at hs
    exact x_read_last ht hs (atI_last (xs := xs.map D.str)) hzt hz
  · have hl0 : Tame l0 := ht.part (sep := nlS) (by rw [e2]; simp)
    by_cases hl : l0 = numS 1 ∨ l0 = numS 2 ∨ l0 = numS 3
    · obtain ⟨L, h1, h3, e⟩ : ∃ L, 1 ≤ L ∧ L ≤ 3 ∧ l0 = numS L := by
        rcases hl with e | e | e
        · exact ⟨1, by omega, by omega, e⟩
        · exact ⟨2, by omega, by omega, e⟩
        · exact ⟨3, by omega, by omega, e⟩
      subst e
      refine (x_read_rest ht h1 h3 e2).2 fun z => h (good_of e2 h1 h3 z.1.1 z.1.2 z.2)
    · rw [e2] at hs
      have e3 : (l0 :: rest ++ [e0S]).map D.str = D.str l0 :: (rest.map D.str ++ [.str e0S]) := by simp
      rw [e3] at hs
      refine x_read_letters ht hs (atI_last (xs := D.str l0 :: rest.map D.str)) rfl hl0 ?_
      rw [x_letters hl0, decide_eq_false hl]; rfl
end Py

namespace Py
open PySem L2 DD Pu
/-! ### what the law asks of a text -/
theorem due_ok {n L : Nat} {d0 : D} {lines : List D} (hn : n ≤ 12) (hL : L ≤ 3) (hlen : lines.length = n + 1) : ∀ (ls : List Str) (rooms0 : List D) (s4 s5 s6 s7 : S), (∀ l ∈ ls, Tame l) → rooms0.length + ls.length < 1000 → (∀ l ∈ ls, okLine n L l) →
    ∃ rms : List (List (Mv Str)), ls = rms.map txRoom ∧ (∀ rm ∈ rms, OkRoom n L rm) ∧ ∃ t4 t5 t6 t7, forL (gSet 4) lb_f_law_due_1 (ls.map D.str) [.v d0, .v (.lst lines), .v (.int L), .ol rooms0, s4, s5, s6, s7] = some (.nx [.v d0, .v (.lst lines), .v (.int L), .ol (rooms0 ++ rms.map encRoom), t4, t5, t6, t7])
  | [], rooms0, s4, s5, s6, s7, _, _, _ => ⟨[], rfl, by simp, s4, s5, s6, s7, by simp [forL]⟩
  | l :: r, rooms0, s4, s5, s6, s7, ht, hz, h => by
    rw [List.length_cons] at hz
    rcases q_line (n := n) (L := L) (d0 := d0) (lines := lines) (rooms := rooms0) (line := l) (s5 := s5) (s6 := s6) (s7 := s7) hn hL hlen (by omega) (ht l List.mem_cons_self) with ⟨rm, ok, e, t4, t5, t6, t7, hb⟩ | ⟨hno, _⟩
    · obtain ⟨rms, e2, hr, u4, u5, u6, u7, hf⟩ := due_ok (d0 := d0) hn hL hlen r (rooms0 ++ [encRoom rm]) t4 t5 t6 t7 (fun x hx => ht x (List.mem_cons_of_mem _ hx)) (by rw [List.length_append, List.length_singleton]; omega) fun x hx => h x (List.mem_cons_of_mem _ hx)
      refine ⟨rm :: rms, by rw [e, e2]; rfl, fun x hx => ?_, u4, u5, u6, u7, ?_⟩
      · rcases List.mem_cons.mp hx with rfl | hx
        · exact ok
        · exact hr x hx
      · rw [List.map_cons, forL_step rfl hb, hf]
        simp
    · exact absurd (h l List.mem_cons_self) hno
theorem due_bad {n L : Nat} {d0 : D} {lines : List D} (hn : n ≤ 12) (hL : L ≤ 3) (hlen : lines.length = n + 1) : ∀ (ls : List Str) (rooms0 : List D) (s4 s5 s6 s7 : S), (∀ l ∈ ls, Tame l) → rooms0.length + ls.length < 1000 → (∃ l ∈ ls, ¬ okLine n L l) →
    forL (gSet 4) lb_f_law_due_1 (ls.map D.str) [.v d0, .v (.lst lines), .v (.int L), .ol rooms0, s4, s5, s6, s7] = some (.rt .non)
  | [], _, _, _, _, _, _, _, h => by obtain ⟨l, h1, _⟩ := h; cases h1
  | l :: r, rooms0, s4, s5, s6, s7, ht, hz, h => by
    rw [List.length_cons] at hz
    rcases q_line (n := n) (L := L) (d0 := d0) (lines := lines) (rooms := rooms0) (line := l) (s5 := s5) (s6 := s6) (s7 := s7) hn hL hlen (by omega) (ht l List.mem_cons_self) with ⟨rm, ok, e, t4, t5, t6, t7, hb⟩ | ⟨_, hb⟩
    · have hf := due_bad (d0 := d0) hn hL hlen r (rooms0 ++ [encRoom rm]) t4 t5 t6 t7 (fun x hx => ht x (List.mem_cons_of_mem _ hx)) (by rw [List.length_append, List.length_singleton]; omega) (by
        obtain ⟨x, hx, hbx⟩ := h
        rcases List.mem_cons.mp hx with rfl | hx
        · exact absurd ⟨rm, ok, e⟩ hbx
        · exact ⟨x, hx, hbx⟩)
      rw [List.map_cons, forL_step rfl hb, hf]
    · rw [List.map_cons]
      exact forL_stop rfl hb
theorem int_num : ∀ r : Fin 12, PySem.intText? (numS r.val) = some (r.val : Int) := by decide +kernel
theorem cut_tail {a : D} {xs : List D} : cutD (a :: xs) (some 1) none = xs := by
  have e1 : HT.sIx (a :: xs).length 0 (some 1) = 1 := by simp [HT.sIx]
  have e2 : HT.sIx (a :: xs).length (a :: xs).length none = xs.length + 1 := by simp [HT.sIx]
  unfold cutD
  rw [e1, e2]
  simp
theorem due_no_end {t z : Str} (ht : Tame t) (hz : Txt.slice t (some (-1)) none = z) (hne : z ≠ nlS) : m_f_law_due [.str t] = some .non := by
  refine mir_rt rfl ?_
  have s2 := o_slS (z := t) (lo := some (-1)) (hi := none) ht.sz
  have hzt : Tame z := by rw [← hz]; exact ht.slice
  rw [hz] at s2
  have hE := eqS (neg := true) (x := z) (y := nlS) hzt (tame_one (by decide))
  rw [if_pos rfl, decide_eq_false hne] at hE
  simp only [b_f_law_due, startG, r_sSeq, r_sIf, r_xOr, r_xNot, r_xT, r_xCall, r_xCons, r_xVar, r_xNil, r_xTy, r_x2, r_xC, nl_eq]
  simp [s2, hE]
theorem due_rest {t t' l0 : Str} {rest : List Str} (ht : Tame t) (he : t.cps.toList = t'.cps.toList ++ [10]) (hs' : Txt.split t' nlS = l0 :: rest) (hsp : Txt.split t nlS = l0 :: rest ++ [e0S]) :
    (¬ Good t → m_f_law_due [.str t] = some .non) ∧ ∀ L rooms, OkM L rooms → t = txText L rooms → m_f_law_due [.str t] = some (encM L rooms) := by
  have s1 := o_slS (z := t) (lo := none) (hi := some (-1)) ht.sz
  have s2 := o_slS (z := t) (lo := some (-1)) (hi := none) ht.sz
  have e1 : Txt.slice t none (some (-1)) = t' := by rw [Tx.slice_init he]
  have e2 : Txt.slice t (some (-1)) none = nlS := Tx.slice_last he
  have ht' : Tame t' := by rw [← e1]; exact ht.slice
  rw [e1] at s1
  rw [e2] at s2
  have hE := eqS (neg := true) (x := nlS) (y := nlS) (tame_one (by decide)) (tame_one (by decide))
  rw [if_pos rfl, decide_eq_true rfl] at hE
  have hs := o_split (x := t') (y := nlS) rfl (by have := ht'.len; omega)
  rw [hs', List.map_cons] at hs
  have hl0 : Tame l0 := ht'.part (sep := nlS) (by rw [hs']; simp)
  have htl : ∀ l ∈ rest, Tame l := fun l hl => ht'.part (sep := nlS) (by rw [hs']; simp [hl])
  have hin := inS (neg := true) (x := l0) (ys := [numS 1, numS 2, numS 3]) (b := .d (.tup [.str (numS 1), .str (numS 2), .str (numS 3)])) rfl hl0 (by
    intro y hy
    simp at hy
    rcases hy with rfl | rfl | rfl
    · exact numT (by decide)
    · exact numT (by decide)
    · exact numT (by decide))
  have hcut := cut_tail (a := D.str l0) (xs := rest.map D.str)
  have hPl : (D.str l0 :: rest.map D.str).length = rest.length + 1 := by simp
  generalize hP : D.str l0 :: rest.map D.str = P at hs hcut hPl
  have h0 : P[0]? = some (.str l0) := by rw [← hP]; rfl
  have h0' : P[0]'(by omega) = .str l0 := by
    have := h0
    rw [List.getElem?_eq_getElem (by omega)] at this
    exact Option.some.inj this
  have g0 : startG 8 [D.str t] = [.v (.str t), .un, .un, .un, .un, .un, .un, .un] := rfl
  have first : ∀ o, (sSeq (sIf (xOr (xT (x2 (mIn true) (x2 mIx (xVar 1) (xC (.int 0))) (xTup (xCons (xC (.str "1")) (xCons (xC (.str "2")) (xCons (xC (.str "3")) xNil)))))) (xNot (xT (x3 mLe mLe (xC (.int 2)) (xCall mLen (xCons (xVar 1) xNil)) (xC (.int 13)))))) (sRet (xC .non)) sNext) (sSeq (sSet 2 (xCall mIntA (xCons (x2 mIx (xVar 1) (xC (.int 0))) xNil))) (sSeq (sOwn 3 (xLst xNil)) (sSeq (sFor (xFix (xSl (xVar 1) (xP (xC (.int 1))) xNoP)) (gSet 4) lb_f_law_due_1) (sRet (xTup (xCons (xVar 2) (xCons (xCall mTup (xCons (xVar 3) xNil)) xNil)))))))) [.v (.str t), .v (.lst P), .un, .un, .un, .un, .un, .un] = some (.rt o) → m_f_law_due [.str t] = some o := fun o ho => by
    refine mir_rt rfl ?_
    rw [g0]
    unfold b_f_law_due
    rw [r_sSeq]
    have i1 : (sIf (xOr (xNot (xT (xCall mIsi (xCons (xVar 0) (xCons (xTy .str) xNil))))) (xT (x2 (mEq true) (xSlS (xVar 0) (xP (xNeg (xC (.int 1)))) xNoP) (xC (.str "\n"))))) (sRet (xC .non)) sNext) [.v (.str t), .un, .un, .un, .un, .un, .un, .un] = some (.nx [.v (.str t), .un, .un, .un, .un, .un, .un, .un]) := by
      simp only [r_sIf, r_xOr, r_xNot, r_xT, r_xCall, r_xCons, r_xVar, r_xNil, r_xTy, r_x2, r_xC, nl_eq]
      simp [s2, hE]
    rw [i1, thenO_nx, r_sSeq]
    have i2 : (sSet 1 (x2 mSplit (xSlS (xVar 0) xNoP (xP (xNeg (xC (.int 1))))) (xC (.str "\n")))) [.v (.str t), .un, .un, .un, .un, .un, .un, .un] = some (.nx [.v (.str t), .v (.lst P), .un, .un, .un, .un, .un, .un]) := by
      simp only [r_sSet, r_x2, r_xSlS, r_xVar, r_xC, r_xNoP, r_xP, r_xNeg, nl_eq]
      simp [s1, hs]
    rw [i2, thenO_nx]
    exact ho
  -- the letters
  by_cases hl : l0 = numS 1 ∨ l0 = numS 2 ∨ l0 = numS 3
  · obtain ⟨L, hL1, hL3, e⟩ : ∃ L, 1 ≤ L ∧ L ≤ 3 ∧ l0 = numS L := by
      rcases hl with e | e | e
      · exact ⟨1, by omega, by omega, e⟩
      · exact ⟨2, by omega, by omega, e⟩
      · exact ⟨3, by omega, by omega, e⟩
    have hmem : l0 ∈ [numS 1, numS 2, numS 3] := by simpa using hl
    rw [if_pos rfl, decide_eq_true hmem] at hin
    have hint := o_intS (x := l0) (by rw [e]; have h2 : (numS L).length ≤ 2 := (plain_of (num_plain ⟨L, by omega⟩)).len; omega)
    rw [e, int_num ⟨L, by omega⟩, Option.map_some] at hint
    rw [← e] at hint
    by_cases hc : 1 ≤ rest.length ∧ rest.length ≤ 12
    · have hch : (2 : Int) ≤ ((rest.length + 1 : Nat) : Int) ∧ ((rest.length + 1 : Nat) : Int) ≤ 13 := by omega
      have hch3 : ∀ Γ : G, ch3 mLe mLe (xC (.int 13)) Γ (some (.d (.int 2))) (some (.d (.int ((rest.length + 1 : Nat) : Int)))) = some (.d (.bl true)) := fun Γ => by
        rw [ch3_le (k := 13) (by simp), decide_eq_true hch]
      have j1 : (sIf (xOr (xT (x2 (mIn true) (x2 mIx (xVar 1) (xC (.int 0))) (xTup (xCons (xC (.str "1")) (xCons (xC (.str "2")) (xCons (xC (.str "3")) xNil)))))) (xNot (xT (x3 mLe mLe (xC (.int 2)) (xCall mLen (xCons (xVar 1) xNil)) (xC (.int 13)))))) (sRet (xC .non)) sNext) [.v (.str t), .v (.lst P), .un, .un, .un, .un, .un, .un] = some (.nx [.v (.str t), .v (.lst P), .un, .un, .un, .un, .un, .un]) := by
        simp only [r_sIf, r_xOr, r_xNot, r_xT, r_x3, r_xCall, r_xCons, r_xVar, r_xNil, r_x2, r_xC, r_xTup, n1, n2, n3]
        simp [h0, h0', hin]
        simp only [hPl]
        rw [hch3]
        simp
      have j2 : (sSet 2 (xCall mIntA (xCons (x2 mIx (xVar 1) (xC (.int 0))) xNil))) [.v (.str t), .v (.lst P), .un, .un, .un, .un, .un, .un] = some (.nx [.v (.str t), .v (.lst P), .v (.int L), .un, .un, .un, .un, .un]) := by
        simp only [r_sSet, r_xCall, r_xCons, r_x2, r_xVar, r_xC, r_xNil]
        simp [h0, h0', hint]
      have j3 : (sOwn 3 (xLst xNil)) [.v (.str t), .v (.lst P), .v (.int L), .un, .un, .un, .un, .un] = some (.nx [.v (.str t), .v (.lst P), .v (.int L), .ol [], .un, .un, .un, .un]) := by simp
      have j4 : xFix (xSl (xVar 1) (xP (xC (.int 1))) xNoP) [.v (.str t), .v (.lst P), .v (.int L), .ol [], .un, .un, .un, .un] = some (rest.map D.str) := by
        simp [slB, hcut]
      have hbad : (¬ ∀ l ∈ rest, okLine rest.length L l) → m_f_law_due [.str t] = some .non := fun hb => by
        have : ∃ l ∈ rest, ¬ okLine rest.length L l := by
          by_cases z : ∃ l ∈ rest, ¬ okLine rest.length L l
          · exact z
          · exact absurd (fun l hl => by
              by_cases q : okLine rest.length L l
              · exact q
              · exact absurd ⟨l, hl, q⟩ z) hb
        have hf := due_bad (d0 := .str t) (lines := P) hc.2 hL3 hPl rest [] .un .un .un .un htl (by simp; omega) this
        refine first _ ?_
        rw [r_sSeq, j1, thenO_nx, r_sSeq, j2, thenO_nx, r_sSeq, j3, thenO_nx, r_sSeq, r_sFor, j4, forO_some, hf, thenO_rt]
      refine ⟨fun hg => hbad fun hok => hg (good_of (by rw [hsp, e]) hL1 hL3 hc.1 hc.2 hok), fun L' rooms ok et => ?_⟩
      have hts := text_split ok.tx
      rw [← et, hsp] at hts
      have hts' : l0 :: rest = txLines L' rooms := List.append_inj_left' hts rfl
      have hl0' : l0 = numS L' := (List.cons.inj hts').1
      have hre : rest = rooms.map txRoom := (List.cons.inj hts').2
      have hLL : L' = L := by
        rw [e] at hl0'
        have := num_inj ⟨L, by omega⟩ ⟨L', by have := ok.l3; omega⟩ hl0'
        exact (Fin.mk.inj this).symm
      subst hLL
      have hrl : rest.length = rooms.length := by rw [hre]; simp
      obtain ⟨rms, e3, hr, t4, t5, t6, t7, hf⟩ := due_ok (d0 := .str t) (lines := P) hc.2 hL3 hPl rest [] .un .un .un .un htl (by simp; omega) (fun l hl => by
        rw [hre] at hl
        obtain ⟨rm, hm, rfl⟩ := List.mem_map.mp hl
        exact ⟨rm, by rw [hrl]; exact ok.all rm hm, rfl⟩)
      have hrr : rms = rooms := by
        rw [hre] at e3
        have inj : ∀ (as bs : List (List (Mv Str))), (∀ a ∈ as, OkRoom rest.length L' a) → (∀ b ∈ bs, OkRoom rest.length L' b) → as.map txRoom = bs.map txRoom → as = bs := by
          intro as
          induction as with
          | nil => intro bs _ _ h; cases bs with
            | nil => rfl
            | cons b r => cases h
          | cons a r ih =>
            intro bs ha hb h
            cases bs with
            | nil => cases h
            | cons b r' =>
              rw [List.map_cons, List.map_cons] at h
              obtain ⟨h1, h2⟩ := List.cons.inj h
              have oa := ha a List.mem_cons_self
              have ob := hb b List.mem_cons_self
              have sa := room_split (oa.a hc.2) (by intro z; have := oa.len; rw [z] at this; simp at this)
              have sb := room_split (ob.a hc.2) (by intro z; have := ob.len; rw [z] at this; simp at this)
              rw [h1, sb] at sa
              have : a = b := by
                refine List.ext_getElem (by rw [oa.len, ob.len]) fun k k1 k2 => ?_
                have q := congrArg (fun l : List Str => l[k]?) sa
                simp only [List.getElem?_map, List.getElem?_eq_getElem k1, List.getElem?_eq_getElem k2, Option.map_some] at q
                exact ((oa.mvs k k1).a hc.2).inj ((ob.mvs k k2).a hc.2) (Option.some.inj q).symm
              rw [this, ih r' (fun x hx => ha x (List.mem_cons_of_mem _ hx)) (fun x hx => hb x (List.mem_cons_of_mem _ hx)) h2]
        exact (inj rooms rms (fun a ha => by rw [hrl]; exact ok.all a ha) hr e3).symm
      rw [hrr] at hf
      refine first _ ?_
      rw [r_sSeq, j1, thenO_nx, r_sSeq, j2, thenO_nx, r_sSeq, j3, thenO_nx, r_sSeq, r_sFor, j4, forO_some, hf, thenO_nx]
      simp [encM]
    · have hch : ¬ ((2 : Int) ≤ ((rest.length + 1 : Nat) : Int) ∧ ((rest.length + 1 : Nat) : Int) ≤ 13) := by omega
      have hch3 : ∀ Γ : G, ch3 mLe mLe (xC (.int 13)) Γ (some (.d (.int 2))) (some (.d (.int ((rest.length + 1 : Nat) : Int)))) = some (.d (.bl false)) := fun Γ => by
        rw [ch3_le (k := 13) (by simp), decide_eq_false hch]
      have hnon : m_f_law_due [.str t] = some .non := by
        refine first _ ?_
        rw [r_sSeq]
        have j1 : (sIf (xOr (xT (x2 (mIn true) (x2 mIx (xVar 1) (xC (.int 0))) (xTup (xCons (xC (.str "1")) (xCons (xC (.str "2")) (xCons (xC (.str "3")) xNil)))))) (xNot (xT (x3 mLe mLe (xC (.int 2)) (xCall mLen (xCons (xVar 1) xNil)) (xC (.int 13)))))) (sRet (xC .non)) sNext) [.v (.str t), .v (.lst P), .un, .un, .un, .un, .un, .un] = some (.rt .non) := by
          simp only [r_sIf, r_xOr, r_xNot, r_xT, r_x3, r_xCall, r_xCons, r_xVar, r_xNil, r_x2, r_xC, r_xTup, n1, n2, n3]
          simp [h0, h0', hin]
          simp only [hPl]
          rw [hch3]
          simp
        rw [j1, thenO_rt]
      refine ⟨fun _ => hnon, fun L' rooms ok et => ?_⟩
      have hts := text_split ok.tx
      rw [← et, hsp] at hts
      have hts' : l0 :: rest = txLines L' rooms := List.append_inj_left' hts rfl
      have hre : rest = rooms.map txRoom := (List.cons.inj hts').2
      exact absurd ⟨by rw [hre]; simpa using ok.r1, by rw [hre]; simpa using ok.r12⟩ hc
  · have hmem : ¬ l0 ∈ [numS 1, numS 2, numS 3] := by simpa using hl
    rw [if_pos rfl, decide_eq_false hmem] at hin
    have hnon : m_f_law_due [.str t] = some .non := by
      refine first _ ?_
      rw [r_sSeq]
      have j1 : (sIf (xOr (xT (x2 (mIn true) (x2 mIx (xVar 1) (xC (.int 0))) (xTup (xCons (xC (.str "1")) (xCons (xC (.str "2")) (xCons (xC (.str "3")) xNil)))))) (xNot (xT (x3 mLe mLe (xC (.int 2)) (xCall mLen (xCons (xVar 1) xNil)) (xC (.int 13)))))) (sRet (xC .non)) sNext) [.v (.str t), .v (.lst P), .un, .un, .un, .un, .un, .un] = some (.rt .non) := by
        simp only [r_sIf, r_xOr, r_xT, r_xCons, r_xVar, r_xNil, r_x2, r_xC, r_xTup, n1, n2, n3]
        simp [h0, h0', hin]
      rw [j1, thenO_rt]
    refine ⟨fun _ => hnon, fun L' rooms ok et => ?_⟩
    have hts := text_split ok.tx
    rw [← et, hsp] at hts
    have hts' : l0 :: rest = txLines L' rooms := List.append_inj_left' hts rfl
    have hl0' : l0 = numS L' := (List.cons.inj hts').1
    have h1 := ok.l1
    have h3 := ok.l3
    have : L' = 1 ∨ L' = 2 ∨ L' = 3 := by omega
    exact absurd (by rcases this with rfl | rfl | rfl <;> simp [hl0']) hl
theorem due_text {t : Str} (ht : Tame t) : (¬ Good t → m_f_law_due [.str t] = some .non) ∧ ∀ L rooms, OkM L rooms → t = txText L rooms → m_f_law_due [.str t] = some (encM L rooms) := by
  rcases shape t with ⟨e1, e2⟩ | ⟨f, c, e1, hc, xs, z, e2, hz⟩ | ⟨t', l0, rest, e0, e1, e2⟩
  · have hd := due_no_end (z := e0S) ht (by rw [e1]; exact Tx.slice_e0) (by decide +kernel)
    refine ⟨fun _ => hd, fun L rooms ok et => ?_⟩
    have hts := text_split ok.tx
    rw [← et, e2] at hts
    have := congrArg List.length hts
    simp [txLines] at this
  · have hd := due_no_end (z := ⟨#[c]⟩) ht (Tx.slice_last e1) (fun h => hc (by simpa using congrArg (fun s : Str => s.cps.toList) h))
    refine ⟨fun _ => hd, fun L rooms ok et => ?_⟩
    have hts := text_split ok.tx
    rw [← et, e2] at hts
    have := List.append_inj_right' hts rfl
    exact absurd (List.cons.inj this).1 hz
  · exact due_rest ht e0 e1 e2
end Py

namespace Py
open PySem L2 DD Pu
theorem okMv {n L c : Nat} {m : Mv Str} (h : OkMv n L c m) : OkD 1 (encMv m) := by
  cases m with
  | fin s => exact OkD.str (by rcases h with rfl | rfl <;> decide +kernel)
  | go r b => exact OkD.tup (n := 0) (by simp [OkD.int])
theorem okRoom {n L : Nat} {rm : List (Mv Str)} (h : OkRoom n L rm) : OkD 2 (encRoom rm) := OkD.tup (n := 1) (by
  intro d hd
  obtain ⟨m, hm, rfl⟩ := List.mem_map.mp hd
  obtain ⟨k, hk, rfl⟩ := List.mem_iff_getElem.mp hm
  exact okMv (h.mvs k hk))
theorem okMach {L : Nat} {rooms : List (List (Mv Str))} (h : OkM L rooms) : OkD 4 (encM L rooms) := OkD.tup (n := 3) (by
  intro d hd
  simp only [List.mem_cons, List.not_mem_nil, or_false] at hd
  rcases hd with rfl | rfl
  · exact OkD.int
  · refine OkD.tup (n := 2) fun d hd => ?_
    obtain ⟨m, hm, rfl⟩ := List.mem_map.mp hd
    exact okRoom (h.all _ hm))
/-! ### the law's own writing -/
theorem sg_eq : Str.ofString "<>" = ⟨#[60, 62]⟩ := by decide +kernel
theorem q_part {m : Mv Str} (h : AMv m) : m_f_law_part [encMv m] = some (.str (txMv m)) := by
  refine mir_rt rfl ?_
  cases m with
  | fin s => simp [b_f_law_part, startG, encMv, txMv]
  | go r b =>
    have hr : r < 12 := h
    have hp := plain_of (num_plain ⟨r, hr⟩)
    have h1 := o_num (r := r) (by omega)
    have l1 : (numS r).length ≤ 2 := hp.len
    have c1 := o_cat (a := numS r) (b := Str.ofString ">") (by rw [len_gt]; omega)
    have c2 := o_cat (a := numS r) (b := Str.ofString "<") (by rw [len_lt]; omega)
    have x0 : mIxS (.d (.str (Str.ofString "<>"))) (.d (.int 0)) = some (.str (Str.ofString "<")) := by
      rw [o_ixS (by decide +kernel), sg_eq, lt_eq]; rfl
    have x1 : mIxS (.d (.str (Str.ofString "<>"))) (.d (.int 1)) = some (.str (Str.ofString ">")) := by
      rw [o_ixS (by decide +kernel), sg_eq, gt_eq]; rfl
    cases b <;> simp [b_f_law_part, startG, encMv, txMv, h1, x0, x1, c1, c2]
theorem q_written {L : Nat} {rooms : List (List (Mv Str))} (h : OkM L rooms) : m_f_law_written [encM L rooms] = some (.str (txText L rooms)) := by
  have hx := h.tx
  have hL : L ≤ 3 := h.l3
  have h12 := h.r12
  refine mir_rt rfl ?_
  have hs := o_num (r := L) (by omega)
  have hrow : ∀ rm ∈ rooms, ce_f_law_written_2 [.v (encRoom rm)] = some (.d (.str (txRoom rm))) := fun rm hm => by
    obtain ⟨q1, q2⟩ := hx.all rm hm
    have hc := parts_comp (Γ := [.v (encRoom rm)]) (el := ce_f_law_written_1) q1 q2 fun m hm' => by
      simp [ce_f_law_written_1, q_part (q1 m hm')]
    have hj := o_join (sep := Str.ofString " ") (b := .d (.lst ((rm.map txMv).map D.str))) rfl (join_ok (k := 3) (by decide +kernel) (fun x hx => (room_tx q1 x hx).len) (by simp; omega))
    rw [tjoin, sp_eq] at hj
    have e2 : fixO (some (B.d (encRoom rm))) = some (rm.map encMv) := id rfl
    simp only [ce_f_law_written_2, r_x2, r_xC, r_xL, r_xComp, r_xFix, r_xVar, sp_eq]
    simp [e2, hc, hj, txRoom, -List.map_map]
  have hc1 := compO_is (Γ := [.v (encM L rooms), .un]) (ms := [none]) (t := gSet 0) (cond := xTrue) (el := ce_f_law_written_2) (ds := rooms.map encRoom) D.str (rooms.map txRoom) (by simp) (by simp; omega) fun k hk => by
    have hk' : k < rooms.length := by simpa using hk
    refine ⟨[.v (encRoom rooms[k])], by simp [blkG], rfl, ?_⟩
    rw [hrow _ (List.getElem_mem hk')]
    simp
  have e1 : [D.str (numS L)] ++ (rooms.map txRoom).map D.str = (txLines L rooms).map D.str := by simp [txLines]
  have hc2 := compO_is (Γ := [.v (encM L rooms), .v (.lst ((txLines L rooms).map D.str))]) (ms := [none]) (t := gSet 0) (cond := xTrue) (el := ce_f_law_written_3) (ds := (txLines L rooms).map D.str) D.str ((txLines L rooms).map fun x => x ++ nlS) (by simp) (by simp [txLines]; omega) fun k hk => by
    have hk' : k < (txLines L rooms).length := by simpa using hk
    have hp := (line_plain hx _ (List.getElem_mem hk')).1
    refine ⟨[.v (.str (txLines L rooms)[k])], by simp [blkG], rfl, ?_⟩
    have := o_cat (a := (txLines L rooms)[k]) (b := nlS) (by have : nlS.length = 1 := rfl; omega)
    simp only [ce_f_law_written_3, r_x2, r_xVar, r_xC, nl_eq]
    simp [this]
  have hj := o_join (sep := e0S) (b := .d (.lst (((txLines L rooms).map fun x => x ++ nlS).map D.str))) rfl (join_ok (k := 30) (by decide +kernel) (fun x hx' => by
    obtain ⟨y, hy, rfl⟩ := List.mem_map.mp hx'
    have := (line_plain hx y hy).1
    have e : nlS.length = 1 := rfl
    rw [Str.length_append]; omega) (by simp [txLines]; omega))
  rw [tjoin, Tx.lines_eq] at hj
  have c1 : 1 + rooms.length ≤ 16777216 := by omega
  have hadd : mAdd (.d (.lst [.str (numS L)])) (.d (.lst ((rooms.map txRoom).map D.str))) = some (.lst ((txLines L rooms).map D.str)) := by
    rw [o_addL, if_pos (sz _ (by simp; omega)), e1]
  simp only [b_f_law_written, startG, r_sSeq, r_sSet, r_x2, r_xC, e0_eq]
  simp [hs, hc1, hadd, hc2, hj, txText, -List.map_map, -o_addL]
/-! ### spoilt -/
theorem Tame.app {a b : Str} (ha : Tame a) (hb : Tame b) (h : a.length + b.length ≤ 10000) : Tame (a ++ b) := ⟨by rw [Str.length_append]; exact h, fun c m => by
  rw [Tx.app, List.mem_append] at m
  exact m.elim (ha.asc c) (hb.asc c)⟩
theorem sgn22 : ∀ i : Fin 22, ∃ c, c < 128 ∧ (Str.ofString " \n0123456789<>-+yesno.").cps.toList[i.val]? = some c := by
  intro i
  have h : ∀ i : Fin 22, (match (Str.ofString " \n0123456789<>-+yesno.").cps.toList[i.val]? with | some c => decide (c < 128) | none => false) = true := by decide +kernel
  have := h i
  cases e : (Str.ofString " \n0123456789<>-+yesno.").cps.toList[i.val]? with
  | none => rw [e] at this; cases this
  | some c => rw [e] at this; exact ⟨c, by simpa using this, rfl⟩
def A1 : G → Option Out := (sSet 2 (x2 mMod (xVar 1) (x2 mAdd (xCall mLenS (xCons (xVar 0) xNil)) (xC (.int 1)))))
def A2 : G → Option Out := (sSet 3 (x2 mIxS (xC (.str " \n0123456789<>-+yesno.")) (x2 mMod (x2 mDiv (xVar 1) (xC (.int 100))) (xC (.int 22)))))
def A3 : G → Option Out := (sSet 4 (x2 mMod (x2 mDiv (xVar 1) (xC (.int 2200))) (xC (.int 6))))
def tlS : G → Option Out := (sSeq (sIf (xT (x2 (mEq false) (xVar 4) (xC (.int 0)))) (sRet (x2 mCatS (x2 mCatS (xSlS (xVar 0) xNoP (xP (xVar 2))) (xVar 3)) (xSlS (xVar 0) (xP (xVar 2)) xNoP))) sNext) (sSeq (sIf (xT (x2 (mEq false) (xVar 4) (xC (.int 1)))) (sRet (x2 mCatS (xSlS (xVar 0) xNoP (xP (xVar 2))) (xSlS (xVar 0) (xP (x2 mAdd (xVar 2) (xC (.int 1)))) xNoP))) sNext) (sSeq (sIf (xT (x2 (mEq false) (xVar 4) (xC (.int 2)))) (sRet (x2 mCatS (x2 mCatS (xSlS (xVar 0) xNoP (xP (xVar 2))) (xVar 3)) (xSlS (xVar 0) (xP (x2 mAdd (xVar 2) (xC (.int 1)))) xNoP))) sNext) (sSeq (sIf (xT (x2 (mEq false) (xVar 4) (xC (.int 3)))) (sRet (x2 mCatS (xVar 0) (xSlS (xVar 0) (xP (xC (.int 2))) xNoP))) sNext) (sSeq (sIf (xT (x2 (mEq false) (xVar 4) (xC (.int 4)))) (sRet (x2 mCatS (xVar 0) (x2 mIx (xL (xLst (xCons (xC (.str "\n")) (xCons (xC (.str "yes no no\n")) (xCons (xC (.str "0> 0< 0<\n")) (xCons (xC (.str "2\n")) (xCons (xC (.str "00> no no\n")) xNil))))))) (x2 mMod (xVar 1) (xC (.int 5)))))) sNext) (sRet (x2 mIx (xL (xLst (xCons (xC .non) (xCons (xC (.int 5)) (xCons (xL (xLst (xCons (xVar 0) xNil))) (xCons (xSlS (xVar 0) xNoP (xP (xNeg (xC (.int 1))))) (xCons (xC (.str "")) (xCons (xC (.str "2\n")) xNil)))))))) (x2 mMod (xVar 1) (xC (.int 6))))))))))
/-- what a spoilt text may be -/
def Spoil (d : D) : Prop := (∃ t, Tame t ∧ d = .str t) ∨ d = .non ∨ d = .int 5 ∨ ∃ xs, d = .lst xs
theorem if_way {A : G → Option Out} {a b c d : S} {w k : Int} : (sIf (xT (x2 (mEq false) (xVar 4) (xC (.int k)))) A sNext) [a, b, c, d, .v (.int w)] = if w = k then A [a, b, c, d, .v (.int w)] else some (.nx [a, b, c, d, .v (.int w)]) := by
  rw [r_sIf, r_xT, r_x2, r_xVar, r_xC]
  by_cases h : w = k <;> simp [h]
theorem q_spoilt {T : Str} {v : Nat} (hT : Tame T) (hl : T.length ≤ 1000) : ∃ d, m_f_law_spoilt [.str T, .int v] = some d ∧ Spoil d := by
  have hlen := o_lenS hT.sz
  have hp : (0 : Int) < (T.length : Int) + 1 := by omega
  have e1 : (v : Int) % ((T.length : Int) + 1) = ((v % (T.length + 1) : Nat) : Int) := by
    rw [show (T.length : Int) + 1 = ((T.length + 1 : Nat) : Int) by omega]; simp
  generalize v % (T.length + 1) = at_ at e1
  have e2 : (v : Int) / 100 % 22 = ((v / 100 % 22 : Nat) : Int) := by omega
  have h22 : v / 100 % 22 < 22 := Nat.mod_lt _ (by decide)
  obtain ⟨c, hc, hci⟩ := sgn22 ⟨v / 100 % 22, h22⟩
  have hix : mIxS (.d (.str (Str.ofString " \n0123456789<>-+yesno."))) (.d (.int ((v / 100 % 22 : Nat) : Int))) = some (.str ⟨#[c]⟩) := by
    rw [o_ixS (by decide +kernel), atI_n, hci]; rfl
  generalize v / 100 % 22 = sg at e2 hix
  have e3 : (v : Int) / 2200 % 6 = ((v / 2200 % 6 : Nat) : Int) := by omega
  have h6 : v / 2200 % 6 < 6 := Nat.mod_lt _ (by decide)
  generalize v / 2200 % 6 = way at e3 h6
  have tc : Tame ⟨#[c]⟩ := tame_one hc
  have lc : (⟨#[c]⟩ : Str).length = 1 := rfl
  have sl : ∀ lo hi, slSB (.d (.str T)) lo hi = some (.str (Txt.slice T lo hi)) := fun lo hi => o_slS hT.sz
  have ll : ∀ lo hi, (Txt.slice T lo hi).length ≤ 1000 := fun lo hi => Nat.le_trans (Txt.slice_le T lo hi) hl
  have cat : ∀ a b : Str, a.length ≤ 3000 → b.length ≤ 3000 → mCatS (.d (.str a)) (.d (.str b)) = some (.str (a ++ b)) := fun a b h1 h2 => o_cat (by omega)
  have first : ∀ o, tlS [.v (.str T), .v (.int v), .v (.int at_), .v (.str ⟨#[c]⟩), .v (.int way)] = some (.rt o) → m_f_law_spoilt [.str T, .int v] = some o := fun o ho => by
    refine mir_rt rfl ?_
    rw [show b_f_law_spoilt = (sSeq A1 (sSeq A2 (sSeq A3 tlS))) from rfl, show startG 5 [D.str T, D.int v] = [.v (.str T), .v (.int v), .un, .un, .un] from rfl]
    rw [r_sSeq]
    have i1 : A1 [.v (.str T), .v (.int v), .un, .un, .un] = some (.nx [.v (.str T), .v (.int v), .v (.int at_), .un, .un]) := by
      simp only [A1, r_sSet, r_x2, r_xVar, r_xCall, r_xCons, r_xNil, r_xC]
      simp [hlen, o_mod hp, e1]
    rw [i1, thenO_nx, r_sSeq]
    have i2 : A2 [.v (.str T), .v (.int v), .v (.int at_), .un, .un] = some (.nx [.v (.str T), .v (.int v), .v (.int at_), .v (.str ⟨#[c]⟩), .un]) := by
      simp only [A2, r_sSet, r_x2, r_xVar, r_xC]
      simp [o_div (show (0 : Int) < 100 by decide) (by decide), o_mod (show (0 : Int) < 22 by decide), e2, hix]
    rw [i2, thenO_nx, r_sSeq]
    have i3 : A3 [.v (.str T), .v (.int v), .v (.int at_), .v (.str ⟨#[c]⟩), .un] = some (.nx [.v (.str T), .v (.int v), .v (.int at_), .v (.str ⟨#[c]⟩), .v (.int way)]) := by
      simp only [A3, r_sSet, r_x2, r_xVar, r_xC]
      simp [o_div (show (0 : Int) < 2200 by decide) (by decide), o_mod (show (0 : Int) < 6 by decide), e3]
    rw [i3, thenO_nx]
    exact ho
  have text : ∀ t, Tame t → tlS [.v (.str T), .v (.int v), .v (.int at_), .v (.str ⟨#[c]⟩), .v (.int way)] = some (.rt (.str t)) → ∃ d, m_f_law_spoilt [.str T, .int v] = some d ∧ Spoil d := fun t ht h => ⟨_, first _ h, .inl ⟨t, ht, rfl⟩⟩
  have hw : way = 0 ∨ way = 1 ∨ way = 2 ∨ way = 3 ∨ way = 4 ∨ way = 5 := by omega
  have ea : (at_ : Int) + 1 = ((at_ + 1 : Nat) : Int) := by omega
  rcases hw with rfl | rfl | rfl | rfl | rfl | rfl
  · have l1 := ll none (some (at_ : Int))
    have l2 := ll (some (at_ : Int)) none
    have k1 := cat (Txt.slice T none (some (at_ : Int))) ⟨#[c]⟩ (by omega) (by rw [lc]; omega)
    have k2 := cat (Txt.slice T none (some (at_ : Int)) ++ ⟨#[c]⟩) (Txt.slice T (some (at_ : Int)) none) (by rw [Str.length_append, lc]; omega) (by omega)
    have t1 : Tame (Txt.slice T none (some (at_ : Int)) ++ ⟨#[c]⟩) := Tame.app hT.slice tc (by rw [lc]; omega)
    refine text _ (Tame.app t1 (hT.slice (lo := some (at_ : Int)) (hi := none)) (by rw [Str.length_append, lc]; omega)) ?_
    simp only [tlS, r_sSeq, r_sIf, r_xT, r_x2, r_xVar, r_xC, r_sRet, r_xSlS, r_xNoP, r_xP]
    simp [sl, k1, k2]
  · have l1 := ll none (some (at_ : Int))
    have l2 := ll (some ((at_ : Int) + 1)) none
    have k2 := cat (Txt.slice T none (some (at_ : Int))) (Txt.slice T (some ((at_ : Int) + 1)) none) (by omega) (by omega)
    refine text _ (Tame.app (hT.slice (lo := none) (hi := some (at_ : Int))) (hT.slice (lo := some ((at_ : Int) + 1)) (hi := none)) (by omega)) ?_
    simp only [tlS, r_sSeq, r_sIf, r_xT, r_x2, r_xVar, r_xC, r_sRet, r_xSlS, r_xNoP, r_xP]
    simp [sl, k2]
  · have l1 := ll none (some (at_ : Int))
    have l2 := ll (some ((at_ : Int) + 1)) none
    have k1 := cat (Txt.slice T none (some (at_ : Int))) ⟨#[c]⟩ (by omega) (by rw [lc]; omega)
    have k2 := cat (Txt.slice T none (some (at_ : Int)) ++ ⟨#[c]⟩) (Txt.slice T (some ((at_ : Int) + 1)) none) (by rw [Str.length_append, lc]; omega) (by omega)
    have t1 : Tame (Txt.slice T none (some (at_ : Int)) ++ ⟨#[c]⟩) := Tame.app hT.slice tc (by rw [lc]; omega)
    refine text _ (Tame.app t1 (hT.slice (lo := some ((at_ : Int) + 1)) (hi := none)) (by rw [Str.length_append, lc]; omega)) ?_
    simp only [tlS, r_sSeq, r_sIf, r_xT, r_x2, r_xVar, r_xC, r_sRet, r_xSlS, r_xNoP, r_xP]
    simp [sl, k1, k2]
  · have l2 := ll (some 2) none
    have k2 := cat T (Txt.slice T (some 2) none) (by omega) (by omega)
    refine text _ (Tame.app hT (hT.slice (lo := some 2) (hi := none)) (by omega)) ?_
    simp only [tlS, r_sSeq, r_sIf, r_xT, r_x2, r_xVar, r_xC, r_sRet, r_xSlS, r_xNoP, r_xP]
    simp [sl, k2]
  · have e5 : (v : Int) % 5 = ((v % 5 : Nat) : Int) := by omega
    have h5 : v % 5 < 5 := Nat.mod_lt _ (by decide)
    generalize v % 5 = j at e5 h5
    obtain ⟨y, hy, hyl, hyi⟩ : ∃ y, Tame y ∧ y.length ≤ 100 ∧ ([D.str (Str.ofString "\n"), .str (Str.ofString "yes no no\n"), .str (Str.ofString "0> 0< 0<\n"), .str (Str.ofString "2\n"), .str (Str.ofString "00> no no\n")] : List D)[j]? = some (.str y) := by
      have : j = 0 ∨ j = 1 ∨ j = 2 ∨ j = 3 ∨ j = 4 := by omega
      rcases this with rfl | rfl | rfl | rfl | rfl
      · exact ⟨_, tame_of (by decide +kernel), by decide +kernel, rfl⟩
      · exact ⟨_, tame_of (by decide +kernel), by decide +kernel, rfl⟩
      · exact ⟨_, tame_of (by decide +kernel), by decide +kernel, rfl⟩
      · exact ⟨_, tame_of (by decide +kernel), by decide +kernel, rfl⟩
      · exact ⟨_, tame_of (by decide +kernel), by decide +kernel, rfl⟩
    have k2 := cat T y (by omega) (by omega)
    have hlst : ∀ Γ : G, (x2 mIx (xL (xLst (xCons (xC (.str "\n")) (xCons (xC (.str "yes no no\n")) (xCons (xC (.str "0> 0< 0<\n")) (xCons (xC (.str "2\n")) (xCons (xC (.str "00> no no\n")) xNil))))))) (fun _ => some (.d (.int (j : Int))))) Γ = some (.d (.str y)) := fun Γ => by
      simp only [r_x2, r_xL, r_xLst, r_xCons, r_xC, r_xNil]
      have : atI ([D.str (Str.ofString "\n"), .str (Str.ofString "yes no no\n"), .str (Str.ofString "0> 0< 0<\n"), .str (Str.ofString "2\n"), .str (Str.ofString "00> no no\n")] : List D) (j : Int) = some (.str y) := by rw [atI_n]; exact hyi
      simp [this]
    refine text _ (Tame.app hT hy (by omega)) ?_
    have hr := hlst [.v (.str T), .v (.int v), .v (.int at_), .v (.str ⟨#[c]⟩), .v (.int ((4 : Nat) : Int))]
    rw [r_x2] at hr
    have hm : (x2 mMod (xVar 1) (xC (.int 5))) [.v (.str T), .v (.int v), .v (.int at_), .v (.str ⟨#[c]⟩), .v (.int ((4 : Nat) : Int))] = some (.d (.int (j : Int))) := by
      simp [o_mod (show (0 : Int) < 5 by decide), e5]
    have hcat : (x2 mCatS (xVar 0) (x2 mIx (xL (xLst (xCons (xC (.str "\n")) (xCons (xC (.str "yes no no\n")) (xCons (xC (.str "0> 0< 0<\n")) (xCons (xC (.str "2\n")) (xCons (xC (.str "00> no no\n")) xNil))))))) (x2 mMod (xVar 1) (xC (.int 5))))) [.v (.str T), .v (.int v), .v (.int at_), .v (.str ⟨#[c]⟩), .v (.int ((4 : Nat) : Int))] = some (.d (.str (T ++ y))) := by
      rw [r_x2, r_x2, hm, hr]
      simp [k2]
    unfold tlS
    rw [r_sSeq, if_way, if_neg (by decide), thenO_nx, r_sSeq, if_way, if_neg (by decide), thenO_nx, r_sSeq, if_way, if_neg (by decide), thenO_nx, r_sSeq, if_way, if_neg (by decide), thenO_nx, r_sSeq, if_way, if_pos (by decide), r_sRet, hcat, retO_some, thenO_rt]
  · have e5 : (v : Int) % 6 = ((v % 6 : Nat) : Int) := by omega
    have h5 : v % 6 < 6 := Nat.mod_lt _ (by decide)
    generalize v % 6 = j at e5 h5
    obtain ⟨d, hd, hdi⟩ : ∃ d, Spoil d ∧ ([.non, .int 5, .lst [.str T], .str (Txt.slice T none (some (-1))), .str (Str.ofString ""), .str (Str.ofString "2\n")] : List D)[j]? = some d := by
      have : j = 0 ∨ j = 1 ∨ j = 2 ∨ j = 3 ∨ j = 4 ∨ j = 5 := by omega
      rcases this with rfl | rfl | rfl | rfl | rfl | rfl
      · exact ⟨_, .inr (.inl rfl), rfl⟩
      · exact ⟨_, .inr (.inr (.inl rfl)), rfl⟩
      · exact ⟨_, .inr (.inr (.inr ⟨_, rfl⟩)), rfl⟩
      · exact ⟨_, .inl ⟨_, hT.slice, rfl⟩, rfl⟩
      · exact ⟨_, .inl ⟨_, tame_of (by decide +kernel), rfl⟩, rfl⟩
      · exact ⟨_, .inl ⟨_, tame_of (by decide +kernel), rfl⟩, rfl⟩
    refine ⟨d, first _ ?_, hd⟩
    have hm : (x2 mMod (xVar 1) (xC (.int 6))) [.v (.str T), .v (.int v), .v (.int at_), .v (.str ⟨#[c]⟩), .v (.int ((5 : Nat) : Int))] = some (.d (.int (j : Int))) := by
      simp [o_mod (show (0 : Int) < 6 by decide), e5]
    have hcat : (x2 mIx (xL (xLst (xCons (xC .non) (xCons (xC (.int 5)) (xCons (xL (xLst (xCons (xVar 0) xNil))) (xCons (xSlS (xVar 0) xNoP (xP (xNeg (xC (.int 1))))) (xCons (xC (.str "")) (xCons (xC (.str "2\n")) xNil)))))))) (x2 mMod (xVar 1) (xC (.int 6)))) [.v (.str T), .v (.int v), .v (.int at_), .v (.str ⟨#[c]⟩), .v (.int ((5 : Nat) : Int))] = some (.d d) := by
      rw [r_x2, hm]
      have hat : atI ([.non, .int 5, .lst [.str T], .str (Txt.slice T none (some (-1))), .str (Str.ofString ""), .str (Str.ofString "2\n")] : List D) (j : Int) = some d := by rw [atI_n]; exact hdi
      simp [sl, hat]
    unfold tlS
    rw [r_sSeq, if_way, if_neg (by decide), thenO_nx, r_sSeq, if_way, if_neg (by decide), thenO_nx, r_sSeq, if_way, if_neg (by decide), thenO_nx, r_sSeq, if_way, if_neg (by decide), thenO_nx, r_sSeq, if_way, if_neg (by decide), thenO_nx, r_sRet, hcat, retO_some]
/-! ### all of it -/
theorem no_text {d : D} (h : d = .non ∨ d = .int 5 ∨ ∃ xs, d = .lst xs) : x_f_read [d] = true ∧ m_f_law_due [d] = some .non := by
  have hi : mIsi [.d d, .ty .str] = some (.bl false) := by
    rcases h with rfl | rfl | ⟨xs, rfl⟩ <;> simp
  constructor
  · unfold x_f_read xBody
    have e0 : decide (([d] : List D).length = 1) = true := rfl
    rw [e0, Bool.true_and]
    have g0 : startG 5 [d] = [.v d, .un, .un, .un, .un] := rfl
    rw [g0]
    unfold y_f_read ySeq
    have : (yIf (xNot (xT (xCall mIsi (xCons (xVar 0) (xCons (xTy .str) xNil))))) yAll yNo) [.v d, .un, .un, .un, .un] = true := by
      simp only [yIf, r_xNot, r_xT, r_xCall, r_xCons, r_xVar, r_xNil, r_xTy]
      simp [hi]
    rw [this]; rfl
  · refine mir_rt rfl ?_
    simp only [b_f_law_due, startG, r_sSeq, r_sIf, r_xOr, r_xNot, r_xT, r_xCall, r_xCons, r_xVar, r_xNil, r_xTy]
    simp [hi]
theorem go_asc : ∀ r : Fin 12, ∀ b : Bool, tameB (txMv (.go r.val b)) = true := by decide +kernel
theorem mv_tame {m : Mv Str} (h : AMv m) : Tame (txMv m) := by
  cases m with
  | fin s =>
    rcases h with rfl | rfl
    · exact tame_of (by decide +kernel)
    · exact tame_of (by decide +kernel)
  | go r b => exact tame_of (go_asc ⟨r, h⟩ b)
theorem text_asc {L : Nat} {rooms : List (List (Mv Str))} (h : OkM L rooms) : ∀ c ∈ (txText L rooms).cps.toList, c < 128 := fun c m => by
  rcases Tx.mem_join m with m | ⟨x, hx, m⟩
  · have : c = 10 := by simpa using m
    omega
  · rcases List.mem_append.mp hx with hx | hx
    · rcases List.mem_cons.mp hx with rfl | hx
      · exact (numT (by have := h.l3; omega)).asc c m
      · obtain ⟨rm, hm, rfl⟩ := List.mem_map.mp hx
        rcases Tx.mem_join m with m | ⟨y, hy, m⟩
        · have : c = 32 := by simpa using m
          omega
        · obtain ⟨mv, hmv, rfl⟩ := List.mem_map.mp hy
          exact (mv_tame ((h.tx.all rm hm).1 mv hmv)).asc c m
    · have : x = e0S := by simpa using hx
      subst this
      simp at m
theorem good (ns : List Int) (hn : ns.length ≤ 63) : m_f_law [.scr ns] = some (.bl true) := by
  obtain ⟨L, hL1, hL3, hL⟩ := q_letters (ns := ns) (a := 0)
  obtain ⟨rooms, hM, h1, h2, h3⟩ := q_machine (ns := ns) (a := 1) (L := L) (most := 3) hL3 (by decide) (by decide)
  have h : OkM L rooms := ⟨hL1, hL3, h1, by omega, h3⟩
  obtain ⟨v, hv, hc⟩ := q_mixed (ns := ns) (k := 20) (many := 1000000) (by decide)
  have hL' : m_f_law_letters [.scr ns, .int 0] = some (.int L) := hL
  have hM' : m_f_law_machine [.scr ns, .int 1, .int L, .int 3] = some (encM L rooms) := hM
  have hc' : m_f_law_mixed [.scr ns, .int 20, .int 1000000] = some (.int v) := hc
  have hp : mPow (.d (.int 10)) (.d (.int 6)) = some (.int 1000000) := id rfl
  have hw := q_written h
  have hT : Tame (txText L rooms) := ⟨Nat.le_trans (text_len h.tx) (by omega), text_asc h⟩
  obtain ⟨d, hd, hsp⟩ := q_spoilt (v := v) hT (text_len h.tx)
  have hend : ∀ r : D, m_f_law_due [d] = some r → mEq false (.d r) (.d r) = some (.bl true) → (if x_f_read [d] = true then r = .non else m_f_read [d] = some r) → m_f_law [.scr ns] = some (.bl true) := fun r h1 h2 h3 => by
    refine mir_rt rfl ?_
    have g0 : startG 5 [D.scr ns] = [.v (.scr ns), .un, .un, .un, .un] := rfl
    rw [g0]
    unfold b_f_law
    rw [r_sSeq]
    have i1 : (sSet 1 (xFn m_f_law_machine (xCons (xVar 0) (xCons (xC (.int 1)) (xCons (xFn m_f_law_letters (xCons (xVar 0) (xCons (xC (.int 0)) xNil))) (xCons (xC (.int 3)) xNil)))))) [.v (.scr ns), .un, .un, .un, .un] = some (.nx [.v (.scr ns), .v (encM L rooms), .un, .un, .un]) := by
      simp [hL', hM']
    rw [i1, thenO_nx, r_sSeq]
    have i2 : (sSet 2 (xFn m_f_law_spoilt (xCons (xFn m_f_law_written (xCons (xVar 1) xNil)) (xCons (xFn m_f_law_mixed (xCons (xVar 0) (xCons (xC (.int 20)) (xCons (x2 mPow (xC (.int 10)) (xC (.int 6))) xNil)))) xNil)))) [.v (.scr ns), .v (encM L rooms), .un, .un, .un] = some (.nx [.v (.scr ns), .v (encM L rooms), .v d, .un, .un]) := by
      simp [hw, hp, hc', hd]
    rw [i2, thenO_nx, r_sSeq]
    have i3 : (sSet 3 (xC .non)) [.v (.scr ns), .v (encM L rooms), .v d, .un, .un] = some (.nx [.v (.scr ns), .v (encM L rooms), .v d, .v .non, .un]) := by simp
    rw [i3, thenO_nx, r_sSeq]
    have i4 : sTryA 2 3 4 m_f_read x_f_read [.v (.scr ns), .v (encM L rooms), .v d, .v .non, .un] = some (.nx [.v (.scr ns), .v (encM L rooms), .v d, .v r, .un]) := by
      show (if x_f_read [d] = true then some (Out.nx [.v (.scr ns), .v (encM L rooms), .v d, .v .non, .un]) else (m_f_read [d]).map fun r => Out.nx [.v (.scr ns), .v (encM L rooms), .v d, .v r, .un]) = _
      by_cases hx : x_f_read [d] = true
      · rw [if_pos hx] at h3 ⊢
        rw [h3]
      · rw [if_neg hx] at h3 ⊢
        rw [h3]; rfl
    rw [i4, thenO_nx]
    simp [h1, h2]
  have non : mEq false (.d .non) (.d .non) = some (.bl true) := o_eqSame (n := 0) OkD.non
  rcases hsp with ⟨t, ht, rfl⟩ | hnt
  · by_cases hg : Good t
    · have hx := x_read_good ht hg
      obtain ⟨L', rooms', ok, et⟩ := hg
      refine hend _ ((due_text ht).2 L' rooms' ok et) (o_eqSame (okMach ok)) ?_
      rw [hx, if_neg (by decide), et]
      exact k_read ok
    · refine hend .non ((due_text ht).1 hg) non ?_
      rw [x_read_bad ht hg, if_pos rfl]
  · obtain ⟨hx, hdu⟩ := no_text hnt
    refine hend .non hdu non ?_
    rw [hx, if_pos rfl]
end Py

namespace Py
open PySem PySem.Spec L2 DD
open PyProof.Rows hiding St
--OK
def top (i : Nat) : Stmt := PySem.Challenge.pw_backhead_k15_texts_refused.main.body.getD i (.Pass ⟨0, 0, 0, 0⟩)
structure Bi (mg : Str → Option Value) : Prop where
  ValueError : mg "ValueError" = none
  all : mg "all" = none
  dict : mg "dict" = none
  int : mg "int" = none
  isinstance : mg "isinstance" = none
  len : mg "len" = none
  range : mg "range" = none
  str : mg "str" = none
  tuple : mg "tuple" = none
  zip : mg "zip" = none

/-! ### ways_at -/
abbrev s_f_ways_at : Stmt := top 8
theorem sc_f_ways_at : FnScope ["column", "letters"] ["column", "letters"] (defScope s_f_ways_at) := ⟨rfl, rfl, rfl, by decide +kernel, rfl, by decide +kernel, by decide +kernel⟩
theorem ok_f_ways_at {P : Program} {w : World} {K : PySem.W.Frag} {mg : Str → Option Value} {base : Heap} {fa : Addr} {fd : FuncData} (Fn : Fun K "ways_at" "ways_at" s_f_ways_at fa fd) (hm : mg "ways_at" = some (.ref fa)) (bi : Bi mg) : Callee P w K mg base 1 "ways_at" m_f_ways_at :=
  callee_of (k := 0) (N := ["column", "letters"]) (ps := ["column", "letters"]) (f := b_f_ways_at) Fn hm sc_f_ways_at (Fn.binds fun _ _ _ _ _ _ us hl => match us, hl with | [_, _], _ => rfl) fun cdv A outer s H E hr =>
    (ss_cons (s_if (t_cmp (op_eqP (Room.units hr)) ob_eq (e_var (pv 0)) e_int (nomark _)) (ss_one (s_ret (e_tup (a_cons e_int a_nil)))) ss_nil) (ss_cons (s_if (t_cmp (op_eqP (Room.units hr)) ob_eq (e_var (pv 0)) (e_op op_addAll ob_addAll (e_var (pv 1)) e_int) (nomark _)) (ss_one (s_ret (e_tup (a_cons (e_neg e_int) a_nil)))) ss_nil) (ss_one (s_ret (e_tup (by refine a_cons ?_ ?_; (· exact e_int); refine a_cons ?_ ?_; (· exact (e_neg e_int)); exact a_nil))))))

/-! ### shown_move -/
abbrev s_f_shown_move : Stmt := top 10
theorem sc_f_shown_move : FnScope ["move"] ["move"] (defScope s_f_shown_move) := ⟨rfl, rfl, rfl, by decide +kernel, rfl, by decide +kernel, by decide +kernel⟩
theorem ok_f_shown_move {P : Program} {w : World} {K : PySem.W.Frag} {mg : Str → Option Value} {base : Heap} {fa : Addr} {fd : FuncData} (Fn : Fun K "shown_move" "shown_move" s_f_shown_move fa fd) (hm : mg "shown_move" = some (.ref fa)) (bi : Bi mg) : Callee P w K mg base 1 "shown_move" m_f_shown_move :=
  callee_of (k := 0) (N := ["move"]) (ps := ["move"]) (f := b_f_shown_move) Fn hm sc_f_shown_move (Fn.binds fun _ _ _ _ _ _ us hl => match us, hl with | [_], _ => rfl) fun cdv A outer s H E hr =>
    (ss_cons (s_if (t_val (e_callB call_isi cb_isi rfl bi.isinstance boot_isinstance (a_cons (e_var (pv 0)) (a_cons (e_ty .str rfl bi.str boot_str) a_nil)))) (ss_one (s_ret (e_var (pv 0)))) ss_nil) (ss_one (s_ret (e_op op_add_str ob_addS (e_callTy call_str_int cb_str rfl bi.str boot_str (a_cons (e_ix (e_var (pv 0)) e_int (fun _ _ => rfl)) a_nil)) (e_if (t_cmp (op_eqP (Room.units hr)) ob_eq (e_ix (e_var (pv 0)) e_int (fun _ _ => rfl)) e_int (nomark _)) e_str e_str)))))

/-! ### moves_by_text -/
abbrev s_f_moves_by_text : Stmt := top 11
theorem sc_f_moves_by_text : FnScope ["count", "ways", "moves", "way", "room"] ["count", "ways"] (defScope s_f_moves_by_text) := ⟨rfl, rfl, rfl, by decide +kernel, rfl, by decide +kernel, by decide +kernel⟩
theorem ok_f_moves_by_text {P : Program} {w : World} {K : PySem.W.Frag} {mg : Str → Option Value} {base : Heap} {fa : Addr} {fd : FuncData} (Fn : Fun K "moves_by_text" "moves_by_text" s_f_moves_by_text fa fd) (hm : mg "moves_by_text" = some (.ref fa)) (bi : Bi mg) (c_f_shown_move : Callee P w K mg base 1 "shown_move" m_f_shown_move) (g_ENDS : GlobT K mg "ENDS" [(.str "yes"), (.str "no")]) : Callee P w K mg base 2 "moves_by_text" m_f_moves_by_text :=
  callee_of (k := 1) (N := ["count", "ways", "moves", "way", "room"]) (ps := ["count", "ways"]) (f := b_f_moves_by_text) Fn hm sc_f_moves_by_text (Fn.binds fun _ _ _ _ _ _ us hl => match us, hl with | [_, _], _ => rfl) fun cdv A outer s H E hr =>
    (ss_cons (s_newKL (i := 2) rfl sc_f_moves_by_text.nd rfl (Or.inl rfl) rfl bi.dict (a_cons (e_new (l_comp (N := ["end"]) (ms := [none]) rfl (CompOk.of (by rfl)) (c_seq (e_globT g_ENDS rfl)) ⟨fun _ _ _ _ _ => ⟨(g_name (i := 0) (show (["end"] : List Str).Nodup by decide +kernel) rfl (Or.inl rfl)), f_nil, (e_tup (a_cons (e_var (pv 0)) (a_cons (e_var (pv 0)) a_nil)))⟩⟩ (nd_of (by decide)) (fr_of (by decide)))) a_nil)) (ss_cons (s_for PassesOwn.never rfl (i_seq (e_var (pv 1))) (g_name (i := 3) sc_f_moves_by_text.nd rfl (Or.inl rfl)) (ss_one (s_for PassesOwn.never rfl (i_range1 rfl bi.range (a_cons (e_var (pv 0)) a_nil)) (g_name (i := 4) sc_f_moves_by_text.nd rfl (Or.inl rfl)) (ss_one (s_dput (i := 2) (hu_of hr) (pv 2) (e_callC c_f_shown_move hr (by decide) rfl (a_cons (e_tup (a_cons (e_var (pv 4)) (a_cons (e_var (pv 3)) a_nil))) a_nil)) (e_tup (a_cons (e_var (pv 4)) (a_cons (e_var (pv 3)) a_nil)))))))) (ss_frz (i := 2) (ss_one (s_ret (e_var (pv 2)))))))

/-! ### letters_read -/
abbrev s_f_letters_read : Stmt := top 12
theorem sc_f_letters_read : FnScope ["line", "letters"] ["line"] (defScope s_f_letters_read) := ⟨rfl, rfl, rfl, by decide +kernel, rfl, by decide +kernel, by decide +kernel⟩
theorem ok_f_letters_read {P : Program} {w : World} {K : PySem.W.Frag} {mg : Str → Option Value} {base : Heap} {fa : Addr} {fd : FuncData} (Fn : Fun K "letters_read" "letters_read" s_f_letters_read fa fd) (hm : mg "letters_read" = some (.ref fa)) (bi : Bi mg) {t_MOST_LETTERS : Tok} (g_MOST_LETTERS : mg "MOST_LETTERS" = some (.int 3 t_MOST_LETTERS)) : Callee P w K mg base 1 "letters_read" m_f_letters_read :=
  callee_of (k := 0) (N := ["line", "letters"]) (ps := ["line"]) (f := b_f_letters_read) Fn hm sc_f_letters_read (Fn.binds fun _ _ _ _ _ _ us hl => match us, hl with | [_], _ => rfl) fun cdv A outer s H E hr =>
    (ss_cons (s_for PassesOwn.never rfl (i_range2 rfl bi.range (by refine a_cons ?_ ?_; (· exact e_int); refine a_cons ?_ ?_; (· exact (e_op op_addAll ob_addAll (e_globI rfl g_MOST_LETTERS) e_int)); exact a_nil)) (g_name (i := 1) sc_f_letters_read.nd rfl (Or.inl rfl)) (ss_one (s_if (t_cmp (op_eqP (Room.units hr)) ob_eq (e_var (pv 0)) (e_callTy call_str_int cb_str rfl bi.str boot_str (a_cons (e_var (pv 1)) a_nil)) (nomark _)) (ss_one (s_ret (e_var (pv 1)))) ss_nil))) (ss_one s_no))
theorem ref_f_letters_read {P : Program} {w : World} {K : PySem.W.Frag} {mg : Str → Option Value} {base : Heap} {fa : Addr} {fd : FuncData} (Fn : Fun K "letters_read" "letters_read" s_f_letters_read fa fd) (hm : mg "letters_read" = some (.ref fa)) (bi : Bi mg) {t_MOST_LETTERS : Tok} (g_MOST_LETTERS : mg "MOST_LETTERS" = some (.int 3 t_MOST_LETTERS)) {C_NoText : Addr} (EC_NoText : ErrC K mg "NoText" C_NoText) : Refuser P w K mg base 1 "letters_read" C_NoText x_f_letters_read :=
  refuser_body (k := 0) (N := ["line", "letters"]) (ps := ["line"]) (x := y_f_letters_read) Fn hm sc_f_letters_read (Fn.binds fun _ _ _ _ _ _ us hl => match us, hl with | [_], _ => rfl) fun cdv A outer s H E hr =>
    (rs_next (s_for PassesOwn.never rfl (i_range2 rfl bi.range (by refine a_cons ?_ ?_; (· exact e_int); refine a_cons ?_ ?_; (· exact (e_op op_addAll ob_addAll (e_globI rfl g_MOST_LETTERS) e_int)); exact a_nil)) (g_name (i := 1) sc_f_letters_read.nd rfl (Or.inl rfl)) (ss_one (s_if (t_cmp (op_eqP (Room.units hr)) ob_eq (e_var (pv 0)) (e_callTy call_str_int cb_str rfl bi.str boot_str (a_cons (e_var (pv 1)) a_nil)) (nomark _)) (ss_one (s_ret (e_var (pv 1)))) ss_nil))) (rs_one (r_raise EC_NoText rfl)))

/-! ### room_read -/
abbrev s_f_room_read : Stmt := top 13
theorem sc_f_room_read : FnScope ["line", "columns", "parts"] ["line", "columns"] (defScope s_f_room_read) := ⟨rfl, rfl, rfl, by decide +kernel, rfl, by decide +kernel, by decide +kernel⟩
theorem ok_f_room_read {P : Program} {w : World} {K : PySem.W.Frag} {mg : Str → Option Value} {base : Heap} {fa : Addr} {fd : FuncData} (Fn : Fun K "room_read" "room_read" s_f_room_read fa fd) (hm : mg "room_read" = some (.ref fa)) (bi : Bi mg) : Callee P w K mg base 1 "room_read" m_f_room_read :=
  callee_of (k := 0) (N := ["line", "columns", "parts"]) (ps := ["line", "columns"]) (f := b_f_room_read) Fn hm sc_f_room_read (Fn.binds fun _ _ _ _ _ _ us hl => match us, hl with | [_, _], _ => rfl) fun cdv A outer s H E hr =>
    (ss_cons (s_set (i := 2) sc_f_room_read.nd rfl (Or.inl rfl) (e_split (pe_bm PySem.F.plainAttrs_str PySem.F.slot_str_split PySem.F.type_str_split mt_split (e_var (pv 0)) (pa_cons e_str pa_nil)))) (ss_cons (s_if (t_cmp (op_neP (Room.units hr)) ob_eq (e_callB call_len_seq cb_len rfl bi.len PySem.boot_len (a_cons (e_var (pv 2)) a_nil)) (e_callB call_len_seq cb_len rfl bi.len PySem.boot_len (a_cons (e_var (pv 1)) a_nil)) (nomark _)) (ss_one s_no) ss_nil) (ss_cons (s_if (t_not (t_val (e_callB (call_all_bl rfl) cb_all rfl bi.all boot_all (a_cons (e_new (l_comp (N := ["part", "moves"]) (ms := [none, none]) rfl (CompOk.of (by rfl)) (c_of (i_zip rfl bi.zip (a_cons (e_var (pv 2)) (a_cons (e_var (pv 1)) a_nil)))) ⟨fun _ _ _ _ _ => ⟨(g_tup rfl (gl_cons (g_name (i := 0) (show (["part", "moves"] : List Str).Nodup by decide +kernel) rfl (Or.inl rfl)) (gl_cons (g_name (i := 1) (show (["part", "moves"] : List Str).Nodup by decide +kernel) rfl (Or.inl rfl)) gl_nil))), f_nil, (e_cmp (op_dinP (hu_of hr)) ob_din (e_var (pv 0)) (e_var (pv 1)) (by with_unfolding_all rfl))⟩⟩ (nd_of (by decide)) (fr_of (by decide)))) a_nil)))) (ss_one s_no) ss_nil) (ss_one (s_ret (e_callTy call_tuple_of cb_tuple rfl bi.tuple boot_tuple (a_cons (e_new (l_comp (N := ["part", "moves"]) (ms := [none, none]) rfl (CompOk.of (by rfl)) (c_of (i_zip rfl bi.zip (a_cons (e_var (pv 2)) (a_cons (e_var (pv 1)) a_nil)))) ⟨fun _ _ _ _ _ => ⟨(g_tup rfl (gl_cons (g_name (i := 0) (show (["part", "moves"] : List Str).Nodup by decide +kernel) rfl (Or.inl rfl)) (gl_cons (g_name (i := 1) (show (["part", "moves"] : List Str).Nodup by decide +kernel) rfl (Or.inl rfl)) gl_nil))), f_nil, (e_dget (hu_of hr) (e_var (pv 1)) (e_var (pv 0)) (fun _ _ => rfl))⟩⟩ (nd_of (by decide)) (fr_of (by decide)))) a_nil)))))))
theorem ref_f_room_read {P : Program} {w : World} {K : PySem.W.Frag} {mg : Str → Option Value} {base : Heap} {fa : Addr} {fd : FuncData} (Fn : Fun K "room_read" "room_read" s_f_room_read fa fd) (hm : mg "room_read" = some (.ref fa)) (bi : Bi mg) {C_NoText : Addr} (EC_NoText : ErrC K mg "NoText" C_NoText) : Refuser P w K mg base 1 "room_read" C_NoText x_f_room_read :=
  refuser_body (k := 0) (N := ["line", "columns", "parts"]) (ps := ["line", "columns"]) (x := y_f_room_read) Fn hm sc_f_room_read (Fn.binds fun _ _ _ _ _ _ us hl => match us, hl with | [_, _], _ => rfl) fun cdv A outer s H E hr =>
    (rs_next (s_set (i := 2) sc_f_room_read.nd rfl (Or.inl rfl) (e_split (pe_bm PySem.F.plainAttrs_str PySem.F.slot_str_split PySem.F.type_str_split mt_split (e_var (pv 0)) (pa_cons e_str pa_nil)))) (rs_both (r_if (t_cmp (op_neP (Room.units hr)) ob_eq (e_callB call_len_seq cb_len rfl bi.len PySem.boot_len (a_cons (e_var (pv 2)) a_nil)) (e_callB call_len_seq cb_len rfl bi.len PySem.boot_len (a_cons (e_var (pv 1)) a_nil)) (nomark _)) (rs_one (r_raise EC_NoText rfl)) rs_no) (s_if (t_cmp (op_neP (Room.units hr)) ob_eq (e_callB call_len_seq cb_len rfl bi.len PySem.boot_len (a_cons (e_var (pv 2)) a_nil)) (e_callB call_len_seq cb_len rfl bi.len PySem.boot_len (a_cons (e_var (pv 1)) a_nil)) (nomark _)) (ss_one s_no) ss_nil) (rs_both (r_if (t_not (t_val (e_callB (call_all_bl rfl) cb_all rfl bi.all boot_all (a_cons (e_new (l_comp (N := ["part", "moves"]) (ms := [none, none]) rfl (CompOk.of (by rfl)) (c_of (i_zip rfl bi.zip (a_cons (e_var (pv 2)) (a_cons (e_var (pv 1)) a_nil)))) ⟨fun _ _ _ _ _ => ⟨(g_tup rfl (gl_cons (g_name (i := 0) (show (["part", "moves"] : List Str).Nodup by decide +kernel) rfl (Or.inl rfl)) (gl_cons (g_name (i := 1) (show (["part", "moves"] : List Str).Nodup by decide +kernel) rfl (Or.inl rfl)) gl_nil))), f_nil, (e_cmp (op_dinP (hu_of hr)) ob_din (e_var (pv 0)) (e_var (pv 1)) (by with_unfolding_all rfl))⟩⟩ (nd_of (by decide)) (fr_of (by decide)))) a_nil)))) (rs_one (r_raise EC_NoText rfl)) rs_no) (s_if (t_not (t_val (e_callB (call_all_bl rfl) cb_all rfl bi.all boot_all (a_cons (e_new (l_comp (N := ["part", "moves"]) (ms := [none, none]) rfl (CompOk.of (by rfl)) (c_of (i_zip rfl bi.zip (a_cons (e_var (pv 2)) (a_cons (e_var (pv 1)) a_nil)))) ⟨fun _ _ _ _ _ => ⟨(g_tup rfl (gl_cons (g_name (i := 0) (show (["part", "moves"] : List Str).Nodup by decide +kernel) rfl (Or.inl rfl)) (gl_cons (g_name (i := 1) (show (["part", "moves"] : List Str).Nodup by decide +kernel) rfl (Or.inl rfl)) gl_nil))), f_nil, (e_cmp (op_dinP (hu_of hr)) ob_din (e_var (pv 0)) (e_var (pv 1)) (by with_unfolding_all rfl))⟩⟩ (nd_of (by decide)) (fr_of (by decide)))) a_nil)))) (ss_one s_no) ss_nil) rs_no)))

/-! ### read -/
abbrev s_f_read : Stmt := top 14
theorem sc_f_read : FnScope ["text", "lines", "letters", "count", "columns"] ["text"] (defScope s_f_read) := ⟨rfl, rfl, rfl, by decide +kernel, rfl, by decide +kernel, by decide +kernel⟩
theorem ok_f_read {P : Program} {w : World} {K : PySem.W.Frag} {mg : Str → Option Value} {base : Heap} {fa : Addr} {fd : FuncData} (Fn : Fun K "read" "read" s_f_read fa fd) (hm : mg "read" = some (.ref fa)) (bi : Bi mg) (c_f_letters_read : Callee P w K mg base 1 "letters_read" m_f_letters_read) (c_f_ways_at : Callee P w K mg base 1 "ways_at" m_f_ways_at) (c_f_moves_by_text : Callee P w K mg base 2 "moves_by_text" m_f_moves_by_text) (c_f_room_read : Callee P w K mg base 1 "room_read" m_f_room_read) {t_MOST_ROOMS : Tok} (g_MOST_ROOMS : mg "MOST_ROOMS" = some (.int 12 t_MOST_ROOMS)) : Callee P w K mg base 3 "read" m_f_read :=
  callee_of (k := 2) (N := ["text", "lines", "letters", "count", "columns"]) (ps := ["text"]) (f := b_f_read) Fn hm sc_f_read (Fn.binds fun _ _ _ _ _ _ us hl => match us, hl with | [_], _ => rfl) fun cdv A outer s H E hr =>
    (ss_cons (s_if (t_not (t_val (e_callB call_isi cb_isi rfl bi.isinstance boot_isinstance (a_cons (e_var (pv 0)) (a_cons (e_ty .str rfl bi.str boot_str) a_nil))))) (ss_one s_no) ss_nil) (ss_cons (s_set (i := 1) sc_f_read.nd rfl (Or.inl rfl) (e_split (pe_bm PySem.F.plainAttrs_str PySem.F.slot_str_split PySem.F.type_str_split mt_split (e_var (pv 0)) (pa_cons e_str pa_nil)))) (ss_cons (s_if (t_cmp (op_neP (Room.units hr)) ob_eq (e_ix (e_var (pv 1)) (e_neg e_int) (fun _ _ => rfl)) e_str (nomark _)) (ss_one s_no) ss_nil) (ss_cons (s_set (i := 2) sc_f_read.nd rfl (Or.inr rfl) (e_callC c_f_letters_read hr (by decide) rfl (a_cons (e_ix (e_var (pv 1)) e_int (fun _ _ => rfl)) a_nil))) (ss_cons (s_set (i := 3) sc_f_read.nd rfl (Or.inr rfl) (e_op op_sub ob_sub (e_callB call_len_seq cb_len rfl bi.len PySem.boot_len (a_cons (e_var (pv 1)) a_nil)) e_int)) (ss_cons (s_if (t_not (t_chain op_le ob_le op_le ob_le e_int (e_var (pv 3)) (e_globI rfl g_MOST_ROOMS))) (ss_one s_no) ss_nil) (ss_cons (s_set (i := 4) sc_f_read.nd rfl (Or.inr rfl) (e_new (l_comp (N := ["column", "count", "letters"]) (ms := [none, some 3, some 2]) rfl (CompOk.of (by rfl)) (c_of (i_range1 rfl bi.range (a_cons (e_op op_addAll ob_addAll (e_var (pv 2)) e_int) a_nil))) ⟨fun _ _ _ _ _ => ⟨(g_name (i := 0) (show (["column", "count", "letters"] : List Str).Nodup by decide +kernel) rfl (Or.inl rfl)), f_nil, (e_callC c_f_moves_by_text hr (by decide) rfl (by refine a_cons ?_ ?_; (· exact (e_var (pv 1))); refine a_cons ?_ ?_; (· exact (e_callC c_f_ways_at hr (by decide) rfl (a_cons (e_var (pv 0)) (a_cons (e_var (pv 2)) a_nil)))); exact a_nil))⟩⟩ (nd_of (by decide)) (fr_of (by decide))))) (ss_one (s_ret (e_tup (by refine a_cons ?_ ?_; (· exact (e_var (pv 2))); refine a_cons ?_ ?_; (· exact (e_callTy call_tuple_of cb_tuple rfl bi.tuple boot_tuple (a_cons (e_new (l_comp (N := ["line", "columns"]) (ms := [none, some 4]) rfl (CompOk.of (by rfl)) (c_of (i_seq (e_sl (e_var (pv 1)) (o_some e_int) (o_some (e_neg e_int))))) ⟨fun _ _ _ _ _ => ⟨(g_name (i := 0) (show (["line", "columns"] : List Str).Nodup by decide +kernel) rfl (Or.inl rfl)), f_nil, (e_callC c_f_room_read hr (by decide) rfl (a_cons (e_var (pv 0)) (a_cons (e_var (pv 1)) a_nil)))⟩⟩ (nd_of (by decide)) (fr_of (by decide)))) a_nil))); exact a_nil)))))))))))
theorem ref_f_read {P : Program} {w : World} {K : PySem.W.Frag} {mg : Str → Option Value} {base : Heap} {fa : Addr} {fd : FuncData} (Fn : Fun K "read" "read" s_f_read fa fd) (hm : mg "read" = some (.ref fa)) (bi : Bi mg) (c_f_letters_read : Callee P w K mg base 1 "letters_read" m_f_letters_read) (c_f_ways_at : Callee P w K mg base 1 "ways_at" m_f_ways_at) (c_f_moves_by_text : Callee P w K mg base 2 "moves_by_text" m_f_moves_by_text) (c_f_room_read : Callee P w K mg base 1 "room_read" m_f_room_read) {t_MOST_ROOMS : Tok} (g_MOST_ROOMS : mg "MOST_ROOMS" = some (.int 12 t_MOST_ROOMS)) {C_NoText : Addr} (EC_NoText : ErrC K mg "NoText" C_NoText) (rf_f_letters_read : Refuser P w K mg base 1 "letters_read" C_NoText x_f_letters_read) (rf_f_room_read : Refuser P w K mg base 1 "room_read" C_NoText x_f_room_read) : Refuser P w K mg base 3 "read" C_NoText x_f_read :=
  refuser_body (k := 2) (N := ["text", "lines", "letters", "count", "columns"]) (ps := ["text"]) (x := y_f_read) Fn hm sc_f_read (Fn.binds fun _ _ _ _ _ _ us hl => match us, hl with | [_], _ => rfl) fun cdv A outer s H E hr =>
    (rs_both (r_if (t_not (t_val (e_callB call_isi cb_isi rfl bi.isinstance boot_isinstance (a_cons (e_var (pv 0)) (a_cons (e_ty .str rfl bi.str boot_str) a_nil))))) (rs_one (r_raise EC_NoText rfl)) rs_no) (s_if (t_not (t_val (e_callB call_isi cb_isi rfl bi.isinstance boot_isinstance (a_cons (e_var (pv 0)) (a_cons (e_ty .str rfl bi.str boot_str) a_nil))))) (ss_one s_no) ss_nil) (rs_next (s_set (i := 1) sc_f_read.nd rfl (Or.inl rfl) (e_split (pe_bm PySem.F.plainAttrs_str PySem.F.slot_str_split PySem.F.type_str_split mt_split (e_var (pv 0)) (pa_cons e_str pa_nil)))) (rs_both (r_if (t_cmp (op_neP (Room.units hr)) ob_eq (e_ix (e_var (pv 1)) (e_neg e_int) (fun _ _ => rfl)) e_str (nomark _)) (rs_one (r_raise EC_NoText rfl)) rs_no) (s_if (t_cmp (op_neP (Room.units hr)) ob_eq (e_ix (e_var (pv 1)) (e_neg e_int) (fun _ _ => rfl)) e_str (nomark _)) (ss_one s_no) ss_nil) (rs_both (r_set (i := 2) sc_f_read.nd rfl (Or.inr rfl) (r_call xr_fn rf_f_letters_read hr (by decide) rfl (a_cons (e_ix (e_var (pv 1)) e_int (fun _ _ => rfl)) a_nil))) (s_set (i := 2) sc_f_read.nd rfl (Or.inr rfl) (e_callC c_f_letters_read hr (by decide) rfl (a_cons (e_ix (e_var (pv 1)) e_int (fun _ _ => rfl)) a_nil))) (rs_next (s_set (i := 3) sc_f_read.nd rfl (Or.inr rfl) (e_op op_sub ob_sub (e_callB call_len_seq cb_len rfl bi.len PySem.boot_len (a_cons (e_var (pv 1)) a_nil)) e_int)) (rs_both (r_if (t_not (t_chain op_le ob_le op_le ob_le e_int (e_var (pv 3)) (e_globI rfl g_MOST_ROOMS))) (rs_one (r_raise EC_NoText rfl)) rs_no) (s_if (t_not (t_chain op_le ob_le op_le ob_le e_int (e_var (pv 3)) (e_globI rfl g_MOST_ROOMS))) (ss_one s_no) ss_nil) (rs_next (s_set (i := 4) sc_f_read.nd rfl (Or.inr rfl) (e_new (l_comp (N := ["column", "count", "letters"]) (ms := [none, some 3, some 2]) rfl (CompOk.of (by rfl)) (c_of (i_range1 rfl bi.range (a_cons (e_op op_addAll ob_addAll (e_var (pv 2)) e_int) a_nil))) ⟨fun _ _ _ _ _ => ⟨(g_name (i := 0) (show (["column", "count", "letters"] : List Str).Nodup by decide +kernel) rfl (Or.inl rfl)), f_nil, (e_callC c_f_moves_by_text hr (by decide) rfl (by refine a_cons ?_ ?_; (· exact (e_var (pv 1))); refine a_cons ?_ ?_; (· exact (e_callC c_f_ways_at hr (by decide) rfl (a_cons (e_var (pv 0)) (a_cons (e_var (pv 2)) a_nil)))); exact a_nil))⟩⟩ (nd_of (by decide)) (fr_of (by decide))))) (rs_one (r_ret (r_tup2 (e_var (pv 2)) (r_callTy call_tuple_of rfl bi.tuple boot_tuple (r_comp rfl rfl xr_fn (N := ["line", "columns"]) (ms := [none, some 4]) rfl (CompOk.of (by rfl)) (c_of (i_seq (e_sl (e_var (pv 1)) (o_some e_int) (o_some (e_neg e_int))))) ⟨fun _ _ _ _ _ => ⟨(g_name (i := 0) (show (["line", "columns"] : List Str).Nodup by decide +kernel) rfl (Or.inl rfl)), f_nil, (e_callC c_f_room_read hr (by decide) rfl (a_cons (e_var (pv 0)) (a_cons (e_var (pv 1)) a_nil))), (r_call (fun _ => xr_comp) rf_f_room_read hr (by decide) rfl (a_cons (e_var (pv 0)) (a_cons (e_var (pv 1)) a_nil)))⟩⟩ (nd_of (by decide)) (fr_of (by decide))))))))))))))

/-! ### _law_cell_at -/
abbrev s_f_law_cell_at : Stmt := top 16
theorem sc_f_law_cell_at : FnScope ["_law_script", "_law_k"] ["_law_script", "_law_k"] (defScope s_f_law_cell_at) := ⟨rfl, rfl, rfl, by decide +kernel, rfl, by decide +kernel, by decide +kernel⟩
theorem ok_f_law_cell_at {P : Program} {w : World} {K : PySem.W.Frag} {mg : Str → Option Value} {base : Heap} {fa : Addr} {fd : FuncData} (Fn : Fun K "_law_cell_at" "_law_cell_at" s_f_law_cell_at fa fd) (hm : mg "_law_cell_at" = some (.ref fa)) (bi : Bi mg) : Callee P w K mg base 1 "_law_cell_at" m_f_law_cell_at :=
  callee_of (k := 0) (N := ["_law_script", "_law_k"]) (ps := ["_law_script", "_law_k"]) (f := b_f_law_cell_at) Fn hm sc_f_law_cell_at (Fn.binds fun _ _ _ _ _ _ us hl => match us, hl with | [_, _], _ => rfl) fun cdv A outer s H E hr =>
    (ss_cons (s_if (t_cmp op_lt ob_lt (e_var (pv 1)) (e_callB call_len_seq cb_len rfl bi.len PySem.boot_len (a_cons (e_var (pv 0)) a_nil)) (nomark _)) (ss_one (s_ret (e_ix (e_var (pv 0)) (e_var (pv 1)) (fun _ _ => rfl)))) ss_nil) (ss_cons (s_if (t_cmp (op_eqP (Room.units hr)) ob_eq (e_var (pv 0)) (e_new (l_lst a_nil)) (nomark _)) (ss_one (s_ret e_int)) ss_nil) (ss_one (s_ret (e_op op_addAll ob_addAll (e_op op_mul ob_mul (e_ix (e_var (pv 0)) (e_op op_mod ob_mod (e_var (pv 1)) (e_callB call_len_seq cb_len rfl bi.len PySem.boot_len (a_cons (e_var (pv 0)) a_nil))) (fun _ _ => rfl)) e_int) (e_var (pv 1)))))))

/-! ### _law_mixed -/
abbrev s_f_law_mixed : Stmt := top 17
theorem sc_f_law_mixed : FnScope ["_law_script", "_law_k", "_law_many", "_law_drawn"] ["_law_script", "_law_k", "_law_many"] (defScope s_f_law_mixed) := ⟨rfl, rfl, rfl, by decide +kernel, rfl, by decide +kernel, by decide +kernel⟩
theorem ok_f_law_mixed {P : Program} {w : World} {K : PySem.W.Frag} {mg : Str → Option Value} {base : Heap} {fa : Addr} {fd : FuncData} (Fn : Fun K "_law_mixed" "_law_mixed" s_f_law_mixed fa fd) (hm : mg "_law_mixed" = some (.ref fa)) (bi : Bi mg) (c_f_law_cell_at : Callee P w K mg base 1 "_law_cell_at" m_f_law_cell_at) : Callee P w K mg base 2 "_law_mixed" m_f_law_mixed :=
  callee_of (k := 1) (N := ["_law_script", "_law_k", "_law_many", "_law_drawn"]) (ps := ["_law_script", "_law_k", "_law_many"]) (f := b_f_law_mixed) Fn hm sc_f_law_mixed (Fn.binds fun _ _ _ _ _ _ us hl => match us, hl with | [_, _, _], _ => rfl) fun cdv A outer s H E hr =>
    (ss_cons (s_set (i := 3) sc_f_law_mixed.nd rfl (Or.inl rfl) (e_op op_mod ob_mod (e_op op_mul ob_mul (e_op op_addAll ob_addAll (e_op op_addAll ob_addAll (e_callC c_f_law_cell_at hr (by decide) rfl (a_cons (e_var (pv 0)) (a_cons (e_var (pv 1)) a_nil))) (e_op op_mul ob_mul e_int (e_var (pv 1)))) e_int) e_int) e_int)) (ss_one (s_ret (e_op op_mod ob_mod (e_op op_mod ob_mod (e_op op_addAll ob_addAll (e_op op_addAll ob_addAll (e_op op_mul ob_mul (e_var (pv 3)) (e_var (pv 3))) (e_op op_mul ob_mul e_int (e_var (pv 3)))) (e_var (pv 1))) e_int) (e_var (pv 2))))))

/-! ### _law_move -/
abbrev s_f_law_move : Stmt := top 18
theorem sc_f_law_move : FnScope ["_law_script", "_law_at", "_law_many", "_law_ways", "_law_cell"] ["_law_script", "_law_at", "_law_many", "_law_ways"] (defScope s_f_law_move) := ⟨rfl, rfl, rfl, by decide +kernel, rfl, by decide +kernel, by decide +kernel⟩
theorem ok_f_law_move {P : Program} {w : World} {K : PySem.W.Frag} {mg : Str → Option Value} {base : Heap} {fa : Addr} {fd : FuncData} (Fn : Fun K "_law_move" "_law_move" s_f_law_move fa fd) (hm : mg "_law_move" = some (.ref fa)) (bi : Bi mg) (c_f_law_mixed : Callee P w K mg base 2 "_law_mixed" m_f_law_mixed) : Callee P w K mg base 3 "_law_move" m_f_law_move :=
  callee_of (k := 2) (N := ["_law_script", "_law_at", "_law_many", "_law_ways", "_law_cell"]) (ps := ["_law_script", "_law_at", "_law_many", "_law_ways"]) (f := b_f_law_move) Fn hm sc_f_law_move (Fn.binds fun _ _ _ _ _ _ us hl => match us, hl with | [_, _, _, _], _ => rfl) fun cdv A outer s H E hr =>
    (ss_cons (s_set (i := 4) sc_f_law_move.nd rfl (Or.inl rfl) (e_callC c_f_law_mixed hr (by decide) rfl (by refine a_cons ?_ ?_; (· exact (e_var (pv 0))); refine a_cons ?_ ?_; (· exact (e_var (pv 1))); refine a_cons ?_ ?_; (· exact (e_op op_mul ob_mul e_int (e_var (pv 2)))); exact a_nil))) (ss_cons (s_if (t_cmp op_lt ob_lt (e_op op_mod ob_mod (e_var (pv 4)) e_int) e_int (nomark _)) (ss_one (s_ret (e_ix (e_new (l_lst (a_cons e_str (a_cons e_str a_nil)))) (e_op op_mod ob_mod (e_var (pv 4)) e_int) (fun _ _ => rfl)))) ss_nil) (ss_one (s_ret (e_tup (by refine a_cons ?_ ?_; (· exact (e_op op_fdiv ob_div (e_var (pv 4)) e_int)); refine a_cons ?_ ?_; (· exact (e_ix (e_var (pv 3)) (e_op op_mod ob_mod (e_op op_fdiv ob_div (e_var (pv 4)) e_int) (e_callB call_len_seq cb_len rfl bi.len PySem.boot_len (a_cons (e_var (pv 3)) a_nil))) (fun _ _ => rfl))); exact a_nil))))))

/-! ### _law_machine -/
abbrev s_f_law_machine : Stmt := top 19
theorem sc_f_law_machine : FnScope ["_law_script", "_law_at", "_law_letters_here", "_law_most", "_law_many", "_law_rooms", "_law_k", "_law_place", "_law_moves"] ["_law_script", "_law_at", "_law_letters_here", "_law_most"] (defScope s_f_law_machine) := ⟨rfl, rfl, rfl, by decide +kernel, rfl, by decide +kernel, by decide +kernel⟩
theorem ok_f_law_machine {P : Program} {w : World} {K : PySem.W.Frag} {mg : Str → Option Value} {base : Heap} {fa : Addr} {fd : FuncData} (Fn : Fun K "_law_machine" "_law_machine" s_f_law_machine fa fd) (hm : mg "_law_machine" = some (.ref fa)) (bi : Bi mg) (c_f_law_mixed : Callee P w K mg base 2 "_law_mixed" m_f_law_mixed) (c_f_law_move : Callee P w K mg base 3 "_law_move" m_f_law_move) : Callee P w K mg base 4 "_law_machine" m_f_law_machine :=
  callee_of (k := 3) (N := ["_law_script", "_law_at", "_law_letters_here", "_law_most", "_law_many", "_law_rooms", "_law_k", "_law_place", "_law_moves"]) (ps := ["_law_script", "_law_at", "_law_letters_here", "_law_most"]) (f := b_f_law_machine) Fn hm sc_f_law_machine (Fn.binds fun _ _ _ _ _ _ us hl => match us, hl with | [_, _, _, _], _ => rfl) fun cdv A outer s H E hr =>
    (ss_cons (s_set (i := 4) sc_f_law_machine.nd rfl (Or.inr rfl) (e_op op_addAll ob_addAll e_int (e_callC c_f_law_mixed hr (by decide) rfl (a_cons (e_var (pv 0)) (a_cons (e_var (pv 1)) (a_cons (e_var (pv 3)) a_nil)))))) (ss_cons (s_own (i := 5) sc_f_law_machine.nd rfl (Or.inl rfl) (l_lst a_nil)) (ss_cons (s_for PassesOwn.never rfl (i_range1 rfl bi.range (a_cons (e_var (pv 4)) a_nil)) (g_name (i := 6) sc_f_law_machine.nd rfl (Or.inl rfl)) (ss_cons (s_set (i := 7) sc_f_law_machine.nd rfl (Or.inr rfl) (e_op op_addAll ob_addAll (e_op op_addAll ob_addAll (e_var (pv 1)) e_int) (e_op op_mul ob_mul e_int (e_var (pv 6))))) (ss_cons (s_own (i := 8) sc_f_law_machine.nd rfl (Or.inl rfl) (l_lst (a_cons (e_callC c_f_law_move hr (by decide) rfl (by refine a_cons ?_ ?_; (· exact (e_var (pv 0))); refine a_cons ?_ ?_; (· exact (e_var (pv 7))); refine a_cons ?_ ?_; (· exact (e_var (pv 4))); refine a_cons ?_ ?_; (· exact (e_new (l_lst (a_cons e_int a_nil)))); exact a_nil)) a_nil))) (ss_cons (s_ext (i := 8) (h1 := pe_bm PySem.F.plainAttrs_list PySem.F.slot_list_extend PySem.F.type_list_extend mt_extend (pv 8) (pa_cons (e_new (l_comp (N := ["_law_j", "_law_script", "_law_place", "_law_many"]) (ms := [none, some 0, some 7, some 4]) rfl (CompOk.of (by rfl)) (c_of (i_range1 rfl bi.range (a_cons (e_var (pv 2)) a_nil))) ⟨fun _ _ _ _ _ => ⟨(g_name (i := 0) (show (["_law_j", "_law_script", "_law_place", "_law_many"] : List Str).Nodup by decide +kernel) rfl (Or.inl rfl)), f_nil, (e_callC c_f_law_move hr (by decide) rfl (by refine a_cons ?_ ?_; (· exact (e_var (pv 1))); refine a_cons ?_ ?_; (· exact (e_op op_addAll ob_addAll (e_op op_addAll ob_addAll (e_var (pv 2)) e_int) (e_var (pv 0)))); refine a_cons ?_ ?_; (· exact (e_var (pv 3))); refine a_cons ?_ ?_; (· exact (e_new (l_lst (by refine a_cons ?_ ?_; (· exact e_int); refine a_cons ?_ ?_; (· exact (e_neg e_int)); exact a_nil)))); exact a_nil))⟩⟩ (nd_of (by decide)) (fr_of (by decide)))) pa_nil))) (ss_one (s_app (i := 5) (h1 := pe_bm PySem.F.plainAttrs_list PySem.F.slot_list_append PySem.F.type_list_append mt_append (pv 5) (pa_cons (e_callTy call_tuple_of cb_tuple rfl bi.tuple boot_tuple (a_cons (e_op op_addAll ob_addAll (e_var (pv 8)) (e_new (l_lst (a_cons (e_callC c_f_law_move hr (by decide) rfl (by refine a_cons ?_ ?_; (· exact (e_var (pv 0))); refine a_cons ?_ ?_; (· exact (e_op op_addAll ob_addAll (e_var (pv 7)) e_int)); refine a_cons ?_ ?_; (· exact (e_var (pv 4))); refine a_cons ?_ ?_; (· exact (e_new (l_lst (a_cons (e_neg e_int) a_nil)))); exact a_nil)) a_nil)))) a_nil)) pa_nil)))))))) (ss_one (s_ret (e_tup (by refine a_cons ?_ ?_; (· exact (e_var (pv 2))); refine a_cons ?_ ?_; (· exact (e_callTy call_tuple_of cb_tuple rfl bi.tuple boot_tuple (a_cons (e_var (pv 5)) a_nil))); exact a_nil)))))))

/-! ### _law_letters -/
abbrev s_f_law_letters : Stmt := top 20
theorem sc_f_law_letters : FnScope ["_law_script", "_law_at"] ["_law_script", "_law_at"] (defScope s_f_law_letters) := ⟨rfl, rfl, rfl, by decide +kernel, rfl, by decide +kernel, by decide +kernel⟩
theorem ok_f_law_letters {P : Program} {w : World} {K : PySem.W.Frag} {mg : Str → Option Value} {base : Heap} {fa : Addr} {fd : FuncData} (Fn : Fun K "_law_letters" "_law_letters" s_f_law_letters fa fd) (hm : mg "_law_letters" = some (.ref fa)) (bi : Bi mg) (c_f_law_mixed : Callee P w K mg base 2 "_law_mixed" m_f_law_mixed) : Callee P w K mg base 3 "_law_letters" m_f_law_letters :=
  callee_of (k := 2) (N := ["_law_script", "_law_at"]) (ps := ["_law_script", "_law_at"]) (f := b_f_law_letters) Fn hm sc_f_law_letters (Fn.binds fun _ _ _ _ _ _ us hl => match us, hl with | [_, _], _ => rfl) fun cdv A outer s H E hr =>
    (ss_one (s_ret (e_ix (e_new (l_lst (a_cons e_int (a_cons e_int (a_cons e_int (a_cons e_int (a_cons e_int (a_cons e_int a_nil)))))))) (e_callC c_f_law_mixed hr (by decide) rfl (a_cons (e_var (pv 0)) (a_cons (e_var (pv 1)) (a_cons e_int a_nil)))) (fun _ _ => rfl))))

/-! ### _law_part -/
abbrev s_f_law_part : Stmt := top 22
theorem sc_f_law_part : FnScope ["_law_move_here"] ["_law_move_here"] (defScope s_f_law_part) := ⟨rfl, rfl, rfl, by decide +kernel, rfl, by decide +kernel, by decide +kernel⟩
theorem ok_f_law_part {P : Program} {w : World} {K : PySem.W.Frag} {mg : Str → Option Value} {base : Heap} {fa : Addr} {fd : FuncData} (Fn : Fun K "_law_part" "_law_part" s_f_law_part fa fd) (hm : mg "_law_part" = some (.ref fa)) (bi : Bi mg) : Callee P w K mg base 1 "_law_part" m_f_law_part :=
  callee_of (k := 0) (N := ["_law_move_here"]) (ps := ["_law_move_here"]) (f := b_f_law_part) Fn hm sc_f_law_part (Fn.binds fun _ _ _ _ _ _ us hl => match us, hl with | [_], _ => rfl) fun cdv A outer s H E hr =>
    (ss_cons (s_if (t_val (e_callB call_isi cb_isi rfl bi.isinstance boot_isinstance (a_cons (e_var (pv 0)) (a_cons (e_ty .str rfl bi.str boot_str) a_nil)))) (ss_one (s_ret (e_var (pv 0)))) ss_nil) (ss_one (s_ret (e_op op_add_str ob_addS (e_callTy call_str_int cb_str rfl bi.str boot_str (a_cons (e_ix (e_var (pv 0)) e_int (fun _ _ => rfl)) a_nil)) (e_ixS e_str (e_callTy call_intA cb_intA rfl bi.int boot_int (a_cons (e_cmp (op_eqP (Room.units hr)) ob_eq (e_ix (e_var (pv 0)) e_int (fun _ _ => rfl)) e_int (nomark _)) a_nil)) (fun _ _ => rfl))))))

/-! ### _law_written -/
abbrev s_f_law_written : Stmt := top 23
theorem sc_f_law_written : FnScope ["_law_machine_here", "_law_lines"] ["_law_machine_here"] (defScope s_f_law_written) := ⟨rfl, rfl, rfl, by decide +kernel, rfl, by decide +kernel, by decide +kernel⟩
theorem ok_f_law_written {P : Program} {w : World} {K : PySem.W.Frag} {mg : Str → Option Value} {base : Heap} {fa : Addr} {fd : FuncData} (Fn : Fun K "_law_written" "_law_written" s_f_law_written fa fd) (hm : mg "_law_written" = some (.ref fa)) (bi : Bi mg) (c_f_law_part : Callee P w K mg base 1 "_law_part" m_f_law_part) : Callee P w K mg base 2 "_law_written" m_f_law_written :=
  callee_of (k := 1) (N := ["_law_machine_here", "_law_lines"]) (ps := ["_law_machine_here"]) (f := b_f_law_written) Fn hm sc_f_law_written (Fn.binds fun _ _ _ _ _ _ us hl => match us, hl with | [_], _ => rfl) fun cdv A outer s H E hr =>
    (ss_cons (s_set (i := 1) sc_f_law_written.nd rfl (Or.inl rfl) (e_op op_addAll ob_addAll (e_new (l_lst (a_cons (e_callTy call_str_int cb_str rfl bi.str boot_str (a_cons (e_ix (e_var (pv 0)) e_int (fun _ _ => rfl)) a_nil)) a_nil))) (e_new (l_comp (N := ["_law_room"]) (ms := [none]) rfl (CompOk.of (by rfl)) (c_of (i_seq (e_ix (e_var (pv 0)) e_int (fun _ _ => rfl)))) ⟨fun _ _ _ _ _ => ⟨(g_name (i := 0) (show (["_law_room"] : List Str).Nodup by decide +kernel) rfl (Or.inl rfl)), f_nil, (e_join (pe_bm PySem.F.plainAttrs_str PySem.F.slot_str_join PySem.F.type_str_join mt_join e_str (pa_cons (e_new (l_comp (N := ["_law_move_here"]) (ms := [none]) rfl (CompOk.of (by rfl)) (c_of (i_seq (e_var (pv 0)))) ⟨fun _ _ _ _ _ => ⟨(g_name (i := 0) (show (["_law_move_here"] : List Str).Nodup by decide +kernel) rfl (Or.inl rfl)), f_nil, (e_callC c_f_law_part hr (by decide) rfl (a_cons (e_var (pv 0)) a_nil))⟩⟩ (nd_of (by decide)) (fr_of (by decide)))) pa_nil)))⟩⟩ (nd_of (by decide)) (fr_of (by decide)))))) (ss_one (s_ret (e_join (pe_bm PySem.F.plainAttrs_str PySem.F.slot_str_join PySem.F.type_str_join mt_join e_str (pa_cons (e_new (l_comp (N := ["_law_line"]) (ms := [none]) rfl (CompOk.of (by rfl)) (c_of (i_seq (e_var (pv 1)))) ⟨fun _ _ _ _ _ => ⟨(g_name (i := 0) (show (["_law_line"] : List Str).Nodup by decide +kernel) rfl (Or.inl rfl)), f_nil, (e_op op_add_str ob_addS (e_var (pv 0)) e_str)⟩⟩ (nd_of (by decide)) (fr_of (by decide)))) pa_nil))))))

/-! ### _law_spoilt -/
abbrev s_f_law_spoilt : Stmt := top 24
theorem sc_f_law_spoilt : FnScope ["_law_text", "_law_cell", "_law_at", "_law_sign", "_law_way"] ["_law_text", "_law_cell"] (defScope s_f_law_spoilt) := ⟨rfl, rfl, rfl, by decide +kernel, rfl, by decide +kernel, by decide +kernel⟩
theorem ok_f_law_spoilt {P : Program} {w : World} {K : PySem.W.Frag} {mg : Str → Option Value} {base : Heap} {fa : Addr} {fd : FuncData} (Fn : Fun K "_law_spoilt" "_law_spoilt" s_f_law_spoilt fa fd) (hm : mg "_law_spoilt" = some (.ref fa)) (bi : Bi mg) : Callee P w K mg base 1 "_law_spoilt" m_f_law_spoilt :=
  callee_of (k := 0) (N := ["_law_text", "_law_cell", "_law_at", "_law_sign", "_law_way"]) (ps := ["_law_text", "_law_cell"]) (f := b_f_law_spoilt) Fn hm sc_f_law_spoilt (Fn.binds fun _ _ _ _ _ _ us hl => match us, hl with | [_, _], _ => rfl) fun cdv A outer s H E hr =>
    (ss_cons (s_set (i := 2) sc_f_law_spoilt.nd rfl (Or.inl rfl) (e_op op_mod ob_mod (e_var (pv 1)) (e_op op_addAll ob_addAll (e_callB call_len_str cb_lenS rfl bi.len PySem.boot_len (a_cons (e_var (pv 0)) a_nil)) e_int))) (ss_cons (s_set (i := 3) sc_f_law_spoilt.nd rfl (Or.inl rfl) (e_ixS e_str (e_op op_mod ob_mod (e_op op_fdiv ob_div (e_var (pv 1)) e_int) e_int) (fun _ _ => rfl))) (ss_cons (s_set (i := 4) sc_f_law_spoilt.nd rfl (Or.inl rfl) (e_op op_mod ob_mod (e_op op_fdiv ob_div (e_var (pv 1)) e_int) e_int)) (ss_cons (s_if (t_cmp (op_eqP (Room.units hr)) ob_eq (e_var (pv 4)) e_int (nomark _)) (ss_one (s_ret (e_op op_add_str ob_addS (e_op op_add_str ob_addS (e_slS (e_var (pv 0)) o_none (o_some (e_var (pv 2)))) (e_var (pv 3))) (e_slS (e_var (pv 0)) (o_some (e_var (pv 2))) o_none)))) ss_nil) (ss_cons (s_if (t_cmp (op_eqP (Room.units hr)) ob_eq (e_var (pv 4)) e_int (nomark _)) (ss_one (s_ret (e_op op_add_str ob_addS (e_slS (e_var (pv 0)) o_none (o_some (e_var (pv 2)))) (e_slS (e_var (pv 0)) (o_some (e_op op_addAll ob_addAll (e_var (pv 2)) e_int)) o_none)))) ss_nil) (ss_cons (s_if (t_cmp (op_eqP (Room.units hr)) ob_eq (e_var (pv 4)) e_int (nomark _)) (ss_one (s_ret (e_op op_add_str ob_addS (e_op op_add_str ob_addS (e_slS (e_var (pv 0)) o_none (o_some (e_var (pv 2)))) (e_var (pv 3))) (e_slS (e_var (pv 0)) (o_some (e_op op_addAll ob_addAll (e_var (pv 2)) e_int)) o_none)))) ss_nil) (ss_cons (s_if (t_cmp (op_eqP (Room.units hr)) ob_eq (e_var (pv 4)) e_int (nomark _)) (ss_one (s_ret (e_op op_add_str ob_addS (e_var (pv 0)) (e_slS (e_var (pv 0)) (o_some e_int) o_none)))) ss_nil) (ss_cons (s_if (t_cmp (op_eqP (Room.units hr)) ob_eq (e_var (pv 4)) e_int (nomark _)) (ss_one (s_ret (e_op op_add_str ob_addS (e_var (pv 0)) (e_ix (e_new (l_lst (a_cons e_str (a_cons e_str (a_cons e_str (a_cons e_str (a_cons e_str a_nil))))))) (e_op op_mod ob_mod (e_var (pv 1)) e_int) (fun _ _ => rfl))))) ss_nil) (ss_one (s_ret (e_ix (e_new (l_lst (by refine a_cons ?_ ?_; (· exact e_non); refine a_cons ?_ ?_; (· exact e_int); refine a_cons ?_ ?_; (· exact (e_new (l_lst (a_cons (e_var (pv 0)) a_nil)))); refine a_cons ?_ ?_; (· exact (e_slS (e_var (pv 0)) o_none (o_some (e_neg e_int)))); refine a_cons ?_ ?_; (· exact e_str); refine a_cons ?_ ?_; (· exact e_str); exact a_nil))) (e_op op_mod ob_mod (e_var (pv 1)) e_int) (fun _ _ => rfl))))))))))))

/-! ### _law_read_move -/
abbrev s_f_law_read_move : Stmt := top 25
theorem sc_f_law_read_move : FnScope ["_law_part_here", "_law_many", "_law_ways", "_law_figures"] ["_law_part_here", "_law_many", "_law_ways"] (defScope s_f_law_read_move) := ⟨rfl, rfl, rfl, by decide +kernel, rfl, by decide +kernel, by decide +kernel⟩
theorem ok_f_law_read_move {P : Program} {w : World} {K : PySem.W.Frag} {mg : Str → Option Value} {base : Heap} {fa : Addr} {fd : FuncData} (Fn : Fun K "_law_read_move" "_law_read_move" s_f_law_read_move fa fd) (hm : mg "_law_read_move" = some (.ref fa)) (bi : Bi mg) : Callee P w K mg base 1 "_law_read_move" m_f_law_read_move :=
  callee_of (k := 0) (N := ["_law_part_here", "_law_many", "_law_ways", "_law_figures"]) (ps := ["_law_part_here", "_law_many", "_law_ways"]) (f := b_f_law_read_move) Fn hm sc_f_law_read_move (Fn.binds fun _ _ _ _ _ _ us hl => match us, hl with | [_, _, _], _ => rfl) fun cdv A outer s H E hr =>
    (ss_cons (s_if (t_cmp (op_inP (room128 hr)) ob_in (e_var (pv 0)) (e_tup (a_cons e_str (a_cons e_str a_nil))) (by with_unfolding_all rfl)) (ss_one (s_ret (e_var (pv 0)))) ss_nil) (ss_cons (s_set (i := 3) sc_f_law_read_move.nd rfl (Or.inl rfl) (e_slS (e_var (pv 0)) o_none (o_some (e_neg e_int)))) (ss_cons (s_if (t_w (w_or (t_cmp (op_ninP (room128 hr)) ob_in (e_slS (e_var (pv 0)) (o_some (e_neg e_int)) o_none) (e_tup (a_cons e_str (a_cons e_str a_nil))) (by with_unfolding_all rfl)) (w_or (t_cmp (op_eqP (Room.units hr)) ob_eq (e_var (pv 3)) e_str (nomark _)) (w_or1 (t_cmp op_gt ob_gt (e_callB call_len_str cb_lenS rfl bi.len PySem.boot_len (a_cons (e_var (pv 3)) a_nil)) e_int (nomark _)))))) (ss_one (s_ret e_non)) ss_nil) (ss_cons (s_if (t_w (w_or (t_cmp (op_neP (Room.units hr)) ob_eq (e_new (l_comp (N := ["_law_sign"]) (ms := [none]) rfl (CompOk.of (by rfl)) (c_of (i_str (e_var (pv 3)))) ⟨fun _ _ _ _ _ => ⟨(g_name (i := 0) (show (["_law_sign"] : List Str).Nodup by decide +kernel) rfl (Or.inl rfl)), (f_one (t_cmp op_notin_str ob_ninS (e_var (pv 0)) e_str (by with_unfolding_all rfl))), (e_var (pv 0))⟩⟩ (nd_of (by decide)) (fr_of (by decide)))) (e_new (l_lst a_nil)) (nomark _)) (w_or1 (t_w (w_and (t_cmp (op_eqP (Room.units hr)) ob_eq (e_ixS (e_var (pv 3)) e_int (fun _ _ => rfl)) e_str (nomark _)) (w_and1 (t_cmp (op_neP (Room.units hr)) ob_eq (e_var (pv 3)) e_str (nomark _)))))))) (ss_one (s_ret e_non)) ss_nil) (ss_cons (s_if (t_w (w_or (t_cmp op_ge ob_ge (e_callTy call_intA cb_intA rfl bi.int boot_int (a_cons (e_var (pv 3)) a_nil)) (e_var (pv 1)) (nomark _)) (w_or1 (t_cmp (op_ninP (room128 hr)) ob_in (e_slS (e_var (pv 0)) (o_some (e_neg e_int)) o_none) (e_var (pv 2)) (by with_unfolding_all rfl))))) (ss_one (s_ret e_non)) ss_nil) (ss_one (s_ret (e_tup (by refine a_cons ?_ ?_; (· exact (e_callTy call_intA cb_intA rfl bi.int boot_int (a_cons (e_var (pv 3)) a_nil))); refine a_cons ?_ ?_; (· exact (e_ix (e_new (l_lst (by refine a_cons ?_ ?_; (· exact (e_neg e_int)); refine a_cons ?_ ?_; (· exact e_int); exact a_nil))) (e_callTy call_intA cb_intA rfl bi.int boot_int (a_cons (e_cmp (op_eqP (Room.units hr)) ob_eq (e_slS (e_var (pv 0)) (o_some (e_neg e_int)) o_none) e_str (nomark _)) a_nil)) (fun _ _ => rfl))); exact a_nil)))))))))

/-! ### _law_due -/
abbrev s_f_law_due : Stmt := top 26
theorem sc_f_law_due : FnScope ["_law_text", "_law_lines", "_law_letters_here", "_law_rooms", "_law_line", "_law_parts", "_law_ways", "_law_moves"] ["_law_text"] (defScope s_f_law_due) := ⟨rfl, rfl, rfl, by decide +kernel, rfl, by decide +kernel, by decide +kernel⟩
theorem ok_f_law_due {P : Program} {w : World} {K : PySem.W.Frag} {mg : Str → Option Value} {base : Heap} {fa : Addr} {fd : FuncData} (Fn : Fun K "_law_due" "_law_due" s_f_law_due fa fd) (hm : mg "_law_due" = some (.ref fa)) (bi : Bi mg) (c_f_law_read_move : Callee P w K mg base 1 "_law_read_move" m_f_law_read_move) : Callee P w K mg base 2 "_law_due" m_f_law_due :=
  callee_of (k := 1) (N := ["_law_text", "_law_lines", "_law_letters_here", "_law_rooms", "_law_line", "_law_parts", "_law_ways", "_law_moves"]) (ps := ["_law_text"]) (f := b_f_law_due) Fn hm sc_f_law_due (Fn.binds fun _ _ _ _ _ _ us hl => match us, hl with | [_], _ => rfl) fun cdv A outer s H E hr =>
    (ss_cons (s_if (t_w (w_or (t_not (t_val (e_callB call_isi cb_isi rfl bi.isinstance boot_isinstance (a_cons (e_var (pv 0)) (a_cons (e_ty .str rfl bi.str boot_str) a_nil))))) (w_or1 (t_cmp (op_neP (Room.units hr)) ob_eq (e_slS (e_var (pv 0)) (o_some (e_neg e_int)) o_none) e_str (nomark _))))) (ss_one (s_ret e_non)) ss_nil) (ss_cons (s_set (i := 1) sc_f_law_due.nd rfl (Or.inr rfl) (e_split (pe_bm PySem.F.plainAttrs_str PySem.F.slot_str_split PySem.F.type_str_split mt_split (e_slS (e_var (pv 0)) o_none (o_some (e_neg e_int))) (pa_cons e_str pa_nil)))) (ss_cons (s_if (t_w (w_or (t_cmp (op_ninP (room128 hr)) ob_in (e_ix (e_var (pv 1)) e_int (fun _ _ => rfl)) (e_tup (a_cons e_str (a_cons e_str (a_cons e_str a_nil)))) (by with_unfolding_all rfl)) (w_or1 (t_not (t_chain op_le ob_le op_le ob_le e_int (e_callB call_len_seq cb_len rfl bi.len PySem.boot_len (a_cons (e_var (pv 1)) a_nil)) e_int))))) (ss_one (s_ret e_non)) ss_nil) (ss_cons (s_set (i := 2) sc_f_law_due.nd rfl (Or.inl rfl) (e_callTy call_intA cb_intA rfl bi.int boot_int (a_cons (e_ix (e_var (pv 1)) e_int (fun _ _ => rfl)) a_nil))) (ss_cons (s_own (i := 3) sc_f_law_due.nd rfl (Or.inl rfl) (l_lst a_nil)) (ss_cons (s_for PassesOwn.never rfl (i_seq (e_sl (e_var (pv 1)) (o_some e_int) o_none)) (g_name (i := 4) sc_f_law_due.nd rfl (Or.inl rfl)) (ss_cons (s_set (i := 5) sc_f_law_due.nd rfl (Or.inl rfl) (e_split (pe_bm PySem.F.plainAttrs_str PySem.F.slot_str_split PySem.F.type_str_split mt_split (e_var (pv 4)) (pa_cons e_str pa_nil)))) (ss_cons (s_if (t_cmp (op_neP (Room.units hr)) ob_eq (e_callB call_len_seq cb_len rfl bi.len PySem.boot_len (a_cons (e_var (pv 5)) a_nil)) (e_op op_addAll ob_addAll (e_var (pv 2)) e_int) (nomark _)) (ss_one (s_ret e_non)) ss_nil) (ss_cons (s_set (i := 6) sc_f_law_due.nd rfl (Or.inl rfl) (e_op op_addAll ob_addAll (e_op op_addAll ob_addAll (e_new (l_lst (a_cons (e_new (l_lst (a_cons e_str a_nil))) a_nil))) (e_new (l_comp (N := ["_law_part_here"]) (ms := [none]) rfl (CompOk.of (by rfl)) (c_of (i_seq (e_sl (e_var (pv 5)) (o_some e_int) (o_some (e_neg e_int))))) ⟨fun _ _ _ _ _ => ⟨(g_name (i := 0) (show (["_law_part_here"] : List Str).Nodup by decide +kernel) rfl (Or.inl rfl)), f_nil, (e_new (l_lst (a_cons e_str (a_cons e_str a_nil))))⟩⟩ (nd_of (by decide)) (fr_of (by decide))))) (e_new (l_lst (a_cons (e_new (l_lst (a_cons e_str a_nil))) a_nil))))) (ss_cons (s_setC (i := 7) (N := ["_law_part_here", "_law_some", "_law_lines"]) (ms := [none, none, some 1]) rfl (CompOk.of (by rfl)) (c_of (i_zip rfl bi.zip (a_cons (e_var (pv 5)) (a_cons (e_var (pv 6)) a_nil)))) ⟨fun _ _ _ _ _ => ⟨(g_tup rfl (gl_cons (g_name (i := 0) (show (["_law_part_here", "_law_some", "_law_lines"] : List Str).Nodup by decide +kernel) rfl (Or.inl rfl)) (gl_cons (g_name (i := 1) (show (["_law_part_here", "_law_some", "_law_lines"] : List Str).Nodup by decide +kernel) rfl (Or.inl rfl)) gl_nil))), f_nil, (e_callC c_f_law_read_move hr (by decide) rfl (by refine a_cons ?_ ?_; (· exact (e_var (pv 0))); refine a_cons ?_ ?_; (· exact (e_op op_sub ob_sub (e_callB call_len_seq cb_len rfl bi.len PySem.boot_len (a_cons (e_var (pv 2)) a_nil)) e_int)); refine a_cons ?_ ?_; (· exact (e_var (pv 1))); exact a_nil))⟩⟩ (nd_of (by decide)) (fr_of (by decide)) sc_f_law_due.nd rfl (Or.inl rfl)) (ss_cons (s_if (t_cmp (op_inP (room128 hr)) ob_in e_non (e_var (pv 7)) (by with_unfolding_all rfl)) (ss_one (s_ret e_non)) ss_nil) (ss_one (s_app (i := 3) (h1 := pe_bm PySem.F.plainAttrs_list PySem.F.slot_list_append PySem.F.type_list_append mt_append (pv 3) (pa_cons (e_callTy call_tuple_of cb_tuple rfl bi.tuple boot_tuple (a_cons (e_var (pv 7)) a_nil)) pa_nil)))))))))) (ss_one (s_ret (e_tup (by refine a_cons ?_ ?_; (· exact (e_var (pv 2))); refine a_cons ?_ ?_; (· exact (e_callTy call_tuple_of cb_tuple rfl bi.tuple boot_tuple (a_cons (e_var (pv 3)) a_nil))); exact a_nil))))))))))

/-! ### law -/
abbrev s_f_law : Stmt := top 27
theorem sc_f_law : FnScope ["_law_script", "_law_machine_here", "_law_text", "_law_answer", "e"] ["_law_script"] (defScope s_f_law) := ⟨rfl, rfl, rfl, by decide +kernel, rfl, by decide +kernel, by decide +kernel⟩
theorem ok_f_law {P : Program} {w : World} {K : PySem.W.Frag} {mg : Str → Option Value} {base : Heap} {fa : Addr} {fd : FuncData} (Fn : Fun K "law" "law" s_f_law fa fd) (bi : Bi mg) (c_f_law_letters : Callee P w K mg base 3 "_law_letters" m_f_law_letters) (c_f_law_machine : Callee P w K mg base 4 "_law_machine" m_f_law_machine) (c_f_law_mixed : Callee P w K mg base 2 "_law_mixed" m_f_law_mixed) (c_f_law_written : Callee P w K mg base 2 "_law_written" m_f_law_written) (c_f_law_spoilt : Callee P w K mg base 1 "_law_spoilt" m_f_law_spoilt) (c_f_read : Callee P w K mg base 3 "read" m_f_read) (c_f_law_due : Callee P w K mg base 2 "_law_due" m_f_law_due) {C_HeadError : Addr} {C_NoMachine : Addr} {C_NoText : Addr} (EC_NoText : ErrC K mg "NoText" C_NoText) (rf_f_read : Refuser P w K mg base 3 "read" C_NoText x_f_read) (n_HeadError : mg "HeadError" = some (.ref C_HeadError)) (n_NoMachine : mg "NoMachine" = some (.ref C_NoMachine)) (kit_NoText_HeadError : PySem.W.kitOne K (.ref C_NoText) (.ref C_HeadError) = some true) (kit_NoText_NoMachine : PySem.W.kitOne K (.ref C_NoText) (.ref C_NoMachine) = some false) (kit_NoText_ValueError : PySem.W.kitOne K (.ref C_NoText) (.type "ValueError") = some true) : FnOk P w K mg base CX0 5 fa fd ["_law_script"] (spD K m_f_law) :=
  fn_den (k := 4) (N := ["_law_script", "_law_machine_here", "_law_text", "_law_answer", "e"]) (ps := ["_law_script"]) (f := b_f_law) Fn sc_f_law fun cdv A outer s H E hr =>
    (ss_cons (s_set (i := 1) sc_f_law.nd rfl (Or.inl rfl) (e_callC c_f_law_machine hr (by decide) rfl (by refine a_cons ?_ ?_; (· exact (e_var (pv 0))); refine a_cons ?_ ?_; (· exact e_int); refine a_cons ?_ ?_; (· exact (e_callC c_f_law_letters hr (by decide) rfl (a_cons (e_var (pv 0)) (a_cons e_int a_nil)))); refine a_cons ?_ ?_; (· exact e_int); exact a_nil))) (ss_cons (s_set (i := 2) sc_f_law.nd rfl (Or.inl rfl) (e_callC c_f_law_spoilt hr (by decide) rfl (by refine a_cons ?_ ?_; (· exact (e_callC c_f_law_written hr (by decide) rfl (a_cons (e_var (pv 1)) a_nil))); refine a_cons ?_ ?_; (· exact (e_callC c_f_law_mixed hr (by decide) rfl (by refine a_cons ?_ ?_; (· exact (e_var (pv 0))); refine a_cons ?_ ?_; (· exact e_int); refine a_cons ?_ ?_; (· exact (e_op op_pow ob_pow e_int e_int)); exact a_nil))); exact a_nil))) (ss_cons (s_set (i := 3) sc_f_law.nd rfl (Or.inl rfl) e_non) (ss_cons (s_tryB (i := 2) (i2 := 3) (j := 4) rf_f_read EC_NoText (s_set (i := 3) sc_f_law.nd rfl (Or.inl rfl) (e_callC c_f_read hr (by decide) rfl (a_cons (e_var (pv 2)) a_nil))) rfl rfl hr (by decide) rfl (fun _ => pv 2) rfl sc_f_law.nd rfl rfl fun a oe hc => by exact (PW.pt (te_or (te_notT (te_val (isE1 EC_NoText.ek List.mem_cons_self hc (pv 4) rfl bi.isinstance (pe_glob (v := .ref C_HeadError) rfl n_HeadError rfl) (fun _ h => h) kit_NoText_HeadError))) (te_or (te_notT (te_val (isE1 EC_NoText.ek List.mem_cons_self hc (pv 4) rfl bi.isinstance (pe_bltn (v := .ty "ValueError") rfl bi.ValueError Boot.«ValueError» rfl) (fun _ h => h) kit_NoText_ValueError))) (te_or1 (te_val (isE1 EC_NoText.ek List.mem_cons_self hc (pv 4) rfl bi.isinstance (pe_glob (v := .ref C_NoMachine) rfl n_NoMachine rfl) (fun _ h => h) kit_NoText_NoMachine))))))) (ss_one (s_ret (e_cmp (op_eqP (Room.units hr)) ob_eq (e_var (pv 3)) (e_callC c_f_law_due hr (by decide) rfl (a_cons (e_var (pv 2)) a_nil)) (nomark _))))))))
--TOP

theorem all_mk {l : PySem.W.OpenLaw} {w : World} {K : PySem.W.Frag} {h : Heap} {mg : Str → Option Value} {fa : Addr} (X : K.In h) (Gm : h.Ns mainGlobals mg) (hfa : mg "law" = some (.ref fa))
    {a_f_ways_at : Addr} {od_f_ways_at an_f_ways_at : Option Addr} {sl_f_ways_at : Array (Option Value)} {oc_f_ways_at kV_f_ways_at dc_f_ways_at pm_f_ways_at cd_f_ways_at ct_f_ways_at : Value} (n_f_ways_at : PySem.W.nsIn K mainGlobals "ways_at" = some (some (.ref a_f_ways_at))) (l_f_ways_at : K.lookup a_f_ways_at = some ⟨oc_f_ways_at, od_f_ways_at, .func (PySem.W.fnOf "ways_at" "ways_at" (defArgs s_f_ways_at) (defBody s_f_ways_at) (defScope s_f_ways_at) .none kV_f_ways_at dc_f_ways_at pm_f_ways_at an_f_ways_at cd_f_ways_at ct_f_ways_at), sl_f_ways_at⟩) (e_f_ways_at : PySem.W.codeIn K cd_f_ways_at "ways_at" = true) (k_f_ways_at : PySem.W.keepIn K (.ref a_f_ways_at) = true)
    {a_f_shown_move : Addr} {od_f_shown_move an_f_shown_move : Option Addr} {sl_f_shown_move : Array (Option Value)} {oc_f_shown_move kV_f_shown_move dc_f_shown_move pm_f_shown_move cd_f_shown_move ct_f_shown_move : Value} (n_f_shown_move : PySem.W.nsIn K mainGlobals "shown_move" = some (some (.ref a_f_shown_move))) (l_f_shown_move : K.lookup a_f_shown_move = some ⟨oc_f_shown_move, od_f_shown_move, .func (PySem.W.fnOf "shown_move" "shown_move" (defArgs s_f_shown_move) (defBody s_f_shown_move) (defScope s_f_shown_move) .none kV_f_shown_move dc_f_shown_move pm_f_shown_move an_f_shown_move cd_f_shown_move ct_f_shown_move), sl_f_shown_move⟩) (e_f_shown_move : PySem.W.codeIn K cd_f_shown_move "shown_move" = true) (k_f_shown_move : PySem.W.keepIn K (.ref a_f_shown_move) = true)
    {a_f_moves_by_text : Addr} {od_f_moves_by_text an_f_moves_by_text : Option Addr} {sl_f_moves_by_text : Array (Option Value)} {oc_f_moves_by_text kV_f_moves_by_text dc_f_moves_by_text pm_f_moves_by_text cd_f_moves_by_text ct_f_moves_by_text : Value} (n_f_moves_by_text : PySem.W.nsIn K mainGlobals "moves_by_text" = some (some (.ref a_f_moves_by_text))) (l_f_moves_by_text : K.lookup a_f_moves_by_text = some ⟨oc_f_moves_by_text, od_f_moves_by_text, .func (PySem.W.fnOf "moves_by_text" "moves_by_text" (defArgs s_f_moves_by_text) (defBody s_f_moves_by_text) (defScope s_f_moves_by_text) .none kV_f_moves_by_text dc_f_moves_by_text pm_f_moves_by_text an_f_moves_by_text cd_f_moves_by_text ct_f_moves_by_text), sl_f_moves_by_text⟩) (e_f_moves_by_text : PySem.W.codeIn K cd_f_moves_by_text "moves_by_text" = true) (k_f_moves_by_text : PySem.W.keepIn K (.ref a_f_moves_by_text) = true)
    {a_f_letters_read : Addr} {od_f_letters_read an_f_letters_read : Option Addr} {sl_f_letters_read : Array (Option Value)} {oc_f_letters_read kV_f_letters_read dc_f_letters_read pm_f_letters_read cd_f_letters_read ct_f_letters_read : Value} (n_f_letters_read : PySem.W.nsIn K mainGlobals "letters_read" = some (some (.ref a_f_letters_read))) (l_f_letters_read : K.lookup a_f_letters_read = some ⟨oc_f_letters_read, od_f_letters_read, .func (PySem.W.fnOf "letters_read" "letters_read" (defArgs s_f_letters_read) (defBody s_f_letters_read) (defScope s_f_letters_read) .none kV_f_letters_read dc_f_letters_read pm_f_letters_read an_f_letters_read cd_f_letters_read ct_f_letters_read), sl_f_letters_read⟩) (e_f_letters_read : PySem.W.codeIn K cd_f_letters_read "letters_read" = true) (k_f_letters_read : PySem.W.keepIn K (.ref a_f_letters_read) = true)
    {a_f_room_read : Addr} {od_f_room_read an_f_room_read : Option Addr} {sl_f_room_read : Array (Option Value)} {oc_f_room_read kV_f_room_read dc_f_room_read pm_f_room_read cd_f_room_read ct_f_room_read : Value} (n_f_room_read : PySem.W.nsIn K mainGlobals "room_read" = some (some (.ref a_f_room_read))) (l_f_room_read : K.lookup a_f_room_read = some ⟨oc_f_room_read, od_f_room_read, .func (PySem.W.fnOf "room_read" "room_read" (defArgs s_f_room_read) (defBody s_f_room_read) (defScope s_f_room_read) .none kV_f_room_read dc_f_room_read pm_f_room_read an_f_room_read cd_f_room_read ct_f_room_read), sl_f_room_read⟩) (e_f_room_read : PySem.W.codeIn K cd_f_room_read "room_read" = true) (k_f_room_read : PySem.W.keepIn K (.ref a_f_room_read) = true)
    {a_f_read : Addr} {od_f_read an_f_read : Option Addr} {sl_f_read : Array (Option Value)} {oc_f_read kV_f_read dc_f_read pm_f_read cd_f_read ct_f_read : Value} (n_f_read : PySem.W.nsIn K mainGlobals "read" = some (some (.ref a_f_read))) (l_f_read : K.lookup a_f_read = some ⟨oc_f_read, od_f_read, .func (PySem.W.fnOf "read" "read" (defArgs s_f_read) (defBody s_f_read) (defScope s_f_read) .none kV_f_read dc_f_read pm_f_read an_f_read cd_f_read ct_f_read), sl_f_read⟩) (e_f_read : PySem.W.codeIn K cd_f_read "read" = true) (k_f_read : PySem.W.keepIn K (.ref a_f_read) = true)
    {a_f_law_cell_at : Addr} {od_f_law_cell_at an_f_law_cell_at : Option Addr} {sl_f_law_cell_at : Array (Option Value)} {oc_f_law_cell_at kV_f_law_cell_at dc_f_law_cell_at pm_f_law_cell_at cd_f_law_cell_at ct_f_law_cell_at : Value} (n_f_law_cell_at : PySem.W.nsIn K mainGlobals "_law_cell_at" = some (some (.ref a_f_law_cell_at))) (l_f_law_cell_at : K.lookup a_f_law_cell_at = some ⟨oc_f_law_cell_at, od_f_law_cell_at, .func (PySem.W.fnOf "_law_cell_at" "_law_cell_at" (defArgs s_f_law_cell_at) (defBody s_f_law_cell_at) (defScope s_f_law_cell_at) .none kV_f_law_cell_at dc_f_law_cell_at pm_f_law_cell_at an_f_law_cell_at cd_f_law_cell_at ct_f_law_cell_at), sl_f_law_cell_at⟩) (e_f_law_cell_at : PySem.W.codeIn K cd_f_law_cell_at "_law_cell_at" = true) (k_f_law_cell_at : PySem.W.keepIn K (.ref a_f_law_cell_at) = true)
    {a_f_law_mixed : Addr} {od_f_law_mixed an_f_law_mixed : Option Addr} {sl_f_law_mixed : Array (Option Value)} {oc_f_law_mixed kV_f_law_mixed dc_f_law_mixed pm_f_law_mixed cd_f_law_mixed ct_f_law_mixed : Value} (n_f_law_mixed : PySem.W.nsIn K mainGlobals "_law_mixed" = some (some (.ref a_f_law_mixed))) (l_f_law_mixed : K.lookup a_f_law_mixed = some ⟨oc_f_law_mixed, od_f_law_mixed, .func (PySem.W.fnOf "_law_mixed" "_law_mixed" (defArgs s_f_law_mixed) (defBody s_f_law_mixed) (defScope s_f_law_mixed) .none kV_f_law_mixed dc_f_law_mixed pm_f_law_mixed an_f_law_mixed cd_f_law_mixed ct_f_law_mixed), sl_f_law_mixed⟩) (e_f_law_mixed : PySem.W.codeIn K cd_f_law_mixed "_law_mixed" = true) (k_f_law_mixed : PySem.W.keepIn K (.ref a_f_law_mixed) = true)
    {a_f_law_move : Addr} {od_f_law_move an_f_law_move : Option Addr} {sl_f_law_move : Array (Option Value)} {oc_f_law_move kV_f_law_move dc_f_law_move pm_f_law_move cd_f_law_move ct_f_law_move : Value} (n_f_law_move : PySem.W.nsIn K mainGlobals "_law_move" = some (some (.ref a_f_law_move))) (l_f_law_move : K.lookup a_f_law_move = some ⟨oc_f_law_move, od_f_law_move, .func (PySem.W.fnOf "_law_move" "_law_move" (defArgs s_f_law_move) (defBody s_f_law_move) (defScope s_f_law_move) .none kV_f_law_move dc_f_law_move pm_f_law_move an_f_law_move cd_f_law_move ct_f_law_move), sl_f_law_move⟩) (e_f_law_move : PySem.W.codeIn K cd_f_law_move "_law_move" = true) (k_f_law_move : PySem.W.keepIn K (.ref a_f_law_move) = true)
    {a_f_law_machine : Addr} {od_f_law_machine an_f_law_machine : Option Addr} {sl_f_law_machine : Array (Option Value)} {oc_f_law_machine kV_f_law_machine dc_f_law_machine pm_f_law_machine cd_f_law_machine ct_f_law_machine : Value} (n_f_law_machine : PySem.W.nsIn K mainGlobals "_law_machine" = some (some (.ref a_f_law_machine))) (l_f_law_machine : K.lookup a_f_law_machine = some ⟨oc_f_law_machine, od_f_law_machine, .func (PySem.W.fnOf "_law_machine" "_law_machine" (defArgs s_f_law_machine) (defBody s_f_law_machine) (defScope s_f_law_machine) .none kV_f_law_machine dc_f_law_machine pm_f_law_machine an_f_law_machine cd_f_law_machine ct_f_law_machine), sl_f_law_machine⟩) (e_f_law_machine : PySem.W.codeIn K cd_f_law_machine "_law_machine" = true) (k_f_law_machine : PySem.W.keepIn K (.ref a_f_law_machine) = true)
    {a_f_law_letters : Addr} {od_f_law_letters an_f_law_letters : Option Addr} {sl_f_law_letters : Array (Option Value)} {oc_f_law_letters kV_f_law_letters dc_f_law_letters pm_f_law_letters cd_f_law_letters ct_f_law_letters : Value} (n_f_law_letters : PySem.W.nsIn K mainGlobals "_law_letters" = some (some (.ref a_f_law_letters))) (l_f_law_letters : K.lookup a_f_law_letters = some ⟨oc_f_law_letters, od_f_law_letters, .func (PySem.W.fnOf "_law_letters" "_law_letters" (defArgs s_f_law_letters) (defBody s_f_law_letters) (defScope s_f_law_letters) .none kV_f_law_letters dc_f_law_letters pm_f_law_letters an_f_law_letters cd_f_law_letters ct_f_law_letters), sl_f_law_letters⟩) (e_f_law_letters : PySem.W.codeIn K cd_f_law_letters "_law_letters" = true) (k_f_law_letters : PySem.W.keepIn K (.ref a_f_law_letters) = true)
    {a_f_law_part : Addr} {od_f_law_part an_f_law_part : Option Addr} {sl_f_law_part : Array (Option Value)} {oc_f_law_part kV_f_law_part dc_f_law_part pm_f_law_part cd_f_law_part ct_f_law_part : Value} (n_f_law_part : PySem.W.nsIn K mainGlobals "_law_part" = some (some (.ref a_f_law_part))) (l_f_law_part : K.lookup a_f_law_part = some ⟨oc_f_law_part, od_f_law_part, .func (PySem.W.fnOf "_law_part" "_law_part" (defArgs s_f_law_part) (defBody s_f_law_part) (defScope s_f_law_part) .none kV_f_law_part dc_f_law_part pm_f_law_part an_f_law_part cd_f_law_part ct_f_law_part), sl_f_law_part⟩) (e_f_law_part : PySem.W.codeIn K cd_f_law_part "_law_part" = true) (k_f_law_part : PySem.W.keepIn K (.ref a_f_law_part) = true)
    {a_f_law_written : Addr} {od_f_law_written an_f_law_written : Option Addr} {sl_f_law_written : Array (Option Value)} {oc_f_law_written kV_f_law_written dc_f_law_written pm_f_law_written cd_f_law_written ct_f_law_written : Value} (n_f_law_written : PySem.W.nsIn K mainGlobals "_law_written" = some (some (.ref a_f_law_written))) (l_f_law_written : K.lookup a_f_law_written = some ⟨oc_f_law_written, od_f_law_written, .func (PySem.W.fnOf "_law_written" "_law_written" (defArgs s_f_law_written) (defBody s_f_law_written) (defScope s_f_law_written) .none kV_f_law_written dc_f_law_written pm_f_law_written an_f_law_written cd_f_law_written ct_f_law_written), sl_f_law_written⟩) (e_f_law_written : PySem.W.codeIn K cd_f_law_written "_law_written" = true) (k_f_law_written : PySem.W.keepIn K (.ref a_f_law_written) = true)
    {a_f_law_spoilt : Addr} {od_f_law_spoilt an_f_law_spoilt : Option Addr} {sl_f_law_spoilt : Array (Option Value)} {oc_f_law_spoilt kV_f_law_spoilt dc_f_law_spoilt pm_f_law_spoilt cd_f_law_spoilt ct_f_law_spoilt : Value} (n_f_law_spoilt : PySem.W.nsIn K mainGlobals "_law_spoilt" = some (some (.ref a_f_law_spoilt))) (l_f_law_spoilt : K.lookup a_f_law_spoilt = some ⟨oc_f_law_spoilt, od_f_law_spoilt, .func (PySem.W.fnOf "_law_spoilt" "_law_spoilt" (defArgs s_f_law_spoilt) (defBody s_f_law_spoilt) (defScope s_f_law_spoilt) .none kV_f_law_spoilt dc_f_law_spoilt pm_f_law_spoilt an_f_law_spoilt cd_f_law_spoilt ct_f_law_spoilt), sl_f_law_spoilt⟩) (e_f_law_spoilt : PySem.W.codeIn K cd_f_law_spoilt "_law_spoilt" = true) (k_f_law_spoilt : PySem.W.keepIn K (.ref a_f_law_spoilt) = true)
    {a_f_law_read_move : Addr} {od_f_law_read_move an_f_law_read_move : Option Addr} {sl_f_law_read_move : Array (Option Value)} {oc_f_law_read_move kV_f_law_read_move dc_f_law_read_move pm_f_law_read_move cd_f_law_read_move ct_f_law_read_move : Value} (n_f_law_read_move : PySem.W.nsIn K mainGlobals "_law_read_move" = some (some (.ref a_f_law_read_move))) (l_f_law_read_move : K.lookup a_f_law_read_move = some ⟨oc_f_law_read_move, od_f_law_read_move, .func (PySem.W.fnOf "_law_read_move" "_law_read_move" (defArgs s_f_law_read_move) (defBody s_f_law_read_move) (defScope s_f_law_read_move) .none kV_f_law_read_move dc_f_law_read_move pm_f_law_read_move an_f_law_read_move cd_f_law_read_move ct_f_law_read_move), sl_f_law_read_move⟩) (e_f_law_read_move : PySem.W.codeIn K cd_f_law_read_move "_law_read_move" = true) (k_f_law_read_move : PySem.W.keepIn K (.ref a_f_law_read_move) = true)
    {a_f_law_due : Addr} {od_f_law_due an_f_law_due : Option Addr} {sl_f_law_due : Array (Option Value)} {oc_f_law_due kV_f_law_due dc_f_law_due pm_f_law_due cd_f_law_due ct_f_law_due : Value} (n_f_law_due : PySem.W.nsIn K mainGlobals "_law_due" = some (some (.ref a_f_law_due))) (l_f_law_due : K.lookup a_f_law_due = some ⟨oc_f_law_due, od_f_law_due, .func (PySem.W.fnOf "_law_due" "_law_due" (defArgs s_f_law_due) (defBody s_f_law_due) (defScope s_f_law_due) .none kV_f_law_due dc_f_law_due pm_f_law_due an_f_law_due cd_f_law_due ct_f_law_due), sl_f_law_due⟩) (e_f_law_due : PySem.W.codeIn K cd_f_law_due "_law_due" = true) (k_f_law_due : PySem.W.keepIn K (.ref a_f_law_due) = true)
    {a_f_law : Addr} {od_f_law an_f_law : Option Addr} {sl_f_law : Array (Option Value)} {oc_f_law kV_f_law dc_f_law pm_f_law cd_f_law ct_f_law : Value} (n_f_law : PySem.W.nsIn K mainGlobals "law" = some (some (.ref a_f_law))) (l_f_law : K.lookup a_f_law = some ⟨oc_f_law, od_f_law, .func (PySem.W.fnOf "law" "law" (defArgs s_f_law) (defBody s_f_law) (defScope s_f_law) .none kV_f_law dc_f_law pm_f_law an_f_law cd_f_law ct_f_law), sl_f_law⟩) (e_f_law : PySem.W.codeIn K cd_f_law "law" = true) (k_f_law : PySem.W.keepIn K (.ref a_f_law) = true)
    (z_ValueError : PySem.W.nsIn K mainGlobals "ValueError" = some none)
    (z_all : PySem.W.nsIn K mainGlobals "all" = some none)
    (z_dict : PySem.W.nsIn K mainGlobals "dict" = some none)
    (z_int : PySem.W.nsIn K mainGlobals "int" = some none)
    (z_isinstance : PySem.W.nsIn K mainGlobals "isinstance" = some none)
    (z_len : PySem.W.nsIn K mainGlobals "len" = some none)
    (z_range : PySem.W.nsIn K mainGlobals "range" = some none)
    (z_str : PySem.W.nsIn K mainGlobals "str" = some none)
    (z_tuple : PySem.W.nsIn K mainGlobals "tuple" = some none)
    (z_zip : PySem.W.nsIn K mainGlobals "zip" = some none)
    {a_ENDS : Addr} {dd_ENDS : Option Addr} {m_ENDS : Nat} {sl_ENDS : Array (Option Value)} {t0_ENDS t1_ENDS : Tok} (n_ENDS : PySem.W.nsIn K mainGlobals "ENDS" = some (some (.ref a_ENDS))) (l_ENDS : K.lookup a_ENDS = some ⟨.type "tuple", dd_ENDS, .seq #[.str "yes" t0_ENDS, .str "no" t1_ENDS] m_ENDS, sl_ENDS⟩)
    {t_MOST_LETTERS : Tok} (n_MOST_LETTERS : PySem.W.nsIn K mainGlobals "MOST_LETTERS" = some (some (.int 3 t_MOST_LETTERS)))
    {t_MOST_ROOMS : Tok} (n_MOST_ROOMS : PySem.W.nsIn K mainGlobals "MOST_ROOMS" = some (some (.int 12 t_MOST_ROOMS)))
    {C_HeadError : Addr} (n_HeadError : PySem.W.nsIn K mainGlobals "HeadError" = some (some (.ref C_HeadError)))
    {C_NoMachine : Addr} (n_NoMachine : PySem.W.nsIn K mainGlobals "NoMachine" = some (some (.ref C_NoMachine)))
    {C_NoText : Addr} (n_NoText : PySem.W.nsIn K mainGlobals "NoText" = some (some (.ref C_NoText)))
    (qex_NoText : PySem.W.excIn K C_NoText [.type "ValueError", .type "Exception", .type "BaseException", .type "object"] "ValueError.__new__" = true)
    (qkt_NoText : PySem.W.ktsIn K C_NoText "BaseException" = true)
    (qga_NoText : PySem.W.findIn K (.ref C_NoText) "__getattribute__" = some (some (.builtin "BaseException.__getattribute__")))
    (qgn_NoText : PySem.W.findIn K (.ref C_NoText) "__getattr__" = some none)
    (qca_NoText : PySem.W.findIn K (.ref C_NoText) "__class__" = some (some (.builtin "object.__class__")))
    (qcg_NoText : PySem.W.specialIn K (.builtin "object.__class__") "__get__" = some (some (.builtin "getset_descriptor.__get__")))
    (qtk_NoText : PySem.W.takesIn K (.builtin "object.__class__") = some true)
    (qmo_NoText : PySem.W.mroIn K C_NoText (.type "object") = some true)
    (qsb_NoText : PySem.W.subIn K (.ref C_NoText) (.type "BaseException") = some true)
    (kit_NoText_HeadError : PySem.W.kitOne K (.ref C_NoText) (.ref C_HeadError) = some true)
    (kit_NoText_NoMachine : PySem.W.kitOne K (.ref C_NoText) (.ref C_NoMachine) = some false)
    (kit_NoText_ValueError : PySem.W.kitOne K (.ref C_NoText) (.type "ValueError") = some true) :
    ∃ fd : FuncData, (∀ (s : Shared) (v : Value), BindsTo s fd ⟨[v], []⟩ [("_law_script", v)]) ∧ ∀ base : Heap, K.In base → base.Ns mainGlobals mg → FnOk l.prog w K mg base CX0 5 fa fd ["_law_script"] (spD K m_f_law) := by
  have e := hfa.symm.trans (PySem.W.mg_of X Gm n_f_law)
  cases e
  have bi : Bi mg := ⟨PySem.W.mg_none_of X Gm z_ValueError, PySem.W.mg_none_of X Gm z_all, PySem.W.mg_none_of X Gm z_dict, PySem.W.mg_none_of X Gm z_int, PySem.W.mg_none_of X Gm z_isinstance, PySem.W.mg_none_of X Gm z_len, PySem.W.mg_none_of X Gm z_range, PySem.W.mg_none_of X Gm z_str, PySem.W.mg_none_of X Gm z_tuple, PySem.W.mg_none_of X Gm z_zip⟩
  have g_ENDS : GlobT K mg "ENDS" [(.str "yes"), (.str "no")] := globT_strs ["yes", "no"] (PySem.W.mg_of X Gm n_ENDS) l_ENDS (by show 2 ≤ sizeLine; decide) (.cons ⟨_, rfl⟩ (.cons ⟨_, rfl⟩ (.nil)))
  have g_MOST_LETTERS := PySem.W.mg_of X Gm n_MOST_LETTERS
  have g_MOST_ROOMS := PySem.W.mg_of X Gm n_MOST_ROOMS
  refine ⟨PySem.W.fnOf "law" "law" (defArgs s_f_law) (defBody s_f_law) (defScope s_f_law) .none kV_f_law dc_f_law pm_f_law an_f_law cd_f_law ct_f_law, fun s v => .of_eq rfl, fun base _ _ => ?_⟩
  have EC_NoText : ErrC K mg "NoText" C_NoText := errC (PySem.W.mg_of X Gm n_NoText) qex_NoText qkt_NoText qga_NoText qgn_NoText qca_NoText qcg_NoText qtk_NoText qmo_NoText qsb_NoText
  have c_f_ways_at := ok_f_ways_at (P := l.prog) (w := w) (base := base) (fun_mk (st := s_f_ways_at) l_f_ways_at e_f_ways_at k_f_ways_at) (PySem.W.mg_of X Gm n_f_ways_at) bi
  have c_f_shown_move := ok_f_shown_move (P := l.prog) (w := w) (base := base) (fun_mk (st := s_f_shown_move) l_f_shown_move e_f_shown_move k_f_shown_move) (PySem.W.mg_of X Gm n_f_shown_move) bi
  have c_f_moves_by_text := ok_f_moves_by_text (P := l.prog) (w := w) (base := base) (fun_mk (st := s_f_moves_by_text) l_f_moves_by_text e_f_moves_by_text k_f_moves_by_text) (PySem.W.mg_of X Gm n_f_moves_by_text) bi c_f_shown_move g_ENDS
  have c_f_letters_read := ok_f_letters_read (P := l.prog) (w := w) (base := base) (fun_mk (st := s_f_letters_read) l_f_letters_read e_f_letters_read k_f_letters_read) (PySem.W.mg_of X Gm n_f_letters_read) bi g_MOST_LETTERS
  have rf_f_letters_read := ref_f_letters_read (P := l.prog) (w := w) (base := base) (fun_mk (st := s_f_letters_read) l_f_letters_read e_f_letters_read k_f_letters_read) (PySem.W.mg_of X Gm n_f_letters_read) bi g_MOST_LETTERS EC_NoText
  have c_f_room_read := ok_f_room_read (P := l.prog) (w := w) (base := base) (fun_mk (st := s_f_room_read) l_f_room_read e_f_room_read k_f_room_read) (PySem.W.mg_of X Gm n_f_room_read) bi
  have rf_f_room_read := ref_f_room_read (P := l.prog) (w := w) (base := base) (fun_mk (st := s_f_room_read) l_f_room_read e_f_room_read k_f_room_read) (PySem.W.mg_of X Gm n_f_room_read) bi EC_NoText
  have c_f_read := ok_f_read (P := l.prog) (w := w) (base := base) (fun_mk (st := s_f_read) l_f_read e_f_read k_f_read) (PySem.W.mg_of X Gm n_f_read) bi c_f_letters_read c_f_ways_at c_f_moves_by_text c_f_room_read g_MOST_ROOMS
  have rf_f_read := ref_f_read (P := l.prog) (w := w) (base := base) (fun_mk (st := s_f_read) l_f_read e_f_read k_f_read) (PySem.W.mg_of X Gm n_f_read) bi c_f_letters_read c_f_ways_at c_f_moves_by_text c_f_room_read g_MOST_ROOMS EC_NoText rf_f_letters_read rf_f_room_read
  have c_f_law_cell_at := ok_f_law_cell_at (P := l.prog) (w := w) (base := base) (fun_mk (st := s_f_law_cell_at) l_f_law_cell_at e_f_law_cell_at k_f_law_cell_at) (PySem.W.mg_of X Gm n_f_law_cell_at) bi
  have c_f_law_mixed := ok_f_law_mixed (P := l.prog) (w := w) (base := base) (fun_mk (st := s_f_law_mixed) l_f_law_mixed e_f_law_mixed k_f_law_mixed) (PySem.W.mg_of X Gm n_f_law_mixed) bi c_f_law_cell_at
  have c_f_law_move := ok_f_law_move (P := l.prog) (w := w) (base := base) (fun_mk (st := s_f_law_move) l_f_law_move e_f_law_move k_f_law_move) (PySem.W.mg_of X Gm n_f_law_move) bi c_f_law_mixed
  have c_f_law_machine := ok_f_law_machine (P := l.prog) (w := w) (base := base) (fun_mk (st := s_f_law_machine) l_f_law_machine e_f_law_machine k_f_law_machine) (PySem.W.mg_of X Gm n_f_law_machine) bi c_f_law_mixed c_f_law_move
  have c_f_law_letters := ok_f_law_letters (P := l.prog) (w := w) (base := base) (fun_mk (st := s_f_law_letters) l_f_law_letters e_f_law_letters k_f_law_letters) (PySem.W.mg_of X Gm n_f_law_letters) bi c_f_law_mixed
  have c_f_law_part := ok_f_law_part (P := l.prog) (w := w) (base := base) (fun_mk (st := s_f_law_part) l_f_law_part e_f_law_part k_f_law_part) (PySem.W.mg_of X Gm n_f_law_part) bi
  have c_f_law_written := ok_f_law_written (P := l.prog) (w := w) (base := base) (fun_mk (st := s_f_law_written) l_f_law_written e_f_law_written k_f_law_written) (PySem.W.mg_of X Gm n_f_law_written) bi c_f_law_part
  have c_f_law_spoilt := ok_f_law_spoilt (P := l.prog) (w := w) (base := base) (fun_mk (st := s_f_law_spoilt) l_f_law_spoilt e_f_law_spoilt k_f_law_spoilt) (PySem.W.mg_of X Gm n_f_law_spoilt) bi
  have c_f_law_read_move := ok_f_law_read_move (P := l.prog) (w := w) (base := base) (fun_mk (st := s_f_law_read_move) l_f_law_read_move e_f_law_read_move k_f_law_read_move) (PySem.W.mg_of X Gm n_f_law_read_move) bi
  have c_f_law_due := ok_f_law_due (P := l.prog) (w := w) (base := base) (fun_mk (st := s_f_law_due) l_f_law_due e_f_law_due k_f_law_due) (PySem.W.mg_of X Gm n_f_law_due) bi c_f_law_read_move
  exact ok_f_law (fun_mk (st := s_f_law) l_f_law e_f_law k_f_law) bi c_f_law_letters c_f_law_machine c_f_law_mixed c_f_law_written c_f_law_spoilt c_f_read c_f_law_due EC_NoText rf_f_read (PySem.W.mg_of X Gm n_HeadError) (PySem.W.mg_of X Gm n_NoMachine) kit_NoText_HeadError kit_NoText_NoMachine kit_NoText_ValueError
theorem walk {l : PySem.W.OpenLaw} {qq : Program} {loose : List Str} {XP : (Str → Option Value) → Heap → Prop} {YP : World → Heap → Prop} {d : DefRec} {K : Params → PySem.W.Frag} (good : ∀ ns : List Int, ns.length ≤ 63 → m_f_law [.scr ns] = some (.bl true)) (hn : l.most = some 63) (hdf : d.params.defaults = [])
    (hY : ∀ (w : World) (h : Heap), YP w h → (K w.params).In h)
    (F : ∀ (w : World) (mg : Str → Option Value) (fa : Addr) (h : Heap), (K w.params).In h → h.Ns mainGlobals mg → mg d.name = some (.ref fa) →
      ∃ fd : FuncData, (∀ (s : Shared) (u : Value), BindsTo s fd ⟨[u], []⟩ [("_law_script", u)]) ∧ ∀ base : Heap, (K w.params).In base → base.Ns mainGlobals mg → FnOk l.prog w (K w.params) mg base CX0 5 fa fd ["_law_script"] (spD (K w.params) m_f_law)) :
    PySem.W.WalkO qq loose XP YP l.row.toRowW d [] (fun f vs => PySem.call f vs) :=
  L2.walk_of (n := 63) (k := 5) (x := "_law_script") (CX := fun _ => CX0) (sp := fun w => spD (K w.params) m_f_law) hn (by decide) hdf ⟨rfl, by decide, by decide⟩ hY F (fun _ _ a ns hl _ hS => law_sp hS (good ns hl)) fun _ _ _ _ _ z => z

end Py
open PySem PySem.W PyProof.Rows
set_option maxRecDepth 100000 in
set_option maxHeartbeats 0 in
theorem PySem.Challenge.cw_backhead_k15_texts_refused_holds : PySem.Challenge.rw_backhead_k15_texts_refused.Holds := by
  w_on; o_law; k_head; (case hw => w_witness2)
  k_fill
  refine Py.walk (l := PySem.Challenge.rw_backhead_k15_texts_refused) Py.good rfl rfl (fun w h Y => PySem.W.kIn_of Y) ?F
  case F =>
    intro w mg fa h KX G hmg
    refine' Py.all_mk KX G hmg ?n_f_ways_at ?l_f_ways_at ?e_f_ways_at ?k_f_ways_at ?n_f_shown_move ?l_f_shown_move ?e_f_shown_move ?k_f_shown_move ?n_f_moves_by_text ?l_f_moves_by_text ?e_f_moves_by_text ?k_f_moves_by_text ?n_f_letters_read ?l_f_letters_read ?e_f_letters_read ?k_f_letters_read ?n_f_room_read ?l_f_room_read ?e_f_room_read ?k_f_room_read ?n_f_read ?l_f_read ?e_f_read ?k_f_read ?n_f_law_cell_at ?l_f_law_cell_at ?e_f_law_cell_at ?k_f_law_cell_at ?n_f_law_mixed ?l_f_law_mixed ?e_f_law_mixed ?k_f_law_mixed ?n_f_law_move ?l_f_law_move ?e_f_law_move ?k_f_law_move ?n_f_law_machine ?l_f_law_machine ?e_f_law_machine ?k_f_law_machine ?n_f_law_letters ?l_f_law_letters ?e_f_law_letters ?k_f_law_letters ?n_f_law_part ?l_f_law_part ?e_f_law_part ?k_f_law_part ?n_f_law_written ?l_f_law_written ?e_f_law_written ?k_f_law_written ?n_f_law_spoilt ?l_f_law_spoilt ?e_f_law_spoilt ?k_f_law_spoilt ?n_f_law_read_move ?l_f_law_read_move ?e_f_law_read_move ?k_f_law_read_move ?n_f_law_due ?l_f_law_due ?e_f_law_due ?k_f_law_due ?n_f_law ?l_f_law ?e_f_law ?k_f_law ?z_ValueError ?z_all ?z_dict ?z_int ?z_isinstance ?z_len ?z_range ?z_str ?z_tuple ?z_zip ?n_ENDS ?l_ENDS ?n_MOST_LETTERS ?n_MOST_ROOMS ?n_HeadError ?n_NoMachine ?n_NoText ?qex_NoText ?qkt_NoText ?qga_NoText ?qgn_NoText ?qca_NoText ?qcg_NoText ?qtk_NoText ?qmo_NoText ?qsb_NoText ?kit_NoText_HeadError ?kit_NoText_NoMachine ?kit_NoText_ValueError
    (case n_f_ways_at => k_is)
    (case l_f_ways_at => k_is)
    (case e_f_ways_at => k_is)
    (case k_f_ways_at => k_is)
    (case n_f_shown_move => k_is)
    (case l_f_shown_move => k_is)
    (case e_f_shown_move => k_is)
    (case k_f_shown_move => k_is)
    (case n_f_moves_by_text => k_is)
    (case l_f_moves_by_text => k_is)
    (case e_f_moves_by_text => k_is)
    (case k_f_moves_by_text => k_is)
    (case n_f_letters_read => k_is)
    (case l_f_letters_read => k_is)
    (case e_f_letters_read => k_is)
    (case k_f_letters_read => k_is)
    (case n_f_room_read => k_is)
    (case l_f_room_read => k_is)
    (case e_f_room_read => k_is)
    (case k_f_room_read => k_is)
    (case n_f_read => k_is)
    (case l_f_read => k_is)
    (case e_f_read => k_is)
    (case k_f_read => k_is)
    (case n_f_law_cell_at => k_is)
    (case l_f_law_cell_at => k_is)
    (case e_f_law_cell_at => k_is)
    (case k_f_law_cell_at => k_is)
    (case n_f_law_mixed => k_is)
    (case l_f_law_mixed => k_is)
    (case e_f_law_mixed => k_is)
    (case k_f_law_mixed => k_is)
    (case n_f_law_move => k_is)
    (case l_f_law_move => k_is)
    (case e_f_law_move => k_is)
    (case k_f_law_move => k_is)
    (case n_f_law_machine => k_is)
    (case l_f_law_machine => k_is)
    (case e_f_law_machine => k_is)
    (case k_f_law_machine => k_is)
    (case n_f_law_letters => k_is)
    (case l_f_law_letters => k_is)
    (case e_f_law_letters => k_is)
    (case k_f_law_letters => k_is)
    (case n_f_law_part => k_is)
    (case l_f_law_part => k_is)
    (case e_f_law_part => k_is)
    (case k_f_law_part => k_is)
    (case n_f_law_written => k_is)
    (case l_f_law_written => k_is)
    (case e_f_law_written => k_is)
    (case k_f_law_written => k_is)
    (case n_f_law_spoilt => k_is)
    (case l_f_law_spoilt => k_is)
    (case e_f_law_spoilt => k_is)
    (case k_f_law_spoilt => k_is)
    (case n_f_law_read_move => k_is)
    (case l_f_law_read_move => k_is)
    (case e_f_law_read_move => k_is)
    (case k_f_law_read_move => k_is)
    (case n_f_law_due => k_is)
    (case l_f_law_due => k_is)
    (case e_f_law_due => k_is)
    (case k_f_law_due => k_is)
    (case n_f_law => k_is)
    (case l_f_law => k_is)
    (case e_f_law => k_is)
    (case k_f_law => k_is)
    (case z_ValueError => k_is)
    (case z_all => k_is)
    (case z_dict => k_is)
    (case z_int => k_is)
    (case z_isinstance => k_is)
    (case z_len => k_is)
    (case z_range => k_is)
    (case z_str => k_is)
    (case z_tuple => k_is)
    (case z_zip => k_is)
    (case n_ENDS => k_is)
    (case l_ENDS => k_is)
    (case n_MOST_LETTERS => k_is)
    (case n_MOST_ROOMS => k_is)
    (case n_HeadError => k_is)
    (case n_NoMachine => k_is)
    (case n_NoText => k_is)
    (case qex_NoText => k_exc)
    (case qkt_NoText => kts_isx)
    (case qga_NoText => k_is)
    (case qgn_NoText => k_is)
    (case qca_NoText => k_is)
    (case qcg_NoText => k_is)
    (case qtk_NoText => k_is)
    (case qmo_NoText => k_is)
    (case qsb_NoText => k_is)
    (case kit_NoText_HeadError => kit_is)
    (case kit_NoText_NoMachine => kit_is)
    (case kit_NoText_ValueError => kit_is)

