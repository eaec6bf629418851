import PyProof.Rows.All
import Wide.All
import OpenK.AllK
import Wide.FinOn
import Lean
import PyProof.EqAt
import PyProof.EqKinds
import PyProof.TupleCall
import PyProof.AutoListH
import KE.KDictOf
import PyProof.AttrMissHeap
import KE.KSortTup
import PyProof.Rows.InDataRows
import PySem.Challenge.RW_pairedthrows_k28_least_rests_and_factors
set_option Elab.async false
set_option linter.all false
set_option maxRecDepth 100000
/-! THE HAND LAYER, for ints, bools, texts, own classes, DICTS (int and text keys), calls, loops. Paste it whole ahead of your own text; what your proof does not reach may be deleted. -/
namespace L2
open PySem PySem.Spec PyProof.Rows

/-- a key: an int or a str -/
abbrev Key := Sum Int Str
def keyIs : Key → Value → Bool
  | .inl k, v => Value.isInt k v
  | .inr x, v => Value.isStrOf x v
def keyH (w : World) : Key → Int
  | .inl k => hashInt k
  | .inr x => hashStr w x
theorem keyIs_shape : ∀ {k : Key} {v : Value}, keyIs k v = true → (∃ i t, k = Sum.inl i ∧ v = Value.int i t) ∨ (∃ x t, k = Sum.inr x ∧ v = Value.str x t)
  | .inl i, v, h => by
    obtain ⟨t, e⟩ := Value.isInt_shape (k := i) (v := v) h
    exact .inl ⟨i, t, rfl, e⟩
  | .inr x, v, h => by
    obtain ⟨t, e⟩ := Value.isStrOf_shape (x := x) (v := v) h
    exact .inr ⟨x, t, rfl, e⟩
theorem keyIs_int (i : Int) (t : Tok) : keyIs (.inl i) (.int i t) = true := by simp [keyIs, Value.isInt]
theorem keyIs_str (x : Str) (t : Tok) : keyIs (.inr x) (.str x t) = true := by simp [keyIs, Value.isStrOf]
theorem key_ll (a b : Int) : decide ((Sum.inl a : Key) = Sum.inl b) = (a == b) := by
  by_cases e : a = b
  · subst e; simp
  · have h : ¬ (Sum.inl a : Key) = Sum.inl b := fun q => e (Sum.inl.inj q)
    rw [decide_eq_false h]
    exact (beq_eq_false_iff_ne.mpr e).symm
theorem key_rr (a b : Str) : decide ((Sum.inr a : Key) = Sum.inr b) = decide (a = b) := by
  by_cases e : a = b
  · subst e; simp
  · have h : ¬ (Sum.inr a : Key) = Sum.inr b := fun q => e (Sum.inr.inj q)
    rw [decide_eq_false h, decide_eq_false e]
theorem key_lr (a : Int) (b : Str) : decide ((Sum.inl a : Key) = Sum.inr b) = false := decide_eq_false (fun q => nomatch q)
theorem key_rl (a : Str) (b : Int) : decide ((Sum.inr a : Key) = Sum.inl b) = false := decide_eq_false (fun q => nomatch q)

def mixKind (prog : Program) (w : World) : PySem.KeyKind prog w Key where
  is := keyIs
  hash := keyH w
  inj := fun v a b ha hb => by
    rcases keyIs_shape ha with ⟨i, t, rfl, rfl⟩ | ⟨x, t, rfl, rfl⟩
    · rcases keyIs_shape hb with ⟨j, u, rfl, e⟩ | ⟨y, u, rfl, e⟩
      · injection e with e1 _; rw [e1]
      · exact nomatch e
    · rcases keyIs_shape hb with ⟨j, u, rfl, e⟩ | ⟨y, u, rfl, e⟩
      · exact nomatch e
      · injection e with e1 _; rw [e1]
  byValue := fun k v h => by
    rcases keyIs_shape h with ⟨i, t, rfl, rfl⟩ | ⟨x, t, rfl, rfl⟩ <;> rfl
  pyHash := fun hv h => by
    rcases keyIs_shape hv with ⟨i, t, rfl, rfl⟩ | ⟨x, t, rfl, rfl⟩
    · exact wpAny_pyHash_int h
    · exact wpAny_pyHash_str h
  eqBool := fun hu hv h => by
    rcases keyIs_shape hu with ⟨i, t, rfl, rfl⟩ | ⟨x, t, rfl, rfl⟩
    · rcases keyIs_shape hv with ⟨j, u, rfl, rfl⟩ | ⟨y, u, rfl, rfl⟩
      · rw [key_ll] at h; exact wpAny_eqBool_int h
      · rw [key_lr] at h; exact SeqAt.EqAt.int_str i t y u _ _ _ _ h
    · rcases keyIs_shape hv with ⟨j, u, rfl, rfl⟩ | ⟨y, u, rfl, rfl⟩
      · rw [key_rl] at h; exact SeqAt.EqAt.str_int x t j u _ _ _ _ h
      · rw [key_rr] at h; exact wpAny_eqBool_str h
  «strs» := fun k x t v h => by
    rcases keyIs_shape h with ⟨i, u, rfl, e⟩ | ⟨y, u, rfl, e⟩
    · exact nomatch e
    · injection e with e1 _
      subst e1
      cases v <;> rfl

theorem mixKind_int (prog : Program) (w : World) (i : Int) (t : Tok) : (mixKind prog w).is (.inl i) (.int i t) = true := keyIs_int i t
theorem mixKind_str (prog : Program) (w : World) (x : Str) (t : Tok) : (mixKind prog w).is (.inr x) (.str x t) = true := keyIs_str x t
end L2

namespace L2
open PySem PySem.Spec PyProof.Rows

/-- a value, without the heap -/
inductive V where
  | non | bl (b : Bool) | int (i : Int) | str (x : Str) | byt (b : Array UInt8) | flt (b : UInt64) | ref (a : Addr) | ty (n : String)
  deriving DecidableEq

def RelV : V → Value → Prop
  | .non, u => u = Value.none
  | .bl b, u => u = Value.bool b
  | .int i, u => ∃ t, u = Value.int i t
  | .str x, u => ∃ t, u = Value.str x t
  | .byt b, u => ∃ t, u = Value.bytes b t
  | .flt b, u => ∃ t, u = Value.float b t
  | .ref a, u => u = Value.ref a
  | .ty n, u => u = Value.type n

abbrev Vals : List V → List Value → Prop := Paired RelV
theorem Vals.length {xs : List V} {us : List Value} (r : Vals xs us) : xs.length = us.length := Paired.length r
theorem Vals.get : ∀ {xs : List V} {us : List Value} {i : Nat} {x : V}, Vals xs us → xs[i]? = some x → ∃ u, us[i]? = some u ∧ RelV x u
  | _, _, _, _, .nil, e => by simp at e
  | _, _, 0, _, .cons r _, e => by simp at e; subst e; exact ⟨_, rfl, r⟩
  | _, _, i + 1, x, .cons _ t, e => by
    obtain ⟨u, h1, h2⟩ := Vals.get (i := i) (x := x) t (by simpa using e)
    exact ⟨u, by simpa using h1, h2⟩
theorem Vals.set {x : V} {u : Value} (r : RelV x u) : ∀ {xs : List V} {us : List Value} (i : Nat), Vals xs us → Vals (xs.set i x) (us.set i u)
  | _, _, _, .nil => .nil
  | _, _, 0, .cons _ t => .cons r t
  | _, _, i + 1, .cons q t => .cons q (Vals.set r i t)
theorem Vals.append : ∀ {xs ys : List V} {us ws : List Value}, Vals xs us → Vals ys ws → Vals (xs ++ ys) (us ++ ws)
  | _, _, _, _, .nil, s => s
  | _, _, _, _, .cons r t, s => .cons r (Vals.append t s)
theorem Vals.take : ∀ {xs : List V} {us : List Value} (n : Nat), Vals xs us → Vals (xs.take n) (us.take n)
  | _, _, 0, _ => .nil
  | _, _, _ + 1, .nil => .nil
  | _, _, n + 1, .cons r t => .cons r (Vals.take n t)
theorem Vals.drop : ∀ {xs : List V} {us : List Value} (n : Nat), Vals xs us → Vals (xs.drop n) (us.drop n)
  | _, _, 0, r => r
  | _, _, _ + 1, .nil => .nil
  | _, _, n + 1, .cons _ t => Vals.drop n t
def RelO : Option V → Option Value → Prop
  | some v, some u => RelV v u
  | none, none => True
  | _, _ => False
def KV {κ : Type} : List (κ × V) → List (κ × Value) → Prop := Paired fun (p : κ × V) (q : κ × Value) => p.1 = q.1 ∧ RelV p.2 q.2

/-- a key of a dict (00_mix): an int or a text -/
def kV : Key → V
  | .inl i => .int i
  | .inr x => .str x

/-- what stands at a tracked address -/
inductive HO where
  /-- a list -/
  | lst (xs : List V)
  /-- a tuple (never changes) -/
  | tup (xs : List V)
  /-- a dict whose keys are ints and texts; one whose keys are tuples of ints and texts (the empty one is both) -/
  | dK (kvs : List (Key × V)) | dT (kvs : List (List Key × V))
  /-- a set of ints: its members, its size -/
  | set (S : Int → Bool) (n : Nat)
  /-- an instance of the class at C, its dict at dx, its attributes -/
  | ins (C dx : Addr) (fs : List (Str × V))
  /-- the dict of the instance at x -/
  | own (x : Addr)
  /-- the dict of an exception -/
  | xd (fs : List (Str × V))
  /-- a bound method, f of x -/
  | met (f x : Addr)
  /-- a range object lo, lo + 1, .. below hi -/
  | rng (lo hi : Int)
  /-- a thing that is known to the object (the script; a dict while a loop walks it): read, never written while it is so -/
  | frz (o : Obj) (u : HO)
  /-- a code object's table -/
  | tbl (ps : Array Value)
  /-- any other thing, by what is true of its one object (a def of one's own: SetO a S n := HO.ext fun h => ..) -/
  | ext (φ : Heap → Prop)

abbrev Hp := Addr → Option HO
def upd (H : Hp) (a : Addr) (o : HO) : Hp := fun b => if b = a then some o else H b
theorem upd_same {H : Hp} {a : Addr} {o : HO} : upd H a o a = some o := by unfold upd; rw [if_pos rfl]
theorem upd_ne {H : Hp} {a b : Addr} {o : HO} (h : b ≠ a) : upd H a o b = H b := by unfold upd; rw [if_neg h]
theorem upd_upd {H : Hp} {a : Addr} {o u : HO} : upd (upd H a o) a u = upd H a u := by
  funext b; unfold upd; split <;> rfl
/-- two objects of different content stand apart -/
theorem ne_of {H : Hp} {a b : Addr} {o u : HO} (h : H a = some o) (h' : H b = some u) (d : o ≠ u) : a ≠ b := by
  intro e; subst e; rw [h] at h'; exact d (Option.some.inj h')
theorem ne_of_none {H : Hp} {a b : Addr} {o : HO} (h : H a = some o) (h' : H b = none) : a ≠ b := by
  intro e; subst e; rw [h] at h'; cases h'

/-- a tuple without a dict -/
def IsTupD (h : Heap) (a : Addr) (its : Array Value) : Prop := ∃ o, h.get? a = some o ∧ o.cls = .type "tuple" ∧ ∃ n, o.data = .seq its n ∧ o.dict = none
theorem IsTupD.is {h : Heap} {a : Addr} {its : Array Value} (x : IsTupD h a its) : IsTup h a its := let ⟨o, e, c, n, d, _⟩ := x; ⟨o, e, c, n, d⟩
theorem IsTupD.new (h : Heap) (its : Array Value) : IsTupD (h.push { cls := .type "tuple", data := .seq its }) h.objs.size its := ⟨_, Heap.get?_push_size _ rfl, rfl, _, rfl, rfl⟩
section
variable (P : Program) (w : World)
def ObjOk (H : Hp) (h : Heap) (a : Addr) : HO → Prop
  | .lst xs => xs.length ≤ sizeLine ∧ ∃ (its : List Value) (n : Nat), Vals xs its ∧ h.get? a = some { cls := .type "list", data := .seq its.toArray n }
  | .tup xs => xs.length ≤ sizeLine ∧ ∃ its : List Value, Vals xs its ∧ IsTupD h a its.toArray
  | .dK kvs => kvs.length ≤ sizeLine ∧ (a == sysModules) = false ∧ ∃ vs, KV kvs vs ∧ h.DictOf (mixKind P w) a vs
  | .dT kvs => kvs.length ≤ sizeLine ∧ (a == sysModules) = false ∧ ∃ xs : List (List Key × Addr × Value),
      Paired (fun (p : List Key × V) (q : List Key × Addr × Value) => p.1 = q.1 ∧ H q.2.1 = some (.tup (p.1.map kV)) ∧ RelV p.2 q.2.2) kvs xs ∧
      ∃ o es ep, h.get? a = some o ∧ o.ExactDict ∧ o.data = .dict es ep ∧ es.toList = xs.map (entryOfKey (tupleKind (mixKind P w))) ∧ (xs.map (·.1)).Nodup
  | .set S n => h.SetOf (intKind P w) a S n
  | .ins C dx fs => H dx = some (.own a) ∧ fs.length ≤ 1000 ∧ dx ≠ a ∧ h.get? a = some (PySem.W.instObj C dx) ∧
      ∃ mA, h.Ns1 dx mA ∧ (∀ f, RelO (fs.lookup f) (mA f)) ∧ PySem.Within mA (fs.map (·.1))
  | .own _ => ∃ o, h.get? a = some o
  | .xd fs => ∃ mA, h.Ns1 a mA ∧ ∀ f, RelO (fs.lookup f) (mA f)
  | .rng lo hi => ∃ t u v, h.get? a = some { cls := .type "range", data := .fields #[.int lo t, .int hi u, .int 1 v] }
  | .frz o u => h.get? a = some o ∧ ObjOk H h a u
  | .tbl ps => h.get? a = some { cls := .none, data := .fields ps }
  | .met f x => h.get? a = some (PySem.W.methodObj (.ref f) (.ref x))
  | .ext φ => φ h ∧ (∃ o, h.get? a = some o) ∧ ∀ h1 h2 : Heap, φ h1 → (∀ o, h1.get? a = some o → h2.get? a = some o) → φ h2
/-- the abstract heap is held -/
def HOk (H : Hp) (h : Heap) : Prop := ∀ a o, H a = some o → ObjOk P w H h a o
end

section
variable {P : Program} {w : World} {H H' : Hp} {h h' : Heap} {a : Addr} {o : HO}
theorem ObjOk.lt (x : ObjOk P w H h a o) : a < h.objs.size := by
  cases o with
  | lst xs => obtain ⟨_, _, _, _, e⟩ := x; exact Heap.lt_size e
  | tup xs => obtain ⟨_, _, _, p⟩ := x; exact p.is.lt
  | dK kvs => obtain ⟨_, _, _, _, o, _, _, e, _⟩ := x; exact Heap.lt_size e
  | dT kvs => obtain ⟨_, _, _, _, o, _, _, e, _⟩ := x; exact Heap.lt_size e
  | set S n => obtain ⟨o, _, _, _, e, _⟩ := x; exact Heap.lt_size e
  | ins C dx fs => obtain ⟨_, _, _, e, _⟩ := x; exact Heap.lt_size e
  | own y => obtain ⟨_, e⟩ := x; exact Heap.lt_size e
  | xd fs => obtain ⟨_, ⟨_, _, _, e, _⟩, _⟩ := x; exact Heap.lt_size e
  | rng lo hi => obtain ⟨_, _, _, e⟩ := x; exact Heap.lt_size e
  | frz ob u => obtain ⟨e, _⟩ := x; exact Heap.lt_size e
  | tbl ps => exact Heap.lt_size (show h.get? a = some _ from x)
  | met f y => exact Heap.lt_size (show h.get? a = some _ from x)
  | ext φ => obtain ⟨_, ⟨_, e⟩, _⟩ := x; exact Heap.lt_size e
theorem Paired.mapP {α β : Type} {F G : α → β → Prop} : ∀ {l₁ : List α} {l₂ : List β}, Paired F l₁ l₂ → (∀ a b, F a b → G a b) → Paired G l₁ l₂
  | _, _, .nil, _ => .nil
  | _, _, .cons r t, f => .cons (f _ _ r) (Paired.mapP t f)
/-- what an object's description leans on: its own object, its own dict, the tuples -/
theorem ObjOk.stay (x : ObjOk P w H h a o) (k : ∀ b u, (b = a ∨ H b = some (.own a)) → h.get? b = some u → h'.get? b = some u)
    (ho : ∀ b, H b = some (.own a) → H' b = some (.own a)) (ht : ∀ b xs, H b = some (.tup xs) → H' b = some (.tup xs)) : ObjOk P w H' h' a o := by
  induction o with
  | lst xs => obtain ⟨z, its, n, r, e⟩ := x; exact ⟨z, its, n, r, k _ _ (.inl rfl) e⟩
  | tup xs => obtain ⟨z, its, r, ob, e, c⟩ := x; exact ⟨z, its, r, ob, k _ _ (.inl rfl) e, c⟩
  | dK kvs => obtain ⟨z, y, vs, r, ob, es, ep, e, c⟩ := x; exact ⟨z, y, vs, r, ob, es, ep, k _ _ (.inl rfl) e, c⟩
  | dT kvs =>
    obtain ⟨z, y, xs, r, ob, es, ep, e, c⟩ := x
    exact ⟨z, y, xs, Paired.mapP r fun p q z => ⟨z.1, ht _ _ z.2.1, z.2.2⟩, ob, es, ep, k _ _ (.inl rfl) e, c⟩
  | set S n => obtain ⟨ob, es, ep, t, e, c⟩ := x; exact ⟨ob, es, ep, t, k _ _ (.inl rfl) e, c⟩
  | ins C dx fs =>
    obtain ⟨d, z, ne, e, mA, ⟨od, es, ep, e2, c⟩, r⟩ := x
    exact ⟨ho _ d, z, ne, k _ _ (.inl rfl) e, mA, ⟨od, es, ep, k _ _ (.inr d) e2, c⟩, r⟩
  | own y => obtain ⟨ob, e⟩ := x; exact ⟨ob, k _ _ (.inl rfl) e⟩
  | xd fs => obtain ⟨mA, ⟨od, es, ep, e, c⟩, r⟩ := x; exact ⟨mA, ⟨od, es, ep, k _ _ (.inl rfl) e, c⟩, r⟩
  | rng lo hi => obtain ⟨t, u, v, e⟩ := x; exact ⟨t, u, v, k _ _ (.inl rfl) e⟩
  | frz ob u ih => obtain ⟨e, q⟩ := x; exact ⟨k _ _ (.inl rfl) e, ih q⟩
  | tbl ps =>
    have e : h.get? a = some { cls := .none, data := .fields ps } := x
    show h'.get? a = some { cls := .none, data := .fields ps }
    exact k a _ (.inl rfl) e
  | met f y =>
    have e : h.get? a = some (PySem.W.methodObj (.ref f) (.ref y)) := x
    show h'.get? a = some (PySem.W.methodObj (.ref f) (.ref y))
    exact k a _ (.inl rfl) e
  | ext φ => obtain ⟨p, ⟨o, e⟩, st⟩ := x; exact ⟨st _ _ p fun o q => k _ _ (.inl rfl) q, ⟨o, k _ _ (.inl rfl) e⟩, st⟩
theorem HOk.lt (x : HOk P w H h) (e : H a = some o) : a < h.objs.size := (x a o e).lt
theorem HOk.fresh (x : HOk P w H h) (e : h.objs.size ≤ a) : H a = none := by
  cases q : H a with
  | none => rfl
  | some u => exact absurd (Nat.lt_of_lt_of_le (x.lt q) e) (Nat.lt_irrefl _)
/-- every object of the heap is kept -/
theorem HOk.kept (x : HOk P w H h) (k : ∀ b u, h.get? b = some u → h'.get? b = some u) : HOk P w H h' := fun a o e =>
  (x a o e).stay (fun b u _ q => k b u q) (fun _ q => q) fun _ _ q => q
/-- a new object is laid and tracked -/
theorem HOk.laid (x : HOk P w H h) (k : ∀ b u, h.get? b = some u → h'.get? b = some u) (hp : h.objs.size ≤ a) (new : ObjOk P w (upd H a o) h' a o) : HOk P w (upd H a o) h' := fun b u e => by
  have hn := x.fresh hp
  by_cases hb : b = a
  · subst hb; rw [upd_same] at e; cases e; exact new
  · rw [upd_ne hb] at e
    exact (x b u e).stay (fun c v _ q => k c v q) (fun c q => by rw [upd_ne (ne_of_none q hn)]; exact q) fun c xs q => by rw [upd_ne (ne_of_none q hn)]; exact q
end

/-- what may be read as u: it is u, or a known u -/
def Rd (H : Hp) (a : Addr) (u : HO) : Prop := H a = some u ∨ ∃ o, H a = some (.frz o u)
theorem Rd.of {H : Hp} {a : Addr} {u : HO} (h : H a = some u) : Rd H a u := .inl h
theorem Rd.ok {P : Program} {w : World} {H : Hp} {h : Heap} {a : Addr} {u : HO} (r : Rd H a u) (x : HOk P w H h) : ObjOk P w H h a u := by
  rcases r with r | ⟨o, r⟩
  · exact x a u r
  · obtain ⟨_, q⟩ := x a _ r
    exact q
/-- what may be written -/
def Mut : Option HO → Prop
  | some (.lst _) => True
  | some (.dK _) => True
  | some (.dT _) => True
  | some (.set _ _) => True
  | some (.ins _ _ _) => True
  | some (.ext _) => True
  | _ => False
section
variable {P : Program} {w : World} {H : Hp} {h h' : Heap} {x e : Addr} {o' : HO}
/-- the object at e is changed: x itself, or the dict of the instance x -/
theorem HOk.write (ok : HOk P w H h) (mu : Mut (H x)) (he : e = x ∨ H e = some (.own x)) (k : ∀ b u, b ≠ e → h.get? b = some u → h'.get? b = some u) (heo : ∃ u, h'.get? e = some u)
    (new : ObjOk P w (upd H x o') h' x o') : HOk P w (upd H x o') h' := fun b u q => by
  have nown : ∀ c y, H c = some (.own y) → c ≠ x := fun c y r z => by subst z; rw [r] at mu; exact mu
  have ntup : ∀ c xs, H c = some (.tup xs) → c ≠ x := fun c xs r z => by subst z; rw [r] at mu; exact mu
  by_cases hb : b = x
  · subst hb; rw [upd_same] at q; cases q; exact new
  · rw [upd_ne hb] at q
    by_cases hbe : b = e
    · have q' : H b = some (.own x) := by
        rcases he with z | z
        · exact absurd (hbe.trans z) hb
        · rw [hbe]; exact z
      rw [q] at q'; cases q'
      obtain ⟨v, hv⟩ := heo
      exact ⟨v, by rw [hbe]; exact hv⟩
    · refine (ok b u q).stay (fun c v hc r => k c v ?_ r) (fun c r => by rw [upd_ne (nown c b r)]; exact r) fun c xs r => by rw [upd_ne (ntup c xs r)]; exact r
      rcases hc with rfl | hc
      · exact hbe
      · rintro rfl
        rcases he with z | z
        · exact nown c b hc z
        · rw [hc] at z; cases z; exact hb rfl
end

/-! ### kept unless tracked; of the frames at fs (the callers') the slots may change (an exception that passes writes there); of the records at ex (iterators) nothing is said -/
structure Un (fs ex : List Addr) (H H' : Hp) (h h' : Heap) : Prop where
  keep : ∀ b o, h.get? b = some o → H b = none → b ∉ fs → b ∉ ex → h'.get? b = some o
  slot : ∀ b o, h.get? b = some o → H b = none → b ∈ fs → b ∉ ex → ∃ sl, h'.get? b = some { o with slots := sl }
  free : ∀ b o, h.get? b = some o → H b = none → b ∉ ex → H' b = none
  there : ∀ b o, h.get? b = some o → b ∉ ex → ∃ o', h'.get? b = some o'
  tups : ∀ b xs, H b = some (.tup xs) → H' b = some (.tup xs)
  frzs : ∀ b o u, H b = some (.frz o u) → H' b = some (.frz o u)
  tbls : ∀ b ps, H b = some (.tbl ps) → ∃ more, H' b = some (.tbl (ps ++ more))
section
variable {fs fs' ex ex' : List Addr} {H H1 H2 : Hp} {h h1 h2 h' : Heap} {a x e : Addr} {o : HO}
theorem Un.any (u : Un fs ex H H1 h h1) {b : Addr} {ob : Obj} (q : h.get? b = some ob) (n : H b = none) (hx : b ∉ ex) : ∃ sl, h1.get? b = some { ob with slots := sl } := by
  by_cases hb : b ∈ fs
  · exact u.slot b ob q n hb hx
  · exact ⟨ob.slots, u.keep b ob q n hb hx⟩
theorem Un.trans (a : Un fs ex H H1 h h1) (b : Un fs ex H1 H2 h1 h2) : Un fs ex H H2 h h2 where
  keep := fun c ob q n hc hx => b.keep c ob (a.keep c ob q n hc hx) (a.free c ob q n hx) hc hx
  slot := fun c ob q n hc hx => by
    obtain ⟨sl, e1⟩ := a.slot c ob q n hc hx
    obtain ⟨sl', e2⟩ := b.slot c _ e1 (a.free c ob q n hx) hc hx
    exact ⟨sl', e2⟩
  free := fun c ob q n hx => by
    obtain ⟨o', e1⟩ := a.there c ob q hx
    exact b.free c o' e1 (a.free c ob q n hx) hx
  there := fun c ob q hx => by
    obtain ⟨o', e1⟩ := a.there c ob q hx
    exact b.there c o' e1 hx
  tups := fun c xs q => b.tups c xs (a.tups c xs q)
  frzs := fun c ob xs q => b.frzs c ob xs (a.frzs c ob xs q)
  tbls := fun c ps q => by
    obtain ⟨m1, e1⟩ := a.tbls c ps q
    obtain ⟨m2, e2⟩ := b.tbls c _ e1
    exact ⟨m1 ++ m2, by rw [e2, Array.append_assoc]⟩
theorem Un.kept (k : ∀ b u, h.get? b = some u → h'.get? b = some u) : Un fs ex H H h h' :=
  ⟨fun b ob q _ _ _ => k b ob q, fun b ob q _ _ _ => ⟨ob.slots, k b ob q⟩, fun _ _ _ n _ => n, fun b ob q _ => ⟨ob, k b ob q⟩, fun _ _ q => q, fun _ _ _ q => q, fun _ ps q => ⟨#[], by rw [q]; simp⟩⟩
theorem Un.refl : Un fs ex H H h h := Un.kept fun _ _ q => q
theorem Un.laid (k : ∀ b u, h.get? b = some u → h'.get? b = some u) (hp : h.objs.size ≤ a) (hn : H a = none) : Un fs ex H (upd H a o) h h' where
  keep := fun b u q _ _ _ => k b u q
  slot := fun b u q _ _ _ => ⟨u.slots, k b u q⟩
  free := fun b u q n _ => by rw [upd_ne (Nat.ne_of_lt (Nat.lt_of_lt_of_le (Heap.lt_size q) hp))]; exact n
  there := fun b u q _ => ⟨u, k b u q⟩
  tups := fun b xs q => by rw [upd_ne (ne_of_none q hn)]; exact q
  frzs := fun b u xs q => by rw [upd_ne (ne_of_none q hn)]; exact q
  tbls := fun b ps q => ⟨#[], by rw [upd_ne (ne_of_none q hn), q]; simp⟩
theorem Un.write (mu : Mut (H x)) (he : e = x ∨ H e = some (.own x)) (k : ∀ b u, b ≠ e → h.get? b = some u → h'.get? b = some u) (heo : ∃ u, h'.get? e = some u) : Un fs ex H (upd H x o) h h' := by
  have hx : ∀ b, H b = none → b ≠ x := fun b n z => by subst z; rw [n] at mu; exact mu
  have hb : ∀ b, H b = none → b ≠ e := fun b n z => by
    subst z
    rcases he with r | r
    · exact hx b n r
    · rw [n] at r; cases r
  have hm : ∀ b u, H b = some u → ¬ Mut (some u) → b ≠ x := fun b u q nm z => by subst z; rw [q] at mu; exact nm mu
  refine ⟨fun b u q n _ _ => k b u (hb b n) q, fun b u q n _ _ => ⟨u.slots, k b u (hb b n) q⟩, fun b u q n _ => by rw [upd_ne (hx b n)]; exact n, fun b u q _ => ?_,
    fun b xs q => by rw [upd_ne (hm b _ q fun z => z)]; exact q, fun b u xs q => by rw [upd_ne (hm b _ q fun z => z)]; exact q, fun b ps q => ⟨#[], by rw [upd_ne (hm b _ q fun z => z), q]; simp⟩⟩
  by_cases hbe : b = e
  · subst hbe; exact heo
  · exact ⟨u, k b u hbe q⟩
theorem Un.mono (u : Un fs ex H H1 h h1) (hs : ∀ b ∈ fs, b ∈ fs') (hx : ∀ b ∈ ex, b ∈ ex') : Un fs' ex' H H1 h h1 :=
  ⟨fun b ob q n hb he => u.keep b ob q n (fun z => hb (hs b z)) fun z => he (hx b z), fun _ _ q n _ he => u.any q n fun z => he (hx _ z), fun b ob q n he => u.free b ob q n fun z => he (hx b z), fun b ob q he => u.there b ob q fun z => he (hx b z), u.tups, u.frzs, u.tbls⟩
end

/-! ### the heap without what is tracked -/
def trk (h : Heap) (H : Hp) : List Addr := (List.range h.objs.size).filter fun a => (H a).isSome
def hidT (h : Heap) (H : Hp) : Heap := PySem.W.hideAll h (trk h H)
theorem hidT_size (h : Heap) (H : Hp) : (hidT h H).objs.size = h.objs.size := PySem.W.hideAll_size _ _
theorem hidT_get {h : Heap} {H : Hp} {b : Addr} {o : Obj} (e : h.get? b = some o) (n : H b = none) : (hidT h H).get? b = some o :=
  PySem.W.hideAll_get _ e fun hm => by
    have q : (H b).isSome = true := (List.mem_filter.mp hm).2
    rw [n] at q; simp at q
theorem of_hidT {h : Heap} {H : Hp} {b : Addr} {o : Obj} (e : (hidT h H).get? b = some o) : h.get? b = some o ∧ H b = none := by
  have e' : h.get? b = some o := PySem.W.of_hideAll (trk h H) e
  refine ⟨e', ?_⟩
  cases q : H b with
  | none => rfl
  | some x =>
    have hm : b ∈ trk h H := List.mem_filter.mpr ⟨List.mem_range.mpr (Heap.lt_size e'), by simp [q]⟩
    have z : (hidT h H).get? b = none := PySem.W.hideAll_none (trk h H) hm
    rw [z] at e; cases e

/-! ### OpenK's ledger, filled with every new object but one -/
def allNews (g h : Heap) (L : Addr) : List (Addr × Obj) := (List.range h.objs.size).filterMap fun a => if a = L ∨ (g.get? a).isSome = true then none else (h.get? a).map fun o => (a, o)
def rest (g h : Heap) (L d : Addr) : List (Addr × Obj) := (allNews g h L).filter fun p => decide (p.1 ≠ d)
end L2

namespace L2
open PySem PySem.Spec PyProof.Rows

/-- the module's facts, over the base: the heap at the law's entry without what is tracked there -/
structure Mod (K : PySem.W.Frag) (mg : Str → Option Value) (base : Heap) : Prop where
  kin : K.In base
  glob : base.Ns mainGlobals mg
  blt : ∃ mb, base.Ns builtinsNs mb ∧ ∀ x : Str, x ≠ "__name__" → mb x = bootBuiltins x
  nolimit : base.NoLimit

/-- the context: a def's body (or a comprehension's block) running. base: fixed through the whole law; s₀, H₀: the entry; outer: the frames whose slots others may change (a def's callers); stack: all frames that run;
   ex: iterators that were made ahead of the entry and are walked here (a comprehension's); fn: the names whose cells were made at the entry (a def: all; a comprehension's block: its own); calm: not within an except suite; pn: pins that every state bears; xe: what is wanted of an exception that leaves the code -/
structure Cx where
  prog : Program
  w : World
  K : PySem.W.Frag
  mg : Str → Option Value
  base : Heap
  A : Around
  N : List Str
  s₀ : Shared
  H₀ : Hp
  env : Env
  outer : List Env
  stack : List Env
  ex : List Addr
  fn : Str → Bool
  calm : Bool
  pn : List (Addr × Obj)
  xe : Value → Shared → Prop
/-- the callers' frames -/
def frs (l : List Env) : List Addr := l.filterMap (·.frame)
abbrev Cx.fs (X : Cx) : List Addr := frs X.outer

def Vis (sc : Scope) (x : Str) : Prop := sc.names.lookup x = some .local ∨ sc.names.lookup x = some .cell ∨ sc.names.lookup x = some .free
def Loc (sc : Scope) (x : Str) : Prop := sc.names.lookup x = some .local ∨ sc.names.lookup x = some .cell
def Look (env : Env) (h : Heap) (m : Str → Option Value) (x : Str) (u : Value) : Prop :=
  (env.kindOf x = some .local ∧ m x = some u) ∨ ((env.kindOf x = some .cell ∨ env.kindOf x = some .free) ∧ ∃ c, env.cells.lookup x = some c ∧ h.IsCell c (some u))

structure Cx.Ok (X : Cx) : Prop where
  mod : Mod X.K X.mg X.base
  kind : X.env.scope.kind = .function
  glob : X.env.globals = mainGlobals
  blt : X.env.builtins = builtinsNs
  above : X.s₀.heap.objs.size ≤ X.env.locals
  inj : ∀ x y c, X.env.cells.lookup x = some c → X.env.cells.lookup y = some c → x = y
  has : ∀ x, (X.env.kindOf x = some .cell ∨ X.env.kindOf x = some .free) → ∃ c, X.env.cells.lookup x = some c
  cab : ∀ x c, X.fn x = true → X.env.cells.lookup x = some c → X.s₀.heap.objs.size ≤ c
  hd : X.calm = true → X.A.handled = none
  frames : X.A.frames = some X.stack
  stk : X.stack = X.outer ∨ (X.stack = X.env :: X.outer ∧ X.env.frame = some X.env.locals)
  exf : ∀ b ∈ X.ex, b ≠ X.env.locals ∧ ∀ x c, X.env.cells.lookup x = some c → c ≠ b
  bs : ∀ b o, X.base.get? b = some o → X.s₀.heap.get? b = some o ∧ X.H₀ b = none
  bsz : X.base.objs.size ≤ X.s₀.heap.objs.size
  noex : ∀ b o, X.base.get? b = some o → b ∉ X.ex
  exfs : ∀ b ∈ X.ex, b ∉ X.fs
  funs : X.s₀.heap.FunFrames X.base X.outer
  frf : ∀ b ∈ X.fs, X.H₀ b = none

structure Inv (X : Cx) (pins : List (Addr × Obj)) (σ : List (Option V)) (H : Hp) (s : Shared) : Prop where
  ok : X.Ok
  os : s.os = X.s₀.os
  bare : AllBare s.gens
  base : Un X.fs X.ex X.H₀ H X.s₀.heap s.heap
  loc : ∃ m, s.heap.Ns X.env.locals m ∧ ∀ (i : Nat) (x : Str) (v : V), X.N[i]? = some x → σ[i]? = some (some v) → Vis X.env.scope x → ∃ u, RelV v u ∧ Look X.env s.heap m x u
  cell : ∀ x c, X.env.cells.lookup x = some c → ∃ v, s.heap.IsCell c v
  free : H X.env.locals = none
  freeC : ∀ x c, X.env.cells.lookup x = some c → H c = none
  pin : ∀ p ∈ X.pn ++ pins, s.heap.get? p.1 = some p.2 ∧ H p.1 = none ∧ p.1 ≠ X.env.locals ∧ p.1 ∉ X.fs ∧ ∀ v, p.2.data ≠ .cell v
  hok : HOk X.prog X.w H s.heap
  len : σ.length = X.N.length

section
variable {X : Cx} {pins : List (Addr × Obj)} {σ : List (Option V)} {H H' : Hp} {s : Shared} {h' : Heap}

theorem Cx.Ok.nofr (ok : X.Ok) {b : Addr} {o : Obj} (e : X.base.get? b = some o) : b ∉ X.fs := fun hb => by
  have := (ok.funs.mem hb).1
  rw [e] at this; cases this
theorem Inv.bs (I : Inv X pins σ H s) : ∀ b o, X.base.get? b = some o → s.heap.get? b = some o ∧ H b = none := fun b o e =>
  ⟨I.base.keep b o (I.ok.bs b o e).1 (I.ok.bs b o e).2 (I.ok.nofr e) (I.ok.noex b o e), I.base.free b o (I.ok.bs b o e).1 (I.ok.bs b o e).2 (I.ok.noex b o e)⟩
theorem Inv.bk (I : Inv X pins σ H s) : ∀ b o, X.base.get? b = some o → s.heap.get? b = some o := fun b o e => (I.bs b o e).1
theorem Inv.mod (I : Inv X pins σ H s) : Mod X.K X.mg X.base := I.ok.mod
theorem Inv.kIn (I : Inv X pins σ H s) : X.K.In s.heap := I.ok.mod.kin.keeps I.bk
theorem Inv.nolimit (I : Inv X pins σ H s) : s.heap.NoLimit := I.ok.mod.nolimit.keeps I.bk
/-- the frame over the base: for OpenK's rules (K.In X.base is I.mod.kin) -/
theorem Inv.fr (I : Inv X pins σ H s) : ∃ m, Fr X.base X.env.locals s.heap m :=
  let ⟨m, hn, _⟩ := I.loc
  ⟨m, hn, I.bk, Nat.le_trans I.ok.bsz I.ok.above⟩
theorem Inv.lt (I : Inv X pins σ H s) : X.env.locals < s.heap.objs.size := let ⟨_, hn, _⟩ := I.loc; hn.lt
theorem Inv.sz (I : Inv X pins σ H s) : X.s₀.heap.objs.size ≤ s.heap.objs.size := Nat.le_trans I.ok.above (Nat.le_of_lt I.lt)
theorem Inv.nofs (I : Inv X pins σ H s) {a : Addr} (h : s.heap.objs.size ≤ a) : a ∉ X.fs := fun hb => by
  obtain ⟨_, o, ho, _⟩ := I.ok.funs.mem hb
  exact absurd (Nat.lt_of_lt_of_le (Heap.lt_size ho) (Nat.le_trans I.sz h)) (Nat.lt_irrefl _)
theorem Inv.cne (I : Inv X pins σ H s) : ∀ x c, X.env.cells.lookup x = some c → c ≠ X.env.locals := fun x c e z => by
  obtain ⟨v, o, ho, hd⟩ := I.cell x c e
  obtain ⟨m, ⟨o', es, ep, ho', hd', _⟩, _⟩ := I.loc
  rw [z, ho'] at ho; cases ho; rw [hd'] at hd; cases hd
theorem Inv.funs (I : Inv X pins σ H s) : s.heap.FunFrames X.base X.outer := by
  have all : ∀ (l : List Env), (∀ b ∈ frs l, b ∈ X.fs) → X.s₀.heap.FunFrames X.base l → s.heap.FunFrames X.base l := by
    intro l
    induction l with
    | nil => intro _ _; trivial
    | cons env r ih =>
      intro hs hl
      obtain ⟨hk, ⟨L, o, hf, hn, ho, hd⟩, hr⟩ := hl
      have hL : L ∈ X.fs := hs L (by unfold frs; rw [List.filterMap_cons, hf]; exact List.mem_cons_self)
      obtain ⟨sl, e⟩ := I.base.slot L o ho (I.ok.frf L hL) hL fun z => I.ok.exfs L z hL
      exact ⟨hk, ⟨L, _, hf, hn, e, hd⟩, ih (fun b hb => hs b (by unfold frs; rw [List.filterMap_cons, hf]; exact List.mem_cons_of_mem _ hb)) hr⟩
  exact all X.outer (fun _ hb => hb) I.ok.funs

/-- the frames that run, for a call -/
theorem Inv.stack (I : Inv X pins σ H s) : s.heap.FunFrames X.base X.stack := by
  rcases I.ok.stk with e | ⟨e, hf⟩
  · rw [e]; exact I.funs
  · rw [e]
    obtain ⟨m, hn, _⟩ := I.loc
    refine .cons (by rw [I.ok.kind]; decide) hf hn ?_ I.funs
    exact Heap.get?_none_of_le (Nat.le_trans I.ok.bsz I.ok.above)
theorem Inv.stkSub (I : Inv X pins σ H s) : ∀ b ∈ frs X.stack, b ∈ X.env.locals :: X.fs := fun b hb => by
  rcases I.ok.stk with e | ⟨e, hf⟩
  · rw [e] at hb; exact List.mem_cons_of_mem _ hb
  · rw [e] at hb
    unfold frs at hb
    rw [List.filterMap_cons, hf] at hb
    exact hb
theorem Inv.stkFree (I : Inv X pins σ H s) : ∀ b ∈ frs X.stack, H b = none := fun b hb => by
  rcases List.mem_cons.mp (I.stkSub b hb) with e | hb
  · rw [e]; exact I.free
  · obtain ⟨_, o, ho, _⟩ := I.ok.funs.mem hb
    exact I.base.free b o ho (I.ok.frf b hb) fun z => I.ok.exfs b z hb

/-- THE STEP: the untracked objects but the frame and the records at ch are kept (the callers' frames up to slots), the frame's map is kept, the new abstract heap is held -/
theorem Inv.step {g' : Array GenState} {t' : Nat} {d' : Drawn} {ch : List Addr} (I : Inv X pins σ H s)
    (hch : ∀ b ∈ ch, (b ∈ X.ex ∨ X.s₀.heap.objs.size ≤ b) ∧ b ≠ X.env.locals ∧ (∀ x c, X.env.cells.lookup x = some c → c ≠ b) ∧ ∀ p ∈ X.pn ++ pins, p.1 ≠ b)
    (keep : ∀ b o, b ≠ X.env.locals → b ∉ X.fs → b ∉ ch → s.heap.get? b = some o → H b = none → h'.get? b = some o)
    (slot : ∀ b o, b ≠ X.env.locals → b ∈ X.fs → b ∉ ch → s.heap.get? b = some o → H b = none → ∃ sl, h'.get? b = some { o with slots := sl }) (free : ∀ b o, b ∉ ch → s.heap.get? b = some o → H b = none → H' b = none)
    (there : ∀ b o, b ∉ ch → s.heap.get? b = some o → ∃ o', h'.get? b = some o')
    (tups : ∀ b xs, H b = some (.tup xs) → H' b = some (.tup xs)) (frzs : ∀ b o u, H b = some (.frz o u) → H' b = some (.frz o u)) (tbls : ∀ b ps, H b = some (.tbl ps) → ∃ more, H' b = some (.tbl (ps ++ more)))
    (ns : ∀ m, s.heap.Ns X.env.locals m → h'.Ns X.env.locals m) (hok : HOk X.prog X.w H' h') (hg : AllBare g') :
    Inv X pins σ H' { s with heap := h', gens := g', drawn := d', toks := t' } := by
  have neL : ∀ b o, X.s₀.heap.get? b = some o → b ≠ X.env.locals := fun b o e => Nat.ne_of_lt (Nat.lt_of_lt_of_le (Heap.lt_size e) I.ok.above)
  have neC : ∀ b o, X.s₀.heap.get? b = some o → b ∉ X.ex → b ∉ ch := fun b o e hx hb => by
    rcases (hch b hb).1 with z | z
    · exact hx z
    · exact absurd (Nat.lt_of_lt_of_le (Heap.lt_size e) z) (Nat.lt_irrefl _)
  have cellK : ∀ x c, X.env.cells.lookup x = some c → ∀ v, s.heap.IsCell c v → h'.IsCell c v := fun x c e v ⟨o, ho, hd⟩ => by
    have nch : c ∉ ch := fun z => (hch c z).2.2.1 x c e rfl
    by_cases hc : c ∈ X.fs
    · obtain ⟨sl, q⟩ := slot c o (I.cne x c e) hc nch ho (I.freeC x c e)
      exact ⟨_, q, hd⟩
    · exact ⟨o, keep c o (I.cne x c e) hc nch ho (I.freeC x c e), hd⟩
  refine ⟨I.ok, I.os, hg, ⟨fun b o e n hb hx => ?_, fun b o e n hb hx => ?_, fun b o e n hx => ?_, fun b o e hx => ?_, fun b xs e => tups b xs (I.base.tups b xs e), fun b o xs e => frzs b o xs (I.base.frzs b o xs e), fun b ps e => ?_⟩, ?_, fun x c e => ?_, ?_, fun x c e => ?_, fun p hp => ?_, hok, I.len⟩
  · exact keep b o (neL b o e) hb (neC b o e hx) (I.base.keep b o e n hb hx) (I.base.free b o e n hx)
  · obtain ⟨sl, e1⟩ := I.base.slot b o e n hb hx
    obtain ⟨sl', e2⟩ := slot b _ (neL b o e) hb (neC b o e hx) e1 (I.base.free b o e n hx)
    exact ⟨sl', e2⟩
  · obtain ⟨o', e1⟩ := I.base.there b o e hx
    exact free b o' (neC b o e hx) e1 (I.base.free b o e n hx)
  · obtain ⟨o', e1⟩ := I.base.there b o e hx
    exact there b o' (neC b o e hx) e1
  · obtain ⟨m1, e1⟩ := I.base.tbls b ps e
    obtain ⟨m2, e2⟩ := tbls b _ e1
    exact ⟨m1 ++ m2, by rw [e2, Array.append_assoc]⟩
  · obtain ⟨m, hn, hl⟩ := I.loc
    refine ⟨m, ns m hn, fun i x v e1 e2 e3 => ?_⟩
    obtain ⟨u, r, l⟩ := hl i x v e1 e2 e3
    refine ⟨u, r, ?_⟩
    rcases l with l | ⟨k, c, e, z⟩
    · exact .inl l
    · exact .inr ⟨k, c, e, cellK x c e _ z⟩
  · obtain ⟨v, z⟩ := I.cell x c e
    exact ⟨v, cellK x c e v z⟩
  · obtain ⟨m, ⟨o, _, _, ho, _⟩, _⟩ := I.loc
    exact free _ o (fun z => (hch _ z).2.1 rfl) ho I.free
  · obtain ⟨v, o, ho, hd⟩ := I.cell x c e
    exact free c o (fun z => (hch c z).2.2.1 x c e rfl) ho (I.freeC x c e)
  · obtain ⟨e, n, ne, nf, d⟩ := I.pin p hp
    have nch : p.1 ∉ ch := fun z => (hch p.1 z).2.2.2 p hp rfl
    exact ⟨keep p.1 p.2 ne nf nch e n, free p.1 p.2 nch e n, ne, nf, d⟩
/-- .. where the frame's own object is kept too -/
theorem Inv.un {t' : Nat} (I : Inv X pins σ H s) (u : Un X.fs [] H H' s.heap h') (hok : HOk X.prog X.w H' h') : Inv X pins σ H' { s with heap := h', toks := t' } := by
  obtain ⟨m, ⟨o, es, ep, ho, r⟩, _⟩ := id I.loc
  obtain ⟨sl, hL⟩ := u.any ho I.free (by simp)
  exact I.step (g' := s.gens) (d' := s.drawn) (ch := []) (fun _ z => nomatch z) (fun b o _ hb _ e n => u.keep b o e n hb (by simp)) (fun b o _ hb _ e n => u.slot b o e n hb (by simp)) (fun b o _ e n => u.free b o e n (by simp)) (fun b o _ e => u.there b o e (by simp)) u.tups u.frzs u.tbls (fun m' hm => by
    obtain ⟨o', es', ep', ho', r'⟩ := hm
    rw [ho] at ho'; cases ho'
    exact ⟨_, es', ep', hL, r'⟩) hok I.bare
/-- behind a call (or a comprehension's block): the slots of this frame may have changed too, the records at ch may have turned -/
theorem Inv.call {g' : Array GenState} {t' : Nat} {d' : Drawn} {ch : List Addr} (I : Inv X pins σ H s) (u : Un (frs X.stack) ch H H' s.heap h') (hok : HOk X.prog X.w H' h') (hg : AllBare g')
    (hch : ∀ b ∈ ch, (b ∈ X.ex ∨ X.s₀.heap.objs.size ≤ b) ∧ b ≠ X.env.locals ∧ (∀ x c, X.env.cells.lookup x = some c → c ≠ b) ∧ ∀ p ∈ X.pn ++ pins, p.1 ≠ b) :
    Inv X pins σ H' { s with heap := h', gens := g', drawn := d', toks := t' } := by
  obtain ⟨m, ⟨o, es, ep, ho, r⟩, _⟩ := id I.loc
  obtain ⟨sl, hL⟩ := u.any ho I.free fun z => (hch _ z).2.1 rfl
  exact I.step (ch := ch) hch (fun b o hL hb hc e n => u.keep b o e n (fun z => (List.mem_cons.mp (I.stkSub b z)).elim hL hb) hc) (fun b o _ _ hc e n => u.any e n hc) (fun b o hc e n => u.free b o e n hc) (fun b o hc e => u.there b o e hc) u.tups u.frzs u.tbls (fun m' hm => by
    obtain ⟨o', es', ep', ho', r'⟩ := hm
    rw [ho] at ho'; cases ho'
    exact ⟨_, es', ep', hL, r'⟩) hok hg
/-- an untracked record of ours (an iterator) has turned -/
theorem Inv.turned {t' : Nat} {it : Addr} (I : Inv X pins σ H s) (k : ∀ b o, b ≠ it → s.heap.get? b = some o → h'.get? b = some o) (hn : H it = none) (hL : it ≠ X.env.locals)
    (h1 : it ∈ X.ex ∨ X.s₀.heap.objs.size ≤ it) (h2 : ∀ x c, X.env.cells.lookup x = some c → c ≠ it) (h3 : ∀ p ∈ X.pn ++ pins, p.1 ≠ it) : Inv X pins σ H { s with heap := h', toks := t' } := by
  have nit : ∀ b u, H b = some u → b ≠ it := fun b u e z => by rw [z, hn] at e; cases e
  refine I.step (g' := s.gens) (d' := s.drawn) (ch := [it]) (fun b hb => ?_) (fun b o _ _ hc e _ => k b o (fun z => hc (by simp [z])) e) (fun b o _ _ hc e _ => ⟨o.slots, k b o (fun z => hc (by simp [z])) e⟩) (fun _ _ _ _ n => n)
    (fun b o hc e => ⟨o, k b o (fun z => hc (by simp [z])) e⟩) (fun _ _ e => e) (fun _ _ _ e => e) (fun b ps e => ⟨#[], by rw [e]; simp⟩) (fun m hm => ?_) (fun b u e => ?_) I.bare
  · have e : b = it := by simpa using hb
    subst e
    exact ⟨h1, hL, h2, h3⟩
  · obtain ⟨o, es, ep, ho, r⟩ := hm
    exact ⟨o, es, ep, k _ o (Ne.symm hL) ho, r⟩
  · refine (I.hok b u e).stay (fun c v hc q => k c v ?_ q) (fun _ q => q) fun _ _ q => q
    rcases hc with z | z
    · rw [z]; exact nit b u e
    · exact nit c _ z
theorem Inv.tok (I : Inv X pins σ H s) (t : Nat) : Inv X pins σ H { s with toks := t } := I.un (h' := s.heap) (t' := t) Un.refl I.hok
/-- all objects kept -/
theorem Inv.kept {t' : Nat} (I : Inv X pins σ H s) (k : ∀ b u, s.heap.get? b = some u → h'.get? b = some u) : Inv X pins σ H { s with heap := h', toks := t' } := I.un (Un.kept k) (I.hok.kept k)
/-- a new object laid and tracked -/
theorem Inv.laid {a : Addr} {o : HO} {t' : Nat} (I : Inv X pins σ H s) (k : ∀ b u, s.heap.get? b = some u → h'.get? b = some u) (hp : s.heap.objs.size ≤ a) (new : ObjOk X.prog X.w (upd H a o) h' a o) :
    Inv X pins σ (upd H a o) { s with heap := h', toks := t' } := I.un (Un.laid k hp (I.hok.fresh hp)) (I.hok.laid k hp new)
/-- an object written -/
theorem Inv.write {x e : Addr} {o : HO} {t' : Nat} (I : Inv X pins σ H s) (mu : Mut (H x)) (he : e = x ∨ H e = some (.own x)) (k : ∀ b u, b ≠ e → s.heap.get? b = some u → h'.get? b = some u) (heo : ∃ u, h'.get? e = some u)
    (new : ObjOk X.prog X.w (upd H x o) h' x o) : Inv X pins σ (upd H x o) { s with heap := h', toks := t' } := I.un (Un.write mu he k heo) (I.hok.write mu he k heo new)
theorem Inv.pins_of {pins' : List (Addr × Obj)} (I : Inv X pins σ H s) (h : ∀ p ∈ pins', s.heap.get? p.1 = some p.2 ∧ H p.1 = none ∧ p.1 ≠ X.env.locals ∧ p.1 ∉ X.fs ∧ ∀ v, p.2.data ≠ .cell v) : Inv X pins' σ H s :=
  ⟨I.ok, I.os, I.bare, I.base, I.loc, I.cell, I.free, I.freeC, fun p hp => (List.mem_append.mp hp).elim (fun z => I.pin p (List.mem_append_left _ z)) (h p), I.hok, I.len⟩

theorem nodup_ix {N : List Str} (hN : N.Nodup) {i j : Nat} {x : Str} (a : N[i]? = some x) (b : N[j]? = some x) : i = j := by
  obtain ⟨h1, e1⟩ := List.getElem?_eq_some_iff.mp a
  obtain ⟨h2, e2⟩ := List.getElem?_eq_some_iff.mp b
  exact (List.getElem_inj hN).mp (e1.trans e2.symm)

/-- a name is stored; what changed -/
theorem store_ok2 {M : Model} {A : Around} {E : Value → Shared → Prop} {i : Nat} {x : Str} {v : V} {u : Value} {Q : Unit → Shared → Prop} (I : Inv X pins σ H s) (hN : X.N.Nodup) (hi : X.N[i]? = some x) (hx : Loc X.env.scope x) (r : RelV v u)
    (h : ∀ s', Inv X pins (σ.set i (some v)) H s' → (∃ a, Heap.SameBut a s.heap s'.heap ∧ (a = X.env.locals ∨ X.env.cells.lookup x = some a)) → Q () s') (hf : X.fn x = true ∨ X.env.scope.names.lookup x = some .local := by first | exact .inl rfl | exact .inr rfl | assumption) : wpAny M A (storeName X.env x u) Q E s := by
  obtain ⟨m, hn, hl⟩ := id I.loc
  have hcls : (X.env.scope.kind == .class || (X.env.scope.kind == .module && X.env.locals != X.env.globals)) = false := by rw [I.ok.kind]; rfl
  have hiσ : i < σ.length := by rw [I.len]; exact (List.getElem?_eq_some_iff.mp hi).1
  have cne := I.cne
  have tracked : ∀ {a : Addr} {h' : Heap}, (∃ o, s.heap.get? a = some o ∧ H a = none) → Heap.SameBut a s.heap h' → HOk X.prog X.w H h' := fun {a h'} ha hs b ob e => by
    obtain ⟨_, _, hfree⟩ := ha
    refine (I.hok b ob e).stay (fun c w' hc q => (hs.2 c ?_).trans q) (fun _ q => q) fun _ _ q => q
    rintro rfl
    rcases hc with rfl | hc
    · rw [hfree] at e; cases e
    · rw [hfree] at hc; cases hc
  rcases hx with hk | hk
  · refine wpAny_storeName_local hk hn (fun h' hn' hs => ?_) hcls
    obtain ⟨oL, _, _, hoL, _⟩ := id hn
    refine h _ ⟨I.ok, I.os, I.bare, ⟨fun b o e n hb hx => ?_, fun b o e n hb hx => ?_, I.base.free, fun b o e hx => ?_, I.base.tups, I.base.frzs, I.base.tbls⟩, ⟨_, hn', fun j y v' e1 e2 e3 => ?_⟩, fun y c e => ?_, I.free, I.freeC, fun p hp => ?_, tracked ⟨oL, hoL, I.free⟩ hs, by simpa using I.len⟩ ⟨_, hs, .inl rfl⟩
    · exact (hs.2 b (Nat.ne_of_lt (Nat.lt_of_lt_of_le (Heap.lt_size e) I.ok.above))).trans (I.base.keep b o e n hb hx)
    · obtain ⟨sl, e1⟩ := I.base.slot b o e n hb hx
      exact ⟨sl, (hs.2 b (Nat.ne_of_lt (Nat.lt_of_lt_of_le (Heap.lt_size e) I.ok.above))).trans e1⟩
    · obtain ⟨o', e1⟩ := I.base.there b o e hx
      exact ⟨o', (hs.2 b (Nat.ne_of_lt (Nat.lt_of_lt_of_le (Heap.lt_size e) I.ok.above))).trans e1⟩
    · by_cases hj : j = i
      · subst hj
        rw [hi] at e1; cases e1
        rw [List.getElem?_set_self hiσ] at e2
        cases e2
        exact ⟨u, r, .inl ⟨hk, by simp⟩⟩
      · rw [List.getElem?_set_ne (Ne.symm hj)] at e2
        obtain ⟨u', r', q⟩ := hl j y v' e1 e2 e3
        refine ⟨u', r', ?_⟩
        rcases q with ⟨k, e⟩ | ⟨k, c, e, z⟩
        · refine .inl ⟨k, ?_⟩
          have : y ≠ x := fun e => hj (nodup_ix hN e1 (e ▸ hi))
          simp [this, e]
        · exact .inr ⟨k, c, e, z.sameBut hs (cne y c e)⟩
    · obtain ⟨w', z⟩ := I.cell y c e
      exact ⟨w', z.sameBut hs (cne y c e)⟩
    · obtain ⟨e, n, ne, nf, d⟩ := I.pin p hp
      exact ⟨(hs.2 p.1 ne).trans e, n, ne, nf, d⟩
  · have hfn : X.fn x = true := by
      rcases hf with z | z
      · exact z
      · rw [z] at hk; cases hk
    obtain ⟨c, hc⟩ := I.ok.has x (.inl hk)
    obtain ⟨w', z⟩ := I.cell x c hc
    refine wpAny_storeName_cell I.ok.kind hk hc z (fun h' hc' hs => ?_)
    obtain ⟨oc, hoc, hocd⟩ := id z
    refine h { s with heap := h' } ⟨I.ok, I.os, I.bare, ⟨fun b o e n hb hx => ?_, fun b o e n hb hx => ?_, I.base.free, fun b o e hx => ?_, I.base.tups, I.base.frzs, I.base.tbls⟩, ⟨m, hn.sameBut hs (Ne.symm (cne x c hc)), fun j y v' e1 e2 e3 => ?_⟩, fun y c' e => ?_, I.free, I.freeC, fun p hp => ?_, tracked ⟨oc, hoc, I.freeC x c hc⟩ hs, by simpa using I.len⟩ ⟨c, hs, .inr hc⟩
    · exact (hs.2 b (Nat.ne_of_lt (Nat.lt_of_lt_of_le (Heap.lt_size e) (I.ok.cab x c hfn hc)))).trans (I.base.keep b o e n hb hx)
    · obtain ⟨sl, e1⟩ := I.base.slot b o e n hb hx
      exact ⟨sl, (hs.2 b (Nat.ne_of_lt (Nat.lt_of_lt_of_le (Heap.lt_size e) (I.ok.cab x c hfn hc)))).trans e1⟩
    · obtain ⟨o', e1⟩ := I.base.there b o e hx
      exact ⟨o', (hs.2 b (Nat.ne_of_lt (Nat.lt_of_lt_of_le (Heap.lt_size e) (I.ok.cab x c hfn hc)))).trans e1⟩
    · by_cases hj : j = i
      · subst hj
        rw [hi] at e1; cases e1
        rw [List.getElem?_set_self hiσ] at e2
        cases e2
        exact ⟨u, r, .inr ⟨.inl hk, c, hc, hc'⟩⟩
      · rw [List.getElem?_set_ne (Ne.symm hj)] at e2
        obtain ⟨u', r', q⟩ := hl j y v' e1 e2 e3
        refine ⟨u', r', ?_⟩
        rcases q with q | ⟨k, c', e, z'⟩
        · exact .inl q
        · refine .inr ⟨k, c', e, z'.sameBut hs ?_⟩
          rintro rfl
          exact hj (nodup_ix hN e1 (I.ok.inj _ _ _ e hc ▸ hi))
    · by_cases hcc : c' = c
      · subst hcc; exact ⟨_, hc'⟩
      · obtain ⟨w2, z2⟩ := I.cell y c' e
        exact ⟨w2, z2.sameBut hs hcc⟩
    · obtain ⟨e, n, ne, nf, d⟩ := I.pin p hp
      refine ⟨(hs.2 p.1 ?_).trans e, n, ne, nf, d⟩
      intro q
      rw [q, hoc] at e
      have q' : oc = p.2 := Option.some.inj e
      exact d w' (by rw [← q']; exact hocd)
theorem store_ok {M : Model} {A : Around} {E : Value → Shared → Prop} {i : Nat} {x : Str} {v : V} {u : Value} {Q : Unit → Shared → Prop} (I : Inv X pins σ H s) (hN : X.N.Nodup) (hi : X.N[i]? = some x) (hx : Loc X.env.scope x) (r : RelV v u)
    (h : ∀ s', Inv X pins (σ.set i (some v)) H s' → Q () s') (hf : X.fn x = true ∨ X.env.scope.names.lookup x = some .local := by first | exact .inl rfl | exact .inr rfl | assumption) : wpAny M A (storeName X.env x u) Q E s :=
  store_ok2 I hN hi hx r (fun s' I' _ => h s' I') hf
/-- behind a call or a block, the state as it is -/
theorem Inv.call' {s' : Shared} {ch : List Addr} (I : Inv X pins σ H s) (ho : s'.os = s.os) (u : Un (frs X.stack) ch H H' s.heap s'.heap) (hok : HOk X.prog X.w H' s'.heap) (hg : AllBare s'.gens)
    (hch : ∀ b ∈ ch, (b ∈ X.ex ∨ X.s₀.heap.objs.size ≤ b) ∧ b ≠ X.env.locals ∧ (∀ x c, X.env.cells.lookup x = some c → c ≠ b) ∧ ∀ p ∈ X.pn ++ pins, p.1 ≠ b) : Inv X pins σ H' s' := by
  obtain ⟨h', g', d', t', o'⟩ := s'
  have e : o' = s.os := ho
  subst e
  exact I.call (g' := g') (t' := t') (d' := d') u hok hg hch
end

/-! ### the judgements -/
/-- an exception: its class, its own dict's address (where it has one), the abstract heap behind it -/
abbrev XK := Value → Option Addr → Hp → Prop
abbrev St := List (Option V)
abbrev VK := V → Hp → Prop
/-- an expression's reading; a test's; an argument list's -/
abbrev TE := St → Hp → VK → Prop
abbrev TT := St → Hp → (Bool → Hp → Prop) → Prop
abbrev TA := St → Hp → (List V → Hp → Prop) → Prop
/-- what is wanted behind a statement -/
structure Ends where
  nx : St → Hp → Prop
  rt : VK
  bk : St → Hp → Prop := fun _ _ => False
  ct : St → Hp → Prop := fun _ _ => False
abbrev TS := Ends → St → Hp → Prop

def EP (X : Cx) (pins : List (Addr × Obj)) (σ : St) (Q : VK) (u : Value) (s' : Shared) : Prop := ∃ v H', Inv X pins σ H' s' ∧ RelV v u ∧ Q v H'
def TP (X : Cx) (pins : List (Addr × Obj)) (σ : St) (Q : Bool → Hp → Prop) (b : Bool) (s' : Shared) : Prop := ∃ H', Inv X pins σ H' s' ∧ Q b H'
def AP (X : Cx) (pins : List (Addr × Obj)) (σ : St) (Q : List V → Hp → Prop) (us : List Value) (s' : Shared) : Prop := ∃ vs H', Inv X pins σ H' s' ∧ Vals vs us ∧ Q vs H'
def SP (X : Cx) (pins : List (Addr × Obj)) (D : Ends) (f : Flow) (s' : Shared) : Prop :=
  match f with
  | .next => ∃ σ' H', Inv X pins σ' H' s' ∧ D.nx σ' H'
  | .brk => ∃ σ' H', Inv X pins σ' H' s' ∧ D.bk σ' H'
  | .cont => ∃ σ' H', Inv X pins σ' H' s' ∧ D.ct σ' H'
  | .ret u => ∃ v σ' H', Inv X pins σ' H' s' ∧ RelV v u ∧ D.rt v H'

def PE (X : Cx) (e : Expr) (t : TE) : Prop :=
  ∀ (pins : List (Addr × Obj)) (s : Shared) (σ : St) (H : Hp) (Q : VK), Inv X pins σ H s → t σ H Q → wpAny (model X.prog X.w) X.A (eval e X.env) (EP X pins σ Q) X.xe s
def PT (X : Cx) (e : Expr) (t : TT) : Prop :=
  ∀ (pins : List (Addr × Obj)) (s : Shared) (σ : St) (H : Hp) (Q : Bool → Hp → Prop), Inv X pins σ H s → t σ H Q → wpAny (model X.prog X.w) X.A (isTrue e X.env (eval e X.env)) (TP X pins σ Q) X.xe s
/-- a test whatever its 'whole' is (and, or) -/
def PW (X : Cx) (e : Expr) (t : TT) : Prop :=
  ∀ (whole : Sem Value) (pins : List (Addr × Obj)) (s : Shared) (σ : St) (H : Hp) (Q : Bool → Hp → Prop), Inv X pins σ H s → t σ H Q → wpAny (model X.prog X.w) X.A (isTrue e X.env whole) (TP X pins σ Q) X.xe s
theorem PW.pt {X : Cx} {e : Expr} {t : TT} (h : PW X e t) : PT X e t := h _
/-- an argument list (no star), from the left -/
def PA (X : Cx) (es : List Expr) (t : TA) : Prop :=
  ∀ (pos : Pos) (pins : List (Addr × Obj)) (s : Shared) (σ : St) (H : Hp) (Q : List V → Hp → Prop), Inv X pins σ H s → t σ H Q → wpAny (model X.prog X.w) X.A (spliced (backTo pos (starEach es X.env))) (AP X pins σ Q) X.xe s
def PS (X : Cx) (st : Stmt) (t : TS) : Prop :=
  ∀ (pins : List (Addr × Obj)) (s : Shared) (σ : St) (H : Hp) (D : Ends), Inv X pins σ H s → t D σ H → wpAny (model X.prog X.w) X.A (exec st X.env) (SP X pins D) X.xe s
def PSs (X : Cx) (st : List Stmt) (t : TS) : Prop :=
  ∀ (pins : List (Addr × Obj)) (s : Shared) (σ : St) (H : Hp) (D : Ends), Inv X pins σ H s → t D σ H → wpAny (model X.prog X.w) X.A (execs st X.env) (SP X pins D) X.xe s
/-- weaken the end -/
theorem thn {α : Type} {t : Sem α} {Q Q' : α → Shared → Prop} {M : Model} {A : Around} {E : Value → Shared → Prop} {s : Shared} (h : wpAny M A t Q E s) (hQ : ∀ a s, Q a s → Q' a s) : wpAny M A t Q' E s := wpAny_mono h hQ fun _ _ x => x
end L2

namespace L2
open PySem PySem.Spec PyProof.Rows
section
variable {X : Cx}

/-! ### names and constants -/
def tVar (i : Nat) : TE := fun σ H Q => ∃ v, σ[i]? = some (some v) ∧ Q v H
def tC (v : V) : TE := fun _ H Q => Q v H
theorem pe_var {i : Nat} {x : Str} {pos : Pos} (hN : X.N[i]? = some x) (hv : Vis X.env.scope x) (hd : (x == ("__debug__" : Str)) = false := by decide) (hcd : (x == ("__classdict__" : Str)) = false := by decide) : PE X (.Name x pos) (tVar i) := by
  intro pins s σ H Q I h
  obtain ⟨v, e, h⟩ := h
  obtain ⟨m, hn, hl⟩ := I.loc
  obtain ⟨u, r, l⟩ := hl i x v hN e hv
  have fin : EP X pins σ Q u s := ⟨v, H, I, r, h⟩
  rcases l with ⟨hk, hm⟩ | ⟨hk, c, hc, hcell⟩
  · exact wpAny_Name (wpAny_loadName_local I.ok.kind hk hn hm fin) hd
  · rcases hk with hk | hk
    · exact wpAny_Name (wpAny_loadName_cell I.ok.kind hk hc hcell fin) hd
    · exact wpAny_Name (wpAny_loadName_free I.ok.kind hk hc hcell fin hcd) hd
theorem pe_int {i j pos} : PE X (.Constant (.int i) j pos) (tC (.int i)) := fun _ _ _ H _ I h => wpAny_Constant_int ⟨.int i, H, I.tok _, ⟨_, rfl⟩, h⟩
theorem pe_bl {b j pos} : PE X (.Constant (.bool b) j pos) (tC (.bl b)) := fun _ _ _ H _ I h => Constant_bool ⟨.bl b, H, I, rfl, h⟩
theorem pe_non {j pos} : PE X (.Constant .none j pos) (tC .non) := fun _ _ _ H _ I h => Constant_none ⟨.non, H, I, rfl, h⟩
theorem pe_str {x j pos} : PE X (.Constant (.str x) j pos) (tC (.str x)) := fun _ _ _ H _ I h => Calls.Constant_str ⟨.str x, H, I.tok _, ⟨_, rfl⟩, h⟩

/-- a global name of the def -/
def Gl (X : Cx) (x : Str) : Prop := X.env.kindOf x = some .globalImplicit
theorem ld_glob {E : Value → Shared → Prop} {pins : List (Addr × Obj)} {s : Shared} {σ : St} {H : Hp} {x : Str} {u : Value} {pos : Pos} {Q : Value → Shared → Prop} (I : Inv X pins σ H s) (hg : Gl X x) (hm : X.mg x = some u) (h : Q u s)
    (hd : (x == ("__debug__" : Str)) = false := by decide) : wpAny (model X.prog X.w) X.A (eval (.Name x pos) X.env) Q E s :=
  Calls.Name_function_global I.ok.kind hg (Calls.loadGlobal_global (by rw [I.ok.glob]; exact I.mod.glob.keeps I.bk) hm h) hd
theorem ld_blt {E : Value → Shared → Prop} {pins : List (Addr × Obj)} {s : Shared} {σ : St} {H : Hp} {x : Str} {u : Value} {pos : Pos} {Q : Value → Shared → Prop} (I : Inv X pins σ H s) (hg : Gl X x) (hm : X.mg x = none) (hv : bootBuiltins x = some u) (h : Q u s)
    (hn : x ≠ "__name__" := by decide) (hd : (x == ("__debug__" : Str)) = false := by decide) : wpAny (model X.prog X.w) X.A (eval (.Name x pos) X.env) Q E s := by
  obtain ⟨mb, h1, h2⟩ := I.mod.blt
  exact Calls.Name_function_global I.ok.kind hg (Calls.loadGlobal_builtin (by rw [I.ok.glob]; exact I.mod.glob.keeps I.bk) hm (by rw [I.ok.blt]; exact h1.keeps I.bk) ((h2 x hn).trans hv) h) hd
/-! ### arithmetic -/
variable {a b : Expr} {ta tb : TE} {pos : Pos}
/-! ### comparisons -/
def PC (X : Cx) (op : CmpOp) (a b : Expr) (t : TE) : Prop :=
  ∀ (pins : List (Addr × Obj)) (s : Shared) (σ : St) (H : Hp) (Q : VK), Inv X pins σ H s → t σ H Q →
    wpAny (model X.prog X.w) X.A (eval a X.env) (fun v s₁ => wpAny (model X.prog X.w) X.A (eval b X.env) (fun u s₂ => wpAny (model X.prog X.w) X.A (compareOp op v u) (EP X pins σ Q) X.xe s₂) X.xe s₁) X.xe s
theorem nobehind (b : Expr) {op : CmpOp} (h : op ≠ .In) (h2 : op ≠ .NotIn) : behindInMarks op b = false := by
  have e1 : (op == CmpOp.In) = false := by cases op <;> first | rfl | exact absurd rfl h
  have e2 : (op == CmpOp.NotIn) = false := by cases op <;> first | rfl | exact absurd rfl h2
  cases b <;> simp [behindInMarks, e1, e2]
/-- a comparison as a value, as a test -/
def tB (t : TE) : TT := fun σ H Q => t σ H fun x H1 => ∃ c, x = .bl c ∧ Q c H1
theorem pt_cmp {op : CmpOp} {t : TE} (h : PC X op a b t) (h1 : behindInMarks op b = false := by first | exact nobehind _ (by decide) (by decide) | rfl) : PT X (.Compare a [op] [b] pos) (tB t) := by
  intro pins s σ H Q I hw
  refine wpAny_isTrue_Compare1 (thn (h pins s σ H _ I hw) fun v s1 h1 => thn h1 fun u s2 h2 => thn h2 fun c s3 ⟨x, H1, I1, r1, q1⟩ => ?_) h1
  obtain ⟨d, rfl, q⟩ := q1
  cases r1
  exact wpAny_truthy_bool ⟨H1, I1, q⟩
/-- an expression whose value is a bool, as a test -/
theorem pt_val {e : Expr} {t : TE} (h : PE X e t) (he : ∀ whole, isTrue e X.env whole = (do let v ← whole; standAt e.pos; holding [v] (truthy v)) := by intro _; rfl) : PT X e (tB t) := by
  intro pins s σ H Q I hw
  refine isTrue_plain (thn (h pins s σ H _ I hw) fun v s1 ⟨x, H1, I1, r1, q1⟩ => ?_) (he _)
  obtain ⟨d, rfl, q⟩ := q1
  cases r1
  exact wpAny_truthy_bool ⟨H1, I1, q⟩

/-! ### and, or, not -/
variable {tA tB' : TT} {rest : List Expr}
def tAnd (t u : TT) : TT := fun σ H Q => t σ H fun c H1 => if c = true then u σ H1 Q else Q false H1
def tOr (t u : TT) : TT := fun σ H Q => t σ H fun c H1 => if c = true then Q true H1 else u σ H1 Q
theorem pw_and1 (ha : PT X a tA) : PW X (.BoolOp .And [a] pos) tA := by
  intro wh pins s σ H Q I h
  refine isTrue_and (thn (ha pins s σ H Q I h) fun c s1 e => ?_)
  cases c with
  | true => exact isTrue_and_nil e
  | false => exact e
theorem pw_or1 (ha : PT X a tA) : PW X (.BoolOp .Or [a] pos) tA := by
  intro wh pins s σ H Q I h
  refine isTrue_or (thn (ha pins s σ H Q I h) fun c s1 e => ?_)
  cases c with
  | false => exact isTrue_or_nil e
  | true => exact e
theorem pw_and (ha : PT X a tA) (hb : PW X (.BoolOp .And (b :: rest) pos) tB') : PW X (.BoolOp .And (a :: b :: rest) pos) (tAnd tA tB') := by
  intro wh pins s σ H Q I h
  refine isTrue_and (thn (ha pins s σ H _ I h) fun c s1 ⟨H1, I1, q1⟩ => ?_)
  cases c with
  | true => exact hb wh pins s1 σ H1 Q I1 q1
  | false => exact ⟨H1, I1, q1⟩
theorem pw_or (ha : PT X a tA) (hb : PW X (.BoolOp .Or (b :: rest) pos) tB') : PW X (.BoolOp .Or (a :: b :: rest) pos) (tOr tA tB') := by
  intro wh pins s σ H Q I h
  refine isTrue_or (thn (ha pins s σ H _ I h) fun c s1 ⟨H1, I1, q1⟩ => ?_)
  cases c with
  | true => exact ⟨H1, I1, q1⟩
  | false => exact hb wh pins s1 σ H1 Q I1 q1
end
end L2

namespace L2
open PySem PySem.Spec PyProof.Rows

/-! ### a list, a tuple that is read: tracked, frozen, or an object of the module -/
def SqL (K : PySem.W.Frag) (H : Hp) (a : Addr) (xs : List V) : Prop :=
  Rd H a (.lst xs) ∨
    ∃ (o : Obj) (its : Array Value) (n : Nat), K.lookup a = some o ∧ o.cls = .type "list" ∧ o.dict = none ∧ o.data = .seq its n ∧ its.size ≤ sizeLine ∧ Vals xs its.toList
def SqT (K : PySem.W.Frag) (H : Hp) (a : Addr) (xs : List V) : Prop :=
  Rd H a (.tup xs) ∨
    ∃ (o : Obj) (its : Array Value) (n : Nat), K.lookup a = some o ∧ o.cls = .type "tuple" ∧ o.data = .seq its n ∧ its.size ≤ sizeLine ∧ Vals xs its.toList
def absV : Value → Option V
  | .none => some .non
  | .bool b => some (.bl b)
  | .int i _ => some (.int i)
  | .str x _ => some (.str x)
  | .bytes b _ => some (.byt b)
  | .float b _ => some (.flt b)
  | .ref a => some (.ref a)
  | .type n => some (.ty n)
  | _ => none
theorem RelV.abs {x : V} {u : Value} (r : RelV x u) : absV u = some x := by
  cases x with
  | non => cases r; rfl
  | bl _ => cases r; rfl
  | int _ => obtain ⟨t, rfl⟩ := r; rfl
  | str _ => obtain ⟨t, rfl⟩ := r; rfl
  | byt _ => obtain ⟨t, rfl⟩ := r; rfl
  | flt _ => obtain ⟨t, rfl⟩ := r; rfl
  | ref _ => cases r; rfl
  | ty _ => cases r; rfl
theorem RelV.inj {x y : V} {u : Value} (r : RelV x u) (q : RelV y u) : x = y := Option.some.inj (r.abs.symm.trans q.abs)
theorem Vals.inj : ∀ {xs ys : List V} {us : List Value}, Vals xs us → Vals ys us → xs = ys
  | _, _, _, .nil, .nil => rfl
  | _, _, _, .cons r t, .cons r' t' => by rw [r.inj r', Vals.inj t t']
section
variable {X : Cx} {pins : List (Addr × Obj)} {σ : St} {H : Hp} {s : Shared} {a : Addr} {xs ys : List V}
theorem SqL.of {K : PySem.W.Frag} (h : H a = some (.lst xs)) : SqL K H a xs := .inl (.inl h)
theorem SqT.of {K : PySem.W.Frag} (h : H a = some (.tup xs)) : SqT K H a xs := .inl (.inl h)
theorem Inv.list (I : Inv X pins σ H s) (h : SqL X.K H a xs) : ∃ its : List Value, Vals xs its ∧ PlainL s.heap a its.toArray ∧ xs.length ≤ sizeLine := by
  rcases h with h | ⟨o, its, n, hk, hc, hd, hs, hz, r⟩
  · obtain ⟨z, its, n, r, e⟩ := h.ok I.hok
    exact ⟨its, r, ⟨_, n, e, rfl, rfl, rfl⟩, z⟩
  · refine ⟨its.toList, r, ⟨o, n, I.kIn a o hk, hc, hd, by simpa using hs⟩, ?_⟩
    have e := r.length
    simp only [Array.length_toList] at e
    omega
theorem Inv.tuple (I : Inv X pins σ H s) (h : SqT X.K H a xs) : ∃ its : List Value, Vals xs its ∧ IsTup s.heap a its.toArray ∧ xs.length ≤ sizeLine := by
  rcases h with h | ⟨o, its, n, hk, hc, hs, hz, r⟩
  · obtain ⟨z, its, r, p⟩ := h.ok I.hok
    exact ⟨its, r, p.is, z⟩
  · refine ⟨its.toList, r, ⟨o, I.kIn a o hk, hc, n, by simpa using hs⟩, ?_⟩
    have e := r.length
    simp only [Array.length_toList] at e
    omega
theorem Inv.list_inj (I : Inv X pins σ H s) (h : SqL X.K H a xs) (h' : SqL X.K H a ys) : xs = ys := by
  obtain ⟨its, r, ⟨o, n, e, _, _, d⟩, _⟩ := I.list h
  obtain ⟨its', r', ⟨o', n', e', _, _, d'⟩, _⟩ := I.list h'
  rw [e] at e'; cases e'
  rw [d] at d'
  injection d' with d1 _
  have : its = its' := by simpa using congrArg Array.toList d1
  subst this
  exact r.inj r'
theorem Inv.tuple_inj (I : Inv X pins σ H s) (h : SqT X.K H a xs) (h' : SqT X.K H a ys) : xs = ys := by
  obtain ⟨its, r, ⟨o, e, _, n, d⟩, _⟩ := I.tuple h
  obtain ⟨its', r', ⟨o', e', _, n', d'⟩, _⟩ := I.tuple h'
  rw [e] at e'; cases e'
  rw [d] at d'
  injection d' with d1 _
  have : its = its' := by simpa using congrArg Array.toList d1
  subst this
  exact r.inj r'
end

/-! ### another wish about exceptions -/
abbrev Cx.wish (X : Cx) (E : Value → Shared → Prop) : Cx := { X with xe := E }
/-- no exception leaves -/
abbrev Cx.nox (X : Cx) : Cx := X.wish fun _ _ => False
theorem Cx.Ok.wish {X : Cx} (ok : X.Ok) (E : Value → Shared → Prop) : (X.wish E).Ok :=
  ⟨ok.mod, ok.kind, ok.glob, ok.blt, ok.above, ok.inj, ok.has, ok.cab, ok.hd, ok.frames, ok.stk, ok.exf, ok.bs, ok.bsz, ok.noex, ok.exfs, ok.funs, ok.frf⟩
theorem Cx.Ok.unwish {X : Cx} {E : Value → Shared → Prop} (ok : (X.wish E).Ok) : X.Ok :=
  ⟨ok.mod, ok.kind, ok.glob, ok.blt, ok.above, ok.inj, ok.has, ok.cab, ok.hd, ok.frames, ok.stk, ok.exf, ok.bs, ok.bsz, ok.noex, ok.exfs, ok.funs, ok.frf⟩
section
variable {X : Cx} {pins : List (Addr × Obj)} {σ : St} {H : Hp} {s : Shared} {E : Value → Shared → Prop}
theorem Inv.wish (I : Inv X pins σ H s) (E : Value → Shared → Prop) : Inv (X.wish E) pins σ H s := ⟨I.ok.wish E, I.os, I.bare, I.base, I.loc, I.cell, I.free, I.freeC, I.pin, I.hok, I.len⟩
theorem Inv.unwish (I : Inv (X.wish E) pins σ H s) : Inv X pins σ H s := ⟨I.ok.unwish, I.os, I.bare, I.base, I.loc, I.cell, I.free, I.freeC, I.pin, I.hok, I.len⟩
theorem SP.unwish {D : Ends} {f : Flow} {s' : Shared} (h : SP (X.wish E) pins D f s') : SP X pins D f s' := by
  cases f with
  | next => obtain ⟨σ', H', I, q⟩ := h; exact ⟨σ', H', I.unwish, q⟩
  | brk => obtain ⟨σ', H', I, q⟩ := h; exact ⟨σ', H', I.unwish, q⟩
  | cont => obtain ⟨σ', H', I, q⟩ := h; exact ⟨σ', H', I.unwish, q⟩
  | ret u => obtain ⟨v, σ', H', I, r, q⟩ := h; exact ⟨v, σ', H', I.unwish, r, q⟩
theorem PE.nox {e : Expr} {t : TE} (h : PE X.nox e t) : PE X e t := fun pins s σ H Q I hw =>
  wpAny_mono (h pins s σ H Q (I.wish _) hw) (fun _ _ ⟨v, H', I', r, q⟩ => ⟨v, H', I'.unwish, r, q⟩) fun _ _ z => False.elim z
theorem PT.nox {e : Expr} {t : TT} (h : PT X.nox e t) : PT X e t := fun pins s σ H Q I hw =>
  wpAny_mono (h pins s σ H Q (I.wish _) hw) (fun _ _ ⟨H', I', q⟩ => ⟨H', I'.unwish, q⟩) fun _ _ z => False.elim z
theorem PSs.nox {st : List Stmt} {t : TS} (h : PSs X.nox st t) : PSs X st t := fun pins s σ H D I hw =>
  wpAny_mono (h pins s σ H D (I.wish _) hw) (fun _ _ q => q.unwish) fun _ _ z => False.elim z
end

/-! ### blocks and small statements -/
section
variable {X : Cx} {st : Stmt} {rest : List Stmt} {t u : TS} {e : Expr} {te : TE} {pos : Pos}
def tNext : TS := fun D σ H => D.nx σ H
def tSeq (t u : TS) : TS := fun D σ H => t { D with nx := u D } σ H
theorem pss_nil : PSs X [] tNext := fun _ _ σ H _ I h => wpAny_execs_nil ⟨σ, H, I, h⟩
theorem pss_cons (h1 : PS X st t) (h2 : PSs X rest u) : PSs X (st :: rest) (tSeq t u) := by
  intro pins s σ H D I h
  refine wpAny_execs_cons (thn (h1 pins s σ H { D with nx := u D } I h) fun f s1 q => ?_)
  cases f with
  | next =>
    obtain ⟨σ', H', I', q⟩ := q
    exact h2 pins s1 σ' H' D I' q
  | ret v => exact q
  | brk => exact q
  | cont => exact q
theorem pss_one (h1 : PS X st t) : PSs X [st] t := by
  intro pins s σ H D I h
  refine wpAny_execs_cons (thn (h1 pins s σ H D I h) fun f s1 q => ?_)
  cases f with
  | next => exact wpAny_execs_nil q
  | ret v => exact q
  | brk => exact q
  | cont => exact q
/-- in a def's body nothing is shown -/
theorem Inv.quiet {pins : List (Addr × Obj)} {σ : St} {H : Hp} {s : Shared} (I : Inv X pins σ H s) : interactive X.env = false := by simp [interactive, I.ok.kind]
/-- an expression whose value is dropped -/
def tDrop (te : TE) : TS := fun D σ H => te σ H fun _ H1 => D.nx σ H1
theorem ps_expr (he : PE X e te) (hs : swapsWith e none pos.line X.env = pure false := by rfl) : PS X (.Expr e pos) (tDrop te) := by
  intro pins s σ H D I h
  exact wpAny_Expr_any (thn (he pins s σ H _ I h) fun v s1 ⟨x, H1, I1, r1, q1⟩ => ⟨σ, H1, I1, q1⟩) I.quiet hs
def tRet (te : TE) : TS := fun D σ H => te σ H D.rt
theorem ps_ret (he : PE X e te) : PS X (.Return (some e) pos) (tRet te) := by
  intro pins s σ H D I h
  exact wpAny_Return_some (thn (he pins s σ H _ I h) fun v s1 ⟨x, H1, I1, r1, q1⟩ => ⟨x, σ, H1, I1, r1, q1⟩)
def tIfS (c : TT) (t u : TS) : TS := fun D σ H => c σ H fun b H1 => if b = true then t D σ H1 else u D σ H1
theorem ps_if {c : Expr} {a b : List Stmt} {tc : TT} (hc : PT X c tc) (ha : PSs X a t) (hb : PSs X b u) : PS X (.If c a b pos) (tIfS tc t u) := by
  intro pins s σ H D I h
  refine wpAny_If (thn (hc pins s σ H _ I h) fun d s1 ⟨H1, I1, q1⟩ => ?_)
  cases d with
  | true => exact ha pins s1 σ H1 D I1 q1
  | false => exact hb pins s1 σ H1 D I1 q1
end

/-! ### targets -/
abbrev TG := V → St → Hp → (St → Hp → Prop) → Prop
abbrev TGs := List V → St → Hp → (St → Hp → Prop) → Prop
def PG (X : Cx) (target : Expr) (t : TG) : Prop :=
  ∀ (pins : List (Addr × Obj)) (s : Shared) (σ : St) (H : Hp) (v : V) (u : Value) (Q : St → Hp → Prop), Inv X pins σ H s → RelV v u → t v σ H Q →
    wpAny (model X.prog X.w) X.A (assign target X.env u) (fun _ s' => ∃ σ' H', Inv X pins σ' H' s' ∧ Q σ' H') X.xe s
/-- several targets, one after another -/
def PGs (X : Cx) (ts : List Expr) (t : TGs) : Prop :=
  ∀ (pins : List (Addr × Obj)) (s : Shared) (σ : St) (H : Hp) (vs : List V) (us : List Value) (Q : St → Hp → Prop), Inv X pins σ H s → Vals vs us → t vs σ H Q →
    wpAny (model X.prog X.w) X.A (assignInOrder ((assignEach ts X.env).map (·.2)) us) (fun _ s' => ∃ σ' H', Inv X pins σ' H' s' ∧ Q σ' H') X.xe s
/-- o[i] = v, by values -/
abbrev TSet := V → V → V → Hp → (Hp → Prop) → Prop
def PSet (X : Cx) (t : TSet) : Prop :=
  ∀ (pins : List (Addr × Obj)) (s : Shared) (σ : St) (H : Hp) (o i v : V) (ov iv u : Value) (Q : Hp → Prop), Inv X pins σ H s → RelV o ov → RelV i iv → RelV v u → t o i v H Q →
    wpAny (model X.prog X.w) X.A (setItem ov iv u) (fun _ s' => ∃ H', Inv X pins σ H' s' ∧ Q H') X.xe s
section
variable {X : Cx} {pos : Pos}
def gName (i : Nat) : TG := fun v σ H Q => Q (σ.set i (some v)) H
theorem pg_name {i : Nat} {x : Str} (hN : X.N.Nodup) (hi : X.N[i]? = some x) (hx : Loc X.env.scope x) (hf : X.fn x = true ∨ X.env.scope.names.lookup x = some .local := by first | exact .inl rfl | exact .inr rfl | assumption) : PG X (.Name x pos) (gName i) := by
  intro pins s σ H v u Q I r h
  exact wpAny_assign_Name (store_ok I hN hi hx r (fun s' I' => ⟨_, H, I', h⟩) hf)
def gNil : TGs := fun vs σ H Q => vs = [] ∧ Q σ H
def gCons (t : TG) (u : TGs) : TGs := fun vs σ H Q => ∃ v r, vs = v :: r ∧ t v σ H fun σ' H' => u r σ' H' Q
theorem pgs_nil : PGs X [] gNil := by
  intro pins s σ H vs us Q I r h
  obtain ⟨e, h⟩ := h
  subst e
  cases r
  exact assignInOrder_nil ⟨σ, H, I, h⟩
theorem pgs_cons {e : Expr} {es : List Expr} {t : TG} {u : TGs} (h1 : PG X e t) (h2 : PGs X es u)
    (hs : (assignEach (e :: es) X.env).map (·.2) = assign e X.env :: (assignEach es X.env).map (·.2) := by rfl) : PGs X (e :: es) (gCons t u) := by
  intro pins s σ H vs us Q I r h
  obtain ⟨v, vr, e1, h⟩ := h
  subst e1
  cases r with
  | cons r rr =>
    rw [hs]
    refine assignInOrder_cons (thn (h1 pins s σ H _ _ _ I r h) fun _ s1 ⟨σ1, H1, I1, q1⟩ => ?_)
    exact h2 pins s1 σ1 H1 _ _ Q I1 rr q1
/-- (a, b, ..) = a tuple of that length -/
def gTup (K : PySem.W.Frag) (n : Nat) (t : TGs) : TG := fun v σ H Q => ∃ a xs, v = .ref a ∧ SqT K H a xs ∧ xs.length = n ∧ t xs σ H Q
theorem pg_tup {es : List Expr} {k : Nat} {t : TGs} {n : Nat} (hc : X.calm = true) (h : PGs X es t)
    (hn : (assignEach es X.env).length = n := by rfl) (hst : (assignEach es X.env).findIdx? (·.1) = none := by rfl) : PG X (.Tuple es k pos) (gTup X.K n t) := by
  intro pins s σ H v u Q I r hw
  obtain ⟨a, xs, e1, hq, hl, hw⟩ := hw
  subst e1
  cases r
  obtain ⟨its, rv, ht, hz⟩ := I.tuple hq
  refine assign_Tuple_tuple (I.ok.hd hc) ht (by simp [hn, ← hl, rv.length]) hst fun h' hx => ?_
  have I1 : Inv X pins σ H { s with heap := h' } := I.kept (t' := s.toks) fun b o e => hx b o (Nat.ne_of_lt (Heap.lt_size e)) e
  exact h pins _ σ H xs _ Q I1 (by simpa using rv) hw
/-- o[i] = .. -/
def gSub (to ti : TE) (t : TSet) : TG := fun v σ H Q => to σ H fun o H1 => ti σ H1 fun i H2 => t o i v H2 fun H3 => Q σ H3
theorem pg_sub {o i : Expr} {to ti : TE} {t : TSet} (ho : PE X o to) (hi : PE X i ti) (hs : PSet X t)
    (ha : ∀ v, assign (.Subscript o i pos) X.env v = (do
      let ov ← holding [v] (eval o X.env)
      let iv ← holding [v, ov] (eval i X.env)
      standAt pos
      holding [v, ov, iv] (setItem ov iv v)
      release [v, ov, iv] []) := by intro _; rfl) : PG X (.Subscript o i pos) (gSub to ti t) := by
  intro pins s σ H v u Q I r h
  rw [ha]
  refine wpAny_bind (wpAny_holding (thn (ho pins s σ H _ I h) fun ov s1 ⟨x, H1, I1, r1, q1⟩ => ?_))
  refine wpAny_bind (wpAny_holding (thn (hi pins s1 σ H1 _ I1 q1) fun iv s2 ⟨y, H2, I2, r2, q2⟩ => ?_))
  refine wpAny_bind (wpAny_standAt (wpAny_bind (wpAny_holding (thn (hs pins s2 σ H2 x y v ov iv u _ I2 r1 r2 r q2) fun _ s3 ⟨H3, I3, q3⟩ => ?_))))
  exact wpAny_release ⟨σ, H3, I3, q3⟩
/-- target = value -/
def tAsg (te : TE) (g : TG) : TS := fun D σ H => te σ H fun x H1 => g x σ H1 D.nx
theorem ps_asg {tg e : Expr} {te : TE} {g : TG} (he : PE X e te) (hg : PG X tg g) (hs : swapsWithSole [tg] e pos.line X.env = pure false := by rfl) (hw : swappedStores [tg] e X.env = pure none := by rfl)
    (h1 : (assignEach [tg] X.env).map (·.2) = [assign tg X.env] := by rfl) : PS X (.Assign [tg] e pos) (tAsg te g) := by
  intro pins s σ H D I h
  refine wpAny_Assign_stores (thn (he pins s σ H _ I h) fun v s1 ⟨x, H1, I1, r1, q1⟩ => ?_) hs hw
  rw [h1]
  exact thn (hg pins s1 σ H1 x v _ I1 r1 q1) fun _ s2 q => q
/-- name = value -/
theorem ps_set {i : Nat} {x : Str} {e : Expr} {te : TE} {pos' : Pos} (hN : X.N.Nodup) (hi : X.N[i]? = some x) (hx : Loc X.env.scope x) (he : PE X e te) (hs : swapsWith e (some (.Name x pos')) pos.line X.env = pure false := by rfl) (hf : X.fn x = true ∨ X.env.scope.names.lookup x = some .local := by first | exact .inl rfl | exact .inr rfl | assumption) :
    PS X (.Assign [.Name x pos'] e pos) (tAsg te (gName i)) := by
  intro pins s σ H D I h
  refine wpAny_Assign_Name (thn (he pins s σ H _ I h) fun v s1 ⟨y, H1, I1, r1, q1⟩ => ?_) hs
  exact store_ok I1 hN hi hx r1 (fun s2 I2 => ⟨_, H1, I2, q1⟩) hf
/-- a, b = x, y with plain local names: stored from the right; the pair itself is not tracked (the opening rows as in PyProof/Rows/TupAssign.lean:23) -/
def tPar (i j : Nat) (ta : TA) : TS := fun D σ H => ta σ H fun vs H1 => ∃ v w, vs = [v, w] ∧ D.nx ((σ.set i (some v)).set j (some w)) H1
theorem ps_par {i j : Nat} {x y : Str} {a b : Expr} {ta : TA} {px py pt : Pos} {kt k2 pt2} (hc : X.calm = true) (hN : X.N.Nodup) (hi : X.N[i]? = some x) (hj : X.N[j]? = some y) (hij : i ≠ j)
    (hx : X.env.scope.names.lookup x = some .local) (hy : X.env.scope.names.lookup y = some .local) (ha : PA X [a, b] ta)
    (hw : swappedStores [.Tuple [.Name x px, .Name y py] kt pt] (.Tuple [a, b] k2 pt2) X.env = pure (some [x, y]))
    (hs : swapsWithSole [.Tuple [.Name x px, .Name y py] kt pt] (.Tuple [a, b] k2 pt2) pos.line X.env = pure false := by rfl) :
    PS X (.Assign [.Tuple [.Name x px, .Name y py] kt pt] (.Tuple [a, b] k2 pt2) pos) (tPar i j ta) := by
  intro pins s σ H D I h
  rw [exec_Assign_arm]
  refine wpAny_bind (wpAny_standAt ?_)
  rw [hs]
  refine wpAny_bind (wpAny_pure ?_)
  rw [if_neg (by decide)]
  refine wpAny_bind (Tuple_ (thn (ha _ pins s σ H _ I h) fun us s1 ⟨vs, H1, I1, r1, q1⟩ => ?_))
  obtain ⟨v, w, e1, q1⟩ := q1
  subst e1
  obtain ⟨u1, u2, rfl, rv, rw'⟩ : ∃ u1 u2, us = [u1, u2] ∧ RelV v u1 ∧ RelV w u2 := by
    cases r1 with
    | cons p q =>
      cases q with
      | cons p' q' =>
        cases q'
        exact ⟨_, _, rfl, p, p'⟩
  refine wpAny_newObj_type ?_ (by show 2 ≤ sizeLine; decide)
  have I2 : Inv X pins σ H1 { s1 with heap := s1.heap.push { cls := .type "tuple", data := .seq [u1, u2].toArray } } := I1.kept (t' := s1.toks) fun b o e => Heap.get?_push_of_some _ e
  rw [hw]
  refine wpAny_bind (wpAny_pure ?_)
  show wpAny (model X.prog X.w) X.A (do rule "assign.swapped-stores"; let items ← unpackItems (.ref s1.heap.objs.size) 2 none; assignInOrder [fun v => bindName X.env y v, fun v => bindName X.env x v] items.reverse; pure Flow.next) _ _ _
  refine wpAny_bind (wpAny_rule (wpAny_bind (unpackItems_tuple (items := #[u1, u2]) (I.ok.hd hc) (IsTup.new s1.heap _) fun h' hx' => ?_)))
  have I3 := I2.kept (h' := h') (t' := s1.toks) fun b o e => hx' b o (Nat.ne_of_lt (Heap.lt_size e)) e
  show wpAny _ _ (assignInOrder [fun v => bindName X.env y v, fun v => bindName X.env x v] [u2, u1] >>= fun _ => pure Flow.next) _ _ _
  refine wpAny_bind (assignInOrder_cons (wpAny_bindName (store_ok I3 hN hj (.inl hy) rw' (fun s2 I4 => ?_) (.inr hy))))
  refine assignInOrder_cons (wpAny_bindName (store_ok I4 hN hi (.inl hx) rv (fun s3 I5 => assignInOrder_nil (wpAny_pure ?_)) (.inr hx)))
  rw [List.set_comm _ _ (Ne.symm hij)] at I5
  exact ⟨_, H1, I5, q1⟩
end

/-! ### while -/
section
variable {X : Cx} {pos : Pos}
/-- the invariant W with its measure -/
def tWhile (c : TT) (tb : TS) : TS := fun D σ H => ∃ W : Nat → St → Hp → Prop, (∃ m, W m σ H) ∧ ∀ m σ H, W m σ H →
  c σ H fun b H1 => if b = true then ∃ N : St → Hp → Prop, (∀ σ' H', N σ' H' → ∃ m', m' < m ∧ W m' σ' H') ∧ tb { D with nx := N, ct := N, bk := D.nx } σ H1 else D.nx σ H1
theorem ps_while {c : Expr} {body : List Stmt} {tc : TT} {tb : TS} (hp : PassesOwn (model X.prog X.w) X.A X.env X.xe) (hc : PT X c tc) (hb : PSs X body tb) : PS X (.While c body [] pos) (tWhile tc tb) := by
  intro pins s σ H D I h
  obtain ⟨W, ⟨m0, w0⟩, turn⟩ := h
  refine wpAny_While (codeAny_whileLoop (fun n s' => ∃ σ' H', Inv X pins σ' H' s' ∧ W n σ' H') ?_ m0 ⟨σ, H, I, w0⟩)
  rintro n s1 ⟨σ1, H1, I1, w1⟩
  refine wpAny_passesOwn hp (thn (hc pins s1 σ1 H1 _ I1 (turn n σ1 H1 w1)) fun b s2 ⟨H2, I2, q2⟩ => ?_)
  cases b with
  | true =>
    obtain ⟨N, hN, q2⟩ := q2
    rw [if_pos rfl]
    refine wpAny_passesOwn hp (thn (hb pins s2 σ1 H2 _ I2 q2) fun f s3 q3 => ?_)
    cases f with
    | next =>
      obtain ⟨σ3, H3, I3, n3⟩ := q3
      obtain ⟨m', hm, w3⟩ := hN σ3 H3 n3
      exact ⟨m', hm, σ3, H3, I3, w3⟩
    | cont =>
      obtain ⟨σ3, H3, I3, n3⟩ := q3
      obtain ⟨m', hm, w3⟩ := hN σ3 H3 n3
      exact ⟨m', hm, σ3, H3, I3, w3⟩
    | brk => exact q3
    | ret v => exact q3
  | false =>
    rw [if_neg Bool.false_ne_true]
    exact wpAny_execs_nil ⟨σ1, H2, I2, q2⟩
end

/-! ### what a loop or a comprehension walks -/
/-- at turn i: it yields x (the heap may grow), or it stops -/
structure It where
  go : Nat → Hp → Prop
  yld : Nat → Hp → V → Hp → Prop
  stop : Nat → Hp → Prop
/-- the iterator's own objects may turn: they are not the frame's, not pinned, younger than the entry (or a comprehension's own) -/
def FpOk (X : Cx) (pins : List (Addr × Obj)) (H : Hp) (b : Addr) : Prop :=
  H b = none ∧ b ≠ X.env.locals ∧ b ∉ X.fs ∧ (b ∈ X.ex ∨ X.s₀.heap.objs.size ≤ b) ∧ (∀ x c, X.env.cells.lookup x = some c → c ≠ b) ∧ ∀ p ∈ X.pn ++ pins, p.1 ≠ b
theorem Inv.fpOk {X : Cx} {pins : List (Addr × Obj)} {σ : St} {H H' : Hp} {s : Shared} {b : Addr} (I : Inv X pins σ H s) (hb : s.heap.objs.size ≤ b) (hn : H' b = none) : FpOk X pins H' b := by
  refine ⟨hn, Nat.ne_of_gt (Nat.lt_of_lt_of_le I.lt hb), I.nofs hb, .inr (Nat.le_trans I.sz hb), fun x c e z => ?_, fun p hp z => ?_⟩
  · obtain ⟨v, q⟩ := I.cell x c e
    exact absurd (Nat.lt_of_lt_of_le q.lt (by rw [z]; exact hb)) (Nat.lt_irrefl _)
  · exact absurd (Nat.lt_of_lt_of_le (Heap.lt_size (I.pin p hp).1) (by rw [z]; exact hb)) (Nat.lt_irrefl _)
structure Turn (P : Program) (w : World) (K : PySem.W.Frag) (tg : Expr) (J : It) (fp : List Addr) (it : Addr) (tn : Nat → Heap → Prop) : Prop where
  mem : it ∈ fp
  obj : ∀ i h, tn i h → ∀ b ∈ fp, ∃ o, h.get? b = some o ∧ ∀ v, o.data ≠ .cell v
  keep : ∀ i h h', tn i h → (∀ b ∈ fp, ∀ o, h.get? b = some o → h'.get? b = some o) → tn i h'
  item : ∀ (X : Cx), X.prog = P → X.w = w → X.K = K → X.calm = true → ∀ (i : Nat) (pins : List (Addr × Obj)) (s : Shared) (σ : St) (H : Hp) (E : Value → Shared → Prop), Inv X pins σ H s → (∀ b ∈ fp, FpOk X pins H b) → tn i s.heap → J.go i H →
    wpAny (model P w) X.A (pyNext (.ref it)) (fun r s1 => ∃ u, r = some u ∧
      wpAny (model P w) X.A (letOwnedTupleGo tg (.ref it) u) (fun _ s2 => ∃ x H', Inv X pins σ H' s2 ∧ RelV x u ∧ J.yld i H x H' ∧ tn (i + 1) s2.heap ∧ ∀ b ∈ fp, H' b = none) E s1) E s
  done : ∀ (X : Cx), X.prog = P → X.w = w → X.K = K → X.calm = true → ∀ (i : Nat) (pins : List (Addr × Obj)) (s : Shared) (σ : St) (H : Hp) (E : Value → Shared → Prop), Inv X pins σ H s → (∀ b ∈ fp, FpOk X pins H b) → tn i s.heap → J.stop i H →
    wpAny (model P w) X.A (pyNext (.ref it)) (fun r s1 => r = none ∧ Inv X pins σ H s1) E s
  self : ∀ (A : Around) (i : Nat) (s : Shared) (Q : Value → Shared → Prop) (E : Value → Shared → Prop), tn i s.heap → Q (.ref it) s → wpAny (model P w) A (pyIter (.ref it)) Q E s
abbrev TI := St → Hp → (It → Hp → Prop) → Prop
/-- an iterator has come -/
def PIE (X : Cx) (pins : List (Addr × Obj)) (σ : St) (tg : Expr) (R : It → Hp → Prop) (itv : Value) (s2 : Shared) : Prop :=
  ∃ (it : Addr) (fp : List Addr) (tn : Nat → Heap → Prop) (J : It) (H' : Hp), itv = .ref it ∧ Inv X pins σ H' s2 ∧ Turn X.prog X.w X.K tg J fp it tn ∧ tn 0 s2.heap ∧ (∀ b ∈ fp, FpOk X pins H' b) ∧ R J H'
def PI (X : Cx) (tg iter : Expr) (wi : TI) : Prop :=
  ∀ (pins : List (Addr × Obj)) (s : Shared) (σ : St) (H : Hp) (R : It → Hp → Prop), Inv X pins σ H s → wi σ H R →
    wpAny (model X.prog X.w) X.A (eval iter X.env) (fun v s1 => wpAny (model X.prog X.w) X.A (pyIter v) (PIE X pins σ tg R) X.xe s1) X.xe s

/-- the step ahead of the store is nothing for an iterator that keeps no tuple -/
theorem go_of {M : Model} {A : Around} {E : Value → Shared → Prop} {s : Shared} {tg : Expr} {it : Addr} {u : Value} {o : Obj} {n : String} {vs : Array Value} {Q : Unit → Shared → Prop} (ho : s.heap.get? it = some o) (hc : o.cls = .type n) (hd : o.data = .fields vs)
    (hn : ["enumerate", "zip", "dict_itemiterator", "dict_reverseitemiterator", "odict_iterator", "itertools.zip_longest", "itertools.pairwise"].contains n = false) (hQ : Q () s) : wpAny M A (letOwnedTupleGo tg (.ref it) u) Q E s := by
  unfold letOwnedTupleGo
  cases tg <;> first
    | exact wpAny_pure hQ
    | (cases u <;> first
        | exact wpAny_pure hQ
        | (refine wpAny_bind (wpAny_load ho ?_)
           rw [hc, hd]
           show wpAny M A (if (["enumerate", "zip", "dict_itemiterator", "dict_reverseitemiterator", "odict_iterator", "itertools.zip_longest", "itertools.pairwise"].contains n && vs[0]? == some (rawInt _)) = true then _ else _) Q E s
           rw [if_neg (by intro h; rw [hn, Bool.false_and] at h; cases h)]
           exact wpAny_pure hQ))

/-- the list at a, as it stands at each turn (a loop may append to it) -/
def Itl (K : PySem.W.Frag) (a : Addr) : It :=
  ⟨fun i H => ∃ xs x, SqL K H a xs ∧ xs[i]? = some x, fun i H x H' => H' = H ∧ ∀ xs, SqL K H a xs → xs[i]? = some x, fun i H => ∃ xs, SqL K H a xs ∧ xs.length ≤ i⟩
def Itt (K : PySem.W.Frag) (a : Addr) : It :=
  ⟨fun i H => ∃ xs x, SqT K H a xs ∧ xs[i]? = some x, fun i H x H' => H' = H ∧ ∀ xs, SqT K H a xs → xs[i]? = some x, fun i H => ∃ xs, SqT K H a xs ∧ xs.length ≤ i⟩
/-- lo, lo + 1, .. (n of them) -/
def Itr (lo : Int) (n : Nat) : It := ⟨fun i _ => i < n, fun i H x H' => H' = H ∧ x = .int (lo + i), fun i _ => n ≤ i⟩
theorem turn_list {P : Program} {w : World} {K : PySem.W.Frag} {tg : Expr} (a it : Addr) : Turn P w K tg (Itl K a) [it] it (fun i h => h.IsListIter it a i) where
  mem := by simp
  obj := fun i h st b hb => by
    have e : b = it := by simpa using hb
    subst e
    obtain ⟨o, e, c, d⟩ := st
    exact ⟨o, e, fun v z => by rw [d] at z; cases z⟩
  keep := fun i h h' st k => st.at fun o e => k it (by simp) o e
  item := by
    intro X hP hw hK hc i pins s σ H E I hf st hg
    subst hP hw hK
    obtain ⟨xs, x, hq, hx⟩ := hg
    obtain ⟨its, rv, p, hz⟩ := I.list hq
    obtain ⟨u, hu, ru⟩ := rv.get hx
    obtain ⟨f0, f1, f2, f3, f4, f5⟩ := hf it (by simp)
    refine wpAny_pyNext_list_item st p.isList (x := u) (by simpa using hu) fun h' st' sb => ?_
    have I1 : Inv X pins σ H { s with heap := h' } := I.turned (t' := s.toks) (fun b o hb e => (sb.2 b hb).trans e) f0 f1 f3 f4 f5
    obtain ⟨o, e, c, d⟩ := id st'
    exact ⟨u, rfl, go_of (s := { s with heap := h' }) e c d (by decide) ⟨x, H, I1, ru, ⟨rfl, fun ys hy => by rw [I.list_inj hy hq]; exact hx⟩, st', fun b hb => (hf b hb).1⟩⟩
  done := by
    intro X hP hw hK hc i pins s σ H E I hf st hg
    subst hP hw hK
    obtain ⟨xs, hq, hx⟩ := hg
    obtain ⟨its, rv, p, hz⟩ := I.list hq
    obtain ⟨f0, f1, f2, f3, f4, f5⟩ := hf it (by simp)
    have hl := rv.length
    exact wpAny_pyNext_list_end (I.ok.hd hc) st p.isList (by simp; omega) fun h' eb => ⟨rfl, I.turned (t' := s.toks) (fun b o hb e => eb b o hb e) f0 f1 f3 f4 f5⟩
  self := fun _ _ _ _ _ st h => wpAny_pyIter_listiter st h
theorem turn_tuple {P : Program} {w : World} {K : PySem.W.Frag} {tg : Expr} (a it : Addr) : Turn P w K tg (Itt K a) [it] it (fun i h => h.IsTupleIter it a i) where
  mem := by simp
  obj := fun i h st b hb => by
    have e : b = it := by simpa using hb
    subst e
    obtain ⟨o, e, c, d⟩ := st
    exact ⟨o, e, fun v z => by rw [d] at z; cases z⟩
  keep := fun i h h' st k => st.at fun o e => k it (by simp) o e
  item := by
    intro X hP hw hK hc i pins s σ H E I hf st hg
    subst hP hw hK
    obtain ⟨xs, x, hq, hx⟩ := hg
    obtain ⟨its, rv, p, hz⟩ := I.tuple hq
    obtain ⟨u, hu, ru⟩ := rv.get hx
    obtain ⟨f0, f1, f2, f3, f4, f5⟩ := hf it (by simp)
    refine wpAny_pyNext_tuple_item st (show s.heap.IsTuple a its.toArray from p) (x := u) (by simpa using hu) fun h' st' sb => ?_
    have I1 : Inv X pins σ H { s with heap := h' } := I.turned (t' := s.toks) (fun b o hb e => (sb.2 b hb).trans e) f0 f1 f3 f4 f5
    obtain ⟨o, e, c, d⟩ := id st'
    exact ⟨u, rfl, go_of (s := { s with heap := h' }) e c d (by decide) ⟨x, H, I1, ru, ⟨rfl, fun ys hy => by rw [I.tuple_inj hy hq]; exact hx⟩, st', fun b hb => (hf b hb).1⟩⟩
  done := by
    intro X hP hw hK hc i pins s σ H E I hf st hg
    subst hP hw hK
    obtain ⟨xs, hq, hx⟩ := hg
    obtain ⟨its, rv, p, hz⟩ := I.tuple hq
    obtain ⟨f0, f1, f2, f3, f4, f5⟩ := hf it (by simp)
    have hl := rv.length
    exact wpAny_pyNext_tuple_end (I.ok.hd hc) st (show s.heap.IsTuple a its.toArray from p) (by simp; omega) fun h' eb => ⟨rfl, I.turned (t' := s.toks) (fun b o hb e => eb b o hb e) f0 f1 f3 f4 f5⟩
  self := fun _ _ _ _ _ st h => wpAny_pyIter_tupleiter st h
theorem turn_range {P : Program} {w : World} {K : PySem.W.Frag} {tg : Expr} (it : Addr) (lo : Int) (n : Nat) : Turn P w K tg (Itr lo n) [it] it (fun i h => IsRangeIter h it (lo + (i : Nat) * 1) ((n : Int) - (i : Nat)) 1) where
  mem := by simp
  obj := fun i h st b hb => by
    have e : b = it := by simpa using hb
    subst e
    exact ⟨_, st, fun v z => by
      have z' : Data.fields _ = Data.cell v := z
      cases z'⟩
  keep := fun i h h' st k => k it (by simp) _ st
  item := by
    intro X hP hw hK hc i pins s σ H E I hf st hg
    subst hP hw hK
    obtain ⟨f0, f1, f2, f3, f4, f5⟩ := hf it (by simp)
    have W := Walks.range (prog := X.prog) (w := X.w) (I.ok.hd hc) it lo 1 n
    refine W.item i s _ _ hg st fun v h' tk hv st' kk => ?_
    obtain ⟨t, rfl⟩ := hv
    have I1 : Inv X pins σ H { s with heap := h', toks := tk } := I.turned (fun b o hb e => kk b o (by simpa using hb) e) f0 f1 f3 f4 f5
    refine ⟨_, rfl, go_of (s := { s with heap := h', toks := tk }) (n := "range_iterator") st' rfl rfl (by decide) ⟨.int (lo + i), H, I1, ⟨t, ?_⟩, ⟨rfl, rfl⟩, st', fun b hb => (hf b hb).1⟩⟩
    rw [Int.mul_one]
  done := by
    intro X hP hw hK hc i pins s σ H E I hf st hg
    subst hP hw hK
    obtain ⟨f0, f1, f2, f3, f4, f5⟩ := hf it (by simp)
    exact wpAny_pyNext_range_end (I.ok.hd hc) st (by have : n ≤ i := hg; omega) fun h' eb => ⟨rfl, I.turned (t' := s.toks) (fun b o hb e => eb b o hb e) f0 f1 f3 f4 f5⟩
  self := fun _ _ _ _ _ st h => wpAny_pyIter_rangeiter st h
end L2

namespace L2
open PySem PySem.Spec PyProof.Rows
section
variable {X : Cx} {tg : Expr}
def iList (K : PySem.W.Frag) (tl : TE) : TI := fun σ H R => tl σ H fun x H1 => ∃ a, x = .ref a ∧ (∃ xs, SqL K H1 a xs) ∧ R (Itl K a) H1
def iTup (K : PySem.W.Frag) (tl : TE) : TI := fun σ H R => tl σ H fun x H1 => ∃ a, x = .ref a ∧ (∃ xs, SqT K H1 a xs) ∧ R (Itt K a) H1
theorem pi_list {l : Expr} {tl : TE} (hl : PE X l tl) : PI X tg l (iList X.K tl) := by
  intro pins s σ H R I h
  refine thn (hl pins s σ H _ I h) fun v s1 ⟨x, H1, I1, r1, q1⟩ => ?_
  obtain ⟨a, e, ⟨xs, hq⟩, q⟩ := q1
  subst e
  cases r1
  obtain ⟨its, rv, p, hz⟩ := I1.list hq
  refine wpAny_pyIter_list p.isList ?_
  refine ⟨s1.heap.objs.size, [s1.heap.objs.size], _, _, H1, rfl, I1.kept (t' := s1.toks) fun b o e => Heap.get?_push_of_some _ e, turn_list a _, ⟨_, Heap.get?_push_size _ rfl, rfl, rfl⟩, fun b hb => ?_, q⟩
  have e : b = s1.heap.objs.size := by simpa using hb
  subst e
  exact I1.fpOk (Nat.le_refl _) (I1.hok.fresh (Nat.le_refl _))
theorem pi_tup {l : Expr} {tl : TE} (hl : PE X l tl) : PI X tg l (iTup X.K tl) := by
  intro pins s σ H R I h
  refine thn (hl pins s σ H _ I h) fun v s1 ⟨x, H1, I1, r1, q1⟩ => ?_
  obtain ⟨a, e, ⟨xs, hq⟩, q⟩ := q1
  subst e
  cases r1
  obtain ⟨its, rv, p, hz⟩ := I1.tuple hq
  refine wpAny_pyIter_tuple (show s1.heap.IsTuple a its.toArray from p) ?_
  refine ⟨s1.heap.objs.size, [s1.heap.objs.size], _, _, H1, rfl, I1.kept (t' := s1.toks) fun b o e => Heap.get?_push_of_some _ e, turn_tuple a _, ⟨_, Heap.get?_push_size _ rfl, rfl, rfl⟩, fun b hb => ?_, q⟩
  have e : b = s1.heap.objs.size := by simpa using hb
  subst e
  exact I1.fpOk (Nat.le_refl _) (I1.hok.fresh (Nat.le_refl _))
/-- a range object just made, walked -/
theorem range_it {pins : List (Addr × Obj)} {σ : St} {H : Hp} {s : Shared} {R : It → Hp → Prop} {E : Value → Shared → Prop} {lo hi : Int} {t u v : Tok} {tk : Nat} (I : Inv X pins σ H s) (h1 : -(2 ^ 62) ≤ lo) (h2 : lo < 2 ^ 62) (h3 : -(2 ^ 62) ≤ hi) (h4 : hi < 2 ^ 62)
    (q : R (Itr lo (hi - lo).toNat) H) : wpAny (model X.prog X.w) X.A (pyIter (.ref s.heap.objs.size)) (PIE X pins σ tg R) E { s with heap := s.heap.push { cls := .type "range", data := .fields #[.int lo t, .int hi u, .int 1 v] }, toks := tk } := by
  refine wpAny_pyIter_range (IsRange.new ..) (small_one h1 h2 h3 h4) ?_
  have I1 : Inv X pins σ H { s with heap := s.heap.push { cls := .type "range", data := .fields #[.int lo t, .int hi u, .int 1 v] }, toks := tk } := I.kept fun b o e => Heap.get?_push_of_some _ e
  refine ⟨(s.heap.push { cls := .type "range", data := .fields #[.int lo t, .int hi u, .int 1 v] }).objs.size, [(s.heap.push { cls := .type "range", data := .fields #[.int lo t, .int hi u, .int 1 v] }).objs.size], _, _, H, rfl,
    I1.kept (t' := tk) fun b o e => Heap.get?_push_of_some _ e, turn_range _ lo (hi - lo).toNat, ?_, fun b hb => ?_, q⟩
  · have e1 : lo + ((0 : Nat) : Int) * 1 = lo := by simp
    have e2 : (((hi - lo).toNat : Nat) : Int) - ((0 : Nat) : Int) = Builtin.Range.rangeSize lo hi 1 := by rw [rangeSize_one]; split <;> omega
    show IsRangeIter _ _ (lo + ((0 : Nat) : Int) * 1) ((((hi - lo).toNat : Nat) : Int) - ((0 : Nat) : Int)) 1
    rw [e1, e2]
    exact Heap.get?_push_size _ rfl
  · have e : b = (s.heap.push { cls := .type "range", data := .fields #[.int lo t, .int hi u, .int 1 v] }).objs.size := by simpa using hb
    subst e
    exact I1.fpOk (Nat.le_refl _) (I1.hok.fresh (Nat.le_refl _))
def iRng1 (ta : TA) : TI := fun σ H R => ta σ H fun vs H1 => ∃ j : Int, vs = [.int j] ∧ -(2 ^ 62) ≤ j ∧ j < 2 ^ 62 ∧ R (Itr 0 j.toNat) H1
theorem pi_range1 {a : Expr} {ta : TA} {p pos : Pos} (hg : Gl X "range") (hm : X.mg "range" = none) (ha : PA X [a] ta) (hs : starEach [a] X.env = [(false, eval a X.env)] := by rfl) : PI X tg (.Call (.Name "range" p) [a] [] pos) (iRng1 ta) := by
  intro pins s σ H R I h
  refine Call_ (ld_blt I hg hm boot_range (PyProof.Rows.callWith_type1 (thn (ha pos pins s σ H _ I h) fun us s1 ⟨vs, H1, I1, r1, q1⟩ => ?_) hs rfl))
  obtain ⟨j, e, q1, q2, q⟩ := q1
  subst e
  cases r1 with
  | cons r rr =>
    cases rr
    obtain ⟨t, rfl⟩ := r
    exact call_range_1 (range_it I1 (by omega) (by omega) q1 q2 (by simpa using q))
/-! ### for -/
/-- W: the invariant by the turn and a measure; N: what the body is to reach -/
def tFor (wi : TI) (g : TG) (tb : TS) : TS := fun D σ H => wi σ H fun J H1 => ∃ W : Nat → Nat → St → Hp → Prop, (∃ m, W 0 m σ H1) ∧ ∀ i m σ H, W i m σ H →
  (J.stop i H ∧ D.nx σ H) ∨ (J.go i H ∧ ∃ N : St → Hp → Prop, (∀ σ' H', N σ' H' → ∃ m', m' < m ∧ W (i + 1) m' σ' H') ∧ ∀ x H', J.yld i H x H' → g x σ H' fun σ2 H2 => tb { D with nx := N, ct := N, bk := D.nx } σ2 H2)
/-- the records at fp as they stand -/
def pinsAt (fp : List Addr) (h : Heap) : List (Addr × Obj) := fp.filterMap fun b => (h.get? b).map fun o => (b, o)
theorem mem_pinsAt {fp : List Addr} {h : Heap} {b : Addr} {o : Obj} (hb : b ∈ fp) (e : h.get? b = some o) : (b, o) ∈ pinsAt fp h := List.mem_filterMap.mpr ⟨b, hb, by rw [e]; rfl⟩
theorem of_pinsAt {fp : List Addr} {h : Heap} {p : Addr × Obj} (hp : p ∈ pinsAt fp h) : p.1 ∈ fp ∧ h.get? p.1 = some p.2 := by
  obtain ⟨b, hb, e⟩ := List.mem_filterMap.mp hp
  cases q : h.get? b with
  | none => rw [q] at e; cases e
  | some o =>
    rw [q] at e
    have e' : (b, o) = p := Option.some.inj e
    subst e'
    exact ⟨hb, q⟩
theorem Inv.pinned {pins : List (Addr × Obj)} {σ : St} {H : Hp} {s : Shared} {fp : List Addr} (I : Inv X pins σ H s) (hf : ∀ b ∈ fp, FpOk X pins H b) (ho : ∀ b ∈ fp, ∃ o, s.heap.get? b = some o ∧ ∀ v, o.data ≠ .cell v) : Inv X (pins ++ pinsAt fp s.heap) σ H s :=
  I.pins_of fun p hp => (List.mem_append.mp hp).elim (fun z => I.pin p (List.mem_append_right _ z)) fun z => by
    obtain ⟨hb, e⟩ := of_pinsAt z
    obtain ⟨f0, f1, f2, _⟩ := hf p.1 hb
    obtain ⟨o, e', d⟩ := ho p.1 hb
    rw [e] at e'; cases e'
    exact ⟨e, f0, f1, f2, d⟩
theorem Inv.unpinned {pins pl : List (Addr × Obj)} {σ : St} {H : Hp} {s : Shared} (I : Inv X (pins ++ pl) σ H s) : Inv X pins σ H s := I.pins_of fun p hp => I.pin p (List.mem_append_right _ (List.mem_append_left _ hp))
theorem ps_for {iter : Expr} {body : List Stmt} {wi : TI} {g : TG} {tb : TS} {pos : Pos} (hp : PassesOwn (model X.prog X.w) X.A X.env X.xe) (hc : X.calm = true) (hi : PI X tg iter wi) (hg : PG X tg g) (hb : PSs X body tb)
    (hs : ∀ x, foldedSetIterable iter X.env x = pure x := by intro _; rfl) : PS X (.For tg iter body [] pos) (tFor wi g tb) := by
  intro pins s σ H D I h
  refine wpAny_For (thn (hi pins s σ H _ I h) fun v s1 h1 => thn h1 fun itv s2 h2 => ?_) hs
  obtain ⟨it, fp, tn, J, H2, e, I2, T, st2, f2, W, ⟨m0, w0⟩, turn⟩ := h2
  subst e
  -- what stays true of the iterator's objects through the loop
  have stat : ∀ {H' : Hp}, (∀ b ∈ fp, H' b = none) → ∀ b ∈ fp, FpOk X pins H' b := fun hn b hb => ⟨hn b hb, (f2 b hb).2⟩
  refine codeAny_forLoop_any (fun n s' => ∃ i σ' H', Inv X pins σ' H' s' ∧ tn i s'.heap ∧ (∀ b ∈ fp, H' b = none) ∧ W i n σ' H') ?_ m0 ⟨0, σ, H2, I2, st2, fun b hb => (f2 b hb).1, w0⟩
  rintro n s3 ⟨i, σ3, H3, I3, st3, fr3, w3⟩
  rcases turn i n σ3 H3 w3 with ⟨stop, qn⟩ | ⟨go, N, hN, step⟩
  · refine wpAny_passesOwn hp (thn (T.done X rfl rfl rfl hc i pins s3 σ3 H3 X.xe I3 (stat fr3) st3 stop) fun r s4 ⟨hr, I4⟩ => ?_)
    subst hr
    exact wpAny_execs_nil ⟨σ3, H3, I4, qn⟩
  · refine wpAny_passesOwn hp (thn (T.item X rfl rfl rfl hc i pins s3 σ3 H3 X.xe I3 (stat fr3) st3 go) fun r s4 ⟨u, hr, h4⟩ => ?_)
    subst hr
    refine wpAny_passesOwn hp (thn h4 fun _ s5 ⟨x, H5, I5, r5, y5, st5, fr5⟩ => ?_)
    have I5' := I5.pinned (stat fr5) (T.obj _ _ st5)
    refine wpAny_passesOwn hp (thn (hg _ s5 σ3 H5 x u _ I5' r5 (step x H5 y5)) fun _ s6 ⟨σ6, H6, I6, q6⟩ => ?_)
    refine wpAny_passesOwn hp (thn (hb _ s6 σ6 H6 _ I6 q6) fun f s7 q7 => ?_)
    have again : ∀ {σ7 : St} {H7 : Hp}, Inv X (pins ++ pinsAt fp s5.heap) σ7 H7 s7 → N σ7 H7 → ∃ m, m < n ∧ ∃ i σ' H', Inv X pins σ' H' s7 ∧ tn i s7.heap ∧ (∀ b ∈ fp, H' b = none) ∧ W i m σ' H' := fun {σ7 H7} I7 n7 => by
      obtain ⟨m', hm, w7⟩ := hN σ7 H7 n7
      refine ⟨m', hm, i + 1, σ7, H7, I7.unpinned, T.keep _ _ _ st5 fun b hb o e => (I7.pin (b, o) (List.mem_append_right _ (List.mem_append_right _ (mem_pinsAt hb e)))).1, fun b hb => ?_, w7⟩
      obtain ⟨o, e, d⟩ := T.obj _ _ st5 b hb
      exact (I7.pin (b, o) (List.mem_append_right _ (List.mem_append_right _ (mem_pinsAt hb e)))).2.1
    cases f with
    | next => obtain ⟨σ7, H7, I7, n7⟩ := q7; exact again I7 n7
    | cont => obtain ⟨σ7, H7, I7, n7⟩ := q7; exact again I7 n7
    | brk => obtain ⟨σ7, H7, I7, q7⟩ := q7; exact ⟨σ7, H7, I7.unpinned, q7⟩
    | ret v => obtain ⟨x7, σ7, H7, I7, r7, q7⟩ := q7; exact ⟨x7, σ7, H7, I7.unpinned, r7, q7⟩
end

/-! ### the forms one uses -/
/-- over a list that the body leaves as it is -/
theorem for_list {K : PySem.W.Frag} {a : Addr} {xs : List V} {g : TG} {tb : TS} {D : Ends} {σ : St} {H : Hp} (Pv : Nat → St → Hp → Prop) (h0 : Pv 0 σ H) (hl : ∀ i σ H, i ≤ xs.length → Pv i σ H → SqL K H a xs)
    (hs : ∀ i x σ H, xs[i]? = some x → Pv i σ H → g x σ H fun σ2 H2 => tb { D with nx := Pv (i + 1), ct := Pv (i + 1), bk := D.nx } σ2 H2) (hd : ∀ σ H, Pv xs.length σ H → D.nx σ H) :
    ∃ W : Nat → Nat → St → Hp → Prop, (∃ m, W 0 m σ H) ∧ ∀ i m σ H, W i m σ H →
      ((Itl K a).stop i H ∧ D.nx σ H) ∨ ((Itl K a).go i H ∧ ∃ N : St → Hp → Prop, (∀ σ' H', N σ' H' → ∃ m', m' < m ∧ W (i + 1) m' σ' H') ∧ ∀ x H', (Itl K a).yld i H x H' → g x σ H' fun σ2 H2 => tb { D with nx := N, ct := N, bk := D.nx } σ2 H2) := by
  refine ⟨fun i m σ H => m = xs.length - i ∧ i ≤ xs.length ∧ Pv i σ H, ⟨xs.length, by simp, Nat.zero_le _, h0⟩, ?_⟩
  rintro i m σ H ⟨rfl, hi, p⟩
  have q := hl i σ H hi p
  by_cases hlt : i < xs.length
  · refine .inr ⟨⟨xs, xs[i], q, by simp [hlt]⟩, Pv (i + 1), fun σ' H' p' => ⟨xs.length - (i + 1), by omega, rfl, hlt, p'⟩, fun x H' y => ?_⟩
    obtain ⟨e, y⟩ := y
    subst e
    exact hs i x σ _ (y xs q) p
  · have e : i = xs.length := by omega
    subst e
    exact .inl ⟨⟨xs, q, Nat.le_refl _⟩, hd σ H p⟩
theorem for_tup {K : PySem.W.Frag} {a : Addr} {xs : List V} {g : TG} {tb : TS} {D : Ends} {σ : St} {H : Hp} (Pv : Nat → St → Hp → Prop) (h0 : Pv 0 σ H) (hl : ∀ i σ H, i ≤ xs.length → Pv i σ H → SqT K H a xs)
    (hs : ∀ i x σ H, xs[i]? = some x → Pv i σ H → g x σ H fun σ2 H2 => tb { D with nx := Pv (i + 1), ct := Pv (i + 1), bk := D.nx } σ2 H2) (hd : ∀ σ H, Pv xs.length σ H → D.nx σ H) :
    ∃ W : Nat → Nat → St → Hp → Prop, (∃ m, W 0 m σ H) ∧ ∀ i m σ H, W i m σ H →
      ((Itt K a).stop i H ∧ D.nx σ H) ∨ ((Itt K a).go i H ∧ ∃ N : St → Hp → Prop, (∀ σ' H', N σ' H' → ∃ m', m' < m ∧ W (i + 1) m' σ' H') ∧ ∀ x H', (Itt K a).yld i H x H' → g x σ H' fun σ2 H2 => tb { D with nx := N, ct := N, bk := D.nx } σ2 H2) := by
  refine ⟨fun i m σ H => m = xs.length - i ∧ i ≤ xs.length ∧ Pv i σ H, ⟨xs.length, by simp, Nat.zero_le _, h0⟩, ?_⟩
  rintro i m σ H ⟨rfl, hi, p⟩
  have q := hl i σ H hi p
  by_cases hlt : i < xs.length
  · refine .inr ⟨⟨xs, xs[i], q, by simp [hlt]⟩, Pv (i + 1), fun σ' H' p' => ⟨xs.length - (i + 1), by omega, rfl, hlt, p'⟩, fun x H' y => ?_⟩
    obtain ⟨e, y⟩ := y
    subst e
    exact hs i x σ _ (y xs q) p
  · have e : i = xs.length := by omega
    subst e
    exact .inl ⟨⟨xs, q, Nat.le_refl _⟩, hd σ H p⟩
theorem for_range {lo : Int} {n : Nat} {g : TG} {tb : TS} {D : Ends} {σ : St} {H : Hp} (Pv : Nat → St → Hp → Prop) (h0 : Pv 0 σ H)
    (hs : ∀ i σ H, i < n → Pv i σ H → g (.int (lo + i)) σ H fun σ2 H2 => tb { D with nx := Pv (i + 1), ct := Pv (i + 1), bk := D.nx } σ2 H2) (hd : ∀ σ H, Pv n σ H → D.nx σ H) :
    ∃ W : Nat → Nat → St → Hp → Prop, (∃ m, W 0 m σ H) ∧ ∀ i m σ H, W i m σ H →
      ((Itr lo n).stop i H ∧ D.nx σ H) ∨ ((Itr lo n).go i H ∧ ∃ N : St → Hp → Prop, (∀ σ' H', N σ' H' → ∃ m', m' < m ∧ W (i + 1) m' σ' H') ∧ ∀ x H', (Itr lo n).yld i H x H' → g x σ H' fun σ2 H2 => tb { D with nx := N, ct := N, bk := D.nx } σ2 H2) := by
  refine ⟨fun i m σ H => m = n - i ∧ i ≤ n ∧ Pv i σ H, ⟨n, by simp, Nat.zero_le _, h0⟩, ?_⟩
  rintro i m σ H ⟨rfl, hi, p⟩
  by_cases hlt : i < n
  · refine .inr ⟨hlt, Pv (i + 1), fun σ' H' p' => ⟨n - (i + 1), by omega, rfl, hlt, p'⟩, fun x H' y => ?_⟩
    obtain ⟨e, y⟩ := y
    subst e y
    exact hs i σ _ hlt p
  · have e : i = n := by omega
    subst e
    exact .inl ⟨Nat.le_refl _, hd σ H p⟩
end L2

namespace L2
open PySem PySem.Spec PyProof.Rows

abbrev R2 := V → V → Hp → VK → Prop
/-- a two-place operation on values: f is binaryOp op, inplaceOp op or compareOp op -/
def OpR (X : Cx) (f : Value → Value → Sem Value) (r : R2) : Prop :=
  ∀ (pins : List (Addr × Obj)) (s : Shared) (σ : St) (H : Hp) (x y : V) (v u : Value) (Q : VK), Inv X pins σ H s → RelV x v → RelV y u → r x y H Q →
    wpAny (model X.prog X.w) X.A (f v u) (EP X pins σ Q) X.xe s
/-- a call of a value that is known (a builtin, a type) with values -/
def CallR (X : Cx) (f : Value) (r : List V → Hp → VK → Prop) : Prop :=
  ∀ (pins : List (Addr × Obj)) (s : Shared) (σ : St) (H : Hp) (xs : List V) (us : List Value) (Q : VK), Inv X pins σ H s → Vals xs us → r xs H Q →
    wpAny (model X.prog X.w) X.A (call f us) (EP X pins σ Q) X.xe s
def tOp (r : R2) (ta tb : TE) : TE := fun σ H Q => ta σ H fun x H1 => tb σ H1 fun y H2 => r x y H2 Q
/-- ints in, under C, and a value out -/
def rI (C : Int → Int → Prop) (g : Int → Int → V) : R2 := fun x y H Q => ∃ i j, x = .int i ∧ y = .int j ∧ C i j ∧ Q (g i j) H
def rI0 (g : Int → Int → V) : R2 := fun x y H Q => ∃ i j, x = .int i ∧ y = .int j ∧ Q (g i j) H
section
variable {X : Cx} {a b c : Expr} {ta tb tc : TE} {pos : Pos}

theorem binT (ha : PE X a ta) (hb : PE X b tb) {pins : List (Addr × Obj)} {s : Shared} {σ : St} {H : Hp} {R : V → V → Hp → Prop} (I : Inv X pins σ H s)
    (h : ta σ H fun x H1 => tb σ H1 fun y H2 => R x y H2) {Q : Value → Shared → Prop} {f : Value → Value → Sem Value}
    (hf : ∀ v u s2 x y H2, Inv X pins σ H2 s2 → RelV x v → RelV y u → R x y H2 → wpAny (model X.prog X.w) X.A (f v u) Q X.xe s2) :
    wpAny (model X.prog X.w) X.A (eval a X.env) (fun v s₁ => wpAny (model X.prog X.w) X.A (eval b X.env) (fun u s₂ => wpAny (model X.prog X.w) X.A (f v u) Q X.xe s₂) X.xe s₁) X.xe s := by
  refine thn (ha pins s σ H _ I h) fun v s1 ⟨x, H1, I1, r1, q1⟩ => ?_
  refine thn (hb pins s1 σ H1 _ I1 q1) fun u s2 ⟨y, H2, I2, r2, q2⟩ => ?_
  exact hf v u s2 x y H2 I2 r1 r2 q2

theorem pe_op {op : Operator} {r : R2} (ho : OpR X (binaryOp op) r) (ha : PE X a ta) (hb : PE X b tb) : PE X (.BinOp a op b pos) (tOp r ta tb) := by
  intro pins s σ H Q I h
  exact wpAny_BinOp (binT ha hb I h fun v u s2 x y H2 I2 rx ry q => ho pins s2 σ H2 x y v u Q I2 rx ry q)
/-! ### ints -/
theorem opI {f : Value → Value → Sem Value} {C : Int → Int → Prop} {g : Int → Int → Int}
    (rule : ∀ (i j : Int) (t u : Tok) (s : Shared) (Q : Value → Shared → Prop) (E : Value → Shared → Prop), C i j → Q (.int (g i j) s.toks) { s with toks := s.toks + 1 } → wpAny (model X.prog X.w) X.A (f (.int i t) (.int j u)) Q E s) :
    OpR X f (rI C fun i j => .int (g i j)) := by
  intro pins s σ H x y v u Q I rx ry h
  obtain ⟨i, j, rfl, rfl, hc, q⟩ := h
  obtain ⟨t, rfl⟩ := rx
  obtain ⟨t', rfl⟩ := ry
  exact rule i j t t' s _ _ hc ⟨.int (g i j), H, I.tok _, ⟨_, rfl⟩, q⟩
theorem opI0 {f : Value → Value → Sem Value} {g : Int → Int → Int}
    (rule : ∀ (i j : Int) (t u : Tok) (s : Shared) (Q : Value → Shared → Prop) (E : Value → Shared → Prop), Q (.int (g i j) s.toks) { s with toks := s.toks + 1 } → wpAny (model X.prog X.w) X.A (f (.int i t) (.int j u)) Q E s) :
    OpR X f (rI0 fun i j => .int (g i j)) := by
  intro pins s σ H x y v u Q I rx ry h
  obtain ⟨i, j, rfl, rfl, q⟩ := h
  obtain ⟨t, rfl⟩ := rx
  obtain ⟨t', rfl⟩ := ry
  exact rule i j t t' s _ _ ⟨.int (g i j), H, I.tok _, ⟨_, rfl⟩, q⟩
theorem opB0 {f : Value → Value → Sem Value} {g : Int → Int → Bool}
    (rule : ∀ (i j : Int) (t u : Tok) (s : Shared) (Q : Value → Shared → Prop) (E : Value → Shared → Prop), Q (.bool (g i j)) s → wpAny (model X.prog X.w) X.A (f (.int i t) (.int j u)) Q E s) :
    OpR X f (rI0 fun i j => .bl (g i j)) := by
  intro pins s σ H x y v u Q I rx ry h
  obtain ⟨i, j, rfl, rfl, q⟩ := h
  obtain ⟨t, rfl⟩ := rx
  obtain ⟨t', rfl⟩ := ry
  exact rule i j t t' s _ _ ⟨.bl (g i j), H, I, rfl, q⟩

def CPow (i j : Int) : Prop := 0 ≤ j ∧ j ≤ 1000000 ∧ i.natAbs < 2 ^ 64
def CMul (i j : Int) : Prop := (-(2 ^ 64) < i ∧ i < 2 ^ 64) ∨ (-(2 ^ 64) < j ∧ j < 2 ^ 64)
theorem CMul.ok {i j : Int} (h : CMul i j) : IntMulOk i j := by
  rcases h with ⟨h1, h2⟩ | ⟨h1, h2⟩
  · exact .of_left (intBits_le_64 h1 h2)
  · exact .of_right (intBits_le_64 h1 h2)
theorem op_add : OpR X (binaryOp .Add) (rI0 fun i j => .int (i + j)) := opI0 fun _ _ _ _ _ _ _ q => add_int q
theorem op_sub : OpR X (binaryOp .Sub) (rI0 fun i j => .int (i - j)) := opI0 fun _ _ _ _ _ _ _ q => sub_int q
theorem op_mul : OpR X (binaryOp .Mult) (rI CMul fun i j => .int (i * j)) := opI fun _ _ _ _ _ _ _ hc q => mul_int q hc.ok
/-- % by a positive divisor of any size -/
theorem op_mod : OpR X (binaryOp .Mod) (rI (fun _ j => 0 < j) fun i j => .int (i % j)) := opI fun i j _ _ _ _ _ hc q => by
  have h1 : (0 : Int) < j := hc
  exact mod_int' (by omega) (by rw [Int.fmod_eq_emod_of_nonneg i (by omega)]; exact q)
theorem op_pow : OpR X (binaryOp .Pow) (rI CPow fun i j => .int (i ^ j.toNat)) := opI fun _ _ _ _ _ _ _ hc q => pow_int_small hc.1 hc.2.1 hc.2.2 q
/-! ### bools among ints: n += (a < b) -/
end

/-! ### comparisons -/
/-- the scalars that == tells apart as data does -/
def scal : V → V → Bool
  | .non, .non => true | .non, .int _ => true | .int _, .non => true | .non, .bl _ => true | .bl _, .non => true | .non, .str _ => true | .str _, .non => true
  | .int _, .int _ => true | .bl _, .bl _ => true | .str _, .str _ => true | .byt _, .byt _ => true
  | .int _, .str _ => true | .str _, .int _ => true | .bl _, .str _ => true | .str _, .bl _ => true
  | _, _ => false
def rEq : R2 := fun x y H Q => scal x y = true ∧ Q (.bl (decide (x = y))) H
def rNe : R2 := fun x y H Q => scal x y = true ∧ Q (.bl (!decide (x = y))) H

theorem dec_int {i j : Int} : decide (V.int i = V.int j) = (i == j) := by
  rw [Bool.eq_iff_iff]
  simp
theorem dec_bl {i j : Bool} : decide (V.bl i = V.bl j) = (i == j) := by
  rw [Bool.eq_iff_iff]
  simp
theorem dec_str {i j : Str} : decide (V.str i = V.str j) = (i == j) := by
  rw [Bool.eq_iff_iff]
  simp
theorem dec_byt {i j : Array UInt8} : decide (V.byt i = V.byt j) = (i.toList == j.toList) := by
  rw [Bool.eq_iff_iff]
  cases i
  cases j
  simp

section
variable {X : Cx} {a b c : Expr} {ta tb tc : TE} {pos : Pos}
theorem fin_bl {pins : List (Addr × Obj)} {σ : St} {H : Hp} {s : Shared} {Q : VK} {k k' : Bool} (I : Inv X pins σ H s) (q : Q (.bl k) H) (e : k = k') : EP X pins σ Q (.bool k') s := by
  subst e
  exact ⟨.bl k, H, I, rfl, q⟩
theorem op_eq : OpR X (compareOp .Eq) rEq := by
  intro pins s σ H x y v u Q I rx ry h
  obtain ⟨hs, q⟩ := h
  cases x with
  | non =>
    cases rx
    cases y with
    | non => cases ry; exact PySem.EqNone.eq_none_none (fin_bl I q (by simp))
    | bl j => cases ry; exact PySem.EqNone.eq_none_bool (fin_bl I q (by simp))
    | int j => obtain ⟨t', rfl⟩ := ry; exact PySem.EqNone.eq_none_int (fin_bl I q (by simp))
    | str j => obtain ⟨t', rfl⟩ := ry; exact PySem.EqNone.eq_none_str (fin_bl I q (by simp))
    | _ => exact absurd (show false = true from hs) Bool.false_ne_true
  | bl i =>
    cases rx
    cases y with
    | non => cases ry; exact PySem.EqNone.eq_bool_none (fin_bl I q (by simp))
    | bl j => cases ry; exact eq_bool (fin_bl I q dec_bl)
    | str j => obtain ⟨t', rfl⟩ := ry; exact PySem.EqMixed.eq_bool_str (fin_bl I q (by simp))
    | _ => exact absurd (show false = true from hs) Bool.false_ne_true
  | int i =>
    obtain ⟨t, rfl⟩ := rx
    cases y with
    | non => cases ry; exact PySem.EqNone.eq_int_none (fin_bl I q (by simp))
    | int j => obtain ⟨t', rfl⟩ := ry; exact eq_int (fin_bl I q dec_int)
    | str j => obtain ⟨t', rfl⟩ := ry; exact PySem.EqMixed.eq_int_str (fin_bl I q (by simp))
    | _ => exact absurd (show false = true from hs) Bool.false_ne_true
  | str i =>
    obtain ⟨t, rfl⟩ := rx
    cases y with
    | non => cases ry; exact PySem.EqNone.eq_str_none (fin_bl I q (by simp))
    | bl j => cases ry; exact PySem.EqMixed.eq_str_bool (fin_bl I q (by simp))
    | int j => obtain ⟨t', rfl⟩ := ry; exact PySem.EqMixed.eq_str_int (fin_bl I q (by simp))
    | str j => obtain ⟨t', rfl⟩ := ry; exact eq_str (fin_bl I q dec_str)
    | _ => exact absurd (show false = true from hs) Bool.false_ne_true
  | byt i =>
    obtain ⟨t, rfl⟩ := rx
    cases y with
    | byt j => obtain ⟨t', rfl⟩ := ry; exact PySem.W.eq_bytes (fin_bl I q dec_byt)
    | _ => exact absurd (show false = true from hs) Bool.false_ne_true
  | _ => cases y <;> exact absurd (show false = true from hs) Bool.false_ne_true
theorem op_ne : OpR X (compareOp .NotEq) rNe := by
  intro pins s σ H x y v u Q I rx ry h
  obtain ⟨hs, q⟩ := h
  cases x with
  | non =>
    cases rx
    cases y with
    | non => cases ry; exact PySem.EqNone.ne_none_none (fin_bl I q (by simp))
    | bl j => cases ry; exact PySem.EqNone.ne_none_bool (fin_bl I q (by simp))
    | int j => obtain ⟨t', rfl⟩ := ry; exact PySem.EqNone.ne_none_int (fin_bl I q (by simp))
    | str j => obtain ⟨t', rfl⟩ := ry; exact PySem.EqNone.ne_none_str (fin_bl I q (by simp))
    | _ => exact absurd (show false = true from hs) Bool.false_ne_true
  | bl i =>
    cases rx
    cases y with
    | non => cases ry; exact PySem.EqNone.ne_bool_none (fin_bl I q (by simp))
    | bl j => cases ry; exact ne_bool (fin_bl I q (congrArg not dec_bl))
    | str j => obtain ⟨t', rfl⟩ := ry; exact PySem.EqMixed.ne_bool_str (fin_bl I q (by simp))
    | _ => exact absurd (show false = true from hs) Bool.false_ne_true
  | int i =>
    obtain ⟨t, rfl⟩ := rx
    cases y with
    | non => cases ry; exact PySem.EqNone.ne_int_none (fin_bl I q (by simp))
    | int j => obtain ⟨t', rfl⟩ := ry; exact ne_int (fin_bl I q (congrArg not dec_int))
    | str j => obtain ⟨t', rfl⟩ := ry; exact PySem.EqMixed.ne_int_str (fin_bl I q (by simp))
    | _ => exact absurd (show false = true from hs) Bool.false_ne_true
  | str i =>
    obtain ⟨t, rfl⟩ := rx
    cases y with
    | non => cases ry; exact PySem.EqNone.ne_str_none (fin_bl I q (by simp))
    | bl j => cases ry; exact PySem.EqMixed.ne_str_bool (fin_bl I q (by simp))
    | int j => obtain ⟨t', rfl⟩ := ry; exact PySem.EqMixed.ne_str_int (fin_bl I q (by simp))
    | str j => obtain ⟨t', rfl⟩ := ry; exact ne_str (fin_bl I q (congrArg not dec_str))
    | _ => exact absurd (show false = true from hs) Bool.false_ne_true
  | byt i =>
    obtain ⟨t, rfl⟩ := rx
    cases y with
    | byt j => obtain ⟨t', rfl⟩ := ry; exact PySem.W.ne_bytes (fin_bl I q (congrArg not dec_byt))
    | _ => exact absurd (show false = true from hs) Bool.false_ne_true
  | _ => cases y <;> exact absurd (show false = true from hs) Bool.false_ne_true

theorem op_lt : OpR X (compareOp .Lt) (rI0 fun i j => .bl (decide (i < j))) := opB0 fun _ _ _ _ _ _ _ q => lt_int q
theorem op_gt : OpR X (compareOp .Gt) (rI0 fun i j => .bl (decide (j < i))) := opB0 fun _ _ _ _ _ _ _ q => gt_int q
theorem op_ge : OpR X (compareOp .GtE) (rI0 fun i j => .bl (decide (j ≤ i))) := opB0 fun _ _ _ _ _ _ _ q => ge_int q
/-- two rules for one operation: by cases -/
theorem OpR.or {f : Value → Value → Sem Value} {r r' : R2} (h : OpR X f r) (h' : OpR X f r') : OpR X f (fun x y H Q => r x y H Q ∨ r' x y H Q) := by
  intro pins s σ H x y v u Q I rx ry q
  rcases q with q | q
  · exact h pins s σ H x y v u Q I rx ry q
  · exact h' pins s σ H x y v u Q I rx ry q

theorem nomark (b : Expr) {op : CmpOp} (h : op ≠ .In := by decide) (h2 : op ≠ .NotIn := by decide) : behindInMarks op b = false := by
  have e1 : (op == CmpOp.In) = false := by cases op <;> first | rfl | exact absurd rfl h
  have e2 : (op == CmpOp.NotIn) = false := by cases op <;> first | rfl | exact absurd rfl h2
  cases b <;> simp [behindInMarks, e1, e2]
/-- a comparison as a value; hm: nomark b, or (for in, not in) by with_unfolding_all rfl -/
theorem pe_cmpR {op : CmpOp} {r : R2} (ho : OpR X (compareOp op) r) (ha : PE X a ta) (hb : PE X b tb) (hm : behindInMarks op b = false) : PE X (.Compare a [op] [b] pos) (tOp r ta tb) := by
  intro pins s σ H Q I h
  exact wpAny_Compare1 (binT ha hb I h fun v u s2 x y H2 I2 rx ry q => ho pins s2 σ H2 x y v u Q I2 rx ry q) hm
/-- a reading of a value as a test -/
def tTest (t : TE) : TT := fun σ H Q => t σ H fun x H' => ∃ k, x = .bl k ∧ Q k H'
theorem pt_cmpR {op : CmpOp} {r : R2} (ho : OpR X (compareOp op) r) (ha : PE X a ta) (hb : PE X b tb) (hm : behindInMarks op b = false) : PT X (.Compare a [op] [b] pos) (tTest (tOp r ta tb)) := by
  intro pins s σ H Q I h
  refine wpAny_isTrue_Compare1 (thn (ha pins s σ H _ I h) fun v s1 ⟨x, H1, I1, r1, q1⟩ => thn (hb pins s1 σ H1 _ I1 q1) fun u s2 ⟨y, H2, I2, r2, q2⟩ =>
    thn (ho pins s2 σ H2 x y v u _ I2 r1 r2 q2) fun c s3 ⟨z, H3, I3, r3, k, e, q3⟩ => ?_) hm
  subst e
  cases r3
  exact wpAny_truthy_bool ⟨H3, I3, q3⟩
/-! ### truth -/
theorem line63 : (sizeLine : Nat) < 2 ^ 63 := by rw [sizeLine_eq]; decide
/-! ### strs and bytes -/
/-! ### scalar builtins, by CallR -/
theorem vals1 {x : V} {us : List Value} (r : Vals [x] us) : ∃ u, us = [u] ∧ RelV x u := by
  cases r with
  | cons r1 r2 => cases r2; exact ⟨_, rfl, r1⟩
theorem vals2 {x y : V} {us : List Value} (r : Vals [x, y] us) : ∃ u w', us = [u, w'] ∧ RelV x u ∧ RelV y w' := by
  cases r with
  | cons r1 r2 =>
    cases r2 with
    | cons r3 r4 => cases r4; exact ⟨_, _, rfl, r1, r3⟩
theorem call_max2 (hc : X.calm = true) : CallR X (.builtin "max") (fun xs H Q => ∃ i j, xs = [.int i, .int j] ∧ Q (.int (if j > i then j else i)) H) := by
  intro pins s σ H xs us Q I r h
  obtain ⟨i, j, rfl, q⟩ := h
  obtain ⟨u, w', rfl, ⟨t, rfl⟩, ⟨t', rfl⟩⟩ := vals2 r
  refine max_two_ints (I.ok.hd hc) fun h' tk k => ⟨_, H, I.kept k, ?_, q⟩
  by_cases hj : j > i
  · rw [if_pos hj, if_pos hj]; exact ⟨_, rfl⟩
  · rw [if_neg hj, if_neg hj]; exact ⟨_, rfl⟩
theorem call_int1 : CallR X (.type "int") (fun xs H Q => (∃ i, xs = [.int i] ∧ Q (.int i) H) ∨ ∃ k, xs = [.bl k] ∧ Q (.int (if k then 1 else 0)) H) := by
  intro pins s σ H xs us Q I r h
  rcases h with ⟨i, rfl, q⟩ | ⟨k, rfl, q⟩
  · obtain ⟨u, rfl, t, rfl⟩ := vals1 r
    exact call_int_int ⟨.int i, H, I, ⟨_, rfl⟩, q⟩
  · obtain ⟨u, rfl, r1⟩ := vals1 r
    cases r1
    exact call_int_bool ⟨.int (if k then 1 else 0), H, I.tok _, ⟨_, rfl⟩, q⟩
end
end L2

namespace L2
open PySem PySem.Spec PyProof.Rows

/-! ### an instance, its attributes a map -/
structure ObjM (h : Heap) (x dx C : Addr) (mA : Str → Option Value) : Prop where
  obj : h.get? x = some (PySem.W.instObj C dx)
  ns : h.Ns1 dx mA
  ne : dx ≠ x

section
variable {prog : Program} {w : World} {A : Around} {E : Value → Shared → Prop} {s : Shared} {K : PySem.W.Frag} {x dx C f : Addr} {mA : Str → Option Value} {name : Str} {v : Value}

end

/-! ### the attributes as a list of pairs -/
theorem RelO.some_of {v : V} {o : Option Value} (r : RelO (some v) o) : ∃ u, o = some u ∧ RelV v u := by
  cases o with
  | none => exact (show False from r).elim
  | some u => exact ⟨u, rfl, r⟩
section
variable {P : Program} {w : World} {H H' : Hp} {h h' : Heap} {a C dx : Addr} {fs fs' : List (Str × V)}
end

/-! ### what of the text a class must have -/
structure Cls (K : PySem.W.Frag) (C : Addr) : Prop where
  pg : PySem.W.plainGet K C Str.empty = true
  hd : PySem.W.hasDictIn K C = true
  po : PySem.W.plainOver K C = true
  sa : PySem.W.findIn K (.ref C) "__setattr__" = some (some (.builtin "object.__setattr__"))
theorem Cls.get {K : PySem.W.Frag} {C : Addr} (c : Cls K C) (f : Str) : PySem.W.plainGet K C f = true := c.pg
/-- a constant of the class -/
structure Con (K : PySem.W.Frag) (C : Addr) (f : Str) (v : V) (u : Value) : Prop where
  at_ : PySem.W.findIn K (.ref C) f = some (some u)
  rel : RelV v u
  get : PySem.W.specialIn K u "__get__" = some none
  cp : PySem.W.copiedNames.contains f = false
/-- a method: a plain def of the class or of one above it -/
structure Meth (K : PySem.W.Frag) (C : Addr) (m : Str) (f : Addr) : Prop where
  at_ : PySem.W.findIn K (.ref C) m = some (some (.ref f))
  fn : PySem.W.isFn K (.ref f) = true
  kp : PySem.W.keepIn K (.ref f) = true

section
variable {X : Cx} {pins : List (Addr × Obj)} {σ : St} {H : Hp} {s : Shared} {a C dx : Addr} {fs : List (Str × V)} {f : Str} {v : V} {A : Around} {E : Value → Shared → Prop}

/-- a new instance, tracked, without attributes -/
theorem Inv.made (I : Inv X pins σ H s) : Inv X pins σ (upd (upd H s.heap.objs.size (.own (s.heap.objs.size + 1))) (s.heap.objs.size + 1) (.ins C s.heap.objs.size []))
    { s with heap := (s.heap.push PySem.W.emptyDict).push (PySem.W.instObj C s.heap.objs.size) } := by
  have e1 : (s.heap.push PySem.W.emptyDict).get? s.heap.objs.size = some PySem.W.emptyDict := Heap.get?_push_size s.heap rfl
  have e2 : ((s.heap.push PySem.W.emptyDict).push (PySem.W.instObj C s.heap.objs.size)).get? (s.heap.objs.size + 1) = some (PySem.W.instObj C s.heap.objs.size) := by
    have := Heap.get?_push_size (s.heap.push PySem.W.emptyDict) (o := PySem.W.instObj C s.heap.objs.size) rfl
    rwa [Heap.size_push] at this
  have e3 : (s.heap.push PySem.W.emptyDict).Ns s.heap.objs.size (fun _ => none) := ⟨PySem.W.emptyDict, #[], _, e1, rfl, (fun e he => absurd he (by simp)), fun _ => rfl⟩
  have I1 := I.laid (a := s.heap.objs.size) (o := .own (s.heap.objs.size + 1)) (h' := s.heap.push PySem.W.emptyDict) (t' := s.toks) (fun b u q => Heap.get?_push_of_some _ q) (Nat.le_refl _) ⟨_, e1⟩
  refine I1.laid (a := s.heap.objs.size + 1) (o := .ins C s.heap.objs.size []) (t' := s.toks) (fun b u q => Heap.get?_push_of_some _ q) (Nat.le_of_eq (Heap.size_push _ _)) ?_
  have ne : s.heap.objs.size ≠ s.heap.objs.size + 1 := Nat.ne_of_lt (Nat.lt_succ_self _)
  refine ⟨by rw [upd_ne ne, upd_same], Nat.zero_le _, ne, e2, fun _ => none, (Heap.Ns1.of_empty e3).at fun o q => Heap.get?_push_of_some _ q, fun _ => True.intro, fun y hy => absurd rfl hy⟩

end

/-! ### readings and rules -/
section
variable {X : Cx} {o e value : Expr} {f : Str} {pos pos' tpos : Pos} {ta tv : TE}
end

/-! ### isinstance -/
section
variable {X : Cx} {pins : List (Addr × Obj)} {σ : St} {H : Hp} {s : Shared} {A : Around} {E : Value → Shared → Prop} {Q : Value → Shared → Prop} {c : Value} {b : Bool}
/-- the type of a value, as the fragment's deciders take it; for an instance its class -/
inductive TyOf (K : PySem.W.Frag) (H : Hp) : V → Value → Prop where
  | non : TyOf K H .non (.type "NoneType")
  | bl (x : Bool) : TyOf K H (.bl x) (.type "bool")
  | int (i : Int) : TyOf K H (.int i) (.type "int")
  | str (x : Str) : TyOf K H (.str x) (.type "str")
  | flt (x : UInt64) : TyOf K H (.flt x) (.type "float")
  | lst {a : Addr} {xs : List V} (e : H a = some (.lst xs)) : TyOf K H (.ref a) (.type "list")
  | frz {a : Addr} {o : Obj} {xs : List V} (e : H a = some (.frz o (.lst xs))) : TyOf K H (.ref a) (.type "list")
  | tup {a : Addr} {xs : List V} (e : H a = some (.tup xs)) : TyOf K H (.ref a) (.type "tuple")
  | dK {a : Addr} {kvs : List (Key × V)} (e : H a = some (.dK kvs)) : TyOf K H (.ref a) (.type "dict")
  | dT {a : Addr} {kvs : List (List Key × V)} (e : H a = some (.dT kvs)) : TyOf K H (.ref a) (.type "dict")
  | ins {a C dx : Addr} {fs : List (Str × V)} (e : H a = some (.ins C dx fs)) (cl : Cls K C) (ha : PySem.W.findIn K (.ref C) "__class__" = some (some (.builtin "object.__class__")))
      (hn : PySem.W.specialIn K (.builtin "object.__class__") "__get__" = some (some (.builtin "getset_descriptor.__get__"))) (htk : PySem.W.takesIn K (.builtin "object.__class__") = some true)
      (hm : PySem.W.mroIn K C (.type "object") = some true) : TyOf K H (.ref a) (.ref C)
end
end L2

namespace L2
open PySem PySem.Spec PyProof.Rows

/-! ### room -/
structure Room (k : Nat) (A : Around) : Prop where
  hd : A.handled = none
  dp : A.depth + 3 * k + 5 < recursionLimit
  un : A.units + 16 * k + 200 < cLine
  gd : A.guards = some []
theorem Room.mono {j k : Nat} {A : Around} (r : Room k A) (h : j ≤ k) : Room j A := ⟨r.hd, by have := r.dp; omega, by have := r.un; omega, r.gd⟩
theorem Room.deeper {k : Nat} {A : Around} (r : Room (k + 1) A) (env : Env) : Room k (A.deeper env) :=
  ⟨r.hd, by have := r.dp; show A.depth + 1 + 3 * k + 5 < _; omega, by have := r.un; show A.units + 3 + 16 * k + 200 < _; omega, r.gd⟩
theorem Room.in1 {k : Nat} {A : Around} (r : Room (k + 1) A) : Room k A.in1 :=
  ⟨r.hd, by have := r.dp; show A.depth + 3 * k + 5 < _; omega, by have := r.un; show A.units + 1 + 16 * k + 200 < _; omega, r.gd⟩
theorem Room.depth {k : Nat} {A : Around} (r : Room k A) : A.depth < recursionLimit := by have := r.dp; omega
theorem Room.units {k : Nat} {A : Around} (r : Room k A) : A.units + 64 < cLine := by have := r.un; omega
/-! ### argument lists and displays -/
def tNil : TA := fun _ H Q => Q [] H
def tCons (ta : TE) (tr : TA) : TA := fun σ H Q => ta σ H fun x H1 => tr σ H1 fun xs H2 => Q (x :: xs) H2
section
variable {X : Cx} {e : Expr} {es : List Expr} {te : TE} {t : TA} {pos : Pos}
theorem pa_nil : PA X [] tNil := fun _ _ _ _ H Q I h => Calls.spliced_nil ⟨[], H, I, .nil, h⟩
theorem pa_cons (ha : PE X e te) (hr : PA X es t) (hs : starEach (e :: es) X.env = (false, eval e X.env) :: starEach es X.env := by rfl) : PA X (e :: es) (tCons te t) := by
  intro pos pins s σ H Q I h
  rw [hs]
  show wpAny _ _ (spliced ((false, eval e X.env) :: backTo pos (starEach es X.env))) _ _ s
  refine Calls.spliced_cons (thn (ha pins s σ H _ I h) fun u s1 ⟨x, H1, I1, r1, q1⟩ => ?_)
  exact thn (hr pos pins s1 σ H1 _ I1 q1) fun us s2 ⟨xs, H2, I2, r2, q2⟩ => ⟨x :: xs, H2, I2, .cons r1 r2, q2⟩

/-- a tuple, a list of written items -/
def tTup (t : TA) : TE := fun σ H Q => t σ H fun xs H1 => xs.length ≤ sizeLine ∧ ∀ p, H1 p = none → Q (.ref p) (upd H1 p (.tup xs))
def tLst (t : TA) : TE := fun σ H Q => t σ H fun xs H1 => xs.length ≤ sizeLine ∧ ∀ p, H1 p = none → Q (.ref p) (upd H1 p (.lst xs))
theorem pe_tup {x1} (h : PA X es t) : PE X (.Tuple es x1 pos) (tTup t) := by
  intro pins s σ H Q I hq
  refine wpAny_Tuple_spliced (thn (h pos pins s σ H _ I hq) fun us s1 ⟨xs, H1, I1, r, z, q⟩ => ⟨by rw [← r.length]; exact z, ?_⟩)
  have hf : H1 s1.heap.objs.size = none := I1.hok.fresh (Nat.le_refl _)
  refine ⟨.ref s1.heap.objs.size, upd H1 s1.heap.objs.size (.tup xs), I1.laid (t' := s1.toks) (fun b u e => Heap.get?_push_of_some _ e) (Nat.le_refl _) ?_, rfl, q _ hf⟩
  exact ⟨z, us, r, ⟨_, Heap.get?_push_size _ rfl, rfl, _, rfl, rfl⟩⟩
theorem pe_lst (h : PA X es t) : PE X (.List es pos) (tLst t) := by
  intro pins s σ H Q I hq
  refine wpAny_List_spliced (thn (h pos pins s σ H _ I hq) fun us s1 ⟨xs, H1, I1, r, z, q⟩ => ⟨by rw [← r.length]; exact z, ?_⟩)
  have hf : H1 s1.heap.objs.size = none := I1.hok.fresh (Nat.le_refl _)
  refine ⟨.ref s1.heap.objs.size, upd H1 s1.heap.objs.size (.lst xs), I1.laid (t' := s1.toks) (fun b u e => Heap.get?_push_of_some _ e) (Nat.le_refl _) ?_, rfl, q _ hf⟩
  exact ⟨z, us, 0, r, Heap.get?_push_size _ rfl⟩
end

/-! ### what a def promises -/
/-- a def's promise: the bound arguments in the parameters' order, the heap, the wanted end, the wanted exception -/
abbrev Sp := List V → Hp → VK → XK → Prop
/-- how an exception lies behind a call (file 08 gives it): the callers' frames, abstract heap and state ahead of the call, the wish, the exception, the state -/
abbrev CXT := List Env → Hp → Shared → XK → Value → Shared → Prop

/-- the state at a call -/
structure Env0 (P : Program) (w : World) (K : PySem.W.Frag) (mg : Str → Option Value) (base : Heap) (A : Around) (outer : List Env) (s : Shared) (H : Hp) : Prop where
  frames : A.frames = some outer
  mod : Mod K mg base
  bs : ∀ b o, base.get? b = some o → s.heap.get? b = some o ∧ H b = none
  bsz : base.objs.size ≤ s.heap.objs.size
  funs : s.heap.FunFrames base outer
  frf : ∀ b ∈ frs outer, H b = none
  hok : HOk P w H s.heap
  bare : AllBare s.gens
/-- a call's end -/
def CE (outer : List Env) (P : Program) (w : World) (H : Hp) (s : Shared) (Q : VK) (u : Value) (s' : Shared) : Prop :=
  ∃ v H', s'.os = s.os ∧ AllBare s'.gens ∧ Un (frs outer) [] H H' s.heap s'.heap ∧ HOk P w H' s'.heap ∧ RelV v u ∧ Q v H'
def CR (CX : CXT) (outer : List Env) (P : Program) (w : World) (H : Hp) (s : Shared) (Q : VK) (E : XK) (r : Result) (s' : Shared) : Prop :=
  match r with
  | .ok (.ret u) => CE outer P w H s Q u s'
  | .ok _ => False
  | .error e => CX outer H s E e s'
structure FnOk (P : Program) (w : World) (K : PySem.W.Frag) (mg : Str → Option Value) (base : Heap) (CX : CXT) (k : Nat) (f : Addr) (fd : FuncData) (ps : List Str) (sp : Sp) : Prop where
  len : ∀ vs H Q E, sp vs H Q E → vs.length = ps.length
  run : ∀ (A : Around) (outer : List Env) (s : Shared) (H : Hp) (args : Args) (us : List Value) (vs : List V) (Q : VK) (E : XK), Room k A → Env0 P w K mg base A outer s H → BindsTo s fd args (ps.zip us) → Vals vs us → sp vs H Q E →
    codeAny (model P w) A (.call (.ref f) args) (CR CX outer P w H s Q E) s
theorem FnOk.mono {P : Program} {w : World} {K : PySem.W.Frag} {mg : Str → Option Value} {base : Heap} {CX : CXT} {j k : Nat} {f : Addr} {fd : FuncData} {ps : List Str} {sp : Sp} (F : FnOk P w K mg base CX j f fd ps sp) (h : j ≤ k) :
    FnOk P w K mg base CX k f fd ps sp := ⟨F.len, fun A outer s H args us vs Q E hr => F.run A outer s H args us vs Q E (hr.mono h)⟩
theorem Env0.in1 {P : Program} {w : World} {K : PySem.W.Frag} {mg : Str → Option Value} {base : Heap} {A : Around} {outer : List Env} {s : Shared} {H : Hp} (e : Env0 P w K mg base A outer s H) :
    Env0 P w K mg base A.in1 outer s H := ⟨e.frames, e.mod, e.bs, e.bsz, e.funs, e.frf, e.hok, e.bare⟩

section
variable {X : Cx} {pins : List (Addr × Obj)} {σ : St} {H : Hp} {s s' : Shared}
/-- from a body: what a callee wants -/
theorem Inv.env0 (I : Inv X pins σ H s) : Env0 X.prog X.w X.K X.mg X.base X.A X.stack s H :=
  ⟨I.ok.frames, I.ok.mod, I.bs, Nat.le_trans I.ok.bsz I.sz, I.stack, I.stkFree, I.hok, I.bare⟩
/-- behind a call -/
theorem Inv.after {Q : VK} {u : Value} (I : Inv X pins σ H s) (h : CE X.stack X.prog X.w H s Q u s') : EP X pins σ Q u s' := by
  obtain ⟨v, H', os, bare, un, hok, r, q⟩ := h
  obtain ⟨hh, g, d, t, os'⟩ := s'
  obtain rfl : os' = s.os := os
  exact ⟨v, H', I.call (h' := hh) (g' := g) (d' := d) (t' := t) (ch := []) un hok bare (fun b z => absurd z (by simp)), r, q⟩
end

/-! ### calls -/
/-- f(..): the written arguments, then the defaults dvs; E: what is wanted of an exception -/
def tCall (sp : Sp) (dvs : List V) (E : XK) (t : TA) : TE := fun σ H Q => t σ H fun vs H1 => sp (vs ++ dvs) H1 Q E
/-- how the parameters are bound: us the positional arguments, kw the keywords' values by name, ds the defaults that fill up -/
def Binds (K : PySem.W.Frag) (fd : FuncData) (ps : List Str) (ds : List Value) : Prop :=
  ∀ (s : Shared) (us : List Value), K.In s.heap → (us ++ ds).length = ps.length → BindsTo s fd ⟨us, []⟩ (ps.zip (us ++ ds))
/-- every parameter is given -/
theorem Binds.all {K : PySem.W.Frag} {fd : FuncData} {ps : List Str} (h : ∀ us : List Value, us.length = ps.length → bindArgs fd ⟨us, []⟩ = pure (ps.zip us)) : Binds K fd ps [] := fun s us _ hl => by
  rw [List.append_nil] at hl ⊢
  exact .of_eq (h us hl)

/-- an exception of a callee reaches what this body wants of exceptions -/
def Passes (CX : CXT) (X : Cx) (E : XK) : Prop := ∀ (pins : List (Addr × Obj)) (σ : St) (H : Hp) (s : Shared) (e : Value) (s' : Shared), Inv X pins σ H s → CX X.stack H s E e s' → X.xe e s'

section
variable {X : Cx} {CX : CXT} {k : Nat} {f C : Addr} {fd : FuncData} {ps : List Str} {sp : Sp} {dvs : List V} {ds : List Value} {E : XK} {x m : Str} {p pos apos : Pos} {e o : Expr} {es : List Expr} {ta : TE} {t : TA}

/-- the callee runs -/
theorem run_fn {pins : List (Addr × Obj)} {σ : St} {H : Hp} {s : Shared} {Q : VK} {us : List Value} {vs : List V} (F : FnOk X.prog X.w X.K X.mg X.base CX k f fd ps sp) (hr : Room k X.A) (hb : Binds X.K fd ps ds) (hd : Vals dvs ds) (hx : Passes CX X E)
    (I : Inv X pins σ H s) (r : Vals vs us) (h : sp (vs ++ dvs) H Q E) : wpAny (model X.prog X.w) X.A (call (.ref f) us) (EP X pins σ Q) X.xe s := by
  have r2 : Vals (vs ++ dvs) (us ++ ds) := r.append hd
  have hl : (us ++ ds).length = ps.length := by rw [← r2.length]; exact F.len _ _ _ _ h
  refine wpAny_call (codeAny_mono (F.run X.A X.stack s H ⟨us, []⟩ (us ++ ds) (vs ++ dvs) Q E hr I.env0 (hb s us I.kIn hl) r2 h) fun r s' hq => ?_)
  cases r with
  | error e => exact hx pins σ H s e s' I hq
  | ok fl =>
    cases fl with
    | ret u => exact I.after hq
    | next => exact False.elim hq
    | brk => exact False.elim hq
    | cont => exact False.elim hq

theorem pe_call (F : FnOk X.prog X.w X.K X.mg X.base CX k f fd ps sp) (hr : Room k X.A) (hg : Gl X x) (hm : X.mg x = some (.ref f)) (hk : PySem.W.keepIn X.K (.ref f) = true) (hb : Binds X.K fd ps ds) (hd : Vals dvs ds) (hx : Passes CX X E)
    (ha : PA X (e :: es) t) (hdb : (x == ("__debug__" : Str)) = false := by decide) (he : starEach (e :: es) X.env = (false, eval e X.env) :: starEach es X.env := by rfl) (hpl : (backTo pos (starEach es X.env)).any (·.1) = false := by rfl) :
    PE X (.Call (.Name x p) (e :: es) [] pos) (tCall sp dvs E t) := by
  intro pins s σ H Q I h
  refine wpAny_Call_Name_kw (ld_glob I hg hm ?_ hdb)
  refine PySem.W.callWith_K (h₀ := X.base) I.ok.mod.kin hk (thn (ha pos pins s σ H _ I h) fun us s1 ⟨vs, H1, I1, r, q⟩ => ⟨I1.kIn, ?_⟩) he hpl
  exact run_fn F hr hb hd hx I1 r q
/-- what a class must have to be made -/
structure Mk (K : PySem.W.Frag) (C f : Addr) : Prop where
  makes : PySem.W.makesIn K C = true
  init : PySem.W.findIn K (.ref C) "__init__" = some (some (.ref f))
  fn : PySem.W.isFn K (.ref f) = true
  kp : PySem.W.keepIn K (.ref C) = true

end

/-! ### keywords -/
section
variable {X : Cx} {CX : CXT} {k : Nat} {f C : Addr} {fd : FuncData} {ps ks : List Str} {sp : Sp} {E : XK} {x m : Str} {p pos apos kpos : Pos} {e o : Expr} {es : List Expr} {kws : List Keyword} {te ta : TE} {t tk : TA} {nm : Option Str}
/-- how a call with keywords binds: g puts the positional values us and the keywords' values ws (names ks) in the parameters' order, defaults among them -/
structure KBinds (K : PySem.W.Frag) (fd : FuncData) (ps ks : List Str) (g : List Value → List Value → List Value) (gV : List V → List V → List V) : Prop where
  to : ∀ (s : Shared) (us ws : List Value), K.In s.heap → (g us ws).length = ps.length → BindsTo s fd ⟨us, ks.zip ws⟩ (ps.zip (g us ws))
  rel : ∀ {vs : List V} {us : List Value} {zs : List V} {ws : List Value}, Vals vs us → Vals zs ws → Vals (gV vs zs) (g us ws)
variable {g : List Value → List Value → List Value} {gV : List V → List V → List V}
end

/-! ### a def's body keeps its promise -/
/-- names: the parameters first -/
structure FnScope (N P : List Str) (sc : Scope) : Prop where
  kind : sc.kind = .function
  co : sc.isCoroutine = false
  gen : sc.isGenerator = false
  nd : N.Nodup
  pre : N.take P.length = P
  par : ∀ x ∈ P, sc.names.lookup x = some .local ∨ sc.names.lookup x = some .cell
  nofree : ∀ y ∈ sc.names, y.2 ≠ .free

theorem bindL_out {kindOf : Str → Option NameKind} {x : Str} : ∀ {binds : List (Str × Value)} {m : Str → Option Value}, (∀ v, (x, v) ∉ binds) → bindL kindOf binds m x = m x
  | [], _, _ => rfl
  | (n, v) :: r, m, h => by
    unfold bindL
    rw [bindL_out fun w hw => h w (List.mem_cons_of_mem _ hw)]
    split
    · have : x ≠ n := by rintro rfl; exact h v List.mem_cons_self
      simp [this]
    · rfl
theorem bindC_out {kindOf : Str → Option NameKind} {x : Str} : ∀ {binds : List (Str × Value)} {m : Str → Option Value}, (∀ v, (x, v) ∉ binds) → bindC kindOf binds m x = m x
  | [], _, _ => rfl
  | (n, v) :: r, m, h => by
    unfold bindC
    rw [bindC_out fun w hw => h w (List.mem_cons_of_mem _ hw)]
    split
    · rfl
    · have : x ≠ n := by rintro rfl; exact h v List.mem_cons_self
      simp [this]
theorem bindL_get {kindOf : Str → Option NameKind} {x : Str} {v : Value} : ∀ {P : List Str} {vs : List Value} {i : Nat} {m : Str → Option Value}, P.Nodup → P[i]? = some x → vs[i]? = some v → kindOf x = some .local →
    bindL kindOf (P.zip vs) m x = some v
  | [], _, _, _, _, h, _, _ => by simp at h
  | _ :: _, [], _, _, _, _, h, _ => by simp at h
  | p :: P, w :: vs, 0, m, nd, h1, h2, hk => by
    simp at h1 h2; subst h1; subst h2
    show bindL kindOf ((p, w) :: P.zip vs) m p = _
    unfold bindL
    rw [bindL_out fun v hv => (List.nodup_cons.mp nd).1 (List.of_mem_zip hv).1, if_pos hk]
    simp
  | p :: P, w :: vs, i + 1, m, nd, h1, h2, hk => by
    show bindL kindOf ((p, w) :: P.zip vs) m x = _
    unfold bindL
    exact bindL_get (i := i) (List.nodup_cons.mp nd).2 (by simpa using h1) (by simpa using h2) hk
theorem bindC_get {kindOf : Str → Option NameKind} {x : Str} {v : Value} : ∀ {P : List Str} {vs : List Value} {i : Nat} {m : Str → Option Value}, P.Nodup → P[i]? = some x → vs[i]? = some v → kindOf x ≠ some .local →
    bindC kindOf (P.zip vs) m x = some v
  | [], _, _, _, _, h, _, _ => by simp at h
  | _ :: _, [], _, _, _, _, h, _ => by simp at h
  | p :: P, w :: vs, 0, m, nd, h1, h2, hk => by
    simp at h1 h2; subst h1; subst h2
    show bindC kindOf ((p, w) :: P.zip vs) m p = _
    unfold bindC
    rw [bindC_out fun v hv => (List.nodup_cons.mp nd).1 (List.of_mem_zip hv).1, if_neg hk]
    simp
  | p :: P, w :: vs, i + 1, m, nd, h1, h2, hk => by
    show bindC kindOf ((p, w) :: P.zip vs) m x = _
    unfold bindC
    exact bindC_get (i := i) (List.nodup_cons.mp nd).2 (by simpa using h1) (by simpa using h2) hk

/-- the names' values at the entry -/
def start (N : List Str) (vs : List V) : St := vs.map some ++ List.replicate (N.length - vs.length) none

/-- the context of a def's body, at its entry; an exception leaves the frame, then lies as CX says -/
def cxOf (CX : CXT) (P : Program) (w : World) (K : PySem.W.Frag) (mg : Str → Option Value) (base : Heap) (N : List Str) (qual : Str) (scope : Scope) (f : Addr) (cd : Value) (A : Around) (outer : List Env) (s : Shared) (H : Hp) (E : XK) : Cx where
  prog := P
  w := w
  K := K
  mg := mg
  base := base
  A := A.deeper (envOfC qual scope s.heap.objs.size f cd)
  N := N
  s₀ := s
  H₀ := H
  env := envOfC qual scope s.heap.objs.size f cd
  outer := outer
  stack := envOfC qual scope s.heap.objs.size f cd :: outer
  ex := []
  calm := true
  fn := fun _ => true
  pn := []
  xe := fun e s' => wpAny (model P w) (A.deeper (envOfC qual scope s.heap.objs.size f cd)) (leaving (envOfC qual scope s.heap.objs.size f cd) e) (fun _ s'' => CX outer H s E e s'') (fun e' s'' => CX outer H s E e' s'') s'

theorem cell_has {sc : Scope} {n : Nat} {x : Str} (h : sc.names.lookup x = some .cell) : ∃ c, (cellsFrom n sc.names []).lookup x = some c := by
  have q := PySem.W.cellsFrom_some sc.names n [] (.inl h)
  exact Option.isSome_iff_exists.mp q

theorem inv_start {CX : CXT} {P : Program} {w : World} {K : PySem.W.Frag} {mg : Str → Option Value} {base : Heap} {N ps : List Str} {qual : Str} {scope : Scope} {f : Addr} {cd : Value} {A : Around} {outer : List Env} {s s1 : Shared} {H : Hp} {E : XK} {us : List Value} {vs : List V}
    (S : FnScope N ps scope) (hd : A.handled = none) (e0 : Env0 P w K mg base A outer s H) (hl : vs.length = ps.length) (r : Vals vs us)
    (x : InCallC s s.heap.objs.size (bindL (envOfC qual scope s.heap.objs.size f cd).kindOf (ps.zip us) fun _ => none) (cellsFrom (s.heap.objs.size + 1) scope.names []) (bindC (envOfC qual scope s.heap.objs.size f cd).kindOf (ps.zip us) fun _ => none) s1) :
    Inv (cxOf CX P w K mg base N qual scope f cd A outer s H E) [] (start N vs) H s1 := by
  have hpl : ps.length ≤ N.length := by have := congrArg List.length S.pre; rw [List.length_take] at this; omega
  obtain ⟨h1, tk, rfl, hk⟩ := x.done
  have noA : ∀ b : Addr, b ∉ (cxOf CX P w K mg base N qual scope f cd A outer s H E).ex := fun b z => absurd (show b ∈ ([] : List Addr) from z) (by simp)
  refine ⟨⟨e0.mod, S.kind, rfl, rfl, Nat.le_refl _, fun y z c h1 h2 => ?_, fun y hy => ?_, fun y c _ h => ?_, fun _ => hd, Around.frames_deeper e0.frames, .inr ⟨rfl, rfl⟩, fun b z => absurd z (noA b), e0.bs, e0.bsz, fun b _ _ => noA b, fun b z => absurd z (noA b), e0.funs, e0.frf⟩,
    rfl, e0.bare, Un.kept hk, ⟨_, x.toInCall.ns, fun i y v h1 h2 h3 => ?_⟩, fun y c h => ⟨_, x.cell y c h⟩, e0.hok.fresh (Nat.le_refl _), fun y c h => ?_, fun p hp => absurd (show p ∈ ([] : List (Addr × Obj)) from hp) (by simp), e0.hok.kept hk, ?_⟩
  · exact name_of_addr x.apart (PySem.mem_of_lookup h1) (PySem.mem_of_lookup h2)
  · have hy : scope.names.lookup y = some .cell ∨ scope.names.lookup y = some .free := hy
    rcases hy with hy | hy
    · exact cell_has hy
    · exact absurd rfl (S.nofree _ (PySem.mem_of_lookup hy))
  · exact Nat.le_of_lt (x.above y c (PySem.mem_of_lookup h))
  · have hi : i < vs.length := by
      unfold start at h2
      by_cases hi : i < vs.length
      · exact hi
      · rw [List.getElem?_append_right (by simpa using hi)] at h2
        rw [List.getElem?_replicate] at h2
        split at h2 <;> cases h2
    have ha : vs[i]? = some v := by
      unfold start at h2
      rw [List.getElem?_append_left (by simpa using hi), List.getElem?_map] at h2
      cases e : vs[i]? with
      | none => rw [e] at h2; cases h2
      | some a => rw [e] at h2; cases h2; rfl
    obtain ⟨u, hu, rv⟩ := r.get ha
    have hp : ps[i]? = some y := by
      rw [← S.pre, List.getElem?_take_of_lt (by omega)]; exact h1
    have ndP : ps.Nodup := by rw [← S.pre]; exact S.nd.sublist (List.take_sublist _ _)
    refine ⟨u, rv, ?_⟩
    rcases S.par y (List.mem_of_getElem? hp) with k | k
    · exact .inl ⟨k, bindL_get ndP hp hu k⟩
    · obtain ⟨c, e⟩ := cell_has (n := s.heap.objs.size + 1) k
      refine .inr ⟨.inl k, c, e, ?_⟩
      have q := x.cell y c e
      rw [bindC_get ndP hp hu (by show scope.names.lookup y ≠ _; rw [k]; decide)] at q
      exact q
  · exact e0.hok.fresh (Nat.le_of_lt (x.above y c (PySem.mem_of_lookup h)))
  · unfold start
    show _ = N.length
    rw [List.length_append, List.length_map, List.length_replicate]
    omega

/-- THE RULE: a def (or a method) of the text, by its body. The body's reading t is chosen for each entry; it is run at the parameters' values -/
theorem fn_of {CX : CXT} {P : Program} {w : World} {K : PySem.W.Frag} {mg : Str → Option Value} {base : Heap} {k : Nat} {f : Addr} {name qual : Str} {params : Arguments} {body : List Stmt} {scope : Scope} {dV kV doc pm cdv ct oc : Value} {an od : Option Addr}
    {osl : Array (Option Value)} {N ps : List Str} {sp : Sp} (lk : K.lookup f = some ⟨oc, od, .func (PySem.W.fnOf name qual params body scope dV kV doc pm an cdv ct), osl⟩) (hcd : PySem.W.codeIn K cdv qual = true) (S : FnScope N ps scope)
    (len : ∀ vs H Q E, sp vs H Q E → vs.length = ps.length)
    (hbody : ∀ (A : Around) (outer : List Env) (s : Shared) (H : Hp) (vs : List V) (Q : VK) (E : XK), Room k (A.deeper (envOfC qual scope s.heap.objs.size f cdv)) → sp vs H Q E →
      ∃ t, PSs (cxOf CX P w K mg base N qual scope f cdv A outer s H E) body t ∧ t { nx := fun _ H' => Q .non H', rt := Q } (start N vs) H) :
    FnOk P w K mg base CX (k + 1) f (PySem.W.fnOf name qual params body scope dV kV doc pm an cdv ct) ps sp := by
  refine ⟨len, fun A outer s H args us vs Q E hr e0 hb r hsp => ?_⟩
  have hl := len _ _ _ _ hsp
  have KX : K.In s.heap := e0.mod.kin.keeps fun b o e => (e0.bs b o e).1
  have lim : s.heap.NoLimit := e0.mod.nolimit.keeps fun b o e => (e0.bs b o e).1
  have hkind : ∀ y ∈ ps.zip us, scope.names.lookup y.1 = some .local ∨ (scope.names.lookup y.1 = some .cell ∧ ((cellsFrom (s.heap.objs.size + 1) scope.names []).lookup y.1).isSome = true) := fun ⟨n, v⟩ hy => by
    rcases S.par n (List.of_mem_zip hy).1 with q | q
    · exact .inl q
    · exact .inr ⟨q, PySem.W.cellsFrom_some _ _ _ (.inl q)⟩
  refine codeAny_call_function hr.depth (KX _ _ lk) rfl S.co S.gen rfl (PySem.W.codeRec_of KX hcd) (hb _ _ _ _ ?_)
  refine wpAny_newFunctionEnv_cells S.kind hkind fun env he s1 x => ?_
  subst he
  refine ⟨lim.keeps x.toInCall.keep, codeAny_func ?_⟩
  obtain ⟨t, ht, hq⟩ := hbody A outer s H vs Q E (hr.deeper _) hsp
  have I : Inv (cxOf CX P w K mg base N qual scope f cdv A outer s H E) [] (start N vs) H s1 := inv_start S hr.hd e0 hl r x
  refine wpAny_mono (ht [] s1 (start N vs) H _ I hq) (fun fl s' hs => ?_) fun e s' hs => hs
  have fin : ∀ {σ' : St} {H' : Hp} {v : V} {u : Value}, Inv (cxOf CX P w K mg base N qual scope f cdv A outer s H E) [] σ' H' s' → RelV v u → Q v H' → CE outer P w H s Q u s' :=
    fun {σ' H' v u} J rv q => ⟨v, H', J.os, J.bare, J.base, J.hok, rv, q⟩
  cases fl with
  | ret u =>
    obtain ⟨v, σ', H', J, rv, q⟩ := hs
    exact fin J rv q
  | next =>
    obtain ⟨σ', H', J, q⟩ := hs
    exact fin (v := V.non) (u := Value.none) J rfl q
  | brk =>
    obtain ⟨_, _, _, q⟩ := hs
    exact False.elim q
  | cont =>
    obtain ⟨_, _, _, q⟩ := hs
    exact False.elim q
end L2

namespace L2
open PySem PySem.Spec PyProof.Rows
section
variable {X : Cx} {x : Str} {p pos : Pos} {e : Expr} {es : List Expr} {t : TA} {id T : String} {r : List V → Hp → VK → Prop}

def tCB (r : List V → Hp → VK → Prop) (t : TA) : TE := fun σ H Q => t σ H fun vs H1 => r vs H1 Q
/-- f(e, ..), f a built-in function -/
theorem pe_callB (hc : CallR X (.builtin id) r) (hg : Gl X x) (hm : X.mg x = none) (hv : bootBuiltins x = some (.builtin id)) (ha : PA X (e :: es) t) (hn : x ≠ "__name__" := by decide) (hdb : (x == ("__debug__" : Str)) = false := by decide)
    (he : starEach (e :: es) X.env = (false, eval e X.env) :: starEach es X.env := by rfl) (hpl : (backTo pos (starEach es X.env)).any (·.1) = false := by rfl) : PE X (.Call (.Name x p) (e :: es) [] pos) (tCB r t) := by
  intro pins s σ H Q I h
  refine wpAny_Call_Name_kw (ld_blt I hg hm hv ?_ hn hdb)
  exact PyProof.Rows.callWith_builtin1 (thn (ha pos pins s σ H _ I h) fun us s1 ⟨vs, H1, I1, r1, q1⟩ => hc pins s1 σ H1 vs us Q I1 r1 q1) he hpl
/-- T(e, ..), T a built-in type -/
theorem pe_callTy (hc : CallR X (.type T) r) (hg : Gl X x) (hm : X.mg x = none) (hv : bootBuiltins x = some (.type T)) (ha : PA X (e :: es) t) (hn : x ≠ "__name__" := by decide) (hdb : (x == ("__debug__" : Str)) = false := by decide)
    (he : starEach (e :: es) X.env = (false, eval e X.env) :: starEach es X.env := by rfl) (hpl : (backTo pos (starEach es X.env)).any (·.1) = false := by rfl) : PE X (.Call (.Name x p) (e :: es) [] pos) (tCB r t) := by
  intro pins s σ H Q I h
  refine wpAny_Call_Name_kw (ld_blt I hg hm hv ?_ hn hdb)
  exact PyProof.Rows.callWith_type1 (thn (ha pos pins s σ H _ I h) fun us s1 ⟨vs, H1, I1, r1, q1⟩ => hc pins s1 σ H1 vs us Q I1 r1 q1) he hpl
end
end L2

namespace L2
open PySem PySem.Spec PyProof.Rows

/-! ### lists of pairs as tables -/
section
variable {κ : Type} [DecidableEq κ]
def valV (kvs : List (κ × V)) (k : κ) : Option V := (kvs.find? fun kv => decide (kv.1 = k)).map (·.2)
/-- in its place, or at the end -/
def putK (kvs : List (κ × V)) (k : κ) (v : V) : List (κ × V) :=
  if (kvs.any fun kv => decide (kv.1 = k)) = true then kvs.map (fun kv => if kv.1 = k then (kv.1, v) else kv) else kvs ++ [(k, v)]
def dropK (kvs : List (κ × V)) (k : κ) : List (κ × V) := kvs.filter fun kv => decide (kv.1 ≠ k)

theorem valV_nil {k : κ} : valV ([] : List (κ × V)) k = none := rfl
theorem valV_pos {p : κ × V} {r : List (κ × V)} {k : κ} (e : p.1 = k) : valV (p :: r) k = some p.2 := by simp [valV, List.find?_cons, e]
theorem valV_neg {p : κ × V} {r : List (κ × V)} {k : κ} (e : ¬ p.1 = k) : valV (p :: r) k = valV r k := by simp [valV, List.find?_cons, e]
theorem valV_any (k : κ) : ∀ kvs : List (κ × V), (kvs.any fun kv => decide (kv.1 = k)) = (valV kvs k).isSome
  | [] => rfl
  | p :: r => by
    rw [List.any_cons]
    by_cases e : p.1 = k
    · simp only [valV_pos e, decide_eq_true e, Bool.true_or, Option.isSome_some]
    · rw [valV_neg e, decide_eq_false e, Bool.false_or]; exact valV_any k r
theorem valV_map (k j : κ) (y : V) : ∀ kvs : List (κ × V), valV (kvs.map fun kv => if kv.1 = k then (kv.1, y) else kv) j = (valV kvs j).map fun x => if j = k then y else x
  | [] => rfl
  | p :: r => by
    have ih := valV_map k j y r
    rw [List.map_cons]
    by_cases h : p.1 = k
    · rw [if_pos h]
      by_cases e : p.1 = j
      · rw [valV_pos (p := (p.1, y)) e, valV_pos e, Option.map_some, if_pos (e.symm.trans h)]
      · rw [valV_neg (p := (p.1, y)) e, valV_neg e, ih]
    · rw [if_neg h]
      by_cases e : p.1 = j
      · rw [valV_pos (p := p) e, valV_pos e, Option.map_some, if_neg (fun z => h (e.trans z))]
      · rw [valV_neg (p := p) e, valV_neg e, ih]
theorem valV_snoc (k j : κ) (y : V) : ∀ kvs : List (κ × V), valV kvs k = none → valV (kvs ++ [(k, y)]) j = if j = k then some y else valV kvs j
  | [], _ => by
    by_cases e : k = j
    · rw [if_pos e.symm]; exact valV_pos (p := (k, y)) e
    · rw [if_neg (fun z => e z.symm)]; exact valV_neg (p := (k, y)) e
  | p :: r, hn => by
    rw [List.cons_append]
    have hk : ¬ p.1 = k := fun z => by rw [valV_pos z] at hn; cases hn
    rw [valV_neg hk] at hn
    have ih := valV_snoc k j y r hn
    by_cases e : p.1 = j
    · rw [valV_pos e, valV_pos e, if_neg (fun z => hk (e.trans z))]
    · rw [valV_neg e, valV_neg e, ih]
theorem valV_put (kvs : List (κ × V)) (k j : κ) (y : V) : valV (putK kvs k y) j = if j = k then some y else valV kvs j := by
  unfold putK
  by_cases a : (kvs.any fun kv => decide (kv.1 = k)) = true
  · rw [if_pos a, valV_map]
    rw [valV_any] at a
    by_cases e : j = k
    · obtain ⟨x, hx⟩ := Option.isSome_iff_exists.mp a
      rw [if_pos e, e, hx, Option.map_some, if_pos rfl]
    · rw [if_neg e]
      cases valV kvs j with
      | none => rfl
      | some x => rw [Option.map_some, if_neg e]
  · rw [if_neg a]
    refine valV_snoc k j y kvs ?_
    rw [valV_any] at a
    cases q : valV kvs k with
    | none => rfl
    | some x => rw [q] at a; exact (a rfl).elim
theorem length_putK (kvs : List (κ × V)) (k : κ) (v : V) : (putK kvs k v).length ≤ kvs.length + 1 := by
  unfold putK
  split
  · rw [List.length_map]; omega
  · rw [List.length_append, List.length_cons, List.length_nil]; omega
theorem putK_new {kvs : List (κ × V)} {k : κ} (v : V) (h : valV kvs k = none) : putK kvs k v = kvs ++ [(k, v)] := by
  unfold putK
  rw [valV_any, h]
  exact if_neg (by decide)

theorem RelO.isSome_eq {o : Option V} {u : Option Value} (r : RelO o u) : o.isSome = u.isSome := by
  cases o with
  | none => cases u with
    | none => rfl
    | some _ => exact (show False from r).elim
  | some _ => cases u with
    | none => exact (show False from r).elim
    | some _ => rfl
theorem RelO.getD {o : Option V} {u : Option Value} {d : V} {d' : Value} (r : RelO o u) (rd : RelV d d') : RelV (o.getD d) (u.getD d') := by
  cases o with
  | none => cases u with
    | none => exact rd
    | some _ => exact (show False from r).elim
  | some _ => cases u with
    | none => exact (show False from r).elim
    | some _ => exact r

/-- raw tables of the same keys -/
theorem KV.val {kvs : List (κ × V)} {vs : List (κ × Value)} (r : KV kvs vs) (k : κ) : RelO (valV kvs k) (valueAt vs k) := by
  unfold KV at r
  induction r with
  | nil => exact True.intro
  | @cons p q ps qs h t ih =>
    obtain ⟨h1, h2⟩ := h
    by_cases e : p.1 = k
    · have e' : q.1 = k := h1.symm.trans e
      have b : valueAt (q :: qs) k = some q.2 := by simp [valueAt, List.find?_cons, e']
      rw [valV_pos e, b]; exact h2
    · have e' : ¬ q.1 = k := fun z => e (h1.trans z)
      have b : valueAt (q :: qs) k = valueAt qs k := by simp [valueAt, List.find?_cons, e']
      rw [valV_neg e, b]; exact ih
theorem KV.any {kvs : List (κ × V)} {vs : List (κ × Value)} (r : KV kvs vs) (k : κ) : (kvs.any fun kv => decide (kv.1 = k)) = vs.any fun kv => decide (kv.1 = k) := by
  unfold KV at r
  induction r with
  | nil => rfl
  | cons h t ih => rw [List.any_cons, List.any_cons, ih, h.1]
theorem KV.repl {kvs : List (κ × V)} {vs : List (κ × Value)} (r : KV kvs vs) (k : κ) {y : V} {u : Value} (ry : RelV y u) :
    KV (kvs.map fun kv => if kv.1 = k then (kv.1, y) else kv) (vs.map fun kv => if kv.1 = k then (kv.1, u) else kv) := by
  unfold KV at r ⊢
  induction r with
  | nil => exact .nil
  | @cons p q ps qs h t ih =>
    rw [List.map_cons, List.map_cons]
    refine .cons ?_ ih
    obtain ⟨h1, h2⟩ := h
    by_cases e : p.1 = k
    · rw [if_pos e, if_pos (h1.symm.trans e)]; exact ⟨h1, ry⟩
    · rw [if_neg e, if_neg (fun z => e (h1.trans z))]; exact ⟨h1, h2⟩
theorem KV.put {kvs : List (κ × V)} {vs : List (κ × Value)} (r : KV kvs vs) (k : κ) {y : V} {u : Value} (ry : RelV y u) : KV (putK kvs k y) (stored vs k u) := by
  unfold putK stored
  rw [r.any k]
  by_cases e : (vs.any fun kv => decide (kv.1 = k)) = true
  · rw [if_pos e, if_pos e]; exact r.repl k ry
  · rw [if_neg e, if_neg e]; exact Paired.snoc r ⟨rfl, ry⟩
theorem KV.drop {kvs : List (κ × V)} {vs : List (κ × Value)} (r : KV kvs vs) (k : κ) : KV (dropK kvs k) (without vs k) := by
  unfold KV at r ⊢
  unfold dropK without
  induction r with
  | nil => exact .nil
  | @cons p q ps qs h t ih =>
    obtain ⟨h1, h2⟩ := h
    rw [List.filter_cons, List.filter_cons]
    by_cases e : p.1 = k
    · have a : ¬ decide (p.1 ≠ k) = true := by simp [e]
      have b : ¬ decide (q.1 ≠ k) = true := by simp [h1.symm.trans e]
      rw [if_neg a, if_neg b]; exact ih
    · have e' : ¬ q.1 = k := fun z => e (h1.trans z)
      have a : decide (p.1 ≠ k) = true := by simp [e]
      have b : decide (q.1 ≠ k) = true := by simp [e']
      rw [if_pos a, if_pos b]; exact .cons ⟨h1, h2⟩ ih
theorem KV.keys {kvs : List (κ × V)} {vs : List (κ × Value)} (r : KV kvs vs) : kvs.map (·.1) = vs.map (·.1) := by
  unfold KV at r
  induction r with
  | nil => rfl
  | cons h t ih => rw [List.map_cons, List.map_cons, ih, h.1]
theorem KV.length {kvs : List (κ × V)} {vs : List (κ × Value)} (r : KV kvs vs) : kvs.length = vs.length := Paired.length r
end


/-! ### a tracked dict, its keys ints and texts or tuples of these -/
theorem kV_is {P : Program} {w : World} {k : Key} {u : Value} (r : RelV (kV k) u) : (mixKind P w).is k u = true := by
  cases k with
  | inl i => obtain ⟨t, e⟩ := (show ∃ t, u = Value.int i t from r); subst e; exact mixKind_int P w i t
  | inr x => obtain ⟨t, e⟩ := (show ∃ t, u = Value.str x t from r); subst e; exact mixKind_str P w x t
theorem items_are {P : Program} {w : World} : ∀ {ks : List Key} {us : List Value}, Vals (ks.map kV) us → ItemsAre (mixKind P w) ks us
  | [], _, r => by rw [List.map_nil] at r; cases r; exact .nil
  | k :: ks, _, r => by
    rw [List.map_cons] at r
    cases r with
    | cons h t => exact .cons (kV_is h) (items_are t)

/-- raw entries of a dict with tuple keys -/
abbrev KT (H : Hp) : List (List Key × V) → List (List Key × Addr × Value) → Prop := Paired fun p q => p.1 = q.1 ∧ H q.2.1 = some (.tup (p.1.map kV)) ∧ RelV p.2 q.2.2
theorem KT.val {H : Hp} {kvs : List (List Key × V)} {xs : List (List Key × Addr × Value)} (r : KT H kvs xs) (k : List Key) : RelO (valV kvs k) ((atKey xs k).map (·.2)) := by
  induction r with
  | nil => exact True.intro
  | @cons p q ps qs h t ih =>
    obtain ⟨h1, _, h2⟩ := h
    by_cases e : p.1 = k
    · have e' : q.1 = k := h1.symm.trans e
      have b : atKey (q :: qs) k = some q.2 := by simp [atKey, List.find?_cons, e']
      rw [valV_pos e, b]; exact h2
    · have e' : ¬ q.1 = k := fun z => e (h1.trans z)
      have b : atKey (q :: qs) k = atKey qs k := by simp [atKey, List.find?_cons, e']
      rw [valV_neg e, b]; exact ih
theorem KT.repl {H : Hp} {kvs : List (List Key × V)} {xs : List (List Key × Addr × Value)} (r : KT H kvs xs) (k : List Key) {y : V} {u : Value} (ry : RelV y u) :
    KT H (kvs.map fun kv => if kv.1 = k then (kv.1, y) else kv) (xs.map (putAt k u)) := by
  induction r with
  | nil => exact .nil
  | @cons p q ps qs h t ih =>
    rw [List.map_cons, List.map_cons]
    refine .cons ?_ ih
    obtain ⟨h1, h2, h3⟩ := h
    unfold putAt
    by_cases e : p.1 = k
    · rw [if_pos e, if_pos (h1.symm.trans e)]; exact ⟨h1, h2, ry⟩
    · rw [if_neg e, if_neg (fun z => e (h1.trans z))]; exact ⟨h1, h2, h3⟩
theorem KT.put {H : Hp} {kvs : List (List Key × V)} {xs : List (List Key × Addr × Value)} (r : KT H kvs xs) (k : List Key) {b : Addr} {y : V} {u : Value} (hb : H b = some (.tup (k.map kV))) (ry : RelV y u) :
    KT H (putK kvs k y) (storedH xs k b u) := by
  have e : (kvs.any fun kv => decide (kv.1 = k)) = (atKey xs k).isSome := by
    rw [valV_any, (r.val k).isSome_eq, Option.isSome_map]
  unfold putK storedH
  rw [e]
  by_cases q : (atKey xs k).isSome = true
  · rw [if_pos q, if_pos q]; exact r.repl k ry
  · rw [if_neg q, if_neg q]; exact Paired.snoc r ⟨rfl, hb, ry⟩
theorem KT.keeps {H H' : Hp} {kvs : List (List Key × V)} {xs : List (List Key × Addr × Value)} (r : KT H kvs xs) (ht : ∀ b ys, H b = some (.tup ys) → H' b = some (.tup ys)) : KT H' kvs xs :=
  Paired.mapP r fun _ _ z => ⟨z.1, ht _ _ z.2.1, z.2.2⟩

section
variable {P : Program} {w : World} {H : Hp} {h : Heap} {a : Addr}
theorem rd_of {u : HO} (ok : HOk P w H h) (e : Rd H a u) : ObjOk P w H h a u := e.ok ok
theorem dk_rd {kvs : List (Key × V)} (ok : HOk P w H h) (e : Rd H a (.dK kvs)) : kvs.length ≤ sizeLine ∧ (a == sysModules) = false ∧ ∃ vs, KV kvs vs ∧ h.DictOf (mixKind P w) a vs :=
  show ObjOk P w H h a (.dK kvs) from rd_of ok e
theorem dk_of {kvs : List (Key × V)} (ok : HOk P w H h) (e : H a = some (.dK kvs)) : kvs.length ≤ sizeLine ∧ (a == sysModules) = false ∧ ∃ vs, KV kvs vs ∧ h.DictOf (mixKind P w) a vs := dk_rd ok (.inl e)
/-- a tracked tuple of ints and texts is a key -/
theorem key_of {ks : List Key} (ok : HOk P w H h) (e : H a = some (.tup (ks.map kV))) : (tupleKind (mixKind P w)).is h ks a := by
  obtain ⟨_, its, r, o, h1, h2, n, h3, _⟩ := (show ObjOk P w H h a (.tup (ks.map kV)) from ok a _ e)
  exact ⟨o, its.toArray, n, h1, h2, h3, by simpa using items_are r⟩
theorem dt_rd {kvs : List (List Key × V)} (ok : HOk P w H h) (e : Rd H a (.dT kvs)) : kvs.length ≤ sizeLine ∧ (a == sysModules) = false ∧
    ∃ xs, KT H kvs xs ∧ h.DictOfH (tupleKind (mixKind P w)) a xs := by
  obtain ⟨z, y, xs, r, o, es, ep, h1, h2, h3, h4, h5⟩ := (show ObjOk P w H h a (.dT kvs) from rd_of ok e)
  refine ⟨z, y, xs, r, o, es, ep, h1, h2, h3, h4, fun x hx => ?_, h5⟩
  have all : ∀ {l : List (List Key × V)} {m : List (List Key × Addr × Value)}, KT H l m → ∀ x ∈ m, (tupleKind (mixKind P w)).is h x.1 x.2.1 := by
    intro l m q
    induction q with
    | nil => intro x hx; exact nomatch hx
    | @cons p q ps qs hq t ih =>
      intro x hx
      rcases List.mem_cons.mp hx with e | hx
      · subst e
        exact key_of ok (by rw [← hq.1]; exact hq.2.1)
      · exact ih x hx
  exact all r x hx
theorem dt_of {kvs : List (List Key × V)} (ok : HOk P w H h) (e : H a = some (.dT kvs)) : kvs.length ≤ sizeLine ∧ (a == sysModules) = false ∧
    ∃ xs, KT H kvs xs ∧ h.DictOfH (tupleKind (mixKind P w)) a xs := dt_rd ok (.inl e)
end

/-- what the dict at a holds at the key y -/
def DGet (H : Hp) (a : Addr) (y : V) (r : Option V) : Prop :=
  (∃ kvs k, Rd H a (.dK kvs) ∧ y = kV k ∧ r = valV kvs k) ∨ ∃ kvs k b, Rd H a (.dT kvs) ∧ y = .ref b ∧ H b = some (.tup (k.map kV)) ∧ r = valV kvs k
/-- the heap behind a[y] = v -/
def DPut (H : Hp) (a : Addr) (y v : V) (H' : Hp) : Prop :=
  (∃ kvs k, H a = some (.dK kvs) ∧ y = kV k ∧ kvs.length < sizeLine ∧ H' = upd H a (.dK (putK kvs k v))) ∨
  ∃ kvs k b, H a = some (.dT kvs) ∧ y = .ref b ∧ H b = some (.tup (k.map kV)) ∧ kvs.length < sizeLine ∧ H' = upd H a (.dT (putK kvs k v))
theorem DGet.k {H : Hp} {a : Addr} {kvs : List (Key × V)} {k : Key} (e : H a = some (.dK kvs)) : DGet H a (kV k) (valV kvs k) := .inl ⟨kvs, k, .inl e, rfl, rfl⟩
theorem DGet.t {H : Hp} {a b : Addr} {kvs : List (List Key × V)} {k : List Key} (e : H a = some (.dT kvs)) (eb : H b = some (.tup (k.map kV))) : DGet H a (.ref b) (valV kvs k) := .inr ⟨kvs, k, b, .inl e, rfl, eb, rfl⟩
theorem DPut.k {H : Hp} {a : Addr} {kvs : List (Key × V)} {k : Key} {v : V} (e : H a = some (.dK kvs)) (hl : kvs.length < sizeLine) : DPut H a (kV k) v (upd H a (.dK (putK kvs k v))) := .inl ⟨kvs, k, e, rfl, hl, rfl⟩
theorem DPut.t {H : Hp} {a b : Addr} {kvs : List (List Key × V)} {k : List Key} {v : V} (e : H a = some (.dT kvs)) (eb : H b = some (.tup (k.map kV))) (hl : kvs.length < sizeLine) :
    DPut H a (.ref b) v (upd H a (.dT (putK kvs k v))) := .inr ⟨kvs, k, b, e, rfl, eb, hl, rfl⟩


section
variable {X : Cx} {pins : List (Addr × Obj)} {σ : St} {H : Hp} {s : Shared} {a : Addr} {y v : V} {u r : Value} {o : Option V} {A : Around} {E : Value → Shared → Prop}

theorem Inv.big (I : Inv X pins σ H s) : sysModules < s.heap.objs.size := by
  have h : mainGlobals < s.heap.objs.size := (I.mod.glob.keeps I.bk).lt
  exact Nat.lt_trans (by decide) h

/-- d[y], there -/
theorem d_getItem {Q : Value → Shared → Prop} (hu : A.units + 1 < cLine) (I : Inv X pins σ H s) (g : DGet H a y (some v)) (ry : RelV y u) (h : ∀ w' s', Inv X pins σ H s' → RelV v w' → Q w' s') :
    wpAny (model X.prog X.w) A (getItem (.ref a) u) Q E s := by
  rcases g with ⟨kvs, k, e, ey, l⟩ | ⟨kvs, k, b, e, ey, eb, l⟩
  · subst ey
    obtain ⟨z, hd, vs, rel, dd⟩ := dk_rd I.hok e
    obtain ⟨w', hw, rw'⟩ := RelO.some_of (v := v) (o := valueAt vs k) (by rw [l]; exact rel.val k)
    exact wpAny_getItem_of (kV_is ry) dd.mapOf hw (h w' _ (I.tok _) rw')
  · subst ey
    cases (show u = Value.ref b from ry)
    obtain ⟨z, hd, xs, rel, dd⟩ := dt_rd I.hok e
    obtain ⟨w', hw, rw'⟩ := RelO.some_of (v := v) (o := (atKey xs k).map (·.2)) (by rw [l]; exact rel.val k)
    obtain ⟨p, hp, hp2⟩ := Option.map_eq_some_iff.mp hw
    refine wpAny_getItem_heap (tupleKind_room_in1 hu) (key_of I.hok eb) dd hp ?_
    rw [hp2]
    exact h w' _ (I.tok _) rw'
/-- y in d -/
theorem d_in {Q : Value → Shared → Prop} (hu : A.units + 1 < cLine) (I : Inv X pins σ H s) (g : DGet H a y o) (ry : RelV y u) (h : ∀ s', Inv X pins σ H s' → Q (.bool o.isSome) s') :
    wpAny (model X.prog X.w) A (compareOp .In u (.ref a)) Q E s := by
  rcases g with ⟨kvs, k, e, ey, l⟩ | ⟨kvs, k, b, e, ey, eb, l⟩
  · subst ey
    obtain ⟨z, hd, vs, rel, dd⟩ := dk_rd I.hok e
    refine wpAny_in_of (kV_is ry) hd dd.mapOf ?_
    rw [← (rel.val k).isSome_eq, ← l]
    exact h _ (I.tok _)
  · subst ey
    cases (show u = Value.ref b from ry)
    obtain ⟨z, hd, xs, rel, dd⟩ := dt_rd I.hok e
    refine wpAny_in_heap (tupleKind_room_in1 hu) (key_of I.hok eb) hd dd ?_
    have q := (rel.val k).isSome_eq
    rw [Option.isSome_map] at q
    rw [← q, ← l]
    exact h _ (I.tok _)
theorem d_notIn {Q : Value → Shared → Prop} (hu : A.units + 1 < cLine) (I : Inv X pins σ H s) (g : DGet H a y o) (ry : RelV y u) (h : ∀ s', Inv X pins σ H s' → Q (.bool (!o.isSome)) s') :
    wpAny (model X.prog X.w) A (compareOp .NotIn u (.ref a)) Q E s := by
  rcases g with ⟨kvs, k, e, ey, l⟩ | ⟨kvs, k, b, e, ey, eb, l⟩
  · subst ey
    obtain ⟨z, hd, vs, rel, dd⟩ := dk_rd I.hok e
    refine wpAny_notIn_of (kV_is ry) hd dd.mapOf ?_
    rw [← (rel.val k).isSome_eq, ← l]
    exact h _ (I.tok _)
  · subst ey
    cases (show u = Value.ref b from ry)
    obtain ⟨z, hd, xs, rel, dd⟩ := dt_rd I.hok e
    refine wpAny_notIn_heap (tupleKind_room_in1 hu) (key_of I.hok eb) hd dd ?_
    have q := (rel.val k).isSome_eq
    rw [Option.isSome_map] at q
    rw [← q, ← l]
    exact h _ (I.tok _)
/-- a dict's object is replaced -/
theorem d_write {h' : Heap} {t' : Nat} {ob : HO} (I : Inv X pins σ H s) (mu : Mut (H a)) (hs : Heap.SameBut a s.heap h') (he : ∃ q, h'.get? a = some q) (new : ObjOk X.prog X.w (upd H a ob) h' a ob) :
    Inv X pins σ (upd H a ob) { s with heap := h', toks := t' } :=
  I.write (x := a) (e := a) mu (.inl rfl) (fun b q hb z => (hs.2 b hb).trans z) he new
theorem dk_new {P : Program} {w : World} {H' : Hp} {h' : Heap} {kvs : List (Key × V)} {vs : List (Key × Value)} (z : kvs.length ≤ sizeLine) (hd : (a == sysModules) = false) (rel : KV kvs vs) (dd : h'.DictOf (mixKind P w) a vs) :
    ObjOk P w H' h' a (.dK kvs) := ⟨z, hd, vs, rel, dd⟩
/-- d[y] = v -/
theorem d_setItem {H' : Hp} {Q : Unit → Shared → Prop} (hu : A.units + 1 < cLine) (I : Inv X pins σ H s) (g : DPut H a y v H') (ry : RelV y u) (rv : RelV v r) (h : ∀ s', Inv X pins σ H' s' → Q () s') :
    wpAny (model X.prog X.w) A (setItem (.ref a) u r) Q E s := by
  rcases g with ⟨kvs, k, e, ey, l, eH⟩ | ⟨kvs, k, b, e, ey, eb, l, eH⟩
  · subst ey eH
    obtain ⟨z, hd, vs, rel, dd⟩ := dk_of I.hok e
    have hz : vs.length ≤ sizeLine := by rw [← rel.length]; exact z
    have hl : (putK kvs k v).length ≤ sizeLine := by have := length_putK kvs k v; omega
    refine wpAny_setItem_pairs (hsz := hz) (kV_is ry) dd fun h' dd' hs => h _ ?_
    have he : ∃ q, h'.get? a = some q := let ⟨q, _, _, hq, _⟩ := dd'; ⟨q, hq⟩
    exact d_write I (by rw [e]; exact True.intro) hs he (dk_new hl hd (rel.put k rv) dd')
  · subst ey eH
    cases (show u = Value.ref b from ry)
    obtain ⟨z, hd, xs, rel, dd⟩ := dt_of I.hok e
    have hz : xs.length ≤ sizeLine := by rw [← Paired.length rel]; exact z
    have hl : (putK kvs k v).length ≤ sizeLine := by have := length_putK kvs k v; omega
    refine wpAny_setItem_heap (hsz := hz) (tupleKind_room_in1 hu) (key_of I.hok eb) dd fun h' dd' hs => h _ ?_
    obtain ⟨q, es, ep, hq, h2, h3, h4, _, h5⟩ := dd'
    refine d_write I (by rw [e]; exact True.intro) hs ⟨q, hq⟩ ⟨hl, hd, _, (rel.put k eb rv).keeps fun c ys ec => ?_, q, es, ep, hq, h2, h3, h4, h5⟩
    rw [upd_ne (ne_of ec e (fun z => nomatch z))]
    exact ec
end

section
variable {X : Cx} {pins : List (Addr × Obj)} {σ : St} {H : Hp} {s : Shared} {a : Addr} {kvs : List (Key × V)} {k : Key} {u : Value} {A : Around} {E : Value → Shared → Prop}
end


/-! ### readings and rules -/
/-- the element of a subscription, not a slice -/
def NoSl (i : Expr) : Prop := ∀ ov iv, subscripted i false ov iv = operate [ov, iv] (getItem ov iv)
theorem subD_of {prog : Program} {w : World} {A : Around} {E : Value → Shared → Prop} {s : Shared} {env : Env} {value slice : Expr} {pos : Pos} {T id : String} {Q : Value → Shared → Prop}
    (hl : typeLookup (.type T) "__getitem__" = pure (some (.builtin id))) (hs : NoSl slice)
    (h : wpAny (model prog w) A (eval value env) (fun o s₁ => wpAny (model prog w) A (eval slice env) (fun i s₂ => s₂.TypeIs o T ∧ wpAny (model prog w) A (getItem o i) Q E s₂) E s₁) E s) :
    wpAny (model prog w) A (eval (.Subscript value slice pos) env) Q E s := by
  refine Subscript_ (wpAny_mono h (fun o s₁ h₁ => wpAny_mono h₁ (fun i s₂ h₂ => ?_) fun _ _ x => x) fun _ _ x => x)
  obtain ⟨hT, h₂⟩ := h₂
  unfold subscriptTail
  refine wpAny_bind ?_
  rw [getitemInPython_of_ne hT.not_modules]
  refine wpAny_bind (wpAny_specialOf hT hl ?_)
  have fin : wpAny (model prog w) A (subscripted slice false o i) (fun r s₃ => wpAny (model prog w) A (letTemporaryGo value o r >>= fun _ => pure r) Q E s₃) E s₂ := by
    rw [hs o i]
    exact wpAny_operating (wpAny_mono h₂ (fun r s₃ h₃ => wpAny_bind (wpAny_letTemporaryGo (wpAny_pure h₃))) fun _ _ x => x)
  first
    | exact wpAny_pure (wpAny_bind fin)
    | exact wpAny_bind (wpAny_pure (wpAny_bind fin))
    | exact wpAny_bind fin

theorem dict_typeIs {X : Cx} {pins : List (Addr × Obj)} {σ : St} {H : Hp} {s : Shared} {a : Addr} {y : V} {o : Option V} (I : Inv X pins σ H s) (g : DGet H a y o) : s.TypeIs (.ref a) "dict" := by
  rcases g with ⟨kvs, k, e, _, _⟩ | ⟨kvs, k, b, e, _, _, _⟩
  · obtain ⟨_, _, vs, _, dd⟩ := dk_rd I.hok e
    exact dd.typeIs
  · obtain ⟨_, _, xs, _, dd⟩ := dt_rd I.hok e
    exact dd.typeIs
/-- d[y] -/
def tDGet (td ty : TE) : TE := fun σ H Q => td σ H fun x H1 => ty σ H1 fun y H2 => ∃ a v, x = .ref a ∧ DGet H2 a y (some v) ∧ Q v H2
/-- y in d, y not in d -/
def tDIn (ty td : TE) : TE := fun σ H Q => ty σ H fun y H1 => td σ H1 fun x H2 => ∃ a o, x = .ref a ∧ DGet H2 a y o ∧ Q (.bl o.isSome) H2
def tDNotIn (ty td : TE) : TE := fun σ H Q => ty σ H fun y H1 => td σ H1 fun x H2 => ∃ a o, x = .ref a ∧ DGet H2 a y o ∧ Q (.bl (!o.isSome)) H2
/-- d[y] = v -/
def sDPut (td ty tv : TE) : TS := fun D σ H => tv σ H fun v H1 => td σ H1 fun x H2 => ty σ H2 fun y H3 => ∃ a H4, x = .ref a ∧ DPut H3 a y v H4 ∧ D.nx σ H4
section
variable {X : Cx} {o i e value : Expr} {pos pos' tpos : Pos} {td ty tv : TE}
theorem pe_dget (hu : X.A.units + 1 < cLine) (ho : PE X o td) (hi : PE X i ty) (hs : NoSl i) : PE X (.Subscript o i pos) (tDGet td ty) := by
  intro pins s σ H Q I h
  refine subD_of PySem.F.slot_dict_getitem.lookup hs (thn (ho pins s σ H _ I h) fun u s1 ⟨x, H1, I1, rx, q1⟩ => thn (hi pins s1 σ H1 _ I1 q1) fun iv s2 ⟨y, H2, I2, ry, a, v, ex, g, q2⟩ => ?_)
  subst ex
  obtain rfl : u = Value.ref a := rx
  exact ⟨dict_typeIs I2 g, d_getItem hu I2 g ry fun w' s3 I3 rw' => ⟨v, H2, I3, rw', q2⟩⟩
theorem pc_din (hu : X.A.units + 1 < cLine) (hi : PE X i ty) (ho : PE X o td) : PC X .In i o (tDIn ty td) := by
  intro pins s σ H Q I h
  refine thn (hi pins s σ H _ I h) fun iv s1 ⟨y, H1, I1, ry, q1⟩ => thn (ho pins s1 σ H1 _ I1 q1) fun u s2 ⟨x, H2, I2, rx, a, ov, ex, g, q2⟩ => ?_
  subst ex
  obtain rfl : u = Value.ref a := rx
  exact d_in hu I2 g ry fun s3 I3 => ⟨.bl ov.isSome, H2, I3, rfl, q2⟩
theorem pc_dnotin (hu : X.A.units + 1 < cLine) (hi : PE X i ty) (ho : PE X o td) : PC X .NotIn i o (tDNotIn ty td) := by
  intro pins s σ H Q I h
  refine thn (hi pins s σ H _ I h) fun iv s1 ⟨y, H1, I1, ry, q1⟩ => thn (ho pins s1 σ H1 _ I1 q1) fun u s2 ⟨x, H2, I2, rx, a, ov, ex, g, q2⟩ => ?_
  subst ex
  obtain rfl : u = Value.ref a := rx
  exact d_notIn hu I2 g ry fun s3 I3 => ⟨.bl (!ov.isSome), H2, I3, rfl, q2⟩
theorem ps_dput (hu : X.A.units + 1 < cLine) (ho : PE X o td) (hi : PE X i ty) (hv : PE X value tv) (hs : swapsWith value (some (.Subscript o i pos')) pos.line X.env = pure false) :
    PS X (.Assign [.Subscript o i pos'] value pos) (sDPut td ty tv) := by
  intro pins s σ H D I h
  refine wpAny_Assign_Subscript (thn (hv pins s σ H _ I h) fun r s1 ⟨v, H1, I1, rv, q1⟩ => thn (ho pins s1 σ H1 _ I1 q1) fun u s2 ⟨x, H2, I2, rx, q2⟩ => thn (hi pins s2 σ H2 _ I2 q2) fun iv s3 ⟨y, H3, I3, ry, a, H4, ex, g, q3⟩ => ?_) hs
  subst ex
  obtain rfl : u = Value.ref a := rx
  exact d_setItem hu I3 g ry rv fun s4 I4 => ⟨σ, H4, I4, q3⟩
end


/-! ### displays -/
theorem dk_empty {P : Program} {w : World} {H : Hp} (h : Heap) (hb : sysModules < h.objs.size) : ObjOk P w H (h.push { cls := .type "dict", data := .dict #[] }) h.objs.size (.dK []) :=
  ⟨Nat.zero_le _, beq_eq_false_iff_ne.mpr (Ne.symm (Nat.ne_of_lt hb)), [], .nil, Heap.DictOf.new h⟩
theorem dt_empty {P : Program} {w : World} {H : Hp} (h : Heap) (hb : sysModules < h.objs.size) : ObjOk P w H (h.push { cls := .type "dict", data := .dict #[] }) h.objs.size (.dT []) :=
  ⟨Nat.zero_le _, beq_eq_false_iff_ne.mpr (Ne.symm (Nat.ne_of_lt hb)), [], .nil, _, #[], 0, Heap.get?_push_size _ rfl, ⟨rfl, rfl, rfl⟩, rfl, rfl, List.nodup_nil⟩
section
variable {X : Cx} {pos : Pos}
end

/-- the pairs of a display, from the left -/
def tPairs : List (TE × TE) → St → Hp → (List (V × V) → Hp → Prop) → Prop
  | [], _, H, Q => Q [] H
  | (tk, tv) :: r, σ, H, Q => tk σ H fun x H1 => tv σ H1 fun y H2 => tPairs r σ H2 fun ps H3 => Q ((x, y) :: ps) H3
abbrev VV : List (V × V) → List (Value × Value) → Prop := Paired fun p q => RelV p.1 q.1 ∧ RelV p.2 q.2
def PPs (X : Cx) (pos : Pos) (keys : List (Option Expr)) (values : List Expr) (trs : List (TE × TE)) : Prop :=
  ∀ (pins : List (Addr × Obj)) (s : Shared) (σ : St) (H : Hp) (Q : List (V × V) → Hp → Prop), Inv X pins σ H s → tPairs trs σ H Q →
    wpAny (model X.prog X.w) X.A (evalPairs (pairTrees keys values X.env pos)) (fun vs s' => ∃ ps H', Inv X pins σ H' s' ∧ VV ps vs ∧ Q ps H') X.xe s
theorem pps_nil {X : Cx} {pos : Pos} : PPs X pos [] [] [] := fun pins s σ H Q I h => pairTrees_nil_walk ⟨[], H, I, .nil, h⟩
theorem pps_cons {X : Cx} {pos : Pos} {k v : Expr} {ks : List (Option Expr)} {vs : List Expr} {tk tv : TE} {trs : List (TE × TE)} (hk : PE X k tk) (hv : PE X v tv) (hr : PPs X pos ks vs trs) :
    PPs X pos (some k :: ks) (v :: vs) ((tk, tv) :: trs) := fun pins s σ H Q I h =>
  pairTrees_cons_walk (thn (hk pins s σ H _ I h) fun u s1 ⟨x, H1, I1, rx, q1⟩ => thn (hv pins s1 σ H1 _ I1 q1) fun w2 s2 ⟨y, H2, I2, ry, q2⟩ =>
    thn (hr pins s2 σ H2 _ I2 q2) fun ws s3 ⟨ps, H3, I3, rel, q3⟩ => ⟨(x, y) :: ps, H3, I3, .cons ⟨rx, ry⟩ rel, q3⟩)

def mergeK (kvs more : List (Key × V)) : List (Key × V) := more.foldl (fun acc kv => putK acc kv.1 kv.2) kvs
theorem KV.merge : ∀ {more : List (Key × V)} {rs : List (Key × Value)} {kvs : List (Key × V)} {vs : List (Key × Value)}, KV more rs → KV kvs vs → KV (mergeK kvs more) (merged vs rs) := by
  intro more rs kvs vs r
  unfold KV at r
  induction r generalizing kvs vs with
  | nil => intro q; exact q
  | @cons p q ps qs h t ih =>
    intro r0
    have e : KV (putK kvs p.1 p.2) (stored vs q.1 q.2) := by
      have := r0.put p.1 h.2
      rw [← h.1]; exact this
    exact ih e
theorem length_mergeK : ∀ (more kvs : List (Key × V)), (mergeK kvs more).length ≤ kvs.length + more.length
  | [], kvs => by show kvs.length ≤ kvs.length + 0; omega
  | p :: r, kvs => by
    have h1 := length_mergeK r (putK kvs p.1 p.2)
    have h2 := length_putK kvs p.1 p.2
    show (mergeK (putK kvs p.1 p.2) r).length ≤ _
    rw [List.length_cons]; omega
theorem carries_of {P : Program} {w : World} : ∀ {kvs : List (Key × V)} {ws : List (Value × Value)}, VV (kvs.map fun kv => (kV kv.1, kv.2)) ws → ∃ rs, Carries (mixKind P w) ws rs ∧ KV kvs rs
  | [], _, r => by rw [List.map_nil] at r; cases r; exact ⟨[], True.intro, .nil⟩
  | p :: kvs, _, r => by
    rw [List.map_cons] at r
    cases r with
    | @cons a b as bs h t =>
      obtain ⟨rs, c, q⟩ := carries_of (P := P) (w := w) t
      obtain ⟨b1, b2⟩ := b
      exact ⟨(p.1, b2) :: rs, ⟨kV_is h.1, rfl, c⟩, .cons ⟨rfl, h.2⟩ q⟩
/-- {k: v, ..} with keys ints and texts; the new dict stands empty while the pairs are made -/
def tDisp (trs : List (TE × TE)) : TE := fun σ H Q => ∀ p, H p = none → tPairs trs σ (upd H p (.dK [])) fun ps H2 => H2 p = some (.dK []) ∧ ∃ kvs : List (Key × V), ps = kvs.map (fun kv => (kV kv.1, kv.2)) ∧ kvs.length ≤ 15 ∧ Q (.ref p) (upd H2 p (.dK (mergeK [] kvs)))
theorem pe_disp {X : Cx} {pos : Pos} {keys : List (Option Expr)} {values : List Expr} {trs : List (TE × TE)} (h : PPs X pos keys values trs) (hall : keys.all (·.isSome) = true) (hl : keys.length = values.length) (h0 : keys ≠ [])
    (h15 : keys.length ≤ 15) : PE X (.Dict keys values pos) (tDisp trs) := by
  intro pins s σ H Q I q
  have hn := I.hok.fresh (Nat.le_refl s.heap.objs.size)
  have I1 := I.laid (a := s.heap.objs.size) (o := .dK []) (h' := s.heap.push { cls := .type "dict", data := .dict #[] }) (t' := s.toks) (fun _ _ q => Heap.get?_push_of_some _ q) (Nat.le_refl _) (dk_empty s.heap I.big)
  refine wpAny_Dict_walk (knd := mixKind X.prog X.w) hall hl h0 h15 (thn (h pins _ σ _ _ I1 (q _ hn)) fun ws s2 ⟨ps, H2, I2, rel, e, kvs, ep, lk, q2⟩ => ?_)
  subst ep
  obtain ⟨rs, c, rk⟩ := carries_of (P := X.prog) (w := X.w) rel
  obtain ⟨z, hd, vs0, r0, dd⟩ := dk_of I2.hok e
  cases r0
  refine ⟨rs, c, dd, fun h' dd' hs => ⟨.ref s.heap.objs.size, _, ?_, rfl, q2⟩⟩
  have hz : (mergeK [] kvs).length ≤ sizeLine := by
    have h1 := length_mergeK kvs []
    rw [List.length_nil] at h1
    rw [sizeLine_eq]; omega
  have he : ∃ q, h'.get? s.heap.objs.size = some q := let ⟨q, _, _, hq, _⟩ := dd'; ⟨q, hq⟩
  exact d_write I2 (by rw [e]; exact True.intro) hs he (dk_new hz hd (rk.merge .nil) dd')


/-! ### methods -/
/-- a method call o.m(e) of a built-in, with one argument: what must be seen of the text -/
structure M1 (X : Cx) (o : Expr) (m : Str) (apos : Pos) (e : Expr) (cpos : Pos) : Prop where
  base : attributeBase o m X.env (eval o X.env) = eval o X.env
  few : ((backTo cpos (starEach [e] X.env)).all (fun x => !x.1) && (backToKw cpos (keywordEach [] X.env)).all (fun x => x.1.isSome)
    && decide (([e] : List Expr).length + ([] : List Keyword).length + (if ([] : List Keyword).isEmpty then 0 else 1) < 30)) = true
  line : (apos.endLine == cpos.line) = true
  trees : backTo cpos (starEach [e] X.env) = [(false, eval e X.env)]
structure M2 (X : Cx) (o : Expr) (m : Str) (apos : Pos) (e f : Expr) (cpos : Pos) : Prop where
  base : attributeBase o m X.env (eval o X.env) = eval o X.env
  few : ((backTo cpos (starEach [e, f] X.env)).all (fun x => !x.1) && (backToKw cpos (keywordEach [] X.env)).all (fun x => x.1.isSome)
    && decide (([e, f] : List Expr).length + ([] : List Keyword).length + (if ([] : List Keyword).isEmpty then 0 else 1) < 30)) = true
  line : (apos.endLine == cpos.line) = true
  trees : backTo cpos (starEach [e, f] X.env) = [(false, eval e X.env), (false, eval f X.env)]

/-- a is a dict, whatever its keys -/
def IsD (H : Hp) (a : Addr) : Prop := (∃ kvs, Rd H a (.dK kvs)) ∨ ∃ kvs, Rd H a (.dT kvs)
theorem isD_at {X : Cx} {pins : List (Addr × Obj)} {σ : St} {H : Hp} {s : Shared} {a : Addr} (I : Inv X pins σ H s) (d : IsD H a) :
    s.TypeIs (.ref a) "dict" ∧ (∀ b, Value.ref a = .ref b → ∃ ob, s.heap.get? b = some ob ∧ ob.dict = none) ∧ (a == sysModules) = false := by
  rcases d with ⟨kvs, e⟩ | ⟨kvs, e⟩
  · obtain ⟨_, hd, vs, _, dd⟩ := dk_rd I.hok e
    refine ⟨dd.typeIs, fun b q => ?_, hd⟩
    cases q
    obtain ⟨ob, _, _, h1, h2, _⟩ := dd
    exact ⟨ob, h1, h2.2.1⟩
  · obtain ⟨_, hd, xs, _, dd⟩ := dt_rd I.hok e
    refine ⟨dd.typeIs, fun b q => ?_, hd⟩
    cases q
    obtain ⟨ob, _, _, h1, h2, _⟩ := dd
    exact ⟨ob, h1, h2.2.1⟩

section
variable {X : Cx} {pins : List (Addr × Obj)} {σ : St} {H : Hp} {s : Shared} {a : Addr} {y d : V} {u r : Value} {o : Option V} {A : Around} {E : Value → Shared → Prop}
/-- d.get(y, x) -/
theorem d_get2 {Q : Value → Shared → Prop} (hu : A.units + 1 < cLine) (I : Inv X pins σ H s) (g : DGet H a y o) (ry : RelV y u) (rd : RelV d r) (h : ∀ w' s', Inv X pins σ H s' → RelV (o.getD d) w' → Q w' s') :
    wpAny (model X.prog X.w) A (call (.builtin "dict.get") [.ref a, u, r]) Q E s := by
  rcases g with ⟨kvs, k, e, ey, l⟩ | ⟨kvs, k, b, e, ey, eb, l⟩
  · subst ey
    obtain ⟨z, hd, vs, rel, dd⟩ := dk_rd I.hok e
    refine call_meetsIn PySem.F.slot_dict_get dd.typeIs PySem.F.entry_dict_get (PySem.F.args_dict_get_3 _ _ _) (meets_dict_get_default (mixKind X.prog X.w) a (kV_is ry) hd r) ⟨_, dd.mapOf, h _ _ (I.tok _) ?_⟩
    rw [l]
    exact (rel.val k).getD rd
  · subst ey
    cases (show u = Value.ref b from ry)
    obtain ⟨z, hd, xs, rel, dd⟩ := dt_rd I.hok e
    refine call_meetsIn PySem.F.slot_dict_get dd.typeIs PySem.F.entry_dict_get (PySem.F.args_dict_get_3 _ _ _) (meetsH_dict_get_default (tupleKind (mixKind X.prog X.w)) a b hd r) ⟨tupleKind_room_in1 hu, k, xs, key_of I.hok eb, dd, h _ _ (I.tok _) ?_⟩
    rw [l]
    exact (rel.val k).getD rd
end

def tDGet2 (td ty tx : TE) : TE := fun σ H Q => td σ H fun x H1 => ∃ a, x = .ref a ∧ IsD H1 a ∧ ty σ H1 fun y H2 => tx σ H2 fun z H3 => ∃ o, DGet H3 a y o ∧ Q (o.getD z) H3
section
variable {X : Cx} {o e f : Expr} {apos cpos : Pos} {td ty tx : TE}
theorem pe_dget2 (hu : X.A.units + 1 < cLine) (ho : PE X o td) (he : PE X e ty) (hf : PE X f tx) (m : M2 X o "get" apos e f cpos) : PE X (.Call (.Attribute o "get" apos) [e, f] [] cpos) (tDGet2 td ty tx) := by
  intro pins s σ H Q I h
  refine wpAny_Call_method m.base m.few m.line PySem.F.plainAttrs_dict PySem.F.slot_dict_get PySem.F.type_dict_get (thn (ho pins s σ H _ I h) fun u s1 ⟨x, H1, I1, rx, a, ex, d, q1⟩ => ?_)
  subst ex
  obtain rfl : u = Value.ref a := rx
  obtain ⟨t1, t2, _⟩ := isD_at I1 d
  refine ⟨t1, t2, ?_⟩
  rw [m.trees]
  refine Calls.callWith_builtin rfl (Calls.evalArgs_plain (Calls.spliced_cons (thn (he pins s1 σ H1 _ I1 q1) fun iv s2 ⟨y, H2, I2, ry, q2⟩ =>
    Calls.spliced_cons (thn (hf pins s2 σ H2 _ I2 q2) fun fv s3 ⟨z, H3, I3, rz, ov, g, q3⟩ => Calls.spliced_nil ?_))))
  exact d_get2 hu I3 g ry rz fun w' s4 I4 rw' => ⟨_, H3, I4, rw', q3⟩
end

/-! ### dict(d): a copy -/
section
variable {X : Cx} {pins : List (Addr × Obj)} {σ : St} {H : Hp} {s : Shared} {a : Addr} {kvs : List (Key × V)} {A : Around} {E : Value → Shared → Prop}
end


section
variable {X : Cx} {pins : List (Addr × Obj)} {σ : St} {H : Hp} {s : Shared} {a : Addr} {y : V} {u : Value} {A : Around} {E : Value → Shared → Prop}
end
end L2

namespace HT
open PySem PyProof.Rows

/-- t < u of tuples of ints -/
def lexLt : List Int → List Int → Bool
  | [], [] => false
  | [], _ :: _ => true
  | _ :: _, [] => false
  | x :: xs, y :: ys => if x = y then lexLt xs ys else decide (x < y)
theorem lexLt_cons (x y : Int) (xs ys : List Int) : lexLt (x :: xs) (y :: ys) = if x = y then lexLt xs ys else decide (x < y) := rfl
theorem lexLt_nil_nil : lexLt [] [] = false := rfl
theorem lexLt_nil_cons (y : Int) (ys : List Int) : lexLt [] (y :: ys) = true := rfl
theorem lexLt_cons_nil (x : Int) (xs : List Int) : lexLt (x :: xs) [] = false := rfl

theorem eqAt_int (A : Around) (s : Shared) (a : Int) (t : Tok) (c : Int) (u : Tok) : ∃ e, SeqAt.EqAt A s (.int a t) (.int c u) e ∧ (e = true ↔ a = c) :=
  ⟨(a == c), SeqAt.EqAt.int_int a t c u, by simp⟩
theorem rcLt_int (A : Around) (s : Shared) (a : Int) (t : Tok) (c : Int) (u : Tok) (prog : Program) (w : World) (E : Value → Shared → Prop) (Q : Value → Shared → Prop) (h : Q (.bool (decide (a < c))) s) :
    wpAny (model prog w) A (richCompare .Lt (.int a t) (.int c u)) Q E s :=
  (PyProof.Rows.lt_int h : wpAny (model prog w) A (compareOp .Lt (.int a t) (.int c u)) Q E s)

section
open PySem.SeqAt
open PySem.AutoSeq1 (wpAny_loadPart')
open PySem.MeetsSeq PySem.MeetsSeq2 PySem.MeetsSeq3

theorem tuple_lt_ints (l b : Addr) (items items2 : Array Value) (n n2 : Nat) (dd dd2 : Option Addr) (sl sl2 : Array (Option Value)) (ns ms : List Int) (hi : IntsAre items.toList ns) (hj : IntsAre items2.toList ms) :
    Meets (Builtin.«tuple.__lt__» ⟨[.ref l, .ref b], []⟩)
      (fun _ R s => s.heap.get? l = some { cls := .type "tuple", dict := dd, data := .seq items n, slots := sl } ∧ s.heap.get? b = some { cls := .type "tuple", dict := dd2, data := .seq items2 n2, slots := sl2 } ∧
        R (.ok (.ret (.bool (lexLt ns ms)))) s) :=
  .of_wp fun prog w A R s h => by
    obtain ⟨hp, g, d, tk, os⟩ := s; obtain ⟨hl, hb, h⟩ := h
    have f2 := AutoSeq1.sub_tuple_tuple
    have z1 : items.size = ns.length := by rw [← hi.length]; simp
    have z2 : items2.size = ms.length := by rw [← hj.length]; simp
    wp_walk using wpAny_loadPart' hl, wpAny_loadPart' hb, wpAny_forIn_list _ (fun rest b s' => b.1 = none ∧ s' = ⟨hp, g, d, tk, os⟩ ∧ ∃ (vs ws : List Value) (ns' ms' : List Int), rest = vs.zip ws ∧
      IntsAre vs ns' ∧ IntsAre ws ms' ∧ ns'.length + items2.size = ms'.length + items.size ∧ R (.ok (.ret (.bool (lexLt ns' ms')))) ⟨hp, g, d, tk, os⟩) _
    case turn =>
      rintro ⟨y, x⟩ rest b s' ⟨hb', rfl, vs, ws, ns', ms', hz, hvi, hwi, hlen, hR⟩
      cases hvi with
      | nil => rw [List.zip_nil_left] at hz; cases hz
      | cons a t hvi' =>
        cases hwi with
        | nil => rw [List.zip_nil_right] at hz; cases hz
        | cons c u hwi' =>
          rw [List.zip_cons_cons] at hz
          injection hz with hyx hrest
          injection hyx with hy hx
          subst hy hx
          rw [lexLt_cons] at hR
          simp only [List.length_cons] at hlen
          obtain ⟨e, he, hiff⟩ := eqAt_int A.in1 ⟨hp, g, d, tk, os⟩ a t c u
          refine wpAny_bind (he prog w _ _ ?_)
          cases e with
          | true =>
            rw [if_pos (hiff.mp rfl)] at hR
            wp_walk
            exact ⟨rfl, rfl, _, _, _, _, hrest, hvi', hwi', by omega, hR⟩
          | false =>
            rw [if_neg (fun q => absurd (hiff.mpr q) Bool.false_ne_true)] at hR
            have hri := rcLt_int A.in1 ⟨hp, g, d, tk, os⟩ a t c u prog w
            wp_walk using hri
            exact ⟨_, rfl, by simpa using hR⟩
    case fin =>
      rintro ⟨b1, b2⟩ s' ⟨hb', rfl, vs, ws, ns', ms', hz, hvi, hwi, hlen, hR⟩
      simp only at hb'
      subst hb'
      have hv : lexLt ns' ms' = decide (items.size < items2.size) := by
        cases hvi with
        | nil =>
          cases hwi with
          | nil =>
            simp only [List.length_nil] at hlen
            rw [lexLt_nil_nil]
            exact (decide_eq_false (by omega)).symm
          | cons c u hw =>
            simp only [List.length_nil, List.length_cons] at hlen
            rw [lexLt_nil_cons]
            exact (decide_eq_true (by omega)).symm
        | cons a t hv =>
          cases hwi with
          | nil =>
            simp only [List.length_nil, List.length_cons] at hlen
            rw [lexLt_cons_nil]
            exact (decide_eq_false (by omega)).symm
          | cons c u hw =>
            rw [List.zip_cons_cons] at hz
            cases hz
      rw [hv] at hR
      wp_walk
      exact ⟨_, rfl, by simpa [Builtin.Tuple.tupleCompareSizes] using hR⟩
    case h =>
      exact ⟨rfl, rfl, items.toList, items2.toList, ns, ms, rfl, hi, hj, by omega, h⟩
end

section
variable {prog : Program} {w : World} {A : Around} {E : Value → Shared → Prop} {s : Shared}

theorem lt_tupInts {l b : Addr} {items items2 : Array Value} {ns ms : List Int} {Q : Value → Shared → Prop} (hl : IsTup s.heap l items) (hb : IsTup s.heap b items2) (hi : IntsAre items.toList ns) (hj : IntsAre items2.toList ms)
    (hu : A.units < cLine) (h : Q (.bool (lexLt ns ms)) s) : wpAny (model prog w) A (compareOp .Lt (.ref l) (.ref b)) Q E s := by
  obtain ⟨⟨cls, dd, data, sl⟩, ho, hc, n, hd⟩ := id hl
  obtain ⟨⟨cls2, dd2, data2, sl2⟩, ho2, hc2, n2, hd2⟩ := id hb
  simp only at hc hd hc2 hd2
  subst hc hd hc2 hd2
  exact richCompare_meets_room (op := .Lt) ⟨_, ho, rfl⟩ ⟨_, ho2, rfl⟩ PySem.F.slot_tuple_lt PySem.F.entry_tuple_lt (PySem.F.args_tuple_lt_2 _ _) (tuple_lt_ints l b items items2 n n2 dd dd2 sl sl2 ns ms hi hj)
    ⟨ho, ho2, show Value.bool (lexLt ns ms) ≠ Value.notImplemented ∧ Q (.bool (lexLt ns ms)) s from ⟨(fun x => nomatch x), h⟩⟩ hu

/-- t + u, t not empty -/
theorem cat_tup {t b : Addr} {vs ws : List Value} {Q : Value → Shared → Prop} (ht : IsTup s.heap t vs.toArray) (hb : IsTup s.heap b ws.toArray) (hv : vs ≠ [])
    (h1 : ws = [] → Q (.ref t) s) (h2 : ws ≠ [] → Q (.ref s.heap.objs.size) { s with heap := s.heap.push { cls := .type "tuple", data := .seq (vs ++ ws).toArray } })
    (hsz : vs.length + ws.length ≤ sizeLine) : wpAny (model prog w) A (binaryOp .Add (.ref t) (.ref b)) Q E s := by
  obtain ⟨⟨cls, dd, data, sl⟩, ho, hc, n, hd⟩ := id ht
  obtain ⟨⟨cls2, dd2, data2, sl2⟩, ho2, hc2, n2, hd2⟩ := id hb
  simp only at hc hd hc2 hd2
  subst hc hd hc2 hd2
  have e : vs.toArray ++ ws.toArray = (vs ++ ws).toArray := by simp
  by_cases hw : ws = []
  · exact concat_meets ⟨_, ho, rfl⟩ ⟨_, ho2, rfl⟩ noFill_tuple_add seq_tuple_add PySem.F.slot_tuple_add PySem.F.entry_tuple_add (PySem.F.args_tuple_add_2 _ _)
      (tuple_addW1 t b vs.toArray ws.toArray n n2 dd dd2 sl sl2 (by simpa using hv) (by simp [hw])) ⟨ho, ho2, h1 hw⟩
  · refine concat_meets ⟨_, ho, rfl⟩ ⟨_, ho2, rfl⟩ noFill_tuple_add seq_tuple_add PySem.F.slot_tuple_add PySem.F.entry_tuple_add (PySem.F.args_tuple_add_2 _ _)
      (tuple_addW2 t b vs.toArray ws.toArray n n2 dd dd2 sl sl2 (by simpa using hv) (by simpa using hw) (by rw [List.size_toArray, List.size_toArray]; exact hsz)) ⟨ho, ho2, ?_⟩
    rw [e]
    exact h2 hw

/-! ### t[a:b], not the whole -/
/-- a slice's bound as a place among n (d where it is left out) -/
def sIx (n d : Nat) : Option Int → Nat
  | none => d
  | some v => if v < 0 then (v + (n : Int)).toNat else min v.toNat n
end
end HT

namespace L2
open PySem PySem.Spec PyProof.Rows

/-! ### the parts of a slice -/
abbrev TO := St → Hp → (Option Int → Hp → Prop) → Prop
/-- a slice's part (left out, or an int) -/
def PO (X : Cx) (e : Option Expr) (t : TO) : Prop :=
  ∀ (pins : List (Addr × Obj)) (s : Shared) (σ : St) (H : Hp) (Q : Option Int → Hp → Prop), Inv X pins σ H s → t σ H Q →
    wpAny (model X.prog X.w) X.A (evalPart e X.env) (fun u s' => ∃ o H', Inv X pins σ H' s' ∧ IsPart u o ∧ Q o H') X.xe s
def tPart (t : TE) : TO := fun σ H Q => t σ H fun x H1 => ∃ i, x = .int i ∧ Q (some i) H1

theorem intsAre_of {ns : List Int} : ∀ {us : List Value}, Vals (ns.map V.int) us → IntsAre us ns := by
  induction ns with
  | nil => intro us r; rw [List.map_nil] at r; cases r; exact .nil
  | cons n ns ih =>
    intro us r
    rw [List.map_cons] at r
    cases r with
    | cons r1 r2 =>
      obtain ⟨t, e⟩ := r1
      subst e
      exact .cons n t (ih r2)

section
variable {X : Cx} {e : Expr} {te : TE} {lo hi : Option Expr} {tl th : TO} {pos p2 : Pos}

theorem po_some (h : PE X e te) : PO X (some e) (tPart te) := by
  intro pins s σ H Q I hw
  rw [evalPart_some]
  refine thn (h pins s σ H _ I hw) fun u s1 ⟨x, H1, I1, r1, q1⟩ => ?_
  obtain ⟨i, rfl, q⟩ := q1
  obtain ⟨t, rfl⟩ := r1
  exact ⟨some i, H1, I1, .int i t, q⟩

/-- what a slice of a value is, by values: the slice object stands at sl -/
def SlR (X : Cx) (r : V → Option Int → Option Int → Hp → VK → Prop) : Prop :=
  ∀ (pins : List (Addr × Obj)) (s : Shared) (σ : St) (H : Hp) (x : V) (v vl vu : Value) (lo hi : Option Int) (sl : Addr) (Q : VK), Inv X pins σ H s → RelV x v → s.heap.IsSliceOf sl vl vu .none → IsPart vl lo → IsPart vu hi → r x lo hi H Q →
    ∃ T id, typeLookup (.type T) "__getitem__" = pure (some (.builtin id)) ∧ s.TypeIs v T ∧ wpAny (model X.prog X.w) X.A (getItem v (.ref sl)) (EP X pins σ Q) X.xe s
theorem SlR.or {r r' : V → Option Int → Option Int → Hp → VK → Prop} (h : SlR X r) (h' : SlR X r') : SlR X (fun x lo hi H Q => r x lo hi H Q ∨ r' x lo hi H Q) := by
  intro pins s σ H x v vl vu lo hi sl Q I rx hs pl pu q
  rcases q with q | q
  · exact h pins s σ H x v vl vu lo hi sl Q I rx hs pl pu q
  · exact h' pins s σ H x v vl vu lo hi sl Q I rx hs pl pu q
def tSl (r : V → Option Int → Option Int → Hp → VK → Prop) (te : TE) (tl th : TO) : TE := fun σ H Q => te σ H fun x H1 => tl σ H1 fun l H2 => th σ H2 fun u H3 => r x l u H3 Q
/-- a[lo:hi], any a -/
theorem pe_slice {r : V → Option Int → Option Int → Hp → VK → Prop} (hr : SlR X r) (he : PE X e te) (hl : PO X lo tl) (hu : PO X hi th) : PE X (.Subscript e (.Slice lo hi none p2) pos) (tSl r te tl th) := by
  intro pins s σ H Q I h
  refine Subscript_ (thn (he pins s σ H _ I h) fun v s1 ⟨x, H1, I1, r1, q1⟩ => ?_)
  refine wpAny_Slice (thn (hl pins s1 σ H1 _ I1 q1) fun vl s2 ⟨l, H2, I2, pl, q2⟩ => thn (hu pins s2 σ H2 _ I2 q2) fun vu s3 ⟨u, H3, I3, pu, q3⟩ => ?_)
  rw [evalPart_none]
  refine wpAny_pure ?_
  have I4 : Inv X pins σ H3 { s3 with heap := s3.heap.push { cls := .type "slice", data := .fields #[vl, vu, .none] } } := I3.kept (t' := s3.toks) fun b ob q => Heap.get?_push_of_some _ q
  obtain ⟨T, id, hT, ht, hg⟩ := hr pins { s3 with heap := s3.heap.push { cls := .type "slice", data := .fields #[vl, vu, .none] } } σ H3 x v vl vu l u s3.heap.objs.size Q I4 r1 (Heap.IsSliceOf.new ..) pl pu q3
  show wpAny (model X.prog X.w) X.A (subscriptTail e (.Slice lo hi none p2) v (.ref s3.heap.objs.size)) (EP X pins σ Q) X.xe { s3 with heap := s3.heap.push { cls := .type "slice", data := .fields #[vl, vu, .none] } }
  exact tail_any (ops := [.ref s3.heap.objs.size, v]) ht hT hg (by with_unfolding_all rfl)

/-- the items of xs[lo:hi] -/
def cutV (xs : List V) (lo hi : Option Int) : List V := (xs.drop (HT.sIx xs.length 0 lo)).take (HT.sIx xs.length xs.length hi - HT.sIx xs.length 0 lo)
theorem cutV_length (xs : List V) (lo hi : Option Int) : (cutV xs lo hi).length ≤ xs.length := by
  unfold cutV
  rw [List.length_take, List.length_drop]
  omega
/-! ### t < u, t + u -/
/-- t + u, t not empty: u empty gives t itself -/
def rCatT (K : PySem.W.Frag) : R2 := fun x y H Q => ∃ a b xs ys, x = .ref a ∧ y = .ref b ∧ SqT K H a xs ∧ SqT K H b ys ∧ xs ≠ [] ∧ xs.length + ys.length ≤ sizeLine ∧
  (ys = [] → Q (.ref a) H) ∧ (ys ≠ [] → ∀ p, H p = none → Q (.ref p) (upd H p (.tup (xs ++ ys))))
theorem Vals.nil_iff {xs : List V} {us : List Value} (r : Vals xs us) : us = [] ↔ xs = [] := by
  cases r with
  | nil => simp
  | cons _ _ => simp
theorem op_catT : OpR X (binaryOp .Add) (rCatT X.K) := by
  intro pins s σ H x y v u Q I rx ry h
  obtain ⟨a, b, xs, ys, rfl, rfl, ha, hb, hx, hz, q1, q2⟩ := h
  cases rx
  cases ry
  obtain ⟨its, r1, p1, _⟩ := I.tuple ha
  obtain ⟨its2, r2, p2, _⟩ := I.tuple hb
  refine HT.cat_tup p1 p2 (fun z => hx (r1.nil_iff.mp z)) (fun z => ⟨.ref a, H, I, rfl, q1 (r2.nil_iff.mp z)⟩) (fun z => ?_) (by rw [← r1.length, ← r2.length]; exact hz)
  refine ⟨.ref s.heap.objs.size, _, I.laid (t' := s.toks) (o := .tup (xs ++ ys)) (fun b ob q => Heap.get?_push_of_some _ q) (Nat.le_refl _) ?_, rfl, q2 (fun w => z (r2.nil_iff.mpr w)) _ (I.hok.fresh (Nat.le_refl _))⟩
  exact ⟨by rw [List.length_append]; exact hz, _, r1.append r2, IsTupD.new _ _⟩
end
end L2

namespace L2
open PySem PySem.Spec PyProof.Rows

/-! ### places -/
/-- the place that an index of any sign means -/
def ixN (n : Nat) (i : Int) : Option Nat := if 0 ≤ i then (if i < n then some i.toNat else none) else if -(n : Int) ≤ i then some (i + n).toNat else none
def atI {α : Type} (xs : List α) (i : Int) : Option α := (ixN xs.length i).bind fun j => xs[j]?
theorem ixN_seq {n : Nat} {i : Int} {j : Nat} (h : ixN n i = some j) : seqIndex? i n = some j ∧ j < n ∧ -(n : Int) ≤ i ∧ i < n := by
  unfold ixN at h
  by_cases h0 : 0 ≤ i
  · rw [if_pos h0] at h
    by_cases h1 : i < n
    · rw [if_pos h1] at h
      have e : i.toNat = j := Option.some.inj h
      exact ⟨by rw [seqIndex_of h0 h1, e], by omega, by omega, h1⟩
    · rw [if_neg h1] at h; cases h
  · rw [if_neg h0] at h
    by_cases h1 : -(n : Int) ≤ i
    · rw [if_pos h1] at h
      have e : (i + n).toNat = j := Option.some.inj h
      exact ⟨by rw [seqIndex_neg (by omega) h1, e], by omega, h1, by omega⟩
    · rw [if_neg h1] at h; cases h
theorem atI_get {α : Type} {xs : List α} {i : Int} {v : α} (h : atI xs i = some v) : ∃ j, seqIndex? i xs.length = some j ∧ xs[j]? = some v ∧ j < xs.length ∧ -(xs.length : Int) ≤ i ∧ i < xs.length := by
  unfold atI at h
  cases e : ixN xs.length i with
  | none => rw [e] at h; cases h
  | some j =>
    rw [e] at h
    obtain ⟨h1, h2, h3, h4⟩ := ixN_seq e
    exact ⟨j, h1, h, h2, h3, h4⟩
theorem atI_nat {α : Type} {xs : List α} {j : Nat} {v : α} (h : xs[j]? = some v) : atI xs (j : Int) = some v := by
  have hj : j < xs.length := (List.getElem?_eq_some_iff.mp h).1
  have e : ixN xs.length (j : Int) = some j := by
    unfold ixN
    rw [if_pos (by omega), if_pos (by omega)]; simp
  unfold atI; rw [e]; exact h
/-! ### what may be subscripted -/
/-- what stands as an index of a plain subscript -/
def PlainIx (b : Expr) : Prop := ∀ o i, subscripted b false o i = operate [o, i] (getItem o i)
/-- a subscript by values -/
def IxR (X : Cx) (r : R2) : Prop :=
  ∀ (value slice : Expr) (pins : List (Addr × Obj)) (s : Shared) (σ : St) (H : Hp) (x y : V) (v u : Value) (Q : VK), Inv X pins σ H s → RelV x v → RelV y u → r x y H Q →
    subscripted slice false v u = operate [v, u] (getItem v u) → wpAny (model X.prog X.w) X.A (subscriptTail value slice v u) (EP X pins σ Q) X.xe s
/-- a call of a builtin's method by values: the receiver, the arguments -/
def MtR (X : Cx) (id : String) (r : V → List V → Hp → VK → Prop) : Prop :=
  ∀ (pins : List (Addr × Obj)) (s : Shared) (σ : St) (H : Hp) (x : V) (xs : List V) (v : Value) (us : List Value) (Q : VK), Inv X pins σ H s → RelV x v → Vals xs us → r x xs H Q →
    wpAny (model X.prog X.w) X.A (call (.builtin id) (v :: us)) (EP X pins σ Q) X.xe s
section
variable {X : Cx} {a b : Expr} {ta tb : TE} {pos : Pos}
theorem IxR.or {r r' : R2} (h : IxR X r) (h' : IxR X r') : IxR X (fun x y H Q => r x y H Q ∨ r' x y H Q) := by
  intro value slice pins s σ H x y v u Q I rx ry q hs
  rcases q with q | q
  · exact h value slice pins s σ H x y v u Q I rx ry q hs
  · exact h' value slice pins s σ H x y v u Q I rx ry q hs
theorem MtR.or {id : String} {r r' : V → List V → Hp → VK → Prop} (h : MtR X id r) (h' : MtR X id r') : MtR X id (fun x xs H Q => r x xs H Q ∨ r' x xs H Q) := by
  intro pins s σ H x xs v us Q I rx rs q
  rcases q with q | q
  · exact h pins s σ H x xs v us Q I rx rs q
  · exact h' pins s σ H x xs v us Q I rx rs q
/-- a[b] -/
theorem pe_ix {r : R2} (hr : IxR X r) (ha : PE X a ta) (hb : PE X b tb) (hs : PlainIx b) : PE X (.Subscript a b pos) (tOp r ta tb) := by
  intro pins s σ H Q I h
  exact Subscript_ (binT ha hb I h fun v u s2 x y H2 I2 rx ry q => hr a b pins s2 σ H2 x y v u Q I2 rx ry q (hs _ _))

def rIxL (K : PySem.W.Frag) : R2 := fun x y H Q => ∃ p xs i v, x = .ref p ∧ y = .int i ∧ SqL K H p xs ∧ atI xs i = some v ∧ Q v H
def rIxT (K : PySem.W.Frag) : R2 := fun x y H Q => ∃ p xs i v, x = .ref p ∧ y = .int i ∧ SqT K H p xs ∧ atI xs i = some v ∧ Q v H
theorem ix_list : IxR X (rIxL X.K) := by
  intro value slice pins s σ H x y v u Q I rx ry h hs
  obtain ⟨p, xs, i, z, rfl, rfl, hq, he, q⟩ := h
  cases rx
  obtain ⟨t, rfl⟩ := ry
  obtain ⟨its, r, pl, hz⟩ := I.list hq
  obtain ⟨j, h1, h2, h3, h4, h5⟩ := atI_get he
  obtain ⟨w, ew, rw'⟩ := r.get h2
  have hl := r.length
  have hn := line63
  have fin : EP X pins σ Q w s := ⟨z, H, I, rw', q⟩
  by_cases h0 : 0 ≤ i
  · have hj : i.toNat = j := by
      rw [seqIndex_of h0 h5] at h1
      exact Option.some.inj h1
    exact item_listR pl.isList h0 (by omega) (by rw [hj]; simpa using ew) fin hs
  · have hj : (i + (its.toArray.size : Int)).toNat = j := by
      rw [seqIndex_neg (by omega) h4] at h1
      rw [List.size_toArray, ← hl]
      exact Option.some.inj h1
    exact subscriptTail_builtinR (x := w) pl.isList.typeIs slot_list_getitem.lookup
      (wpAny_getItem_list_neg (Q := fun r s' => r = w ∧ EP X pins σ Q r s') pl.isList (by omega) (by rw [List.size_toArray] <;> omega) (by omega) (by rw [hj]; simpa using ew) ⟨rfl, fin⟩) hs
theorem ix_tup : IxR X (rIxT X.K) := by
  intro value slice pins s σ H x y v u Q I rx ry h hs
  obtain ⟨p, xs, i, z, rfl, rfl, hq, he, q⟩ := h
  cases rx
  obtain ⟨t, rfl⟩ := ry
  obtain ⟨its, r, pl, hz⟩ := I.tuple hq
  obtain ⟨j, h1, h2, h3, h4, h5⟩ := atI_get he
  obtain ⟨w, ew, rw'⟩ := r.get h2
  have hl := r.length
  have hn := line63
  have fin : EP X pins σ Q w s := ⟨z, H, I, rw', q⟩
  exact subscriptTail_builtinR (x := w) pl.typeIs slot_tuple_getitem.lookup
    (getItem_tuple (j := j) (Q := fun r s' => r = w ∧ EP X pins σ Q r s') pl (by omega) (by omega) (by rw [List.size_toArray, ← hl]; exact h1) (by simpa using ew) ⟨rfl, fin⟩) hs
/-! ### xs[i] = v, any sign -/
/-- the list's object behind a store -/
theorem mapSeq_set (its : List Value) (n j : Nat) (u : Value) : Obj.mapSeq (·.setIfInBounds j u) { cls := .type "list", data := .seq its.toArray n } = { cls := .type "list", data := .seq (its.set j u).toArray n } := by
  simp [Obj.mapSeq]
theorem Inv.lst {pins : List (Addr × Obj)} {σ : St} {H : Hp} {s : Shared} {p : Addr} {xs : List V} (I : Inv X pins σ H s) (h : H p = some (.lst xs)) :
    ∃ (its : List Value) (n : Nat), Vals xs its ∧ s.heap.get? p = some { cls := .type "list", data := .seq its.toArray n } ∧ xs.length ≤ sizeLine := by
  obtain ⟨z, its, n, r, e⟩ := I.hok p _ h
  exact ⟨its, n, r, e, z⟩
/-- the list at p is written by an update of its object -/
theorem Inv.lstUpd {pins : List (Addr × Obj)} {σ : St} {H : Hp} {s : Shared} {p : Addr} {xs ys : List V} {its its' : List Value} {n n' : Nat} {f : Obj → Obj} (I : Inv X pins σ H s) (h : H p = some (.lst xs))
    (ho : s.heap.get? p = some { cls := .type "list", data := .seq its.toArray n }) (hf : f { cls := .type "list", data := .seq its.toArray n } = { cls := .type "list", data := .seq its'.toArray n' }) (r : Vals ys its') (hz : ys.length ≤ sizeLine) (t : Nat) :
    Inv X pins σ (upd H p (.lst ys)) { s with heap := s.heap.update p f, toks := t } := by
  have e : (s.heap.update p f).get? p = some { cls := .type "list", data := .seq its'.toArray n' } := by
    rw [Heap.get?_update_self f ho (by rw [hf] <;> rfl), hf]
  refine I.write (x := p) (e := p) (by rw [h]; trivial) (.inl rfl) (fun b u hb q => (Heap.get?_update_other _ _ (Ne.symm hb)).trans q) ⟨_, e⟩ ?_
  exact ⟨hz, its', n', r, e⟩
def rSetL : V → V → V → Hp → (Hp → Prop) → Prop := fun o i v H Q => ∃ p xs k j, o = .ref p ∧ i = .int k ∧ H p = some (.lst xs) ∧ ixN xs.length k = some j ∧ Q (upd H p (.lst (xs.set j v)))
theorem set_list : PSet X rSetL := by
  intro pins s σ H o i v ov iv u Q I ro ri rv h
  obtain ⟨p, xs, k, j, rfl, rfl, hp, hj, q⟩ := h
  cases ro
  obtain ⟨t, rfl⟩ := ri
  obtain ⟨its, n, r, ho, hz⟩ := I.lst hp
  obtain ⟨h1, h2, h3, h4⟩ := ixN_seq hj
  have hl := r.length
  have hn := line63
  have I' : Inv X pins σ (upd H p (.lst (xs.set j v))) { s with heap := s.heap.update p (Obj.mapSeq (·.setIfInBounds j u)) } :=
    I.lstUpd hp ho (mapSeq_set its n j u) (r.set rv j) (by rw [List.length_set]; exact hz) s.toks
  by_cases h0 : 0 ≤ k
  · have hk : k.toNat = j := by
      rw [seqIndex_of h0 h4] at h1
      exact Option.some.inj h1
    exact PySem.W.ki_setAt ho h0 (by omega) (by rw [List.size_toArray, ← hl]; exact h4) (by rw [hk]; exact ⟨_, I', q⟩)
  · have hk : (k + (its.toArray.size : Int)).toNat = j := by
      rw [seqIndex_neg (by omega) h3] at h1
      rw [List.size_toArray, ← hl]
      exact Option.some.inj h1
    exact PySem.W.ki_setBack ho (by omega) (by rw [List.size_toArray, ← hl]; exact h3) (by omega) (by rw [hk]; exact ⟨_, I', q⟩)

/-! ### slices -/
theorem slice_bounds (lo hi : Option Int) (n : Nat) : (sliceBounds lo hi none n).1 = ((HT.sIx n 0 lo : Nat) : Int) ∧ (sliceBounds lo hi none n).2.1 = ((HT.sIx n n hi : Nat) : Int) ∧ (sliceBounds lo hi none n).2.2 = 1 := by
  refine ⟨?_, ?_, rfl⟩
  · cases lo with
    | none => simp [sliceBounds, HT.sIx]
    | some i =>
      simp only [sliceBounds, HT.sIx, Option.getD_none, show (1 : Int) > 0 by decide, if_true]
      by_cases h : i < 0
      · simp only [h, if_true] <;> omega
      · simp only [h, if_false] <;> omega
  · cases hi with
    | none => simp [sliceBounds, HT.sIx]
    | some i =>
      simp only [sliceBounds, HT.sIx, Option.getD_none, show (1 : Int) > 0 by decide, if_true]
      by_cases h : i < 0
      · simp only [h, if_true] <;> omega
      · simp only [h, if_false] <;> omega
theorem slicePick_cut (its : List Value) (lo hi : Option Int) : slicePick its.toArray lo hi none = ((its.drop (HT.sIx its.length 0 lo)).take (HT.sIx its.length its.length hi - HT.sIx its.length 0 lo)).toArray := by
  obtain ⟨h1, h2, h3⟩ := slice_bounds lo hi its.toArray.size
  unfold slicePick
  rw [h1, h2, h3]
  simp only [sliceRange_one, pick_run, List.size_toArray] <;> rfl
/-- xs[lo:hi] of a list: a new list -/
def rSlL (K : PySem.W.Frag) : V → Option Int → Option Int → Hp → VK → Prop := fun x lo hi H Q => ∃ a xs, x = .ref a ∧ SqL K H a xs ∧ ∀ p, H p = none → Q (.ref p) (upd H p (.lst (cutV xs lo hi)))
theorem sl_list : SlR X (rSlL X.K) := by
  intro pins s σ H x v vl vu lo hi sl Q I rx hs pl pu h
  obtain ⟨a, xs, rfl, hx, q⟩ := h
  cases rx
  obtain ⟨its, r, ht, hz⟩ := I.list hx
  have hlen := r.length
  refine ⟨"list", _, slot_list_getitem.lookup, ht.isList.typeIs, ?_⟩
  refine wpAny_getItem_list_slice ht.isList hs pl pu .none (by simp) ?_ (by rw [List.size_toArray] <;> omega)
  rw [slicePick_cut, ← hlen]
  refine ⟨.ref s.heap.objs.size, _, I.laid (t' := s.toks) (o := .lst (cutV xs lo hi)) (fun b ob q => Heap.get?_push_of_some _ q) (Nat.le_refl _) ?_, rfl, q _ (I.hok.fresh (Nat.le_refl _))⟩
  exact ⟨Nat.le_trans (cutV_length xs lo hi) hz, _, 0, (r.drop (HT.sIx xs.length 0 lo)).take (HT.sIx xs.length xs.length hi - HT.sIx xs.length 0 lo), Heap.get?_push_size _ rfl⟩

/-! ### in, not in: flat items -/
/-! ### len, list(x), tuple(x) of any list or tuple that is read -/
theorem call_len_seq : CallR X (.builtin "len") (fun xs H Q => ∃ p ys, xs = [.ref p] ∧ (SqL X.K H p ys ∨ SqT X.K H p ys) ∧ Q (.int ys.length) H) := by
  intro pins s σ H xs us Q I r h
  obtain ⟨p, ys, rfl, hq, q⟩ := h
  obtain ⟨u, rfl, rx⟩ := vals1 r
  cases rx
  have hn := line63
  rcases hq with hq | hq
  · obtain ⟨its, r', pl, hz⟩ := I.list hq
    have hlen := r'.length
    exact Calls.call_len_list pl.isList (by simp only [List.size_toArray] <;> omega) ⟨.int ys.length, H, I.tok _, ⟨s.toks + 1, by rw [List.size_toArray, hlen]⟩, q⟩
  · obtain ⟨its, r', pl, hz⟩ := I.tuple hq
    have hlen := r'.length
    exact len_tuple pl (by simp only [List.size_toArray] <;> omega) ⟨.int ys.length, H, I.tok _, ⟨s.toks + 1, by rw [List.size_toArray, hlen]⟩, q⟩
theorem CallR.or {f : Value} {r r' : List V → Hp → VK → Prop} (h : CallR X f r) (h' : CallR X f r') : CallR X f (fun xs H Q => r xs H Q ∨ r' xs H Q) := by
  intro pins s σ H xs us Q I rs q
  rcases q with q | q
  · exact h pins s σ H xs us Q I rs q
  · exact h' pins s σ H xs us Q I rs q
theorem call_list_of : CallR X (.type "list") (fun xs H Q => ∃ p ys, xs = [.ref p] ∧ (SqL X.K H p ys ∨ SqT X.K H p ys) ∧ ∀ l, H l = none → Q (.ref l) (upd H l (.lst ys))) := by
  intro pins s σ H xs us Q I r h
  obtain ⟨p, ys, rfl, hq, q⟩ := h
  obtain ⟨u, rfl, rx⟩ := vals1 r
  cases rx
  have fin : ∀ (its : List Value), Vals ys its → ys.length ≤ sizeLine → ∀ (h' : Heap) (c' : Nat), (∀ b o', s.heap.get? b = some o' → h'.get? b = some o') →
      h'.get? s.heap.objs.size = some { cls := .type "list", dict := none, data := .seq its.toArray c', slots := #[] } → EP X pins σ Q (.ref s.heap.objs.size) { s with heap := h' } := fun its r' hz h' c' kp e =>
    ⟨.ref s.heap.objs.size, _, I.laid (t' := s.toks) kp (Nat.le_refl _) (show ObjOk X.prog X.w _ h' _ (.lst ys) from ⟨hz, its, c', r', e⟩), rfl, q _ (I.hok.fresh (Nat.le_refl _))⟩
  rcases hq with hq | hq
  · obtain ⟨its, r', pl, hz⟩ := I.list hq
    have hlen := r'.length
    obtain ⟨o, ho, hc, n, hd⟩ := pl.isList
    exact call_list_seq p (.inl rfl) ho hc hd (fun h' c' kp e => fin its r' hz h' c' kp e) (by simp only [List.size_toArray] <;> omega)
  · obtain ⟨its, r', pl, hz⟩ := I.tuple hq
    have hlen := r'.length
    obtain ⟨o, ho, hc, n, hd⟩ := pl
    exact call_list_seq p (.inr rfl) ho hc hd (fun h' c' kp e => fin its r' hz h' c' kp e) (by simp only [List.size_toArray] <;> omega)
theorem call_tuple_of : CallR X (.type "tuple") (fun xs H Q => ∃ p ys, xs = [.ref p] ∧ ((SqL X.K H p ys ∧ ∀ l, H l = none → Q (.ref l) (upd H l (.tup ys))) ∨ (SqT X.K H p ys ∧ Q (.ref p) H))) := by
  intro pins s σ H xs us Q I r h
  obtain ⟨p, ys, rfl, h⟩ := h
  obtain ⟨u, rfl, rx⟩ := vals1 r
  cases rx
  rcases h with ⟨hq, q⟩ | ⟨hq, q⟩
  · obtain ⟨its, r', pl, hz⟩ := I.list hq
    have hlen := r'.length
    refine call_tuple_list pl.isList (fun h' kp => ?_) (by simp only [List.size_toArray] <;> omega)
    have I1 : Inv X pins σ H { s with heap := h' } := I.kept (t' := s.toks) kp
    have I2 : Inv X pins σ (upd H h'.objs.size (.tup ys)) { s with heap := h'.push { cls := .type "tuple", data := .seq its.toArray } } :=
      I1.laid (t' := s.toks) (fun b o e => Heap.get?_push_of_some _ e) (Nat.le_refl _) (show ObjOk X.prog X.w _ _ _ (.tup ys) from ⟨hz, its, r', IsTupD.new _ _⟩)
    exact ⟨.ref h'.objs.size, _, I2, rfl, q _ (I1.hok.fresh (Nat.le_refl _))⟩
  · obtain ⟨its, r', pl, hz⟩ := I.tuple hq
    exact call_tuple_same pl ⟨.ref p, H, I, rfl, q⟩

/-! ### the call of a builtin's method: o.m(..) -/
/-- the value is of that builtin type -/
def tyV (K : PySem.W.Frag) (T : String) (x : V) (H : Hp) : Prop := match x with
  | .str _ => T = "str"
  | .int _ => T = "int"
  | .ref p => (T = "list" ∧ ∃ xs, SqL K H p xs) ∨ (T = "tuple" ∧ ∃ o, K.lookup p = some o ∧ o.cls = .type "tuple" ∧ o.dict = none) ∨
      (T = "dict" ∧ ((∃ kvs, H p = some (.dK kvs)) ∨ ∃ kvs, H p = some (.dT kvs))) ∨ (T = "set" ∧ ∃ S n, H p = some (.set S n))
  | _ => False
theorem tyV_is {pins : List (Addr × Obj)} {σ : St} {H : Hp} {s : Shared} {T : String} {x : V} {v : Value} (I : Inv X pins σ H s) (r : RelV x v) (ty : tyV X.K T x H) :
    s.TypeIs v T ∧ ∀ a, v = .ref a → ∃ ob, s.heap.get? a = some ob ∧ ob.dict = none := by
  cases x with
  | str z =>
    obtain ⟨t, rfl⟩ := r
    cases (show T = "str" from ty)
    exact ⟨typeIs_str s z t, fun _ e => nomatch e⟩
  | int i =>
    obtain ⟨t, rfl⟩ := r
    cases (show T = "int" from ty)
    exact ⟨typeIs_int s i t, fun _ e => nomatch e⟩
  | ref p =>
    cases r
    rcases ty with ⟨rfl, xs, hq⟩ | ⟨rfl, o, hk, hc, hd⟩ | ⟨rfl, hk⟩ | ⟨rfl, S, n, hk⟩
    · obtain ⟨its, _, pl, _⟩ := I.list hq
      refine ⟨pl.isList.typeIs, fun a e => ?_⟩
      cases e
      obtain ⟨o, n, e, c, hd, _⟩ := pl
      exact ⟨o, e, hd⟩
    · refine ⟨⟨o, I.kIn p o hk, hc⟩, fun a e => ?_⟩
      cases e
      exact ⟨o, I.kIn _ o hk, hd⟩
    · have z : ∃ o, s.heap.get? p = some o ∧ o.ExactDict := by
        rcases hk with ⟨kvs, hk⟩ | ⟨kvs, hk⟩
        · obtain ⟨_, _, _, _, o, _, _, e, ex, _⟩ := I.hok p _ hk
          exact ⟨o, e, ex⟩
        · obtain ⟨_, _, _, _, o, _, _, e, ex, _⟩ := I.hok p _ hk
          exact ⟨o, e, ex⟩
      obtain ⟨o, e, ex⟩ := z
      refine ⟨⟨o, e, ex.1⟩, fun a e2 => ?_⟩
      cases e2
      exact ⟨o, e, ex.2.1⟩
    · obtain ⟨o, _, _, _, e, ex, _⟩ := I.hok p _ hk
      refine ⟨⟨o, e, ex.1⟩, fun a e2 => ?_⟩
      cases e2
      exact ⟨o, e, ex.2.1⟩
  | _ => exact False.elim ty
def tBM0 (K : PySem.W.Frag) (T : String) (r : V → List V → Hp → VK → Prop) (to : TE) : TE := fun σ H Q => to σ H fun x H1 => tyV K T x H1 ∧ r x [] H1 Q
def tBM (K : PySem.W.Frag) (T : String) (r : V → List V → Hp → VK → Prop) (to : TE) (t : TA) : TE := fun σ H Q => to σ H fun x H1 => tyV K T x H1 ∧ t σ H1 fun xs H2 => r x xs H2 Q
variable {o e : Expr} {es : List Expr} {to : TE} {t : TA} {name : Str} {apos cpos : Pos} {T id : String} {r : V → List V → Hp → VK → Prop}
theorem pe_bm0 (pa : PlainAttrs T) (slot : Slot T name id) (hty : typeOf (.builtin id) = pure (.type "method_descriptor")) (hm : MtR X id r) (ho : PE X o to)
    (hbase : attributeBase o name X.env (eval o X.env) = eval o X.env := by rfl) (hline : (apos.endLine == cpos.line) = true := by rfl) : PE X (.Call (.Attribute o name apos) [] [] cpos) (tBM0 X.K T r to) := by
  intro pins s σ H Q I h
  refine wpAny_Call_method0_late hbase hline (thn (ho pins s σ H _ I h) fun v s1 ⟨x, H1, I1, r1, ty, q1⟩ => ?_)
  obtain ⟨h1, h2⟩ := tyV_is I1 r1 ty
  exact ⟨T, id, pa, slot, hty, h1, h2, Calls.callWith_builtin rfl (PySem.evalArgs_none (hm pins s1 σ H1 x [] v [] Q I1 r1 .nil q1))⟩
theorem pe_bm (pa : PlainAttrs T) (slot : Slot T name id) (hty : typeOf (.builtin id) = pure (.type "method_descriptor")) (hm : MtR X id r) (ho : PE X o to) (ha : PA X (e :: es) t)
    (hbase : attributeBase o name X.env (eval o X.env) = eval o X.env := by rfl)
    (hfew : ((backTo cpos (starEach (e :: es) X.env)).all (fun x => !x.1) && (backToKw cpos (keywordEach [] X.env)).all (fun x => x.1.isSome)
      && decide ((e :: es).length + ([] : List Keyword).length + (if ([] : List Keyword).isEmpty then 0 else 1) < 30)) = true := by rfl)
    (hline : (apos.endLine == cpos.line) = true := by rfl) (hs : starEach (e :: es) X.env = (false, eval e X.env) :: starEach es X.env := by rfl) (hplain : (backTo cpos (starEach es X.env)).any (·.1) = false := by rfl) :
    PE X (.Call (.Attribute o name apos) (e :: es) [] cpos) (tBM X.K T r to t) := by
  intro pins s σ H Q I h
  refine wpAny_Call_method_late hbase hfew hline rfl (thn (ho pins s σ H _ I h) fun v s1 ⟨x, H1, I1, r1, ty, q1⟩ => ?_)
  obtain ⟨h1, h2⟩ := tyV_is I1 r1 ty
  refine ⟨T, id, pa, slot, hty, h1, h2, ?_⟩
  have hA := ha cpos pins s1 σ H1 _ I1 q1
  rw [hs] at hA ⊢
  refine Calls.callWith_builtin (by show (false || (backTo cpos (starEach es X.env)).any (·.1)) = false; rw [hplain] <;> rfl) (Calls.evalArgs_plain ?_)
  exact thn hA fun us s2 ⟨vs, H2, I2, r2, q2⟩ => hm pins s2 σ H2 x vs v us Q I2 r1 r2 q2
/- xs.append(e), list.index on a module's tuple .. are MtR facts of 06m -/
end
end L2

namespace L2
open PySem PySem.Spec PyProof.Rows

def MtM (X : Cx) (id : String) (r : V → List V → Hp → VK → Prop) : Prop :=
  ∀ (pins : List (Addr × Obj)) (s : Shared) (σ : St) (H : Hp) (x : V) (xs : List V) (v : Value) (us : List Value) (Q : VK), Inv X pins σ H s → RelV x v → Vals xs us → r x xs H Q →
    wpAny (model X.prog X.w) X.A (call (.builtin id) (v :: us)) (EP X pins σ Q) X.xe s

/-! ### lists of values -/
theorem Vals.one : ∀ {x : V} {us : List Value}, Vals [x] us → ∃ u, us = [u] ∧ RelV x u
  | _, _, .cons r .nil => ⟨_, rfl, r⟩
theorem Vals.two : ∀ {x y : V} {us : List Value}, Vals [x, y] us → ∃ u v, us = [u, v] ∧ RelV x u ∧ RelV y v
  | _, _, _, .cons r (.cons q .nil) => ⟨_, _, rfl, r, q⟩
theorem Vals.zero : ∀ {us : List Value}, Vals [] us → us = []
  | _, .nil => rfl
theorem Vals.dropLast {xs : List V} {us : List Value} (h : Vals xs us) : Vals xs.dropLast us.dropLast := by
  induction h with
  | nil => exact .nil
  | cons r t ih =>
    cases t with
    | nil => exact .nil
    | cons q t' => exact .cons r ih
theorem Vals.eraseIdx : ∀ {xs : List V} {us : List Value} (i : Nat), Vals xs us → Vals (xs.eraseIdx i) (us.eraseIdx i)
  | _, _, _, .nil => .nil
  | _, _, 0, .cons _ t => t
  | _, _, i + 1, .cons r t => .cons r (Vals.eraseIdx i t)
theorem Vals.reverse {xs : List V} {us : List Value} (h : Vals xs us) : Vals xs.reverse us.reverse := by
  induction h with
  | nil => exact .nil
  | cons r t ih => rw [List.reverse_cons, List.reverse_cons]; exact Vals.append ih (.cons r .nil)
theorem Vals.rep {xs : List V} {us : List Value} (h : Vals xs us) : ∀ k : Nat, Vals (List.replicate k xs).flatten (List.replicate k us).flatten
  | 0 => .nil
  | k + 1 => by
    rw [List.replicate_succ, List.replicate_succ, List.flatten_cons, List.flatten_cons]
    exact Vals.append h (Vals.rep h k)
theorem erase_last {α : Type} (l : List α) : l.eraseIdx (l.length - 1) = l.dropLast := by
  induction l with
  | nil => rfl
  | cons a r ih =>
    cases r with
    | nil => rfl
    | cons b r =>
      have e : (a :: b :: r).length - 1 = ((b :: r).length - 1) + 1 := by
        have h1 : (a :: b :: r).length = r.length + 2 := rfl
        have h2 : (b :: r).length = r.length + 1 := rfl
        omega
      rw [e, List.eraseIdx_cons_succ, ih]
      all_goals rfl
theorem len_erase {α : Type} : ∀ (l : List α) (i : Nat), (l.eraseIdx i).length ≤ l.length
  | [], _ => Nat.le_refl _
  | _ :: _, 0 => Nat.le_succ _
  | _ :: r, i + 1 => Nat.succ_le_succ (len_erase r i)
section
variable {X : Cx} {pins : List (Addr × Obj)} {σ : St} {H : Hp} {s : Shared} {l b : Addr} {xs ys zs : List V}

/-! ### the two steps: a tracked list is rewritten, a new list is laid -/
theorem Inv.lset {its its' : List Value} {n : Nat} {f : Array Value → Array Value} {t' : Nat} (I : Inv X pins σ H s) (hH : H l = some (.lst xs))
    (e : s.heap.get? l = some { cls := .type "list", data := .seq its.toArray n }) (hf : f its.toArray = its'.toArray) (hv : Vals ys its') (hz : ys.length ≤ sizeLine) :
    Inv X pins σ (upd H l (.lst ys)) { s with heap := s.heap.update l (Obj.mapSeq f), toks := t' } := by
  have q := PySem.IsL.update e f
  rw [hf] at q
  refine I.write (x := l) (e := l) (by rw [hH]; exact trivial) (.inl rfl) (fun b' u hb hu => (Heap.get?_update_other s.heap (Obj.mapSeq f) (Ne.symm hb)).trans hu) ⟨_, q⟩ ?_
  exact ⟨hz, its', _, hv, q⟩
theorem Inv.lnew {its : List Value} {t' : Nat} (I : Inv X pins σ H s) (hv : Vals ys its) (hz : ys.length ≤ sizeLine) :
    Inv X pins σ (upd H s.heap.objs.size (.lst ys)) { s with heap := s.heap.push { cls := .type "list", data := .seq its.toArray }, toks := t' } :=
  I.laid (fun _ _ q => Heap.get?_push_of_some _ q) (Nat.le_refl _) ⟨hz, its, 0, hv, Heap.get?_push_size _ rfl⟩
theorem Inv.fresh (I : Inv X pins σ H s) : H s.heap.objs.size = none := I.hok.fresh (Nat.le_refl _)
theorem Inv.lstM (I : Inv X pins σ H s) (hH : H l = some (.lst xs)) : xs.length ≤ sizeLine ∧ ∃ (its : List Value) (n : Nat), Vals xs its ∧ xs.length = its.length ∧ s.heap.get? l = some { cls := .type "list", data := .seq its.toArray n } := by
  obtain ⟨z, its, n, r, e⟩ := I.hok l _ hH
  exact ⟨z, its, n, r, r.length, e⟩

end

section
variable {X : Cx}

/-! ### methods -/
def rAppend : V → List V → Hp → VK → Prop := fun x vs H Q => ∃ l xs y, x = .ref l ∧ vs = [y] ∧ H l = some (.lst xs) ∧ xs.length < sizeLine ∧ Q .non (upd H l (.lst (xs ++ [y])))
theorem mt_append : MtM X "list.append" rAppend := by
  intro pins s σ H x vs v us Q I rx rv h
  obtain ⟨l, xs, y, rfl, rfl, hH, hz, q⟩ := h
  cases rx
  obtain ⟨u, rfl, ru⟩ := rv.one
  obtain ⟨z, its, n, r, hl, e⟩ := I.lstM hH
  refine call_meets F.slot_list_append ⟨_, e, rfl⟩ F.entry_list_append (F.args_list_append_2 _ _) (PySem.list_append l its.toArray n u (by rw [List.size_toArray]; omega)) ⟨e, ?_⟩
  refine ⟨.non, _, I.lset (its' := its ++ [u]) hH e (by simp) (r.append (.cons ru .nil)) ?_, rfl, q⟩
  rw [List.length_append, List.length_singleton]
  omega

def rPop : V → List V → Hp → VK → Prop := fun x vs H Q => ∃ l xs y, x = .ref l ∧ vs = [] ∧ H l = some (.lst xs) ∧ xs[xs.length - 1]? = some y ∧ Q y (upd H l (.lst xs.dropLast))
theorem mt_pop : MtM X "list.pop" rPop := by
  intro pins s σ H x vs v us Q I rx rv h
  obtain ⟨l, xs, y, rfl, rfl, hH, hy, q⟩ := h
  cases rx
  have hus := rv.zero
  subst hus
  obtain ⟨z, its, n, r, hl, e⟩ := I.lstM hH
  obtain ⟨u, hu, ru⟩ := r.get hy
  have hy' : its.toArray[its.toArray.size - 1]? = some u := by
    show its.toArray[its.length - 1]? = some u
    rw [← Array.getElem?_toList, ← hl]
    exact hu
  refine call_meets F.slot_list_pop ⟨_, e, rfl⟩ F.entry_list_pop (F.args_list_pop_1 _) (MeetsSeq.list_pop_last l its.toArray n u hy' (by rw [List.size_toArray]; omega)) ⟨e, ?_⟩
  refine ⟨y, _, I.lset (its' := its.dropLast) hH e ?_ r.dropLast ?_, ru, q⟩
  · show its.toArray.eraseIdxIfInBounds (its.toArray.size - 1) = its.dropLast.toArray
    rw [List.size_toArray, List.eraseIdxIfInBounds_toArray, erase_last]
  · rw [List.length_dropLast]
    omega

def rPopAt : V → List V → Hp → VK → Prop := fun x vs H Q => ∃ l xs i k y, x = .ref l ∧ vs = [.int i] ∧ H l = some (.lst xs) ∧ -(2 ^ 63) ≤ i ∧ i < 2 ^ 63 ∧ seqIndex? i xs.length = some k ∧ xs[k]? = some y ∧ Q y (upd H l (.lst (xs.eraseIdx k)))
theorem mt_popAt : MtM X "list.pop" rPopAt := by
  intro pins s σ H x vs v us Q I rx rv h
  obtain ⟨l, xs, i, k, y, rfl, rfl, hH, h1, h2, hk, hy, q⟩ := h
  cases rx
  obtain ⟨u, rfl, ru⟩ := rv.one
  obtain ⟨t, rfl⟩ := ru
  obtain ⟨z, its, n, r, hl, e⟩ := I.lstM hH
  obtain ⟨w, hw, rw'⟩ := r.get hy
  refine call_meets F.slot_list_pop ⟨_, e, rfl⟩ F.entry_list_pop (F.args_list_pop_2 _ _)
    (MeetsSeq.list_pop_at l its.toArray n i t k w (fitsIndex_both h1 h2) (by rw [List.size_toArray, ← hl]; exact hk) (by rw [← Array.getElem?_toList]; exact hw) (by rw [List.size_toArray]; omega)) ⟨e, ?_⟩
  refine ⟨y, _, I.lset (its' := its.eraseIdx k) hH e ?_ (r.eraseIdx k) ?_, rw', q⟩
  · show its.toArray.eraseIdxIfInBounds k = (its.eraseIdx k).toArray
    rw [List.eraseIdxIfInBounds_toArray]
  · have := len_erase xs k
    omega

/-! ### list + list, list += list, list * int -/
def rCat : R2 := fun x y H Q => ∃ l b xs zs, x = .ref l ∧ y = .ref b ∧ H l = some (.lst xs) ∧ H b = some (.lst zs) ∧ xs.length + zs.length ≤ sizeLine ∧ ∀ p, H p = none → Q (.ref p) (upd H p (.lst (xs ++ zs)))
theorem op_cat : OpR X (binaryOp .Add) rCat := by
  intro pins s σ H x y v u Q I rx ry h
  obtain ⟨l, b, xs, zs, rfl, rfl, hH, hB, hz, q⟩ := h
  cases rx
  cases ry
  obtain ⟨z, its, n, r, hl, e⟩ := I.lstM hH
  obtain ⟨z2, its2, n2, r2, hl2, e2⟩ := I.lstM hB
  refine PySem.P.add_list e e2 ?_ (by rw [List.size_toArray, List.size_toArray]; omega)
  have ea : its.toArray ++ its2.toArray = (its ++ its2).toArray := by simp
  rw [ea]
  exact ⟨.ref _, _, I.lnew (t' := s.toks) (r.append r2) (by rw [List.length_append]; omega), rfl, q _ I.fresh⟩
/-! ### del xs[i] -/
end

/-! ### xs[a:b] = ys -/
section
variable {prog : Program} {w : World} {A : Around} {E : Value → Shared → Prop} {s : Shared}
end

section
variable {X : Cx}
end
end L2

namespace Att
open PySem PySem.W PySem.Calls PyProof.Rows

/-! ### the script -/
theorem ints_of_wellAll {P : Params} {h : Heap} : ∀ (ns : List Int) (vs : List Value), WellAll P h vs (ns.map WData.int) → IntsAre vs ns := by
  intro ns
  induction ns with
  | nil =>
    intro vs w
    rw [List.map_nil] at w
    cases w
    exact .nil
  | cons n ns ih =>
    intro vs w
    rw [List.map_cons] at w
    cases w with
    | cons a b =>
      cases a
      exact .cons _ _ (ih _ b)

theorem script_of {l : OpenLaw} {n : Nat} (hn : l.most = some n) {P : Params} {h : Heap} {args : List WData} {vals : List Value}
    (hpre : l.row.toRowW.claim.pre args = true) (hwl : WellAll P h vals args) :
    ∃ a vs ns, vals = [Value.ref a] ∧ args = [WData.list (ns.map WData.int)] ∧ h.get? a = some { cls := .type "list", data := .seq vs.toArray } ∧ IntsAre vs ns ∧ ns.length ≤ n := by
  have hsh : WShape.hasAll [] args [.list .int] = true := (pre_splitW hpre).1
  have hc : l.pre.holds [] { args := args } = true := (pre_splitW hpre).2
  obtain ⟨d, r, rfl, h1, h2⟩ := hasAllW_cons hsh
  obtain rfl := hasAllW_nil h2
  obtain ⟨xs, rfl, h3⟩ := hasW_list h1
  obtain ⟨ns, rfl⟩ := items_int h3
  have hlen : ns.length ≤ n := by
    unfold OpenLaw.pre at hc
    have h4 : (WTm.not (.lt (.lit (.int (n : Int))) (.len (.arg 0)))).holds [] { args := [.list (ns.map .int)] } = true := by
      have h4 := (holds_andW hc).1
      rw [hn] at h4
      exact h4
    have h5 := condW_of h4 (w_not (w_lt w_lit (w_len_list (w_arg rfl))))
    rw [List.length_map] at h5
    refine Nat.le_of_not_lt fun q => ?_
    have q' : (n : Int) < ((ns.length : Nat) : Int) := by omega
    first
      | (rw [decide_eq_true q'] at h5; exact absurd h5 (by decide))
      | (simp at h5; omega)
  cases hwl with
  | cons w1 w2 =>
    cases w2
    cases w1 with
    | list ho hall => exact ⟨_, _, ns, rfl, rfl, ho, ints_of_wellAll ns _ hall, hlen⟩

theorem post_true (l : OpenLaw) (args : List WData) : l.row.toRowW.claim.post args (.bool true) args = true :=
  postW_of (r := l.row.toRowW) (X := (true == true))
    (show WShape.has [] (.bool true) .bool = true by first | rfl | decide | simp [WShape.has, WShape.arms, WShape.armsAll])
    (show (WTm.eq .res (.lit (.bool true))).value [] { args := args, res := some (.bool true), after := args } = some (.bool (true == true)) from w_eq_bool (w_res rfl) w_lit) rfl

/-! ### the attachment: holds_open's last premise (the goal 'hc' behind k_head) from a wpAny of the law's body -/
/-- the same from a codeAny of the CALL (for a layer whose function contracts speak of calls) -/
theorem attach_call {l : OpenLaw} {n : Nat} {q : Program} {loose : List Str} {XP : (Str → Option Value) → Heap → Prop} {YP : World → Heap → Prop} {d : DefRec}
    (hn : l.most = some n) (hdf : d.params.defaults = [])
    (call : ∀ (w : World) (s₀ s₁ : Shared) (mg mb : Str → Option Value) (fa : Addr) (o : Obj) (pm cd doc : Value) (a : Addr) (vs : List Value) (ns : List Int),
      Ground q loose [] XP w s₀ mg mb s₁.heap → YP w s₁.heap →
      s₁.heap.get? fa = some o → o.data = .func (docDef d.name d.params d.body d.scope pm cd doc) → s₁.heap.CodeRec cd d.name → mg d.name = some (.ref fa) →
      s₁.heap.get? a = some { cls := .type "list", data := .seq vs.toArray } → IntsAre vs ns → ns.length ≤ n → s₁.gens = #[] →
      codeAny (model l.prog w) callerA (.call (.ref fa) ⟨[.ref a], []⟩) (fun r s' => r = .ok (.ret (.bool true)) ∧ OldK s₁.heap s'.heap ∧ s'.os = s₁.os ∧ AllBare s'.gens) s₁) :
    WalkO q loose XP YP l.row.toRowW d [] (fun f vs => PySem.call f vs) := by
  intro w s₀ s₁ mg mb G Y fa o pm cd doc dV kV ho hd hcd hD hmg hg args vals as hpre hlay hrd hwl hlo
  obtain rfl : dV = .none := Dflts.none hD hdf
  obtain rfl : kV = .none := Dflts.noKw hD
  obtain ⟨a, vs, ns, rfl, rfl, hobj, hints, hlen⟩ := script_of hn hpre hwl
  refine enter_call (codeAny_mono (call w s₀ s₁ mg mb fa o pm cd doc a vs ns G Y ho (fd_plain hd) hcd hmg hobj hints hlen hg) fun r s' hq => ?_)
  obtain ⟨rfl, h2, h3, h4⟩ := hq
  exact ⟨.inl ⟨.bool true, .bool true, [], rfl, fun _ => rfl, .bool true, post_true l _, fun _ => ⟨List.Pairwise.nil, fun _ hm => (nomatch hm)⟩⟩, h2, h3, h4⟩

/-! ### rules over ANY heap (no ledger) from facts about the written part K: the library's own take a ledger (News) for what they write -/
section
variable {prog : Program} {w : World} {A : Around} {E : Value → Shared → Prop} {s : Shared} {K : Frag}

/-! the whole heap as the ledger: makes every rule that writes through a ledger a rule over any heap -/
def ledger (h : Heap) (L d : Addr) : List (Addr × Obj) := (List.range h.objs.size).filterMap fun a => if a = L ∨ a = d then none else (h.get? a).map fun o => (a, o)
end
end Att

namespace L2
open PySem PySem.Spec PyProof.Rows

theorem vals_ints : ∀ {vs : List Value} {ns : List Int}, IntsAre vs ns → Vals (ns.map V.int) vs
  | _, _, .nil => .nil
  | _, _, .cons n t h => .cons ⟨t, rfl⟩ (vals_ints h)

/-- nothing is tracked but the script, known to the object (or it is an object of the module) -/
def Only (H : Hp) : Prop := ∀ b, H b = none ∨ ∃ o xs, H b = some (.frz o (.lst xs))

/-- THE HEAD: the law's promise, at the heap behind the top. F, the promise of the law's def, may use that base is part of the heap (so K.In base, base.Ns mainGlobals mg stand in Mod) -/
theorem law_call {P : Program} {w : World} {K : PySem.W.Frag} {mg mb : Str → Option Value} {CX : CXT} {k : Nat} {fa a : Addr} {fd : FuncData} {x : Str} {sp : Sp} {s₁ : Shared} {vs : List Value} {ns : List Int}
    (KX : K.In s₁.heap) (hns : s₁.heap.Ns mainGlobals mg) (hb : s₁.heap.Ns builtinsNs mb) (hbb : ∀ x : Str, x ≠ "__name__" → mb x = bootBuiltins x) (hlim : s₁.heap.NoLimit) (hg : s₁.gens = #[])
    (ha : s₁.heap.get? a = some { cls := .type "list", data := .seq vs.toArray }) (hi : IntsAre vs ns) (hl : ns.length ≤ sizeLine) (hr : Room k callerA)
    (F : ∀ base : Heap, K.In base → base.Ns mainGlobals mg → FnOk P w K mg base CX k fa fd [x] sp) (hbind : ∀ (s : Shared) (u : Value), BindsTo s fd ⟨[u], []⟩ [(x, u)])
    (hsp : ∀ H : Hp, Only H → SqL K H a (ns.map V.int) → sp [.ref a] H (fun v _ => v = .bl true) fun _ _ _ => False)
    (hCX : ∀ H e s', CX [] H s₁ (fun _ _ _ => False) e s' → False) :
    codeAny (model P w) callerA (.call (.ref fa) ⟨[.ref a], []⟩) (fun r s' => r = .ok (.ret (.bool true)) ∧ OldK s₁.heap s'.heap ∧ s'.os = s₁.os ∧ AllBare s'.gens) s₁ := by
  have rv := vals_ints hi
  have lenV := hi.length
  -- from an abstract heap in which nothing but the script may be tracked
  have core : ∀ H : Hp, Only H → SqL K H a (ns.map V.int) → HOk P w H s₁.heap → (∀ b, H b ≠ none → b = a) → (H a ≠ none → K.lookup a = none) →
      codeAny (model P w) callerA (.call (.ref fa) ⟨[.ref a], []⟩) (fun r s' => r = .ok (.ret (.bool true)) ∧ OldK s₁.heap s'.heap ∧ s'.os = s₁.os ∧ AllBare s'.gens) s₁ := by
    intro H hO hS hok hA hK
    have base_of : ∀ {b : Addr} {o : Obj}, s₁.heap.get? b = some o → H b = none → (hidT s₁.heap H).get? b = some o := fun e n => hidT_get e n
    have noA : ∀ {b : Addr} {o : Obj} {es : Array DictEntry} {ep : Nat}, s₁.heap.get? b = some o → o.data = .dict es ep → H b = none := fun {b o es ep} e d => by
      cases q : H b with
      | none => rfl
      | some u =>
        have e' : b = a := hA b (by rw [q]; simp)
        subst e'
        rw [ha] at e; cases e
        have d' : Data.seq vs.toArray _ = Data.dict es ep := d
        cases d'
    have nsK : ∀ {b : Addr} {m : Str → Option Value}, s₁.heap.Ns b m → (hidT s₁.heap H).Ns b m := fun {b m} ⟨o, es, ep, e, d, r⟩ => ⟨o, es, ep, base_of e (noA e d), d, r⟩
    have hKb : K.In (hidT s₁.heap H) := fun b o e => base_of (KX b o e) (by
      cases q : H b with
      | none => rfl
      | some u =>
        have e' : b = a := hA b (by rw [q]; simp)
        subst e'
        rw [hK (by rw [q]; simp)] at e; cases e)
    have hM : Mod K mg (hidT s₁.heap H) := ⟨hKb, nsK hns, ⟨mb, nsK hb, hbb⟩, let ⟨mc, h1, h2⟩ := hlim; ⟨mc, nsK h1, h2⟩⟩
    have e0 : Env0 P w K mg (hidT s₁.heap H) callerA [] s₁ H := ⟨rfl, hM, fun b o e => of_hidT e, Nat.le_of_eq (hidT_size _ _), trivial, fun b hb => absurd (show b ∈ ([] : List Addr) from hb) (by simp), hok, .of_eq hg⟩
    refine codeAny_mono ((F _ hKb (nsK hns)).run callerA [] s₁ H ⟨[.ref a], []⟩ [.ref a] [.ref a] _ _ hr e0 (hbind s₁ (.ref a)) (.cons rfl .nil) (hsp H hO hS)) fun r s' h => ?_
    cases r with
    | error e => exact (hCX H e s' h).elim
    | ok fl =>
      cases fl with
      | next => exact False.elim h
      | brk => exact False.elim h
      | cont => exact False.elim h
      | ret u =>
        obtain ⟨v, H', os, bare, un, hok', r', q⟩ := h
        have q' : v = .bl true := q
        subst q'
        obtain rfl : u = Value.bool true := r'
        refine ⟨rfl, OldK.of_keep fun b o e => ?_, os, bare⟩
        cases q : H b with
        | none => exact un.keep b o e q (by intro z; exact absurd (show b ∈ ([] : List Addr) from z) (by simp)) (by simp)
        | some u =>
          rcases hO b with z | ⟨ob, xs, z⟩
          · rw [q] at z; cases z
          · have z2 := un.frzs b ob _ z
            obtain ⟨e1, _⟩ := hok b _ z
            obtain ⟨e2, _⟩ := hok' b _ z2
            rw [e] at e1; cases e1
            exact e2
  cases hk : K.lookup a with
  | some o =>
    -- the script is one of the module's own objects
    have e := KX a o hk
    rw [ha] at e
    cases e
    refine core (fun _ => none) (fun _ => .inl rfl) (.inr ⟨_, vs.toArray, _, hk, rfl, rfl, rfl, by rw [List.size_toArray, lenV]; exact hl, by simpa using rv⟩) (fun b u z => by have z' : (none : Option HO) = some u := z; cases z') (fun b z => absurd rfl z) fun z => absurd rfl z
  | none =>
    refine core (fun b => if b = a then some (.frz { cls := .type "list", data := .seq vs.toArray } (.lst (ns.map V.int))) else none) (fun b => ?_) (.inl (.inr ⟨{ cls := .type "list", data := .seq vs.toArray }, if_pos rfl⟩)) (fun b u z => ?_) (fun b z => ?_) fun _ => hk
    · by_cases hb : b = a
      · exact .inr ⟨_, _, if_pos hb⟩
      · exact .inl (if_neg hb)
    · by_cases hb : b = a
      · have z' := (if_pos hb).symm.trans z
        cases z'
        subst hb
        exact ⟨ha, by rw [List.length_map]; exact hl, vs, _, rv, ha⟩
      · have z' := (if_neg hb).symm.trans z
        cases z'
    · by_cases hb : b = a
      · exact hb
      · exact absurd (if_neg hb) z
end L2

namespace L2
open PySem PySem.Spec PyProof.Rows

abbrev KOf {K : PySem.W.Frag} {h : Heap} (_ : K.In h) : PySem.W.Frag := K

/-- the goal that k_head leaves (case hc), from the law's promise. F gives the function object fd (K's own) once, then the promise over every base -/
theorem walk_of {l : PySem.W.OpenLaw} {n k : Nat} {q : Program} {loose : List Str} {XP : (Str → Option Value) → Heap → Prop} {YP : World → Heap → Prop} {d : DefRec} {K : Params → PySem.W.Frag} {CX : World → CXT} {sp : World → Sp} {x : Str}
    (hn : l.most = some n) (hn2 : n ≤ sizeLine) (hdf : d.params.defaults = []) (hr : Room k callerA)
    (hY : ∀ (w : World) (h : Heap), YP w h → (K w.params).In h)
    (F : ∀ (w : World) (mg : Str → Option Value) (fa : Addr) (h : Heap), (K w.params).In h → h.Ns mainGlobals mg → mg d.name = some (.ref fa) →
      ∃ fd : FuncData, (∀ (s : Shared) (u : Value), BindsTo s fd ⟨[u], []⟩ [(x, u)]) ∧
        ∀ base : Heap, (K w.params).In base → base.Ns mainGlobals mg → FnOk l.prog w (K w.params) mg base (CX w) k fa fd [x] (sp w))
    (hsp : ∀ (w : World) (H : Hp) (a : Addr) (ns : List Int), ns.length ≤ n → Only H → SqL (K w.params) H a (ns.map V.int) → sp w [.ref a] H (fun v _ => v = .bl true) fun _ _ _ => False)
    (hCX : ∀ (w : World) (H : Hp) (s : Shared) (e : Value) (s' : Shared), CX w [] H s (fun _ _ _ => False) e s' → False) :
    PySem.W.WalkO q loose XP YP l.row.toRowW d [] (fun f vs => PySem.call f vs) := by
  refine Att.attach_call hn hdf fun w s₀ s₁ mg mb fa o pm cd doc a vs ns G Y ho hd hcd hmg hobj hints hlen hg => ?_
  have KX := hY w _ Y
  obtain ⟨fd, hb, hF⟩ := F w mg fa _ KX G.T.g hmg
  exact law_call KX G.T.g G.T.b G.T.builtins G.T.nolimit hg hobj hints (Nat.le_trans hlen hn2) hr hF hb (fun H hO hS => hsp w H a ns hlen hO hS) fun H e s' => hCX w H s₁ e s'
end L2

/- THE LAST THEOREM (shape; LID, My.* are yours):
   My.Adr: a structure of the addresses that your layer names (classes, functions); My.Txt K t: a structure (Prop) of the equations over K;
   My.txt_mk : {K} {implicit addresses ..} (e1 : nsIn K mainGlobals "law" = some (some (.ref f))) (e2 : K.lookup f = some ⟨oc, od, .func (fnOf "law" "law" params body scope dV kV doc pm an cdv ct), sl⟩) (e3 : codeIn K cdv "law" = true) .. : ∃ t, My.Txt K t

set_option maxRecDepth 100000 in
set_option maxHeartbeats 0 in
theorem PySem.Challenge.cw_LID_holds : PySem.Challenge.rw_LID.Holds := by
  w_on; o_law; k_head; (case hw => w_witness2)
  k_fill
  refine L2.walk_of (l := PySem.Challenge.rw_LID) (n := 63) (k := 40) (x := "script") (CX := fun w => ..) (sp := fun _ => My.sp_law) rfl (by decide) rfl ⟨rfl, by decide, by decide⟩ (fun w h Y => PySem.W.kIn_of Y) ?F ?S ?C
  case F =>
    intro w mg fa h KX G hmg
    have T : ∃ t, My.Txt (L2.KOf KX) t := by
      dsimp only [L2.KOf]                          -- K must stand as «<heap const> w.params» for k_is
      refine' My.txt_mk ?e1 ?e2 ?e3 ..
      (case e1 => PySem.W.k_is)                    -- in the order: a name -> its address -> its object -> its parts
      (case e2 => PySem.W.k_is)
      ..
    obtain ⟨t, T⟩ := T
    have e0 := hmg.symm.trans (PySem.W.mg_of KX G T.law)
    cases e0                                       -- fa is the law's own address
    exact ⟨_, fun s u => .of_eq rfl, fun base kb nb => My.law_fn T kb nb⟩     -- if «.of_eq rfl» comes too early: refine' ⟨_, ?b, fun base kb nb => My.law_fn T kb nb⟩; exact fun s u => .of_eq rfl
  case S => exact fun w H a ns hl hO hS => ..
  case C => exact ..
(the tactic k_is has no namespace: write k_is) -/

/-! SHORT WORDS over the layer: a def of the text, its body, what a loop and a test want. -/
namespace L2
open PySem PySem.Spec PyProof.Rows

/-! ### the text by places -/
def defArgs (s : Stmt) : Arguments := match s with
  | .FunctionDef _ a _ _ _ _ _ _ _ _ => a
  | _ => { posonlyargs := [], args := [], vararg := none, kwonlyargs := [], kw_defaults := [], kwarg := none, defaults := [] }
def defBody (s : Stmt) : List Stmt := match s with
  | .FunctionDef _ _ b _ _ _ _ _ _ _ => b
  | _ => []
def defScope (s : Stmt) : Scope := match s with
  | .FunctionDef _ _ _ _ _ _ sc _ _ _ => sc
  | _ => { kind := .function, names := [], isGenerator := false, isCoroutine := false }

/-! ### no exception leaves a def -/
abbrev CX0 : CXT := fun _ _ _ _ _ _ => False
abbrev E0 : XK := fun _ _ _ => False
theorem pass0 {X : Cx} : Passes CX0 X E0 := fun _ _ _ _ _ _ _ h => h.elim

/-! ### a def (or method) of the text as it stands behind the top -/
structure Fun (K : PySem.W.Frag) (x qual : Str) (st : Stmt) (f : Addr) (fd : FuncData) : Prop where
  ex : ∃ (oc : Value) (od : Option Addr) (kV doc pm : Value) (an : Option Addr) (cdv ct : Value) (osl : Array (Option Value)),
    fd = PySem.W.fnOf x qual (defArgs st) (defBody st) (defScope st) .none kV doc pm an cdv ct ∧ K.lookup f = some ⟨oc, od, .func fd, osl⟩ ∧ PySem.W.codeIn K cdv qual = true
  kp : PySem.W.keepIn K (.ref f) = true
section
variable {P : Program} {w : World} {K : PySem.W.Frag} {mg : Str → Option Value} {base : Heap}
/-- THE RULE for a def: its body as a term of rules, and the reading of that term -/
theorem Fun.ok {x qual : Str} {st : Stmt} {f : Addr} {fd : FuncData} {N ps : List Str} {k : Nat} {sp : Sp} (F : Fun K x qual st f fd) (S : FnScope N ps (defScope st)) (len : ∀ vs H Q E, sp vs H Q E → vs.length = ps.length)
    (hbody : ∀ (cdv : Value) (A : Around) (outer : List Env) (s : Shared) (H : Hp) (vs : List V) (Q : VK) (E : XK), Room k (A.deeper (envOfC qual (defScope st) s.heap.objs.size f cdv)) → sp vs H Q E →
      ∃ t, PSs (cxOf CX0 P w K mg base N qual (defScope st) f cdv A outer s H E).nox (defBody st) t ∧ t { nx := fun _ H' => Q .non H', rt := Q } (start N vs) H) : FnOk P w K mg base CX0 (k + 1) f fd ps sp := by
  obtain ⟨oc, od, kV, doc, pm, an, cdv, ct, osl, rfl, lk, hcd⟩ := F.ex
  refine fn_of lk hcd S len fun A outer s H vs Q E hr hsp => ?_
  obtain ⟨t, h, q⟩ := hbody cdv A outer s H vs Q E hr hsp
  exact ⟨t, h.nox, q⟩
/-- how its arguments bind (no defaults): h is «fun _ _ _ _ _ _ us hl => match us, hl with | [_, _], _ => rfl», one _ a parameter -/
theorem Fun.binds {x qual : Str} {st : Stmt} {f : Addr} {fd : FuncData} {ps : List Str} (F : Fun K x qual st f fd)
    (h : ∀ (kV doc pm : Value) (an : Option Addr) (cdv ct : Value) (us : List Value), us.length = ps.length → bindArgs (PySem.W.fnOf x qual (defArgs st) (defBody st) (defScope st) .none kV doc pm an cdv ct) ⟨us, []⟩ = pure (ps.zip us)) : Binds K fd ps [] := by
  obtain ⟨oc, od, kV, doc, pm, an, cdv, ct, osl, rfl, lk, hcd⟩ := F.ex
  exact .all (h kV doc pm an cdv ct)
theorem fun_mk {x qual : Str} {st : Stmt} {f : Addr} {oc : Value} {od an : Option Addr} {osl : Array (Option Value)} {kV doc pm cdv ct : Value} (l : K.lookup f = some ⟨oc, od, .func (PySem.W.fnOf x qual (defArgs st) (defBody st) (defScope st) .none kV doc pm an cdv ct), osl⟩)
    (c : PySem.W.codeIn K cdv qual = true) (k : PySem.W.keepIn K (.ref f) = true) : Fun K x qual st f (PySem.W.fnOf x qual (defArgs st) (defBody st) (defScope st) .none kV doc pm an cdv ct) := ⟨⟨oc, od, kV, doc, pm, an, cdv, ct, osl, rfl, l, c⟩, k⟩
end
theorem hu_of {A : Around} {k : Nat} (hr : Room k A) : A.units + 1 < cLine := Nat.lt_of_le_of_lt (Nat.add_le_add_left (by decide : 1 ≤ 64) _) hr.units
theorem small1000 {n : Nat} (h : n ≤ 1000) : n < sizeLine := Nat.lt_of_le_of_lt h (by decide)

/-! ### expressions in short: the name that stands in the i-th slot -/
section
variable {X : Cx}
theorem pv (i : Nat) {x : Str} {pos : Pos} (hN : X.N[i]? = some x := by rfl) (hv : Vis X.env.scope x := by first | exact Or.inl rfl | exact Or.inr (Or.inl rfl) | exact Or.inr (Or.inr rfl)) (hd : (x == ("__debug__" : Str)) = false := by decide)
    (hcd : (x == ("__classdict__" : Str)) = false := by decide) : PE X (.Name x pos) (tVar i) := pe_var hN hv hd hcd
end

/-! ### tests -/
theorem iteF {A B : Prop} (h : B) : if false = true then A else B := by
  rw [if_neg Bool.false_ne_true]
  exact h
theorem ite2 {c A B : Prop} [Decidable c] (h1 : c → A) (h2 : ¬ c → B) : if c then A else B := by
  by_cases h : c
  · rw [if_pos h]
    exact h1 h
  · rw [if_neg h]
    exact h2 h
theorem iteNS {c A B : Prop} [Decidable c] (hc : c) (h : B) : if (!decide c) = true then A else B := by
  rw [decide_eq_true hc]
  exact iteF h

/-! ### heaps -/
/-- all that was tracked is as it was -/
def Same (H H' : Hp) : Prop := ∀ b o, H b = some o → H' b = some o
theorem Same.refl (H : Hp) : Same H H := fun _ _ h => h
theorem Same.trans {H H1 H2 : Hp} (a : Same H H1) (b : Same H1 H2) : Same H H2 := fun c o h => b c o (a c o h)
theorem Same.free {H H' : Hp} (e : Same H H') {l : Addr} (h : H' l = Option.none) : H l = Option.none := by
  cases q : H l with
  | none => rfl
  | some o =>
    rw [e l o q] at h
    cases h
theorem Same.seq {K : PySem.W.Frag} {H H' : Hp} {a : Addr} {xs : List V} (e : Same H H') (h : SqL K H a xs) : SqL K H' a xs := by
  rcases h with (h | ⟨o, h⟩) | h
  · exact .inl (.inl (e _ _ h))
  · exact .inl (.inr ⟨o, e _ _ h⟩)
  · exact .inr h

/-! ### a dict's pairs: keys that differ -/
section
variable {κ : Type} [DecidableEq κ]
theorem valV_not {kvs : List (κ × V)} {k : κ} (h : valV kvs k = none) : ¬ k ∈ kvs.map (·.1) := by
  intro m
  obtain ⟨p, hp, e⟩ := List.mem_map.mp m
  have q : (kvs.any fun kv => decide (kv.1 = k)) = true := List.any_eq_true.mpr ⟨p, hp, decide_eq_true e⟩
  rw [valV_any, h] at q
  exact absurd q (by simp)
theorem valV_in {kvs : List (κ × V)} {k : κ} {v : V} (h : valV kvs k = some v) : k ∈ kvs.map (·.1) := by
  have q : (kvs.any fun kv => decide (kv.1 = k)) = true := by
    rw [valV_any, h]
    all_goals rfl
  obtain ⟨p, hp, e⟩ := List.any_eq_true.mp q
  exact List.mem_map.mpr ⟨p, hp, of_decide_eq_true e⟩
theorem nd_snoc : ∀ {l : List κ} {k : κ}, l.Nodup → ¬ k ∈ l → (l ++ [k]).Nodup
  | [], k, _, _ => by simp
  | a :: r, k, h, hk => by
    obtain ⟨h1, h2⟩ := List.nodup_cons.mp h
    show (a :: (r ++ [k])).Nodup
    refine List.nodup_cons.mpr ⟨fun m => ?_, nd_snoc h2 fun m => hk (List.mem_cons.mpr (Or.inr m))⟩
    rcases List.mem_append.mp m with q | q
    · exact h1 q
    · exact hk (List.mem_cons.mpr (Or.inl (List.mem_singleton.mp q).symm))
theorem nd_putK {kvs : List (κ × V)} {k : κ} (v : V) (hn : (kvs.map (·.1)).Nodup) (h : valV kvs k = none) : ((putK kvs k v).map (·.1)).Nodup := by
  rw [putK_new v h, List.map_append]
  exact nd_snoc hn (valV_not h)
end
end L2
set_option maxHeartbeats 4000000
namespace L2
open PySem PySem.Spec PyProof.Rows
/-! ### how arguments bind, by their number -/
theorem len_cons {α : Type} {n : Nat} {us : List α} (h : us.length = n + 1) : ∃ u r, us = u :: r ∧ r.length = n := by
  cases us with
  | nil => cases h
  | cons u r => exact ⟨u, r, rfl, Nat.succ.inj h⟩
section
variable {K : PySem.W.Frag} {x qual : Str} {st : Stmt} {f : Addr} {fd : FuncData} {p1 p2 p3 p4 p5 : Str}
theorem Fun.b1 (F : Fun K x qual st f fd) (h : ∀ (kV doc pm : Value) (an : Option Addr) (cdv ct u1 : Value), bindArgs (PySem.W.fnOf x qual (defArgs st) (defBody st) (defScope st) .none kV doc pm an cdv ct) ⟨[u1], []⟩ = pure [(p1, u1)]) : Binds K fd [p1] [] := by
  refine F.binds fun kV doc pm an cdv ct us h0 => ?_
  obtain ⟨u1, r1, rfl, h1⟩ := len_cons (n := 0) h0
  cases List.length_eq_zero_iff.mp h1
  exact h kV doc pm an cdv ct u1
theorem Fun.b2 (F : Fun K x qual st f fd) (h : ∀ (kV doc pm : Value) (an : Option Addr) (cdv ct u1 u2 : Value), bindArgs (PySem.W.fnOf x qual (defArgs st) (defBody st) (defScope st) .none kV doc pm an cdv ct) ⟨[u1, u2], []⟩ = pure [(p1, u1), (p2, u2)]) : Binds K fd [p1, p2] [] := by
  refine F.binds fun kV doc pm an cdv ct us h0 => ?_
  obtain ⟨u1, r1, rfl, h1⟩ := len_cons (n := 1) h0
  obtain ⟨u2, r2, rfl, h2⟩ := len_cons (n := 0) h1
  cases List.length_eq_zero_iff.mp h2
  exact h kV doc pm an cdv ct u1 u2
theorem Fun.b3 (F : Fun K x qual st f fd) (h : ∀ (kV doc pm : Value) (an : Option Addr) (cdv ct u1 u2 u3 : Value), bindArgs (PySem.W.fnOf x qual (defArgs st) (defBody st) (defScope st) .none kV doc pm an cdv ct) ⟨[u1, u2, u3], []⟩ = pure [(p1, u1), (p2, u2), (p3, u3)]) : Binds K fd [p1, p2, p3] [] := by
  refine F.binds fun kV doc pm an cdv ct us h0 => ?_
  obtain ⟨u1, r1, rfl, h1⟩ := len_cons (n := 2) h0
  obtain ⟨u2, r2, rfl, h2⟩ := len_cons (n := 1) h1
  obtain ⟨u3, r3, rfl, h3⟩ := len_cons (n := 0) h2
  cases List.length_eq_zero_iff.mp h3
  exact h kV doc pm an cdv ct u1 u2 u3
theorem Fun.b4 (F : Fun K x qual st f fd) (h : ∀ (kV doc pm : Value) (an : Option Addr) (cdv ct u1 u2 u3 u4 : Value), bindArgs (PySem.W.fnOf x qual (defArgs st) (defBody st) (defScope st) .none kV doc pm an cdv ct) ⟨[u1, u2, u3, u4], []⟩ = pure [(p1, u1), (p2, u2), (p3, u3), (p4, u4)]) : Binds K fd [p1, p2, p3, p4] [] := by
  refine F.binds fun kV doc pm an cdv ct us h0 => ?_
  obtain ⟨u1, r1, rfl, h1⟩ := len_cons (n := 3) h0
  obtain ⟨u2, r2, rfl, h2⟩ := len_cons (n := 2) h1
  obtain ⟨u3, r3, rfl, h3⟩ := len_cons (n := 1) h2
  obtain ⟨u4, r4, rfl, h4⟩ := len_cons (n := 0) h3
  cases List.length_eq_zero_iff.mp h4
  exact h kV doc pm an cdv ct u1 u2 u3 u4
theorem Fun.b5 (F : Fun K x qual st f fd) (h : ∀ (kV doc pm : Value) (an : Option Addr) (cdv ct u1 u2 u3 u4 u5 : Value), bindArgs (PySem.W.fnOf x qual (defArgs st) (defBody st) (defScope st) .none kV doc pm an cdv ct) ⟨[u1, u2, u3, u4, u5], []⟩ = pure [(p1, u1), (p2, u2), (p3, u3), (p4, u4), (p5, u5)]) : Binds K fd [p1, p2, p3, p4, p5] [] := by
  refine F.binds fun kV doc pm an cdv ct us h0 => ?_
  obtain ⟨u1, r1, rfl, h1⟩ := len_cons (n := 4) h0
  obtain ⟨u2, r2, rfl, h2⟩ := len_cons (n := 3) h1
  obtain ⟨u3, r3, rfl, h3⟩ := len_cons (n := 2) h2
  obtain ⟨u4, r4, rfl, h4⟩ := len_cons (n := 1) h3
  obtain ⟨u5, r5, rfl, h5⟩ := len_cons (n := 0) h4
  cases List.length_eq_zero_iff.mp h5
  exact h kV doc pm an cdv ct u1 u2 u3 u4 u5
end
end L2
namespace L2
open PySem PySem.Spec PyProof.Rows

/-! ### what a block closes over -/
def clOf (env : Env) (names : List (Str × NameKind)) : List (Str × Addr) :=
  names.foldl (fun cs y => if y.2 == NameKind.free then (y.1, (env.cells.lookup y.1).getD 0) :: cs else cs) []
theorem clFold {env : Env} : ∀ (names : List (Str × NameKind)) (cs : List (Str × Addr)), (∀ y ∈ names, y.2 = .free → ∃ c, env.cells.lookup y.1 = some c) →
    (forIn names cs fun (y : Str × NameKind) (r : List (Str × Addr)) => (if y.2 == NameKind.free then (do let a ← cellOf env y.1; pure (ForInStep.yield ((y.1, a) :: r))) else pure (ForInStep.yield r) : Sem (ForInStep (List (Str × Addr))))) =
      pure (names.foldl (fun cs y => if y.2 == NameKind.free then (y.1, (env.cells.lookup y.1).getD 0) :: cs else cs) cs)
  | [], cs, _ => rfl
  | (n, k) :: r, cs, h => by
    have ih := fun cs' => clFold (env := env) r cs' fun y hy => h y (List.mem_cons_of_mem _ hy)
    rw [List.forIn_cons, List.foldl_cons]
    by_cases hk : k = .free
    · subst hk
      obtain ⟨c, hc⟩ := h (n, .free) List.mem_cons_self rfl
      have e : cellOf env n = pure c := by unfold cellOf; rw [hc]
      simp only [beq_self_eq_true, if_true, e, pure_bind, hc, Option.getD_some]
      exact ih _
    · have hb : (k == NameKind.free) = false := by simpa using hk
      simp only [hb, Bool.false_eq_true, if_false, pure_bind]
      exact ih _
theorem closure_of {scope : Scope} {env : Env} (h : ∀ y ∈ scope.names, y.2 = .free → ∃ c, env.cells.lookup y.1 = some c) : closureFor scope env = pure (clOf env scope.names) := by
  unfold closureFor
  have e := clFold (env := env) scope.names [] h
  simp only [] at e ⊢
  refine Eq.trans ?_ (congrArg (fun m : Sem (List (Str × Addr)) => m >>= fun cs => pure cs) e)
  rfl
theorem cl_get {env : Env} {x : Str} {c : Addr} : ∀ (names : List (Str × NameKind)) (cs : List (Str × Addr)), (∀ y ∈ names, y.2 = .free → ∃ c, env.cells.lookup y.1 = some c) →
    (names.foldl (fun cs y => if y.2 == NameKind.free then (y.1, (env.cells.lookup y.1).getD 0) :: cs else cs) cs).lookup x = some c → cs.lookup x = some c ∨ env.cells.lookup x = some c
  | [], _, _, e => .inl e
  | (n, k) :: r, cs, h, e => by
    rw [List.foldl_cons] at e
    have ih := cl_get r _ (fun y hy => h y (List.mem_cons_of_mem _ hy)) e
    rcases ih with q | q
    · by_cases hk : k = .free
      · subst hk
        obtain ⟨c', hc⟩ := h (n, .free) List.mem_cons_self rfl
        simp only [beq_self_eq_true, if_true, hc, Option.getD_some, List.lookup_cons] at q
        cases hx : x == n with
        | true =>
          rw [hx] at q
          have : x = n := by simpa using hx
          subst this
          simp only [Option.some.injEq] at q
          subst q
          exact .inr hc
        | false =>
          rw [hx] at q
          exact .inl q
      · have hb : (k == NameKind.free) = false := by simpa using hk
        simp only [hb, Bool.false_eq_true, if_false] at q
        exact .inl q
    · exact .inr q
theorem cl_has {env : Env} {x : Str} : ∀ (names : List (Str × NameKind)) (cs : List (Str × Addr)), ((x, NameKind.free) ∈ names ∨ ∃ c, cs.lookup x = some c) →
    ∃ c, (names.foldl (fun cs y => if y.2 == NameKind.free then (y.1, (env.cells.lookup y.1).getD 0) :: cs else cs) cs).lookup x = some c
  | [], _, e => by rcases e with e | e; exact absurd e (by simp); exact e
  | (n, k) :: r, cs, e => by
    rw [List.foldl_cons]
    refine cl_has r _ ?_
    rcases e with e | ⟨c, e⟩
    · rcases List.mem_cons.mp e with z | z
      · cases z
        right
        simp only [beq_self_eq_true, if_true, List.lookup_cons]
        exact ⟨_, rfl⟩
      · exact .inl z
    · right
      by_cases hk : k = .free
      · subst hk
        simp only [beq_self_eq_true, if_true, List.lookup_cons]
        cases hx : x == n with
        | true => exact ⟨_, rfl⟩
        | false => exact ⟨c, e⟩
      · have hb : (k == NameKind.free) = false := by simpa using hk
        simp only [hb, Bool.false_eq_true, if_false]
        exact ⟨c, e⟩
/-- a name that the block holds as a cell or as free was free there -/
theorem relabel_free {env : Env} {x : Str} : ∀ {names : List (Str × NameKind)}, (∀ y ∈ names, y.2 ≠ .cell) →
    ((names.map fun (n, k) => if (k == NameKind.free && env.scope.kind == .function && env.kindOf n == some .cell) then (n, NameKind.cell) else (n, k)).lookup x = some .cell ∨
     (names.map fun (n, k) => if (k == NameKind.free && env.scope.kind == .function && env.kindOf n == some .cell) then (n, NameKind.cell) else (n, k)).lookup x = some .free) → (x, NameKind.free) ∈ names
  | [], _, h => by simp at h
  | (n, k) :: r, hc, h => by
    have ih := @relabel_free env x r fun y hy => hc y (List.mem_cons_of_mem _ hy)
    have hk := hc (n, k) List.mem_cons_self
    simp only [List.map_cons] at h
    by_cases cc : (k == NameKind.free && env.scope.kind == .function && env.kindOf n == some .cell) = true
    · rw [if_pos cc] at h
      have kf : k = .free := by
        simp only [Bool.and_eq_true, beq_iff_eq] at cc
        exact cc.1.1
      subst kf
      simp only [List.lookup_cons] at h
      cases hx : x == n with
      | true =>
        have : x = n := by simpa using hx
        subst this
        exact List.mem_cons_self
      | false => rw [hx] at h; exact List.mem_cons_of_mem _ (ih h)
    · rw [if_neg cc] at h
      simp only [List.lookup_cons] at h
      cases hx : x == n with
      | true =>
        rw [hx] at h
        have : x = n := by simpa using hx
        subst this
        rcases h with h | h
        · simp only [Option.some.injEq] at h
          exact absurd h hk
        · simp only [Option.some.injEq] at h
          subst h
          exact List.mem_cons_self
      | false => rw [hx] at h; exact List.mem_cons_of_mem _ (ih h)

/-- the tests of a clause, as one tree -/
abbrev testsT (ifs : List Expr) (env : Env) : Sem Bool := forIn ifs true fun c r =>
  if r = true then do
    let ok ← isTrue c env (eval c env)
    pure (ForInStep.yield ok)
  else pure (ForInStep.yield r)
/-! ### the tests of a clause -/
def PIfs (X : Cx) (ifs : List Expr) (t : TT) : Prop :=
  ∀ (pins : List (Addr × Obj)) (s : Shared) (σ : St) (H : Hp) (Q : Bool → Hp → Prop), Inv X pins σ H s → t σ H Q →
    wpAny (model X.prog X.w) X.A (testsT ifs X.env) (TP X pins σ Q) X.xe s
def tYes : TT := fun _ H Q => Q true H
theorem pf_nil {X : Cx} : PIfs X [] tYes := fun _ _ _ H _ I h => wpAny_tests_nil ⟨H, I, h⟩
theorem pf_one {X : Cx} {c : Expr} {t : TT} (h : PT X c t) : PIfs X [c] t := fun pins s σ H Q I q => wpAny_tests_one (h pins s σ H Q I q)

abbrev Nope : Value → Shared → Prop := fun _ _ => False
/-- the loop of a comprehension, with the step ahead of the store; nothing is raised -/
theorem comp_loop {prog : Program} {w : World} {A : Around} {R : Result → Shared → Prop} {s0 : Shared} {elt target iter : Expr} {ifs : List Expr} {scope : Scope} {pos : Pos} {it acc : Value} {env : Env} (W : Nat → Shared → Prop)
    (one : ∀ k t, W k t → wpAny (model prog w) A (pyNext it) (fun r t1 => match r with
      | none => R (.ok .next) t1
      | some v => wpAny (model prog w) A (letOwnedTupleGo target it v) (fun _ t2 => wpAny (model prog w) A (assign target env v) (fun _ t3 => wpAny (model prog w) A (testsT ifs env) (fun ok t4 =>
          if ok = true then wpAny (model prog w) A (eval elt env) (fun x t5 => wpAny (model prog w) A (call (.builtin "list.append") [acc, x]) (fun _ t6 => ∃ j, j < k ∧ W j t6) Nope t5) Nope t4
          else ∃ j, j < k ∧ W j t4) Nope t3) Nope t2) Nope t1) Nope t)
    (k0 : Nat) (h0 : W k0 s0) : codeAny (model prog w) A (.compLoop (.ListComp elt [⟨target, iter, ifs, 0⟩] scope pos) 0 it acc env) R s0 := by
  refine codeAny_loop rfl W (fun k t hW => ?_) k0 h0
  refine wpAny_noted (m := compTurn (.ListComp elt [⟨target, iter, ifs, 0⟩] scope pos) 0 it acc env) ?_
  have no : ∀ {P : Prop} {e : Value} {t : Shared}, Nope e t → P := fun z => z.elim
  rw [compTurn_list]
  refine wpAny_bind (wpAny_standAt (wpAny_bind (wpAny_mono (one k t hW) (fun r t1 q1 => ?_) fun _ _ => no)))
  match r with
  | none => exact wpAny_pure q1
  | some v =>
    refine wpAny_bind (wpAny_mono q1 (fun _ t2 q2 => wpAny_bind (wpAny_mono q2 (fun _ t3 q3 => wpAny_bind (wpAny_mono q3 (fun ok t4 q4 => ?_) fun _ _ => no)) fun _ _ => no)) fun _ _ => no)
    match ok with
    | false => exact wpAny_pure ⟨rfl, q4⟩
    | true =>
      rw [if_pos rfl] at q4
      refine wpAny_bind (wpAny_bind (wpAny_mono q4 (fun x t5 q5 => wpAny_bind (wpAny_mono q5 (fun _ t6 q6 => ?_) fun _ _ => no)) fun _ _ => no))
      exact wpAny_pure (wpAny_pure ⟨rfl, q6⟩)

/-! ### the block of a comprehension -/
/-- the block's names' values at its start: none, or those of the def's names -/
def entV (ix : List (Option Nat)) (σ : St) : St := ix.map fun o => o.bind fun j => σ[j]?.join
theorem entV_get {ix : List (Option Nat)} {σ : St} {i : Nat} {v : V} (h : (entV ix σ)[i]? = some (some v)) : ∃ j, ix[i]? = some (some j) ∧ σ[j]? = some (some v) := by
  unfold entV at h
  rw [List.getElem?_map] at h
  cases e : ix[i]? with
  | none => rw [e] at h; cases h
  | some o =>
    rw [e] at h
    cases o with
    | none => cases h
    | some j =>
      have h : some (σ[j]?.join) = some (some v) := h
      refine ⟨j, rfl, ?_⟩
      cases q : σ[j]? with
      | none => rw [q] at h; cases h
      | some z => rw [q] at h; cases h; rfl
/-- N': the block's names; ix: for each of them where it stands among the def's names (or none: a target) -/
def compOk (N : List Str) (sc scope : Scope) (N' : List Str) (ix : List (Option Nat)) : Bool :=
  ix.length == N'.length && (ix.zip N').all (fun p => match p.1 with | none => true | some j => N[j]? == some p.2 && scope.names.lookup p.2 == some NameKind.free) &&
  scope.names.all (fun y => y.2 != NameKind.cell && (y.2 != NameKind.free || sc.names.lookup y.1 == some NameKind.cell || sc.names.lookup y.1 == some NameKind.free) && (y.2 != NameKind.local || scope.names.lookup y.1 == some NameKind.local)) &&
  scope.kind == ScopeKind.function
structure CompOk (N : List Str) (sc scope : Scope) (N' : List Str) (ix : List (Option Nat)) : Prop where
  len : ix.length = N'.length
  at_ : ∀ (i j : Nat) (x : Str), ix[i]? = some (some j) → N'[i]? = some x → N[j]? = some x ∧ scope.names.lookup x = some .free
  nocell : ∀ y ∈ scope.names, y.2 ≠ .cell
  free : ∀ y ∈ scope.names, y.2 = .free → sc.names.lookup y.1 = some .cell ∨ sc.names.lookup y.1 = some .free
  loc : ∀ y ∈ scope.names, y.2 = .local → scope.names.lookup y.1 = some .local
  kind : scope.kind = .function
theorem CompOk.of {N : List Str} {sc scope : Scope} {N' : List Str} {ix : List (Option Nat)} (h : compOk N sc scope N' ix = true) : CompOk N sc scope N' ix := by
  unfold compOk at h
  simp only [Bool.and_eq_true, beq_iff_eq, List.all_eq_true] at h
  obtain ⟨⟨⟨h1, h2⟩, h3⟩, h4⟩ := h
  refine ⟨h1, fun i j x a b => ?_, fun y hy e => ?_, fun y hy e => ?_, fun y hy e => ?_, h4⟩
  · have hm : (some j, x) ∈ ix.zip N' := List.mem_of_getElem? (i := i) (by rw [List.getElem?_zip_eq_some]; exact ⟨a, b⟩)
    have q := h2 _ hm
    simp only [Bool.and_eq_true, beq_iff_eq] at q
    exact q
  · have q := h3 y hy
    simp only [Bool.and_eq_true, bne_iff_ne, ne_eq] at q
    exact q.1.1 e
  · have q := (h3 y hy).1.2
    rw [e] at q
    simpa using q
  · have q := (h3 y hy).2
    rw [e] at q
    simpa using q

/-- the context of the block: its frame at C, entered at s₂, H₂, its iterator's records fp -/
def compCx (X : Cx) (N' : List Str) (scope : Scope) (C : Addr) (s₂ : Shared) (H₂ : Hp) (fp : List Addr) : Cx where
  prog := X.prog
  w := X.w
  K := X.K
  mg := X.mg
  base := X.base
  A := X.A
  N := N'
  s₀ := s₂
  H₀ := H₂
  env := compEnvC scope (clOf X.env scope.names) C X.env
  outer := X.stack
  stack := X.stack
  ex := fp
  fn := fun _ => false
  calm := X.calm
  pn := []
  xe := fun _ _ => False
section
variable {X : Cx} {N' : List Str} {ix : List (Option Nat)} {scope : Scope} {pins : List (Addr × Obj)} {σ : St} {H₂ : Hp} {s₂ : Shared} {fp : List Addr} {C : Addr}
theorem CompOk.cells (S : CompOk X.N X.env.scope scope N' ix) (I : Inv X pins σ H₂ s₂) : ∀ y ∈ scope.names, y.2 = .free → ∃ c, X.env.cells.lookup y.1 = some c := fun y hy e => I.ok.has y.1 (S.free y hy e)
theorem CompOk.get (S : CompOk X.N X.env.scope scope N' ix) (I : Inv X pins σ H₂ s₂) {x : Str} {c : Addr} (h : (clOf X.env scope.names).lookup x = some c) : X.env.cells.lookup x = some c := by
  rcases cl_get scope.names [] (S.cells I) h with q | q
  · exact absurd q (by simp)
  · exact q
theorem compCx_ok (S : CompOk X.N X.env.scope scope N' ix) (I : Inv X pins σ H₂ s₂) (hf : ∀ b ∈ fp, FpOk X pins H₂ b) (hC : s₂.heap.objs.size ≤ C) (hfC : ∀ b ∈ fp, b < s₂.heap.objs.size) : (compCx X N' scope C s₂ H₂ fp).Ok where
  mod := I.ok.mod
  kind := S.kind
  glob := I.ok.glob
  blt := I.ok.blt
  above := hC
  inj := fun x y c a b => I.ok.inj x y c (S.get I a) (S.get I b)
  has := fun x h => cl_has scope.names [] (.inl (relabel_free S.nocell h))
  cab := fun x c h => by cases h
  hd := I.ok.hd
  frames := I.ok.frames
  stk := .inl rfl
  exf := fun b hb => ⟨Nat.ne_of_lt (Nat.lt_of_lt_of_le (hfC b hb) hC), fun x c e => (hf b hb).2.2.2.2.1 x c (S.get I e)⟩
  bs := I.bs
  bsz := Nat.le_trans I.ok.bsz I.sz
  noex := fun b o e hb => by
    rcases (hf b hb).2.2.2.1 with z | z
    · exact I.ok.noex b o e z
    · exact absurd (Nat.lt_of_lt_of_le (Heap.lt_size e) (Nat.le_trans I.ok.bsz z)) (Nat.lt_irrefl _)
  exfs := fun b hb hm => by
    rcases List.mem_cons.mp (I.stkSub b hm) with z | z
    · exact (hf b hb).2.1 z
    · exact (hf b hb).2.2.1 z
  funs := I.stack
  frf := I.stkFree
/-- the block is entered: a list D and its frame C are laid, both untracked -/
theorem comp_start (S : CompOk X.N X.env.scope scope N' ix) (I : Inv X pins σ H₂ s₂) (hf : ∀ b ∈ fp, FpOk X pins H₂ b) (hfC : ∀ b ∈ fp, b < s₂.heap.objs.size) {D : Addr} {h₁ : Heap} {tk : Nat} {m : Str → Option Value} {ob : Obj}
    (hC : s₂.heap.objs.size ≤ C) (hD : s₂.heap.objs.size ≤ D) (hDC : D ≠ C) (old : ∀ b o, s₂.heap.get? b = some o → h₁.get? b = some o) (hn : h₁.Ns C m) (hob : h₁.get? D = some ob) (hd : ∀ v, ob.data ≠ .cell v) :
    Inv (compCx X N' scope C s₂ H₂ fp) [(D, ob)] (entV ix σ) H₂ { s₂ with heap := h₁, toks := tk } := by
  have fr : ∀ a, s₂.heap.objs.size ≤ a → H₂ a = none := fun a ha => I.hok.fresh ha
  have cOf : ∀ x c, (clOf X.env scope.names).lookup x = some c → X.env.cells.lookup x = some c := fun x c e => S.get I e
  refine ⟨compCx_ok S I hf hC hfC, rfl, I.bare, Un.kept old, ⟨m, hn, fun i x v e1 e2 e3 => ?_⟩, fun x c e => ?_, fr C hC, fun x c e => I.freeC x c (cOf x c e), fun p hp => ?_, I.hok.kept old, ?_⟩
  · obtain ⟨j, q1, q2⟩ := entV_get e2
    obtain ⟨n1, n2⟩ := S.at_ i j x q1 e1
    have hm : (x, NameKind.free) ∈ scope.names := PySem.mem_of_lookup n2
    have hv : Vis X.env.scope x := by
      rcases S.free _ hm rfl with z | z
      · exact .inr (.inl z)
      · exact .inr (.inr z)
    obtain ⟨m0, _, hl⟩ := I.loc
    obtain ⟨u, r, l⟩ := hl j x v n1 q2 hv
    refine ⟨u, r, ?_⟩
    have hne : ¬ X.env.kindOf x = some .local := fun z => by
      have z : X.env.scope.names.lookup x = some .local := z
      rcases S.free _ hm rfl with y | y
      · rw [y] at z; cases z
      · rw [y] at z; cases z
    rcases l with ⟨k, _⟩ | ⟨k, c, e, z⟩
    · exact absurd k hne
    · obtain ⟨c', hc'⟩ := cl_has (env := X.env) (x := x) scope.names [] (.inl hm)
      have hc'' := cOf x c' hc'
      rw [e] at hc''
      cases hc''
      have kk : (compCx X N' scope C s₂ H₂ fp).env.kindOf x = some .cell ∨ (compCx X N' scope C s₂ H₂ fp).env.kindOf x = some .free := by
        rcases e3 with y | y | y
        · exfalso
          have : ∀ {names : List (Str × NameKind)}, names.lookup x = some .free →
            (names.map fun (n, k) => if (k == NameKind.free && X.env.scope.kind == .function && X.env.kindOf n == some .cell) then (n, NameKind.cell) else (n, k)).lookup x = some .local → False := by
            intro names
            induction names with
            | nil => intro a; simp at a
            | cons p r ih =>
              obtain ⟨n, k⟩ := p
              intro a b
              simp only [List.map_cons] at b
              simp only [List.lookup_cons] at a
              cases hx : x == n with
              | true =>
                rw [hx] at a
                simp only [Option.some.injEq] at a
                subst a
                split at b
                · simp [List.lookup_cons, hx] at b
                · simp [List.lookup_cons, hx] at b
              | false =>
                rw [hx] at a
                split at b
                · simp only [List.lookup_cons, hx] at b; exact ih a b
                · simp only [List.lookup_cons, hx] at b; exact ih a b
          exact this n2 y
        · exact .inl y
        · exact .inr y
      obtain ⟨oc, ho, hod⟩ := z
      exact .inr ⟨kk, c, hc', oc, old _ _ ho, hod⟩
  · obtain ⟨v, o, ho, hod⟩ := I.cell x c (cOf x c e)
    exact ⟨v, o, old _ _ ho, hod⟩
  · have hp : p ∈ [(D, ob)] := hp
    have e : p = (D, ob) := by simpa using hp
    subst e
    refine ⟨hob, fr D hD, hDC, fun hb => ?_, hd⟩
    have hb : D ∈ frs X.stack := hb
    rcases List.mem_cons.mp (I.stkSub D hb) with z | z
    · exact absurd I.lt (by rw [← z]; exact Nat.not_lt.mpr hD)
    · exact I.nofs hD z
  · show (entV ix σ).length = N'.length
    unfold entV
    rw [List.length_map, S.len]
/-- the block is left: the list is tracked -/
theorem comp_leave (I : Inv X pins σ H₂ s₂) (hf : ∀ b ∈ fp, FpOk X pins H₂ b) {pins' : List (Addr × Obj)} {σ' : St} {H' : Hp} {s' : Shared} {D : Addr} {ys : List V} {its : List Value} (hC : s₂.heap.objs.size ≤ C) (hD : s₂.heap.objs.size ≤ D)
    (J : Inv (compCx X N' scope C s₂ H₂ fp) pins' σ' H' s') (hn : H' D = none) (hl : s'.heap.PlainList D its.toArray) (r : Vals ys its) (hz : ys.length ≤ sizeLine) : Inv X pins σ (upd H' D (.lst ys)) s' := by
  have sb : Un (frs X.stack) fp H₂ H' s₂.heap s'.heap := J.base
  have nD : ∀ b u, H' b = some u → b ≠ D := fun b u e => ne_of_none e hn
  refine I.call' (ch := fp) J.os ⟨sb.keep, sb.slot, fun b o e n hx => ?_, sb.there, fun b xs e => ?_, fun b o u e => ?_, fun b ps e => ?_⟩ (fun b u e => ?_) J.bare (fun b hb => ?_)
  · rw [upd_ne (Nat.ne_of_lt (Nat.lt_of_lt_of_le (Heap.lt_size e) hD))]
    exact sb.free b o e n hx
  · have q := sb.tups b xs e
    rw [upd_ne (nD b _ q)]; exact q
  · have q := sb.frzs b o u e
    rw [upd_ne (nD b _ q)]; exact q
  · obtain ⟨more, q⟩ := sb.tbls b ps e
    exact ⟨more, by rw [upd_ne (nD b _ q)]; exact q⟩
  · by_cases hb : b = D
    · subst hb
      rw [upd_same] at e
      cases e
      obtain ⟨n, hg⟩ := hl
      exact ⟨hz, its, n, r, hg⟩
    · rw [upd_ne hb] at e
      exact (J.hok b u e).stay (fun c v _ q => q) (fun c q => by rw [upd_ne (nD c _ q)]; exact q) fun c xs q => by rw [upd_ne (nD c _ q)]; exact q
  · obtain ⟨_, f1, _, f3, f4, f5⟩ := hf b hb
    exact ⟨f3, f1, f4, f5⟩
end
end L2
namespace L2
open PySem PySem.Spec PyProof.Rows

/-- a comprehension: W is what holds between two turns, ys the items so far -/
def CompW (J : It) (g : TG) (tc : TT) (te : TE) (Kf : List V → Hp → Prop) (σ0 : St) (H1 : Hp) : Prop :=
  ∃ W : Nat → Nat → List V → St → Hp → Prop, (∃ m, W 0 m [] σ0 H1) ∧ ∀ i m ys σ' H', W i m ys σ' H' → ys.length < sizeLine ∧
    ((J.stop i H' ∧ Kf ys H') ∨ (J.go i H' ∧ ∃ N : List V → St → Hp → Prop, (∀ ys' σ2 H2, N ys' σ2 H2 → ∃ m', m' < m ∧ W (i + 1) m' ys' σ2 H2) ∧ ∀ x H'', J.yld i H' x H'' → g x σ' H'' fun σ2 H2 => tc σ2 H2 fun b H3 =>
      if b = true then te σ2 H3 fun y H4 => N (ys ++ [y]) σ2 H4 else N ys σ2 H3))
def tComp (wi : TI) (ix : List (Option Nat)) (g : TG) (tc : TT) (te : TE) : TE := fun σ H Q =>
  wi σ H fun J H1 => CompW J g tc te (fun ys H' => ∀ l, H' l = none → Q (.ref l) (upd H' l (.lst ys))) (entV ix σ) H1

section
variable {X : Cx} {tg elt iter : Expr} {ifs : List Expr} {scope : Scope} {pos : Pos} {N' : List Str} {ix : List (Option Nat)} {wi : TI} {g : TG} {tc : TT} {te : TE}

/-- where the block ends -/
def CompEnd (X : Cx) (pins : List (Addr × Obj)) (σ : St) (Kf : List V → Hp → Prop) (acc : Value) (C : Addr) (s' : Shared) : Prop :=
  ∃ D H' ys, acc = .ref D ∧ H' D = none ∧ Inv X pins σ (upd H' D (.lst ys)) s' ∧ (∃ m, s'.heap.Ns C m) ∧ H' C = none ∧ D ≠ C ∧ C ≠ X.env.locals ∧ X.s₀.heap.objs.size ≤ C ∧ (∀ x c, X.env.cells.lookup x = some c → c ≠ C) ∧ (∀ p ∈ X.pn ++ pins, p.1 ≠ C) ∧ Kf ys H'

theorem comp_core {pins : List (Addr × Obj)} {s₂ : Shared} {σ : St} {H₂ : Hp} {it : Addr} {fp : List Addr} {tn : Nat → Heap → Prop} {J : It} {Kf : List V → Hp → Prop} {RR : Value → Addr → Result → Shared → Prop} {E : Value → Shared → Prop}
    (S : CompOk X.N X.env.scope scope N' ix) (hc : X.calm = true)
    (hg : ∀ C s₂ H₂ fp, PG (compCx X N' scope C s₂ H₂ fp) tg g) (ht : ∀ C s₂ H₂ fp, PIfs (compCx X N' scope C s₂ H₂ fp) ifs tc) (he : ∀ C s₂ H₂ fp, PE (compCx X N' scope C s₂ H₂ fp) elt te)
    (I2 : Inv X pins σ H₂ s₂) (T : Turn X.prog X.w X.K tg J fp it tn) (st2 : tn 0 s₂.heap) (f2 : ∀ b ∈ fp, FpOk X pins H₂ b) (w : CompW J g tc te Kf (entV ix σ) H₂)
    (hR : ∀ acc C s', CompEnd X pins σ Kf acc C s' → RR acc C (.ok .next) s') :
    wpAny (model X.prog X.w) X.A (newList []) (fun acc s₃ => wpAny (model X.prog X.w) X.A (newFunctionEnv scope X.env.globals (clOf X.env scope.names) [] X.env.qual none .none (some X.env)) (fun cenv s₄ =>
      codeAny (model X.prog X.w) X.A (.compStart (.ListComp elt [⟨tg, iter, ifs, 0⟩] scope pos) 0 (.ref it) acc { cenv with scope := relabel scope X.env }) (RR acc cenv.locals) s₄) E s₃) E s₂ := by
  obtain ⟨W, ⟨m0, w0⟩, turn⟩ := w
  refine wpAny_newObj_type (wpAny_newFunctionEnv S.nocell (by intro y hy; simp at hy) (fun h₁ nsN sbN => ?_) S.kind)
  dsimp only at nsN sbN ⊢
  generalize eH : s₂.heap.push { cls := .type "list", dict := none, data := .seq ([] : List Value).toArray } = G2 at nsN sbN ⊢
  have sizeC : G2.objs.size = s₂.heap.objs.size + 1 := by rw [← eH, Heap.size_push]
  have neDC : s₂.heap.objs.size ≠ G2.objs.size := by rw [sizeC]; exact Nat.ne_of_lt (Nat.lt_succ_self _)
  have leC : s₂.heap.objs.size ≤ G2.objs.size := by rw [sizeC]; exact Nat.le_succ _
  have older : ∀ b, b < s₂.heap.objs.size → b ≠ G2.objs.size ∧ b ≠ s₂.heap.objs.size := fun b hb => ⟨by rw [sizeC]; exact Nat.ne_of_lt (Nat.lt_succ_of_lt hb), Nat.ne_of_lt hb⟩
  have keepOld : ∀ b o, s₂.heap.get? b = some o → h₁.get? b = some o := fun b o e => sbN.extBut b o (older b (Heap.lt_size e)).1 (Heap.get?_push_of_some _ (eH ▸ Heap.get?_push_of_some _ e))
  have accNew : h₁.PlainList s₂.heap.objs.size #[] := ⟨_, sbN.extBut _ _ neDC (Heap.get?_push_of_some _ (eH ▸ Heap.get?_push_size _ rfl))⟩
  generalize eC : G2.objs.size = C at *
  generalize eD : s₂.heap.objs.size = D at *
  have hfC : ∀ b ∈ fp, b < s₂.heap.objs.size := fun b hb => by
    obtain ⟨o, e, _⟩ := T.obj 0 _ st2 b hb
    exact Heap.lt_size e
  have hfD : ∀ b ∈ fp, b ≠ D := fun b hb => by have := hfC b hb; rw [eD] at this; exact Nat.ne_of_lt this
  have hfC' : ∀ b ∈ fp, b ≠ C := fun b hb => by have := hfC b hb; rw [eD] at this; exact Nat.ne_of_lt (Nat.lt_of_lt_of_le this leC)
  have geD : s₂.heap.objs.size ≤ D := by rw [eD]; exact Nat.le_refl _
  have geC : s₂.heap.objs.size ≤ C := by rw [eD]; exact leC
  obtain ⟨nn, hob⟩ := id accNew
  have J1 : Inv (compCx X N' scope C s₂ H₂ fp) [] (entV ix σ) H₂ { s₂ with heap := h₁, toks := s₂.toks + ([] : List (Str × Value)).length } :=
    (comp_start S I2 f2 hfC geC geD neDC keepOld nsN hob (fun v z => by cases z)).pins_of (fun p hp => absurd hp (by simp))
  have nfsD : D ∉ frs X.stack := fun hb => by
    rcases List.mem_cons.mp (I2.stkSub D hb) with z | z
    · exact absurd I2.lt (by rw [← z]; exact Nat.not_lt.mpr geD)
    · exact I2.nofs geD z
  have cOf : ∀ x c, (clOf X.env scope.names).lookup x = some c → c ≠ D ∧ c ≠ C := fun x c e => by
    obtain ⟨v, z⟩ := I2.cell x c (S.get I2 e)
    have := z.lt
    rw [eD] at this
    exact ⟨Nat.ne_of_lt this, Nat.ne_of_lt (Nat.lt_of_lt_of_le this leC)⟩
  -- the records may turn, whatever is pinned besides
  have fpk : ∀ {pl : List (Addr × Obj)} {H' : Hp}, (∀ b ∈ fp, H' b = none) → (∀ p ∈ pl, p.1 ∉ fp) → ∀ b ∈ fp, FpOk (compCx X N' scope C s₂ H₂ fp) pl H' b := fun {pl H'} hn hp b hb =>
    ⟨hn b hb, hfC' b hb, fun z => by
        rcases List.mem_cons.mp (I2.stkSub b z) with q | q
        · exact (f2 b hb).2.1 q
        · exact (f2 b hb).2.2.1 q,
      .inl hb, fun x c e => (f2 b hb).2.2.2.2.1 x c (S.get I2 e), fun p hp' z => hp p (by simpa [compCx] using hp') (by rw [z]; exact hb)⟩
  have dpk : ∀ {H' : Hp}, H' D = none → ∀ b ∈ [D], FpOk (compCx X N' scope C s₂ H₂ fp) [] H' b := fun {H'} hn b hb => by
    have e : b = D := by simpa using hb
    subst e
    exact ⟨hn, neDC, nfsD, .inr geD, fun x c e => (cOf x c e).1, fun p hp => absurd hp (by simp [compCx])⟩
  have loop : codeAny (model X.prog X.w) X.A (.compLoop (.ListComp elt [⟨tg, iter, ifs, 0⟩] scope pos) 0 (.ref it) (.ref D) (compEnvC scope (clOf X.env scope.names) C X.env)) (RR (.ref D) C) { s₂ with heap := h₁, toks := s₂.toks + ([] : List (Str × Value)).length } := by
    refine comp_loop (fun n s' => ∃ i ys σ' H' its, Inv (compCx X N' scope C s₂ H₂ fp) [] σ' H' s' ∧ tn i s'.heap ∧ (∀ b ∈ fp, H' b = none) ∧ H' D = none ∧ s'.heap.PlainList D its.toArray ∧ Vals ys its ∧ W i n ys σ' H') ?_ m0
      ⟨0, [], _, H₂, [], J1, T.keep _ _ _ st2 fun b _ o e => keepOld b o e, fun b hb => (f2 b hb).1, I2.hok.fresh geD, accNew, .nil, w0⟩
    rintro n s3 ⟨i, ys, σ3, H3, its, I3, st3, fr3, dn3, pl3, rv3, w3⟩
    obtain ⟨nn3, hob3⟩ := id pl3
    have oD : ∀ b ∈ [D], ∃ o, s3.heap.get? b = some o ∧ ∀ v, o.data ≠ .cell v := fun b hb => by
      have e : b = D := by simpa using hb
      subst e
      exact ⟨_, hob3, fun v z => by cases z⟩
    have I3' : Inv (compCx X N' scope C s₂ H₂ fp) (pinsAt [D] s3.heap) σ3 H3 s3 := by
      have := I3.pinned (dpk dn3) oD
      simpa using this
    have pD : (D, ({ cls := .type "list", data := .seq its.toArray nn3 } : Obj)) ∈ pinsAt [D] s3.heap := mem_pinsAt (by simp) hob3
    have npD : ∀ p ∈ pinsAt [D] s3.heap, p.1 ∉ fp := fun p hp z => by
      have e : p.1 = D := by simpa using (of_pinsAt hp).1
      exact hfD _ z e
    obtain ⟨hys, tt⟩ := turn i n ys σ3 H3 w3
    rcases tt with ⟨stop, qn⟩ | ⟨go, N, hN, step⟩
    · refine wpAny_mono (T.done (compCx X N' scope C s₂ H₂ fp) rfl rfl rfl hc i (pinsAt [D] s3.heap) s3 σ3 H3 (fun _ _ => False) I3' (fpk fr3 npD) st3 stop) (fun r s4 ⟨hr, I4⟩ => ?_) fun _ _ z => z
      subst hr
      have g4 := (I4.pin _ (List.mem_append_right _ pD)).1
      refine hR _ _ _ ⟨D, H3, ys, rfl, dn3, comp_leave I2 f2 geC geD I4 dn3 ⟨nn3, g4⟩ rv3 (Nat.le_of_lt hys), ?_, ?_, neDC, ?_, ?_, ?_, ?_, qn⟩
      · obtain ⟨m, hm, _⟩ := I4.loc
        exact ⟨m, hm⟩
      · exact I4.free
      · exact Nat.ne_of_gt (Nat.lt_of_lt_of_le I2.lt geC)
      · exact Nat.le_trans I2.sz geC
      · intro x c e z
        obtain ⟨v, q⟩ := I2.cell x c e
        exact absurd (Nat.lt_of_lt_of_le q.lt geC) (by rw [z]; exact Nat.lt_irrefl _)
      · intro p hp z
        exact absurd (Nat.lt_of_lt_of_le (Heap.lt_size (I2.pin p hp).1) geC) (by rw [z]; exact Nat.lt_irrefl _)
    · refine wpAny_mono (T.item (compCx X N' scope C s₂ H₂ fp) rfl rfl rfl hc i (pinsAt [D] s3.heap) s3 σ3 H3 (fun _ _ => False) I3' (fpk fr3 npD) st3 go) (fun r s4 ⟨u, hr, h4⟩ => ?_) fun _ _ z => z
      subst hr
      refine wpAny_mono h4 (fun _ s5 ⟨x, H5, I5, r5, y5, st5, fr5⟩ => ?_) fun _ _ z => z
      have I5' := I5.pinned (fpk fr5 npD) (T.obj _ _ st5)
      refine wpAny_mono (hg C s₂ H₂ fp _ s5 σ3 H5 x u _ I5' r5 (step x H5 y5)) (fun _ s6 ⟨σ6, H6, I6, q6⟩ => ?_) fun _ _ z => z
      refine wpAny_mono (ht C s₂ H₂ fp _ s6 σ6 H6 _ I6 q6) (fun b s7 ⟨H7, I7, q7⟩ => ?_) fun _ _ z => z
      have fin : ∀ {s8 : Shared} {σ8 : St} {H8 : Hp}, Inv (compCx X N' scope C s₂ H₂ fp) (pinsAt [D] s3.heap ++ pinsAt fp s5.heap) σ8 H8 s8 → s8.heap.get? D = some { cls := .type "list", data := .seq its.toArray nn3 } ∧ H8 D = none ∧
          tn (i + 1) s8.heap ∧ ∀ b ∈ fp, H8 b = none := fun {s8 σ8 H8} I8 => by
        have q := I8.pin _ (List.mem_append_right _ (List.mem_append_left _ pD))
        refine ⟨q.1, q.2.1, T.keep _ _ _ st5 fun b hb o e => (I8.pin (b, o) (List.mem_append_right _ (List.mem_append_right _ (mem_pinsAt hb e)))).1, fun b hb => ?_⟩
        obtain ⟨o, e, d⟩ := T.obj _ _ st5 b hb
        exact (I8.pin (b, o) (List.mem_append_right _ (List.mem_append_right _ (mem_pinsAt hb e)))).2.1
      cases b with
      | false =>
        obtain ⟨m', hm, w7⟩ := hN _ _ _ q7
        obtain ⟨a1, a2, a3, a4⟩ := fin I7
        exact ⟨m', hm, i + 1, ys, σ6, H7, its, I7.pins_of fun p hp => absurd hp (by simp), a3, a4, a2, ⟨nn3, a1⟩, rv3, w7⟩
      | true =>
        refine wpAny_mono (he C s₂ H₂ fp _ s7 σ6 H7 _ I7 q7) (fun v s8 ⟨y, H8, I8, r8, n8⟩ => ?_) fun _ _ z => z
        obtain ⟨m', hm, w8⟩ := hN _ _ _ n8
        obtain ⟨a1, a2, a3, a4⟩ := fin I8
        have hsz : its.toArray.size ≤ sizeLine := by
          have := rv3.length
          rw [List.size_toArray]
          omega
        refine wpAny_list_append_plain (hsz := hsz) ⟨nn3, a1⟩ fun h9 hl9 hs9 => ?_
        have I9 : Inv (compCx X N' scope C s₂ H₂ fp) [] σ6 H8 { s8 with heap := h9 } :=
          (I8.pins_of (pins' := []) fun p hp => absurd hp (by simp)).turned (t' := s8.toks) (fun b o hb e => (hs9.2 b hb).trans e) a2 neDC (.inr geD) (fun x c e => (cOf x c e).1) fun p hp => absurd hp (by simp [compCx])
        refine ⟨m', hm, i + 1, ys ++ [y], σ6, H8, its ++ [v], I9, T.keep _ _ _ a3 fun b hb o e => (hs9.2 b (hfD b hb)).trans e, a4, a2, ?_, rv3.append (.cons r8 .nil), w8⟩
        have e : (its ++ [v]).toArray = its.toArray.push v := by simp
        rw [e]; exact hl9
  exact codeAny_compStart_list loop (T.self _ 0 _ _ _ (T.keep _ _ _ st2 fun b _ o e => keepOld b o e) loop)

/-- [elt for tg in iter if ..] -/
theorem pe_comp (N' : List Str) (ix : List (Option Nat)) (hi : PI X tg iter wi) (hg : ∀ C s₂ H₂ fp, PG (compCx X N' scope C s₂ H₂ fp) tg g) (ht : ∀ C s₂ H₂ fp, PIfs (compCx X N' scope C s₂ H₂ fp) ifs tc)
    (he : ∀ C s₂ H₂ fp, PE (compCx X N' scope C s₂ H₂ fp) elt te) (S : compOk X.N X.env.scope scope N' ix = true := by rfl) (hc : X.calm = true := by rfl) (hs : ∀ x, foldedSetIterable iter X.env x = pure x := by intro _; rfl) :
    PE X (.ListComp elt [⟨tg, iter, ifs, 0⟩] scope pos) (tComp wi ix g tc te) := by
  intro pins s σ H Q I h
  have S := CompOk.of S
  rw [eval_ListComp]
  refine wpAny_comprehension_free (use := none) (cl := clOf X.env scope.names) rfl hs (closure_of fun y hy e => I.ok.has y.1 (S.free y hy e)) S.kind S.loc (thn (hi pins s σ H _ I h) fun xv s₁ h₁ => thn h₁ fun itv s₂ h₂ => ?_)
  obtain ⟨it, fp, tn, J, H₂, rfl, I2, T, st2, f2, w⟩ := h₂
  refine comp_core (RR := fun acc C => compPost (model X.prog X.w) X.A X.xe none (EP X pins σ Q) acc C) S hc hg ht he I2 T st2 f2 w fun acc C s' ce => ?_
  obtain ⟨D, H', ys, rfl, dn, J', hm, cn, dc, c1, c2, c3, c4, kf⟩ := ce
  obtain ⟨m, hm⟩ := hm
  refine ⟨m, hm, fun h' hs' => ⟨.ref D, _, J'.turned (t' := s'.toks) (fun b o hb e => (hs'.2 b hb).trans e) (by rw [upd_ne dc.symm]; exact cn) c1 (.inr c2) c3 c4, rfl, kf D dn⟩⟩

/-- x = [elt for tg in iter if ..] where the list goes right into its name -/
theorem ps_setC (N' : List Str) (ix : List (Option Nat)) {i : Nat} {x : Str} {pos' spos : Pos} (hN : X.N.Nodup) (hxi : X.N[i]? = some x) (hx : Loc X.env.scope x) (hi : PI X tg iter wi) (hg : ∀ C s₂ H₂ fp, PG (compCx X N' scope C s₂ H₂ fp) tg g) (ht : ∀ C s₂ H₂ fp, PIfs (compCx X N' scope C s₂ H₂ fp) ifs tc)
    (he : ∀ C s₂ H₂ fp, PE (compCx X N' scope C s₂ H₂ fp) elt te) (S : compOk X.N X.env.scope scope N' ix = true := by rfl) (hc : X.calm = true := by rfl) (hs : ∀ x, foldedSetIterable iter X.env x = pure x := by intro _; rfl)
    (hsw : swapsWith (.ListComp elt [⟨tg, iter, ifs, 0⟩] scope pos) (some (.Name x pos')) spos.line X.env = pure true := by rfl) (hf : X.fn x = true ∨ X.env.scope.names.lookup x = some .local := by first | exact .inl rfl | exact .inr rfl | assumption) :
    PS X (.Assign [.Name x pos'] (.ListComp elt [⟨tg, iter, ifs, 0⟩] scope pos) spos) (tAsg (tComp wi ix g tc te) (gName i)) := by
  intro pins s σ H D I h
  have S := CompOk.of S
  rw [exec_Assign_Name_used _ _ _ _ hsw]
  refine wpAny_bind (wpAny_standAt (wpAny_bind ?_))
  show wpAny _ X.A (do let _ ← comprehension (.ListComp elt [⟨tg, iter, ifs, 0⟩] scope pos) scope X.env _ (newList []) false (eval iter X.env) (some (assign (.Name x pos') X.env))) _ _ s
  refine wpAny_bind (wpAny_mono (wpAny_comprehension_free (use := some (assign (.Name x pos') X.env)) (cl := clOf X.env scope.names) (Q := fun _ s' => SP X pins D .next s') rfl hs (closure_of fun y hy e => I.ok.has y.1 (S.free y hy e)) S.kind S.loc
    (thn (hi pins s σ H _ I h) fun xv s₁ h₁ => thn h₁ fun itv s₂ h₂ => ?_)) (fun _ s' hq => wpAny_pure (wpAny_pure hq)) fun _ _ e => e)
  obtain ⟨it, fp, tn, J, H₂, rfl, I2, T, st2, f2, w⟩ := h₂
  refine comp_core (RR := fun acc C => compPost (model X.prog X.w) X.A X.xe (some (assign (.Name x pos') X.env)) (fun _ s' => SP X pins D .next s') acc C) S hc hg ht he I2 T st2 f2 w fun acc C s' ce => ?_
  obtain ⟨D', H', ys, rfl, dn, J', hm, cn, dc, c1, c2, c3, c4, kf⟩ := ce
  obtain ⟨m, hm⟩ := hm
  show wpAny _ X.A (assign (.Name x pos') X.env (.ref D')) _ _ _
  refine wpAny_assign_Name (store_ok2 (v := .ref D') J' hN hxi hx rfl (fun s2 J2 hsb => ?_) hf)
  obtain ⟨a, hsb, ha⟩ := hsb
  have hCa : C ≠ a := by
    rcases ha with z | z
    · rw [z]; exact c1
    · exact (c3 x a z).symm
  refine ⟨m, hm.sameBut hsb hCa, fun h' hs' => ?_⟩
  exact ⟨_, _, J2.turned (t' := s2.toks) (fun b o hb e => (hs'.2 b hb).trans e) (by rw [upd_ne dc.symm]; exact cn) c1 (.inr c2) c3 c4, kf D' dn⟩

/-- over a list that stays -/
theorem comp_list {K : PySem.W.Frag} {a : Addr} {xs : List V} {Kf : List V → Hp → Prop} {σ0 : St} {H1 : Hp} (Pv : Nat → List V → St → Hp → Prop) (hz : xs.length < sizeLine) (h0 : Pv 0 [] σ0 H1) (hb : ∀ i ys σ H, Pv i ys σ H → ys.length ≤ i) (hl : ∀ i ys σ H, i ≤ xs.length → Pv i ys σ H → SqL K H a xs)
    (hs : ∀ i x ys σ H, xs[i]? = some x → Pv i ys σ H → g x σ H fun σ2 H2 => tc σ2 H2 fun b H3 => if b = true then te σ2 H3 fun y H4 => Pv (i + 1) (ys ++ [y]) σ2 H4 else Pv (i + 1) ys σ2 H3) (hd : ∀ ys σ H, Pv xs.length ys σ H → Kf ys H) : CompW (Itl K a) g tc te Kf σ0 H1 := by
  refine ⟨fun i m ys σ H => m = xs.length - i ∧ i ≤ xs.length ∧ Pv i ys σ H, ⟨xs.length, by simp, Nat.zero_le _, h0⟩, ?_⟩
  rintro i m ys σ H ⟨rfl, hi, p⟩
  have q := hl i ys σ H hi p
  refine ⟨Nat.lt_of_le_of_lt (hb _ _ _ _ p) (Nat.lt_of_le_of_lt hi hz), ?_⟩
  by_cases hlt : i < xs.length
  · refine .inr ⟨⟨xs, xs[i], q, by simp [hlt]⟩, Pv (i + 1), fun ys' σ' H' p' => ⟨xs.length - (i + 1), by omega, rfl, hlt, p'⟩, fun x H' y => ?_⟩
    obtain ⟨e, y⟩ := y
    subst e
    exact hs i x ys σ _ (y xs q) p
  · have e : i = xs.length := by omega
    subst e
    exact .inl ⟨⟨xs, q, Nat.le_refl _⟩, hd ys σ H p⟩
theorem comp_tup {K : PySem.W.Frag} {a : Addr} {xs : List V} {Kf : List V → Hp → Prop} {σ0 : St} {H1 : Hp} (Pv : Nat → List V → St → Hp → Prop) (hz : xs.length < sizeLine) (h0 : Pv 0 [] σ0 H1) (hb : ∀ i ys σ H, Pv i ys σ H → ys.length ≤ i) (hl : ∀ i ys σ H, i ≤ xs.length → Pv i ys σ H → SqT K H a xs)
    (hs : ∀ i x ys σ H, xs[i]? = some x → Pv i ys σ H → g x σ H fun σ2 H2 => tc σ2 H2 fun b H3 => if b = true then te σ2 H3 fun y H4 => Pv (i + 1) (ys ++ [y]) σ2 H4 else Pv (i + 1) ys σ2 H3) (hd : ∀ ys σ H, Pv xs.length ys σ H → Kf ys H) : CompW (Itt K a) g tc te Kf σ0 H1 := by
  refine ⟨fun i m ys σ H => m = xs.length - i ∧ i ≤ xs.length ∧ Pv i ys σ H, ⟨xs.length, by simp, Nat.zero_le _, h0⟩, ?_⟩
  rintro i m ys σ H ⟨rfl, hi, p⟩
  have q := hl i ys σ H hi p
  refine ⟨Nat.lt_of_le_of_lt (hb _ _ _ _ p) (Nat.lt_of_le_of_lt hi hz), ?_⟩
  by_cases hlt : i < xs.length
  · refine .inr ⟨⟨xs, xs[i], q, by simp [hlt]⟩, Pv (i + 1), fun ys' σ' H' p' => ⟨xs.length - (i + 1), by omega, rfl, hlt, p'⟩, fun x H' y => ?_⟩
    obtain ⟨e, y⟩ := y
    subst e
    exact hs i x ys σ _ (y xs q) p
  · have e : i = xs.length := by omega
    subst e
    exact .inl ⟨⟨xs, q, Nat.le_refl _⟩, hd ys σ H p⟩
theorem comp_range {lo : Int} {n : Nat} {Kf : List V → Hp → Prop} {σ0 : St} {H1 : Hp} (Pv : Nat → List V → St → Hp → Prop) (hz : n < sizeLine) (h0 : Pv 0 [] σ0 H1) (hb : ∀ i ys σ H, Pv i ys σ H → ys.length ≤ i)
    (hs : ∀ i ys σ H, i < n → Pv i ys σ H → g (.int (lo + i)) σ H fun σ2 H2 => tc σ2 H2 fun b H3 => if b = true then te σ2 H3 fun y H4 => Pv (i + 1) (ys ++ [y]) σ2 H4 else Pv (i + 1) ys σ2 H3) (hd : ∀ ys σ H, Pv n ys σ H → Kf ys H) : CompW (Itr lo n) g tc te Kf σ0 H1 := by
  refine ⟨fun i m ys σ H => m = n - i ∧ i ≤ n ∧ Pv i ys σ H, ⟨n, by simp, Nat.zero_le _, h0⟩, ?_⟩
  rintro i m ys σ H ⟨rfl, hi, p⟩
  refine ⟨Nat.lt_of_le_of_lt (hb _ _ _ _ p) (Nat.lt_of_le_of_lt hi hz), ?_⟩
  by_cases hlt : i < n
  · refine .inr ⟨hlt, Pv (i + 1), fun ys' σ' H' p' => ⟨n - (i + 1), by omega, rfl, hlt, p'⟩, fun x H' y => ?_⟩
    obtain ⟨e, y⟩ := y
    subst e y
    exact hs i ys σ _ hlt p
  · have e : i = n := by omega
    subst e
    exact .inl ⟨Nat.le_refl _, hd ys σ H p⟩
end
end L2
namespace L2
open PySem PySem.Spec PyProof.Rows
theorem revNoLen : typeLookup (.type "list_reverseiterator") "__len__" = pure none := by rw [typeLookup_type, builtinLookup_eq_fast]; kernel_rfl
theorem revHint : typeLookup (.type "list_reverseiterator") "__length_hint__" = pure (some (.builtin "list_reverseiterator.__length_hint__")) := by rw [typeLookup_type, builtinLookup_eq_fast]; kernel_rfl
/-- the new list at S, as the call of list leaves it empty -/
abbrev newL : Obj := { cls := .type "list", data := .seq #[] }
section
variable {prog : Program} {w : World} {A : Around} {E : Value → Shared → Prop} {Q : Value → Shared → Prop} {s : Shared} {it p : Addr} {items : Array Value}
/-- list(it) where it walks the list at p from its end -/
theorem list_of_rev (hh : A.handled = none) (ne : p ≠ it) (hi : s.heap.IsRevIter it p ((items.size : Int) - 1)) (hp : s.heap.IsList p items) (hz : items.size ≤ sizeLine)
    (k : ∀ t got c, (∀ b o, b ≠ it → s.heap.get? b = some o → t.heap.get? b = some o) → t.gens = s.gens → t.os = s.os →
      t.heap.get? s.heap.objs.size = some { cls := .type "list", dict := none, data := .seq got c, slots := #[] } → got.toList = items.toList.reverse → Q (.ref s.heap.objs.size) t) :
    wpAny (model prog w) A (call (.type "list") [.ref it]) Q E s := by
  let W := (Walks.listRev (prog := prog) (w := w) (A := A.in1.in1) hh it p ne items).toS
  have st0 : 0 ≤ items.size ∧ s.heap.IsRevIter it p ((items.size : Int) - 1 - ((0 : Nat) : Int)) ∧ s.heap.IsList p items := ⟨Nat.zero_le _, by simpa using hi, hp⟩
  have itLt : it < s.heap.objs.size := by
    obtain ⟨o, e, _⟩ := hi
    exact Heap.lt_size e
  have pLt : p < s.heap.objs.size := by
    obtain ⟨o, e, _⟩ := hp
    exact Heap.lt_size e
  have fresh : s.heap.objs.size ∉ [it, p] := fun m => by
    rcases List.mem_cons.mp m with z | z
    · exact Nat.lt_irrefl _ (z ▸ itLt)
    · exact Nat.lt_irrefl _ ((List.mem_singleton.mp z) ▸ pLt)
  have neS : s.heap.objs.size ≠ it := fun z => fresh (by rw [z]; exact List.mem_cons_self)
  refine callType_codes (Q₁ := fun o t => o = .ref s.heap.objs.size ∧ t = { s with heap := s.heap.push newL }) F.called_list (F.typeCall_list_1 _) F.entry_list_init (code_list_new _ ⟨rfl, rfl⟩) ?_
  rintro _ _ ⟨rfl, rfl⟩
  have hS : (s.heap.push newL).get? s.heap.objs.size = some newL := Heap.get?_push_size _ rfl
  refine ⟨⟨_, hS, rfl⟩, F.args_list_init_2 _ _, ?_⟩
  -- list.__init__: emptied, then extended
  refine wpAny_bind (m := Builtin.List.listItems (.ref s.heap.objs.size)) (wpAny_bind (wpAny_seqItems hS rfl (wpAny_pure ?_)))
  refine wpAny_bind (m := updateSeq s.heap.objs.size fun _ => #[]) (wpAny_updateSeq hS rfl (wpAny_bind (wpAny_letGo ?_)))
  have hS2 := Heap.get?_update_self (Obj.mapSeq fun _ => (#[] : Array Value)) hS rfl
  have older : ∀ b o, s.heap.get? b = some o → ((s.heap.push newL).update s.heap.objs.size (Obj.mapSeq fun _ => (#[] : Array Value))).get? b = some o := fun b o e =>
    (Heap.get?_update_other _ _ (Nat.ne_of_gt (Heap.lt_size e))).trans (Heap.get?_push_of_some _ e)
  have st1 := W.frame 0 s ((s.heap.push newL).update s.heap.objs.size (Obj.mapSeq fun _ => (#[] : Array Value))) s.toks st0 (Nat.le_refl _) fun b _ o e => older b o e
  have ty : ∀ i t, (fun (i : Nat) (t : Shared) => i ≤ items.size ∧ t.heap.IsRevIter it p ((items.size : Int) - 1 - (i : Int)) ∧ t.heap.IsList p items) i t → t.TypeIs (.ref it) "list_reverseiterator" := fun i t z => z.2.1.typeIs
  unfold Builtin.List.listExtendWith
  refine wpAny_bind (wpAny_typeOf (ty 0 _ st1) ?_)
  have same : Builtin.List.listSameRef (.ref s.heap.objs.size) (.ref it) = false := by simp [Builtin.List.listSameRef, neS]
  rw [if_neg (by rw [same]; decide)]
  refine wpAny_bind (W.self 0 _ _ _ st1 (wpAny_bind (wpAny_holding ?_)))
  unfold Builtin.List.listLengthHint
  refine wpAny_bind (wpAny_specialOf (ty 0 _ st1) revNoLen ?_)
  refine wpAny_bind (m := specialOf (Value.ref it) (Str.ofString "__length_hint__")) (wpAny_specialOf (ty 0 _ st1) revHint ?_)
  generalize hid : ("list_reverseiterator.__length_hint__" : String) = id0
  wp_delta
  rw [show splitId id0 = some ("list_reverseiterator", "__length_hint__") from by subst hid; decide +kernel]
  subst hid
  refine wpAny_bind (wpAny_isInstance (b := true) (ty 0 _ st1) (by rw [isSubtype_type]; kernel_rfl) (wpAny_pure ?_))
  rw [if_neg (by decide)]
  refine wpAny_pure ⟨plainId_quiet F.plain_extend_loop _, codeAny_extend_loopS W hz _ fresh _ items.size 0 _ _ _ rfl (Nat.zero_le _) st1 hS2 (ItemsOf.nil _) fun t got c mv at' its => ⟨rfl, ?_⟩⟩
  refine k t got c (fun b o hb e => mv.heap b o (fun m => ?_) (older b o e)) mv.gens mv.os at' ?_
  · rcases List.mem_cons.mp m with z | z
    · exact absurd (Heap.lt_size e) (by rw [z]; exact Nat.lt_irrefl _)
    · exact hb (List.mem_singleton.mp z)
  · obtain ⟨len, each⟩ := its
    refine List.ext_getElem? fun j => ?_
    by_cases hj : j < items.size
    · have g : got[j]? = some got[j] := Array.getElem?_eq_getElem (by omega)
      rw [List.getElem?_reverse (by simpa using hj), Array.getElem?_toList, Array.getElem?_toList, g, ← each j _ g]
      simp
    · rw [List.getElem?_eq_none (by simp; omega), List.getElem?_eq_none (by simp; omega)]
end
/-- list(reversed(e)), e a list -/
def tListRev (K : PySem.W.Frag) (te : TE) : TE := fun σ H Q => te σ H fun x H1 => ∃ a ys, x = .ref a ∧ SqL K H1 a ys ∧ ∀ l, H1 l = none → Q (.ref l) (upd H1 l (.lst ys.reverse))
theorem pe_listrev {X : Cx} {e : Expr} {te : TE} {p1 p2 pos1 pos2 : Pos} (he : PE X e te) (g1 : Gl X "list") (m1 : X.mg "list" = none) (g2 : Gl X "reversed") (m2 : X.mg "reversed" = none) (hc : X.calm = true := by rfl)
    (hs1 : starEach [.Call (.Name "reversed" p2) [e] [] pos2] X.env = [(false, eval (.Call (.Name "reversed" p2) [e] [] pos2) X.env)] := by rfl) (hs2 : starEach [e] X.env = [(false, eval e X.env)] := by rfl) :
    PE X (.Call (.Name "list" p1) [.Call (.Name "reversed" p2) [e] [] pos2] [] pos1) (tListRev X.K te) := by
  intro pins s σ H Q I h
  refine wpAny_Call_Name_kw (ld_blt I g1 m1 PyProof.Rows.boot_list ?_)
  refine PyProof.Rows.callWith_type1 ?_ hs1 rfl
  rw [hs1]
  refine Calls.spliced_cons (wpAny_Call_Name_kw (ld_blt I g2 m2 PyProof.Rows.boot_reversed ?_))
  refine PyProof.Rows.callWith_type1 ?_ hs2 rfl
  rw [hs2]
  refine Calls.spliced_cons (thn (he pins s σ H _ I h) fun u s1 ⟨x, H1, I1, r1, a, ys, ex, hq, q⟩ => Calls.spliced_nil ?_)
  subst ex
  cases r1
  obtain ⟨its, rv, pl, hz⟩ := I1.list hq
  have il := pl.isList
  refine call_reversed_list il (Calls.spliced_nil ?_)
  have I2 : Inv X pins σ H1 { s1 with heap := s1.heap.push (revObj a ((its.toArray.size : Int) - 1)) } := I1.kept (t' := s1.toks) fun b o e => Heap.get?_push_of_some _ e
  have aLt : a < s1.heap.objs.size := by
    obtain ⟨o, e, _⟩ := il
    exact Heap.lt_size e
  have len := rv.length
  obtain ⟨f0, f1, f2, f3, f4, f5⟩ : FpOk X pins H1 s1.heap.objs.size := I1.fpOk (Nat.le_refl _) (I1.hok.fresh (Nat.le_refl _))
  refine list_of_rev (p := a) (items := its.toArray) (I.ok.hd hc) (Nat.ne_of_lt aLt) ⟨_, Heap.get?_push_size _ rfl, rfl, rfl⟩ (il.at fun o e => Heap.get?_push_of_some _ e) (by rw [List.size_toArray]; omega) ?_
  intro t got c keep gens os at' eg
  obtain ⟨D, eD⟩ : ∃ D, (s1.heap.push (revObj a ((its.toArray.size : Int) - 1))).objs.size = D := ⟨_, rfl⟩
  have hD : (s1.heap.push (revObj a ((its.toArray.size : Int) - 1))).objs.size ≤ D := Nat.le_of_eq eD
  dsimp only at at' ⊢
  rw [eD] at at' ⊢
  have fD : H1 D = none := I2.hok.fresh hD
  have neT : ∀ b u, H1 b = some u → b ≠ s1.heap.objs.size := fun b u e z => by rw [z, f0] at e; cases e
  refine ⟨.ref D, upd H1 D (.lst ys.reverse), I2.call' (ch := [s1.heap.objs.size]) os ⟨fun b o e n _ hx => keep b o (fun z => hx (by simp [z])) e, fun b o e n _ hx => ⟨o.slots, keep b o (fun z => hx (by simp [z])) e⟩, fun b o e n _ => ?_, fun b o e hx => ⟨o, keep b o (fun z => hx (by simp [z])) e⟩, fun b xs e => ?_, fun b o u e => ?_, fun b ps e => ⟨#[], ?_⟩⟩ (fun b u e => ?_) (by rw [gens]; exact I2.bare) (fun b hb => ?_), rfl, q D fD⟩
  · rw [upd_ne (fun z => absurd (Heap.lt_size e) (by rw [z]; exact Nat.not_lt.mpr hD))]; exact n
  · rw [upd_ne (ne_of_none e fD)]; exact e
  · rw [upd_ne (ne_of_none e fD)]; exact e
  · rw [upd_ne (ne_of_none e fD), e]; simp
  · by_cases hb : b = D
    · subst hb
      rw [upd_same] at e
      cases e
      have at2 : t.heap.get? b = some { cls := .type "list", dict := none, data := .seq its.reverse.toArray c, slots := #[] } := by
        rw [at', ← Array.toArray_toList (xs := got), eg]
      exact ⟨by rw [List.length_reverse]; exact hz, its.reverse, c, Vals.reverse rv, at2⟩
    · rw [upd_ne hb] at e
      refine (I2.hok b u e).stay (fun c' v hc' q' => keep c' v ?_ q') (fun c' q' => by rw [upd_ne (ne_of_none q' fD)]; exact q') fun c' xs q' => by rw [upd_ne (ne_of_none q' fD)]; exact q'
      rcases hc' with z | z
      · rw [z]; exact neT b u e
      · exact neT c' _ z
  · have z : b = s1.heap.objs.size := by simpa using hb
    subst z
    exact ⟨f3, f1, f4, f5⟩
end L2
namespace L2
open PySem PySem.Spec PyProof.Rows
/-- // by a number of at most 250 bits -/
def CDivB (i j : Int) : Prop := 0 < j ∧ j < 2 ^ 250
theorem op_fdivB {X : Cx} : OpR X (binaryOp .FloorDiv) (rI CDivB fun i j => .int (i / j)) := opI fun i j _ _ _ _ _ hc q => by
  obtain ⟨h0, h1⟩ := hc
  refine floordiv_int (by omega) ?_ (.inl (PyProof.noPylong_of_log2 ?_))
  · rw [Int.fdiv_eq_ediv_of_nonneg i (by omega)]; exact q
  · have h2 : j.natAbs < 2 ^ 250 := by
      have e : ((j.natAbs : Nat) : Int) = j := Int.natAbs_of_nonneg (by omega)
      have : ((j.natAbs : Nat) : Int) < ((2 ^ 250 : Nat) : Int) := by rw [e]; exact_mod_cast h1
      exact Int.ofNat_lt.mp this
    have h3 : j.natAbs ≠ 0 := by omega
    have h4 : j.natAbs.log2 < 250 := (Nat.log2_lt h3).mpr h2
    exact Nat.lt_of_lt_of_le h4 (by decide)

/-! ### a deal and its draws -/
def dealK (sd n : Int) (l : Addr) : List (Key × V) := [(.inr "seed", .int sd), (.inr "number", .int n), (.inr "left", .ref l)]
theorem ksn : ¬ ((Sum.inr ("seed" : Str) : Key) = Sum.inr ("number" : Str)) := by decide +kernel
theorem ksl : ¬ ((Sum.inr ("seed" : Str) : Key) = Sum.inr ("left" : Str)) := by decide +kernel
theorem knl : ¬ ((Sum.inr ("number" : Str) : Key) = Sum.inr ("left" : Str)) := by decide +kernel
theorem kns : ¬ ((Sum.inr ("number" : Str) : Key) = Sum.inr ("seed" : Str)) := by decide +kernel
theorem kls : ¬ ((Sum.inr ("left" : Str) : Key) = Sum.inr ("seed" : Str)) := by decide +kernel
theorem kln : ¬ ((Sum.inr ("left" : Str) : Key) = Sum.inr ("number" : Str)) := by decide +kernel
theorem deal_seed (sd n : Int) (l : Addr) : valV (dealK sd n l) (Sum.inr "seed" : Key) = some (.int sd) := by unfold dealK; rw [valV_pos rfl]
theorem deal_number (sd n : Int) (l : Addr) : valV (dealK sd n l) (Sum.inr "number" : Key) = some (.int n) := by unfold dealK; rw [valV_neg ksn, valV_pos rfl]
theorem deal_left (sd n : Int) (l : Addr) : valV (dealK sd n l) (Sum.inr "left" : Key) = some (.ref l) := by unfold dealK; rw [valV_neg ksl, valV_neg knl, valV_pos rfl]
theorem put_seed (sd n v : Int) (l : Addr) : putK (dealK sd n l) (Sum.inr "seed" : Key) (.int v) = dealK v n l := by
  unfold putK dealK
  simp
  exact ⟨fun z => absurd (congrArg Sum.inr z) kns, fun z => absurd (congrArg Sum.inr z) kls⟩
theorem put_number (sd n v : Int) (l : Addr) : putK (dealK sd n l) (Sum.inr "number" : Key) (.int v) = dealK sd v l := by
  unfold putK dealK
  simp
  exact ⟨fun z => absurd (congrArg Sum.inr z) ksn, fun z => absurd (congrArg Sum.inr z) kln⟩
structure DealAt (H : Hp) (d l : Addr) (sd n : Int) (ls : List Int) : Prop where
  dc : H d = some (.dK (dealK sd n l))
  lc : H l = some (.lst (ls.map V.int))
  s0 : 0 ≤ sd
  s1 : sd < 2147483647
  n0 : 0 ≤ n
  l0 : ∀ x ∈ ls, 0 ≤ x
def Deal (H : Hp) (d l : Addr) : Prop := ∃ sd n ls, DealAt H d l sd n ls
theorem DealAt.ne {H : Hp} {d l : Addr} {sd n : Int} {ls : List Int} (D : DealAt H d l sd n ls) : d ≠ l := ne_of D.dc D.lc (by intro z; cases z)
/-- all but the deal is as it was -/
def Out (d l : Addr) (H H' : Hp) : Prop := ∀ b o, H b = some o → b ≠ d → b ≠ l → H' b = some o
theorem Out.refl {d l : Addr} (H : Hp) : Out d l H H := fun _ _ e _ _ => e
theorem Out.trans {d l : Addr} {H H1 H2 : Hp} (a : Out d l H H1) (b : Out d l H1 H2) : Out d l H H2 := fun c o e h1 h2 => b c o (a c o e h1 h2) h1 h2
theorem Out.of {d l : Addr} {H H' : Hp} (s : Same H H') : Out d l H H' := fun c o e _ _ => s c o e
theorem Out.upd_d {d l : Addr} {H : Hp} {o : HO} : Out d l H (upd H d o) := fun b u e h1 _ => by rw [upd_ne h1]; exact e
theorem Out.upd_l {d l : Addr} {H : Hp} {o : HO} : Out d l H (upd H l o) := fun b u e _ h1 => by rw [upd_ne h1]; exact e
theorem same_new {H : Hp} {p : Addr} (h : H p = none) (o : HO) : Same H (upd H p o) := fun b u q => by rw [upd_ne (ne_of_none q h)]; exact q
theorem DealAt.seed {H : Hp} {d l : Addr} {sd n : Int} {ls : List Int} (D : DealAt H d l sd n ls) {v : Int} (h0 : 0 ≤ v) (h1 : v < 2147483647) : DealAt (upd H d (.dK (dealK v n l))) d l v n ls :=
  ⟨upd_same, by rw [upd_ne D.ne.symm]; exact D.lc, h0, h1, D.n0, D.l0⟩
theorem DealAt.number {H : Hp} {d l : Addr} {sd n : Int} {ls : List Int} (D : DealAt H d l sd n ls) {v : Int} (h0 : 0 ≤ v) : DealAt (upd H d (.dK (dealK sd v l))) d l sd v ls :=
  ⟨upd_same, by rw [upd_ne D.ne.symm]; exact D.lc, D.s0, D.s1, h0, D.l0⟩
theorem DealAt.left {H : Hp} {d l : Addr} {sd n : Int} {ls ls' : List Int} (D : DealAt H d l sd n ls) (h : ∀ x ∈ ls', 0 ≤ x) : DealAt (upd H l (.lst (ls'.map V.int))) d l sd n ls' :=
  ⟨by rw [upd_ne D.ne]; exact D.dc, upd_same, D.s0, D.s1, D.n0, h⟩
theorem DealAt.out {H H' : Hp} {d l : Addr} {sd n : Int} {ls : List Int} (D : DealAt H d l sd n ls) (s : Same H H') : DealAt H' d l sd n ls := ⟨s _ _ D.dc, s _ _ D.lc, D.s0, D.s1, D.n0, D.l0⟩
theorem Deal.same {H H' : Hp} {d l : Addr} (D : Deal H d l) (s : Same H H') : Deal H' d l := let ⟨sd, n, ls, q⟩ := D; ⟨sd, n, ls, q.out s⟩
theorem DealAt.gs {H : Hp} {d l : Addr} {sd n : Int} {ls : List Int} (D : DealAt H d l sd n ls) : DGet H d (.str "seed") (some (.int sd)) := by rw [← deal_seed sd n l]; exact DGet.k (k := Sum.inr "seed") D.dc
theorem DealAt.gn {H : Hp} {d l : Addr} {sd n : Int} {ls : List Int} (D : DealAt H d l sd n ls) : DGet H d (.str "number") (some (.int n)) := by rw [← deal_number sd n l]; exact DGet.k (k := Sum.inr "number") D.dc
theorem DealAt.gl {H : Hp} {d l : Addr} {sd n : Int} {ls : List Int} (D : DealAt H d l sd n ls) : DGet H d (.str "left") (some (.ref l)) := by rw [← deal_left sd n l]; exact DGet.k (k := Sum.inr "left") D.dc
theorem DealAt.ps {H : Hp} {d l : Addr} {sd n : Int} {ls : List Int} (D : DealAt H d l sd n ls) (v : Int) : DPut H d (.str "seed") (.int v) (upd H d (.dK (dealK v n l))) := by
  rw [← put_seed sd n v l]; exact DPut.k (k := Sum.inr "seed") D.dc (small1000 (by show 3 ≤ 1000; decide))
theorem DealAt.pn {H : Hp} {d l : Addr} {sd n : Int} {ls : List Int} (D : DealAt H d l sd n ls) (v : Int) : DPut H d (.str "number") (.int v) (upd H d (.dK (dealK sd v l))) := by
  rw [← put_number sd n v l]; exact DPut.k (k := Sum.inr "number") D.dc (small1000 (by show 3 ≤ 1000; decide))
/-- a draw below m: some number, the deal turned, nothing else -/
def spDraw : Sp := fun vs H Q _ => ∃ (d l : Addr) (m : Int), vs = [.ref d, .int m] ∧ Deal H d l ∧ 0 < m ∧ m < 2 ^ 64 ∧
  ∀ (r : Int) (H' : Hp), 0 ≤ r → r < m → Deal H' d l → Out d l H H' → Q (.int r) H'
/-- a deal of the script -/
def spDeal (K : PySem.W.Frag) : Sp := fun vs H Q _ => ∃ (a : Addr) (ns : List Int) (b : Int), vs = [.ref a, .int b] ∧ SqL K H a (ns.map V.int) ∧ ns.length ≤ 63 ∧ 0 ≤ b ∧ b ≤ 1000 ∧
  ∀ (d l : Addr) (H' : Hp), H d = none → H l = none → Deal H' d l → Same H H' → Q (.ref d) H'
theorem ints_at {ns : List Int} {i : Nat} {y : V} (h : (ns.map V.int)[i]? = some y) : ∃ z, y = V.int z ∧ ns[i]? = some z := by
  rw [List.getElem?_map] at h
  cases e : ns[i]? with
  | none => rw [e] at h; cases h
  | some z => rw [e] at h; exact ⟨z, (Option.some.inj h).symm, rfl⟩
end L2
namespace L2
open PySem PySem.Spec PyProof.Rows
/-! ### plain data: ints, texts, bools, None, tuples, lists -/
mutual
def RepD (K : PySem.W.Frag) (H : Hp) : PyData → V → Prop
  | .none, v => v = .non
  | .bool b, v => v = .bl b
  | .int i, v => v = .int i
  | .str x, v => v = .str x
  | .tuple ds, v => ∃ a vs, v = .ref a ∧ SqT K H a vs ∧ RepL K H ds vs
  | .list ds, v => ∃ a vs, v = .ref a ∧ SqL K H a vs ∧ RepL K H ds vs
  | .dict _, _ => False
def RepL (K : PySem.W.Frag) (H : Hp) : List PyData → List V → Prop
  | [], vs => vs = []
  | d :: ds, vs => ∃ v r, vs = v :: r ∧ RepD K H d v ∧ RepL K H ds r
end
section
variable {X : Cx} {pins : List (Addr × Obj)} {σ : St} {H : Hp} {s : Shared}
mutual
theorem RepD.reads (I : Inv X pins σ H s) : ∀ (d : PyData) (v : V) (u : Value), RepD X.K H d v → RelV v u → ∃ as, Reads s.heap u d as
  | .none, v, u, h, r => by
    have h : v = .non := h
    subst h; cases r; exact ⟨_, .none⟩
  | .bool b, v, u, h, r => by
    have h : v = .bl b := h
    subst h; cases r; exact ⟨_, .bool b⟩
  | .int i, v, u, h, r => by
    have h : v = .int i := h
    subst h; obtain ⟨t, rfl⟩ := r; exact ⟨_, .int i t⟩
  | .str x, v, u, h, r => by
    have h : v = .str x := h
    subst h; obtain ⟨t, rfl⟩ := r; exact ⟨_, .str x t⟩
  | .tuple ds, v, u, h, r => by
    obtain ⟨a, vs, rfl, hs, hl⟩ := h
    cases r
    obtain ⟨its, rv, ⟨o, ho, hc, n, hd⟩, _⟩ := I.tuple hs
    obtain ⟨as, ra⟩ := RepL.reads I ds vs its hl rv
    exact ⟨_, .tuple ho hc hd (by simpa using ra)⟩
  | .list ds, v, u, h, r => by
    obtain ⟨a, vs, rfl, hs, hl⟩ := h
    cases r
    obtain ⟨its, rv, pl, _⟩ := I.list hs
    obtain ⟨o, ho, hc, n, hd⟩ := pl.isList
    obtain ⟨as, ra⟩ := RepL.reads I ds vs its hl rv
    exact ⟨_, .list ho hc hd (by simpa using ra)⟩
  | .dict _, v, u, h, r => h.elim
theorem RepL.reads (I : Inv X pins σ H s) : ∀ (ds : List PyData) (vs : List V) (us : List Value), RepL X.K H ds vs → Vals vs us → ∃ as, ReadsAll s.heap us ds as
  | [], vs, us, h, r => by
    have h : vs = [] := h
    subst h; cases r; exact ⟨_, .nil⟩
  | d :: ds, vs, us, h, r => by
    obtain ⟨v, t, rfl, hd, ht⟩ := h
    cases r with
    | cons r1 r2 =>
      obtain ⟨as, ra⟩ := RepD.reads I d v _ hd r1
      obtain ⟨bs, rb⟩ := RepL.reads I ds t _ ht r2
      exact ⟨_, .cons ra rb⟩
end
end
section
variable {X : Cx}
def rEqD (K : PySem.W.Frag) (neg : Bool) : R2 := fun x y H Q => ∃ d e, RepD K H d x ∧ RepD K H e y ∧ SeqAt.shaped d = true ∧ SeqAt.shaped e = true ∧ SeqAt.noMix d e = true ∧ Q (.bl (if neg then !Spec.same d e else Spec.same d e)) H
theorem op_eqD {k : Nat} (hr : Room k X.A) : OpR X (compareOp .Eq) (rEqD X.K false) := by
  intro pins s σ H x y v u Q I rx ry h
  obtain ⟨d, e, hd, he, sd, se, mx, q⟩ := h
  obtain ⟨as, ra⟩ := RepD.reads I d x v hd rx
  obtain ⟨bs, rb⟩ := RepD.reads I e y u he ry
  exact eq_dataH_same ra rb sd se hr.units mx ⟨.bl _, H, I, rfl, q⟩
theorem op_neD {k : Nat} (hr : Room k X.A) : OpR X (compareOp .NotEq) (rEqD X.K true) := by
  intro pins s σ H x y v u Q I rx ry h
  obtain ⟨d, e, hd, he, sd, se, mx, q⟩ := h
  obtain ⟨as, ra⟩ := RepD.reads I d x v hd rx
  obtain ⟨bs, rb⟩ := RepD.reads I e y u he ry
  exact ne_dataH_same ra rb sd se hr.units mx ⟨.bl _, H, I, rfl, q⟩
/-! tuples of ints -/
theorem repL_ints {K : PySem.W.Frag} {H : Hp} : ∀ ns : List Int, RepL K H (ns.map PyData.int) (ns.map V.int)
  | [] => rfl
  | n :: r => ⟨_, _, rfl, rfl, repL_ints r⟩
theorem lay_ints : ∀ ns : List Int, PyData.canLayAll0 (ns.map PyData.int) = true
  | [] => rfl
  | _ :: r => by simp [PyData.canLayAll0, PyData.canLay0, lay_ints r]
theorem depth_ints : ∀ ns : List Int, PyData.depthAll (ns.map PyData.int) = 0
  | [] => rfl
  | _ :: r => by simp [PyData.depthAll, PyData.depth, depth_ints r]
theorem shaped_ints (ns : List Int) : SeqAt.shaped (.tuple (ns.map PyData.int)) = true := by
  simp [SeqAt.shaped, PyData.canLay0, PyData.depth, lay_ints, depth_ints]
theorem nomix_ints : ∀ ns ms : List Int, SeqAt.noMixAll (ns.map PyData.int) (ms.map PyData.int) = true
  | [], [] => rfl
  | [], _ :: _ => rfl
  | _ :: _, [] => rfl
  | _ :: r, _ :: t => by simp [SeqAt.noMixAll, SeqAt.noMix, nomix_ints r t]
theorem same_ints : ∀ ns ms : List Int, Spec.sameAll (ns.map PyData.int) (ms.map PyData.int) = decide (ns = ms)
  | [], [] => by simp [Spec.sameAll]
  | [], _ :: _ => by simp [Spec.sameAll]
  | _ :: _, [] => by simp [Spec.sameAll]
  | a :: r, b :: t => by
    simp only [List.map_cons, Spec.sameAll, Spec.same, same_ints r t]
    by_cases h : a = b <;> by_cases h' : r = t <;> simp [h, h']
/-! isinstance, all -/
end
end L2
namespace L2
open PySem PySem.Spec PyProof.Rows
/-! ### the rules that name the fragment, with the fragment told: for a comprehension's block -/
section
variable {X : Cx} (K : PySem.W.Frag)
theorem ixtK (hK : X.K = K := by rfl) : IxR X (rIxT K) := by subst hK; exact ix_tup
end
end L2
namespace L2
open PySem PySem.Spec PyProof.Rows
theorem iteP {c A B : Prop} [Decidable c] (hc : c) (h : A) : if c then A else B := by rw [if_pos hc]; exact h
theorem iteN {c A B : Prop} [Decidable c] (hc : ¬ c) (h : B) : if c then A else B := by rw [if_neg hc]; exact h
/-! ### list(range(a, b)) -/
def rangeI (lo : Int) (n : Nat) : List Int := (List.range n).map fun (i : Nat) => lo + (i : Int)
theorem rangeI_len (lo : Int) (n : Nat) : (rangeI lo n).length = n := by simp [rangeI]
theorem rangeI_succ (lo : Int) (n : Nat) : rangeI lo (n + 1) = rangeI lo n ++ [lo + n] := by simp [rangeI, List.range_succ]
theorem mem_rangeI {lo z : Int} {n : Nat} : z ∈ rangeI lo n ↔ lo ≤ z ∧ z < lo + n := by
  unfold rangeI
  rw [List.mem_map]
  constructor
  · rintro ⟨i, hi, rfl⟩
    have := List.mem_range.mp hi
    omega
  · rintro ⟨h1, h2⟩
    exact ⟨(z - lo).toNat, List.mem_range.mpr (by omega), by omega⟩
/-! ### any -/
section
variable {X : Cx}
theorem pgtK {es : List Expr} {k : Nat} {t : TGs} {n : Nat} {pos : Pos} (K : PySem.W.Frag) (hc : X.calm = true) (h : PGs X es t) (hK : X.K = K := by rfl)
    (hn : (assignEach es X.env).length = n := by rfl) (hst : (assignEach es X.env).findIdx? (·.1) = none := by rfl) : PG X (.Tuple es k pos) (gTup K n t) := by subst hK; exact pg_tup hc h hn hst
end
/-! ### pairs of ints, as tuples on the heap -/
def pairD (p : Int × Int) : PyData := .tuple [.int p.1, .int p.2]
def Prs (H : Hp) : List V → List (Int × Int) → Prop
  | [], [] => True
  | v :: vs, p :: ps => (∃ a, v = .ref a ∧ H a = some (.tup [.int p.1, .int p.2])) ∧ Prs H vs ps
  | _, _ => False
theorem Prs.mono {H H' : Hp} (h : ∀ a xs, H a = some (.tup xs) → H' a = some (.tup xs)) : ∀ {vs : List V} {ps : List (Int × Int)}, Prs H vs ps → Prs H' vs ps
  | [], [], _ => trivial
  | _ :: _, _ :: _, ⟨⟨a, e, t⟩, r⟩ => ⟨⟨a, e, h _ _ t⟩, Prs.mono h r⟩
  | [], _ :: _, z => z.elim
  | _ :: _, [], z => z.elim
theorem Prs.same {H H' : Hp} {vs : List V} {ps : List (Int × Int)} (s : Same H H') (r : Prs H vs ps) : Prs H' vs ps := r.mono fun _ _ e => s _ _ e
theorem Prs.append {H : Hp} : ∀ {vs ws : List V} {ps qs : List (Int × Int)}, Prs H vs ps → Prs H ws qs → Prs H (vs ++ ws) (ps ++ qs)
  | [], _, [], _, _, r => r
  | _ :: _, _, _ :: _, _, ⟨e, r⟩, r2 => ⟨e, Prs.append r r2⟩
  | [], _, _ :: _, _, z, _ => z.elim
  | _ :: _, _, [], _, z, _ => z.elim
theorem Prs.length {H : Hp} : ∀ {vs : List V} {ps : List (Int × Int)}, Prs H vs ps → vs.length = ps.length
  | [], [], _ => rfl
  | _ :: _, _ :: _, ⟨_, r⟩ => by simp [Prs.length r]
  | [], _ :: _, z => z.elim
  | _ :: _, [], z => z.elim
theorem Prs.get {H : Hp} : ∀ {vs : List V} {ps : List (Int × Int)} {i : Nat} {v : V}, Prs H vs ps → vs[i]? = some v → ∃ a x y, v = .ref a ∧ H a = some (.tup [.int x, .int y])
  | v :: vs, p :: ps, 0, w, ⟨⟨a, e, t⟩, _⟩, h => by simp at h; subst h; exact ⟨a, _, _, e, t⟩
  | v :: vs, p :: ps, i + 1, w, ⟨_, r⟩, h => Prs.get r (by simpa using h)
  | [], [], _, _, _, h => by simp at h
  | [], _ :: _, _, _, z, _ => z.elim
  | _ :: _, [], _, _, z, _ => z.elim
theorem Prs.rep {K : PySem.W.Frag} {H : Hp} : ∀ {vs : List V} {ps : List (Int × Int)}, Prs H vs ps → RepL K H (ps.map pairD) vs
  | [], [], _ => rfl
  | _ :: _, _ :: _, ⟨⟨a, e, t⟩, r⟩ => ⟨_, _, rfl, ⟨a, _, e, SqT.of t, _, _, rfl, rfl, _, _, rfl, rfl, rfl⟩, Prs.rep r⟩
  | [], _ :: _, z => z.elim
  | _ :: _, [], z => z.elim
end L2
namespace L2
open PySem PySem.Spec PyProof.Rows
/-! ### products of great numbers -/
def Below (i : Int) : Prop := -(2 ^ 250) < i ∧ i < 2 ^ 250
def CMulB (i j : Int) : Prop := Below i ∧ Below j
theorem Below.bits {i : Int} (h : Below i) : Builtin.Int.intBits i ≤ 2 ^ 20 := by
  have h1 : i.natAbs < 2 ^ 250 := by
    have := h.1; have := h.2; omega
  exact Nat.le_trans (PyProof.Rows.intBits_le h1) (by decide)
theorem Below.log {i : Int} (h : Below i) : i.natAbs.log2 < 1920 := by
  have h1 : i.natAbs < 2 ^ 250 := by
    have := h.1; have := h.2; omega
  by_cases c : i.natAbs = 0
  · rw [c]; decide
  · exact Nat.lt_of_lt_of_le ((Nat.log2_lt c).mpr h1) (by decide)
theorem op_mulB {X : Cx} : OpR X (binaryOp .Mult) (rI CMulB fun i j => .int (i * j)) := opI fun _ _ _ _ _ _ _ hc q => mul_int q (IntMulOk.of_bits hc.1.bits hc.2.bits)
/-! ### repr of plain data -/
section
variable {X : Cx}
def rRepr (K : PySem.W.Frag) : List V → Hp → VK → Prop := fun xs H Q => ∃ (d : PyData) (p : Addr), xs = [.ref p] ∧ RepD K H d (.ref p) ∧ d.showable = true ∧ d.hasDict = false ∧ d.depth ≤ 64 ∧ d.shown.length ≤ sizeLine ∧ Q (.str d.shown) H
theorem call_reprD {k : Nat} (hr : Room k X.A) : CallR X (.builtin "repr") (rRepr X.K) := by
  intro pins s σ H xs us Q I r h
  obtain ⟨d, p, rfl, hd, hs, hh, hdp, hz, q⟩ := h
  obtain ⟨u, rfl, ru⟩ := vals1 r
  cases ru
  obtain ⟨as, ra⟩ := RepD.reads I d (.ref p) (.ref p) hd rfl
  refine repr_of_reads' ra hs (fun z => by rw [hh] at z; cases z) hr.gd (by have := hr.un; omega) (fun b o e => e) (fun h' u tk hk => ⟨.str _, H, I.kept hk, ⟨_, rfl⟩, q⟩) hz
end
def fracD (a b : Int) : PyData := .tuple [.int a, .int b]
theorem frac_show {a b : Int} (ha : Below a) (hb : Below b) : (fracD a b).showable = true ∧ (fracD a b).hasDict = false ∧ (fracD a b).depth ≤ 64 ∧ (fracD a b).shown.length ≤ sizeLine := by
  refine ⟨?_, rfl, by simp [fracD, PyData.depth, PyData.depthAll], ?_⟩
  · simp [fracD, PyData.showable, PyData.showableAll, ha.log, hb.log]
  · have e1 := PyProof.Rows.int_text_len_1921 ha.log
    have e2 := PyProof.Rows.int_text_len_1921 hb.log
    show (tupleText [Str.ofString (toString a), Str.ofString (toString b)]).length ≤ sizeLine
    have e3 := join_length_add [Str.ofString (toString a), Str.ofString (toString b)] (by simp)
    rw [piled_cons, piled_cons, piled_nil] at e3
    unfold tupleText
    rw [strLen_append, strLen_append]
    have e4 : ((("(" : String) : Str)).length = 1 := rfl
    have e5 : (((if [Str.ofString (toString a), Str.ofString (toString b)].length == 1 then ",)" else ")" : String) : Str)).length = 1 := rfl
    rw [e4, e5, sizeLine_eq]
    omega
theorem frac_rep {K : PySem.W.Frag} {H : Hp} {p : Addr} {a b : Int} (h : H p = some (.tup [.int a, .int b])) : RepD K H (fracD a b) (.ref p) := ⟨p, _, rfl, SqT.of h, _, _, rfl, rfl, _, _, rfl, rfl, rfl⟩
/-! ### a, b, c = x, y, z with plain local names -/
end L2
namespace L2
open PySem PySem.Spec PyProof.Rows
section
variable {X : Cx} {pins : List (Addr × Obj)} {σ : St} {H : Hp} {s : Shared} {h' : Heap}
/-- records of ours have turned, and a new object is laid -/
theorem Inv.turnedNew {T : Addr} {o : HO} {rs : List Addr} {t' : Nat} (I : Inv X pins σ H s) (hf : ∀ b ∈ rs, FpOk X pins H b) (k : ∀ b u, b ∉ rs → s.heap.get? b = some u → h'.get? b = some u)
    (hp : s.heap.objs.size ≤ T) (new : ObjOk X.prog X.w (upd H T o) h' T o) : Inv X pins σ (upd H T o) { s with heap := h', toks := t' } := by
  have fT : H T = none := I.hok.fresh hp
  have nT : ∀ b u, s.heap.get? b = some u → b ≠ T := fun b u e z => absurd (Heap.lt_size e) (by rw [z]; exact Nat.not_lt.mpr hp)
  have nrs : ∀ b u, H b = some u → b ∉ rs := fun b u e z => by rw [(hf b z).1] at e; cases e
  refine I.step (g' := s.gens) (d' := s.drawn) (ch := rs) (fun b hb => ⟨(hf b hb).2.2.2.1, (hf b hb).2.1, (hf b hb).2.2.2.2.1, (hf b hb).2.2.2.2.2⟩) (fun b u _ _ hc e _ => k b u hc e) (fun b u _ _ hc e _ => ⟨u.slots, k b u hc e⟩)
    (fun b u _ e n => by rw [upd_ne (nT b u e)]; exact n) (fun b u hc e => ⟨u, k b u hc e⟩) (fun b xs e => by rw [upd_ne (ne_of_none e fT)]; exact e) (fun b u v e => by rw [upd_ne (ne_of_none e fT)]; exact e)
    (fun b ps e => ⟨#[], by rw [upd_ne (ne_of_none e fT), e]; simp⟩) (fun m hm => ?_) (fun b u e => ?_) I.bare
  · obtain ⟨u, es, ep, hu, r⟩ := hm
    exact ⟨u, es, ep, k _ u (fun z => (hf _ z).2.1 rfl) hu, r⟩
  · by_cases hb : b = T
    · subst hb
      rw [upd_same] at e
      cases e
      exact new
    · rw [upd_ne hb] at e
      refine (I.hok b u e).stay (fun c v hc q => k c v ?_ q) (fun c q => by rw [upd_ne (ne_of_none q fT)]; exact q) fun c xs q => by rw [upd_ne (ne_of_none q fT)]; exact q
      rcases hc with z | z
      · rw [z]; exact nrs b u e
      · exact nrs c _ z
theorem Inv.turnedL {rs : List Addr} {t' : Nat} (I : Inv X pins σ H s) (hf : ∀ b ∈ rs, FpOk X pins H b) (k : ∀ b u, b ∉ rs → s.heap.get? b = some u → h'.get? b = some u) : Inv X pins σ H { s with heap := h', toks := t' } := by
  have nrs : ∀ b u, H b = some u → b ∉ rs := fun b u e z => by rw [(hf b z).1] at e; cases e
  refine I.step (g' := s.gens) (d' := s.drawn) (ch := rs) (fun b hb => ⟨(hf b hb).2.2.2.1, (hf b hb).2.1, (hf b hb).2.2.2.2.1, (hf b hb).2.2.2.2.2⟩) (fun b u _ _ hc e _ => k b u hc e) (fun b u _ _ hc e _ => ⟨u.slots, k b u hc e⟩)
    (fun b u _ _ n => n) (fun b u hc e => ⟨u, k b u hc e⟩) (fun b xs e => e) (fun b u v e => e) (fun b ps e => ⟨#[], by rw [e]; simp⟩) (fun m hm => ?_) (fun b u e => ?_) I.bare
  · obtain ⟨u, es, ep, hu, r⟩ := hm
    exact ⟨u, es, ep, k _ u (fun z => (hf _ z).2.1 rfl) hu, r⟩
  · refine (I.hok b u e).stay (fun c v hc q => k c v ?_ q) (fun c q => q) fun c xs q => q
    rcases hc with z | z
    · rw [z]; exact nrs b u e
    · exact nrs c _ z
end
/-! ### zip of two tuples of one length: its records stand at n .. n + 4 -/
section
variable {prog : Program} {w : World} {A : Around} {E : Value → Shared → Prop} {s : Shared}
/-- the records of a zip over the tuples at l1, l2, i taken -/
structure ZipAt (g : Heap) (n l1 l2 : Addr) (i : Nat) : Prop where
  z : IsZip g (n + 4) (n + 2) (n + 3) .none
  I : IsPair g (n + 2) (.ref n) (.ref (n + 1))
  O : ∃ a b, IsPair g (n + 3) a b
  i1 : g.IsTupleIter n l1 i
  i2 : g.IsTupleIter (n + 1) l2 i
end
end L2
namespace L2
open PySem PySem.Spec PyProof.Rows
section
variable {prog : Program} {w : World} {A : Around} {E : Value → Shared → Prop} {s : Shared}
end
/-! ### the walk over a zip of two tuples of one length -/
section
variable {g : TG} {tc : TT} {te : TE}
end
end L2
namespace L2
open PySem PySem.Spec PyProof.Rows
/-! ### texts -/
section
variable {X : Cx} {tg : Expr}
end
end L2
namespace L2
open PySem PySem.Spec PyProof.Rows
/-! ### enumerate of a list, walked -/
/-! ### sum of a list of ints -/
theorem pre_sum (ns : List Int) : ∀ j, j ≤ ns.length → preSum (fun i => ns.getD i 0) j = (ns.take j).sum
  | 0, _ => by simp [preSum]
  | j + 1, h => by
    have ih := pre_sum ns j (by omega)
    have e : ns[j]? = some ns[j] := by simp [show j < ns.length by omega]
    have q : ns.take (j + 1) = ns.take j ++ [ns[j]] := by rw [List.take_succ, e]; rfl
    rw [q, List.sum_append, ← ih]
    simp [preSum, List.getD, e]
section
variable {X : Cx}
theorem call_sum (hc : X.calm = true := by rfl) : CallR X (.builtin "sum") (fun xs H Q => ∃ (p : Addr) (ns : List Int), xs = [.ref p] ∧ SqL X.K H p (ns.map V.int) ∧ Q (.int ns.sum) H) := by
  intro pins s σ H xs us Q I r h
  obtain ⟨p, ns, rfl, hq, q⟩ := h
  obtain ⟨u, rfl, ru⟩ := vals1 r
  cases ru
  obtain ⟨its, rv, pl, hz⟩ := I.list hq
  have lp : p < s.heap.objs.size := by
    obtain ⟨o, e, _⟩ := pl.isList
    exact Heap.lt_size e
  have hl := rv.length
  rw [List.length_map] at hl
  have val : ∀ i v, its.toArray[i]? = some v → ∃ t, v = Value.int (ns.getD i 0) t := fun i v hv => by
    have hi : its[i]? = some v := by simpa using hv
    have hb : i < ns.length := by
      have := (List.getElem?_eq_some_iff.mp hi).1
      omega
    obtain ⟨u, hu, ru⟩ := rv.get (i := i) (x := V.int ns[i]) (by rw [List.getElem?_map, List.getElem?_eq_getElem hb]; rfl)
    rw [hi] at hu
    cases hu
    obtain ⟨t, e⟩ := ru
    exact ⟨t, by rw [e]; simp [List.getD, hb]⟩
  refine call_sum_walkG (wpAny_pyIter_list pl.isList ⟨s.heap.objs.size, _, _, _, _, _, fun i => ns.getD i 0, rfl, Walks.list (A := X.A.in1) (I.ok.hd hc) s.heap.objs.size p (Nat.ne_of_lt lp) its.toArray, ⟨⟨_, Heap.get?_push_size _ rfl, rfl, rfl⟩, pl.isList.at fun o e => Heap.get?_push_of_some _ e⟩, ?_, val, ?_⟩)
  · intro b hb
    rw [Heap.size_push]
    rcases List.mem_cons.mp hb with z | z
    · rw [z]; exact Nat.lt_succ_self _
    · have z : b = p := by simpa using z
      rw [z]; exact Nat.lt_succ_of_lt lp
  · intro h' tk t' hk
    have kept : ∀ b o, s.heap.get? b = some o → h'.get? b = some o := fun b o e => hk b o (by
      intro z
      have z : b = s.heap.objs.size := by simpa using z
      exact absurd (Heap.lt_size e) (by rw [z]; exact Nat.lt_irrefl _)) (Heap.get?_push_of_some _ e)
    refine ⟨.int ns.sum, H, I.kept kept, ⟨t', ?_⟩, q⟩
    rw [List.size_toArray, ← hl, pre_sum ns _ (Nat.le_refl _), List.take_length]
end
end L2
namespace L2
open PySem PySem.Spec PyProof.Rows
end L2
namespace L2
open PySem PySem.Spec PyProof.Rows
/-! ### a dict's keys, walked: the dict is frozen from then on -/
theorem DGet.f {H : Hp} {a : Addr} {o : Obj} {kvs : List (Key × V)} {k : Key} (e : H a = some (.frz o (.dK kvs))) : DGet H a (kV k) (valV kvs k) := .inl ⟨kvs, k, .inr ⟨o, e⟩, rfl, rfl⟩
end L2
namespace L2
open PySem PySem.Spec PyProof.Rows
section
variable {X : Cx}
variable {g : TG} {tc : TT} {te : TE}
end
end L2
namespace L2
open PySem PySem.Spec PyProof.Rows
open AutoSeq1 (wpAny_loadPart')
/-! ### enumerate of a tuple, walked -/
section
variable {prog : Program} {w : World} {A : Around} {E : Value → Shared → Prop} {s : Shared}
end
section
variable {prog : Program} {w : World} {A : Around} {E : Value → Shared → Prop} {s : Shared}
end
/-- // by a number of at most 400 bits -/
def CDivC (i j : Int) : Prop := 0 < j ∧ j < 2 ^ 200 * 2 ^ 200
theorem op_fdivC {X : Cx} : OpR X (binaryOp .FloorDiv) (rI CDivC fun i j => .int (i / j)) := opI fun i j _ _ _ _ _ hc q => by
  obtain ⟨h0, h1⟩ := hc
  refine floordiv_int (by omega) ?_ (.inl (PyProof.noPylong_of_log2 ?_))
  · rw [Int.fdiv_eq_ediv_of_nonneg i (by omega)]; exact q
  · have h2 : j.natAbs < 2 ^ 200 * 2 ^ 200 := by omega
    rw [← Nat.pow_add] at h2
    have h3 : j.natAbs ≠ 0 := by omega
    have h4 : j.natAbs.log2 < 200 + 200 := (Nat.log2_lt h3).mpr h2
    exact Nat.lt_of_lt_of_le h4 (by decide)
end L2
namespace L2
open PySem PySem.Spec PyProof.Rows
/-! ### loops whose turns neither break nor return: the rest of the def is out of their sight -/
end L2
namespace L2
open PySem PySem.Spec PyProof.Rows
/-! ### sorted(d), d a dict with ints for its keys -/
end L2
namespace L2
open PySem PySem.Spec PyProof.Rows
/-! ### numbers of many bits, by how many -/
def Bits (n : Nat) (i : Int) : Prop := i.natAbs < 2 ^ n
theorem Bits.mono {m n : Nat} {i : Int} (h : Bits m i) (le : m ≤ n) : Bits n i := Nat.lt_of_lt_of_le h (Nat.pow_le_pow_right (by decide) le)
theorem Bits.sub {n : Nat} {i j : Int} (h : Bits n i) (k : Bits n j) : Bits (n + 1) (i - j) := by
  unfold Bits at *
  rw [Nat.pow_succ]
  have := Int.natAbs_sub_le i j
  omega
theorem Bits.of {n : Nat} {i : Int} (h0 : 0 ≤ i) (h1 : i < 2 ^ n) : Bits n i := by
  unfold Bits
  have e : ((i.natAbs : Nat) : Int) = i := Int.natAbs_of_nonneg h0
  have : ((i.natAbs : Nat) : Int) < ((2 ^ n : Nat) : Int) := by rw [e]; exact_mod_cast h1
  exact Int.ofNat_lt.mp this
end L2
namespace L2
open PySem PySem.Spec PyProof.Rows
section
variable {X : Cx}
end
end L2
namespace L2
open PySem PySem.Spec PyProof.Rows
/-! ### (a, b, ..) = a list of that length -/
section
variable {prog : Program} {w : World} {A : Around} {E : Value → Shared → Prop} {s : Shared}
theorem draw_lst {it l : Addr} {its : Array Value} (ne : l ≠ it) : ∀ (n i : Nat) (s : Shared) (Q : List Value → Shared → Prop), s.heap.IsListIter it l i → s.heap.IsList l its → i + n ≤ its.size →
    (∀ g, g.IsListIter it l (i + n) → Heap.SameBut it s.heap g → Q ((its.toList.drop i).take n) { s with heap := g }) → wpAny (model prog w) A (draw (.ref it) n) Q E s
  | 0, i, s, Q, st, _, _, k => by
    show wpAny _ _ (pure []) Q E s
    exact wpAny_pure (by simpa using k s.heap st (Heap.SameBut.refl ..))
  | n + 1, i, s, Q, st, pl, hn, k => by
    have lt : i < its.size := by omega
    show wpAny _ _ (pyNext (.ref it) >>= _) Q E s
    refine wpAny_bind (wpAny_pyNext_list_item st pl (x := its[i]) (by simp [lt]) fun g1 st1 sb1 => ?_)
    refine wpAny_bind (wpAny_holding (draw_lst ne n (i + 1) _ _ st1 (pl.at fun o e => (sb1.2 l ne).trans e) (by omega) fun g2 st2 sb2 => wpAny_pure ?_))
    have dr : its.toList.drop i = its[i] :: its.toList.drop (i + 1) := by simp [List.drop_eq_getElem_cons, lt]
    have fin := k g2 (by rw [show i + (n + 1) = i + 1 + n by omega]; exact st2) (sb1.trans sb2)
    rw [dr, List.take_succ_cons] at fin
    exact fin
theorem unpack_lst {l : Addr} {its : Array Value} {Q : List Value → Shared → Prop} (hh : A.handled = none) (pl : s.heap.IsList l its) (k : ∀ g, Heap.ExtBut s.heap.objs.size s.heap g → Q its.toList { s with heap := g }) :
    wpAny (model prog w) A (unpackItems (.ref l) its.size none) Q E s := by
  have ne : l ≠ s.heap.objs.size := by obtain ⟨o, ho, _⟩ := pl; exact Nat.ne_of_lt (Heap.lt_size ho)
  unfold unpackItems notIterableAtAll
  refine wpAny_bind (wpAny_bind (wpAny_specialOf pl.typeIs PySem.F.slot_list_iter.lookup (wpAny_pure ?_)))
  simp only [Bool.false_eq_true, if_false]
  refine wpAny_bind (wpAny_holding (wpAny_pyIter_list pl ?_))
  have pl1 : (s.heap.push { cls := .type "list_iterator", data := .fields #[.ref l, .int 0 0] }).IsList l its := pl.at fun o e => Heap.get?_push_of_some _ e
  refine wpAny_bind (wpAny_holding (draw_lst ne its.size 0 _ _ ⟨_, Heap.get?_push_size _ rfl, rfl, rfl⟩ pl1 (by omega) fun g1 st1 sb1 => ?_))
  rw [List.drop_zero, List.take_of_length_le (by simp), if_neg (by simp)]
  refine wpAny_bind (wpAny_holding (wpAny_pyNext_list_end hh st1 (pl1.at fun o e => (sb1.2 l ne).trans e) (by simp) fun g2 eb => ?_))
  simp only [Option.isSome_none, Bool.false_eq_true, if_false]
  exact wpAny_pure (k g2 fun b o hb e => eb b o hb ((sb1.2 b hb).trans (Heap.get?_push_of_some _ e)))
theorem assign_lst {env : Env} {elts : List Expr} {x1} {pos : Pos} {l : Addr} {its : Array Value} {Q : Unit → Shared → Prop} (hh : A.handled = none) (pl : s.heap.IsList l its)
    (hn : (assignEach elts env).length = its.size) (hst : (assignEach elts env).findIdx? (·.1) = none)
    (k : ∀ g, Heap.ExtBut s.heap.objs.size s.heap g → wpAny (model prog w) A (assignInOrder ((assignEach elts env).map (·.2)) its.toList) Q E { s with heap := g }) : wpAny (model prog w) A (assign (.Tuple elts x1 pos) env (.ref l)) Q E s := by
  rw [assign_Tuple]
  refine wpAny_bind (wpAny_standAt ?_)
  unfold unpack
  rw [hn, hst]
  exact wpAny_bind (wpAny_holding (unpack_lst hh pl k))
end
section
variable {X : Cx} {pos : Pos}
def gLst (K : PySem.W.Frag) (n : Nat) (t : TGs) : TG := fun v σ H Q => ∃ a xs, v = .ref a ∧ SqL K H a xs ∧ xs.length = n ∧ t xs σ H Q
theorem pg_lst {es : List Expr} {k : Nat} {t : TGs} {n : Nat} (hc : X.calm = true) (h : PGs X es t) (hn : (assignEach es X.env).length = n := by rfl) (hst : (assignEach es X.env).findIdx? (·.1) = none := by rfl) : PG X (.Tuple es k pos) (gLst X.K n t) := by
  intro pins s σ H v u Q I r hw
  obtain ⟨a, xs, e1, hq, hl, hw⟩ := hw
  subst e1
  cases r
  obtain ⟨its, rv, pl, hz⟩ := I.list hq
  refine assign_lst (I.ok.hd hc) pl.isList (by simp [hn, ← hl, rv.length]) hst fun g eb => ?_
  exact h pins _ σ H xs _ Q (I.kept (t' := s.toks) fun b o e => eb b o (Nat.ne_of_lt (Heap.lt_size e)) e) (by simpa using rv) hw
end
end L2
namespace L2
open PySem PySem.Spec PyProof.Rows
/-! ### dict(t), t a tuple of pairs -/
theorem lk_keys : typeLookup (.type "tuple") "keys" = pure none := by rw [typeLookup_type, builtinLookup_eq_fast]; kernel_rfl
section
variable {prog : Program} {w : World} {A : Around} {E : Value → Shared → Prop} {s : Shared}
/-- a tuple has no keys -/
theorem keys_miss {a : Addr} {xs : Array Value} {k : Nat} {sl : Array (Option Value)} {Q : Option Value → Shared → Prop} (hx : s.heap.get? a = some { cls := .type "tuple", dict := none, data := .seq xs k, slots := sl }) (hA : A.handled = none)
    (h : ∀ h' tk, (∀ b o, s.heap.get? b = some o → h'.get? b = some o) → Q none { s with heap := h', toks := tk }) : wpAny (model prog w) A (getAttr? (.ref a) "keys") Q E s := by
  obtain ⟨hp, g, d, tk, os⟩ := s
  have hT : ∀ tk', (⟨hp, g, d, tk', os⟩ : Shared).TypeIs (.ref a) "tuple" := fun _ => ⟨_, hx, rfl⟩
  have f1 := sub_AttributeError
  have f3 := F.slot_tuple_getattribute.lookup
  have f4 := F.slot_tuple_getattribute.bind (.ref a)
  have f5 := am_tuple_getattr_none
  unfold getAttr? getAttrBy? getAttrBy
  repeat (any_goals (first | assumption | exact hT _ |
    ((with_reducible show wpAny _ _ (call (Value.builtin "tuple.__getattribute__") _ _) _ _ _)
     refine call_meets F.slot_tuple_getattribute (hT _) am_entry_tuple_getattribute (F.args_tuple_getattribute_2 _ _) (meets_getattribute_miss_tuple a xs k sl "keys" _ lk_keys (by decide +kernel)) ⟨hx, hA, fun h' tk' e ne => ?_⟩) | wp_step))
  obtain ⟨t', u', he⟩ := ne.there
  show wpAny _ _ (getattributeRaised _ _ _ _ _ _ _) _ _ _
  unfold getattributeRaised
  repeat (any_goals (first | assumption | wp_step))
  exact h _ _ ne.keeps
end
section
variable {X : Cx} {pins : List (Addr × Obj)} {σ : St} {H : Hp} {s : Shared} {a : Addr} {y v : V} {u r : Value} {A : Around} {E : Value → Shared → Prop}
theorem d_dictSet {H' : Hp} {Q : Unit → Shared → Prop} (hu : A.units < cLine) (I : Inv X pins σ H s) (g : DPut H a y v H') (ry : RelV y u) (rv : RelV v r) (h : ∀ s', Inv X pins σ H' s' → Heap.SameBut a s.heap s'.heap → Q () s') :
    wpAny (model X.prog X.w) A (dictSet a u r) Q E s := by
  rcases g with ⟨kvs, k, e, ey, l, eH⟩ | ⟨kvs, k, b, e, ey, eb, l, eH⟩
  · subst ey eH
    obtain ⟨z, hd, vs, rel, dd⟩ := dk_of I.hok e
    refine wpAny_dictSet_pairs (hsz := by rw [← rel.length]; exact z) (kV_is ry) dd fun h' dd' hs => h _ (d_write I (by rw [e]; exact True.intro) hs (let ⟨q, _, _, hq, _⟩ := dd'; ⟨q, hq⟩) (dk_new ?_ hd (rel.put k rv) dd')) hs
    have := length_putK kvs k v
    omega
  · subst ey eH
    cases (show u = Value.ref b from ry)
    obtain ⟨z, hd, xs, rel, dd⟩ := dt_of I.hok e
    have hl : (putK kvs k v).length ≤ sizeLine := by have := length_putK kvs k v; omega
    refine wpAny_dictSet_heap (hsz := by rw [← Paired.length rel]; exact z) (show (tupleKind (mixKind X.prog X.w)).room A from hu) (key_of I.hok eb) dd fun h' dd' hs => h _ ?_ hs
    obtain ⟨q, es, ep, hq, h2, h3, h4, _, h5⟩ := dd'
    refine d_write I (by rw [e]; exact True.intro) hs ⟨q, hq⟩ ⟨hl, hd, _, (rel.put k eb rv).keeps fun c ys ec => ?_, q, es, ep, hq, h2, h3, h4, h5⟩
    rw [upd_ne (ne_of ec e (fun z => nomatch z))]
    exact ec
end
end L2
namespace L2
open PySem PySem.Spec PyProof.Rows
theorem entry_dul : entryFor table "dict.update.loop" = some Builtin.«dict.update.loop» := entryFor_of_tree (by kernel_rfl)
/-- what each pair of the tuple does to the dict at d, o i being the dict when i of them are in it -/
def DChain (H : Hp) (d : Addr) (ys : List V) (o : Nat → HO) : Prop := ∀ i, i < ys.length → ∃ t k v, ys[i]? = some (.ref t) ∧ H t = some (.tup [k, v]) ∧ DPut (upd H d (o i)) d k v (upd H d (o (i + 1)))
section
variable {X : Cx} {pins : List (Addr × Obj)} {σ : St} {H : Hp} {s : Shared} {A : Around} {E : Value → Shared → Prop}
theorem dict_loop {p d it : Addr} {ys : List V} {o : Nat → HO} {Q : Value → Shared → Prop} (hu : A.in1.units < cLine) (hA : A.in1.handled = none) (hp : H p = some (.tup ys)) (hd : H d = none) (hi0 : H it = none) (hid : it ≠ d) (C : DChain H d ys o)
    (q : ∀ s', Inv X pins σ (upd H d (o ys.length)) s' → Q .none s') : ∀ (n i : Nat) (tk : Tok) (s : Shared), n + i = ys.length → Inv X pins σ (upd H d (o i)) s → FpOk X pins (upd H d (o i)) it → s.heap.IsTupleIter it p i →
    codeAny (model X.prog X.w) A (.builtin "dict.update.loop" ⟨[.ref d, .ref it, .int i tk, .none], []⟩) (wants Q E) s := by
  intro n
  induction n with
  | zero =>
    intro i tk s hn I hf st
    have e : i = ys.length := by omega
    subst e
    have hp' : upd H d (o ys.length) p = some (.tup ys) := by rw [upd_ne (ne_of_none hp hd)]; exact hp
    obtain ⟨its, rv, tp, hz⟩ := I.tuple (SqT.of hp')
    obtain ⟨f0, f1, f2, f3, f4, f5⟩ := hf
    have hl := rv.length
    refine codeAny_builtin entry_dul ?_
    unfold Builtin.«dict.update.loop»
    refine wpAny_bind (wpAny_pyNext_tuple_end hA st (show s.heap.IsTuple p its.toArray from tp) (by simp; omega) fun h' eb => ?_)
    have I1 := I.turned (h' := h') (t' := s.toks) (fun b o hb e => eb b o hb e) f0 f1 f3 f4 f5
    show wpAny _ _ (Builtin.Dict.addKeywords d [] >>= fun _ => ret Value.none) _ _ _
    exact wpAny_bind (wpAny_pure (wpAny_pure (q _ I1)))
  | succ n ih =>
    intro i tk s hn I hf st
    have hi : i < ys.length := by omega
    obtain ⟨t, k, v, ey, ht, g⟩ := C i hi
    have hp' : upd H d (o i) p = some (.tup ys) := by rw [upd_ne (ne_of_none hp hd)]; exact hp
    have ht' : upd H d (o i) t = some (.tup [k, v]) := by rw [upd_ne (ne_of_none ht hd)]; exact ht
    obtain ⟨its, rv, tp, hz⟩ := I.tuple (SqT.of hp')
    obtain ⟨u, hu', ru⟩ := rv.get ey
    cases ru
    obtain ⟨f0, f1, f2, f3, f4, f5⟩ := id hf
    refine codeAny_builtin entry_dul ?_
    unfold Builtin.«dict.update.loop»
    refine wpAny_bind (wpAny_pyNext_tuple_item st (show s.heap.IsTuple p its.toArray from tp) (x := .ref t) (by simpa using hu') fun h' st' sb => ?_)
    have I1 := I.turned (h' := h') (t' := s.toks) (fun b o hb e => (sb.2 b hb).trans e) f0 f1 f3 f4 f5
    obtain ⟨its2, rv2, ⟨o2, e2, c2, m2, d2⟩, _⟩ := I1.tuple (SqT.of ht')
    obtain ⟨uk, uv, rfl, rk, rV⟩ := vals2 rv2
    refine wpAny_bind (wpAny_holding (wpAny_bind (wpAny_tryCatch ?_)))
    refine (show wpAny _ _ (typeOf (.ref t) >>= _) _ _ _ from wpAny_bind (wpAny_typeOf (T := "tuple") ⟨o2, e2, c2⟩ ?_))
    refine (show wpAny _ _ (seqItems? (.ref t) >>= _) _ _ _ from wpAny_bind (wpAny_seqItems e2 d2 (wpAny_pure ?_)))
    show wpAny _ _ (holding [uk, uv] (dictSet d uk uv)) _ _ _
    refine wpAny_holding (d_dictSet hu I1 g rk rV fun s2 I2 sb2 => ?_)
    refine (show wpAny _ _ (again _) _ _ _ from wpAny_pure ⟨Code.quiet_builtin _ (by decide +kernel), ?_⟩)
    have ni : upd H d (o (i + 1)) it = none := by rw [upd_ne hid]; exact hi0
    exact ih (i + 1) _ s2 (by omega) I2 ⟨ni, f1, f2, f3, f4, f5⟩ (st'.at fun ob e => (sb2.2 it hid).trans e)
/-- dict(t), t a tuple of pairs -/
theorem call_dictP {k : Nat} (hr : Room k X.A) : CallR X (.type "dict") (fun xs H Q => ∃ (p : Addr) (ys : List V) (o : Nat → HO), xs = [.ref p] ∧ H p = some (.tup ys) ∧ (o 0 = .dK [] ∨ o 0 = .dT []) ∧ ∀ d, H d = none → DChain H d ys o ∧ Q (.ref d) (upd H d (o ys.length))) := by
  intro pins s σ H xs us Q I r h
  obtain ⟨p, ys, o, rfl, hp, h0, h⟩ := h
  obtain ⟨u, rfl, ru⟩ := vals1 r
  cases ru
  have hf : H s.heap.objs.size = none := I.hok.fresh (Nat.le_refl _)
  obtain ⟨C, q⟩ := h _ hf
  have hu := hr.units
  have ty : (⟨s.heap.push { cls := .type "dict", data := .dict #[] }, s.gens, s.drawn, s.toks, s.os⟩ : Shared).TypeIs (.ref s.heap.objs.size) "dict" := ⟨_, Heap.get?_push_size _ rfl, rfl⟩
  have I1 : Inv X pins σ (upd H s.heap.objs.size (o 0)) { s with heap := s.heap.push { cls := .type "dict", data := .dict #[] } } := by
    rcases h0 with e | e
    · rw [e]
      exact I.laid (a := s.heap.objs.size) (o := .dK []) (t' := s.toks) (fun _ _ q => Heap.get?_push_of_some _ q) (Nat.le_refl _) (dk_empty s.heap I.big)
    · rw [e]
      exact I.laid (a := s.heap.objs.size) (o := .dT []) (t' := s.toks) (fun _ _ q => Heap.get?_push_of_some _ q) (Nat.le_refl _) (dt_empty s.heap I.big)
  refine callType_codes (Q₁ := fun obj s₁ => obj = .ref s.heap.objs.size ∧ s₁ = { s with heap := s.heap.push { cls := .type "dict", data := .dict #[] } }) F.kt_called_dict (F.kt_typeCall_dict_1 _) F.entry_dict_init (kt_code_dict_new _ ⟨rfl, rfl⟩) ?_
  rintro obj s₁ ⟨rfl, rfl⟩
  refine ⟨ty, F.args_dict_init_2 _ _, ?_⟩
  unfold Builtin.«dict.__init__»
  refine wpAny_bind ?_
  unfold Builtin.Dict.selfAndRest
  refine wpAny_bind (wpAny_notOrdered_dict ty ?_)
  show wpAny _ _ (pure (s.heap.objs.size, [Value.ref p])) _ _ _
  refine wpAny_pure ?_
  show wpAny _ _ (Builtin.Dict.updateFrom "dict.__init__" s.heap.objs.size (.ref p) [] .none) _ _ _
  unfold Builtin.Dict.updateFrom
  generalize hd0 : s.heap.objs.size = d at hf C q I1 ⊢
  have hp1 : upd H d (o 0) p = some (.tup ys) := by rw [upd_ne (ne_of_none hp hf)]; exact hp
  obtain ⟨_, its, rv, o1, e1, c1, n1, d1, x1⟩ := (show ObjOk X.prog X.w _ _ p (.tup ys) from I1.hok p _ hp1)
  refine wpAny_bind (wpAny_typeOf (T := "tuple") ⟨o1, e1, c1⟩ ?_)
  rw [if_pos (by decide)]
  obtain ⟨oc, od, oda, osl⟩ := o1
  dsimp only at c1 d1 x1
  subst c1 d1 x1
  refine wpAny_bind (keys_miss e1 (show X.A.handled = none from hr.hd) fun h' tk kp => ?_)
  have I2 := I1.kept (h' := h') (t' := tk) kp
  rw [if_pos (by rfl)]
  refine wpAny_bind (wpAny_rule (wpAny_bind (wpAny_pyIter_tuple (items := its.toArray) ⟨_, kp _ _ e1, rfl, _, rfl⟩ ?_)))
  have I3 := I2.kept (h' := h'.push { cls := .type "tuple_iterator", data := .fields #[.ref p, .int 0 0] }) (t' := tk) fun b o e => Heap.get?_push_of_some _ e
  have hit : upd H d (o 0) h'.objs.size = none := I2.hok.fresh (Nat.le_refl _)
  have hid : h'.objs.size ≠ d := fun z => by rw [z, upd_same] at hit; cases hit
  have hi0 : H h'.objs.size = none := by rw [upd_ne hid] at hit; exact hit
  refine wpAny_pure ⟨Code.quiet_builtin _ (by decide +kernel), ?_⟩
  refine dict_loop (A := X.A.in1) (Q := fun r s₂ => r = Value.none ∧ EP X pins σ Q (.ref d) s₂) (H := H) (p := p) (ys := ys) (o := o) (by show X.A.units + 1 + 1 < cLine; omega) (show X.A.handled = none from hr.hd) hp hf hi0 hid C (fun s' I' => ⟨rfl, .ref d, _, I', rfl, q⟩) ys.length 0 _ _ (by omega) I3 ⟨hit, ?_⟩ ⟨_, Heap.get?_push_size _ rfl, rfl, rfl⟩
  exact (I2.fpOk (H' := upd H d (o 0)) (Nat.le_refl _) hit).2
end
end L2
namespace L2
open PySem PySem.Spec PyProof.Rows PySem.W
/-! ### sorted of a list of tuples of ints: some order of the same ones -/
/-- all asks are below n, all leaves keep R -/
def AllL {α : Type} (n : Nat) (R : α → Prop) : KasT α → Prop
  | .ret a => R a
  | .ask i j k => i < n ∧ j < n ∧ ∀ b, AllL n R (k b)
theorem AllL.bind {α β : Type} {n : Nat} {R : α → Prop} {S : β → Prop} {f : α → KasT β} : ∀ {t : KasT α}, AllL n R t → (∀ a, R a → AllL n S (f a)) → AllL n S (t.bind f)
  | .ret a, h, k => by rw [KasT.bind.eq_1]; exact k a h
  | .ask i j g, h, k => by rw [KasT.bind.eq_2]; exact ⟨h.1, h.2.1, fun b => AllL.bind (h.2.2 b) k⟩
theorem AllL.wp {α : Type} {n : Nat} {R : α → Prop} {cmp : Nat → Nat → (Bool → Shared → Prop) → Shared → Prop} {Q : α → Shared → Prop} {s : Shared} (hc : ∀ i j C, i < n → j < n → (∀ b, C b s) → cmp i j C s) (hq : ∀ a, R a → Q a s) : ∀ {t : KasT α}, AllL n R t → KasT.kasWp cmp t Q s
  | .ret a, h => by rw [KasT.kasWp.eq_1]; exact hq a h
  | .ask i j k, h => by rw [KasT.kasWp.eq_2]; exact hc i j _ h.1 h.2.1 fun b => AllL.wp hc hq (h.2.2 b)
def PermN (n : Nat) (p : Array Nat) : Prop := p.Perm (List.range n).toArray
theorem PermN.get {n : Nat} {p : Array Nat} (h : PermN n p) (h0 : 0 < n) (x : Nat) : p.getD x 0 < n := by
  by_cases c : x < p.size
  · have e : p.getD x 0 = p[x] := by simp [Array.getD, c]
    have m : p[x] ∈ (List.range n).toArray.toList := (Array.perm_iff_toList_perm.mp h).mem_iff.mp (by simp)
    rw [e]
    simpa using m
  · have e : p.getD x 0 = 0 := by simp [Array.getD, c]
    omega
theorem PermN.rev {n : Nat} {p : Array Nat} (h : PermN n p) (i j : Nat) : PermN n (kas_rev p i j) := (mirror_perm p i j _).trans h
section
variable {n : Nat} (h0 : 0 < n)
include h0
theorem all_asc {p : Array Nat} (h : PermN n p) : ∀ f x, AllL n (fun _ => True) (kas_asc p f x)
  | 0, x => by rw [kas_asc.eq_1]; trivial
  | f + 1, x => by
    rw [show f + 1 = f.succ from rfl, kas_asc.eq_2]
    exact ⟨h.get h0 _, h.get h0 _, fun b => by cases b; exact all_asc h f _; trivial⟩
theorem all_desc : ∀ (f : Nat) {p : Array Nat} (x y : Nat), PermN n p → AllL n (fun r => PermN n r.1) (kas_desc f p x y)
  | 0, p, x, y, h => by rw [kas_desc.eq_1]; exact h
  | f + 1, p, x, y, h => by
    rw [show f + 1 = f.succ from rfl, kas_desc.eq_2]
    refine ⟨h.get h0 _, h.get h0 _, fun b => ?_⟩
    cases b
    · refine ⟨h.get h0 _, h.get h0 _, fun b => ?_⟩
      cases b
      · exact all_desc f _ _ h
      · exact h
    · show AllL n _ (if y > 0 then _ else _)
      split
      · exact all_desc f _ _ (h.rev _ _)
      · exact all_desc f _ _ h
theorem all_tail {p : Array Nat} (h : PermN n p) (x y : Nat) : AllL n (fun r : Nat × Array Nat => PermN n r.2) (kas_tail3 x y p) := by
  rw [kas_tail3.eq_1]
  exact (all_asc h0 (h.rev _ _) _ _).bind fun a _ => h.rev _ _
theorem all_descPart {p : Array Nat} (h : PermN n p) (x y : Nat) : AllL n (fun r : Nat × Array Nat => PermN n r.2) (kas_descPart x y p) := by
  rw [kas_descPart.eq_1]
  refine (all_desc h0 _ _ _ h).bind fun r hr => ?_
  split
  · exact all_tail h0 (hr.rev _ _) _ _
  · exact all_tail h0 hr _ _
theorem all_count {p : Array Nat} (h : PermN n p) (m : Nat) : AllL n (fun r : Nat × Array Nat => PermN n r.2) (kas_count m p) := by
  rw [kas_count.eq_1]
  refine (all_asc h0 h _ _).bind fun x _ => ?_
  split
  · exact h
  · split
    · refine ⟨h.get h0 _, h.get h0 _, fun b => ?_⟩
      cases b
      · exact all_descPart h0 (h.rev _ _) _ _
      · exact h
    · exact all_descPart h0 h _ _
theorem all_place {p : Array Nat} (h : PermN n p) (k : Nat) : ∀ f l r, AllL n (fun _ => True) (kas_place p k f l r)
  | 0, l, r => by rw [kas_place.eq_def]; trivial
  | f + 1, l, r => by
    rw [kas_place.eq_def]
    show AllL n _ (if l ≥ r then _ else _)
    split
    · trivial
    · refine ⟨h.get h0 _, h.get h0 _, fun b => ?_⟩
      cases b
      · exact all_place h k f _ _
      · exact all_place h k f _ _
theorem all_bin : ∀ (f : Nat) {p : Array Nat} (x : Nat), PermN n p → AllL n (PermN n) (kas_bin f p x)
  | 0, p, x, h => by rw [kas_bin.eq_1]; exact h
  | f + 1, p, x, h => by
    rw [show f + 1 = f.succ from rfl, kas_bin.eq_2]
    exact (all_place h0 h _ _ _ _).bind fun l _ => all_bin f _ ((bubble_perm p _ _).trans h)
theorem all_sort : AllL n (PermN n) (kas_sort n) := by
  unfold kas_sort
  refine (all_count h0 (Array.Perm.refl _) _).bind fun r hr => ?_
  split
  · exact all_bin h0 _ _ hr
  · exact hr
end
end L2
namespace L2
open PySem PySem.Spec PyProof.Rows PySem.W HT
/-- a tuple of ints -/
def TupI (h : Heap) (v : Value) : Prop := ∃ (a : Addr) (its : Array Value) (ns : List Int), v = .ref a ∧ IsTup h a its ∧ IntsAre its.toList ns
theorem ints_mem : ∀ {us : List Value} {ns : List Int}, IntsAre us ns → ∀ {v : Value}, v ∈ us → ∃ x t, v = Value.int x t
  | _, _, .cons n t r, v, h => by
    rcases List.mem_cons.mp h with rfl | h
    · exact ⟨_, _, rfl⟩
    · exact ints_mem r h
section
variable {prog : Program} {w : World} {A : Around} {E : Value → Shared → Prop} {s : Shared}
theorem lex_ints {b fin : Bool} {Q : Bool → Shared → Prop} (hQ : ∀ b, Q b s) (hu : A.units < cLine) : ∀ (ps : List (Value × Value)) (i : Nat), (∀ p ∈ ps, ∃ x t y u, p = (Value.int x t, Value.int y u)) → KatLex prog w A b fin Q ps i s
  | [], i, _ => kat_nil (hQ _)
  | (p, q) :: r, i, h => by
    obtain ⟨x, t, y, u, e⟩ := h _ List.mem_cons_self
    cases e
    refine kat_cons (SeqAt.EqAt.int_int x t y u prog w _ _ ?_)
    rw [KatGo.eq_1]
    split
    · exact lex_ints hQ hu r (i + 1) fun p hp => h p (List.mem_cons_of_mem _ hp)
    · cases hb : (b && i == 0)
      · exact kat_one _ _ (PyProof.Rows.lt_int (hQ _))
      · exact kat_lt_int (hQ _)
theorem lt_any {x y : Value} {κ : SortKind} {Q : Bool → Shared → Prop} (hu : A.units + 1 < cLine) (tx : TupI s.heap x) (ty : TupI s.heap y) (hk : κ = general' ∨ κ = oneType' ∨ ∃ b, κ = tuples' b) (hQ : ∀ b, Q b s) :
    wpAny (model prog w) A (keyLt' κ x y) Q E s := by
  obtain ⟨a, its, ns, rfl, hx, ix⟩ := tx
  obtain ⟨c, jts, ms, rfl, hy, iy⟩ := ty
  rcases hk with rfl | rfl | ⟨b, rfl⟩
  · exact kat_one _ _ (lt_tupInts hx hy ix iy (by omega) (hQ _))
  · show wpAny _ _ (oneLt' true _ _) _ _ _
    rw [oneLt'_eq]
    refine wpAny_bind (wpAny_cRoomFor (by omega) ?_)
    obtain ⟨⟨cls, dd, data, sl⟩, ho, hc, n, hd⟩ := id hx
    obtain ⟨⟨cls2, dd2, data2, sl2⟩, ho2, hc2, n2, hd2⟩ := id hy
    simp only at hc hd hc2 hd2
    subst hc hd hc2 hd2
    refine wpAny_bind (wpAny_callSpecialIfBound?_slot (T := "tuple") ⟨_, ho, rfl⟩ PySem.F.slot_tuple_lt (call_meets PySem.F.slot_tuple_lt ⟨_, ho, rfl⟩ PySem.F.entry_tuple_lt (PySem.F.args_tuple_lt_2 _ _) (tuple_lt_ints a c its jts n n2 dd dd2 sl sl2 ns ms ix iy) ⟨ho, ho2, ?_⟩))
    exact wpAny_truthy_bool (hQ _)
  · obtain ⟨o, ho, hc, n, hd⟩ := id hx
    obtain ⟨o2, ho2, hc2, n2, hd2⟩ := id hy
    refine kat_lt ho hd ho2 hd2 (lex_ints hQ (by omega) _ _ fun p hp => ?_)
    obtain ⟨p1, p2⟩ := p
    have m1 := (List.of_mem_zip hp).1
    have m2 := (List.of_mem_zip hp).2
    obtain ⟨x, t, e⟩ := ints_mem ix m1
    obtain ⟨y, u, e'⟩ := ints_mem iy m2
    exact ⟨x, t, y, u, by rw [e, e']⟩
theorem mapM_some {α β : Type} {f : α → Sem β} {P : β → Prop} : ∀ (l : List α) {Q : List β → Shared → Prop}, (∀ v ∈ l, ∀ Q' : β → Shared → Prop, (∀ r, P r → Q' r s) → wpAny (model prog w) A (f v) Q' E s) → (∀ rs, (∀ r ∈ rs, P r) → Q rs s) → wpAny (model prog w) A (List.mapM f l) Q E s
  | [], Q, _, q => by rw [List.mapM_nil]; exact wpAny_pure (q [] fun r h => absurd h List.not_mem_nil)
  | v :: l, Q, h, q => by
    rw [List.mapM_cons]
    refine wpAny_bind (h v List.mem_cons_self _ fun r pr => ?_)
    refine wpAny_bind (mapM_some l (fun v' h' => h v' (List.mem_cons_of_mem _ h')) fun rs prs => ?_)
    refine wpAny_pure (q _ fun r' h' => ?_)
    rcases List.mem_cons.mp h' with rfl | h'
    · exact pr
    · exact prs _ h'
theorem oneType_any {l : List Value} {Q : Option Value → Shared → Prop} (h : ∀ v ∈ l, ∃ T, s.TypeIs v T) (q : ∀ r, Q r s) : wpAny (model prog w) A (oneTypeOnly' l.toArray) Q E s := by
  rw [oneTypeOnly'_eq, List.mapM_toArray]
  refine wpAny_bind ?_
  show wpAny _ _ (List.mapM typeOf l >>= fun a => pure a.toArray) _ _ _
  refine wpAny_bind (mapM_some (P := fun _ => True) l (fun v hv Q' hQ' => ?_) fun rs _ => wpAny_pure ?_)
  · obtain ⟨T, ht⟩ := h v hv
    exact wpAny_typeOf ht (hQ' _ trivial)
  · split
    · exact wpAny_pure (q _)
    · exact wpAny_pure (q _)
theorem kind_any {vs : List Value} {Q : SortKind → Shared → Prop} (h : ∀ v ∈ vs, TupI s.heap v) (q : ∀ κ, (κ = general' ∨ κ = oneType' ∨ ∃ b, κ = tuples' b) → Q κ s) : wpAny (model prog w) A (keyKind' vs.toArray) Q E s := by
  rw [kat_kind_eq, List.mapM_toArray]
  refine wpAny_bind ?_
  show wpAny _ _ (List.mapM firstOfTuple' vs >>= fun a => pure a.toArray) _ _ _
  refine wpAny_bind (mapM_some (P := fun r : Option Value => ∀ v, r = some v → ∃ x t, v = Value.int x t) vs (fun v hv Q' hQ' => ?_) fun rs prs => wpAny_pure ?_)
  · obtain ⟨a, its, ns, rfl, ⟨o, ho, hc, n, hd⟩, ix⟩ := h v hv
    show wpAny _ _ (typeOf _ >>= _) _ _ _
    refine wpAny_bind (wpAny_typeOf (T := "tuple") ⟨o, ho, hc⟩ ?_)
    rw [if_neg (by simp)]
    refine wpAny_bind (listItems_at ho hd (wpAny_pure (hQ' _ fun v hv => ?_)))
    have : v ∈ its.toList := by
      have := Array.mem_of_getElem? hv
      simpa using this
    exact ints_mem ix this
  · split
    · refine wpAny_bind (wpAny_rule ?_)
      have e : (Array.filterMap id rs.toArray) = (rs.filterMap id).toArray := by simp
      rw [e]
      refine wpAny_bind (oneType_any (fun v hv => ?_) fun r => wpAny_pure (q _ (.inr (.inr ⟨_, rfl⟩))))
      obtain ⟨r, hr, er⟩ := List.mem_filterMap.mp hv
      obtain ⟨x, t, rfl⟩ := prs r hr v er
      exact ⟨_, typeIs_int s x t⟩
    · split
      · exact wpAny_pure (q _ (.inl rfl))
      · refine wpAny_bind (oneType_any (fun v hv => ?_) fun r => wpAny_pure (q _ ?_))
        · obtain ⟨a, its, ns, rfl, ⟨o, ho, hc, n, hd⟩, ix⟩ := h v hv
          exact ⟨"tuple", o, ho, hc⟩
        · split
          · exact .inr (.inl rfl)
          · exact .inl rfl
theorem TupI.keep {h h' : Heap} {v : Value} (t : TupI h v) (k : ∀ b o, h.get? b = some o → h'.get? b = some o) : TupI h' v := by
  obtain ⟨a, its, ns, e, ⟨o, ho, r⟩, ix⟩ := t
  exact ⟨a, its, ns, e, ⟨o, k _ _ ho, r⟩, ix⟩
end
end L2
namespace L2
open PySem PySem.Spec PyProof.Rows PySem.W HT
theorem perm_pick {n : Nat} {vs : List Value} (hn : vs.length = n) {p : Array Nat} (h : PermN n p) : (p.toList.map fun i => vs.getD i Value.none).Perm vs := by
  have e : ((List.range n).map fun i => vs.getD i Value.none) = vs := by
    apply List.ext_getElem
    · simp [hn]
    · intro i h1 h2
      simp [List.getD, h2]
  have := (Array.perm_iff_toList_perm.mp h).map fun i => vs.getD i Value.none
  rw [show (List.range n).toArray.toList = List.range n by simp, e] at this
  exact this
section
variable {prog : Program} {w : World} {A : Around} {E : Value → Shared → Prop} {s : Shared}
theorem sort_tups {a : Addr} {vs : List Value} {n : Nat} {P : PySem.Fin → Shared → Prop} (hu : A.units + 1 < cLine) (hl : s.heap.get? a = some (seqObj "list" vs.toArray n)) (hn : vs.length < 64) (ht : ∀ v ∈ vs, TupI s.heap v) (hc : ∀ v ∈ vs, v ≠ .ref a)
    (q : ∀ (h' : Heap) (out : List Value) (c : Nat), (∀ b o, b ≠ a → s.heap.get? b = some o → h'.get? b = some o) → h'.get? a = some (seqObj "list" out.toArray c) → out.Perm vs → P (Fin.done (Flow.ret Value.none)) { s with heap := h' }) :
    wpAny (model prog w) A (Builtin.«list.sort» { pos := [Value.ref a] }) P E s := by
  have la := Heap.lt_size hl
  have zs : vs.length ≤ sizeLine := Nat.le_of_lt (small1000 (by omega))
  have zs2 : vs.toArray.size ≤ sizeLine := by rw [List.size_toArray]; exact zs
  rw [list_sort_plain]
  refine wpAny_bind (listItems_at hl rfl ?_)
  refine wpAny_bind (listUpdate_at hl rfl ?_ zs2 (by show (0 : Nat) ≤ _; omega))
  have hl1 := get?_update_seq hl fun _ => #[]
  have k1 : ∀ b o, b ≠ a → s.heap.get? b = some o → (s.heap.update a (Obj.mapSeq fun _ => #[])).get? b = some o := fun b o hb e => by
    rw [Heap.get?_update_ne _ _ _ _ hb]; exact e
  generalize s.heap.update a (Obj.mapSeq fun _ => #[]) = h1 at hl1 k1 ⊢
  refine wpAny_bind (seqEpoch_at hl1 rfl ?_)
  refine wpAny_bind (wpAny_newTuple ?_ zs)
  refine wpAny_bind (wpAny_newList ?_ (Nat.zero_le _))
  have k2 : ∀ b o, h1.get? b = some o → ((h1.push { cls := .type "tuple", data := .seq vs.toArray }).push { cls := .type "list", data := .seq ([] : List Value).toArray }).get? b = some o := fun b o e => Heap.get?_push_of_some _ (Heap.get?_push_of_some _ e)
  dsimp only
  generalize ((h1.push { cls := .type "tuple", data := .seq vs.toArray }).push { cls := .type "list", data := .seq ([] : List Value).toArray }) = h2 at k2 ⊢
  have hl2 := k2 _ _ hl1
  have ht2 : ∀ v ∈ vs, TupI h2 v := fun v hv => by
    obtain ⟨b, its, ns, e, ⟨o, ho, r⟩, ix⟩ := ht v hv
    exact ⟨b, its, ns, e, ⟨o, k2 _ _ (k1 _ _ (fun z => hc v hv (by rw [e, z])) ho), r⟩, ix⟩
  refine wpAny_holding ?_
  by_cases c : vs.length < 2
  · rw [if_pos (by simpa using c)]
    refine wpAny_bind (wpAny_pure ?_)
    rw [if_pos (by simpa using c)]
    refine wpAny_bind (wpAny_pure ?_)
    have f : failedOf (SortSt.mk' general' (vs.toArray.zip vs.toArray) #[] 7 none) = none := rfl
    have e : Array.map (fun x => x.snd) (arrOf (SortSt.mk' general' (vs.toArray.zip vs.toArray) #[] 7 none)) = vs.toArray := by
      show Array.map (fun x => x.snd) (vs.toArray.zip vs.toArray) = vs.toArray
      apply Array.ext
      · simp
      · intro i h1 h2
        simp
    have pm := List.Perm.refl vs
    dsimp only
    generalize SortSt.mk' general' (vs.toArray.zip vs.toArray) #[] 7 none = st at f e ⊢
    obtain ⟨out, e, pm⟩ : ∃ out : List Value, Array.map (fun x => x.snd) (arrOf st) = out.toArray ∧ out.Perm vs := ⟨vs, e, pm⟩
    refine wpAny_bind (seqEpoch_at hl2 rfl ?_)
    refine wpAny_bind (listUpdate_at hl2 rfl ?_ (Nat.zero_le _) (by show (Array.map (fun x => x.snd) (arrOf st)).size ≤ _; rw [e, List.size_toArray, pm.length_eq]; omega))
    try rw [f]
    dsimp only
    rw [if_neg (by simp)]
    refine wpAny_pure ?_
    have hl3 := get?_update_seq hl2 fun _ => Array.map (fun x => x.snd) (arrOf st)
    refine q _ out _ (fun b o hb e0 => ?_) (by rw [← e]; exact hl3) pm
    rw [Heap.get?_update_ne _ _ _ _ hb]
    exact k2 _ _ (k1 _ _ hb e0)
  · rw [if_neg (by simpa using c)]
    refine wpAny_bind (kind_any ht2 fun κ hk => ?_)
    rw [if_neg (by simpa using c)]
    refine wpAny_bind ?_
    refine wpAny_mono (kat_run (ks := vs) (vs := vs) (Q := fun st s' => s' = { s with heap := h2 } ∧ failedOf st = none ∧ ∃ out : List Value, Array.map (fun x => x.snd) (arrOf st) = out.toArray ∧ out.Perm vs) (G := fun p s' => s' = { s with heap := h2 } ∧ PermN vs.length p) rfl (by omega) hn (fun p st s' hp ha hf hG => ⟨hG.1, hf, _, kat_snds rfl ha, perm_pick rfl hG.2⟩) ?_) ?_ (fun _ _ h => h)
    rotate_left
    · rintro ⟨_, st⟩ s' ⟨rfl, f, out, e, pm⟩
      dsimp only at f e ⊢
      refine wpAny_bind (seqEpoch_at hl2 rfl ?_)
      refine wpAny_bind (listUpdate_at hl2 rfl ?_ (Nat.zero_le _) (by show (Array.map (fun x => x.snd) (arrOf st)).size ≤ _; rw [e, List.size_toArray, pm.length_eq]; omega))
      try rw [f]
      dsimp only
      rw [if_neg (by simp)]
      refine wpAny_pure ?_
      have hl3 := get?_update_seq hl2 fun _ => Array.map (fun x => x.snd) (arrOf st)
      refine q _ out _ (fun b o hb e0 => ?_) (by rw [← e]; exact hl3) pm
      rw [Heap.get?_update_ne _ _ _ _ hb]
      exact k2 _ _ (k1 _ _ hb e0)
    · refine AllL.wp (R := PermN vs.length) (n := vs.length) (fun i j C hi hj hC => ?_) (fun p hp => ⟨rfl, hp⟩) (all_sort (by omega))
      unfold kas_ask
      refine lt_any hu (ht2 _ ?_) (ht2 _ ?_) hk hC
      · rw [show vs.getD i Value.none = vs[i] by simp [List.getD, hi]]; exact List.getElem_mem hi
      · rw [show vs.getD j Value.none = vs[j] by simp [List.getD, hj]]; exact List.getElem_mem hj
theorem sorted_tups {l : Addr} {vs : List Value} {Q : Value → Shared → Prop} (hu : A.units + 4 < cLine) (hl : s.heap.IsList l vs.toArray) (hn : vs.length < 64) (ht : ∀ v ∈ vs, TupI s.heap v)
    (q : ∀ (h' : Heap) (D : Addr) (out : List Value) (c : Nat), (∀ b o, s.heap.get? b = some o → h'.get? b = some o) → s.heap.objs.size ≤ D → h'.get? D = some (seqObj "list" out.toArray c) → out.Perm vs → Q (.ref D) { s with heap := h' }) :
    wpAny (model prog w) A (call (.builtin "sorted") [.ref l]) Q E s := by
  have zs : vs.length ≤ sizeLine := Nat.le_of_lt (small1000 (by omega))
  refine Calls.call_function_entry kind_sorted plain_sorted entry_sorted (args_sorted1 _) ?_
  unfold Builtin.sorted
  refine wpAny_bind (wpAny_pure ?_)
  refine wpAny_bind (collect_list hl ?_ zs)
  have k1 : ∀ b o, s.heap.get? b = some o → ((s.heap.push (seqObj "list" #[] 0)).update s.heap.objs.size (Obj.mapSeq fun x => x ++ vs.toArray)).get? b = some o := fun b o e => by
    rw [Heap.get?_update_ne _ _ _ _ (Nat.ne_of_lt (Heap.lt_size e))]
    exact Heap.get?_push_of_some _ e
  have z1 : s.heap.objs.size ≤ ((s.heap.push (seqObj "list" #[] 0)).update s.heap.objs.size (Obj.mapSeq fun x => x ++ vs.toArray)).objs.size := by
    rw [Heap.size_update, size_push']
    omega
  generalize (s.heap.push (seqObj "list" #[] 0)).update s.heap.objs.size (Obj.mapSeq fun x => x ++ vs.toArray) = h1 at k1 z1 ⊢
  refine wpAny_bind (wpAny_newList ?_ zs)
  have k2 : ∀ b o, s.heap.get? b = some o → (h1.push { cls := .type "list", data := .seq vs.toArray }).get? b = some o := fun b o e => Heap.get?_push_of_some _ (k1 _ _ e)
  have hD : (h1.push { cls := .type "list", data := .seq vs.toArray }).get? h1.objs.size = some (seqObj "list" vs.toArray 0) := Heap.get?_push_size _ rfl
  dsimp only at hD ⊢
  generalize hd : h1.objs.size = D at hD z1 ⊢
  generalize h1.push { cls := .type "list", data := .seq vs.toArray } = h2 at k2 hD ⊢
  refine wpAny_bind (wpAny_holding (wpAny_call_entry slot_list_sort ⟨_, hD, rfl⟩ entry_list_sort ?_ (args_list_sort _)))
  refine sort_tups (by show A.units + 1 + 1 + 1 < cLine; omega) hD hn (fun v hv => (ht v hv).keep k2) (fun v hv z => ?_) fun h' out c k3 hD' pm => ⟨_, rfl, wpAny_pure ⟨_, rfl, ?_⟩⟩
  · obtain ⟨a, its, ns, e, ⟨o, ho, _⟩, _⟩ := ht v hv
    rw [e] at z
    cases z
    exact absurd (Heap.lt_size ho) (Nat.not_lt.mpr z1)
  · exact q h' D out c (fun b o e => k3 b o (fun z => absurd (Heap.lt_size e) (Nat.not_lt.mpr (z ▸ z1))) (k2 _ _ e)) z1 hD' pm
end
/-- a value of the abstract heap that is a tuple of ints -/
def TupV (H : Hp) (v : V) : Prop := ∃ (a : Addr) (ns : List Int), v = .ref a ∧ H a = some (.tup (ns.map V.int))
theorem vals_perm : ∀ {us out : List Value}, out.Perm us → ∀ {xs : List V}, Vals xs us → ∃ ys, ys.Perm xs ∧ Vals ys out := by
  intro us out p
  induction p with
  | nil => intro xs r; cases r; exact ⟨[], .nil, .nil⟩
  | cons x p ih =>
    intro xs r
    cases r with
    | cons r1 r2 =>
      obtain ⟨ys, py, ry⟩ := ih r2
      exact ⟨_ :: ys, py.cons _, .cons r1 ry⟩
  | swap x y l =>
    intro xs r
    cases r with
    | cons r1 r2 =>
      cases r2 with
      | cons r2 r3 => exact ⟨_, List.Perm.swap _ _ _, .cons r2 (.cons r1 r3)⟩
  | trans p1 p2 ih1 ih2 =>
    intro xs r
    obtain ⟨ys, py, ry⟩ := ih2 r
    obtain ⟨zs, pz, rz⟩ := ih1 ry
    exact ⟨zs, pz.trans py, rz⟩
theorem call_sortT {X : Cx} {k : Nat} (hr : Room k X.A) : CallR X (.builtin "sorted") (fun xs H Q => ∃ (p : Addr) (vs : List V), xs = [.ref p] ∧ SqL X.K H p vs ∧ vs.length < 64 ∧ (∀ v ∈ vs, TupV H v) ∧
    ∀ vs' : List V, vs'.Perm vs → ∀ l, H l = none → Q (.ref l) (upd H l (.lst vs'))) := by
  intro pins s σ H xs us Q I r h
  obtain ⟨p, vs, rfl, hq, hz, ht, q⟩ := h
  obtain ⟨u, rfl, ru⟩ := vals1 r
  cases ru
  obtain ⟨its, rv, pl, _⟩ := I.list hq
  have len := rv.length
  have un := hr.units
  refine sorted_tups (by omega) pl.isList (by omega) (fun v hv => ?_) fun h' D out c kp le hD pm => ?_
  · obtain ⟨i, hi, e⟩ := List.mem_iff_getElem.mp hv
    have hx : i < vs.length := by omega
    obtain ⟨u, hu, ru⟩ := rv.get (show vs[i]? = some vs[i] from List.getElem?_eq_getElem hx)
    obtain ⟨a, ns, ev, ha⟩ := ht _ (List.getElem_mem hx)
    rw [List.getElem?_eq_getElem hi, e] at hu
    cases hu
    rw [ev] at ru
    cases ru
    obtain ⟨jts, rj, tp, _⟩ := I.tuple (SqT.of ha)
    exact ⟨a, jts.toArray, ns, rfl, tp, intsAre_of (by simpa using rj)⟩
  · obtain ⟨ys, py, ry⟩ := vals_perm pm rv
    refine ⟨.ref D, _, I.laid (t' := s.toks) (o := .lst ys) kp le ?_, rfl, q ys py D (I.hok.fresh le)⟩
    exact ⟨by rw [py.length_eq]; exact Nat.le_of_lt (small1000 (by omega)), out, c, ry, hD⟩
/-! ### x in a list of plain data -/
def rInD (K : PySem.W.Frag) : R2 := fun x y H Q => ∃ ds d, RepD K H (.list ds) y ∧ RepD K H d x ∧ SeqAt.shaped (.list ds) = true ∧ SeqAt.shaped d = true ∧ (∀ e ∈ ds, SeqAt.noMix e d = true) ∧ Q (.bl (decide (Spec.countIn d ds ≠ 0))) H
theorem op_inD {X : Cx} {k : Nat} (hr : Room k X.A) : OpR X (compareOp .In) (rInD X.K) := by
  intro pins s σ H x y v u Q I rx ry h
  obtain ⟨ds, d, hd, he, sd, se, mx, q⟩ := h
  obtain ⟨as, ra⟩ := RepD.reads I _ y u hd ry
  obtain ⟨bs, rb⟩ := RepD.reads I d x v he rx
  exact in_list_dataH ra rb sd se (by have := hr.un; omega) mx ⟨.bl _, H, I, rfl, q⟩
end L2
namespace L2
open PySem PySem.Spec PyProof.Rows
/-! ### zip of two tuples of one length: its records stand at n .. n + 4 -/
section
variable {prog : Program} {w : World} {A : Around} {E : Value → Shared → Prop} {s : Shared}
theorem nx_lst {J t : Addr} {i : Nat} {its : Array Value} {v : Value} {Q : Value → Shared → Prop} (a1 : s.heap.IsListIter J t i) (a2 : s.heap.IsList t its) (a3 : its[i]? = some v)
    (k : ∀ g, g.IsListIter J t (i + 1) → Heap.SameBut J s.heap g → Q v { s with heap := g }) : wpAny (model prog w) A (Builtin.SmallTypes.nextOf (.ref J)) Q E s := by
  obtain ⟨oJ, e1, e2, e3⟩ := id a1
  obtain ⟨oT, e4, _, m, e5⟩ := a2
  unfold Builtin.SmallTypes.nextOf
  refine wpAny_bind (wpAny_callSpecial?_slot (name := Str.ofString "__next__") a1.typeIs slot_listiter_next (wpAny_call_entry slot_listiter_next a1.typeIs entry_listiter_next ?_ (args_listiter_next _)))
  show wpAny _ _ (field (.ref J) 0 >>= _) _ _ s
  refine wpAny_bind (wpAny_field e1 e3 (x := .ref t) rfl ?_)
  refine (show wpAny _ _ (if (Value.ref t == Value.none) = true then _ else _) _ _ s from ?_)
  rw [if_neg (show ¬ ((Value.ref t == Value.none) = true) by exact Bool.false_ne_true)]
  show wpAny _ _ (field (.ref J) 1 >>= _) _ _ s
  refine wpAny_bind (wpAny_field e1 e3 (x := .int i 0) rfl ?_)
  refine (show wpAny _ _ (seqItems? (.ref t) >>= _) _ _ s from wpAny_bind (wpAny_seqItems e4 e5 ?_))
  simp only [Int.toNat_natCast, a3]
  refine wpAny_bind (wpAny_setField e1 e3 (by simp) (wpAny_pure ⟨v, rfl, wpAny_pure (k _ ?_ (Heap.SameBut.update ..))⟩))
  exact ⟨_, Heap.get?_update_self _ e1 (Obj.isFreed_of_fields (Obj.data_mapFields e3 _)), (Obj.cls_mapFields ..).trans e2, by rw [Obj.data_mapFields e3]; simp [rawInt]⟩
theorem nx_lst_end {J t : Addr} {i : Nat} {its : Array Value} {Q : Value → Shared → Prop} (hh : A.handled = none) (a1 : s.heap.IsListIter J t i) (a2 : s.heap.IsList t its) (a3 : its[i]? = none)
    (k : ∀ g e, Heap.ExtBut J s.heap g → (∃ o, g.get? e = some o ∧ o.cls = .type "StopIteration") → E (.ref e) { s with heap := g }) : wpAny (model prog w) A (Builtin.SmallTypes.nextOf (.ref J)) Q E s := by
  obtain ⟨oJ, e1, e2, e3⟩ := id a1
  obtain ⟨oT, e4, _, m, e5⟩ := a2
  unfold Builtin.SmallTypes.nextOf
  refine wpAny_bind (wpAny_callSpecial?_slot (name := Str.ofString "__next__") a1.typeIs slot_listiter_next (wpAny_call_entry slot_listiter_next a1.typeIs entry_listiter_next ?_ (args_listiter_next _)))
  show wpAny _ _ (field (.ref J) 0 >>= _) _ _ s
  refine wpAny_bind (wpAny_field e1 e3 (x := .ref t) rfl ?_)
  refine (show wpAny _ _ (if (Value.ref t == Value.none) = true then _ else _) _ _ s from ?_)
  rw [if_neg (show ¬ ((Value.ref t == Value.none) = true) by exact Bool.false_ne_true)]
  show wpAny _ _ (field (.ref J) 1 >>= _) _ _ s
  refine wpAny_bind (wpAny_field e1 e3 (x := .int i 0) rfl ?_)
  refine (show wpAny _ _ (seqItems? (.ref t) >>= _) _ _ s from wpAny_bind (wpAny_seqItems e4 e5 ?_))
  simp only [Int.toNat_natCast, a3]
  refine wpAny_bind (wpAny_rule (wpAny_bind (wpAny_setField e1 e3 (by simp) ?_)))
  refine (show wpAny _ _ (newExc (.type "StopIteration") [] >>= _) _ _ _ from wpAny_bind ?_)
  simp only [newExc, newTuple]
  refine wpAny_bind (wpAny_newObj_type ?_ (by size_fits))
  refine wpAny_bind (m := firstArgMember _ _) (wpAny_of_eq (a := Value.none) (by first | exact rfl | (simp only [firstArgMember]; rfl)) ?_)
  refine wpAny_newObj_type ?_ (by size_fits)
  simp only [raiseNew]
  refine wpAny_bind (wpAny_handled ?_)
  first | rw [hh] | rw [show A.in1.handled = none from hh]
  refine wpAny_bind (wpAny_pure (wpAny_throw ?_))
  exact k _ _ (((Heap.SameBut.update ..).extBut.push _).push _) ⟨_, Heap.get?_push_size _ rfl, rfl⟩
/-- the records of a zip over the tuples at l1, l2, i taken -/
structure ZipL (g : Heap) (n l1 l2 : Addr) (i : Nat) : Prop where
  z : IsZip g (n + 4) (n + 2) (n + 3) .none
  I : IsPair g (n + 2) (.ref n) (.ref (n + 1))
  O : ∃ a b, IsPair g (n + 3) a b
  i1 : g.IsListIter n l1 i
  i2 : g.IsListIter (n + 1) l2 i
theorem zipl_take {n l1 l2 : Addr} {i : Nat} {xs ys : Array Value} {x y : Value} {Q : Option Value → Shared → Prop} (o1 : ∀ j, j < 5 → l1 ≠ n + j) (o2 : ∀ j, j < 5 → l2 ≠ n + j) (Z : ZipL s.heap n l1 l2 i)
    (t1 : s.heap.IsList l1 xs) (t2 : s.heap.IsList l2 ys) (ex : xs[i]? = some x) (ey : ys[i]? = some y)
    (k : ∀ g, IsZip g (n + 4) (n + 2) (n + 3) (rawInt s.heap.objs.size) → IsPair g (n + 3) x y → g.IsListIter n l1 (i + 1) → g.IsListIter (n + 1) l2 (i + 1) → IsPair g s.heap.objs.size x y →
      (∀ c o, c ≠ n + 4 → c ≠ n + 3 → c ≠ n → c ≠ n + 1 → s.heap.get? c = some o → g.get? c = some o) → Q (some (.ref s.heap.objs.size)) { s with heap := g }) :
    wpAny (model prog w) A (pyNext (.ref (n + 4))) Q E s := by
  obtain ⟨hz, hI, ⟨a, b, hO⟩, h1, h2⟩ := Z
  have d0 : n ≠ n + 4 ∧ n + 1 ≠ n + 4 ∧ n + 2 ≠ n + 4 ∧ n + 3 ≠ n + 4 ∧ n + 3 ≠ n ∧ n + 3 ≠ n + 1 ∧ n + 1 ≠ n := by refine ⟨?_, ?_, ?_, ?_, ?_, ?_, ?_⟩ <;> (intro z; exact absurd z (by simp))
  obtain ⟨d1, d2, d3, d4, d5, d6, d7⟩ := d0
  have l10 := o1 0 (by decide); have l11 := o1 1 (by decide); have l13 := o1 3 (by decide); have l14 := o1 4 (by decide)
  have l20 := o2 0 (by decide); have l21 := o2 1 (by decide); have l23 := o2 3 (by decide); have l24 := o2 4 (by decide)
  have hT : s.TypeIs (.ref (n + 4)) "zip" := ⟨_, hz, rfl⟩
  unfold pyNext
  refine wpAny_bind (wpAny_attempt (wpAny_callSpecial?_slot (name := Str.ofString "__next__") hT F.slot_zip_next (wpAny_call_entry F.slot_zip_next hT F.entry_zip_next ?_ (F.args_zip_next_1 _))))
  refine (show wpAny _ _ (field (.ref (n + 4)) 2 >>= _) _ _ _ from wpAny_bind (wpAny_field hz rfl (x := .bool false) rfl ?_))
  refine (show wpAny _ _ (field (.ref (n + 4)) 3 >>= _) _ _ _ from wpAny_bind (wpAny_field hz rfl (x := .ref (n + 2)) rfl ?_))
  refine wpAny_bind (wpAny_seqItems hI rfl ?_)
  refine (show wpAny _ _ (Builtin.SmallTypes.ownedTupleIsFree (.ref (n + 4)) >>= _) _ _ _ from wpAny_bind ?_)
  unfold Builtin.SmallTypes.ownedTupleIsFree
  refine wpAny_bind (wpAny_field hz rfl (x := .none) rfl (wpAny_pure ?_))
  simp only [if_true]
  refine wpAny_bind (wpAny_rule (wpAny_bind (wpAny_field hz rfl (x := .ref (n + 3)) rfl (wpAny_bind (wpAny_setField_rec hz (by simp) fun g1 z1 s1 => ?_)))))
  have z1 : IsZip g1 (n + 4) (n + 2) (n + 3) .ellipsis := z1
  refine wpAny_bind ?_
  simp only [List.zipIdx_cons, List.zipIdx_nil, List.forIn_cons, List.forIn_nil]
  -- the first
  refine wpAny_bind (wpAny_bind (wpAny_onRaise (show wpAny _ _ (Builtin.SmallTypes.nextOf (.ref n) >>= _) _ _ _ from wpAny_bind (nx_lst (h1.at fun o e => s1.extBut _ _ d1 e) (t1.at fun o e => s1.extBut _ _ l14 e) ex fun g2 j2 s2 => wpAny_pure ?_))))
  have O2 : IsPair g2 (n + 3) a b := s2.extBut _ _ d5 (s1.extBut _ _ d4 hO)
  refine wpAny_bind (wpAny_seqItems O2 rfl (wpAny_bind (wpAny_updateSeq_pair O2 fun g3 O3 s3 => ?_)))
  have O3 : IsPair g3 (n + 3) x b := O3
  refine wpAny_bind (wpAny_letGo (wpAny_pure ?_))
  -- the second
  refine wpAny_bind (wpAny_bind (wpAny_onRaise (show wpAny _ _ (Builtin.SmallTypes.nextOf (.ref (n + 1)) >>= _) _ _ _ from wpAny_bind (nx_lst (h2.at fun o e => s3.extBut _ _ d6.symm (s2.extBut _ _ d7 (s1.extBut _ _ d2 e))) (t2.at fun o e => s3.extBut _ _ l23 (s2.extBut _ _ l20 (s1.extBut _ _ l24 e))) ey fun g4 j4 s4 => wpAny_pure ?_))))
  have O4 : IsPair g4 (n + 3) x b := s4.extBut _ _ d6 O3
  refine wpAny_bind (wpAny_seqItems O4 rfl (wpAny_bind (wpAny_updateSeq_pair O4 fun g5 O5 s5 => ?_)))
  have O5 : IsPair g5 (n + 3) x y := O5
  refine wpAny_bind (wpAny_letGo (wpAny_pure (wpAny_pure ?_)))
  -- the pair
  refine wpAny_bind (wpAny_seqItems O5 rfl (wpAny_bind (wpAny_newTuple ?_)))
  have sz : g5.objs.size = s.heap.objs.size := by rw [s5.1, s4.1, s3.1, s2.1, s1.1]
  have z5 : IsZip g5 (n + 4) (n + 2) (n + 3) .ellipsis := s5.extBut _ _ d4.symm (s4.extBut _ _ d2.symm (s3.extBut _ _ d4.symm (s2.extBut _ _ d1.symm z1)))
  have k5 : ∀ c o, c ≠ n + 4 → c ≠ n + 3 → c ≠ n → c ≠ n + 1 → s.heap.get? c = some o → g5.get? c = some o := fun c o c1 c2 c3 c4 e => s5.extBut _ _ c2 (s4.extBut _ _ c4 (s3.extBut _ _ c2 (s2.extBut _ _ c3 (s1.extBut _ _ c1 e))))
  have j5 : g5.IsListIter n l1 (i + 1) := j2.at fun o e => s5.extBut _ _ d5.symm (s4.extBut _ _ d7.symm (s3.extBut _ _ d5.symm e))
  have m5 : g5.IsListIter (n + 1) l2 (i + 1) := j4.at fun o e => s5.extBut _ _ d6.symm e
  have zlt : n + 4 < g5.objs.size := Heap.lt_size z5
  refine (show wpAny _ _ (Builtin.SmallTypes.ownedTupleHandOut (.ref (n + 4)) (.ref g5.objs.size) >>= _) _ _ _ from wpAny_bind ?_)
  unfold Builtin.SmallTypes.ownedTupleHandOut
  have z6 : IsZip (g5.push { cls := .type "tuple", data := .seq #[x, y] }) (n + 4) (n + 2) (n + 3) .ellipsis := Heap.get?_push_of_some _ z5
  refine wpAny_bind (wpAny_setField_rec z6 (by simp) fun g7 z7 s7 => ?_)
  have z7 : IsZip g7 (n + 4) (n + 2) (n + 3) (rawInt g5.objs.size) := z7
  refine wpAny_setField_rec z7 (by simp) fun g8 z8 s8 => ?_
  have z8 : IsZip g8 (n + 4) (n + 2) (n + 3) (rawInt g5.objs.size) := z8
  have up : ∀ c o, c ≠ n + 4 → g5.get? c = some o → g8.get? c = some o := fun c o c1 e => s8.extBut _ _ c1 (s7.extBut _ _ c1 (Heap.get?_push_of_some _ e))
  have T8 : IsPair g8 g5.objs.size x y := s8.extBut _ _ (Nat.ne_of_gt zlt) (s7.extBut _ _ (Nat.ne_of_gt zlt) (Heap.get?_push_size _ rfl))
  rw [sz] at z8 T8
  refine wpAny_pure ⟨_, rfl, wpAny_pure ?_⟩
  refine (show Q (some (.ref g5.objs.size)) _ from ?_)
  rw [sz]
  exact k g8 z8 (up _ _ d4 O5) (j5.at fun o e => up _ o d1 e) (m5.at fun o e => up _ o d2 e) T8 fun c o c1 c2 c3 c4 e => up c o c1 (k5 c o c1 c2 c3 c4 e)
theorem zipl_stop {n l1 l2 : Addr} {i : Nat} {xs : Array Value} {Q : Option Value → Shared → Prop} (hh : A.handled = none) (o1 : ∀ j, j < 5 → l1 ≠ n + j) (Z : ZipL s.heap n l1 l2 i)
    (t1 : s.heap.IsList l1 xs) (ex : xs[i]? = none)
    (k : ∀ g, (∀ c o, c ≠ n + 4 → c ≠ n → s.heap.get? c = some o → g.get? c = some o) → Q none { s with heap := g }) : wpAny (model prog w) A (pyNext (.ref (n + 4))) Q E s := by
  obtain ⟨hz, hI, ⟨a, b, hO⟩, h1, h2⟩ := Z
  have d1 : n ≠ n + 4 := by intro z; exact absurd z (by simp)
  have l14 := o1 4 (by decide)
  have hT : s.TypeIs (.ref (n + 4)) "zip" := ⟨_, hz, rfl⟩
  unfold pyNext
  refine wpAny_bind (wpAny_attempt (wpAny_callSpecial?_slot (name := Str.ofString "__next__") hT F.slot_zip_next (wpAny_call_entry F.slot_zip_next hT F.entry_zip_next ?_ (F.args_zip_next_1 _))))
  refine (show wpAny _ _ (field (.ref (n + 4)) 2 >>= _) _ _ _ from wpAny_bind (wpAny_field hz rfl (x := .bool false) rfl ?_))
  refine (show wpAny _ _ (field (.ref (n + 4)) 3 >>= _) _ _ _ from wpAny_bind (wpAny_field hz rfl (x := .ref (n + 2)) rfl ?_))
  refine wpAny_bind (wpAny_seqItems hI rfl ?_)
  refine (show wpAny _ _ (Builtin.SmallTypes.ownedTupleIsFree (.ref (n + 4)) >>= _) _ _ _ from wpAny_bind ?_)
  unfold Builtin.SmallTypes.ownedTupleIsFree
  refine wpAny_bind (wpAny_field hz rfl (x := .none) rfl (wpAny_pure ?_))
  simp only [if_true]
  refine wpAny_bind (wpAny_rule (wpAny_bind (wpAny_field hz rfl (x := .ref (n + 3)) rfl (wpAny_bind (wpAny_setField_rec hz (by simp) fun g1 z1 s1 => ?_)))))
  have z1 : IsZip g1 (n + 4) (n + 2) (n + 3) .ellipsis := z1
  refine wpAny_bind ?_
  simp only [List.zipIdx_cons, List.zipIdx_nil, List.forIn_cons, List.forIn_nil]
  refine wpAny_bind (wpAny_bind (wpAny_onRaise (show wpAny _ _ (Builtin.SmallTypes.nextOf (.ref n) >>= _) _ _ _ from wpAny_bind (nx_lst_end hh (h1.at fun o e => s1.extBut _ _ d1 e) (t1.at fun o e => s1.extBut _ _ l14 e) ex fun g2 e s2 he => ?_))))
  obtain ⟨oe, hoe, hce⟩ := he
  have z2 : IsZip g2 (n + 4) (n + 2) (n + 3) .ellipsis := s2 _ _ d1.symm z1
  have ez : e ≠ n + 4 := fun q => by subst q; rw [z2] at hoe; cases hoe; simp at hce
  refine wpAny_setField_rec z2 (by simp) fun g3 _ s3 => ?_
  refine wpAny_bind (wpAny_isInstance (T := "StopIteration") (b := true) ⟨oe, s3.extBut _ _ ez hoe, hce⟩ isSubtype_stop ?_)
  exact wpAny_pure (k _ fun c o c1 c2 q => s3.extBut _ _ c1 (s2 _ _ c2 (s1.extBut _ _ c1 q)))
end
abbrev yA (g : Heap) (l1 : Addr) : Heap := g.push { cls := .type "list_iterator", data := .fields #[.ref l1, .int 0 0] }
abbrev yB (g : Heap) (l1 l2 : Addr) : Heap := (yA g l1).push { cls := .type "list_iterator", data := .fields #[.ref l2, .int 0 0] }
abbrev yC (g : Heap) (l1 l2 : Addr) : Heap := (yB g l1 l2).push { cls := .type "tuple", data := .seq #[.ref g.objs.size, .ref (yA g l1).objs.size] }
abbrev yD (g : Heap) (l1 l2 : Addr) : Heap := (yC g l1 l2).push { cls := .type "tuple", data := .seq #[.none, .none] }
abbrev yE (g : Heap) (l1 l2 : Addr) : Heap := (yD g l1 l2).push { cls := .type "zip", data := .fields #[.none, .bool false, .bool false, .ref (yB g l1 l2).objs.size, .ref (yC g l1 l2).objs.size] }
theorem zipl_new (l1 l2 : Addr) (xs ys : Array Value) : Meets (Builtin.«zip.__new__» ⟨[.type "zip", .ref l1, .ref l2], []⟩) (fun _ R s => s.heap.IsList l1 xs ∧ s.heap.IsList l2 ys ∧
      R (.ok (.ret (.ref (yD s.heap l1 l2).objs.size))) { s with heap := yE s.heap l1 l2 }) :=
  .of_wp fun prog w A R s h => by
    obtain ⟨q, g, d, tk, os⟩ := s; obtain ⟨t1, t2, h⟩ := h
    have hS := PySem.sub_zip
    have T1 : Heap.IsList (Shared.heap ⟨q, g, d, tk, os⟩) l1 xs := t1
    have T2 : Heap.IsList (Shared.heap ⟨q.push { cls := .type "list_iterator", data := .fields #[.ref l1, .int 0 0] }, g, d, tk, os⟩) l2 ys := t2.at fun o e => Heap.get?_push_of_some _ e
    wp_walk using wpAny_pyIter_list T1, wpAny_pyIter_list T2
    exact ⟨_, rfl, h⟩
section
variable {prog : Program} {w : World} {A : Around} {E : Value → Shared → Prop} {s : Shared}
theorem call_zipL {l1 l2 : Addr} {xs ys : Array Value} {Q : Value → Shared → Prop} (t1 : s.heap.IsList l1 xs) (t2 : s.heap.IsList l2 ys)
    (k : ∀ g, ZipL g s.heap.objs.size l1 l2 0 → (∀ c o, s.heap.get? c = some o → g.get? c = some o) → Q (.ref (s.heap.objs.size + 4)) { s with heap := g }) :
    wpAny (model prog w) A (call (.type "zip") [.ref l1, .ref l2]) Q E s := by
  refine callType_new F.called_zip (by decide) (F.typeCall_zip_2 _ _) (F.newCall_zip_2 _ _) (fun obj => F.args_object_init_3 obj _ _) F.entry_zip_new (zipl_new l1 l2 xs ys) ⟨t1, t2, ?_⟩
  have n1 : (yA s.heap l1).objs.size = s.heap.objs.size + 1 := by rw [Heap.size_push]
  have n2 : (yB s.heap l1 l2).objs.size = s.heap.objs.size + 2 := by rw [Heap.size_push, n1]
  have n3 : (yC s.heap l1 l2).objs.size = s.heap.objs.size + 3 := by rw [Heap.size_push, n2]
  have n4 : (yD s.heap l1 l2).objs.size = s.heap.objs.size + 4 := by rw [Heap.size_push, n3]
  have b5 : (yE s.heap l1 l2).get? (yD s.heap l1 l2).objs.size = some _ := Heap.get?_push_size _ rfl
  have b4 : (yE s.heap l1 l2).get? (yC s.heap l1 l2).objs.size = some _ := Heap.get?_push_of_some _ (Heap.get?_push_size _ rfl)
  have b3 : (yE s.heap l1 l2).get? (yB s.heap l1 l2).objs.size = some _ := Heap.get?_push_of_some _ (Heap.get?_push_of_some _ (Heap.get?_push_size _ rfl))
  have b2 : (yE s.heap l1 l2).get? (yA s.heap l1).objs.size = some _ := Heap.get?_push_of_some _ (Heap.get?_push_of_some _ (Heap.get?_push_of_some _ (Heap.get?_push_size _ rfl)))
  have b1 : (yE s.heap l1 l2).get? s.heap.objs.size = some _ := Heap.get?_push_of_some _ (Heap.get?_push_of_some _ (Heap.get?_push_of_some _ (Heap.get?_push_of_some _ (Heap.get?_push_size _ rfl))))
  show _ ∧ _
  rw [n2, n3, n4] at b5
  rw [n1, n2] at b3
  rw [n3] at b4
  rw [n1] at b2
  rw [n4]
  exact ⟨⟨_, b5, rfl⟩, k _ ⟨b5, b3, ⟨_, _, b4⟩, ⟨_, b1, rfl, rfl⟩, ⟨_, b2, rfl, rfl⟩⟩ fun c o q => Heap.get?_push_of_some _ (Heap.get?_push_of_some _ (Heap.get?_push_of_some _ (Heap.get?_push_of_some _ (Heap.get?_push_of_some _ q))))⟩
end
/-! ### the walk over a zip of two tuples of one length -/
def ItzL (K : PySem.W.Frag) (a b : Addr) : It :=
  ⟨fun i H => ∃ xs ys, SqL K H a xs ∧ SqL K H b ys ∧ xs.length = ys.length ∧ i < xs.length,
   fun i H x H' => ∃ t, H t = none ∧ x = .ref t ∧ ∀ xs ys, SqL K H a xs → SqL K H b ys → ∃ u v, xs[i]? = some u ∧ ys[i]? = some v ∧ H' = upd H t (.tup [u, v]),
   fun i H => ∃ xs, SqL K H a xs ∧ xs.length ≤ i⟩
theorem turn_zipL {P : Program} {w : World} {K : PySem.W.Frag} {elts : List Expr} {x1 : Nat} {pos : Pos} (a b n : Addr) (ha : a < n) (hb : b < n) :
    Turn P w K (.Tuple elts x1 pos) (ItzL K a b) [n, n + 1, n + 2, n + 3, n + 4] (n + 4) (fun i h => ZipL h n a b i) where
  mem := by simp
  obj := fun i h Z c hc => by
    obtain ⟨hz, hI, ⟨u, v, hO⟩, ⟨o1, e1, c1, d1⟩, ⟨o2, e2, c2, d2⟩⟩ := Z
    simp only [List.mem_cons, List.not_mem_nil, or_false] at hc
    rcases hc with rfl | rfl | rfl | rfl | rfl
    · exact ⟨_, e1, fun v z => by rw [d1] at z; cases z⟩
    · exact ⟨_, e2, fun v z => by rw [d2] at z; cases z⟩
    · exact ⟨_, hI, fun v z => by cases z⟩
    · exact ⟨_, hO, fun v z => by cases z⟩
    · exact ⟨_, hz, fun v z => by cases z⟩
  keep := fun i h h' Z k => ⟨k _ (by simp) _ Z.z, k _ (by simp) _ Z.I, let ⟨u, v, q⟩ := Z.O; ⟨u, v, k _ (by simp) _ q⟩, Z.i1.at fun o e => k _ (by simp) o e, Z.i2.at fun o e => k _ (by simp) o e⟩
  item := by
    intro X hP hw hK hc i pins s σ H E I hf Z hg
    subst hP hw hK
    obtain ⟨xs, ys, q1, q2, hl, hi⟩ := hg
    obtain ⟨is1, r1, p1, _⟩ := I.list q1
    obtain ⟨is2, r2, p2, _⟩ := I.list q2
    obtain ⟨u, hu, ru⟩ := r1.get (i := i) (x := xs[i]) (by simp [hi])
    obtain ⟨v, hv, rv⟩ := r2.get (i := i) (x := ys[i]'(by omega)) (by simp [show i < ys.length by omega])
    refine zipl_take (fun j _ => Nat.ne_of_lt (Nat.lt_of_lt_of_le ha (Nat.le_add_right ..))) (fun j _ => Nat.ne_of_lt (Nat.lt_of_lt_of_le hb (Nat.le_add_right ..))) Z p1.isList p2.isList
      (x := u) (y := v) (by simpa using hu) (by simpa using hv) fun g z1 O1 j1 m1 T1 k1 => ⟨_, rfl, wpAny_letOwnedTupleGo_zip z1 fun g2 z2 sb => ?_⟩
    have nT : s.heap.objs.size ≠ n + 4 := Nat.ne_of_gt (Heap.lt_size Z.z)
    have kk : ∀ c o, c ∉ [n, n + 1, n + 2, n + 3, n + 4] → s.heap.get? c = some o → g2.get? c = some o := fun c o hc e => by
      simp only [List.mem_cons, List.not_mem_nil, or_false, not_or] at hc
      exact (sb.2 c hc.2.2.2.2).trans (k1 c o hc.2.2.2.2 hc.2.2.2.1 hc.1 hc.2.1 e)
    have TT : IsPair g2 s.heap.objs.size u v := (sb.2 _ nT).trans T1
    have d : ∀ j, j < 4 → n + j ≠ n + 4 := fun j hj z => absurd (Nat.add_left_cancel z) (Nat.ne_of_lt hj)
    have I2 := I.turnedNew (T := s.heap.objs.size) (o := .tup [xs[i], ys[i]'(by omega)]) (rs := [n, n + 1, n + 2, n + 3, n + 4]) (t' := s.toks) hf kk (Nat.le_refl _) ⟨by show 2 ≤ sizeLine; decide, [u, v], .cons ru (.cons rv .nil), ⟨_, TT, rfl, _, rfl, rfl⟩⟩
    refine ⟨.ref s.heap.objs.size, _, I2, rfl, ⟨_, I.fresh, rfl, fun xs' ys' w1 w2 => ⟨xs[i], ys[i]'(by omega), ?_, ?_, rfl⟩⟩, ⟨z2, (sb.2 _ (d 2 (by decide))).trans (k1 _ _ (d 2 (by decide)) (by simp) (by simp) (by simp) Z.I), ⟨u, v, (sb.2 _ (d 3 (by decide))).trans O1⟩, j1.at fun o e => (sb.2 _ (d 0 (by decide))).trans e, m1.at fun o e => (sb.2 _ (d 1 (by decide))).trans e⟩, fun c hc => ?_⟩
    · rw [I.list_inj w1 q1]; simp [hi]
    · rw [I.list_inj w2 q2]; simp [show i < ys.length by omega]
    · rw [upd_ne (fun z => ?_)]
      · exact (hf c hc).1
      · obtain ⟨o, e, _⟩ : ∃ o, s.heap.get? c = some o ∧ True := by
          obtain ⟨hz, hI, ⟨u', v', hO⟩, ⟨o1, e1, c1, d1⟩, ⟨o2, e2, c2, d2⟩⟩ := Z
          simp only [List.mem_cons, List.not_mem_nil, or_false] at hc
          rcases hc with rfl | rfl | rfl | rfl | rfl
          · exact ⟨_, e1, trivial⟩
          · exact ⟨_, e2, trivial⟩
          · exact ⟨_, hI, trivial⟩
          · exact ⟨_, hO, trivial⟩
          · exact ⟨_, hz, trivial⟩
        exact absurd (Heap.lt_size e) (by rw [z]; exact Nat.lt_irrefl _)
  done := by
    intro X hP hw hK hc i pins s σ H E I hf Z hg
    subst hP hw hK
    obtain ⟨xs, q1, hx⟩ := hg
    obtain ⟨is1, r1, p1, _⟩ := I.list q1
    have hl := r1.length
    refine zipl_stop (I.ok.hd hc) (fun j _ => Nat.ne_of_lt (Nat.lt_of_lt_of_le ha (Nat.le_add_right ..))) Z p1.isList (by simp; omega) fun g k => ⟨rfl, I.turnedL (rs := [n, n + 1, n + 2, n + 3, n + 4]) (t' := s.toks) hf fun c o hc e => ?_⟩
    simp only [List.mem_cons, List.not_mem_nil, or_false, not_or] at hc
    exact k c o hc.2.2.2.2 hc.1 e
  self := fun _ _ _ _ _ Z h => wpAny_pyIter_zip Z.z h
def iZipL (K : PySem.W.Frag) (ta : TA) : TI := fun σ H R => ta σ H fun vs H1 => ∃ a b, vs = [.ref a, .ref b] ∧ (∃ xs, SqL K H1 a xs) ∧ (∃ ys, SqL K H1 b ys) ∧ R (ItzL K a b) H1
theorem pi_zipL {X : Cx} {a b : Expr} {ta : TA} {p pos : Pos} {elts : List Expr} {x1 : Nat} {tpos : Pos} (hg : Gl X "zip") (hm : X.mg "zip" = none) (ha : PA X [a, b] ta) (hs : starEach [a, b] X.env = [(false, eval a X.env), (false, eval b X.env)] := by rfl) (hs2 : starEach [b] X.env = [(false, eval b X.env)] := by rfl) :
    PI X (.Tuple elts x1 tpos) (.Call (.Name "zip" p) [a, b] [] pos) (iZipL X.K ta) := by
  intro pins s σ H R I h
  refine wpAny_Call_Name_kw (ld_blt I hg hm PyProof.Rows.boot_zip (PyProof.Rows.callWith_type1 (thn (ha pos pins s σ H _ I h) fun us s1 ⟨vs, H1, I1, r1, q1⟩ => ?_) (by rw [hs, hs2]) (by rw [hs2]; rfl)))
  obtain ⟨a', b', rfl, ⟨xs, q1⟩, ⟨ys, q2⟩, q⟩ := q1
  obtain ⟨u, v, rfl, ru, rv⟩ := vals2 r1
  cases ru
  cases rv
  obtain ⟨is1, _, p1, _⟩ := I1.list q1
  obtain ⟨is2, _, p2, _⟩ := I1.list q2
  have la : a' < s1.heap.objs.size := by obtain ⟨_, _, e, _⟩ := p1; exact Heap.lt_size e
  have lb : b' < s1.heap.objs.size := by obtain ⟨_, _, e, _⟩ := p2; exact Heap.lt_size e
  refine call_zipL p1.isList p2.isList fun g Z k => wpAny_pyIter_zip Z.z ?_
  have I2 : Inv X pins σ H1 { s1 with heap := g } := I1.kept (t' := s1.toks) k
  refine ⟨s1.heap.objs.size + 4, _, _, ItzL X.K a' b', H1, rfl, I2, turn_zipL a' b' s1.heap.objs.size la lb, Z, fun c hc => ?_, q⟩
  have hge : s1.heap.objs.size ≤ c := by
    simp only [List.mem_cons, List.not_mem_nil, or_false] at hc
    rcases hc with rfl | rfl | rfl | rfl | rfl
    · exact Nat.le_refl _
    all_goals exact Nat.le_add_right ..
  exact I1.fpOk hge (I1.hok.fresh hge)
section
variable {g : TG} {tc : TT} {te : TE}
theorem comp_zipL {K : PySem.W.Frag} {a b : Addr} {xs ys : List V} {Kf : List V → Hp → Prop} {σ0 : St} {H1 : Hp} (Pv : Nat → List V → St → Hp → Prop) (hz : xs.length < sizeLine) (hxy : xs.length = ys.length) (h0 : Pv 0 [] σ0 H1) (hb : ∀ i zs σ H, Pv i zs σ H → zs.length ≤ i)
    (hl : ∀ i zs σ H, i ≤ xs.length → Pv i zs σ H → SqL K H a xs ∧ SqL K H b ys)
    (hs : ∀ i x y zs σ H t, xs[i]? = some x → ys[i]? = some y → Pv i zs σ H → H t = none → g (.ref t) σ (upd H t (.tup [x, y])) fun σ2 H2 => tc σ2 H2 fun b H3 => if b = true then te σ2 H3 fun v H4 => Pv (i + 1) (zs ++ [v]) σ2 H4 else Pv (i + 1) zs σ2 H3)
    (hd : ∀ zs σ H, Pv xs.length zs σ H → Kf zs H) : CompW (ItzL K a b) g tc te Kf σ0 H1 := by
  refine ⟨fun i m zs σ H => m = xs.length - i ∧ i ≤ xs.length ∧ Pv i zs σ H, ⟨xs.length, by simp, Nat.zero_le _, h0⟩, ?_⟩
  rintro i m zs σ H ⟨rfl, hi, p⟩
  obtain ⟨q1, q2⟩ := hl i zs σ H hi p
  refine ⟨Nat.lt_of_le_of_lt (hb _ _ _ _ p) (Nat.lt_of_le_of_lt hi hz), ?_⟩
  by_cases hlt : i < xs.length
  · refine .inr ⟨⟨xs, ys, q1, q2, hxy, hlt⟩, Pv (i + 1), fun zs' σ' H' p' => ⟨xs.length - (i + 1), by omega, rfl, hlt, p'⟩, fun x H' y => ?_⟩
    obtain ⟨t, ht, rfl, w⟩ := y
    obtain ⟨u, v, e1, e2, rfl⟩ := w xs ys q1 q2
    exact hs i u v zs σ H t e1 e2 p ht
  · have e : i = xs.length := by omega
    subst e
    exact .inl ⟨⟨xs, q1, Nat.le_refl _⟩, hd zs σ H p⟩
end
end L2
namespace L2
open PySem PySem.Spec PyProof.Rows
theorem best_max (val : Nat → Int) : ∀ k i, i ≤ k → val i ≤ val (argBest (fun i j => decide (val i > val j)) k)
  | 0, i, h => by
    have : i = 0 := by omega
    subst this
    exact Int.le_refl _
  | k + 1, i, h => by
    have ih := best_max val k
    rw [argBest]
    split
    · rename_i c
      have c := of_decide_eq_true c
      by_cases e : i = k + 1
      · rw [e]; exact Int.le_refl _
      · have := ih i (by omega)
        omega
    · rename_i c
      have c : ¬ val (k + 1) > val _ := fun z => c (decide_eq_true z)
      by_cases e : i = k + 1
      · rw [e]; exact Int.not_lt.mp c
      · exact ih i (by omega)
/-- max of a tuple of ints: one of them -/
theorem call_max_u {X : Cx} (hc : X.calm = true := by rfl) : CallR X (.builtin "max") (fun xs H Q => ∃ (p : Addr) (ns : List Int), xs = [.ref p] ∧ SqT X.K H p (ns.map V.int) ∧ ns ≠ [] ∧ ∀ i, (∀ n ∈ ns, n ≤ i) → Q (.int i) H) := by
  intro pins s σ H xs us Q I r h
  obtain ⟨p, ns, rfl, hq, hne, q⟩ := h
  obtain ⟨u, rfl, ru⟩ := vals1 r
  cases ru
  obtain ⟨its, rv, pl, hz⟩ := I.tuple hq
  have it : s.heap.IsTuple p its.toArray := pl
  have lp : p < s.heap.objs.size := by
    obtain ⟨o, e, _⟩ := it
    exact Heap.lt_size e
  have hl := rv.length
  rw [List.length_map] at hl
  have val : ∀ i v, its.toArray[i]? = some v → ∃ t, v = Value.int (ns.getD i 0) t := fun i v hv => by
    have hi : its[i]? = some v := by simpa using hv
    have hb : i < ns.length := by
      have := (List.getElem?_eq_some_iff.mp hi).1
      omega
    obtain ⟨u, hu, ru⟩ := rv.get (i := i) (x := V.int ns[i]) (by rw [List.getElem?_map, List.getElem?_eq_getElem hb]; rfl)
    rw [hi] at hu
    cases hu
    obtain ⟨t, e⟩ := ru
    exact ⟨t, by rw [e]; simp [List.getD, hb]⟩
  have hpos : 0 < its.toArray.size := by
    rw [List.size_toArray, ← hl]
    cases ns with
    | nil => exact absurd rfl hne
    | cons _ _ => simp
  refine call_max_walk (wpAny_pyIter_tuple it ⟨s.heap.objs.size, _, _, _, _, _, _, rfl, Walks.tuple (A := X.A.in1) (I.ok.hd hc) s.heap.objs.size p (Nat.ne_of_lt lp) its.toArray, ⟨⟨_, Heap.get?_push_size _ rfl, rfl, rfl⟩, it.at fun o e => Heap.get?_push_of_some _ e⟩, ?_, hpos, CmpOf.ints_gt (fun i => ns.getD i 0) val, ?_⟩)
  · intro b hb
    rw [Heap.size_push]
    rcases List.mem_cons.mp hb with z | z
    · rw [z]; exact Nat.lt_succ_self _
    · have z : b = p := by simpa using z
      rw [z]; exact Nat.lt_succ_of_lt lp
  · intro v h' tk hv hk
    have kept : ∀ b o, s.heap.get? b = some o → h'.get? b = some o := fun b o e => hk b o (by
      intro z
      have z : b = s.heap.objs.size := by simpa using z
      exact absurd (Heap.lt_size e) (by rw [z]; exact Nat.lt_irrefl _)) (Heap.get?_push_of_some _ e)
    obtain ⟨t, rfl⟩ := val _ _ hv
    refine ⟨.int _, H, I.kept kept, ⟨t, rfl⟩, q _ fun n hn => ?_⟩
    obtain ⟨i, hi, e⟩ := List.mem_iff_getElem.mp hn
    have := best_max (fun i => ns.getD i 0) (its.toArray.size - 1) i (by rw [List.size_toArray, ← hl]; omega)
    rw [show ns.getD i 0 = n by simp [List.getD, hi, e]] at this
    exact this

/-! ### t + u, u not empty -/
section
variable {X : Cx}
def rCatE (K : PySem.W.Frag) : R2 := fun x y H Q => ∃ a b xs ys, x = .ref a ∧ y = .ref b ∧ SqT K H a xs ∧ SqT K H b ys ∧ ys ≠ [] ∧ xs.length + ys.length ≤ sizeLine ∧
  (xs = [] → Q (.ref b) H) ∧ (xs ≠ [] → ∀ p, H p = none → Q (.ref p) (upd H p (.tup (xs ++ ys))))
theorem op_catE : OpR X (binaryOp .Add) (rCatE X.K) := by
  intro pins s σ H x y v u Q I rx ry h
  by_cases c : ∃ a xs, x = .ref a ∧ SqT X.K H a xs ∧ xs ≠ []
  · obtain ⟨a', xs', e, ha', hx⟩ := c
    obtain ⟨a, b, xs, ys, rfl, rfl, ha, hb, hy, hz, q1, q2⟩ := h
    have e := V.ref.inj e
    rw [← e] at ha'
    have := I.tuple_inj ha ha'
    subst this
    exact op_catT pins s σ H _ _ v u Q I rx ry ⟨_, b, xs, ys, rfl, rfl, ha, hb, hx, hz, fun z => absurd z hy, fun _ => q2 hx⟩
  · obtain ⟨a, b, xs, ys, rfl, rfl, ha, hb, hy, hz, q1, q2⟩ := h
    have hx : xs = [] := Decidable.byContradiction fun z => c ⟨a, xs, rfl, ha, z⟩
    subst hx
    cases rx
    cases ry
    obtain ⟨its, r1, p1, _⟩ := I.tuple ha
    obtain ⟨its2, r2, p2, _⟩ := I.tuple hb
    cases r1
    obtain ⟨⟨cls, dd, data, sl⟩, ho, hc, n, hd⟩ := id p1
    obtain ⟨⟨cls2, dd2, data2, sl2⟩, ho2, hc2, n2, hd2⟩ := id p2
    simp only at hc hd hc2 hd2
    subst hc hd hc2 hd2
    exact concat_meets ⟨_, ho, rfl⟩ ⟨_, ho2, rfl⟩ noFill_tuple_add seq_tuple_add PySem.F.slot_tuple_add PySem.F.entry_tuple_add (PySem.F.args_tuple_add_2 _ _)
      (tuple_addW0 a b _ its2.toArray n n2 dd dd2 sl sl2 (by simp)) ⟨ho, ho2, .ref b, H, I, rfl, q1 rfl⟩
/-! ### repr of plain data, None too -/
def rReprV (K : PySem.W.Frag) : List V → Hp → VK → Prop := fun xs H Q => ∃ (d : PyData) (v : V), xs = [v] ∧ (d = .none ∧ v = .non ∨ ∃ p, v = .ref p) ∧ RepD K H d v ∧ d.showable = true ∧ d.hasDict = false ∧ d.depth ≤ 64 ∧ d.shown.length ≤ sizeLine ∧ Q (.str d.shown) H
theorem call_reprV {k : Nat} (hr : Room k X.A) : CallR X (.builtin "repr") (rReprV X.K) := by
  intro pins s σ H xs us Q I r h
  obtain ⟨d, v, rfl, c, hd, hs, hh, hdp, hz, q⟩ := h
  obtain ⟨u, rfl, ru⟩ := vals1 r
  rcases c with ⟨rfl, rfl⟩ | ⟨p, rfl⟩
  · cases ru
    exact PySem.P.repr_of_none ⟨.str _, H, I.kept fun _ _ e => e, ⟨_, rfl⟩, q⟩
  · exact call_reprD hr pins s σ H _ _ Q I r ⟨d, p, rfl, hd, hs, hh, hdp, hz, q⟩
end
end L2
namespace Mine
open PySem L2
def gI (a b : Int) : Int := (Nat.gcd a.toNat b.toNat : Nat)
def low1 (a b : Int) : Int := a / gI a b
def low2 (a b : Int) : Int := b / gI a b
theorem gI_pos {a b : Int} (hb : 1 ≤ b) : 0 < gI a b := by
  have : 0 < Nat.gcd a.toNat b.toNat := Nat.gcd_pos_of_pos_right _ (by omega)
  unfold gI; omega
theorem gI_mul {a b c : Int} (ha : 0 ≤ a) (hb : 0 ≤ b) (hc : 0 ≤ c) : gI (c * a) (c * b) = c * gI a b := by
  obtain ⟨x, rfl⟩ := Int.eq_ofNat_of_zero_le ha
  obtain ⟨y, rfl⟩ := Int.eq_ofNat_of_zero_le hb
  obtain ⟨z, rfl⟩ := Int.eq_ofNat_of_zero_le hc
  unfold gI
  rw [← Int.natCast_mul, ← Int.natCast_mul, Int.toNat_natCast, Int.toNat_natCast, Int.toNat_natCast, Int.toNat_natCast, Nat.gcd_mul_left, Int.natCast_mul]
theorem low_mul {a b c : Int} (ha : 0 ≤ a) (hb : 1 ≤ b) (hc : 1 ≤ c) : low1 (c * a) (c * b) = low1 a b ∧ low2 (c * a) (c * b) = low2 a b := by
  unfold low1 low2
  rw [gI_mul ha (by omega) (by omega), Int.mul_ediv_mul_of_pos _ _ (by omega), Int.mul_ediv_mul_of_pos _ _ (by omega)]
  exact ⟨rfl, rfl⟩
theorem low_eq {a b c d : Int} (ha : 0 ≤ a) (hb : 1 ≤ b) (hc : 0 ≤ c) (hd : 1 ≤ d) (h : a * d = c * b) : low1 a b = low1 c d ∧ low2 a b = low2 c d := by
  have e1 := low_mul ha hb hd
  have e2 := low_mul hc hd hb
  have q1 : d * a = b * c := by rw [Int.mul_comm d a, h, Int.mul_comm]
  have q2 : d * b = b * d := Int.mul_comm _ _
  rw [q1, q2] at e1
  exact ⟨e1.1.symm.trans e2.1, e1.2.symm.trans e2.2⟩
theorem gI_dvd1 {a b : Int} (ha : 0 ≤ a) : gI a b ∣ a := by
  obtain ⟨x, rfl⟩ := Int.eq_ofNat_of_zero_le ha
  unfold gI
  rw [Int.toNat_natCast]
  exact Int.natCast_dvd_natCast.mpr (Nat.gcd_dvd_left _ _)
theorem gI_dvd2 {a b : Int} (hb : 0 ≤ b) : gI a b ∣ b := by
  obtain ⟨x, rfl⟩ := Int.eq_ofNat_of_zero_le hb
  unfold gI
  rw [Int.toNat_natCast]
  exact Int.natCast_dvd_natCast.mpr (Nat.gcd_dvd_right _ _)
theorem low_ratio {a b : Int} (ha : 0 ≤ a) (hb : 1 ≤ b) : low1 a b * b = a * low2 a b := by
  have h1 := Int.ediv_mul_cancel (gI_dvd1 (b := b) ha)
  have h2 := Int.ediv_mul_cancel (gI_dvd2 (a := a) (b := b) (by omega))
  unfold low1 low2
  generalize a / gI a b = x at h1 ⊢
  generalize b / gI a b = y at h2 ⊢
  rw [← h1, ← h2]
  generalize gI (x * gI a b) (y * gI a b) = g
  grind
theorem low1_nonneg {a b : Int} (ha : 0 ≤ a) : 0 ≤ low1 a b := Int.ediv_nonneg ha (by unfold gI; omega)
theorem low2_pos {a b : Int} (hb : 1 ≤ b) : 1 ≤ low2 a b := by
  have h2 := Int.ediv_mul_cancel (gI_dvd2 (a := a) (b := b) (by omega))
  have g := gI_pos (a := a) hb
  unfold low2
  generalize b / gI a b = y at h2 ⊢
  by_cases z : 0 < y
  · omega
  · have := Int.mul_nonneg (show 0 ≤ -y by omega) (Int.le_of_lt g)
    rw [Int.neg_mul] at this
    omega
theorem low1_le {a b : Int} (ha : 0 ≤ a) (hb : 1 ≤ b) : low1 a b ≤ a := Int.ediv_le_self _ ha
theorem low2_le {a b : Int} (hb : 1 ≤ b) : low2 a b ≤ b := Int.ediv_le_self _ (by omega)
/-- low terms again -/
theorem low_low {a b : Int} (ha : 0 ≤ a) (hb : 1 ≤ b) : low1 (low1 a b) (low2 a b) = low1 a b ∧ low2 (low1 a b) (low2 a b) = low2 a b := by
  have := low_eq (low1_nonneg (b := b) ha) (low2_pos (a := a) hb) ha hb (by rw [low_ratio ha hb])
  exact this
/-! the shares and the tails of a steepness p/q -/
def shN (p q : Int) (n : Nat) : Int := (q - p) * p ^ n
def shD (p q : Int) (n : Nat) : Int := (q + p) * q ^ n
def tlN (p q : Int) (n : Nat) : Int := q * p ^ n
/-- the tail from k on, as top and bottom -/
def tN (p q k : Int) : Int := if 0 ≤ k then tlN p q k.toNat else shD p q (1 - k).toNat - tlN p q (1 - k).toNat
def tD (p q k : Int) : Int := if 0 ≤ k then shD p q k.toNat else shD p q (1 - k).toNat
theorem pow_le {p q : Int} (hp : 0 ≤ p) (h : p ≤ q) : ∀ n : Nat, p ^ n ≤ q ^ n
  | 0 => by simp
  | n + 1 => by
    rw [Int.pow_succ, Int.pow_succ]
    exact Int.mul_le_mul (pow_le hp h n) h hp (Int.pow_nonneg (by omega))
theorem shD_pos {p q : Int} (hp : 1 ≤ p) (h : p < q) (n : Nat) : 1 ≤ shD p q n := by
  have h1 : 0 < q ^ n := Int.pow_pos (by omega)
  have := Int.mul_pos (show 0 < q + p by omega) h1
  unfold shD; omega
theorem tD_pos {p q : Int} (hp : 1 ≤ p) (h : p < q) (k : Int) : 1 ≤ tD p q k := by
  unfold tD; split <;> exact shD_pos hp h _
/-- a tail is the next one and a share more -/
theorem tl_step {p q : Int} (hp : 1 ≤ p) (h : p < q) (k : Int) : (shN p q k.natAbs * tD p q (k + 1) + tN p q (k + 1) * shD p q k.natAbs) * tD p q k = tN p q k * (shD p q k.natAbs * tD p q (k + 1)) := by
  unfold tN tD
  by_cases c : 0 ≤ k
  · obtain ⟨n, rfl⟩ := Int.eq_ofNat_of_zero_le c
    have e1 : (0 : Int) ≤ (n : Int) + 1 := by omega
    have e2 : ((n : Int) + 1).toNat = n + 1 := by omega
    simp only [if_pos c, if_pos e1, e2, Int.natAbs_natCast, Int.toNat_natCast]
    unfold tlN shD shN
    rw [Int.pow_succ, Int.pow_succ]
    generalize p ^ n = x
    generalize q ^ n = y
    grind
  · obtain ⟨n, hn⟩ : ∃ n : Nat, k = -((n : Int) + 1) := ⟨(-k - 1).toNat, by omega⟩
    have e0 : k.natAbs = n + 1 := by omega
    have e1 : (1 - k).toNat = n + 2 := by omega
    rw [e0]
    simp only [if_neg c, e1]
    by_cases d : 0 ≤ k + 1
    · have e2 : n = 0 := by omega
      have e3 : (k + 1).toNat = 0 := by omega
      subst e2
      simp only [if_pos d, e3]
      unfold tlN shD shN
      simp only [Nat.zero_add, Int.pow_zero, Int.pow_one, Int.pow_succ]
      grind
    · have e4 : (1 - (k + 1)).toNat = n + 1 := by omega
      simp only [if_neg d, e4]
      unfold tlN shD shN
      rw [show n + 2 = n + 1 + 1 from rfl, Int.pow_succ p (n + 1), Int.pow_succ q (n + 1)]
      generalize p ^ (n + 1) = x
      generalize q ^ (n + 1) = y
      grind
theorem step_gcd {x y : Int} (hx : 0 ≤ x) (hy : 0 < y) : gI y (x % y) = gI x y := by
  obtain ⟨m, rfl⟩ := Int.eq_ofNat_of_zero_le hx
  obtain ⟨n, rfl⟩ := Int.eq_ofNat_of_zero_le (Int.le_of_lt hy)
  unfold gI
  rw [← Int.natCast_emod, Int.toNat_natCast, Int.toNat_natCast, Int.toNat_natCast, Nat.gcd_comm m n, Nat.gcd_rec n m, Nat.gcd_comm]
theorem gcd_end {x : Int} (hx : 0 ≤ x) : gI x 0 = x := by
  unfold gI
  simp
  omega
theorem gI_le {a b : Int} (hb : 1 ≤ b) : gI a b ≤ b := by
  have : Nat.gcd a.toNat b.toNat ≤ b.toNat := Nat.gcd_le_right _ (by omega)
  unfold gI; omega
theorem mul_bd {a b : Int} {m n : Nat} (a0 : 0 ≤ a) (a1 : a < 2 ^ m) (b0 : 0 ≤ b) (b1 : b < 2 ^ n) : 0 ≤ a * b ∧ a * b < 2 ^ (m + n) := by
  refine ⟨Int.mul_nonneg a0 b0, ?_⟩
  rw [Int.pow_add]
  have hp : (0 : Int) < 2 ^ n := Int.pow_pos (by decide)
  have h1 : a * b ≤ a * 2 ^ n := Int.mul_le_mul_of_nonneg_left (Int.le_of_lt b1) a0
  have h2 : a * 2 ^ n < 2 ^ m * 2 ^ n := Int.mul_lt_mul_of_pos_right a1 hp
  omega
/-! ### steepnesses and the promises -/
structure Steep (p q : Int) : Prop where
  p1 : 1 ≤ p
  pq : p < q
  q9 : q ≤ 9
def TupAt (H : Hp) (p : Addr) (a b : Int) : Prop := H p = some (.tup [.int a, .int b])
theorem ix0 (a b : Int) : atI [V.int a, V.int b] 0 = some (.int a) := rfl
theorem ix1 (a b : Int) : atI [V.int a, V.int b] 1 = some (.int b) := rfl
def lowI (a b : Int) : List V := [.int (low1 a b), .int (low2 a b)]
/-- at least 0 and below 2^72 -/
def B72 (a : Int) : Prop := 0 ≤ a ∧ a < 2 ^ 180
theorem B72.below {a : Int} (h : B72 a) : Below a := ⟨by have := h.1; omega, by have := h.2; omega⟩
theorem low_bd {a b : Int} (ha : B72 a) (hb : B72 b) (h1 : 1 ≤ b) : B72 (low1 a b) ∧ B72 (low2 a b) := by
  have q1 := low1_nonneg (b := b) ha.1
  have q2 := low2_pos (a := a) h1
  have q3 := low1_le ha.1 h1
  have q4 := low2_le (a := a) h1
  have := ha.2; have := hb.2
  exact ⟨⟨q1, by omega⟩, ⟨by omega, by omega⟩⟩
theorem TupAt.same {H H' : Hp} {p : Addr} {a b : Int} (h : TupAt H p a b) (s : Same H H') : TupAt H' p a b := s _ _ h
theorem tup_out {H H' : Hp} {d l p : Addr} {xs : List V} (D : Deal H d l) (o : Out d l H H') (h : H p = some (.tup xs)) : H' p = some (.tup xs) := by
  obtain ⟨sd, n, ls, D⟩ := D
  exact o _ _ h (ne_of h D.dc (by intro z; cases z)) (ne_of h D.lc (by intro z; cases z))
def spGcd : Sp := fun vs H Q _ => ∃ a b : Int, vs = [.int a, .int b] ∧ 0 ≤ a ∧ 0 ≤ b ∧ Q (.int (gI a b)) H
def spLow : Sp := fun vs H Q _ => ∃ a b : Int, vs = [.int a, .int b] ∧ 0 ≤ a ∧ 1 ≤ b ∧ b < 2 ^ 200 * 2 ^ 200 ∧ ∀ p, H p = none → Q (.ref p) (upd H p (.tup (lowI a b)))
def spTimes : Sp := fun vs H Q _ => ∃ (p q : Addr) (a b c d : Int), vs = [.ref p, .ref q] ∧ TupAt H p a b ∧ TupAt H q c d ∧ B72 a ∧ B72 b ∧ B72 c ∧ B72 d ∧ 1 ≤ b ∧ 1 ≤ d ∧ ∀ r, H r = none → Q (.ref r) (upd H r (.tup (lowI (a * c) (b * d))))
def spMinus : Sp := fun vs H Q _ => ∃ (p q : Addr) (a b c d : Int), vs = [.ref p, .ref q] ∧ TupAt H p a b ∧ TupAt H q c d ∧ B72 a ∧ B72 b ∧ B72 c ∧ B72 d ∧ 1 ≤ b ∧ 1 ≤ d ∧ c * b ≤ a * d ∧ ∀ r, H r = none → Q (.ref r) (upd H r (.tup (lowI (a * d - c * b) (b * d))))
def spLaw (K : PySem.W.Frag) : Sp := fun vs H Q _ => ∃ (a : Addr) (ns : List Int), vs = [.ref a] ∧ SqL K H a (ns.map V.int) ∧ ns.length ≤ 63 ∧ ∀ H', Q (.bl true) H'

/-! ### two lists, item by item -/
def cutI (n lo hi : Int) : Int := if hi < (if lo > n then lo else n) then hi else (if lo > n then lo else n)
def Two {α : Type} (R : V → α → Prop) : List V → List α → Prop
  | [], [] => True
  | v :: vs, a :: as => R v a ∧ Two R vs as
  | _, _ => False
theorem Two.mono {α : Type} {R R' : V → α → Prop} (h : ∀ v a, R v a → R' v a) : ∀ {vs : List V} {as : List α}, Two R vs as → Two R' vs as
  | [], [], _ => trivial
  | _ :: _, _ :: _, ⟨e, r⟩ => ⟨h _ _ e, Two.mono h r⟩
  | [], _ :: _, z => z.elim
  | _ :: _, [], z => z.elim
theorem Two.append {α : Type} {R : V → α → Prop} : ∀ {vs ws : List V} {as bs : List α}, Two R vs as → Two R ws bs → Two R (vs ++ ws) (as ++ bs)
  | [], _, [], _, _, r => r
  | _ :: _, _, _ :: _, _, ⟨e, r⟩, r2 => ⟨e, Two.append r r2⟩
  | [], _, _ :: _, _, z, _ => z.elim
  | _ :: _, _, [], _, z, _ => z.elim
theorem Two.length {α : Type} {R : V → α → Prop} : ∀ {vs : List V} {as : List α}, Two R vs as → vs.length = as.length
  | [], [], _ => rfl
  | _ :: _, _ :: _, ⟨_, r⟩ => by simp [Two.length r]
  | [], _ :: _, z => z.elim
  | _ :: _, [], z => z.elim
theorem Two.rep {α : Type} {R : V → α → Prop} {K : PySem.W.Frag} {H : Hp} {f : α → PyData} (h : ∀ v a, R v a → RepD K H (f a) v) : ∀ {vs : List V} {as : List α}, Two R vs as → RepL K H (as.map f) vs
  | [], [], _ => rfl
  | _ :: _, _ :: _, ⟨e, r⟩ => ⟨_, _, rfl, h _ _ e, Two.rep h r⟩
  | [], _ :: _, z => z.elim
  | _ :: _, [], z => z.elim
def TS (H H' : Hp) : Prop := ∀ a xs, H a = some (.tup xs) → H' a = some (.tup xs)
theorem TS.of {H H' : Hp} (s : Same H H') : TS H H' := fun _ _ e => s _ _ e
theorem TS.trans {H H1 H2 : Hp} (a : TS H H1) (b : TS H1 H2) : TS H H2 := fun c o h => b c o (a c o h)
theorem TS.lst {H : Hp} {l : Addr} {xs ys : List V} (h : H l = some (.lst xs)) : TS H (upd H l (.lst ys)) := fun a o e => by
  rw [upd_ne (ne_of e h (by intro z; cases z))]; exact e
theorem TS.out {H H' : Hp} {d l : Addr} (D : Deal H d l) (o : Out d l H H') : TS H H' := fun p xs h => tup_out D o h
theorem same_lst {H H1 : Hp} {l : Addr} {ys : List V} (s : Same H H1) (h : H l = none) : Same H (upd H1 l (.lst ys)) := fun b o e => by
  rw [upd_ne (ne_of_none e h)]; exact s b o e
theorem take_snoc {α : Type} {l : List α} {i : Nat} {x : α} (h : l[i]? = some x) : l.take (i + 1) = l.take i ++ [x] := by
  rw [List.take_succ, h]
  rfl
/-! ### tables: rung, top, bottom -/
def Ent (H : Hp) (v : V) (e : Int × Int × Int) : Prop := ∃ p q, v = .ref p ∧ H p = some (.tup [.int e.1, .ref q]) ∧ TupAt H q e.2.1 e.2.2
theorem Ent.ts {H H' : Hp} {v : V} {e : Int × Int × Int} (t : TS H H') (h : Ent H v e) : Ent H' v e := let ⟨p, q, a, b, c⟩ := h; ⟨p, q, a, t _ _ b, t _ _ c⟩
theorem tab_ts {H H' : Hp} {vs : List V} {es : List (Int × Int × Int)} (t : TS H H') (h : Two (Ent H) vs es) : Two (Ent H') vs es := h.mono fun _ _ z => z.ts t
theorem tt_len (ts : List Str) : (tupleText ts).length ≤ piled ts + 3 := by
  by_cases h : ts = []
  · subst h; decide
  · have e3 := join_length_add ts h
    unfold tupleText
    rw [strLen_append, strLen_append]
    have e4 : ((("(" : String) : Str)).length = 1 := rfl
    have e5 : (((if ts.length == 1 then ",)" else ")" : String) : Str)).length ≤ 2 := by split <;> decide
    omega
structure Small (e : Int × Int × Int) : Prop where
  a : Below e.1
  b : Below e.2.1
  c : Below e.2.2
/-! ### a ladder's table -/
def eN (p q lo hi n y : Int) : Int := if y = lo ∨ y = hi then tlN p q (y - n).natAbs else shN p q (y - n).natAbs
def eD (p q n y : Int) : Int := shD p q (y - n).natAbs
def ent (p q lo hi n y : Int) : Int × Int × Int := (y, low1 (eN p q lo hi n y) (eD p q n y), low2 (eN p q lo hi n y) (eD p q n y))
def tableI (p q lo hi n : Int) : List (Int × Int × Int) := if lo = hi then [(lo, 1, 1)] else (rangeI lo (hi + 1 - lo).toNat).map (ent p q lo hi n)
theorem rangeI_cons (lo : Int) : ∀ n : Nat, rangeI lo (n + 1) = lo :: rangeI (lo + 1) n
  | 0 => by simp [rangeI]
  | n + 1 => by
    rw [rangeI_succ, rangeI_cons lo n, rangeI_succ]
    simp
    omega
def lawSh (p q lo hi n y : Int) : Int := p ^ (y - n).natAbs * q ^ (hi - lo - ((y - n).natAbs : Int)).toNat * (if y = lo ∨ y = hi then q else q - p)
def sharesI (p q lo hi n : Int) : List Int := if lo = hi then [1] else (rangeI lo (hi + 1 - lo).toNat).map (lawSh p q lo hi n)
def botI (p q lo hi : Int) : Int := if lo = hi then 1 else shD p q (hi - lo).toNat
def tabL (b : Int) : Int → List Int → List (Int × Int × Int)
  | _, [] => []
  | f, s :: r => (f, low1 s b, low2 s b) :: tabL b (f + 1) r
theorem law_nn {p q lo hi n y : Int} (s : Steep p q) : 1 ≤ lawSh p q lo hi n y := by
  unfold lawSh
  have h1 : (0 : Int) < p ^ (y - n).natAbs := Int.pow_pos (by have := s.p1; omega)
  have h2 : (0 : Int) < q ^ (hi - lo - ((y - n).natAbs : Int)).toNat := Int.pow_pos (by have := s.p1; have := s.pq; omega)
  have h3 : (0 : Int) < (if y = lo ∨ y = hi then q else q - p) := by have := s.p1; have := s.pq; split <;> omega
  have := Int.mul_pos (Int.mul_pos h1 h2) h3
  omega
def dotI (xs ys : List Int) : Int := (List.zipWith (· * ·) xs ys).sum
/-! ### the promises -/
def IntsAt (H : Hp) (a : Addr) (ns : List Int) : Prop := H a = some (.tup (ns.map V.int))
def RowAt (H : Hp) (r : Addr) (x : Str) (w st : Addr) (lo hi : Int) : Prop := H r = some (.tup [.str "ladder", .str x, .ref w, .ref st, .int lo, .int hi])
structure Wts (ws cs : List Int) : Prop where
  len : ws.length = cs.length
  few : ws.length ≤ 3
  wt : ∀ x ∈ ws, 0 ≤ x ∧ x ≤ 3
structure Ends (lo hi : Int) : Prop where
  a : 0 ≤ lo
  b : lo ≤ hi
  c : hi ≤ 9
def taken : List Str := ["kinds", "ladder", "flat", "choose", "first", "let", "tell", "when", "else", "times", "end", "of"]
/-- a deal and a list of ours -/
structure DealL (H : Hp) (d l ls : Addr) (ts : List V) : Prop where
  deal : Deal H d l
  ne : ls ≠ l
  lst : H ls = some (.lst ts)
theorem DealL.new {H : Hp} {d l ls : Addr} (D : Deal H d l) (h : H ls = none) : DealL (upd H ls (.lst [])) d l ls [] := by
  obtain ⟨sd, n, l', q⟩ := id D
  exact ⟨D.same (same_new h _), (ne_of_none q.lc h).symm, upd_same⟩
theorem DealL.out {H H' : Hp} {d l ls : Addr} {ts : List V} (S : DealL H d l ls ts) (D : Deal H' d l) (o : Out d l H H') : DealL H' d l ls ts := by
  refine ⟨D, S.ne, ?_⟩
  obtain ⟨sd, n, l', q⟩ := S.deal
  exact o _ _ S.lst (ne_of S.lst q.dc (by intro z; cases z)) S.ne
theorem DealL.same {H H' : Hp} {d l ls : Addr} {ts : List V} (S : DealL H d l ls ts) (s : Same H H') : DealL H' d l ls ts := ⟨S.deal.same s, S.ne, s _ _ S.lst⟩
theorem DealL.app {H : Hp} {d l ls : Addr} {ts : List V} (S : DealL H d l ls ts) (us : List V) : DealL (upd H ls (.lst us)) d l ls us := by
  refine ⟨?_, S.ne, upd_same⟩
  obtain ⟨sd, n, l', q⟩ := S.deal
  exact ⟨sd, n, l', ⟨by rw [upd_ne (ne_of q.dc S.lst (by intro z; cases z))]; exact q.dc, by rw [upd_ne S.ne.symm]; exact q.lc, q.s0, q.s1, q.n0, q.l0⟩⟩
/-- what is asked: a row, a crowd, a number, a table -/
def AskAt (H : Hp) (t rw c du : Addr) (x : Str) (w st : Addr) (p q lo hi : Int) (ws cs : List Int) (dv : List V) : Prop :=
  H t = some (.tup [.ref rw, .ref c, .int (cutI (dotI ws cs) lo hi), .ref du]) ∧ RowAt H rw x w st lo hi ∧ IntsAt H w ws ∧ TupAt H st p q ∧ IntsAt H c cs ∧ H du = some (.tup dv) ∧
    Two (Ent H) dv (tableI p q lo hi (cutI (dotI ws cs) lo hi)) ∧ Steep p q ∧ Ends lo hi ∧ Wts ws cs
def Ask (H : Hp) (v : V) : Prop := ∃ t rw c du x w st p q lo hi ws cs dv, v = .ref t ∧ AskAt H t rw c du x w st p q lo hi ws cs dv
theorem Ask.ts {H H' : Hp} {v : V} (s : TS H H') (h : Ask H v) : Ask H' v := by
  obtain ⟨t, rw, c, du, x, w, st, p, q, lo, hi, ws, cs, dv, e, a1, a2, a3, a4, a5, a6, a7, a8⟩ := h
  exact ⟨t, rw, c, du, x, w, st, p, q, lo, hi, ws, cs, dv, e, s _ _ a1, s _ _ a2, s _ _ a3, s _ _ a4, s _ _ a5, s _ _ a6, tab_ts s a7, a8⟩
structure SomeA (H : Hp) (d l ls : Addr) (ts : List V) : Prop where
  b : DealL H d l ls ts
  asks : ∀ v ∈ ts, Ask H v
theorem SomeA.out {H H' : Hp} {d l ls : Addr} {ts : List V} (S : SomeA H d l ls ts) (D : Deal H' d l) (o : Out d l H H') : SomeA H' d l ls ts := ⟨S.b.out D o, fun v hv => (S.asks v hv).ts (TS.out S.b.deal o)⟩
theorem SomeA.same {H H' : Hp} {d l ls : Addr} {ts : List V} (S : SomeA H d l ls ts) (s : Same H H') : SomeA H' d l ls ts := ⟨S.b.same s, fun v hv => (S.asks v hv).ts (.of s)⟩
/-- the things of a question, without its own tuple -/
def Parts (H : Hp) (rw c du : Addr) (n : Int) : Prop := ∃ x w st p q lo hi ws cs dv, n = cutI (dotI ws cs) lo hi ∧ RowAt H rw x w st lo hi ∧ IntsAt H w ws ∧ TupAt H st p q ∧ IntsAt H c cs ∧ H du = some (.tup dv) ∧
    Two (Ent H) dv (tableI p q lo hi (cutI (dotI ws cs) lo hi)) ∧ Steep p q ∧ Ends lo hi ∧ Wts ws cs
theorem SomeA.app {H : Hp} {d l ls p rw c du : Addr} {n : Int} {ts : List V} (S : SomeA H d l ls ts) (hp : H p = none) (o : Parts H rw c du n) :
    SomeA (upd (upd H p (.tup [.ref rw, .ref c, .int n, .ref du])) ls (.lst (ts ++ [.ref p]))) d l ls (ts ++ [.ref p]) := by
  have S1 := S.same (same_new hp (.tup [.ref rw, .ref c, .int n, .ref du]))
  have hp1 : upd H p (.tup [.ref rw, .ref c, .int n, .ref du]) p = some (.tup [.ref rw, .ref c, .int n, .ref du]) := upd_same
  have s := same_new hp (.tup [.ref rw, .ref c, .int n, .ref du])
  generalize upd H p (.tup [.ref rw, .ref c, .int n, .ref du]) = H1 at S1 hp1 s ⊢
  have tl : TS H1 (upd H1 ls (.lst (ts ++ [.ref p]))) := TS.lst S1.b.lst
  refine ⟨S1.b.app _, fun v hv => ?_⟩
  rcases List.mem_append.mp hv with z | z
  · exact (S1.asks v z).ts tl
  · have e : v = .ref p := by simpa using z
    obtain ⟨x, w, st, p', q, lo, hi, ws, cs, dv, rfl, a2, a3, a4, a5, a6, a7, a8⟩ := o
    have ss := (TS.of s).trans tl
    exact ⟨p, rw, c, du, x, w, st, p', q, lo, hi, ws, cs, dv, e, tl _ _ hp1, ss _ _ a2, ss _ _ a3, ss _ _ a4, ss _ _ a5, ss _ _ a6, tab_ts ss a7, a8⟩
theorem shares_pos {p q lo hi n : Int} (s : Steep p q) : ∀ z ∈ sharesI p q lo hi n, 1 ≤ z := by
  unfold sharesI
  intro z hz
  split at hz
  · have e : z = 1 := by simpa using hz
    omega
  · obtain ⟨y, _, rfl⟩ := List.mem_map.mp hz
    exact law_nn s
end Mine
namespace Mine
open PySem L2
/-! ### totals: a dict of fractions by whole numbers -/
def Fr72 (u : Int × Int) : Prop := B72 u.1 ∧ B72 u.2 ∧ 1 ≤ u.2
def addF (u e : Int × Int) : Int × Int := (low1 (u.1 * e.2 + e.1 * u.2) (u.2 * e.2), low2 (u.1 * e.2 + e.1 * u.2) (u.2 * e.2))
def stepT (T : Int → Option (Int × Int)) (e : Int × Int × Int) : Int → Option (Int × Int) := fun k => if k = e.1 then some (addF ((T k).getD (0, 1)) e.2) else T k
def totF (es : List (Int × Int × Int)) : Int → Option (Int × Int) := es.foldl stepT (fun _ => none)
structure KvT (H : Hp) (kvs : List (Key × V)) (T : Int → Option (Int × Int)) : Prop where
  inl : ∀ p ∈ kvs, ∃ k : Int, p.1 = Sum.inl k
  nd : (kvs.map (·.1)).Nodup
  no : ∀ k, T k = none → valV kvs (Sum.inl k) = none
  val : ∀ k u, T k = some u → ∃ q, valV kvs (Sum.inl k) = some (.ref q) ∧ TupAt H q u.1 u.2
theorem KvT.nil {H : Hp} : KvT H [] (fun _ => none) := ⟨fun _ z => (nomatch z), List.nodup_nil, fun _ _ => rfl, fun _ _ z => (nomatch z)⟩
theorem KvT.ts {H H' : Hp} {kvs : List (Key × V)} {T : Int → Option (Int × Int)} (s : TS H H') (h : KvT H kvs T) : KvT H' kvs T := ⟨h.inl, h.nd, h.no, fun k u e => let ⟨q, a, b⟩ := h.val k u e; ⟨q, a, s _ _ b⟩⟩
theorem put_keys {kvs : List (Key × V)} {k : Key} {v : V} : (∃ x, valV kvs k = some x) → (putK kvs k v).map (·.1) = kvs.map (·.1) := by
  rintro ⟨x, hx⟩
  unfold putK
  rw [valV_any, hx]
  simp only [Option.isSome_some, if_true, List.map_map]
  refine List.map_congr_left fun p _ => ?_
  simp only [Function.comp]
  split <;> rfl
theorem KvT.put {H : Hp} {kvs : List (Key × V)} {T : Int → Option (Int × Int)} {e : Int × Int × Int} {q : Addr} (h : KvT H kvs T) (hq : TupAt H q (addF ((T e.1).getD (0, 1)) e.2).1 (addF ((T e.1).getD (0, 1)) e.2).2) :
    KvT H (putK kvs (Sum.inl e.1) (.ref q)) (stepT T e) := by
  have keys : (∀ p ∈ putK kvs (Sum.inl e.1) (V.ref q), ∃ k : Int, p.1 = Sum.inl k) ∧ ((putK kvs (Sum.inl e.1) (V.ref q)).map (·.1)).Nodup := by
    cases c : valV kvs (Sum.inl e.1) with
    | none =>
      refine ⟨fun p hp => ?_, nd_putK _ h.nd c⟩
      rw [putK_new _ c] at hp
      rcases List.mem_append.mp hp with z | z
      · exact h.inl p z
      · have : p = (Sum.inl e.1, V.ref q) := by simpa using z
        exact ⟨e.1, by rw [this]⟩
    | some x =>
      have pk := put_keys (v := V.ref q) ⟨x, c⟩
      refine ⟨fun p hp => ?_, by rw [pk]; exact h.nd⟩
      have : p.1 ∈ kvs.map (·.1) := by rw [← pk]; exact List.mem_map.mpr ⟨p, hp, rfl⟩
      obtain ⟨p', hp', e'⟩ := List.mem_map.mp this
      obtain ⟨k, hk⟩ := h.inl p' hp'
      exact ⟨k, by rw [← e', hk]⟩
  refine ⟨keys.1, keys.2, fun k hk => ?_, fun k u hk => ?_⟩
  · rw [valV_put]
    unfold stepT at hk
    by_cases c : k = e.1
    · rw [if_pos c] at hk; cases hk
    · rw [if_neg c] at hk
      rw [if_neg (fun z => c (Sum.inl.inj z))]
      exact h.no k hk
  · rw [valV_put]
    unfold stepT at hk
    by_cases c : k = e.1
    · subst c
      rw [if_pos rfl] at hk
      cases hk
      exact ⟨q, by rw [if_pos rfl], hq⟩
    · rw [if_neg c] at hk
      rw [if_neg (fun z => c (Sum.inl.inj z))]
      exact h.val k u hk
/-- a table by its keys -/
def tabOf (T : Int → Option (Int × Int)) (ks : List Int) : List (Int × Int × Int) := ks.map fun k => (k, (T k).getD (0, 1))
/-- two rising lists of the same members are one -/
theorem rise_ext : ∀ {l m : List Int}, l.Pairwise (· < ·) → m.Pairwise (· < ·) → (∀ x, x ∈ l ↔ x ∈ m) → l = m
  | [], [], _, _, _ => rfl
  | [], b :: m, _, _, h => absurd ((h b).mpr List.mem_cons_self) (by simp)
  | a :: l, [], _, _, h => absurd ((h a).mp List.mem_cons_self) (by simp)
  | a :: l, b :: m, p, q, h => by
    obtain ⟨p1, p2⟩ := List.pairwise_cons.mp p
    obtain ⟨q1, q2⟩ := List.pairwise_cons.mp q
    have e : a = b := by
      rcases List.mem_cons.mp ((h a).mp List.mem_cons_self) with z | z
      · exact z
      · rcases List.mem_cons.mp ((h b).mpr List.mem_cons_self) with w | w
        · exact w.symm
        · have := q1 a z; have := p1 b w; omega
    subst e
    have e2 : l = m := rise_ext p2 q2 fun x => by
      constructor
      · intro hx
        rcases List.mem_cons.mp ((h x).mp (List.mem_cons_of_mem _ hx)) with z | z
        · have := p1 x hx; omega
        · exact z
      · intro hx
        rcases List.mem_cons.mp ((h x).mpr (List.mem_cons_of_mem _ hx)) with z | z
        · have := q1 x hx; omega
        · exact z
    rw [e2]
def spAdd : Sp := fun vs H Q _ => ∃ (p q : Addr) (u e : Int × Int), vs = [.ref p, .ref q] ∧ TupAt H p u.1 u.2 ∧ TupAt H q e.1 e.2 ∧ Fr72 u ∧ Fr72 e ∧ ∀ r, H r = none → Q (.ref r) (upd H r (.tup [.int (addF u e).1, .int (addF u e).2]))
end Mine
namespace Mine
open PySem L2
/-! ### how often a key comes -/
def cAdd : (Int → Int) → List Int → Int → Int
  | c, [] => c
  | c, k :: r => cAdd (fun z => if z = k then c z + 1 else c z) r
/-- a table of counts, without those of nought -/
def tabZ (b : Int) : Int → List Int → List (Int × Int × Int)
  | _, [] => []
  | f, s :: r => if 0 < s then (f, low1 s b, low2 s b) :: tabZ b (f + 1) r else tabZ b (f + 1) r
theorem tabZ_snoc (b : Int) : ∀ (f : Int) (l : List Int) (s : Int), tabZ b f (l ++ [s]) = tabZ b f l ++ (if 0 < s then [(f + l.length, low1 s b, low2 s b)] else [])
  | f, [], s => by simp [tabZ]
  | f, a :: r, s => by
    have e : f + 1 + (r.length : Int) = f + ((r.length + 1 : Nat) : Int) := by omega
    simp only [List.cons_append, tabZ, tabZ_snoc b (f + 1) r s, List.length_cons, e]
    split <;> simp
theorem tabZ_map (b : Int) (g : Int → Int) (lo : Int) : ∀ m : Nat, tabZ b lo ((rangeI lo m).map g) = ((rangeI lo m).filter fun y => decide (0 < g y)).map fun y => (y, low1 (g y) b, low2 (g y) b)
  | 0 => rfl
  | m + 1 => by
    rw [rangeI_succ, List.map_append, List.filter_append, List.map_append]
    show tabZ b lo (_ ++ [g (lo + m)]) = _
    rw [tabZ_snoc, tabZ_map b g lo m, List.length_map, rangeI_len]
    by_cases c : 0 < g (lo + m) <;> simp [c]
theorem range_rise (lo : Int) : ∀ m : Nat, (rangeI lo m).Pairwise (· < ·)
  | 0 => List.Pairwise.nil
  | m + 1 => by
    rw [rangeI_succ]
    refine List.pairwise_append.mpr ⟨range_rise lo m, List.pairwise_singleton _ _, fun a ha b hb => ?_⟩
    have := mem_rangeI.mp ha
    have e : b = lo + m := by simpa using hb
    omega
def flatK (n r lo hi : Int) : List Int := (rangeI (-r) (r + 1 - -r).toNat).map fun u => cutI (n + u) lo hi
def flatC (n r lo hi : Int) : Int → Int := cAdd (fun _ => 0) (flatK n r lo hi)
def flatTab (n r lo hi : Int) : List (Int × Int × Int) := tabZ (2 * r + 1) lo ((rangeI lo (hi + 1 - lo).toNat).map (flatC n r lo hi))
/-! ### chooses -/
def gC (p q n : Int) : Int := q ^ n.toNat * p ^ (9 - n).toNat
def sumC (p q : Int) (ns : List Int) : Int := (ns.map (gC p q)).sum
def SafeF : Int × Int → List (Int × Int) → Prop
  | _, [] => True
  | u, f :: r => Fr72 u ∧ Fr72 f ∧ SafeF (addF u f) r
theorem safeF_at : ∀ {fs : List (Int × Int)} {u : Int × Int} {i : Nat} {f : Int × Int}, SafeF u fs → fs[i]? = some f → Fr72 ((fs.take i).foldl addF u) ∧ Fr72 f
  | [], _, _, _, _, h => by simp at h
  | a :: r, u, 0, f, ⟨s1, s2, _⟩, h => by
    have q : a = f := by simpa using h
    subst q
    exact ⟨s1, s2⟩
  | a :: r, u, i + 1, f, ⟨_, _, s3⟩, h => by
    have := safeF_at (i := i) s3 (by simpa using h)
    simpa using this
theorem low_fr {S P : Int} (hS : 0 ≤ S) (h1 : S < 2 ^ 180) (hP : 1 ≤ P) (h2 : P < 2 ^ 180) : Fr72 (low1 S P, low2 S P) := by
  have l := low_bd (a := S) (b := P) ⟨hS, h1⟩ ⟨by omega, h2⟩ hP
  exact ⟨l.1, l.2, low2_pos hP⟩
end Mine
namespace Mine
open PySem L2
/-! ### rows of flats and chooses, and the promises -/
def Row6 (H : Hp) (r : Addr) (wd x : Str) (a3 a4 : V) (lo hi : Int) : Prop := H r = some (.tup [.str wd, .str x, a3, a4, .int lo, .int hi])
def SumR (H : Hp) (v : V) (ws : List Int) : Prop := ∃ a, v = .ref a ∧ IntsAt H a ws
theorem SumR.ts {H H' : Hp} {v : V} {ws : List Int} (t : TS H H') (h : SumR H v ws) : SumR H' v ws := let ⟨a, e, q⟩ := h; ⟨a, e, t _ _ q⟩
def SumsOk (H : Hp) (wd : Str) (a3 : V) (wss : List (List Int)) : Prop := (wd = "flat" ∧ ∃ w ws, a3 = .ref w ∧ IntsAt H w ws ∧ wss = [ws]) ∨ (wd = "choose" ∧ ∃ sm vs, a3 = .ref sm ∧ H sm = some (.tup vs) ∧ Two (SumR H) vs wss)
theorem SumsOk.ts {H H' : Hp} {wd : Str} {a3 : V} {wss : List (List Int)} (t : TS H H') (h : SumsOk H wd a3 wss) : SumsOk H' wd a3 wss := by
  rcases h with ⟨e, w, ws, e1, e2, e3⟩ | ⟨e, sm, vs, e1, e2, e3⟩
  · exact .inl ⟨e, w, ws, e1, t _ _ e2, e3⟩
  · exact .inr ⟨e, sm, vs, e1, t _ _ e2, e3.mono fun _ _ z => z.ts t⟩
def KindOk (H : Hp) (wd : Str) (a4 : V) : Prop := (wd = "flat" ∧ ∃ rr : Int, a4 = .int rr ∧ 0 ≤ rr ∧ rr ≤ 4) ∨ (wd = "choose" ∧ ∃ st p q, a4 = .ref st ∧ TupAt H st p q ∧ Steep p q)
/-- what is thrown -/
def ThrOk (H : Hp) (wd : Str) (a4 : V) (lo hi : Int) (ns : List Int) (tb : List (Int × Int × Int)) : Prop :=
  (wd = "flat" ∧ ∃ rr n : Int, a4 = .int rr ∧ 0 ≤ rr ∧ rr ≤ 4 ∧ ns = [n] ∧ tb = flatTab n rr lo hi) ∨ (wd = "choose" ∧ ∃ st p q, a4 = .ref st ∧ TupAt H st p q ∧ Steep p q ∧ tb = tabL (sumC p q ns) 0 (ns.map (gC p q)))
theorem ThrOk.ts {H H' : Hp} {wd : Str} {a4 : V} {lo hi : Int} {ns : List Int} {tb : List (Int × Int × Int)} (t : TS H H') (h : ThrOk H wd a4 lo hi ns tb) : ThrOk H' wd a4 lo hi ns tb := by
  rcases h with h | ⟨e, st, p, q, e1, e2, e3⟩
  · exact .inl h
  · exact .inr ⟨e, st, p, q, e1, t _ _ e2, e3⟩
def numsI (wss : List (List Int)) (cs : List Int) (lo hi : Int) : List Int := wss.map fun ws => cutI (dotI ws cs) lo hi
structure Few (wss : List (List Int)) (cs : List Int) : Prop where
  a : 1 ≤ wss.length
  b : wss.length ≤ 4
  w : ∀ ws ∈ wss, Wts ws cs
theorem ne_ff : ¬ (("flat" : Str) = "first") := by decide +kernel
theorem ne_ci : ¬ (("choose" : Str) = "first") := by decide +kernel
theorem ne_fl : ¬ (("flat" : Str) = "ladder") := by decide +kernel
theorem ne_cl : ¬ (("choose" : Str) = "ladder") := by decide +kernel
def Wd (wd : Str) : Prop := wd = "flat" ∨ wd = "choose"
theorem Wd.nf {wd : Str} (h : Wd wd) : ¬ wd = "first" := by rcases h with rfl | rfl; exact ne_ff; exact ne_ci
theorem Wd.nl {wd : Str} (h : Wd wd) : ¬ wd = "ladder" := by rcases h with rfl | rfl; exact ne_fl; exact ne_cl
theorem SumsOk.wd {H : Hp} {wd : Str} {a3 : V} {wss : List (List Int)} (h : SumsOk H wd a3 wss) : Wd wd := by
  rcases h with ⟨e, _⟩ | ⟨e, _⟩
  · exact .inl e
  · exact .inr e
def FrR (H : Hp) (v : V) (f : Int × Int) : Prop := ∃ q, v = .ref q ∧ TupAt H q f.1 f.2
theorem FrR.ts {H H' : Hp} {v : V} {f : Int × Int} (t : TS H H') (h : FrR H v f) : FrR H' v f := let ⟨a, e, q⟩ := h; ⟨a, e, t _ _ q⟩
def spCome : Sp := fun vs H Q _ => ∃ l us fs, vs = [.ref l] ∧ H l = some (.lst us) ∧ Two (FrR H) us fs ∧ SafeF (0, 1) fs ∧ ∀ H' q, Same H H' → TupAt H' q (fs.foldl addF (0, 1)).1 (fs.foldl addF (0, 1)).2 → Q (.ref q) H'
def spDiv : Sp := fun vs H Q _ => ∃ (p q : Addr) (u e : Int × Int), vs = [.ref p, .ref q] ∧ TupAt H p u.1 u.2 ∧ TupAt H q e.1 e.2 ∧ Fr72 u ∧ Fr72 e ∧ 1 ≤ e.1 ∧ ∀ r, H r = none → Q (.ref r) (upd H r (.tup (lowI (u.1 * e.2) (u.2 * e.1))))
/-! ### what is shown -/
theorem ints_all : ∀ ns : List Int, (∀ n ∈ ns, Below n) → PyData.showableAll (ns.map PyData.int) = true ∧ PyData.hasDictAll (ns.map PyData.int) = false ∧ PyData.depthAll (ns.map PyData.int) = 0 ∧ piled (PyData.shownAll (ns.map PyData.int)) ≤ ns.length * 1923
  | [], _ => ⟨rfl, rfl, rfl, Nat.le_refl _⟩
  | n :: r, h => by
    have hn := h n List.mem_cons_self
    obtain ⟨a, b, c, d⟩ := ints_all r fun x hx => h x (List.mem_cons_of_mem _ hx)
    have l : (PyData.int n).shown.length ≤ 1921 := PyProof.Rows.int_text_len_1921 hn.log
    refine ⟨?_, ?_, ?_, ?_⟩
    · simp only [List.map_cons, PyData.showableAll, a, Bool.and_true]
      simp [PyData.showable, hn.log]
    · simp only [List.map_cons, PyData.hasDictAll, b, Bool.or_false]
      rfl
    · simp [PyData.depthAll, PyData.depth, c]
    · simp only [List.map_cons, PyData.shownAll]
      rw [piled_cons, List.length_cons]
      omega
/-! ### what is asked -/
def AskAt2 (H : Hp) (t rw c nt du : Addr) (wd x : Str) (a3 a4 : V) (lo hi : Int) (wss : List (List Int)) (cs : List Int) (dv : List V) (tb : List (Int × Int × Int)) : Prop :=
  H t = some (.tup [.ref rw, .ref c, .ref nt, .ref du]) ∧ Row6 H rw wd x a3 a4 lo hi ∧ SumsOk H wd a3 wss ∧ IntsAt H c cs ∧ IntsAt H nt (numsI wss cs lo hi) ∧ H du = some (.tup dv) ∧ Two (Ent H) dv tb ∧ ThrOk H wd a4 lo hi (numsI wss cs lo hi) tb ∧ Ends lo hi ∧ Few wss cs
def Ask2 (H : Hp) (v : V) : Prop := ∃ t rw c nt du wd x a3 a4 lo hi wss cs dv tb, v = .ref t ∧ AskAt2 H t rw c nt du wd x a3 a4 lo hi wss cs dv tb
theorem Ask2.ts {H H' : Hp} {v : V} (s : TS H H') (h : Ask2 H v) : Ask2 H' v := by
  obtain ⟨t, rw, c, nt, du, wd, x, a3, a4, lo, hi, wss, cs, dv, tb, e, b1, b2, b3, b4, b5, b6, b7, b8, b9⟩ := h
  exact ⟨t, rw, c, nt, du, wd, x, a3, a4, lo, hi, wss, cs, dv, tb, e, s _ _ b1, s _ _ b2, b3.ts s, s _ _ b4, s _ _ b5, s _ _ b6, tab_ts s b7, b8.ts s, b9⟩
structure SomeB (H : Hp) (d l ls : Addr) (ts : List V) : Prop where
  b : DealL H d l ls ts
  asks : ∀ v ∈ ts, Ask2 H v
theorem SomeB.out {H H' : Hp} {d l ls : Addr} {ts : List V} (S : SomeB H d l ls ts) (D : Deal H' d l) (o : Out d l H H') : SomeB H' d l ls ts := ⟨S.b.out D o, fun v hv => (S.asks v hv).ts (TS.out S.b.deal o)⟩
theorem SomeB.same {H H' : Hp} {d l ls : Addr} {ts : List V} (S : SomeB H d l ls ts) (s : Same H H') : SomeB H' d l ls ts := ⟨S.b.same s, fun v hv => (S.asks v hv).ts (.of s)⟩
def Parts2 (H : Hp) (rw c nt du : Addr) : Prop := ∃ wd x a3 a4 lo hi wss cs dv tb, Row6 H rw wd x a3 a4 lo hi ∧ SumsOk H wd a3 wss ∧ IntsAt H c cs ∧ IntsAt H nt (numsI wss cs lo hi) ∧ H du = some (.tup dv) ∧ Two (Ent H) dv tb ∧ ThrOk H wd a4 lo hi (numsI wss cs lo hi) tb ∧ Ends lo hi ∧ Few wss cs
theorem SomeB.app {H : Hp} {d l ls p rw c nt du : Addr} {ts : List V} (S : SomeB H d l ls ts) (hp : H p = none) (o : Parts2 H rw c nt du) :
    SomeB (upd (upd H p (.tup [.ref rw, .ref c, .ref nt, .ref du])) ls (.lst (ts ++ [.ref p]))) d l ls (ts ++ [.ref p]) := by
  have S1 := S.same (same_new hp (.tup [.ref rw, .ref c, .ref nt, .ref du]))
  have hp1 : upd H p (.tup [.ref rw, .ref c, .ref nt, .ref du]) p = some (.tup [.ref rw, .ref c, .ref nt, .ref du]) := upd_same
  have s := same_new hp (.tup [.ref rw, .ref c, .ref nt, .ref du])
  generalize upd H p (.tup [.ref rw, .ref c, .ref nt, .ref du]) = H1 at S1 hp1 s ⊢
  have tl : TS H1 (upd H1 ls (.lst (ts ++ [.ref p]))) := TS.lst S1.b.lst
  refine ⟨S1.b.app _, fun v hv => ?_⟩
  rcases List.mem_append.mp hv with z | z
  · exact (S1.asks v z).ts tl
  · have e : v = .ref p := by simpa using z
    obtain ⟨wd, x, a3, a4, lo, hi, wss, cs, dv, tb, b2, b3, b4, b5, b6, b7, b8, b9⟩ := o
    have ss := (TS.of s).trans tl
    exact ⟨p, rw, c, nt, du, wd, x, a3, a4, lo, hi, wss, cs, dv, tb, e, tl _ _ hp1, ss _ _ b2, b3.ts ss, ss _ _ b4, ss _ _ b5, ss _ _ b6, tab_ts ss b7, b8.ts ss, b9⟩
end Mine
namespace Mine
open PySem L2
theorem Two.at {α : Type} {R : V → α → Prop} : ∀ {vs : List V} {as : List α} {i : Nat} {v : V}, Two R vs as → vs[i]? = some v → ∃ a, as[i]? = some a ∧ R v a
  | [], [], _, _, _, h => by simp at h
  | v :: vs, a :: as, 0, w, ⟨h1, _⟩, h => by
    have e : v = w := by simpa using h
    subst e
    exact ⟨a, by simp, h1⟩
  | v :: vs, a :: as, i + 1, w, ⟨_, h2⟩, h => by
    obtain ⟨b, hb, r⟩ := Two.at (i := i) h2 (by simpa using h)
    exact ⟨b, by simpa using hb, r⟩
theorem low1_pos {S P : Int} (hS : 1 ≤ S) (hP : 1 ≤ P) : 1 ≤ low1 S P := by
  have r := low_ratio (a := S) (by omega) hP
  have n2 := low2_pos (a := S) hP
  have a := low1_nonneg (a := S) (b := P) (by omega)
  by_cases z : low1 S P = 0
  · rw [z, Int.zero_mul] at r
    have := Int.mul_pos (show 0 < S by omega) (show 0 < low2 S P by omega)
    omega
  · omega
theorem KindOk.ts {H H' : Hp} {wd : Str} {a4 : V} (t : TS H H') (h : KindOk H wd a4) : KindOk H' wd a4 := by
  rcases h with h | ⟨e, st, p, q, e1, e2, e3⟩
  · exact .inl h
  · exact .inr ⟨e, st, p, q, e1, t _ _ e2, e3⟩
end Mine
namespace Mine
open PySem L2
/-! ### the tails of a ladder are the sums of its shares -/
theorem law_frac {p q lo h n m : Int} (s : Steep p q) (n0 : lo ≤ n) (n1 : n ≤ h) (m0 : lo ≤ m) (m1 : m ≤ h) :
    lawSh p q lo h n m * shD p q (m - n).natAbs = (if m = lo ∨ m = h then tlN p q (m - n).natAbs else shN p q (m - n).natAbs) * shD p q (h - lo).toNat := by
  have e : q ^ (h - lo).toNat = q ^ (h - lo - ((m - n).natAbs : Int)).toNat * q ^ (m - n).natAbs := by
    rw [← Int.pow_add]
    congr 1
    omega
  unfold lawSh shD
  split
  · unfold tlN
    generalize q ^ (h - lo).toNat = a at e ⊢
    generalize q ^ (h - lo - ((m - n).natAbs : Int)).toNat = b at e ⊢
    generalize q ^ (m - n).natAbs = c at e ⊢
    generalize p ^ (m - n).natAbs = d
    grind
  · unfold shN
    generalize q ^ (h - lo).toNat = a at e ⊢
    generalize q ^ (h - lo - ((m - n).natAbs : Int)).toNat = b at e ⊢
    generalize q ^ (m - n).natAbs = c at e ⊢
    generalize p ^ (m - n).natAbs = d
    grind
def sufI (p q lo h n m : Int) : Int := ((rangeI m (h + 1 - m).toNat).map (lawSh p q lo h n)).sum
theorem suf_cons {p q lo h n m : Int} (hm : m ≤ h) : sufI p q lo h n m = lawSh p q lo h n m + sufI p q lo h n (m + 1) := by
  unfold sufI
  have e : (h + 1 - m).toNat = (h + 1 - (m + 1)).toNat + 1 := by omega
  rw [e, rangeI_cons, List.map_cons, List.sum_cons]
theorem suf_end {p q lo h n : Int} : sufI p q lo h n (h + 1) = 0 := by
  unfold sufI
  have e : (h + 1 - (h + 1)).toNat = 0 := by omega
  rw [e]
  rfl
theorem cancel2 {a b x y : Int} (hx : 1 ≤ x) (hy : 1 ≤ y) (h : a * (x * y) = b * (x * y)) : a = b := by
  have : x * y ≠ 0 := by
    have := Int.mul_pos (show 0 < x by omega) (show 0 < y by omega)
    omega
  exact Int.eq_of_mul_eq_mul_right this h
theorem tail_sum {p q lo h n : Int} (s : Steep p q) (n0 : lo ≤ n) (n1 : n ≤ h) : ∀ (k : Nat) (m : Int), lo < m → m ≤ h → (h - m).toNat = k → sufI p q lo h n m * tD p q (m - n) = tN p q (m - n) * shD p q (h - lo).toNat := by
  intro k
  induction k with
  | zero =>
    intro m m0 m1 hk
    have e : m = h := by omega
    subst e
    have f := law_frac s n0 n1 (by omega : lo ≤ m) (Int.le_refl m)
    rw [if_pos (Or.inr rfl)] at f
    rw [suf_cons (Int.le_refl m), suf_end, Int.add_zero]
    have c0 : 0 ≤ m - n := by omega
    have ek : (m - n).natAbs = (m - n).toNat := by omega
    rw [ek] at f
    unfold tN tD
    rw [if_pos c0, if_pos c0]
    exact f
  | succ k ih =>
    intro m m0 m1 hk
    have i := ih (m + 1) (by omega) (by omega) (by omega)
    have f := law_frac s n0 n1 (by omega : lo ≤ m) m1
    rw [if_neg (by omega)] at f
    have t := tl_step s.p1 s.pq (m - n)
    have d1 := shD_pos s.p1 s.pq (m - n).natAbs
    have d2 := tD_pos s.p1 s.pq (m - n + 1)
    rw [suf_cons m1]
    have em : m + 1 - n = m - n + 1 := by omega
    rw [em] at i
    refine cancel2 d1 d2 ?_
    generalize lawSh p q lo h n m = x at f ⊢
    generalize sufI p q lo h n (m + 1) = y at i ⊢
    generalize shD p q (h - lo).toNat = u at f i ⊢
    generalize shD p q (m - n).natAbs = a at f t ⊢
    generalize shN p q (m - n).natAbs = b at f t
    generalize tD p q (m - n + 1) = c at i t ⊢
    generalize tN p q (m - n + 1) = d at i t
    generalize tD p q (m - n) = e at t ⊢
    generalize tN p q (m - n) = g at t ⊢
    grind
theorem whole_sum {p q lo h n : Int} (s : Steep p q) (n0 : lo ≤ n) (n1 : n ≤ h) (lt : lo < h) : sufI p q lo h n lo = shD p q (h - lo).toNat := by
  have f := law_frac s n0 n1 (Int.le_refl lo) (by omega)
  rw [if_pos (Or.inl rfl)] at f
  have t := tail_sum s n0 n1 (h - (lo + 1)).toNat (lo + 1) (by omega) (by omega) rfl
  have d1 := shD_pos s.p1 s.pq (lo - n).natAbs
  have d2 := tD_pos s.p1 s.pq (lo + 1 - n)
  rw [suf_cons (by omega)]
  refine cancel2 d1 d2 ?_
  have key : tlN p q (lo - n).natAbs * tD p q (lo + 1 - n) + tN p q (lo + 1 - n) * shD p q (lo - n).natAbs = shD p q (lo - n).natAbs * tD p q (lo + 1 - n) := by
    unfold tN tD
    by_cases c : 0 ≤ lo + 1 - n
    · rw [if_pos c, if_pos c]
      have : lo - n = 0 ∨ lo - n = -1 := by omega
      rcases this with z | z
      · have e1 : (lo - n).natAbs = 0 := by omega
        have e2 : (lo + 1 - n).toNat = 1 := by omega
        rw [e1, e2]
        unfold tlN shD
        simp only [Int.pow_zero, Int.pow_one]
        grind
      · have e1 : (lo - n).natAbs = 1 := by omega
        have e2 : (lo + 1 - n).toNat = 0 := by omega
        rw [e1, e2]
        unfold tlN shD
        simp only [Int.pow_zero, Int.pow_one]
        grind
    · rw [if_neg c, if_neg c]
      have e1 : (1 - (lo + 1 - n)).toNat = (lo - n).natAbs := by omega
      rw [e1]
      generalize tlN p q (lo - n).natAbs = a
      generalize shD p q (lo - n).natAbs = b
      grind
  generalize lawSh p q lo h n lo = x at f ⊢
  generalize sufI p q lo h n (lo + 1) = y at t ⊢
  generalize shD p q (h - lo).toNat = u at f t ⊢
  generalize shD p q (lo - n).natAbs = a at f key ⊢
  generalize tlN p q (lo - n).natAbs = b at f key
  generalize tD p q (lo + 1 - n) = c at t key ⊢
  generalize tN p q (lo + 1 - n) = d at t key
  grind
/-! ### who says yes at a mark -/
def lowP (c w : Int) : Int × Int := (low1 c w, low2 c w)
theorem lowP_eq {a b c d : Int} (ha : 0 ≤ a) (hb : 1 ≤ b) (hc : 0 ≤ c) (hd : 1 ≤ d) (h : a * d = c * b) : lowP a b = lowP c d := by
  have e := low_eq ha hb hc hd h
  unfold lowP
  rw [e.1, e.2]
theorem lowP_one {w : Int} (h : 1 ≤ w) : lowP w w = (1, 1) := by
  have e := lowP_eq (a := w) (b := w) (c := 1) (d := 1) (by omega) h (by decide) (by decide) (by omega)
  rw [e]
  decide
theorem lowP_zero {w : Int} (h : 1 ≤ w) : lowP 0 w = (0, 1) := by
  have e := lowP_eq (a := 0) (b := w) (c := 0) (d := 1) (by omega) h (by decide) (by decide) (by omega)
  rw [e]
  decide
def aft (p q lo h n m : Int) : Int := ((sharesI p q lo h n).drop (m - lo).toNat).sum
def bef (p q lo h n m : Int) : Int := ((sharesI p q lo h n).take (m - lo).toNat).sum
theorem aft_bef {p q lo h n m : Int} : bef p q lo h n m + aft p q lo h n m = (sharesI p q lo h n).sum := by
  unfold bef aft
  rw [← List.sum_append, List.take_append_drop]
theorem sum_nonneg : ∀ {l : List Int}, (∀ x ∈ l, 1 ≤ x) → 0 ≤ l.sum
  | [], _ => by decide
  | a :: r, h => by
    rw [List.sum_cons]
    have := h a List.mem_cons_self
    have := sum_nonneg fun x hx => h x (List.mem_cons_of_mem _ hx)
    omega
theorem aft_nn {p q lo h n m : Int} (s : Steep p q) : 0 ≤ aft p q lo h n m := sum_nonneg fun x hx => shares_pos s x (List.mem_of_mem_drop hx)
theorem bef_nn {p q lo h n m : Int} (s : Steep p q) : 0 ≤ bef p q lo h n m := sum_nonneg fun x hx => shares_pos s x (List.mem_of_mem_take hx)
theorem shares_sum {p q lo h n : Int} (s : Steep p q) (n0 : lo ≤ n) (n1 : n ≤ h) : (sharesI p q lo h n).sum = botI p q lo h := by
  unfold sharesI botI
  by_cases c : lo = h
  · rw [if_pos c, if_pos c]; rfl
  · rw [if_neg c, if_neg c]
    exact whole_sum s n0 n1 (by omega)
end Mine
namespace Mine
open PySem L2
/-! ### products and sums of fractions over a common bottom -/
theorem add_low {a b w : Int} (ha : 0 ≤ a) (hb : 0 ≤ b) (hw : 1 ≤ w) : addF (lowP a w) (lowP b w) = lowP (a + b) w := by
  have r1 := low_ratio ha hw
  have r2 := low_ratio hb hw
  have n1 := low1_nonneg (b := w) ha
  have n2 := low1_nonneg (b := w) hb
  have p1 := low2_pos (a := a) hw
  have p2 := low2_pos (a := b) hw
  have q1 := Int.mul_nonneg n1 (show 0 ≤ low2 b w by omega)
  have q2 := Int.mul_nonneg n2 (show 0 ≤ low2 a w by omega)
  have q3 := Int.mul_pos (show 0 < low2 a w by omega) (show 0 < low2 b w by omega)
  show lowP (low1 a w * low2 b w + low1 b w * low2 a w) (low2 a w * low2 b w) = _
  refine lowP_eq (by omega) (by omega) (by omega) hw ?_
  generalize low1 a w = x at r1 ⊢
  generalize low2 a w = y at r1 ⊢
  generalize low1 b w = z at r2 ⊢
  generalize low2 b w = v at r2 ⊢
  grind
def prodU : List (Int × Int × Int) → Int
  | [] => 1
  | t :: r => t.2.2 * prodU r
/-- what the law adds at a mark -/
def contrib : Int → List (Int × Int × Int) → List Int
  | l, [] => [l]
  | l, t :: r => l * t.1 * prodU r :: contrib (l * t.2.1) r
structure Tri (t : Int × Int × Int) : Prop where
  a : 0 ≤ t.1
  c : 0 ≤ t.2.1
  s : t.1 + t.2.1 = t.2.2
  u : 1 ≤ t.2.2
theorem prodU_pos : ∀ {ts : List (Int × Int × Int)}, (∀ t ∈ ts, Tri t) → 1 ≤ prodU ts
  | [], _ => by decide
  | t :: r, h => by
    have a := (h t List.mem_cons_self).u
    have b := prodU_pos fun x hx => h x (List.mem_cons_of_mem _ hx)
    show 1 ≤ t.2.2 * prodU r
    have := Int.mul_pos (show 0 < t.2.2 by omega) (show 0 < prodU r by omega)
    omega
/-! ### totals over a common bottom -/
def cntA : (Int → Int) → List (Int × Int) → Int → Int
  | c, [] => c
  | c, e :: r => cntA (fun z => if z = e.1 then c z + e.2 else c z) r
theorem cnt_not : ∀ (c : Int → Int) (es : List (Int × Int)) (y : Int), (∀ e ∈ es, e.1 ≠ y) → cntA c es y = c y
  | c, [], y, _ => rfl
  | c, e :: r, y, h => by
    have h1 : ¬ y = e.1 := fun z => h e List.mem_cons_self z.symm
    show cntA (fun z => if z = e.1 then c z + e.2 else c z) r y = c y
    rw [cnt_not _ r y fun x hx => h x (List.mem_cons_of_mem _ hx)]
    exact if_neg h1
def OkT (w : Int) (T : Int → Option (Int × Int)) (c : Int → Int) : Prop := ∀ y, (T y = none ∧ c y = 0) ∨ T y = some (lowP (c y) w)
theorem OkT.get {w : Int} {T : Int → Option (Int × Int)} {c : Int → Int} (hw : 1 ≤ w) (h : OkT w T c) (y : Int) : (T y).getD (0, 1) = lowP (c y) w := by
  rcases h y with ⟨e1, e2⟩ | e
  · rw [e1, e2, lowP_zero hw]; rfl
  · rw [e]; rfl
theorem OkT.step {w : Int} {T : Int → Option (Int × Int)} {c : Int → Int} (hw : 1 ≤ w) (hc : ∀ y, 0 ≤ c y) (h : OkT w T c) {k v : Int} (hv : 0 ≤ v) : OkT w (stepT T (k, lowP v w)) (fun z => if z = k then c z + v else c z) := by
  intro y
  unfold stepT
  by_cases e : y = k
  · refine .inr ?_
    simp only [e, if_true]
    rw [h.get hw k, add_low (hc k) hv hw]
  · simp only [e, if_false]
    exact h y
theorem tot_low {w : Int} (hw : 1 ≤ w) : ∀ (es : List (Int × Int)) (T : Int → Option (Int × Int)) (c : Int → Int), (∀ y, 0 ≤ c y) → (∀ e ∈ es, 0 ≤ e.2) → OkT w T c → OkT w ((es.map fun e => ((e.1, lowP e.2 w) : Int × Int × Int)).foldl stepT T) (cntA c es)
  | [], T, c, _, _, h => h
  | e :: r, T, c, hc, he, h => by
    simp only [List.map_cons, List.foldl_cons]
    have h1 := he e List.mem_cons_self
    exact tot_low hw r _ _ (fun z => by have := hc z; split <;> omega) (fun x hx => he x (List.mem_cons_of_mem _ hx)) (h.step hw hc h1)
/-- the table of totals -/
theorem tot_table {w : Int} (hw : 1 ≤ w) {es : List (Int × Int)} (he : ∀ e ∈ es, 0 ≤ e.2) {m : Nat} (hk : ∀ e ∈ es, 0 ≤ e.1 ∧ e.1 < m) {ks : List Int} (hr : ks.Pairwise (· < ·)) (hm : ∀ k, k ∈ ks ↔ ∃ u, totF (es.map fun e => (e.1, lowP e.2 w)) k = some u ∧ u ≠ (0, 1)) :
    tabOf (totF (es.map fun e => (e.1, lowP e.2 w))) ks = tabZ w 0 ((rangeI 0 m).map (cntA (fun _ => 0) es)) := by
  have tt : OkT w (totF (es.map fun e => (e.1, lowP e.2 w))) (cntA (fun _ => 0) es) := tot_low hw es (fun _ => none) (fun _ => 0) (fun _ => Int.le_refl _) he (fun _ => .inl ⟨rfl, rfl⟩)
  have nn : ∀ (l : List (Int × Int)) (c : Int → Int), (∀ y, 0 ≤ c y) → (∀ e ∈ l, 0 ≤ e.2) → ∀ y, 0 ≤ cntA c l y := by
    intro l
    induction l with
    | nil => intro c h _ y; exact h y
    | cons e r ih =>
      intro c h he y
      have := he e List.mem_cons_self
      exact ih _ (fun z => by have := h z; split <;> omega) (fun x hx => he x (List.mem_cons_of_mem _ hx)) y
  have c0 := nn es (fun _ => 0) (fun _ => Int.le_refl _) he
  generalize hT : totF (es.map fun e => (e.1, lowP e.2 w)) = T at tt hm ⊢
  have inr : ∀ k, cntA (fun _ => 0) es k ≠ 0 → 0 ≤ k ∧ k < m := fun k hk' => by
    by_cases q : ∃ e ∈ es, e.1 = k
    · obtain ⟨e, he', rfl⟩ := q
      exact hk e he'
    · exact absurd (cnt_not (fun _ => 0) es k fun e he' z => q ⟨e, he', z⟩) hk'
  generalize cntA (fun _ => 0) es = c at tt c0 inr ⊢
  have ne : ∀ a, 0 < a → lowP a w ≠ (0, 1) := fun a ha z => by
    have q1 : low1 a w = 0 := congrArg Prod.fst z
    have := low1_pos (S := a) (P := w) (by omega) hw
    omega
  have ek : ks = (rangeI 0 m).filter fun y => decide (0 < c y) := by
    refine rise_ext hr ((range_rise 0 _).sublist List.filter_sublist) fun k => ?_
    rw [hm k, List.mem_filter, mem_rangeI, decide_eq_true_eq]
    have ck := c0 k
    constructor
    · rintro ⟨u, e1, e2⟩
      rcases tt k with ⟨z, _⟩ | z
      · rw [z] at e1; cases e1
      · rw [z] at e1
        cases e1
        by_cases q : c k = 0
        · rw [q, lowP_zero hw] at e2
          exact absurd rfl e2
        · have := inr k q
          exact ⟨⟨this.1, by omega⟩, by omega⟩
    · rintro ⟨_, q⟩
      rcases tt k with ⟨_, z⟩ | z
      · omega
      · exact ⟨_, z, ne _ q⟩
  unfold tabOf
  rw [tabZ_map, ek]
  refine List.map_congr_left fun y hy => ?_
  have hy2 : 0 < c y := by
    have := (List.mem_filter.mp hy).2
    exact of_decide_eq_true this
  rcases tt y with ⟨_, z⟩ | z
  · omega
  · rw [z]
    rfl
end Mine
namespace Mine
open PySem L2
/-! ### the cells of a first -/
def tri (pb qb lo h m n : Int) : Int × Int × Int := (aft pb qb lo h n m, bef pb qb lo h n m, botI pb qb lo h)
theorem tri_ok {pb qb lo h m n : Int} (s : Steep pb qb) (n0 : lo ≤ n) (n1 : n ≤ h) (bp : 1 ≤ botI pb qb lo h) : Tri (tri pb qb lo h m n) := by
  have e1 := aft_bef (p := pb) (q := qb) (lo := lo) (h := h) (n := n) (m := m)
  have e2 := shares_sum s n0 n1
  exact ⟨aft_nn s, bef_nn s, by show aft pb qb lo h n m + bef pb qb lo h n m = botI pb qb lo h; omega, bp⟩
theorem prodU_tri {pb qb lo h m : Int} : ∀ ns : List Int, prodU (ns.map (tri pb qb lo h m)) = botI pb qb lo h ^ ns.length
  | [] => by simp [prodU]
  | n :: r => by
    show botI pb qb lo h * prodU (r.map (tri pb qb lo h m)) = _
    rw [prodU_tri r, List.length_cons, Int.pow_succ, Int.mul_comm]
def keyed : Int → List Int → List (Int × Int)
  | _, [] => []
  | k, c :: r => (k, c) :: keyed (k + 1) r
theorem keyed_mem : ∀ {k : Int} {l : List Int} {e : Int × Int}, e ∈ keyed k l → (k ≤ e.1 ∧ e.1 < k + l.length) ∧ e.2 ∈ l
  | k, [], e, h => nomatch h
  | k, a :: r, e, h => by
    rcases List.mem_cons.mp h with z | z
    · subst z
      refine ⟨⟨Int.le_refl _, ?_⟩, List.mem_cons_self⟩
      show k < k + ((r.length + 1 : Nat) : Int)
      omega
    · have := keyed_mem z
      rw [List.length_cons]
      exact ⟨⟨by omega, by omega⟩, List.mem_cons_of_mem _ this.2⟩
theorem keyed_len : ∀ (k : Int) (l : List Int), (keyed k l).length = l.length
  | _, [] => rfl
  | k, a :: r => by simp [keyed, keyed_len (k + 1) r]
theorem contrib_len : ∀ (l : Int) (ts : List (Int × Int × Int)), (contrib l ts).length = ts.length + 1
  | _, [] => rfl
  | l, t :: r => by simp [contrib, contrib_len]
theorem contrib_bd : ∀ (ts : List (Int × Int × Int)) (l : Int), 0 ≤ l → (∀ t ∈ ts, Tri t) → ∀ c ∈ contrib l ts, 0 ≤ c ∧ c ≤ l * prodU ts
  | [], l, hl, _, c, hc => by
    have e : c = l := by simpa [contrib] using hc
    subst e
    exact ⟨hl, by show c ≤ c * 1; omega⟩
  | t :: r, l, hl, h, c, hc => by
    have ht := h t List.mem_cons_self
    have hr : ∀ x ∈ r, Tri x := fun x hx => h x (List.mem_cons_of_mem _ hx)
    have pr := prodU_pos hr
    have q1 := Int.mul_nonneg hl ht.a
    have q2 := Int.mul_nonneg hl ht.c
    have es : l * t.1 + l * t.2.1 = l * t.2.2 := by rw [← Int.mul_add, ht.s]
    have ep : l * prodU (t :: r) = l * t.2.2 * prodU r := by show l * (t.2.2 * prodU r) = _; rw [Int.mul_assoc]
    rw [ep]
    rcases List.mem_cons.mp hc with z | z
    · subst z
      exact ⟨Int.mul_nonneg q1 (by omega), Int.mul_le_mul_of_nonneg_right (by omega) (by omega)⟩
    · have ih := contrib_bd r (l * t.2.1) q2 hr c z
      exact ⟨ih.1, Int.le_trans ih.2 (Int.mul_le_mul_of_nonneg_right (by omega) (by omega))⟩
def cellsM (pa qa pb qb mk : Int) (ns : List Int) (lo hi m : Int) : List (Int × Int) := keyed 0 (contrib (lawSh pa qa lo hi mk m) (ns.map (tri pb qb lo (hi - 1) m)))
def cellsN (pa qa pb qb mk : Int) (ns : List Int) (lo hi : Int) (j : Nat) : List (Int × Int) := (rangeI lo j).flatMap (cellsM pa qa pb qb mk ns lo hi)
theorem cellsN_succ {pa qa pb qb mk : Int} {ns : List Int} {lo hi : Int} (j : Nat) : cellsN pa qa pb qb mk ns lo hi (j + 1) = cellsN pa qa pb qb mk ns lo hi j ++ cellsM pa qa pb qb mk ns lo hi (lo + j) := by
  unfold cellsN
  rw [rangeI_succ, List.flatMap_append]
  simp
def wF (pa qa pb qb lo hi : Int) (k : Nat) : Int := botI pa qa lo hi * botI pb qb lo (hi - 1) ^ k
def lowE (w : Int) (e : Int × Int) : Int × Int × Int := (e.1, lowP e.2 w)
def firstTab (pa qa pb qb mk : Int) (ns : List Int) (lo hi : Int) : List (Int × Int × Int) :=
  tabZ (wF pa qa pb qb lo hi ns.length) 0 ((rangeI 0 (ns.length + 1)).map (cntA (fun _ => 0) (cellsN pa qa pb qb mk ns lo hi (hi + 1 - lo).toNat)))
theorem bot34 {p q lo hi : Int} (s : Steep p q) (a : 0 ≤ lo) (b : lo ≤ hi) (c : hi ≤ 9) : 1 ≤ botI p q lo hi ∧ botI p q lo hi < 2 ^ 34 := by
  obtain ⟨p1, pq, q9⟩ := id s
  unfold botI
  split
  · decide
  · have e1 := shD_pos p1 pq (hi - lo).toNat
    refine ⟨e1, ?_⟩
    have hq := pow_le (p := q) (q := 9) (by omega) q9 (hi - lo).toNat
    have m9 : ∀ j : Nat, j ≤ 9 → (9 : Int) ^ j < 2 ^ 29 := by decide
    have b1 := m9 (hi - lo).toNat (by omega)
    have q0 : 0 < q ^ (hi - lo).toNat := Int.pow_pos (by omega)
    have m := mul_bd (a := q + p) (b := q ^ (hi - lo).toNat) (m := 5) (n := 29) (by omega) (by omega) (by omega) (by omega)
    exact m.2
theorem pow4 {u : Int} (h1 : 1 ≤ u) (h2 : u < 2 ^ 34) : ∀ k : Nat, k ≤ 4 → 1 ≤ u ^ k ∧ u ^ k < 2 ^ 136
  | 0, _ => by rw [Int.pow_zero]; decide
  | 1, _ => by rw [Int.pow_one]; exact ⟨h1, by omega⟩
  | 2, _ => by
    have m := mul_bd (a := u) (b := u) (m := 34) (n := 34) (by omega) h2 (by omega) h2
    have p := Int.mul_pos (show 0 < u by omega) (show 0 < u by omega)
    have e : u ^ 2 = u * u := by rw [Int.pow_succ, Int.pow_one]
    rw [e]; exact ⟨by omega, Int.lt_trans m.2 (by decide)⟩
  | 3, _ => by
    have i := pow4 h1 h2 2 (by decide)
    have m2 := mul_bd (a := u) (b := u) (m := 34) (n := 34) (by omega) h2 (by omega) h2
    have m := mul_bd (a := u * u) (b := u) (m := 68) (n := 34) m2.1 m2.2 (by omega) h2
    have p := Int.mul_pos (Int.mul_pos (show 0 < u by omega) (show 0 < u by omega)) (show 0 < u by omega)
    have e : u ^ 3 = u * u * u := by rw [Int.pow_succ, Int.pow_succ, Int.pow_one]
    rw [e]; exact ⟨by omega, Int.lt_trans m.2 (by decide)⟩
  | 4, _ => by
    have m2 := mul_bd (a := u) (b := u) (m := 34) (n := 34) (by omega) h2 (by omega) h2
    have m3 := mul_bd (a := u * u) (b := u) (m := 68) (n := 34) m2.1 m2.2 (by omega) h2
    have m := mul_bd (a := u * u * u) (b := u) (m := 102) (n := 34) m3.1 m3.2 (by omega) h2
    have p := Int.mul_pos (Int.mul_pos (Int.mul_pos (show 0 < u by omega) (show 0 < u by omega)) (show 0 < u by omega)) (show 0 < u by omega)
    have e : u ^ 4 = u * u * u * u := by rw [Int.pow_succ, Int.pow_succ, Int.pow_succ, Int.pow_one]
    rw [e]; exact ⟨by omega, m.2⟩
structure Ends1 (lo hi : Int) : Prop where
  a : 0 ≤ lo
  b : lo + 1 ≤ hi
  c : hi ≤ 9
theorem wF_bd {pa qa pb qb lo hi : Int} {k : Nat} (sa : Steep pa qa) (sb : Steep pb qb) (e : Ends1 lo hi) (hk : k ≤ 4) : 1 ≤ wF pa qa pb qb lo hi k ∧ wF pa qa pb qb lo hi k < 2 ^ 170 := by
  have e1 := bot34 sa e.a (show lo ≤ hi by have := e.b; omega) e.c
  have e2 := bot34 (lo := lo) (hi := hi - 1) sb e.a (by have := e.b; omega) (by have := e.c; omega)
  have e3 := pow4 e2.1 e2.2 k hk
  unfold wF
  have m := mul_bd (a := botI pa qa lo hi) (b := botI pb qb lo (hi - 1) ^ k) (m := 34) (n := 136) (by omega) e1.2 (by omega) e3.2
  have p := Int.mul_pos (show 0 < botI pa qa lo hi by omega) (show 0 < botI pb qb lo (hi - 1) ^ k by omega)
  exact ⟨by omega, m.2⟩
theorem sh_le_bot {p q lo hi n y : Int} (s : Steep p q) (n0 : lo ≤ n) (n1 : n ≤ hi) (lt : lo < hi) (y0 : lo ≤ y) (y1 : y ≤ hi) : lawSh p q lo hi n y ≤ botI p q lo hi := by
  rw [← shares_sum s n0 n1]
  have hm : lawSh p q lo hi n y ∈ sharesI p q lo hi n := by
    unfold sharesI
    rw [if_neg (by omega)]
    exact List.mem_map.mpr ⟨y, mem_rangeI.mpr ⟨y0, by omega⟩, rfl⟩
  have pos := shares_pos (lo := lo) (hi := hi) (n := n) s
  have gen : ∀ (l : List Int), (∀ x ∈ l, 1 ≤ x) → ∀ z ∈ l, z ≤ l.sum := by
    intro l
    induction l with
    | nil => intro _ z hz; cases hz
    | cons a r ih =>
      intro h z hz
      have hs := sum_nonneg fun x hx => h x (List.mem_cons_of_mem _ hx)
      have ha := h a List.mem_cons_self
      rw [List.sum_cons]
      rcases List.mem_cons.mp hz with e | e
      · subst e; omega
      · have := ih (fun x hx => h x (List.mem_cons_of_mem _ hx)) z e
        omega
  exact gen _ pos _ hm
structure InF (pa qa pb qb mk : Int) (ns : List Int) (lo hi : Int) : Prop where
  sa : Steep pa qa
  sb : Steep pb qb
  en : Ends1 lo hi
  m0 : lo ≤ mk
  m1 : mk ≤ hi
  nn : ∀ n ∈ ns, lo ≤ n ∧ n ≤ hi - 1
  l1 : 1 ≤ ns.length
  l4 : ns.length ≤ 4
theorem InF.tris {pa qa pb qb mk : Int} {ns : List Int} {lo hi m : Int} (F : InF pa qa pb qb mk ns lo hi) : ∀ t ∈ ns.map (tri pb qb lo (hi - 1) m), Tri t := fun t ht => by
  obtain ⟨n, hn, rfl⟩ := List.mem_map.mp ht
  have e := F.en
  have e2 := bot34 (lo := lo) (hi := hi - 1) F.sb e.a (by have := e.b; omega) (by have := e.c; omega)
  exact tri_ok F.sb (F.nn n hn).1 (F.nn n hn).2 e2.1
theorem InF.cells {pa qa pb qb mk : Int} {ns : List Int} {lo hi : Int} (F : InF pa qa pb qb mk ns lo hi) : ∀ e ∈ cellsN pa qa pb qb mk ns lo hi (hi + 1 - lo).toNat, (0 ≤ e.1 ∧ e.1 < ((ns.length + 1 : Nat) : Int)) ∧ 0 ≤ e.2 ∧ e.2 ≤ wF pa qa pb qb lo hi ns.length := fun e he => by
  obtain ⟨m, hm, hc⟩ := List.mem_flatMap.mp he
  have hm := mem_rangeI.mp hm
  have en := F.en
  have := en.b
  obtain ⟨⟨k0, k1⟩, hv⟩ := keyed_mem hc
  have l0 := law_nn (lo := lo) (hi := hi) (n := mk) (y := m) F.sa
  have bd := contrib_bd _ _ (by omega) F.tris _ hv
  rw [contrib_len, List.length_map] at k1
  rw [prodU_tri] at bd
  have le := sh_le_bot F.sa F.m0 F.m1 (by omega) hm.1 (by omega)
  have e2 := bot34 (lo := lo) (hi := hi - 1) F.sb en.a (by omega) (by have := en.c; omega)
  have e3 := pow4 e2.1 e2.2 ns.length F.l4
  refine ⟨⟨k0, by omega⟩, bd.1, Int.le_trans bd.2 ?_⟩
  unfold wF
  exact Int.mul_le_mul_of_nonneg_right le (by omega)
theorem cells_len {pa qa pb qb mk : Int} {ns : List Int} {lo hi : Int} : ∀ j : Nat, (cellsN pa qa pb qb mk ns lo hi j).length = j * (ns.length + 1)
  | 0 => by simp [cellsN, rangeI]
  | j + 1 => by
    rw [cellsN_succ, List.length_append, cells_len j]
    unfold cellsM
    rw [keyed_len, contrib_len, List.length_map, Nat.succ_mul]
theorem InF.len {pa qa pb qb mk : Int} {ns : List Int} {lo hi : Int} (F : InF pa qa pb qb mk ns lo hi) : (cellsN pa qa pb qb mk ns lo hi (hi + 1 - lo).toNat).length ≤ 50 := by
  rw [cells_len]
  have a : (hi + 1 - lo).toNat ≤ 10 := by have := F.en.a; have := F.en.c; omega
  have b : ns.length + 1 ≤ 5 := by have := F.l4; omega
  exact Nat.mul_le_mul a b
theorem InF.table {pa qa pb qb mk : Int} {ns : List Int} {lo hi : Int} (F : InF pa qa pb qb mk ns lo hi) {ks : List Int} (hr : ks.Pairwise (· < ·)) (hm : ∀ k, k ∈ ks ↔ ∃ u, totF ((cellsN pa qa pb qb mk ns lo hi (hi + 1 - lo).toNat).map (lowE (wF pa qa pb qb lo hi ns.length))) k = some u ∧ u ≠ (0, 1)) :
    tabOf (totF ((cellsN pa qa pb qb mk ns lo hi (hi + 1 - lo).toNat).map (lowE (wF pa qa pb qb lo hi ns.length)))) ks = firstTab pa qa pb qb mk ns lo hi :=
  tot_table (wF_bd F.sa F.sb F.en F.l4).1 (fun e he => (F.cells e he).2.1) (fun e he => (F.cells e he).1) hr hm
end Mine
namespace Mine
open PySem L2
/-! ### answers: a whole number, or a tuple of them; tables of answers -/
abbrev En := List Int × Int × Int
def AnV : Bool → Hp → V → List Int → Prop
  | true, H, v, a => ∃ p, v = .ref p ∧ H p = some (.tup (a.map V.int))
  | false, _, v, a => ∃ n, a = [n] ∧ v = .int n
theorem AnV.ts {H H' : Hp} (t : TS H H') : ∀ {b : Bool} {v : V} {a : List Int}, AnV b H v a → AnV b H' v a
  | true, _, _, ⟨p, e, h⟩ => ⟨p, e, t _ _ h⟩
  | false, _, _, h => h
def EnA (b : Bool) (H : Hp) (v : V) (e : En) : Prop := ∃ p x q, v = .ref p ∧ H p = some (.tup [x, .ref q]) ∧ AnV b H x e.1 ∧ TupAt H q e.2.1 e.2.2
theorem EnA.ts {H H' : Hp} (t : TS H H') {b : Bool} {v : V} {e : En} (h : EnA b H v e) : EnA b H' v e :=
  let ⟨p, x, q, e1, h1, h2, h3⟩ := h; ⟨p, x, q, e1, t _ _ h1, h2.ts t, t _ _ h3⟩
def TabA (b : Bool) (H : Hp) (t : Addr) (es : List En) : Prop := ∃ us, H t = some (.tup us) ∧ Two (EnA b H) us es
theorem TabA.ts {H H' : Hp} (s : TS H H') {b : Bool} {t : Addr} {es : List En} (h : TabA b H t es) : TabA b H' t es :=
  let ⟨us, h1, h2⟩ := h; ⟨us, s _ _ h1, h2.mono fun _ _ z => z.ts s⟩
def getA (es : List En) (a : List Int) : Option (Int × Int) := (es.find? fun e => decide (e.1 = a)).map (·.2)
theorem getA_pos {e : En} {r : List En} {a : List Int} (h : e.1 = a) : getA (e :: r) a = some e.2 := by simp [getA, List.find?_cons, h]
theorem getA_neg {e : En} {r : List En} {a : List Int} (h : ¬ e.1 = a) : getA (e :: r) a = getA r a := by simp [getA, List.find?_cons, h]
theorem getA_mem : ∀ {es : List En} {a : List Int} {s : Int × Int}, getA es a = some s → (a, s) ∈ es
  | [], _, _, h => by cases h
  | e :: r, a, s, h => by
    by_cases c : e.1 = a
    · rw [getA_pos c] at h
      cases h
      rw [← c]
      exact List.mem_cons_self
    · rw [getA_neg c] at h
      exact List.mem_cons_of_mem _ (getA_mem h)
theorem getA_self : ∀ {es : List En}, (es.map (·.1)).Nodup → ∀ e ∈ es, getA es e.1 = some e.2
  | [], _, e, h => absurd h List.not_mem_nil
  | x :: r, nd, e, h => by
    rw [List.map_cons, List.nodup_cons] at nd
    rcases List.mem_cons.mp h with rfl | h
    · exact getA_pos rfl
    · rw [getA_neg fun z => nd.1 (z ▸ List.mem_map_of_mem h)]
      exact getA_self nd.2 e h
def OptR (H : Hp) : Option V → Option (Int × Int) → Prop
  | none, none => True
  | some v, some f => FrR H v f
  | _, _ => False
theorem OptR.ts {H H' : Hp} (t : TS H H') : ∀ {o : Option V} {f : Option (Int × Int)}, OptR H o f → OptR H' o f
  | none, none, _ => trivial
  | some _, some _, h => FrR.ts t h
  | none, some _, h => h
  | some _, none, h => h
def DicA : Bool → Hp → Addr → List En → Prop
  | false, H, d, es => ∃ kvs : List (Key × V), H d = some (.dK kvs) ∧ ∀ n : Int, OptR H (valV kvs (Sum.inl n)) (getA es [n])
  | true, H, d, es => ∃ kvs : List (List Key × V), H d = some (.dT kvs) ∧ ∀ ns : List Int, OptR H (valV kvs (ns.map Sum.inl)) (getA es ns)
theorem DicA.same {H H' : Hp} (s : Same H H') : ∀ {b : Bool} {d : Addr} {es : List En}, DicA b H d es → DicA b H' d es
  | false, _, _, ⟨kvs, h, k⟩ => ⟨kvs, s _ _ h, fun n => (k n).ts (.of s)⟩
  | true, _, _, ⟨kvs, h, k⟩ => ⟨kvs, s _ _ h, fun n => (k n).ts (.of s)⟩
/-- what is at other addresses than the dict's may change, but for tuples -/
theorem DicA.keep {H H' : Hp} (s : TS H H') {d : Addr} (hd : ∀ o, H d = some o → H' d = some o) : ∀ {b : Bool} {es : List En}, DicA b H d es → DicA b H' d es
  | false, _, ⟨kvs, h, k⟩ => ⟨kvs, hd _ h, fun n => (k n).ts s⟩
  | true, _, ⟨kvs, h, k⟩ => ⟨kvs, hd _ h, fun n => (k n).ts s⟩
theorem map_kV (ns : List Int) : (ns.map Sum.inl : List Key).map kV = ns.map V.int := by
  rw [List.map_map]
  rfl
theorem DicA.get {H : Hp} : ∀ {b : Bool} {d : Addr} {es : List En} {v : V} {a : List Int}, DicA b H d es → AnV b H v a → ∃ o, DGet H d v o ∧ OptR H o (getA es a)
  | false, d, es, _, _, ⟨kvs, h, k⟩, ⟨n, rfl, rfl⟩ => ⟨_, DGet.k (k := (Sum.inl n : Key)) h, k n⟩
  | true, d, es, _, a, ⟨kvs, h, k⟩, ⟨p, rfl, hp⟩ => ⟨_, DGet.t (k := a.map Sum.inl) h (by rw [map_kV]; exact hp), k a⟩
theorem DicA.isD {H : Hp} : ∀ {b : Bool} {d : Addr} {es : List En}, DicA b H d es → IsD H d
  | false, d, es, ⟨kvs, h, k⟩ => .inl ⟨kvs, .inl h⟩
  | true, d, es, ⟨kvs, h, k⟩ => .inr ⟨kvs, .inl h⟩
/-! dict(table) -/
theorem val_fold {κ : Type} [DecidableEq κ] : ∀ (ps m : List (κ × V)) (k : κ), (ps.map (·.1)).Nodup → valV (ps.foldl (fun m p => putK m p.1 p.2) m) k = (valV ps k).or (valV m k)
  | [], m, k, _ => rfl
  | p :: r, m, k, nd => by
    rw [List.map_cons, List.nodup_cons] at nd
    rw [List.foldl_cons, val_fold r _ k nd.2, valV_put]
    by_cases c : p.1 = k
    · rw [valV_pos c, if_pos c.symm]
      have e : valV r k = none := by
        cases h : valV r k with
        | none => rfl
        | some v => exact absurd (valV_in h) (c ▸ nd.1)
      rw [e]
      rfl
    · rw [valV_neg c, if_neg fun z => c z.symm]
theorem len_fold {κ : Type} [DecidableEq κ] : ∀ (ps m : List (κ × V)), (ps.foldl (fun m p => putK m p.1 p.2) m).length ≤ m.length + ps.length
  | [], m => Nat.le_refl _
  | p :: r, m => by
    rw [List.foldl_cons, List.length_cons]
    have := len_fold r (putK m p.1 p.2)
    have := length_putK m p.1 p.2
    omega
theorem two_pairs {b : Bool} {H : Hp} : ∀ {us : List V} {es : List En}, Two (EnA b H) us es → ∃ ps : List (V × V), ps.length = us.length ∧ (∀ (i : Nat) (p : V × V), ps[i]? = some p → ∃ t e, us[i]? = some (.ref t) ∧ H t = some (.tup [p.1, p.2]) ∧ es[i]? = some e ∧ AnV b H p.1 e.1 ∧ FrR H p.2 e.2)
  | [], [], _ => ⟨[], rfl, fun i p h => by cases h⟩
  | u :: us, e :: es, ⟨⟨t, x, q, e1, h1, h2, h3⟩, r⟩ => by
    obtain ⟨ps, hl, hp⟩ := two_pairs r
    refine ⟨(x, .ref q) :: ps, by rw [List.length_cons, List.length_cons, hl], fun i p h => ?_⟩
    cases i with
    | zero => cases h; exact ⟨t, e, by rw [e1]; rfl, h1, rfl, h2, q, rfl, h3⟩
    | succ i => exact hp i p (by simpa using h)
  | [], _ :: _, z => z.elim
  | _ :: _, [], z => z.elim
theorem val_pairs {κ : Type} [DecidableEq κ] {H : Hp} {f : V → κ} {g : List Int → κ} {a : List Int} : ∀ {ps : List (V × V)} {es : List En}, ps.length = es.length → (∀ (i : Nat) (p : V × V) (e : En), ps[i]? = some p → es[i]? = some e → f p.1 = g e.1 ∧ (g e.1 = g a → e.1 = a) ∧ FrR H p.2 e.2) →
    OptR H (valV (ps.map fun p => (f p.1, p.2)) (g a)) (getA es a)
  | [], [], _, _ => trivial
  | p :: ps, e :: es, hl, h => by
    obtain ⟨h1, h2, h3⟩ := h 0 p e rfl rfl
    rw [List.map_cons]
    by_cases c : e.1 = a
    · rw [valV_pos (by show f p.1 = g a; rw [h1, c]), getA_pos c]
      exact h3
    · rw [valV_neg (fun z => c (h2 (h1.symm.trans z))), getA_neg c]
      exact val_pairs (by simpa using hl) fun i p e hp he => h (i + 1) p e (by simpa using hp) (by simpa using he)
  | [], _ :: _, z, _ => by cases z
  | _ :: _, [], z, _ => by cases z
theorem nodup_keys {κ : Type} {f : V → κ} {g : List Int → κ} : ∀ {ps : List (V × V)} {es : List En}, ps.length = es.length → (∀ (i : Nat) (p : V × V) (e : En), ps[i]? = some p → es[i]? = some e → f p.1 = g e.1) → (∀ x ∈ es, ∀ y ∈ es, g x.1 = g y.1 → x.1 = y.1) → (es.map (·.1)).Nodup → ((ps.map fun p => (f p.1, p.2)).map (·.1)).Nodup
  | [], [], _, _, _, _ => List.nodup_nil
  | p :: ps, e :: es, hl, h, gi, nd => by
    rw [List.map_cons, List.map_cons, List.nodup_cons]
    rw [List.map_cons, List.nodup_cons] at nd
    refine ⟨fun z => ?_, nodup_keys (by simpa using hl) (fun i p e hp he => h (i + 1) p e (by simpa using hp) (by simpa using he)) (fun x hx y hy => gi x (List.mem_cons_of_mem _ hx) y (List.mem_cons_of_mem _ hy)) nd.2⟩
    obtain ⟨q, hq, eq⟩ := List.mem_map.mp z
    obtain ⟨p', hp', ep⟩ := List.mem_map.mp hq
    obtain ⟨i, hi, ei⟩ := List.mem_iff_getElem.mp hp'
    have hi' : i < es.length := by simp at hl; omega
    have k1 := h (i + 1) p' es[i] (by simp [← ei]) (by simp)
    have k0 := h 0 p e rfl rfl
    subst ep
    have k2 : f p'.1 = f p.1 := eq
    have := gi es[i] (List.mem_cons_of_mem _ (List.getElem_mem hi')) e List.mem_cons_self (by rw [← k1, k2, k0])
    exact nd.1 (this ▸ List.mem_map_of_mem (List.getElem_mem hi'))
  | [], _ :: _, z, _, _, _ => by cases z
  | _ :: _, [], z, _, _, _ => by cases z
def keyI : V → Key
  | .int n => Sum.inl n
  | _ => Sum.inl 0
theorem dict_ok {H : Hp} {us : List V} {es : List En} (hz : us.length < sizeLine) (nd : (es.map (·.1)).Nodup) : ∀ {b : Bool}, Two (EnA b H) us es →
    ∃ o : Nat → HO, (o 0 = .dK [] ∨ o 0 = .dT []) ∧ ∀ d, H d = none → DChain H d us o ∧ DicA b (upd H d (o us.length)) d es ∧ Same H (upd H d (o us.length))
  | false, tw => by
    obtain ⟨ps, hl, hp⟩ := two_pairs tw
    have le : ps.length = es.length := hl.trans tw.length
    refine ⟨fun i => .dK (((ps.take i).map fun p => (keyI p.1, p.2)).foldl (fun m p => putK m p.1 p.2) []), .inl rfl, fun d hd => ⟨fun i hi => ?_, ?_, same_new hd _⟩⟩
    · have hi' : i < ps.length := by omega
      obtain ⟨t, e, h1, h2, h3, ⟨n, h4, h5⟩, h6⟩ := hp i ps[i] (List.getElem?_eq_getElem hi')
      refine ⟨t, ps[i].1, ps[i].2, h1, h2, ?_⟩
      have lf := len_fold ((ps.take i).map fun p => (keyI p.1, p.2)) []
      rw [List.length_map, List.length_take] at lf
      have := DPut.k (k := (Sum.inl n : Key)) (v := ps[i].2) (H := upd H d (.dK (((ps.take i).map fun p => (keyI p.1, p.2)).foldl (fun m p => putK m p.1 p.2) []))) (a := d) upd_same (by rw [List.length_nil] at lf; omega)
      rw [upd_upd] at this
      dsimp only
      rw [take_snoc (List.getElem?_eq_getElem hi'), List.map_append, List.foldl_append]
      show DPut _ d ps[i].1 ps[i].2 (upd H d (.dK (putK _ (keyI ps[i].1) ps[i].2)))
      rw [h5]
      exact this
    · refine ⟨_, upd_same, fun n => ?_⟩
      rw [show us.length = ps.length from hl.symm, List.take_length, val_fold _ _ _ (nodup_keys (g := fun a => (Sum.inl (a.headD 0) : Key)) le (fun i p e h h' => ?_) (fun x hx y hy z => ?_) nd), show valV ([] : List (Key × V)) (Sum.inl n) = none from rfl, Option.or_none]
      · refine OptR.ts (.of (same_new hd _)) (val_pairs (g := fun a => (Sum.inl (a.headD 0) : Key)) (a := [n]) le fun i p e h h' => ?_)
        obtain ⟨t, e', h1, h2, h3, ⟨m, h4, h5⟩, h6⟩ := hp i p h
        rw [h'] at h3
        cases h3
        refine ⟨by rw [h5, h4]; rfl, fun z => ?_, h6⟩
        rw [h4] at z ⊢
        have z : (Sum.inl m : Key) = Sum.inl n := z
        rw [Sum.inl.inj z]
      · obtain ⟨t, e', h1, h2, h3, ⟨m, h4, h5⟩, h6⟩ := hp i p h
        rw [h'] at h3
        cases h3
        rw [h5, h4]
        rfl
      · obtain ⟨i, hi, ei⟩ := List.mem_iff_getElem.mp hx
        obtain ⟨j, hj, ej⟩ := List.mem_iff_getElem.mp hy
        obtain ⟨t, e', h1, h2, h3, ⟨m, h4, h5⟩, h6⟩ := hp i (ps[i]'(by omega)) (List.getElem?_eq_getElem (by omega))
        obtain ⟨t, e'', _, _, h3', ⟨m', h4', _⟩, _⟩ := hp j (ps[j]'(by omega)) (List.getElem?_eq_getElem (by omega))
        rw [List.getElem?_eq_getElem hi, ei] at h3
        rw [List.getElem?_eq_getElem hj, ej] at h3'
        cases h3
        cases h3'
        rw [h4, h4'] at z ⊢
        have z : (Sum.inl m : Key) = Sum.inl m' := z
        rw [Sum.inl.inj z]
  | true, tw => by
    obtain ⟨ps, hl, hp⟩ := two_pairs tw
    have le : ps.length = es.length := hl.trans tw.length
    have ex : ∃ qs : List (List Key × V), qs.length = ps.length ∧ ∀ (i : Nat) (p : V × V) (e : En), ps[i]? = some p → es[i]? = some e → qs[i]? = some (e.1.map Sum.inl, p.2) :=
      ⟨(ps.zip es).map fun z => (z.2.1.map Sum.inl, z.1.2), by rw [List.length_map, List.length_zip]; omega, fun i p e h1 h2 => by
        rw [List.getElem?_map, (List.getElem?_zip_eq_some (z := (p, e))).mpr ⟨h1, h2⟩]; rfl⟩
    obtain ⟨qs, hq, hqi⟩ := ex
    have inj : ∀ x y : List Int, (x.map Sum.inl : List Key) = y.map Sum.inl → x = y := fun x y z => (List.map_inj_right (fun a b h => Sum.inl.inj h)).mp z
    have qnd : (qs.map (·.1)).Nodup ∧ ∀ a, OptR H (valV qs (a.map Sum.inl)) (getA es a) := by
      have e : qs = (ps.zip es).map fun z => (z.2.1.map Sum.inl, z.1.2) := by
        apply List.ext_getElem?
        intro i
        by_cases c : i < ps.length
        · rw [hqi i ps[i] (es[i]'(by omega)) (List.getElem?_eq_getElem c) (List.getElem?_eq_getElem (by omega)), List.getElem?_map, (List.getElem?_zip_eq_some (z := (ps[i], es[i]'(by omega)))).mpr ⟨List.getElem?_eq_getElem c, List.getElem?_eq_getElem (by omega)⟩]
          rfl
        · rw [List.getElem?_eq_none (by omega), List.getElem?_eq_none (by rw [List.length_map, List.length_zip]; omega)]
      have e1 : qs.map (·.1) = (es.map (·.1)).map fun a => (a.map Sum.inl : List Key) := by
        apply List.ext_getElem?
        intro i
        by_cases c : i < ps.length
        · rw [List.getElem?_map, hqi i ps[i] (es[i]'(by omega)) (List.getElem?_eq_getElem c) (List.getElem?_eq_getElem (by omega)), List.getElem?_map, List.getElem?_map, List.getElem?_eq_getElem (by omega)]
          rfl
        · rw [List.getElem?_eq_none (by rw [List.length_map]; omega), List.getElem?_eq_none (by rw [List.length_map, List.length_map]; omega)]
      refine ⟨by rw [e1]; exact List.Pairwise.map (S := fun a b : List Key => a ≠ b) (fun a => (a.map Sum.inl : List Key)) (fun x y h z => h (inj x y z)) nd, fun a => ?_⟩
      have : ∀ {rs : List (List Key × V)} {fs : List En}, rs.length = fs.length → (∀ (i : Nat) (r : List Key × V) (f : En), rs[i]? = some r → fs[i]? = some f → r.1 = f.1.map Sum.inl ∧ FrR H r.2 f.2) → OptR H (valV rs (a.map Sum.inl)) (getA fs a) := by
        intro rs
        induction rs with
        | nil => intro fs hl _; cases fs with | nil => trivial | cons _ _ => cases hl
        | cons r rs ih =>
          intro fs hl h
          cases fs with
          | nil => cases hl
          | cons f fs =>
            obtain ⟨h1, h2⟩ := h 0 r f rfl rfl
            by_cases c : f.1 = a
            · rw [valV_pos (by rw [h1, c]), getA_pos c]
              exact h2
            · rw [valV_neg (fun z => c (inj _ _ (h1.symm.trans z))), getA_neg c]
              exact ih (by simpa using hl) fun i r f hr hf => h (i + 1) r f (by simpa using hr) (by simpa using hf)
      refine this (by omega) fun i r f hr hf => ?_
      have ci : i < ps.length := by
        have := (List.getElem?_eq_some_iff.mp hr).1
        omega
      have := hqi i ps[i] f (List.getElem?_eq_getElem ci) hf
      rw [hr] at this
      cases this
      obtain ⟨t, e', _, _, h3, _, h6⟩ := hp i ps[i] (List.getElem?_eq_getElem ci)
      rw [hf] at h3
      cases h3
      exact ⟨rfl, h6⟩
    refine ⟨fun i => .dT ((qs.take i).foldl (fun m p => putK m p.1 p.2) []), .inr rfl, fun d hd => ⟨fun i hi => ?_, ?_, same_new hd _⟩⟩
    · have hi' : i < ps.length := by omega
      obtain ⟨t, e, h1, h2, h3, ⟨p0, h4, h5⟩, h6⟩ := hp i ps[i] (List.getElem?_eq_getElem hi')
      refine ⟨t, ps[i].1, ps[i].2, h1, h2, ?_⟩
      have lf := len_fold (qs.take i) []
      rw [List.length_take] at lf
      have := DPut.t (k := e.1.map Sum.inl) (b := p0) (v := ps[i].2) (H := upd H d (.dT ((qs.take i).foldl (fun m p => putK m p.1 p.2) []))) (a := d) upd_same (by rw [map_kV, upd_ne (ne_of_none h5 hd)]; exact h5) (by rw [List.length_nil] at lf; omega)
      rw [upd_upd] at this
      dsimp only
      rw [take_snoc (hqi i _ _ (List.getElem?_eq_getElem hi') h3), List.foldl_append, h4]
      exact this
    · refine ⟨_, upd_same, fun a => ?_⟩
      rw [show us.length = qs.length by omega, List.take_length, val_fold _ _ _ qnd.1, show valV ([] : List (List Key × V)) (a.map Sum.inl) = none from rfl, Option.or_none]
      exact OptR.ts (.of (same_new hd _)) (qnd.2 a)
end Mine
namespace Mine
open PySem L2
/-! ### what is above, by how much, and the greatest quotient -/
def shA (es : List En) (a : List Int) : Int × Int := (getA es a).getD (0, 1)
def limF (f s : Int × Int) : Int × Int := lowP (f.1 * s.1) (f.2 * s.2)
def subG (s l : Int × Int) : Int × Int := lowP (s.1 * l.2 - l.1 * s.2) (s.2 * l.2)
def quoF (s t : Int × Int) : Int × Int := lowP (s.1 * t.2) (s.2 * t.1)
def ltF (u v : Int × Int) : Bool := decide (u.1 * v.2 < v.1 * u.2)
def abv (es2 : List En) (f : Int × Int) (e : En) : Bool := ltF (limF f (shA es2 e.1)) e.2
def restL (es2 : List En) (f : Int × Int) (es1 : List En) : List (Int × Int) := (es1.filter (abv es2 f)).map fun e => subG e.2 (limF f (shA es2 e.1))
def restF (es2 : List En) (f : Int × Int) (es1 : List En) : Int × Int := (restL es2 f es1).foldl addF (0, 1)
def brkA (es2 : List En) (f : Int × Int) (es1 : List En) : List (List Int) := (es1.filter (abv es2 f)).map (·.1)
def facF (es2 : List En) : List En → Int × Int → Option (Int × Int)
  | [], g => some g
  | e :: r, g => match getA es2 e.1 with
    | none => none
    | some t => facF es2 r (if ltF g (quoF e.2 t) then quoF e.2 t else g)
def grStep (es2 : List En) (g : Int × Int) (e : En) : Int × Int := if (shA es2 e.1).1 = 0 then g else if ltF g (e.2.1 * (shA es2 e.1).2, e.2.2 * (shA es2 e.1).1) then quoF e.2 (shA es2 e.1) else g
def lacks (es2 es1 : List En) : Bool := es1.any fun e => decide ((shA es2 e.1).1 = 0)
def AnOk (a : List Int) : Prop := a.length ≤ 5 ∧ ∀ n ∈ a, Below n
structure ShOk (s : Int × Int) : Prop where
  a : 0 ≤ s.1
  a2 : s.1 < 2 ^ 37
  b : 1 ≤ s.2
  b2 : s.2 < 2 ^ 37
structure FacOk (f : Int × Int) : Prop where
  a : 0 ≤ f.1
  a2 : f.1 < 2 ^ 40
  b : 1 ≤ f.2
  b2 : f.2 < 2 ^ 40
/-- the shares are parts of one number -/
def Over (c : Int) (es : List En) : Prop := ∀ e ∈ es, ∃ w, 1 ≤ w ∧ w ≤ c ∧ e.2 = lowP w c
structure TabOk (c : Int) (es : List En) : Prop where
  nd : (es.map (·.1)).Nodup
  l1 : 1 ≤ es.length
  l2 : es.length ≤ 12
  c1 : 1 ≤ c
  c2 : c < 2 ^ 37
  sh : Over c es
  an : ∀ e ∈ es, AnOk e.1
theorem mulN {a b A B : Int} (a0 : 0 ≤ a) (a1 : a < A) (b0 : 0 ≤ b) (b1 : b < B) : 0 ≤ a * b ∧ a * b < A * B := by
  refine ⟨Int.mul_nonneg a0 b0, ?_⟩
  exact Int.lt_of_le_of_lt (Int.mul_le_mul_of_nonneg_left (Int.le_of_lt b1) a0) (Int.mul_lt_mul_of_pos_right a1 (by omega))
theorem pos_mul {a b : Int} (ha : 1 ≤ a) (hb : 1 ≤ b) : 1 ≤ a * b := Int.mul_pos (by omega : 0 < a) (by omega : 0 < b)
theorem lowP_bd {a b N : Int} (ha : 0 ≤ a) (h1 : a < N) (hb : 1 ≤ b) (h2 : b < N) : 0 ≤ (lowP a b).1 ∧ (lowP a b).1 < N ∧ 1 ≤ (lowP a b).2 ∧ (lowP a b).2 < N :=
  ⟨low1_nonneg ha, Int.lt_of_le_of_lt (low1_le ha hb) h1, low2_pos hb, Int.lt_of_le_of_lt (low2_le hb) h2⟩
theorem lowP_ratio {a b : Int} (ha : 0 ≤ a) (hb : 1 ≤ b) : (lowP a b).1 * b = a * (lowP a b).2 := low_ratio ha hb
theorem share_ok {w c : Int} (hw : 0 ≤ w) (h1 : w ≤ c) (c1 : 1 ≤ c) (c2 : c < 2 ^ 37) : ShOk (lowP w c) := by
  have := lowP_bd (N := 2 ^ 37) hw (by omega) c1 c2
  exact ⟨this.1, this.2.1, this.2.2.1, this.2.2.2⟩
theorem TabOk.at {c : Int} {es : List En} (T : TabOk c es) {e : En} (h : e ∈ es) : ShOk e.2 ∧ 1 ≤ e.2.1 := by
  obtain ⟨w, w1, w2, ew⟩ := T.sh e h
  rw [ew]
  exact ⟨share_ok (by omega) w2 T.c1 T.c2, low1_pos w1 T.c1⟩
theorem TabOk.sA {c : Int} {es : List En} (T : TabOk c es) (a : List Int) : ∃ w, 0 ≤ w ∧ w ≤ c ∧ shA es a = lowP w c := by
  unfold shA
  cases h : getA es a with
  | none => exact ⟨0, by omega, by have := T.c1; omega, by rw [lowP_zero T.c1]; rfl⟩
  | some s =>
    obtain ⟨w, w1, w2, ew⟩ := T.sh _ (getA_mem h)
    exact ⟨w, by omega, w2, ew⟩
theorem TabOk.shOk {c : Int} {es : List En} (T : TabOk c es) (a : List Int) : ShOk (shA es a) := by
  obtain ⟨w, w0, w1, e⟩ := T.sA a
  rw [e]
  exact share_ok w0 w1 T.c1 T.c2
theorem TabOk.zero {c : Int} {es : List En} (T : TabOk c es) (a : List Int) : (shA es a).1 = 0 ↔ getA es a = none := by
  unfold shA
  cases h : getA es a with
  | none => simp
  | some s =>
    have := (T.at (getA_mem h)).2
    simp only [Option.getD_some]
    constructor
    · intro z
      have : 1 ≤ s.1 := this
      omega
    · intro z; cases z
theorem lim_bd {f s : Int × Int} (F : FacOk f) (S : ShOk s) : 0 ≤ (limF f s).1 ∧ (limF f s).1 < 2 ^ 77 ∧ 1 ≤ (limF f s).2 ∧ (limF f s).2 < 2 ^ 77 := by
  have e1 := mulN F.a F.a2 S.a S.a2
  have e2 := mulN (by have := F.b; omega) F.b2 (by have := S.b; omega) S.b2
  have e3 := pos_mul F.b S.b
  exact lowP_bd (N := 2 ^ 77) e1.1 (by omega) e3 (by omega)
theorem rest_low {c1 c2 : Int} {es1 es2 : List En} {f : Int × Int} {e : En} (o1 : 1 ≤ c1) (o2 : c1 < 2 ^ 37) (T2 : TabOk c2 es2) (F : FacOk f) (he : ∃ w, 1 ≤ w ∧ w ≤ c1 ∧ e.2 = lowP w c1) (ha : abv es2 f e = true) :
    ∃ m, 0 ≤ m ∧ m < 2 ^ 118 ∧ subG e.2 (limF f (shA es2 e.1)) = lowP m (c1 * (f.2 * c2)) := by
  obtain ⟨w, w1, w2, ew⟩ := he
  obtain ⟨v, v0, v1, ev⟩ := T2.sA e.1
  have hs : ShOk e.2 := by rw [ew]; exact share_ok (by omega) w2 o1 o2
  have hl := lim_bd F (T2.shOk e.1)
  have lt : (limF f (shA es2 e.1)).1 * e.2.2 < e.2.1 * (limF f (shA es2 e.1)).2 := of_decide_eq_true ha
  have r1 : e.2.1 * c1 = w * e.2.2 := by rw [ew]; exact lowP_ratio (by omega) o1
  have r0 : (shA es2 e.1).1 * c2 = v * (shA es2 e.1).2 := by rw [ev]; exact lowP_ratio v0 T2.c1
  have t0 := T2.shOk e.1
  have p1 := pos_mul F.b t0.b
  have n1 := Int.mul_nonneg F.a t0.a
  have r2 : (limF f (shA es2 e.1)).1 * (f.2 * (shA es2 e.1).2) = (f.1 * (shA es2 e.1).1) * (limF f (shA es2 e.1)).2 := lowP_ratio n1 p1
  have p2 := pos_mul F.b T2.c1
  have r3 : (limF f (shA es2 e.1)).1 * (f.2 * c2) = (f.1 * v) * (limF f (shA es2 e.1)).2 := by
    have tp : (shA es2 e.1).2 ≠ 0 := by have := t0.b; omega
    refine Int.eq_of_mul_eq_mul_right tp ?_
    generalize (limF f (shA es2 e.1)).1 = x at *
    generalize (limF f (shA es2 e.1)).2 = y at *
    generalize (shA es2 e.1).1 = a at *
    generalize (shA es2 e.1).2 = b at *
    grind
  have b1 := mulN (by omega : 0 ≤ w) (by omega : w < 2 ^ 37) (by omega : 0 ≤ f.2 * c2) (by have := mulN (by have := F.b; omega) F.b2 (by have := T2.c1; omega) T2.c2; omega : f.2 * c2 < 2 ^ 78)
  have b2 := mulN F.a F.a2 v0 (by have := T2.c2; omega : v < 2 ^ 37)
  have b3 := mulN b2.1 b2.2 (by omega : 0 ≤ c1) o2
  have key : ((e.2.1 * (limF f (shA es2 e.1)).2) - (limF f (shA es2 e.1)).1 * e.2.2) * (c1 * (f.2 * c2)) = (w * (f.2 * c2) - (f.1 * v) * c1) * (e.2.2 * (limF f (shA es2 e.1)).2) := by
    generalize (limF f (shA es2 e.1)).1 = x at *
    generalize (limF f (shA es2 e.1)).2 = y at *
    generalize f.2 * c2 = z at *
    generalize f.1 * v = u at *
    grind
  have q1 := pos_mul hs.b hl.2.2.1
  have q2 := pos_mul o1 p2
  have m0 : 0 ≤ w * (f.2 * c2) - (f.1 * v) * c1 := by
    refine Int.not_lt.mp fun z => ?_
    have g1 := Int.mul_neg_of_neg_of_pos z (by omega : 0 < e.2.2 * (limF f (shA es2 e.1)).2)
    have g2 := Int.mul_pos (by omega : 0 < e.2.1 * (limF f (shA es2 e.1)).2 - (limF f (shA es2 e.1)).1 * e.2.2) (by omega : 0 < c1 * (f.2 * c2))
    rw [key] at g2
    omega
  refine ⟨w * (f.2 * c2) - (f.1 * v) * c1, m0, by omega, ?_⟩
  exact lowP_eq (by omega) q1 m0 q2 key
theorem bot_bdG {c1 c2 : Int} {f : Int × Int} (o1 : 1 ≤ c1) (o2 : c1 < 2 ^ 37) (p1 : 1 ≤ c2) (p2 : c2 < 2 ^ 37) (F : FacOk f) : 1 ≤ c1 * (f.2 * c2) ∧ c1 * (f.2 * c2) < 2 ^ 118 := by
  have e := mulN (by have := F.b; omega) F.b2 (by omega : 0 ≤ c2) p2
  have e2 := mulN (by omega : 0 ≤ c1) o2 e.1 e.2
  exact ⟨pos_mul o1 (pos_mul F.b p1), by omega⟩
theorem safe_low {B : Int} (B1 : 1 ≤ B) (B2 : B < 2 ^ 118) : ∀ (fs : List (Int × Int)) (S : Int), 0 ≤ S → S + fs.length * 2 ^ 118 < 2 ^ 180 → (∀ x ∈ fs, ∃ m, 0 ≤ m ∧ m < 2 ^ 118 ∧ x = lowP m B) →
    SafeF (lowP S B) fs ∧ ∃ S', 0 ≤ S' ∧ S' < 2 ^ 180 ∧ fs.foldl addF (lowP S B) = lowP S' B
  | [], S, h0, h1, _ => ⟨trivial, S, h0, by simpa using h1, rfl⟩
  | x :: r, S, h0, h1, h => by
    obtain ⟨m, m0, m1, e⟩ := h x List.mem_cons_self
    rw [List.length_cons] at h1
    have a := add_low h0 m0 B1
    have ih := safe_low B1 B2 r (S + m) (by omega) (by omega) fun y hy => h y (List.mem_cons_of_mem _ hy)
    rw [List.foldl_cons, e, a]
    refine ⟨⟨low_fr h0 (by omega) B1 (by omega), low_fr m0 (by omega) B1 (by omega), ?_⟩, ih.2⟩
    show SafeF (addF (lowP S B) (lowP m B)) r
    rw [a]
    exact ih.1
theorem rest_safe {c1 c2 : Int} {es1 es2 : List En} {f : Int × Int} (o1 : 1 ≤ c1) (o2 : c1 < 2 ^ 37) (ov : Over c1 es1) (hl : es1.length ≤ 12) (T2 : TabOk c2 es2) (F : FacOk f) : SafeF (0, 1) (restL es2 f es1) ∧ Fr72 (restF es2 f es1) := by
  have B := bot_bdG o1 o2 T2.c1 T2.c2 F
  have ln : (restL es2 f es1).length ≤ 12 := by
    unfold restL
    rw [List.length_map]
    exact Nat.le_trans (List.length_filter_le _ _) hl
  obtain ⟨s, S', h0, h1, e⟩ := safe_low B.1 B.2 (restL es2 f es1) 0 (by omega) (by omega) fun x hx => by
    unfold restL at hx
    obtain ⟨y, hy, rfl⟩ := List.mem_map.mp hx
    obtain ⟨h1, h2⟩ := List.mem_filter.mp hy
    exact rest_low (es1 := es1) o1 o2 T2 F (ov y h1) h2
  rw [lowP_zero B.1] at s e
  refine ⟨s, ?_⟩
  unfold restF
  rw [e]
  exact low_fr h0 h1 B.1 (by have := B.2; omega)
theorem Over.take {c : Int} {es : List En} (h : Over c es) (i : Nat) : Over c (es.take i) := fun e he => h e (List.mem_of_mem_take he)
theorem plus_low {u : Int × Int} {t b : Int} (u0 : 0 ≤ u.1) (u1 : 1 ≤ u.2) (t0 : 0 ≤ t) (b1 : 1 ≤ b) : lowP (u.1 * b + t * u.2) (u.2 * b) = addF u (lowP t b) := by
  have r := lowP_ratio t0 b1
  have l1 : 0 ≤ (lowP t b).1 := low1_nonneg t0
  have l2 : 1 ≤ (lowP t b).2 := low2_pos b1
  show _ = lowP (u.1 * (lowP t b).2 + (lowP t b).1 * u.2) (u.2 * (lowP t b).2)
  refine lowP_eq (Int.add_nonneg (Int.mul_nonneg u0 (by omega)) (Int.mul_nonneg t0 (by omega))) (pos_mul u1 b1) (Int.add_nonneg (Int.mul_nonneg u0 (by omega)) (Int.mul_nonneg l1 (by omega))) (pos_mul u1 l2) ?_
  generalize (lowP t b).1 = x at *
  generalize (lowP t b).2 = y at *
  grind
theorem lt_low {g : Int × Int} {a b : Int} (g1 : 1 ≤ g.2) (ha : 0 ≤ a) (hb : 1 ≤ b) : ltF g (lowP a b) = ltF g (a, b) := by
  have r := lowP_ratio ha hb
  have l2 : 1 ≤ (lowP a b).2 := low2_pos hb
  unfold ltF
  rw [decide_eq_decide]
  show g.1 * (lowP a b).2 < (lowP a b).1 * g.2 ↔ g.1 * b < a * g.2
  generalize (lowP a b).1 = x at *
  generalize (lowP a b).2 = y at *
  constructor
  · intro h
    have h1 := Int.mul_lt_mul_of_pos_right h (by omega : 0 < b)
    refine Int.lt_of_mul_lt_mul_right (a := y) ?_ (by omega)
    have e1 : g.1 * y * b = g.1 * b * y := by grind
    have e2 : x * g.2 * b = a * g.2 * y := by grind
    omega
  · intro h
    have h1 := Int.mul_lt_mul_of_pos_right h (by omega : 0 < y)
    refine Int.lt_of_mul_lt_mul_right (a := b) ?_ (by omega)
    have e1 : g.1 * y * b = g.1 * b * y := by grind
    have e2 : x * g.2 * b = a * g.2 * y := by grind
    omega
/-! the greatest quotient -/
structure GrOk (g : Int × Int) : Prop where
  a : 0 ≤ g.1
  a2 : g.1 < 2 ^ 75
  b : 1 ≤ g.2
  b2 : g.2 < 2 ^ 75
theorem quo_bd {s t : Int × Int} (S : ShOk s) (T : ShOk t) (t1 : 1 ≤ t.1) : GrOk (quoF s t) := by
  have e1 := mulN S.a S.a2 (by have := T.b; omega) T.b2
  have e2 := mulN (by have := S.b; omega) S.b2 T.a T.a2
  have e3 := pos_mul S.b t1
  have := lowP_bd (N := 2 ^ 75) e1.1 (by omega) e3 (by omega)
  exact ⟨this.1, this.2.1, this.2.2.1, this.2.2.2⟩
theorem gr_ok {c2 : Int} {es2 : List En} (T2 : TabOk c2 es2) {g : Int × Int} (G : GrOk g) {e : En} (S : ShOk e.2) : GrOk (grStep es2 g e) := by
  unfold grStep
  split
  · exact G
  · rename_i h
    have t := T2.shOk e.1
    split
    · exact quo_bd S t (by have := t.a; omega)
    · exact G
theorem gr_all {c2 : Int} {es2 : List En} (T2 : TabOk c2 es2) : ∀ (es : List En) (g : Int × Int), GrOk g → (∀ e ∈ es, ShOk e.2) → GrOk (es.foldl (grStep es2) g)
  | [], g, G, _ => G
  | e :: r, g, G, h => gr_all T2 r _ (gr_ok T2 G (h e List.mem_cons_self)) fun x hx => h x (List.mem_cons_of_mem _ hx)
theorem fac_eq {c2 : Int} {es2 : List En} (T2 : TabOk c2 es2) : ∀ (es : List En) (g : Int × Int), GrOk g → (∀ e ∈ es, ShOk e.2) → facF es2 es g = if lacks es2 es then none else some (es.foldl (grStep es2) g)
  | [], g, G, _ => rfl
  | e :: r, g, G, h => by
    have z := T2.zero e.1
    have t := T2.shOk e.1
    have S := h e List.mem_cons_self
    unfold lacks
    rw [List.any_cons, List.foldl_cons]
    cases hg : getA es2 e.1 with
    | none =>
      rw [decide_eq_true (z.mpr hg), Bool.true_or, if_pos rfl]
      unfold facF
      rw [hg]
    | some x =>
      have nz : ¬ (shA es2 e.1).1 = 0 := fun h0 => by rw [z.mp h0] at hg; cases hg
      have ex : shA es2 e.1 = x := by unfold shA; rw [hg]; rfl
      rw [decide_eq_false nz, Bool.false_or]
      have st : grStep es2 g e = if ltF g (quoF e.2 x) then quoF e.2 x else g := by
        unfold grStep
        rw [if_neg nz, ex]
        unfold quoF
        rw [ex] at t nz
        rw [lt_low G.b (Int.mul_nonneg S.a (by have := t.b; omega)) (pos_mul S.b (by have := t.a; omega))]
      have ih := fac_eq T2 r (grStep es2 g e) (gr_ok T2 G S) fun y hy => h y (List.mem_cons_of_mem _ hy)
      unfold facF
      rw [hg]
      show facF es2 r (if ltF g (quoF e.2 x) then quoF e.2 x else g) = _
      rw [← st, ih]
      rfl
/-! a table against itself -/
theorem lowP_low {w c : Int} (h0 : 0 ≤ w) (h1 : 1 ≤ c) : lowP (1 * (lowP w c).1) (1 * (lowP w c).2) = lowP w c := by
  rw [Int.one_mul, Int.one_mul]
  have := low_low h0 h1
  exact Prod.ext this.1 this.2
theorem self_none {c : Int} {es : List En} (T : TabOk c es) : es.filter (abv es (1, 1)) = [] := by
  rw [List.filter_eq_nil_iff]
  intro e he
  obtain ⟨w, w1, w2, ew⟩ := T.sh e he
  have : limF (1, 1) (shA es e.1) = e.2 := by
    unfold shA
    rw [getA_self T.nd e he]
    show lowP (1 * e.2.1) (1 * e.2.2) = e.2
    rw [ew]
    exact lowP_low (by omega) T.c1
  unfold abv ltF
  rw [this]
  simp
theorem self_quo {c : Int} {es : List En} (T : TabOk c es) {e : En} (he : e ∈ es) : quoF e.2 e.2 = (1, 1) := by
  have t := T.at he
  unfold quoF
  rw [Int.mul_comm e.2.1 e.2.2]
  exact lowP_one (pos_mul t.1.b t.2)
theorem self_fac {c : Int} {es : List En} (T : TabOk c es) : facF es es (0, 1) = some (1, 1) := by
  have all : ∀ r : List En, (∀ e ∈ r, e ∈ es) → facF es r (1, 1) = some (1, 1) := by
    intro r
    induction r with
    | nil => intro _; rfl
    | cons e r ih =>
      intro h
      unfold facF
      rw [getA_self T.nd e (h e List.mem_cons_self)]
      show facF es r (if ltF (1, 1) (quoF e.2 e.2) then quoF e.2 e.2 else (1, 1)) = _
      rw [self_quo T (h e List.mem_cons_self), ite_self]
      exact ih fun x hx => h x (List.mem_cons_of_mem _ hx)
  cases hes : es with
  | nil => have := T.l1; rw [hes] at this; simp at this
  | cons e r =>
    have me : e ∈ es := by rw [hes]; exact List.mem_cons_self
    rw [← hes]
    conv => lhs; arg 2; rw [hes]
    unfold facF
    rw [getA_self T.nd e me]
    show facF es r (if ltF (0, 1) (quoF e.2 e.2) then quoF e.2 e.2 else (0, 1)) = _
    rw [self_quo T me]
    exact all r fun x hx => by rw [hes]; exact List.mem_cons_of_mem _ hx
end Mine
namespace Mine
open PySem L2
def spLessF : Sp := fun vs H Q _ => ∃ (p q : Addr) (a b c d : Int), vs = [.ref p, .ref q] ∧ TupAt H p a b ∧ TupAt H q c d ∧ B72 a ∧ B72 b ∧ B72 c ∧ B72 d ∧ Q (.bl (decide (a * d < c * b))) H
structure AskA (b : Bool) (H : Hp) (t1 t2 p : Addr) (c1 c2 : Int) (es1 es2 : List En) (f : Int × Int) : Prop where
  h1 : TabA b H t1 es1
  h2 : TabA b H t2 es2
  hf : TupAt H p f.1 f.2
  o1 : TabOk c1 es1
  o2 : TabOk c2 es2
  of : FacOk f
theorem AskA.ts {b : Bool} {H H' : Hp} {t1 t2 p : Addr} {c1 c2 : Int} {es1 es2 : List En} {f : Int × Int} (t : TS H H') (h : AskA b H t1 t2 p c1 c2 es1 es2 f) : AskA b H' t1 t2 p c1 c2 es1 es2 f :=
  ⟨h.h1.ts t, h.h2.ts t, t _ _ h.hf, h.o1, h.o2, h.of⟩
def AboA (b : Bool) (es2 : List En) (f : Int × Int) (H : Hp) (v : V) (e : En) : Prop := ∃ p x q r, v = .ref p ∧ H p = some (.tup [x, .ref q, .ref r]) ∧ AnV b H x e.1 ∧ TupAt H q e.2.1 e.2.2 ∧ TupAt H r (limF f (shA es2 e.1)).1 (limF f (shA es2 e.1)).2
theorem AboA.ts {b : Bool} {es2 : List En} {f : Int × Int} {H H' : Hp} {v : V} {e : En} (t : TS H H') (h : AboA b es2 f H v e) : AboA b es2 f H' v e :=
  let ⟨p, x, q, r, e1, h1, h2, h3, h4⟩ := h; ⟨p, x, q, r, e1, t _ _ h1, h2.ts t, t _ _ h3, t _ _ h4⟩
def OptV (H : Hp) (v : V) : Option (Int × Int) → Prop
  | none => v = .non
  | some f => FrR H v f
theorem OptV.ts {H H' : Hp} {v : V} (t : TS H H') : ∀ {o : Option (Int × Int)}, OptV H v o → OptV H' v o
  | none, h => h
  | some _, h => FrR.ts t h
def spAbove : Sp := fun vs H Q _ => ∃ b t1 t2 p c1 c2 es1 es2 f, vs = [.ref t1, .ref t2, .ref p] ∧ AskA b H t1 t2 p c1 c2 es1 es2 f ∧ ∀ H' l ws, Same H H' → H' l = some (.lst ws) → Two (AboA b es2 f H') ws (es1.filter (abv es2 f)) → Q (.ref l) H'
def spRest : Sp := fun vs H Q _ => ∃ b t1 t2 p c1 c2 es1 es2 f, vs = [.ref t1, .ref t2, .ref p] ∧ AskA b H t1 t2 p c1 c2 es1 es2 f ∧ ∀ H' r, Same H H' → TupAt H' r (restF es2 f es1).1 (restF es2 f es1).2 → Q (.ref r) H'
def spBreak : Sp := fun vs H Q _ => ∃ b t1 t2 p c1 c2 es1 es2 f, vs = [.ref t1, .ref t2, .ref p] ∧ AskA b H t1 t2 p c1 c2 es1 es2 f ∧ ∀ H' r ws, Same H H' → H' r = some (.tup ws) → Two (AnV b H') ws (brkA es2 f es1) → Q (.ref r) H'
def spFacO : Sp := fun vs H Q _ => ∃ b t1 t2 c1 c2 es1 es2, vs = [.ref t1, .ref t2] ∧ TabA b H t1 es1 ∧ TabA b H t2 es2 ∧ TabOk c1 es1 ∧ TabOk c2 es2 ∧ ∀ H' v, Same H H' → OptV H' v (facF es2 es1 (0, 1)) → Q v H'
def spPlus : Sp := fun vs H Q _ => ∃ (p q : Addr) (u e : Int × Int), vs = [.ref p, .ref q] ∧ TupAt H p u.1 u.2 ∧ TupAt H q e.1 e.2 ∧ Fr72 u ∧ Fr72 e ∧ ∀ r, H r = none → Q (.ref r) (upd H r (.tup [.int (addF u e).1, .int (addF u e).2]))
/-- a drawn list of answers, all unlike -/
structure PoolA (b : Bool) (H : Hp) (r : Addr) (us : List V) (as : List (List Int)) : Prop where
  h : H r = some (.lst us)
  tw : Two (AnV b H) us as
  nd : as.Nodup
  ok : ∀ a ∈ as, AnOk a
def spPool : Sp := fun vs H Q _ => ∃ d l m, vs = [.ref d, .int m] ∧ Deal H d l ∧ 1 ≤ m ∧ m ≤ 12 ∧ ∀ b H' r us as, PoolA b H' r us as → as.length = m.toNat → H r = none → Deal H' d l → Out d l H H' → Q (.ref r) H'
def shsL (ws : List Int) : List (Int × Int) := ws.map fun w => lowP w ws.sum
def spShares : Sp := fun vs H Q _ => ∃ (b : Bool) (p q : Addr) (us : List V) (as : List (List Int)) (ws : List Int), vs = [.ref p, .ref q] ∧ PoolA b H p us as ∧ H q = some (.lst (ws.map V.int)) ∧ ws.length = as.length ∧ 1 ≤ ws.length ∧ ws.length ≤ 12 ∧ (∀ w ∈ ws, 1 ≤ w ∧ w ≤ 10 ^ 10) ∧
  ∀ H' t es c, Same H H' → TabA b H' t es → TabOk c es → Q (.ref t) H'
def spTwo : Sp := fun vs H Q _ => ∃ d l r wide b us as, vs = [.ref d, .ref r, .int wide] ∧ Deal H d l ∧ PoolA b H r us as ∧ r ≠ l ∧ 1 ≤ as.length ∧ as.length ≤ 12 ∧ 1 ≤ wide ∧ wide ≤ 10 ^ 10 ∧
  ∀ H' p t1 t2 es1 es2 c1 c2, H' p = some (.lst [.ref t1, .ref t2]) → TabA b H' t1 es1 → TabA b H' t2 es2 → TabOk c1 es1 → TabOk c2 es2 → Deal H' d l → Out d l H H' → Q (.ref p) H'
def spFac : Sp := fun vs H Q _ => ∃ d l b t1 t2 c1 c2 es1 es2, vs = [.ref d, .ref t1, .ref t2] ∧ Deal H d l ∧ TabA b H t1 es1 ∧ TabA b H t2 es2 ∧ TabOk c1 es1 ∧ TabOk c2 es2 ∧ ∀ H' p f, TupAt H' p f.1 f.2 → FacOk f → Deal H' d l → Out d l H H' → Q (.ref p) H'
structure DueA (b : Bool) (H : Hp) (du : Addr) (es1 es2 : List En) (f : Int × Int) (r br : Addr) (ws : List V) (x : V) : Prop where
  h : H du = some (.tup [.ref r, .ref br, x])
  hr : TupAt H r (restF es2 f es1).1 (restF es2 f es1).2
  hb : H br = some (.tup ws)
  tw : Two (AnV b H) ws (brkA es2 f es1)
  ov : OptV H x (facF es2 es1 (0, 1))
theorem DueA.ts {b : Bool} {H H' : Hp} {du r br : Addr} {es1 es2 : List En} {f : Int × Int} {ws : List V} {x : V} (t : TS H H') (h : DueA b H du es1 es2 f r br ws x) : DueA b H' du es1 es2 f r br ws x :=
  ⟨t _ _ h.h, t _ _ h.hr, t _ _ h.hb, h.tw.mono fun _ _ z => z.ts t, h.ov.ts t⟩
def spDue : Sp := fun vs H Q _ => ∃ b t1 t2 p c1 c2 es1 es2 f, vs = [.ref t1, .ref t2, .ref p] ∧ AskA b H t1 t2 p c1 c2 es1 es2 f ∧ ∀ H' du r br ws x, Same H H' → DueA b H' du es1 es2 f r br ws x → Q (.ref du) H'
theorem ShOk.b1 {s : Int × Int} (h : ShOk s) : B72 s.1 ∧ B72 s.2 := ⟨⟨h.a, by have := h.a2; omega⟩, by have := h.b; omega, by have := h.b2; omega⟩
theorem FacOk.b1 {s : Int × Int} (h : FacOk s) : B72 s.1 ∧ B72 s.2 := ⟨⟨h.a, by have := h.a2; omega⟩, by have := h.b; omega, by have := h.b2; omega⟩
theorem GrOk.b1 {s : Int × Int} (h : GrOk s) : B72 s.1 ∧ B72 s.2 := ⟨⟨h.a, by have := h.a2; omega⟩, by have := h.b; omega, by have := h.b2; omega⟩
theorem lim_b {f s : Int × Int} (F : FacOk f) (S : ShOk s) : B72 (limF f s).1 ∧ B72 (limF f s).2 ∧ 1 ≤ (limF f s).2 := by
  have := lim_bd F S
  exact ⟨⟨this.1, by omega⟩, ⟨by omega, by omega⟩, this.2.2.1⟩
theorem TabA.at {b : Bool} {H : Hp} {us : List V} {es : List En} (h : Two (EnA b H) us es) {i : Nat} {v : V} (hv : us[i]? = some v) : ∃ e, es[i]? = some e ∧ e ∈ es ∧ EnA b H v e := by
  obtain ⟨e, he, r⟩ := h.at hv
  exact ⟨e, he, List.mem_of_getElem? he, r⟩
theorem facF_none {es2 r : List En} {e : En} {g : Int × Int} (h : getA es2 e.1 = none) : facF es2 (e :: r) g = none := by
  unfold facF
  rw [h]
theorem facF_some {es2 r : List En} {e : En} {g s : Int × Int} (h : getA es2 e.1 = some s) : facF es2 (e :: r) g = facF es2 r (if ltF g (quoF e.2 s) then quoF e.2 s else g) := by
  conv => lhs; unfold facF
  rw [h]
/-- what get tells, with (0, 1) at z for an answer that isn't there -/
theorem optr_get {H : Hp} {es : List En} {a : List Int} {o : Option V} {z : Addr} (h : OptR H o (getA es a)) (hz : TupAt H z 0 1) : ∃ q, o.getD (.ref z) = .ref q ∧ TupAt H q (shA es a).1 (shA es a).2 := by
  unfold shA
  cases hg : getA es a with
  | none =>
    rw [hg] at h
    cases o with
    | none => exact ⟨z, rfl, hz⟩
    | some v => exact h.elim
  | some s =>
    rw [hg] at h
    cases o with
    | none => exact h.elim
    | some v =>
      obtain ⟨q, e, hq⟩ := h
      exact ⟨q, e, hq⟩
end Mine
namespace Mine
open PySem L2
theorem out_fresh {H H2 : Hp} {d l a : Addr} (D2 : Deal H2 d l) (o : Out d l H H2) (h : H2 a = none) : H a = none := by
  cases q : H a with
  | none => rfl
  | some u =>
    exfalso
    obtain ⟨sd, n, ls, z⟩ := D2
    by_cases h1 : a = d
    · rw [h1, z.dc] at h; cases h
    · by_cases h2 : a = l
      · rw [h2, z.lc] at h; cases h
      · rw [o a u q h1 h2] at h; cases h
theorem deal_ned {H : Hp} {d l r : Addr} {us : List V} (D : Deal H d l) (h : H r = some (.lst us)) : r ≠ d := by
  obtain ⟨sd, n, ls, z⟩ := D
  exact ne_of h z.dc (by intro z; cases z)
theorem deal_new {H : Hp} {d l r : Addr} (D : Deal H d l) (h : H r = none) : r ≠ d ∧ r ≠ l := by
  obtain ⟨sd, n, ls, z⟩ := D
  exact ⟨(ne_of_none z.dc h).symm, (ne_of_none z.lc h).symm⟩
theorem PoolA.out {b : Bool} {H H' : Hp} {d l r : Addr} {us : List V} {as : List (List Int)} (P : PoolA b H r us as) (D : Deal H d l) (nl : r ≠ l) (o : Out d l H H') : PoolA b H' r us as :=
  ⟨o _ _ P.h (deal_ned D P.h) nl, P.tw.mono fun _ _ z => z.ts (TS.out D o), P.nd, P.ok⟩
theorem PoolA.same {b : Bool} {H H' : Hp} {r : Addr} {us : List V} {as : List (List Int)} (P : PoolA b H r us as) (s : Same H H') : PoolA b H' r us as :=
  ⟨s _ _ P.h, P.tw.mono fun _ _ z => z.ts (.of s), P.nd, P.ok⟩
theorem two_ints {H : Hp} : ∀ ns : List Int, Two (AnV false H) (ns.map V.int) (ns.map fun n => [n])
  | [] => trivial
  | n :: r => ⟨⟨n, rfl, rfl⟩, two_ints r⟩
theorem two_perm {α : Type} {R : V → α → Prop} {us us' : List V} (p : us'.Perm us) : ∀ {as : List α}, Two R us as → ∃ as', as'.Perm as ∧ Two R us' as' := by
  induction p with
  | nil =>
    intro as h
    cases as with
    | nil => exact ⟨[], .nil, trivial⟩
    | cons _ _ => exact h.elim
  | cons x p ih =>
    intro as h
    cases as with
    | nil => exact h.elim
    | cons a as =>
      obtain ⟨as', p', t'⟩ := ih h.2
      exact ⟨a :: as', p'.cons a, h.1, t'⟩
  | swap x y l =>
    intro as h
    match as, h with
    | a :: b :: as, ⟨h1, h2, h3⟩ => exact ⟨b :: a :: as, .swap _ _ _, h2, h1, h3⟩
  | trans p1 p2 ih1 ih2 =>
    intro as h
    obtain ⟨as', p', t'⟩ := ih2 h
    obtain ⟨as'', p'', t''⟩ := ih1 t'
    exact ⟨as'', p''.trans p', t''⟩
/-! answers as plain data -/
def ansD (b : Bool) (a : List Int) : PyData := if b then .tuple (a.map PyData.int) else .int (a.headD 0)
theorem ans_rep {K : PySem.W.Frag} {H : Hp} : ∀ {b : Bool} {v : V} {a : List Int}, AnV b H v a → RepD K H (ansD b a) v
  | true, _, a, ⟨p, rfl, h⟩ => ⟨p, _, rfl, SqT.of h, repL_ints a⟩
  | false, _, _, ⟨n, rfl, rfl⟩ => rfl
theorem ans_lay (b : Bool) : ∀ as : List (List Int), PyData.canLayAll0 (as.map (ansD b)) = true ∧ PyData.depthAll (as.map (ansD b)) ≤ 1
  | [] => ⟨rfl, Nat.zero_le _⟩
  | a :: r => by
    obtain ⟨h1, h2⟩ := ans_lay b r
    cases b
    · exact ⟨by simp [PyData.canLayAll0, ansD, PyData.canLay0] at h1 ⊢; exact h1, by simp [PyData.depthAll, ansD, PyData.depth] at h2 ⊢; exact h2⟩
    · refine ⟨by simp [PyData.canLayAll0, ansD, PyData.canLay0, lay_ints] at h1 ⊢; exact h1, ?_⟩
      simp only [List.map_cons, PyData.depthAll, ansD, PyData.depth, depth_ints, if_true] at h2 ⊢
      omega
theorem ans_shaped (b : Bool) (as : List (List Int)) : SeqAt.shaped (.list (as.map (ansD b))) = true := by
  obtain ⟨h1, h2⟩ := ans_lay b as
  simp only [SeqAt.shaped, PyData.canLay0, h1, Bool.true_and]
  exact decide_eq_true (by simp only [PyData.depth]; omega)
theorem list_nil {ds : List PyData} : Spec.same (.list ds) (.list []) = decide (ds = []) := by
  cases ds <;> simp [Spec.same, Spec.sameAll]
theorem nomix_nil {ds : List PyData} : SeqAt.noMix (.list ds) (.list []) = true := by
  cases ds <;> simp [SeqAt.noMix, SeqAt.noMixAll]
theorem nil_shaped : SeqAt.shaped (.list []) = true := by decide +kernel
theorem two_list {K : PySem.W.Frag} {b : Bool} {H : Hp} {r : Addr} {us : List V} {as : List (List Int)} (h : H r = some (.lst us)) (tw : Two (AnV b H) us as) : RepD K H (.list (as.map (ansD b))) (.ref r) :=
  ⟨r, us, rfl, SqL.of h, tw.rep fun _ _ z => ans_rep z⟩
theorem count_in (a : List Int) : ∀ as : List (List Int), (Spec.countIn (ansD true a) (as.map (ansD true)) ≠ 0) ↔ a ∈ as
  | [] => by simp [Spec.countIn]
  | x :: r => by
    have ih := count_in a r
    have nn : 0 ≤ Spec.countIn (ansD true a) (r.map (ansD true)) := PyProof.Rows.countIn_ge0 _ _
    rw [List.map_cons, Spec.countIn, List.mem_cons, ← ih]
    have e : Spec.same (ansD true x) (ansD true a) = decide (x = a) := by
      simp only [ansD, if_true, Spec.same]
      exact same_ints x a
    rw [e]
    by_cases c : x = a
    · rw [if_pos (decide_eq_true c)]
      constructor
      · intro _; exact .inl c.symm
      · intro _; omega
    · rw [if_neg (by simp [c])]
      constructor
      · intro h; exact .inr (by omega)
      · rintro (h | h)
        · exact absurd h.symm c
        · omega
/-! answers told -/
theorem ans_all (b : Bool) : ∀ as : List (List Int), (∀ a ∈ as, AnOk a) → PyData.showableAll (as.map (ansD b)) = true ∧ PyData.hasDictAll (as.map (ansD b)) = false ∧ PyData.depthAll (as.map (ansD b)) ≤ 1 ∧ piled (PyData.shownAll (as.map (ansD b))) ≤ as.length * 10000
  | [], _ => ⟨rfl, rfl, Nat.zero_le _, Nat.le_refl _⟩
  | x :: r, h => by
    have hx := h x List.mem_cons_self
    obtain ⟨a, bb, c, d⟩ := ans_all b r fun y hy => h y (List.mem_cons_of_mem _ hy)
    have one : (ansD b x).showable = true ∧ (ansD b x).hasDict = false ∧ (ansD b x).depth ≤ 1 ∧ (ansD b x).shown.length ≤ 9900 := by
      cases b
      · have hn : Below (x.headD 0) := by
          cases x with
          | nil => exact ⟨by decide, by decide⟩
          | cons n _ => exact hx.2 n List.mem_cons_self
        refine ⟨by have q := hn.log; simp [ansD, PyData.showable]; simpa using q, rfl, by simp [ansD, PyData.depth], ?_⟩
        have l : (PyData.int (x.headD 0)).shown.length ≤ 1921 := PyProof.Rows.int_text_len_1921 hn.log
        exact Nat.le_trans l (by decide)
      · obtain ⟨q1, q2, q3, q4⟩ := ints_all x hx.2
        have hl := hx.1
        refine ⟨by simp only [ansD, if_true, PyData.showable, q1], by simp only [ansD, if_true, PyData.hasDict, q2], by simp only [ansD, if_true, PyData.depth, q3]; omega, ?_⟩
        have t := tt_len (PyData.shownAll (x.map PyData.int))
        show (tupleText (PyData.shownAll (x.map PyData.int))).length ≤ 9900
        have : x.length * 1923 ≤ 5 * 1923 := Nat.mul_le_mul_right _ hl
        omega
    obtain ⟨o1, o2, o3, o4⟩ := one
    refine ⟨?_, ?_, ?_, ?_⟩
    · simp only [List.map_cons, PyData.showableAll, a, o1, Bool.and_true]
    · simp only [List.map_cons, PyData.hasDictAll, bb, o2, Bool.or_false]
    · simp only [List.map_cons, PyData.depthAll]; omega
    · simp only [List.map_cons, PyData.shownAll]
      rw [piled_cons, List.length_cons]
      omega
theorem ans_show {b : Bool} {as : List (List Int)} (h : ∀ a ∈ as, AnOk a) (hl : as.length ≤ 12) : (PyData.tuple (as.map (ansD b))).showable = true ∧ (PyData.tuple (as.map (ansD b))).hasDict = false ∧ (PyData.tuple (as.map (ansD b))).depth ≤ 64 ∧ (PyData.tuple (as.map (ansD b))).shown.length ≤ sizeLine := by
  obtain ⟨a, bb, c, d⟩ := ans_all b as h
  refine ⟨by simp only [PyData.showable, a], by simp only [PyData.hasDict, bb], by simp only [PyData.depth]; omega, ?_⟩
  have t := tt_len (PyData.shownAll (as.map (ansD b)))
  show (tupleText (PyData.shownAll (as.map (ansD b)))).length ≤ sizeLine
  rw [sizeLine_eq]
  have : as.length * 10000 ≤ 12 * 10000 := Nat.mul_le_mul_right _ hl
  omega
def optD : Option (Int × Int) → PyData
  | none => .none
  | some f => fracD f.1 f.2
theorem opt_rep {K : PySem.W.Frag} {H : Hp} {v : V} : ∀ {o : Option (Int × Int)}, OptV H v o → RepD K H (optD o) v
  | none, h => h
  | some _, ⟨q, e, h⟩ => by rw [e]; exact frac_rep h
theorem opt_show {o : Option (Int × Int)} (h : ∀ f, o = some f → Below f.1 ∧ Below f.2) : (optD o).showable = true ∧ (optD o).hasDict = false ∧ (optD o).depth ≤ 64 ∧ (optD o).shown.length ≤ sizeLine := by
  cases o with
  | none => exact ⟨by decide +kernel, by decide +kernel, by decide +kernel, by rw [sizeLine_eq]; decide +kernel⟩
  | some f => exact frac_show (h f rfl).1 (h f rfl).2
theorem out_lst {H H2 : Hp} {d l lf : Addr} {o : HO} (h : Out d l H H2) (hf : H lf = none) : Out d l H (upd H2 lf o) := fun b u e h1 h2 => by
  rw [upd_ne (ne_of_none e hf)]
  exact h b u e h1 h2
theorem two_mem {α : Type} {R : V → α → Prop} {us : List V} {as : List α} (h : Two R us as) {v : V} (hv : v ∈ us) : ∃ a ∈ as, R v a := by
  obtain ⟨i, hi, e⟩ := List.mem_iff_getElem.mp hv
  obtain ⟨a, ha, r⟩ := h.at (show us[i]? = some v by rw [List.getElem?_eq_getElem hi, e])
  exact ⟨a, List.mem_of_getElem? ha, r⟩
theorem nodup_snoc {α : Type} {l : List α} {a : α} (nd : l.Nodup) (h : a ∉ l) : (l ++ [a]).Nodup := by
  rw [List.nodup_append]
  refine ⟨nd, by simp, fun x hx y hy z => ?_⟩
  have : y = a := by simpa using hy
  subst this
  exact h (z ▸ hx)
theorem nomix_ans (ns : List Int) (as : List (List Int)) : ∀ e ∈ as.map (ansD true), SeqAt.noMix e (ansD true ns) = true := fun e he => by
  obtain ⟨a, _, rfl⟩ := List.mem_map.mp he
  simp only [ansD, if_true, SeqAt.noMix]
  exact nomix_ints _ _
theorem sum_bd : ∀ {ws : List Int}, (∀ w ∈ ws, 1 ≤ w ∧ w ≤ 10 ^ 10) → (ws.length : Int) ≤ ws.sum ∧ ws.sum ≤ ws.length * 10 ^ 10 ∧ ∀ w ∈ ws, w ≤ ws.sum
  | [], _ => ⟨by simp, by simp, fun _ h => absurd h List.not_mem_nil⟩
  | w :: r, h => by
    have hw := h w List.mem_cons_self
    obtain ⟨a, b, c⟩ := sum_bd fun x hx => h x (List.mem_cons_of_mem _ hx)
    rw [List.sum_cons, List.length_cons]
    refine ⟨by omega, by omega, fun x hx => ?_⟩
    rcases List.mem_cons.mp hx with rfl | hx
    · omega
    · have := c x hx
      omega
theorem zip_ok {as : List (List Int)} {ws : List Int} (nd : as.Nodup) (ok : ∀ a ∈ as, AnOk a) (hl : ws.length = as.length) (l1 : 1 ≤ ws.length) (l2 : ws.length ≤ 12) (hw : ∀ w ∈ ws, 1 ≤ w ∧ w ≤ 10 ^ 10) : TabOk ws.sum (as.zip (shsL ws)) := by
  obtain ⟨s1, s2, s3⟩ := sum_bd hw
  have ln : (shsL ws).length = as.length := by unfold shsL; rw [List.length_map]; exact hl
  have zl : (as.zip (shsL ws)).length = ws.length := by rw [List.length_zip]; omega
  refine ⟨by rw [List.map_fst_zip (by omega)]; exact nd, by omega, by omega, by omega, by omega, fun e he => ?_, fun e he => ok _ (List.of_mem_zip he).1⟩
  have := (List.of_mem_zip (a := e.1) (b := e.2) he).2
  unfold shsL at this
  obtain ⟨w, mw, ew⟩ := List.mem_map.mp this
  exact ⟨w, (hw w mw).1, s3 w mw, ew.symm⟩
end Mine
namespace Mine
open PySem L2
/-- a list of answers and one of weights, in a tuple; neither stands at X -/
structure PairAt (b : Bool) (H : Hp) (X : List Addr) (t pa pw : Addr) (us : List V) (as : List (List Int)) (ws : List Int) : Prop where
  h : H t = some (.tup [.ref pa, .ref pw])
  pl : PoolA b H pa us as
  hw : H pw = some (.lst (ws.map V.int))
  wl : ws.length = as.length
  w1 : 1 ≤ ws.length
  w12 : ws.length ≤ 12
  wb : ∀ w ∈ ws, 1 ≤ w ∧ w ≤ 10 ^ 10
  na : pa ∉ X
  nw : pw ∉ X
def PairV (b : Bool) (H : Hp) (X : List Addr) (v : V) : Prop := ∃ t pa pw us as ws, v = .ref t ∧ PairAt b H X t pa pw us as ws
theorem PairAt.same {b : Bool} {H H' : Hp} {X : List Addr} {t pa pw : Addr} {us : List V} {as : List (List Int)} {ws : List Int} (P : PairAt b H X t pa pw us as ws) (s : Same H H') : PairAt b H' X t pa pw us as ws :=
  ⟨s _ _ P.h, P.pl.same s, s _ _ P.hw, P.wl, P.w1, P.w12, P.wb, P.na, P.nw⟩
theorem PairV.same {b : Bool} {H H' : Hp} {X : List Addr} {v : V} (P : PairV b H X v) (s : Same H H') : PairV b H' X v :=
  let ⟨t, pa, pw, us, as, ws, e, p⟩ := P; ⟨t, pa, pw, us, as, ws, e, p.same s⟩
theorem PairV.out {b : Bool} {H H' : Hp} {X : List Addr} {d l : Addr} {v : V} (P : PairV b H X v) (D : Deal H d l) (m : l ∈ X) (o : Out d l H H') : PairV b H' X v :=
  let ⟨t, pa, pw, us, as, ws, e, p⟩ := P
  ⟨t, pa, pw, us, as, ws, e, TS.out D o _ _ p.h, p.pl.out D (fun z => p.na (z ▸ m)) o, o _ _ p.hw (deal_ned D p.hw) (fun z => p.nw (z ▸ m)), p.wl, p.w1, p.w12, p.wb, p.na, p.nw⟩
theorem PairV.lst {b : Bool} {H : Hp} {X : List Addr} {p : Addr} {xs ys : List V} {v : V} (P : PairV b H X v) (m : p ∈ X) (h : H p = some (.lst xs)) : PairV b (upd H p (.lst ys)) X v :=
  let ⟨t, pa, pw, us, as, ws, e, q⟩ := P
  have ts := TS.lst (ys := ys) h
  ⟨t, pa, pw, us, as, ws, e, ts _ _ q.h, ⟨by rw [upd_ne (show pa ≠ p from fun z => q.na (z ▸ m))]; exact q.pl.h, q.pl.tw.mono fun _ _ z => z.ts ts, q.pl.nd, q.pl.ok⟩, by rw [upd_ne (show pw ≠ p from fun z => q.nw (z ▸ m))]; exact q.hw, q.wl, q.w1, q.w12, q.wb, q.na, q.nw⟩
theorem PairV.more {b : Bool} {H : Hp} {X : List Addr} {p : Addr} {v : V} (P : PairV b H X v) (h : H p = none) : PairV b H (p :: X) v :=
  let ⟨t, pa, pw, us, as, ws, e, q⟩ := P
  ⟨t, pa, pw, us, as, ws, e, q.h, q.pl, q.hw, q.wl, q.w1, q.w12, q.wb, fun z => by
    rcases List.mem_cons.mp z with z | z
    · rw [← z, q.pl.h] at h; cases h
    · exact q.na z, fun z => by
    rcases List.mem_cons.mp z with z | z
    · rw [← z, q.hw] at h; cases h
    · exact q.nw z⟩
theorem PairV.less {b : Bool} {H : Hp} {X Y : List Addr} {v : V} (P : PairV b H X v) (h : ∀ x ∈ Y, x ∈ X) : PairV b H Y v :=
  let ⟨t, pa, pw, us, as, ws, e, q⟩ := P
  ⟨t, pa, pw, us, as, ws, e, q.h, q.pl, q.hw, q.wl, q.w1, q.w12, q.wb, fun z => q.na (h _ z), fun z => q.nw (h _ z)⟩
/-- tables -/
def TabsA (b : Bool) (H : Hp) (zs : List V) : Prop := ∀ v ∈ zs, ∃ t es c, v = .ref t ∧ TabA b H t es ∧ TabOk c es
theorem TabsA.ts {b : Bool} {H H' : Hp} {zs : List V} (T : TabsA b H zs) (s : TS H H') : TabsA b H' zs := fun v hv => let ⟨t, es, c, e, h, o⟩ := T v hv; ⟨t, es, c, e, h.ts s, o⟩
theorem TabsA.snoc {b : Bool} {H : Hp} {zs : List V} {t : Addr} {es : List En} {c : Int} (T : TabsA b H zs) (h : TabA b H t es) (o : TabOk c es) : TabsA b H (zs ++ [.ref t]) := fun v hv => by
  rcases List.mem_append.mp hv with q | q
  · exact T v q
  · have : v = .ref t := by simpa using q
    exact ⟨t, es, c, this, h, o⟩
theorem len2 {α : Type} {zs : List α} (h : zs.length = 2) : ∃ x y, zs = [x, y] := by
  match zs, h with
  | [x, y], _ => exact ⟨x, y, rfl⟩
theorem two_erase {α : Type} {R : V → α → Prop} : ∀ {us : List V} {as : List α} (i : Nat), Two R us as → Two R (us.eraseIdx i) (as.eraseIdx i)
  | [], [], _, _ => trivial
  | _ :: _, _ :: _, 0, h => h.2
  | _ :: _, _ :: _, i + 1, h => ⟨h.1, two_erase i h.2⟩
  | [], _ :: _, _, z => z.elim
  | _ :: _, [], _, z => z.elim
theorem map_erase {α β : Type} (f : α → β) : ∀ (l : List α) (i : Nat), (l.map f).eraseIdx i = (l.eraseIdx i).map f
  | [], _ => rfl
  | _ :: _, 0 => rfl
  | _ :: r, i + 1 => by rw [List.map_cons, List.eraseIdx_cons_succ, List.eraseIdx_cons_succ, List.map_cons, map_erase f r i]
theorem mem_set' {α : Type} {l : List α} {i : Nat} {x y : α} (h : y ∈ l.set i x) : y ∈ l ∨ y = x := by
  rcases List.mem_or_eq_of_mem_set h with q | q
  · exact .inl q
  · exact .inr q
theorem deal_lst {H : Hp} {d l p : Addr} {xs ys : List V} (D : Deal H d l) (h : H p = some (.lst xs)) (n : p ≠ l) : Deal (upd H p (.lst ys)) d l := by
  obtain ⟨sd, m, ls, q⟩ := D
  exact ⟨sd, m, ls, by rw [upd_ne (ne_of q.dc h (by intro z; cases z))]; exact q.dc, by rw [upd_ne n.symm]; exact q.lc, q.s0, q.s1, q.n0, q.l0⟩
/-! shares that stand in both tables -/
def SomeR (H : Hp) (v : V) (s : (Int × Int) × (Int × Int)) : Prop := ∃ t p q, v = .ref t ∧ H t = some (.tup [.ref p, .ref q]) ∧ TupAt H p s.1.1 s.1.2 ∧ TupAt H q s.2.1 s.2.2 ∧ ShOk s.1 ∧ ShOk s.2 ∧ 1 ≤ s.2.1
theorem SomeR.ts {H H' : Hp} (t : TS H H') {v : V} {s : (Int × Int) × (Int × Int)} (h : SomeR H v s) : SomeR H' v s :=
  let ⟨a, p, q, e, h1, h2, h3, r⟩ := h; ⟨a, p, q, e, t _ _ h1, t _ _ h2, t _ _ h3, r⟩
def prD (s : (Int × Int) × (Int × Int)) : PyData := .tuple [fracD s.1.1 s.1.2, fracD s.2.1 s.2.2]
theorem pr_rep {K : PySem.W.Frag} {H : Hp} {v : V} {s : (Int × Int) × (Int × Int)} (h : SomeR H v s) : RepD K H (prD s) v := by
  obtain ⟨t, p, q, rfl, h1, h2, h3, _⟩ := h
  exact ⟨t, _, rfl, SqT.of h1, _, _, rfl, frac_rep h2, _, _, rfl, frac_rep h3, rfl⟩
theorem pr_lay : ∀ ss : List ((Int × Int) × (Int × Int)), PyData.canLayAll0 (ss.map prD) = true ∧ PyData.depthAll (ss.map prD) ≤ 2
  | [] => ⟨rfl, Nat.zero_le _⟩
  | a :: r => by
    obtain ⟨h1, h2⟩ := pr_lay r
    refine ⟨by simp [PyData.canLayAll0, prD, fracD, PyData.canLay0] at h1 ⊢; exact h1, ?_⟩
    have e : (prD a).depth ≤ 2 := by simp [prD, fracD, PyData.depth, PyData.depthAll]
    simp only [List.map_cons, PyData.depthAll] at h2 ⊢
    omega
theorem pr_shaped (ss : List ((Int × Int) × (Int × Int))) : SeqAt.shaped (.list (ss.map prD)) = true := by
  obtain ⟨h1, h2⟩ := pr_lay ss
  simp only [SeqAt.shaped, PyData.canLay0, h1, Bool.true_and]
  exact decide_eq_true (by simp only [PyData.depth]; omega)
theorem pr_list {K : PySem.W.Frag} {H : Hp} {r : Addr} {zs : List V} {ss : List ((Int × Int) × (Int × Int))} (h : H r = some (.lst zs)) (tw : Two (SomeR H) zs ss) : RepD K H (.list (ss.map prD)) (.ref r) :=
  ⟨r, zs, rfl, SqL.of h, tw.rep fun _ _ z => pr_rep z⟩
theorem fac_low {a b : Int} (ha : 0 ≤ a) (h1 : a < 2 ^ 40) (hb : 1 ≤ b) (h2 : b < 2 ^ 40) : FacOk (lowP a b) := by
  have := lowP_bd (N := 2 ^ 40) ha h1 hb h2
  exact ⟨this.1, this.2.1, this.2.2.1, this.2.2.2⟩
theorem dic_ne {H : Hp} {la : Addr} {ws : List V} (h : H la = some (.lst ws)) : ∀ {b : Bool} {d : Addr} {es : List En}, DicA b H d es → d ≠ la
  | false, _, _, ⟨_, e, _⟩ => ne_of e h (by intro z; cases z)
  | true, _, _, ⟨_, e, _⟩ => ne_of e h (by intro z; cases z)
/-! one entry more -/
theorem brk_pos {es2 xs : List En} {f : Int × Int} {e : En} (h : abv es2 f e = true) : brkA es2 f (xs ++ [e]) = brkA es2 f xs ++ [e.1] := by
  unfold brkA
  rw [List.filter_append, List.filter_cons_of_pos h, List.filter_nil, List.map_append]
  rfl
theorem brk_neg {es2 xs : List En} {f : Int × Int} {e : En} (h : ¬ abv es2 f e = true) : brkA es2 f (xs ++ [e]) = brkA es2 f xs := by
  unfold brkA
  rw [List.filter_append, List.filter_cons_of_neg h, List.filter_nil, List.append_nil]
theorem rest_pos {es2 xs : List En} {f : Int × Int} {e : En} (h : abv es2 f e = true) : restF es2 f (xs ++ [e]) = addF (restF es2 f xs) (subG e.2 (limF f (shA es2 e.1))) := by
  unfold restF restL
  rw [List.filter_append, List.filter_cons_of_pos h, List.filter_nil, List.map_append, List.foldl_append]
  rfl
theorem rest_neg {es2 xs : List En} {f : Int × Int} {e : En} (h : ¬ abv es2 f e = true) : restF es2 f (xs ++ [e]) = restF es2 f xs := by
  unfold restF restL
  rw [List.filter_append, List.filter_cons_of_neg h, List.filter_nil, List.append_nil]
theorem lacks_snoc {es2 xs : List En} {e : En} : lacks es2 (xs ++ [e]) = (lacks es2 xs || decide ((shA es2 e.1).1 = 0)) := by
  unfold lacks
  rw [List.any_append, List.any_cons, List.any_nil, Bool.or_false]
theorem gr_snoc {es2 xs : List En} {e : En} {g : Int × Int} : (xs ++ [e]).foldl (grStep es2) g = grStep es2 (xs.foldl (grStep es2) g) e := by
  rw [List.foldl_append]
  rfl
theorem gr_zero {es2 : List En} {e : En} {g : Int × Int} (h : (shA es2 e.1).1 = 0) : grStep es2 g e = g := by
  unfold grStep
  rw [if_pos h]
theorem gr_up {es2 : List En} {e : En} {g : Int × Int} (h : ¬ (shA es2 e.1).1 = 0) (c : ltF g (e.2.1 * (shA es2 e.1).2, e.2.2 * (shA es2 e.1).1) = true) : grStep es2 g e = quoF e.2 (shA es2 e.1) := by
  unfold grStep
  rw [if_neg h, if_pos c]
theorem gr_stay {es2 : List En} {e : En} {g : Int × Int} (h : ¬ (shA es2 e.1).1 = 0) (c : ¬ ltF g (e.2.1 * (shA es2 e.1).2, e.2.2 * (shA es2 e.1).1) = true) : grStep es2 g e = g := by
  unfold grStep
  rw [if_neg h, if_neg c]
theorem mulB {a b : Int} {m n : Nat} (a0 : 0 ≤ a) (a1 : a < 2 ^ m) (b0 : 0 ≤ b) (b1 : b < 2 ^ n) (h : m + n ≤ 180) : B72 (a * b) := by
  have := mul_bd a0 a1 b0 b1
  refine ⟨this.1, Int.lt_of_lt_of_le this.2 ?_⟩
  exact_mod_cast Nat.pow_le_pow_right (by decide : 0 < 2) h
/-! what is asked -/
def AskedV (H : Hp) (v : V) : Prop := ∃ t b t1 t2 p du c1 c2 es1 es2 f r br ws x, v = .ref t ∧ H t = some (.tup [.ref t1, .ref t2, .ref p, .ref du]) ∧ AskA b H t1 t2 p c1 c2 es1 es2 f ∧ DueA b H du es1 es2 f r br ws x
theorem AskedV.ts {H H' : Hp} {v : V} (s : TS H H') (h : AskedV H v) : AskedV H' v :=
  let ⟨t, b, t1, t2, p, du, c1, c2, es1, es2, f, r, br, ws, x, e, h1, h2, h3⟩ := h
  ⟨t, b, t1, t2, p, du, c1, c2, es1, es2, f, r, br, ws, x, e, s _ _ h1, h2.ts s, h3.ts s⟩
theorem AskedV.app {H : Hp} {d l lf : Addr} {ts : List V} {v : V} (DL : DealL H d l lf ts) (h : ∀ u ∈ ts, AskedV H u) (hv : AskedV H v) : ∀ u ∈ ts ++ [v], AskedV (upd H lf (.lst (ts ++ [v]))) u := fun u hu => by
  have s := TS.lst (ys := ts ++ [v]) DL.lst
  rcases List.mem_append.mp hu with q | q
  · exact (h u q).ts s
  · have : u = v := by simpa using q
    rw [this]
    exact hv.ts s
theorem self_rest {c : Int} {es : List En} (T : TabOk c es) : restF es (1, 1) es = (0, 1) ∧ brkA es (1, 1) es = [] := by
  unfold restF restL brkA
  rw [self_none T]
  exact ⟨rfl, rfl⟩
theorem one_ok : FacOk (1, 1) := ⟨by decide, by decide, by decide, by decide⟩
theorem AskA.rest {b : Bool} {H : Hp} {t1 t2 p : Addr} {c1 c2 : Int} {es1 es2 : List En} {f : Int × Int} (A : AskA b H t1 t2 p c1 c2 es1 es2 f) : Below (restF es2 f es1).1 ∧ Below (restF es2 f es1).2 := by
  have := (rest_safe A.o1.c1 A.o1.c2 A.o1.sh A.o1.l2 A.o2 A.of).2
  exact ⟨this.1.below, this.2.1.below⟩
theorem AskA.brk {b : Bool} {H : Hp} {t1 t2 p : Addr} {c1 c2 : Int} {es1 es2 : List En} {f : Int × Int} (A : AskA b H t1 t2 p c1 c2 es1 es2 f) : (∀ a ∈ brkA es2 f es1, AnOk a) ∧ (brkA es2 f es1).length ≤ 12 := by
  unfold brkA
  refine ⟨fun a ha => ?_, ?_⟩
  · obtain ⟨e, he, rfl⟩ := List.mem_map.mp ha
    exact A.o1.an e (List.mem_filter.mp he).1
  · rw [List.length_map]
    exact Nat.le_trans (List.length_filter_le _ _) A.o1.l2
theorem AskA.fac {b : Bool} {H : Hp} {t1 t2 p : Addr} {c1 c2 : Int} {es1 es2 : List En} {f : Int × Int} (A : AskA b H t1 t2 p c1 c2 es1 es2 f) : ∀ g, facF es2 es1 (0, 1) = some g → Below g.1 ∧ Below g.2 := fun g h => by
  have z : GrOk (0, 1) := ⟨by decide, by decide, by decide, by decide⟩
  rw [fac_eq A.o2 es1 (0, 1) z fun y hy => (A.o1.at hy).1] at h
  have G := gr_all A.o2 es1 (0, 1) z fun y hy => (A.o1.at hy).1
  split at h
  · cases h
  · cases h
    exact ⟨G.b1.1.below, G.b1.2.below⟩
theorem optv_ref {H : Hp} {v : V} : ∀ {o : Option (Int × Int)}, OptV H v o → optD o = .none ∧ v = .non ∨ ∃ p, v = .ref p
  | none, h => .inl ⟨rfl, h⟩
  | some _, ⟨q, e, _⟩ => .inr ⟨q, e⟩
theorem brk_rep {K : PySem.W.Frag} {b : Bool} {H : Hp} {r : Addr} {ws : List V} {as : List (List Int)} (h : H r = some (.tup ws)) (tw : Two (AnV b H) ws as) : RepD K H (.tuple (as.map (ansD b))) (.ref r) :=
  ⟨r, ws, rfl, SqT.of h, tw.rep fun _ _ z => ans_rep z⟩
end Mine
namespace Mine
open PySem L2
def top (i : Nat) : Stmt := PySem.Challenge.pw_pairedthrows_k28_least_rests_and_factors.main.body.getD i (.Pass ⟨0, 0, 0, 0⟩)
abbrev sGcd : Stmt := top 1
abbrev sLow : Stmt := top 2
abbrev sAdd : Stmt := top 3
abbrev sTimes : Stmt := top 4
abbrev sMinus : Stmt := top 5
abbrev sDivd : Stmt := top 6
abbrev sLess : Stmt := top 7
abbrev sCome : Stmt := top 9
abbrev sAbv : Stmt := top 11
abbrev sRest : Stmt := top 12
abbrev sBrk : Stmt := top 13
abbrev sLF : Stmt := top 14
abbrev sDeal : Stmt := top 16
abbrev sDraw : Stmt := top 17
abbrev sLLow : Stmt := top 18
abbrev sPool : Stmt := top 19
abbrev sShs : Stmt := top 20
abbrev sTwo : Stmt := top 21
abbrev sPlus : Stmt := top 22
abbrev sBlw : Stmt := top 23
abbrev sLTim : Stmt := top 24
abbrev sFac : Stmt := top 25
abbrev sDue : Stmt := top 26
abbrev sLaw : Stmt := top 27
section
variable {P : Program} {w : World} {K : PySem.W.Frag} {mg : Str → Option Value} {base : Heap}
theorem scDraw : FnScope ["_law_deal_here", "_law_many", "_law_number", "_law_one", "_law_other"] ["_law_deal_here", "_law_many"] (defScope sDraw) := ⟨rfl, rfl, rfl, by decide +kernel, rfl, by decide +kernel, by decide +kernel⟩
theorem ok_draw {f : Addr} {fd : FuncData} (F : Fun K "_law_draw" "_law_draw" sDraw f fd) (ml : mg "len" = none) : FnOk P w K mg base CX0 1 f fd ["_law_deal_here", "_law_many"] spDraw := by
  refine F.ok scDraw (fun vs H Q E h => ?_) (fun cdv A outer s H vs Q E hr h => ?_)
  · obtain ⟨d, l, m, rfl, _⟩ := h
    rfl
  obtain ⟨d, l, m, rfl, ⟨sd, n, ls, D⟩, hm0, hm1, k⟩ := h
  have hu := hu_of hr
  refine ⟨_, pss_cons (ps_while PassesOwn.never (pw_and (pt_cmpR op_eq (pe_dget hu (pv 0) pe_str (fun _ _ => rfl)) pe_int (nomark _)) (pw_and1 (pt_cmpR op_gt (pe_callB call_len_seq (by rfl) ml PySem.boot_len (pa_cons (pe_dget hu (pv 0) pe_str (fun _ _ => rfl)) pa_nil)) pe_int (nomark _)))).pt
      (pss_one (ps_dput hu (pv 0) pe_str (pe_bm0 PySem.F.plainAttrs_list PySem.F.slot_list_pop PySem.F.type_list_pop mt_pop (pe_dget hu (pv 0) pe_str (fun _ _ => rfl))) rfl)))
    (pss_cons (ps_set (i := 2) scDraw.nd rfl (Or.inl rfl) (pe_dget hu (pv 0) pe_str (fun _ _ => rfl)))
    (pss_cons (ps_if (pt_cmpR op_gt (pv 2) pe_int (nomark _))
      (pss_cons (ps_dput hu (pv 0) pe_str (pe_op op_fdivB (pv 2) (pv 1)) rfl) (pss_one (ps_ret (pe_op op_mod (pv 2) (pv 1))))) pss_nil)
    (pss_cons (ps_set (i := 3) scDraw.nd rfl (Or.inl rfl) (pe_op op_mod (pe_op op_add (pe_op op_mul (pe_dget hu (pv 0) pe_str (fun _ _ => rfl)) pe_int) pe_int) pe_int))
    (pss_cons (ps_dput hu (pv 0) pe_str (pe_op op_mod (pe_op op_add (pe_op op_mul (pv 3) pe_int) pe_int) pe_int) rfl)
    (pss_cons (ps_set (i := 4) scDraw.nd rfl (Or.inl rfl) (pe_op op_mod (pe_op op_mul (pe_dget hu (pv 0) pe_str (fun _ _ => rfl)) (pe_dget hu (pv 0) pe_str (fun _ _ => rfl))) pe_int))
    (pss_one (ps_ret (pe_op op_mod (pe_op op_add (pe_op op_mul (pe_op op_mod (pe_op op_mul (pv 3) (pv 3)) pe_int) pe_int) (pv 4)) (pv 1))))))))), ?_⟩
  -- the while: numbers are taken until one is above 0, or none is left
  refine ⟨fun j σ H1 => ∃ n' ls', σ = [some (.ref d), some (.int m), none, none, none] ∧ DealAt H1 d l sd n' ls' ∧ j = ls'.length ∧ Out d l H H1, ⟨_, n, ls, rfl, D, rfl, Out.refl H⟩, ?_⟩
  rintro j σ H1 ⟨n', ls', rfl, D1, rfl, o1⟩
  refine ⟨_, rfl, d, _, rfl, D1.gn, rfl, _, rfl, ?_⟩
  refine ite2 (fun c => ?a) (fun c => iteF ?b)
  case' a => refine ⟨_, rfl, d, _, rfl, D1.gl, l, _, rfl, .inl (SqL.of D1.lc), _, _, rfl, rfl, _, rfl, ?_⟩
  case' a => refine ite2 (fun c2 => ?loop) (fun c2 => ?b2)
  case loop =>
      -- one is popped
      have hl : 0 < ls'.length := by
        have := of_decide_eq_true c2
        simpa using this
      obtain ⟨z, hz⟩ : ∃ z, ls'[ls'.length - 1]? = some z := ⟨ls'[ls'.length - 1], by simp⟩
      have hz2 : (ls'.map V.int)[(ls'.map V.int).length - 1]? = some (.int z) := by rw [List.length_map, List.getElem?_map, hz]; rfl
      have z0 : 0 ≤ z := D1.l0 z (List.mem_of_getElem? hz)
      have D2 : DealAt (upd H1 l (.lst (ls'.dropLast.map V.int))) d l sd n' ls'.dropLast := D1.left fun x hx => D1.l0 x (List.dropLast_subset _ hx)
      refine ⟨fun σ' H' => σ' = [some (.ref d), some (.int m), none, none, none] ∧ DealAt H' d l sd z ls'.dropLast ∧ Out d l H H', fun σ' H' q => ⟨_, by rw [List.length_dropLast]; omega, z, ls'.dropLast, q.1, q.2.1, rfl, q.2.2⟩, ?_⟩
      refine ⟨_, rfl, d, _, rfl, D1.gl, .inl ⟨rfl, _, SqL.of D1.lc⟩, l, _, _, rfl, rfl, D1.lc, hz2, ?_⟩
      have e : ∀ (o : List V), (ls'.map V.int).dropLast = o → upd H1 l (.lst (ls'.map V.int).dropLast) = upd H1 l (.lst o) := fun o e => by rw [e]
      rw [e _ List.map_dropLast.symm]
      refine ⟨_, rfl, d, _, rfl, D2.pn z, rfl, D2.number z0, o1.trans (Out.upd_l.trans Out.upd_d)⟩
  all_goals
    refine ⟨_, rfl, d, _, rfl, D1.gn, ?_⟩
    refine ⟨_, rfl, _, _, rfl, rfl, _, rfl, ?_⟩
    refine ite2 (fun c3 => ?_) (fun c3 => ?_)
    · have hp : 0 < n' := of_decide_eq_true c3
      refine ⟨_, rfl, _, rfl, _, _, rfl, rfl, ⟨hm0, by omega⟩, _, rfl, d, _, rfl, D1.pn (n' / m), ?_⟩
      refine ⟨_, rfl, _, rfl, _, _, rfl, rfl, hm0, ?_⟩
      exact k _ _ (Int.emod_nonneg _ (by omega)) (Int.emod_lt_of_pos _ hm0) ⟨_, _, _, D1.number (Int.ediv_nonneg (by omega) (by omega))⟩ (o1.trans Out.upd_d)
    · -- a number by the seed
      have q1 : (0 : Int) < 2147483647 := by decide
      refine ⟨_, rfl, d, _, rfl, D1.gs, _, _, rfl, rfl, .inr ⟨by decide, by decide⟩, _, _, rfl, rfl, _, _, rfl, rfl, q1, ?_⟩
      have q2 : (0 : Int) < 2147483399 := by decide
      refine ⟨_, rfl, _, _, rfl, rfl, .inr ⟨by decide, by decide⟩, _, _, rfl, rfl, _, _, rfl, rfl, q2, _, rfl, d, _, rfl, D1.ps _, ?_⟩
      have D2 := D1.seed (v := ((sd * 48271 + 7919) % 2147483647 * 40692 + 104729) % 2147483399) (by omega) (by omega)
      have q3 : (0 : Int) < 2147483563 := by decide
      have q4 : (0 : Int) < 2147483629 := by decide
      refine ⟨_, rfl, d, _, rfl, D2.gs, _, rfl, d, _, rfl, D2.gs, _, _, rfl, rfl, .inr ⟨by omega, by omega⟩, _, _, rfl, rfl, q3, ?_⟩
      refine ⟨_, rfl, _, rfl, _, _, rfl, rfl, .inr ⟨by omega, by omega⟩, _, _, rfl, rfl, q4, _, _, rfl, rfl, .inr ⟨by decide, by decide⟩, _, rfl, _, _, rfl, rfl, _, rfl, _, _, rfl, rfl, hm0, ?_⟩
      exact k _ _ (Int.emod_nonneg _ (by omega)) (Int.emod_lt_of_pos _ hm0) ⟨_, _, _, D2⟩ (o1.trans Out.upd_d)
end
end Mine
namespace Mine
open PySem L2
theorem merge_deal (x n : Int) (l : Addr) : mergeK [] (dealK x n l) = dealK x n l := by
  unfold mergeK dealK
  simp only [List.foldl_cons, List.foldl_nil]
  have e1 : putK ([] : List (Key × V)) (Sum.inr ("seed" : Str)) (V.int x) = [(Sum.inr ("seed" : Str), V.int x)] := rfl
  have e2 : putK [(Sum.inr ("seed" : Str), V.int x)] (Sum.inr ("number" : Str) : Key) (V.int n) = [(Sum.inr ("seed" : Str), V.int x), (Sum.inr ("number" : Str), V.int n)] := putK_new _ (by rw [valV_neg ksn, valV_nil])
  have e3 : putK [(Sum.inr ("seed" : Str), V.int x), (Sum.inr ("number" : Str), V.int n)] (Sum.inr ("left" : Str) : Key) (V.ref l) = [(Sum.inr ("seed" : Str), V.int x), (Sum.inr ("number" : Str), V.int n)] ++ [(Sum.inr ("left" : Str), V.ref l)] := putK_new _ (by rw [valV_neg ksl, valV_neg knl, valV_nil])
  rw [e1, e2, e3]
  rfl
theorem ndCell : (["_law_cell"] : List Str).Nodup := by decide +kernel
theorem cut_ints (ns : List Int) (lo hi : Option Int) : ∃ ms : List Int, cutV (ns.map V.int) lo hi = ms.map V.int ∧ ms.length ≤ ns.length := by
  refine ⟨(ns.drop (HT.sIx ns.length 0 lo)).take (HT.sIx ns.length ns.length hi - HT.sIx ns.length 0 lo), ?_, ?_⟩
  · unfold cutV
    rw [List.length_map, List.map_take, List.map_drop]
  · rw [List.length_take, List.length_drop]; omega
section
variable {P : Program} {w : World} {K : PySem.W.Frag} {mg : Str → Option Value} {base : Heap}
theorem scDeal : FnScope ["_law_script", "_law_base", "_law_cells", "_law_number", "_law_cell"] ["_law_script", "_law_base"] (defScope sDeal) := ⟨rfl, rfl, rfl, by decide +kernel, rfl, by decide +kernel, by decide +kernel⟩
theorem ok_deal {f : Addr} {fd : FuncData} (F : Fun K "_law_deal" "_law_deal" sDeal f fd) (mm : mg "max" = none) (mr : mg "reversed" = none) (ml : mg "list" = none) : FnOk P w K mg base CX0 1 f fd ["_law_script", "_law_base"] (spDeal K) := by
  refine F.ok scDeal (fun vs H Q E h => ?_) (fun cdv A outer s H vs Q E hr h => ?_)
  · obtain ⟨a, ns, b, rfl, _⟩ := h
    rfl
  obtain ⟨a, ns, b, rfl, hS, hlen, hb0, hb1, k⟩ := h
  refine ⟨_, pss_cons (ps_setC ["_law_cell"] [none] (i := 2) scDeal.nd rfl (Or.inl rfl) (pi_list (pe_slice sl_list (pv 0) (po_some (pv 1)) (po_some pe_int)))
      (fun _ _ _ _ => pg_name (i := 0) ndCell rfl (Or.inl rfl)) (fun _ _ _ _ => pf_nil) (fun _ _ _ _ => pe_callB (call_max2 rfl) (by rfl) mm PyProof.Rows.boot_max (pa_cons (pv 0) (pa_cons (pe_op op_sub pe_int (pv 0)) pa_nil))))
    (pss_cons (ps_set (i := 3) scDeal.nd rfl (Or.inl rfl) (pe_op op_add pe_int (pv 1)))
    (pss_cons (ps_for PassesOwn.never rfl (pi_list (pv 2)) (pg_name (i := 4) scDeal.nd rfl (Or.inl rfl))
      (pss_one (ps_set (i := 3) scDeal.nd rfl (Or.inl rfl) (pe_op op_mod (pe_op op_add (pe_op op_mul (pv 3) pe_int) (pe_op op_mod (pv 4) pe_int)) pe_int))))
    (pss_one (ps_ret (pe_disp (pps_cons pe_str (pv 3) (pps_cons pe_str pe_int (pps_cons pe_str (pe_listrev (pe_comp ["_law_cell"] [none] (pi_list (pv 2))
      (fun _ _ _ _ => pg_name (i := 0) ndCell rfl (Or.inl rfl)) (fun _ _ _ _ => pf_one (pt_cmpR op_ge (pv 0) (pe_op op_pow pe_int pe_int) (nomark _))) (fun _ _ _ _ => pv 0)) (by rfl) ml (by rfl) mr) pps_nil))) rfl rfl (by decide) (by decide)))))), ?_⟩
  -- cells: the greatness of each
  refine ⟨_, rfl, _, rfl, _, rfl, _, rfl, a, _, rfl, hS, fun p1 np1 => ?_⟩
  obtain ⟨ms, em, hms⟩ := cut_ints ns (some b) (some 63)
  have g1 : Same H (upd H p1 (.lst (cutV (ns.map V.int) (some b) (some 63)))) := same_new np1 _
  have hp1 : SqL K (upd H p1 (.lst (cutV (ns.map V.int) (some b) (some 63)))) p1 (ms.map V.int) := by rw [em]; exact SqL.of upd_same
  generalize upd H p1 (.lst (cutV (ns.map V.int) (some b) (some 63))) = H1 at g1 hp1 ⊢
  refine ⟨p1, rfl, ⟨_, hp1⟩, comp_list (xs := ms.map V.int) (fun i ys σ H2 => H2 = H1 ∧ (∃ v, σ = [v]) ∧ ∃ cs : List Int, ys = cs.map V.int ∧ cs.length = i ∧ ∀ x ∈ cs, 0 ≤ x)
    (by rw [List.length_map]; exact small1000 (by omega)) ⟨rfl, ⟨_, rfl⟩, [], rfl, rfl, fun _ z => nomatch z⟩ (fun i ys σ H2 ⟨_, _, cs, e1, e2, _⟩ => by rw [e1, List.length_map]; omega) (fun i ys σ H2 _ ⟨e, _⟩ => by rw [e]; exact hp1) ?_ ?_⟩
  · rintro i x ys σ H2 hx ⟨rfl, ⟨v, rfl⟩, cs, rfl, rfl, h0⟩
    obtain ⟨z, rfl, _⟩ := ints_at hx
    refine ⟨_, rfl, _, rfl, _, _, rfl, rfl, _, _, rfl, rfl, ⟨_, rfl⟩, cs ++ [if 0 - z > z then 0 - z else z], by rw [List.map_append]; rfl, by rw [List.length_append]; rfl, fun x hx => ?_⟩
    rcases List.mem_append.mp hx with q | q
    · exact h0 x q
    · have e : x = if 0 - z > z then 0 - z else z := by simpa using q
      rw [e]; split <;> omega
  rintro ys σ H2 ⟨rfl, _, cs, rfl, hcs, h0⟩ p2 np2
  have hm63 : cs.length ≤ 63 := by rw [List.length_map] at hcs; omega
  have g2 : Same H2 (upd H2 p2 (.lst (cs.map V.int))) := same_new np2 _
  have hp2 : SqL K (upd H2 p2 (.lst (cs.map V.int))) p2 (cs.map V.int) := SqL.of upd_same
  generalize upd H2 p2 (.lst (cs.map V.int)) = H3 at g2 hp2 ⊢
  -- number = 7919 + base
  refine ⟨_, rfl, _, _, rfl, rfl, ?_⟩
  -- for cell in cells
  refine ⟨_, rfl, p2, rfl, ⟨_, hp2⟩, for_list (K := K) (a := p2) (xs := cs.map V.int) (fun i σ H4 => H4 = H3 ∧ ∃ (x : Int) (v : Option V), σ = [some (.ref a), some (.int b), some (.ref p2), some (.int x), v] ∧ 0 ≤ x ∧ x < 2147483647)
    ⟨rfl, 7919 + b, none, rfl, by omega, by omega⟩ (fun i σ H4 _ ⟨e, _⟩ => by rw [e]; exact hp2) ?_ ?_⟩
  · rintro i y σ H4 hi ⟨rfl, x, v, rfl, x0, x1⟩
    obtain ⟨z, rfl, _⟩ := ints_at hi
    have q1 : (0 : Int) < 2147483629 := by decide
    have q2 : (0 : Int) < 2147483647 := by decide
    refine ⟨_, rfl, _, _, rfl, rfl, .inr ⟨by decide, by decide⟩, _, rfl, _, _, rfl, rfl, q1, _, _, rfl, rfl, _, _, rfl, rfl, q2, rfl, _, _, rfl, ?_, ?_⟩
    · exact Int.emod_nonneg _ (by decide)
    · exact Int.emod_lt_of_pos _ q2
  rintro σ H4 ⟨rfl, x, v, rfl, x0, x1⟩
  -- the dict
  intro d nd
  have g4 : Same H4 (upd H4 d (.dK [])) := same_new nd _
  have hd4 : upd H4 d (.dK []) d = some (.dK []) := upd_same
  have hp4 := g4.seq hp2
  refine ⟨_, rfl, _, rfl, p2, rfl, ⟨_, hp4⟩, ?_⟩
  generalize upd H4 d (.dK []) = H5 at g4 hd4 hp4 ⊢
  refine comp_list (xs := cs.map V.int) (fun i ys σ H6 => H6 = H5 ∧ (∃ v, σ = [v]) ∧ ∃ ls : List Int, ys = ls.map V.int ∧ ls.length ≤ i ∧ ∀ x ∈ ls, 0 ≤ x)
    (by rw [List.length_map]; exact small1000 (by omega)) ⟨rfl, ⟨_, rfl⟩, [], rfl, Nat.le_refl _, fun _ z => nomatch z⟩ (fun i ys σ H2 ⟨_, _, cs, e1, e2, _⟩ => by rw [e1, List.length_map]; omega) (fun i ys σ H2 _ ⟨e, _⟩ => by rw [e]; exact hp4) ?_ ?_
  · rintro i y ys σ H6 hy ⟨rfl, ⟨v', rfl⟩, ls, rfl, hl, l0⟩
    obtain ⟨z, rfl, hz⟩ := ints_at hy
    have z0 : 0 ≤ z := h0 z (List.mem_of_getElem? hz)
    refine ⟨_, rfl, _, _, rfl, rfl, ⟨by decide, by decide, by decide⟩, _, _, rfl, rfl, _, rfl, ?_⟩
    refine ite2 (fun c => ?_) (fun c => ?_)
    · refine ⟨_, rfl, rfl, ⟨_, rfl⟩, ls ++ [z], by rw [List.map_append]; rfl, by rw [List.length_append]; show ls.length + 1 ≤ i + 1; omega, fun x hx => ?_⟩
      rcases List.mem_append.mp hx with q | q
      · exact l0 x q
      · have e : x = z := by simpa using q
        rw [e]; exact z0
    · exact ⟨rfl, ⟨_, rfl⟩, ls, rfl, Nat.le_succ_of_le hl, l0⟩
  rintro ys σ H6 ⟨rfl, _, ls, rfl, hl, l0⟩ p3 np3
  have g5 : Same H6 (upd H6 p3 (.lst (ls.map V.int))) := same_new np3 _
  refine ⟨p3, _, rfl, SqL.of upd_same, fun l nl => ?_⟩
  generalize upd H6 p3 (.lst (ls.map V.int)) = H7 at g5 nl ⊢
  have g6 : Same H7 (upd H7 l (.lst (ls.map V.int).reverse)) := same_new nl _
  have hd7 : H7 d = some (.dK []) := g5 _ _ hd4
  refine ⟨g6 _ _ hd7, dealK x 0 l, rfl, by show 3 ≤ 15; decide, ?_⟩
  have em : mergeK [] (dealK x 0 l) = dealK x 0 l := merge_deal _ _ _
  have neld : l ≠ d := fun z => by rw [z] at nl; rw [nl] at hd7; cases hd7
  refine k d l _ ?_ ?_ ⟨x, 0, ls.reverse, ⟨by rw [em]; exact upd_same, by rw [upd_ne neld, upd_same, List.map_reverse], x0, x1, Int.le_refl 0, fun y hy => l0 y (by simpa using hy)⟩⟩ ?_
  · exact (g1.trans g2).free nd
  · exact (g1.trans (g2.trans (g4.trans g5))).free nl
  · intro c o e
    rw [upd_ne (ne_of_none e ((g1.trans g2).free nd))]
    exact (g1.trans (g2.trans (g4.trans (g5.trans g6)))) c o e
end
end Mine
namespace Mine
open PySem L2
section
variable {P : Program} {w : World} {K : PySem.W.Frag} {mg : Str → Option Value} {base : Heap}
theorem scGcd : FnScope ["one", "other", "remainder"] ["one", "other"] (defScope sGcd) := ⟨rfl, rfl, rfl, by decide +kernel, rfl, by decide +kernel, by decide +kernel⟩
theorem ok_Gcd {f : Addr} {fd : FuncData} (F : Fun K "common_divisor" "common_divisor" sGcd f fd)
     :
    FnOk P w K mg base CX0 1 f fd ["one", "other"] spGcd := by
  refine F.ok scGcd (fun vs H Q E h => ?_) (fun cdv A outer s H vs Q E hr h => ?_)
  · obtain ⟨a, b, rfl, _⟩ := h
    rfl
  obtain ⟨a, b, rfl, ha, hb, k⟩ := h
  have hu := hu_of hr
  refine ⟨_, (pss_cons (ps_while PassesOwn.never (pt_cmpR op_ne (pv 1) pe_int (nomark _))
    (pss_cons (ps_set (i := 2) scGcd.nd rfl (Or.inl rfl) (pe_op op_mod (pv 0) (pv 1)))
    (pss_cons (ps_set (i := 0) scGcd.nd rfl (Or.inl rfl) (pv 1))
    (pss_one (ps_set (i := 1) scGcd.nd rfl (Or.inl rfl) (pv 2))))))
    (pss_one (ps_ret (pv 0)))), ?_⟩
  refine ⟨fun j σ H1 => H1 = H ∧ ∃ (x y : Int) (r : Option V), σ = [some (.int x), some (.int y), r] ∧ 0 ≤ x ∧ 0 ≤ y ∧ gI x y = gI a b ∧ j = y.toNat, ⟨_, rfl, a, b, none, rfl, ha, hb, rfl, rfl⟩, ?_⟩
  rintro j σ H1 ⟨rfl, x, y, r, rfl, hx, hy, hg, rfl⟩
  refine ⟨_, rfl, rfl, _, rfl, ?_⟩
  by_cases y0 : y = 0
  · subst y0
    refine iteNS rfl ⟨_, rfl, ?_⟩
    rw [← hg, gcd_end hx] at k
    exact k
  · have yp : 0 < y := by omega
    have e : (!decide (V.int y = V.int 0)) = true := by simp [y0]
    rw [e]
    refine ⟨fun σ' H' => H' = H1 ∧ ∃ r', σ' = [some (.int y), some (.int (x % y)), r'], fun σ' H' ⟨e1, r', e2⟩ => ⟨(x % y).toNat, ?_, e1, y, x % y, r', e2, hy, Int.emod_nonneg _ y0, (step_gcd hx yp).trans hg, rfl⟩, ?_⟩
    · have := Int.emod_lt_of_pos x yp
      have := Int.emod_nonneg x y0
      omega
    · exact ⟨_, rfl, _, rfl, _, _, rfl, rfl, yp, _, rfl, _, rfl, rfl, _, rfl⟩
theorem scLow : FnScope ["top", "bottom", "divisor"] ["top", "bottom"] (defScope sLow) := ⟨rfl, rfl, rfl, by decide +kernel, rfl, by decide +kernel, by decide +kernel⟩
theorem ok_Low {f : Addr} {fd : FuncData} (F : Fun K "lowest" "lowest" sLow f fd)
    {f_Gcd : Addr} {d_Gcd : FuncData} (G_Gcd : FnOk P w K mg base CX0 1 f_Gcd d_Gcd ["one", "other"] spGcd) (b_Gcd : Binds K d_Gcd ["one", "other"] []) (k_Gcd : PySem.W.keepIn K (.ref f_Gcd) = true) (m_Gcd : mg "common_divisor" = some (.ref f_Gcd))
     :
    FnOk P w K mg base CX0 2 f fd ["top", "bottom"] spLow := by
  refine F.ok scLow (fun vs H Q E h => ?_) (fun cdv A outer s H vs Q E hr h => ?_)
  · obtain ⟨a, b, rfl, _⟩ := h
    rfl
  obtain ⟨a, b, rfl, ha, hb, hz, k⟩ := h
  have hu := hu_of hr
  have hr1 : Room 1 _ := hr.mono (by decide)
  refine ⟨_, (pss_cons (ps_set (i := 2) scLow.nd rfl (Or.inl rfl) (pe_call G_Gcd hr1 (by rfl) m_Gcd k_Gcd b_Gcd .nil pass0 (pa_cons (pv 0) (pa_cons (pv 1) pa_nil))))
    (pss_one (ps_ret (pe_tup (pa_cons (pe_op op_fdivC (pv 0) (pv 2)) (pa_cons (pe_op op_fdivC (pv 1) (pv 2)) pa_nil)))))), ?_⟩
  have g0 : 0 < gI a b := gI_pos hb
  have g1 : gI a b < 2 ^ 200 * 2 ^ 200 := Int.lt_of_le_of_lt (gI_le hb) hz
  refine ⟨_, rfl, _, rfl, a, b, rfl, ha, by omega, ?_⟩
  refine ⟨_, rfl, _, rfl, _, _, rfl, rfl, ⟨g0, g1⟩, _, rfl, _, rfl, _, _, rfl, rfl, ⟨g0, g1⟩, by show 2 ≤ sizeLine; decide, fun p hp => k p hp⟩
theorem scAdd : FnScope ["one", "other"] ["one", "other"] (defScope sAdd) := ⟨rfl, rfl, rfl, by decide +kernel, rfl, by decide +kernel, by decide +kernel⟩
theorem ok_Add {f : Addr} {fd : FuncData} (F : Fun K "added" "added" sAdd f fd)
    {f_Low : Addr} {d_Low : FuncData} (G_Low : FnOk P w K mg base CX0 2 f_Low d_Low ["top", "bottom"] spLow) (b_Low : Binds K d_Low ["top", "bottom"] []) (k_Low : PySem.W.keepIn K (.ref f_Low) = true) (m_Low : mg "lowest" = some (.ref f_Low))
     :
    FnOk P w K mg base CX0 3 f fd ["one", "other"] spAdd := by
  refine F.ok scAdd (fun vs H Q E h => ?_) (fun cdv A outer s H vs Q E hr h => ?_)
  · obtain ⟨p, q, u, e, rfl, _⟩ := h
    rfl
  obtain ⟨p, q, ⟨a, b⟩, ⟨c, d⟩, rfl, hp, hq, ⟨ha, hb, b1⟩, ⟨hc, hd, d1⟩, k⟩ := h
  have hu := hu_of hr
  have hr1 : Room 1 _ := hr.mono (by decide)
  have hr2 : Room 2 _ := hr.mono (by decide)
  refine ⟨_, (pss_one (ps_ret (pe_call G_Low hr2 (by rfl) m_Low k_Low b_Low .nil pass0 (pa_cons (pe_op op_add (pe_op op_mulB (pe_ix ix_tup (pv 0) pe_int (fun _ _ => rfl)) (pe_ix ix_tup (pv 1) pe_int (fun _ _ => rfl))) (pe_op op_mulB (pe_ix ix_tup (pv 1) pe_int (fun _ _ => rfl)) (pe_ix ix_tup (pv 0) pe_int (fun _ _ => rfl)))) (pa_cons (pe_op op_mulB (pe_ix ix_tup (pv 0) pe_int (fun _ _ => rfl)) (pe_ix ix_tup (pv 1) pe_int (fun _ _ => rfl))) pa_nil))))), ?_⟩
  replace ha : B72 a := ha
  replace hb : B72 b := hb
  replace hc : B72 c := hc
  replace hd : B72 d := hd
  replace b1 : 1 ≤ b := b1
  replace d1 : 1 ≤ d := d1

  have m1 := mul_bd ha.1 ha.2 hd.1 hd.2
  have m0 := mul_bd hc.1 hc.2 hb.1 hb.2
  have m2 := mul_bd hb.1 hb.2 hd.1 hd.2
  have m3 : 1 ≤ b * d := by have := Int.mul_pos (show 0 < b by omega) (show 0 < d by omega); omega
  refine ⟨_, rfl, p, _, _, _, rfl, rfl, SqT.of hp, ix0 a b, _, rfl, q, _, _, _, rfl, rfl, SqT.of hq, ix1 c d, _, _, rfl, rfl, ⟨ha.below, hd.below⟩, ?_⟩
  refine ⟨_, rfl, q, _, _, _, rfl, rfl, SqT.of hq, ix0 c d, _, rfl, p, _, _, _, rfl, rfl, SqT.of hp, ix1 a b, _, _, rfl, rfl, ⟨hc.below, hb.below⟩, _, _, rfl, rfl, ?_⟩
  refine ⟨_, rfl, p, _, _, _, rfl, rfl, SqT.of hp, ix1 a b, _, rfl, q, _, _, _, rfl, rfl, SqT.of hq, ix1 c d, _, _, rfl, rfl, ⟨hb.below, hd.below⟩, ?_⟩
  exact ⟨_, _, rfl, by omega, m3, Int.lt_trans m2.2 (by decide), k⟩
theorem scTimes : FnScope ["one", "other"] ["one", "other"] (defScope sTimes) := ⟨rfl, rfl, rfl, by decide +kernel, rfl, by decide +kernel, by decide +kernel⟩
theorem ok_Times {f : Addr} {fd : FuncData} (F : Fun K "times" "times" sTimes f fd)
    {f_Low : Addr} {d_Low : FuncData} (G_Low : FnOk P w K mg base CX0 2 f_Low d_Low ["top", "bottom"] spLow) (b_Low : Binds K d_Low ["top", "bottom"] []) (k_Low : PySem.W.keepIn K (.ref f_Low) = true) (m_Low : mg "lowest" = some (.ref f_Low))
     :
    FnOk P w K mg base CX0 3 f fd ["one", "other"] spTimes := by
  refine F.ok scTimes (fun vs H Q E h => ?_) (fun cdv A outer s H vs Q E hr h => ?_)
  · obtain ⟨p, q, a, b, c, d, rfl, _⟩ := h
    rfl
  obtain ⟨p, q, a, b, c, d, rfl, hp, hq, ha, hb, hc, hd, b1, d1, k⟩ := h
  have hu := hu_of hr
  have hr1 : Room 1 _ := hr.mono (by decide)
  have hr2 : Room 2 _ := hr.mono (by decide)
  refine ⟨_, (pss_one (ps_ret (pe_call G_Low hr2 (by rfl) m_Low k_Low b_Low .nil pass0 (pa_cons (pe_op op_mulB (pe_ix ix_tup (pv 0) pe_int (fun _ _ => rfl)) (pe_ix ix_tup (pv 1) pe_int (fun _ _ => rfl))) (pa_cons (pe_op op_mulB (pe_ix ix_tup (pv 0) pe_int (fun _ _ => rfl)) (pe_ix ix_tup (pv 1) pe_int (fun _ _ => rfl))) pa_nil))))), ?_⟩
  have m1 := mul_bd ha.1 ha.2 hc.1 hc.2
  have m2 := mul_bd hb.1 hb.2 hd.1 hd.2
  have m3 : 1 ≤ b * d := by have := Int.mul_pos (show 0 < b by omega) (show 0 < d by omega); omega
  refine ⟨_, rfl, p, _, _, _, rfl, rfl, SqT.of hp, ix0 a b, _, rfl, q, _, _, _, rfl, rfl, SqT.of hq, ix0 c d, _, _, rfl, rfl, ⟨ha.below, hc.below⟩, ?_⟩
  refine ⟨_, rfl, p, _, _, _, rfl, rfl, SqT.of hp, ix1 a b, _, rfl, q, _, _, _, rfl, rfl, SqT.of hq, ix1 c d, _, _, rfl, rfl, ⟨hb.below, hd.below⟩, ?_⟩
  exact ⟨_, _, rfl, m1.1, m3, Int.lt_trans m2.2 (by decide), k⟩
theorem scMinus : FnScope ["one", "other"] ["one", "other"] (defScope sMinus) := ⟨rfl, rfl, rfl, by decide +kernel, rfl, by decide +kernel, by decide +kernel⟩
theorem ok_Minus {f : Addr} {fd : FuncData} (F : Fun K "minus" "minus" sMinus f fd)
    {f_Low : Addr} {d_Low : FuncData} (G_Low : FnOk P w K mg base CX0 2 f_Low d_Low ["top", "bottom"] spLow) (b_Low : Binds K d_Low ["top", "bottom"] []) (k_Low : PySem.W.keepIn K (.ref f_Low) = true) (m_Low : mg "lowest" = some (.ref f_Low))
     :
    FnOk P w K mg base CX0 3 f fd ["one", "other"] spMinus := by
  refine F.ok scMinus (fun vs H Q E h => ?_) (fun cdv A outer s H vs Q E hr h => ?_)
  · obtain ⟨p, q, a, b, c, d, rfl, _⟩ := h
    rfl
  obtain ⟨p, q, a, b, c, d, rfl, hp, hq, ha, hb, hc, hd, b1, d1, hle, k⟩ := h
  have hu := hu_of hr
  have hr1 : Room 1 _ := hr.mono (by decide)
  have hr2 : Room 2 _ := hr.mono (by decide)
  refine ⟨_, (pss_one (ps_ret (pe_call G_Low hr2 (by rfl) m_Low k_Low b_Low .nil pass0 (pa_cons (pe_op op_sub (pe_op op_mulB (pe_ix ix_tup (pv 0) pe_int (fun _ _ => rfl)) (pe_ix ix_tup (pv 1) pe_int (fun _ _ => rfl))) (pe_op op_mulB (pe_ix ix_tup (pv 1) pe_int (fun _ _ => rfl)) (pe_ix ix_tup (pv 0) pe_int (fun _ _ => rfl)))) (pa_cons (pe_op op_mulB (pe_ix ix_tup (pv 0) pe_int (fun _ _ => rfl)) (pe_ix ix_tup (pv 1) pe_int (fun _ _ => rfl))) pa_nil))))), ?_⟩
  have m2 := mul_bd hb.1 hb.2 hd.1 hd.2
  have m3 : 1 ≤ b * d := by have := Int.mul_pos (show 0 < b by omega) (show 0 < d by omega); omega
  refine ⟨_, rfl, p, _, _, _, rfl, rfl, SqT.of hp, ix0 a b, _, rfl, q, _, _, _, rfl, rfl, SqT.of hq, ix1 c d, _, _, rfl, rfl, ⟨ha.below, hd.below⟩, ?_⟩
  refine ⟨_, rfl, q, _, _, _, rfl, rfl, SqT.of hq, ix0 c d, _, rfl, p, _, _, _, rfl, rfl, SqT.of hp, ix1 a b, _, _, rfl, rfl, ⟨hc.below, hb.below⟩, _, _, rfl, rfl, ?_⟩
  refine ⟨_, rfl, p, _, _, _, rfl, rfl, SqT.of hp, ix1 a b, _, rfl, q, _, _, _, rfl, rfl, SqT.of hq, ix1 c d, _, _, rfl, rfl, ⟨hb.below, hd.below⟩, ?_⟩
  exact ⟨_, _, rfl, by omega, m3, Int.lt_trans m2.2 (by decide), k⟩
theorem scDivd : FnScope ["one", "other"] ["one", "other"] (defScope sDivd) := ⟨rfl, rfl, rfl, by decide +kernel, rfl, by decide +kernel, by decide +kernel⟩
theorem ok_Divd {f : Addr} {fd : FuncData} (F : Fun K "divided" "divided" sDivd f fd)
    {f_Low : Addr} {d_Low : FuncData} (G_Low : FnOk P w K mg base CX0 2 f_Low d_Low ["top", "bottom"] spLow) (b_Low : Binds K d_Low ["top", "bottom"] []) (k_Low : PySem.W.keepIn K (.ref f_Low) = true) (m_Low : mg "lowest" = some (.ref f_Low))
     :
    FnOk P w K mg base CX0 3 f fd ["one", "other"] spDiv := by
  refine F.ok scDivd (fun vs H Q E h => ?_) (fun cdv A outer s H vs Q E hr h => ?_)
  · obtain ⟨p, q, u, e, rfl, _⟩ := h
    rfl
  obtain ⟨p, q, ⟨a, b⟩, ⟨c, d⟩, rfl, hp, hq, ⟨ha, hb, b1⟩, ⟨hc, hd, d1⟩, c1, k⟩ := h
  have hu := hu_of hr
  have hr1 : Room 1 _ := hr.mono (by decide)
  have hr2 : Room 2 _ := hr.mono (by decide)
  refine ⟨_, (pss_one (ps_ret (pe_call G_Low hr2 (by rfl) m_Low k_Low b_Low .nil pass0 (pa_cons (pe_op op_mulB (pe_ix ix_tup (pv 0) pe_int (fun _ _ => rfl)) (pe_ix ix_tup (pv 1) pe_int (fun _ _ => rfl))) (pa_cons (pe_op op_mulB (pe_ix ix_tup (pv 0) pe_int (fun _ _ => rfl)) (pe_ix ix_tup (pv 1) pe_int (fun _ _ => rfl))) pa_nil))))), ?_⟩
  replace ha : B72 a := ha
  replace hb : B72 b := hb
  replace hc : B72 c := hc
  replace hd : B72 d := hd
  replace b1 : 1 ≤ b := b1
  replace d1 : 1 ≤ d := d1

  replace c1 : 1 ≤ c := c1
  have m1 := mul_bd ha.1 ha.2 hd.1 hd.2
  have m2 := mul_bd hb.1 hb.2 hc.1 hc.2
  have m3 : 1 ≤ b * c := by have := Int.mul_pos (show 0 < b by omega) (show 0 < c by omega); omega
  refine ⟨_, rfl, p, _, _, _, rfl, rfl, SqT.of hp, ix0 a b, _, rfl, q, _, _, _, rfl, rfl, SqT.of hq, ix1 c d, _, _, rfl, rfl, ⟨ha.below, hd.below⟩, ?_⟩
  refine ⟨_, rfl, p, _, _, _, rfl, rfl, SqT.of hp, ix1 a b, _, rfl, q, _, _, _, rfl, rfl, SqT.of hq, ix0 c d, _, _, rfl, rfl, ⟨hb.below, hc.below⟩, ?_⟩
  exact ⟨_, _, rfl, m1.1, m3, Int.lt_trans m2.2 (by decide), k⟩
theorem scLess : FnScope ["one", "other"] ["one", "other"] (defScope sLess) := ⟨rfl, rfl, rfl, by decide +kernel, rfl, by decide +kernel, by decide +kernel⟩
theorem ok_Less {f : Addr} {fd : FuncData} (F : Fun K "less" "less" sLess f fd)
     :
    FnOk P w K mg base CX0 1 f fd ["one", "other"] spLessF := by
  refine F.ok scLess (fun vs H Q E h => ?_) (fun cdv A outer s H vs Q E hr h => ?_)
  · obtain ⟨p, q, a, b, c, d, rfl, _⟩ := h
    rfl
  obtain ⟨p, q, a, b, c, d, rfl, hp, hq, ha, hb, hc, hd, k⟩ := h
  have hu := hu_of hr
  refine ⟨_, (pss_one (ps_ret (pe_cmpR op_lt (pe_op op_mulB (pe_ix ix_tup (pv 0) pe_int (fun _ _ => rfl)) (pe_ix ix_tup (pv 1) pe_int (fun _ _ => rfl))) (pe_op op_mulB (pe_ix ix_tup (pv 1) pe_int (fun _ _ => rfl)) (pe_ix ix_tup (pv 0) pe_int (fun _ _ => rfl))) (nomark _)))), ?_⟩
  refine ⟨_, rfl, p, _, _, _, rfl, rfl, SqT.of hp, ix0 _ _, _, rfl, q, _, _, _, rfl, rfl, SqT.of hq, ix1 _ _, _, _, rfl, rfl, ⟨ha.below, hd.below⟩, ?_⟩
  refine ⟨_, rfl, q, _, _, _, rfl, rfl, SqT.of hq, ix0 _ _, _, rfl, p, _, _, _, rfl, rfl, SqT.of hp, ix1 _ _, _, _, rfl, rfl, ⟨hc.below, hb.below⟩, ?_⟩
  exact ⟨_, _, rfl, rfl, k⟩
theorem scCome : FnScope ["shares", "total", "share"] ["shares"] (defScope sCome) := ⟨rfl, rfl, rfl, by decide +kernel, rfl, by decide +kernel, by decide +kernel⟩
theorem ok_Come {f : Addr} {fd : FuncData} (F : Fun K "come_to" "come_to" sCome f fd)
    {f_Add : Addr} {d_Add : FuncData} (G_Add : FnOk P w K mg base CX0 3 f_Add d_Add ["one", "other"] spAdd) (b_Add : Binds K d_Add ["one", "other"] []) (k_Add : PySem.W.keepIn K (.ref f_Add) = true) (m_Add : mg "added" = some (.ref f_Add))
     :
    FnOk P w K mg base CX0 4 f fd ["shares"] spCome := by
  refine F.ok scCome (fun vs H Q E h => ?_) (fun cdv A outer s H vs Q E hr h => ?_)
  · obtain ⟨l, us, fs, rfl, _⟩ := h
    rfl
  obtain ⟨l, us, fs, rfl, hl, tw, sf, k⟩ := h
  have hu := hu_of hr
  have hr1 : Room 1 _ := hr.mono (by decide)
  have hr3 : Room 3 _ := hr.mono (by decide)
  refine ⟨_, (pss_cons (ps_set (i := 1) scCome.nd rfl (Or.inl rfl) (pe_tup (pa_cons pe_int (pa_cons pe_int pa_nil))))
    (pss_cons (ps_for PassesOwn.never rfl (pi_list (pv 0)) (pg_name (i := 2) scCome.nd rfl (Or.inl rfl))
    (pss_one (ps_set (i := 1) scCome.nd rfl (Or.inl rfl) (pe_call G_Add hr3 (by rfl) m_Add k_Add b_Add .nil pass0 (pa_cons (pv 1) (pa_cons (pv 2) pa_nil))))))
    (pss_one (ps_ret (pv 1))))), ?_⟩
  refine ⟨by show 2 ≤ sizeLine; decide, fun t0 ht0 => ?_⟩
  refine ⟨_, rfl, l, rfl, ⟨_, SqL.of (same_new ht0 _ _ _ hl)⟩, for_list (K := K) (a := l) (xs := us) (fun i σ H1 => ∃ q v2, σ = [some (.ref l), some (.ref q), v2] ∧ Same H H1 ∧ TupAt H1 q ((fs.take i).foldl addF (0, 1)).1 ((fs.take i).foldl addF (0, 1)).2)
    ⟨t0, _, rfl, same_new ht0 _, upd_same⟩ (by rintro i σ H1 _ ⟨_, _, _, e, _⟩; exact SqL.of (e _ _ hl)) ?_ ?_⟩
  · rintro i v σ H1 hv ⟨q, v2, rfl, s1, hq⟩
    obtain ⟨f, hf, qq, rfl, hqq⟩ := tw.at hv
    have sa := safeF_at sf hf
    refine ⟨_, rfl, _, rfl, q, qq, _, f, rfl, hq, s1 _ _ hqq, sa.1, sa.2, fun r hr' => ⟨r, _, rfl, s1.trans (same_new hr' _), ?_⟩⟩
    rw [take_snoc hf, List.foldl_append]
    exact upd_same
  · rintro σ H1 ⟨q, v2, rfl, s1, hq⟩
    rw [tw.length, List.take_length] at hq
    exact ⟨_, rfl, k _ q s1 hq⟩
theorem scLLow : FnScope ["_law_top", "_law_bottom", "_law_one", "_law_other"] ["_law_top", "_law_bottom"] (defScope sLLow) := ⟨rfl, rfl, rfl, by decide +kernel, rfl, by decide +kernel, by decide +kernel⟩
theorem ok_LLow {f : Addr} {fd : FuncData} (F : Fun K "_law_lowest" "_law_lowest" sLLow f fd)
     :
    FnOk P w K mg base CX0 1 f fd ["_law_top", "_law_bottom"] spLow := by
  refine F.ok scLLow (fun vs H Q E h => ?_) (fun cdv A outer s H vs Q E hr h => ?_)
  · obtain ⟨a, b, rfl, _⟩ := h
    rfl
  obtain ⟨a, b, rfl, ha, hb, hz, k⟩ := h
  have hu := hu_of hr
  refine ⟨_, (pss_cons (ps_par (i := 2) (j := 3) rfl scLLow.nd rfl rfl (by decide) rfl rfl (pa_cons (pv 0) (pa_cons (pv 1) pa_nil)) rfl)
    (pss_cons (ps_while PassesOwn.never (pt_cmpR op_gt (pv 3) pe_int (nomark _))
    (pss_one (ps_par (i := 2) (j := 3) rfl scLLow.nd rfl rfl (by decide) rfl rfl (pa_cons (pv 3) (pa_cons (pe_op op_mod (pv 2) (pv 3)) pa_nil)) rfl)))
    (pss_one (ps_ret (pe_tup (pa_cons (pe_op op_fdivC (pv 0) (pv 2)) (pa_cons (pe_op op_fdivC (pv 1) (pv 2)) pa_nil))))))), ?_⟩
  have g0 : 0 < gI a b := gI_pos hb
  have g1 : gI a b < 2 ^ 200 * 2 ^ 200 := Int.lt_of_le_of_lt (gI_le hb) hz
  refine ⟨_, rfl, _, rfl, _, _, rfl, ?_⟩
  refine ⟨fun j σ H1 => H1 = H ∧ ∃ (x y : Int), σ = [some (.int a), some (.int b), some (.int x), some (.int y)] ∧ 0 ≤ x ∧ 0 ≤ y ∧ gI x y = gI a b ∧ j = y.toNat, ⟨_, rfl, a, b, rfl, ha, by omega, rfl, rfl⟩, ?_⟩
  rintro j σ H1 ⟨rfl, x, y, rfl, hx, hy, hg, rfl⟩
  refine ⟨_, rfl, _, _, rfl, rfl, _, rfl, ?_⟩
  refine ite2 (fun c => ?_) (fun c => ?_)
  · have yp : 0 < y := of_decide_eq_true c
    refine ⟨fun σ' H' => H' = H1 ∧ σ' = [some (.int a), some (.int b), some (.int y), some (.int (x % y))], fun σ' H' ⟨e1, e2⟩ => ⟨(x % y).toNat, ?_, e1, y, x % y, e2, hy, Int.emod_nonneg _ (by omega), (step_gcd hx yp).trans hg, rfl⟩, ?_⟩
    · have := Int.emod_lt_of_pos x yp
      have := Int.emod_nonneg x (show y ≠ 0 by omega)
      omega
    · exact ⟨_, rfl, _, rfl, _, rfl, _, _, rfl, rfl, yp, _, _, rfl, rfl, rfl⟩
  · have y0 : y = 0 := by
      have : ¬ 0 < y := fun z => c (decide_eq_true z)
      omega
    subst y0
    rw [gcd_end hx] at hg
    subst hg
    exact ⟨_, rfl, _, rfl, _, _, rfl, rfl, ⟨g0, g1⟩, _, rfl, _, rfl, _, _, rfl, rfl, ⟨g0, g1⟩, by show 2 ≤ sizeLine; decide, fun p hp => k p hp⟩
end
end Mine
namespace Mine
open PySem L2
section
variable {P : Program} {w : World} {K : PySem.W.Frag} {mg : Str → Option Value} {base : Heap}
theorem nd_Abv1 : (["answer", "share", "factor", "others"] : List Str).Nodup := by decide +kernel
theorem nd_Abv2 : (["parts"] : List Str).Nodup := by decide +kernel
theorem scAbv : FnScope ["one", "other", "factor", "others", "limits"] ["one", "other", "factor"] (defScope sAbv) := ⟨rfl, rfl, rfl, by decide +kernel, rfl, by decide +kernel, by decide +kernel⟩
theorem ok_Abv {f : Addr} {fd : FuncData} (F : Fun K "those_above" "those_above" sAbv f fd)
    {f_Times : Addr} {d_Times : FuncData} (G_Times : FnOk P w K mg base CX0 3 f_Times d_Times ["one", "other"] spTimes) (b_Times : Binds K d_Times ["one", "other"] []) (k_Times : PySem.W.keepIn K (.ref f_Times) = true) (m_Times : mg "times" = some (.ref f_Times))
    {f_Less : Addr} {d_Less : FuncData} (G_Less : FnOk P w K mg base CX0 1 f_Less d_Less ["one", "other"] spLessF) (b_Less : Binds K d_Less ["one", "other"] []) (k_Less : PySem.W.keepIn K (.ref f_Less) = true) (m_Less : mg "less" = some (.ref f_Less))
    (m_dict : mg "dict" = none) :
    FnOk P w K mg base CX0 4 f fd ["one", "other", "factor"] spAbove := by
  refine F.ok scAbv (fun vs H Q E h => ?_) (fun cdv A outer s H vs Q E hr h => ?_)
  · obtain ⟨b, t1, t2, p, c1, c2, es1, es2, f, rfl, _⟩ := h
    rfl
  obtain ⟨b, t1, t2, p, c1, c2, es1, es2, f, rfl, A, k⟩ := h
  have hu := hu_of hr
  have hr1 : Room 1 _ := hr.mono (by decide)
  have hr3 : Room 3 _ := hr.mono (by decide)
  refine ⟨_, (pss_cons (ps_set (i := 3) scAbv.nd rfl (Or.inr rfl) (pe_callTy (call_dictP hr1) (by rfl) m_dict PyProof.Rows.boot_dict (pa_cons (pv 1) pa_nil)))
    (pss_cons (ps_setC ["answer", "share", "factor", "others"] [none, none, some 2, some 3] (i := 4) scAbv.nd rfl (Or.inl rfl) (pi_tup (pv 0)) (fun _ _ _ _ => (pgtK K (n := 2) rfl (pgs_cons (pg_name (i := 0) (nd_Abv1) rfl (Or.inl rfl)) (pgs_cons (pg_name (i := 1) (nd_Abv1) rfl (Or.inl rfl)) pgs_nil)))) (fun _ _ _ _ => pf_nil) (fun _ _ _ _ => (pe_tup (pa_cons (pv 0) (pa_cons (pv 1) (pa_cons (pe_call G_Times hr3 (by rfl) m_Times k_Times b_Times .nil pass0 (pa_cons (pv 2) (pa_cons (pe_dget2 hu (pv 3) (pv 0) (pe_tup (pa_cons pe_int (pa_cons pe_int pa_nil))) ⟨rfl, rfl, rfl, rfl⟩) pa_nil))) pa_nil))))))
    (pss_one (ps_ret (pe_comp ["parts"] [none] (pi_list (pv 4)) (fun _ _ _ _ => (pg_name (i := 0) (nd_Abv2) rfl (Or.inl rfl))) (fun _ _ _ _ => (pf_one (pt_val (pe_call G_Less hr1 (by rfl) m_Less k_Less b_Less .nil pass0 (pa_cons (pe_ix (ixtK K) (pv 0) pe_int (fun _ _ => rfl)) (pa_cons (pe_ix (ixtK K) (pv 0) pe_int (fun _ _ => rfl)) pa_nil)))))) (fun _ _ _ _ => (pv 0))))))), ?_⟩
  obtain ⟨us1, h1, tw1⟩ := A.h1
  obtain ⟨us2, h2, tw2⟩ := A.h2
  have l1 := tw1.length
  have l2 := tw2.length
  have m1 := A.o1.l2
  have m2 := A.o2.l2
  obtain ⟨o, o0, od⟩ := dict_ok (small1000 (by omega)) A.o2.nd tw2
  refine ⟨_, rfl, t2, us2, o, rfl, h2, o0, fun d hd => ⟨(od d hd).1, ?_⟩⟩
  obtain ⟨_, hD, sD⟩ := od d hd
  generalize upd H d (o us2.length) = H1 at hD sD ⊢
  refine ⟨_, rfl, t1, rfl, ⟨_, SqT.of (sD _ _ h1)⟩, comp_tup (K := K) (a := t1) (xs := us1) (fun i zs σ H2 => Same H1 H2 ∧ (∃ v1 v2, σ = [v1, v2, some (.ref p), some (.ref d)]) ∧ Two (AboA b es2 f H2) zs (es1.take i))
    (small1000 (by omega)) ⟨Same.refl _, ⟨_, _, rfl⟩, trivial⟩ (fun i zs σ H2 ⟨_, _, e⟩ => by
      rw [e.length, List.length_take]; omega) (by rintro i zs σ H2 _ ⟨e, _⟩; exact SqT.of (e _ _ (sD _ _ h1))) ?_ ?_⟩
  · rintro i v zs σ H2 hv ⟨s2, ⟨v1, v2, rfl⟩, tw⟩
    obtain ⟨e, he, me, t, x, q, rfl, ht, hx, hq⟩ := TabA.at tw1 hv
    have g := sD.trans s2
    refine ⟨t, _, rfl, SqT.of (g _ _ ht), rfl, _, _, rfl, _, _, rfl, rfl, ?_⟩
    refine ⟨_, rfl, _, rfl, _, rfl, _, rfl, d, rfl, (hD.same s2).isD, _, rfl, by show 2 ≤ sizeLine; decide, fun z hz => ?_⟩
    have s3 := same_new hz (.tup [.int 0, .int 1])
    have h3 : upd H2 z (.tup [.int 0, .int 1]) z = some (.tup [.int 0, .int 1]) := upd_same
    generalize upd H2 z (.tup [.int 0, .int 1]) = H3 at s3 h3 ⊢
    obtain ⟨o, dg, og⟩ := (hD.same (s2.trans s3)).get (hx.ts (.of (g.trans s3)))
    obtain ⟨q2, e2, hq2⟩ := optr_get og h3
    have bf := A.of.b1
    have bs := (A.o2.shOk e.1)
    refine ⟨o, dg, p, q2, f.1, f.2, (shA es2 e.1).1, (shA es2 e.1).2, by rw [e2]; rfl, (g.trans s3) _ _ A.hf, hq2, bf.1, bf.2, bs.b1.1, bs.b1.2, A.of.b, bs.b, fun r hr' => ?_⟩
    have s4 := same_new hr' (.tup (lowI (f.1 * (shA es2 e.1).1) (f.2 * (shA es2 e.1).2)))
    have h4 : TupAt (upd H3 r (.tup (lowI (f.1 * (shA es2 e.1).1) (f.2 * (shA es2 e.1).2)))) r (limF f (shA es2 e.1)).1 (limF f (shA es2 e.1)).2 := upd_same
    generalize upd H3 r (.tup (lowI (f.1 * (shA es2 e.1).1) (f.2 * (shA es2 e.1).2))) = H4 at s4 h4 ⊢
    refine ⟨by show 3 ≤ sizeLine; decide, fun t5 ht5 => ⟨s2.trans (s3.trans (s4.trans (same_new ht5 _))), ⟨_, _, rfl⟩, ?_⟩⟩
    have s5 := same_new ht5 (.tup [x, .ref q, .ref r])
    rw [take_snoc he]
    refine Two.append (tw.mono fun _ _ z => z.ts (.of (s3.trans (s4.trans s5)))) ⟨⟨t5, x, q, r, rfl, upd_same, hx.ts (.of (g.trans (s3.trans (s4.trans s5)))), (g.trans (s3.trans (s4.trans s5))) _ _ hq, s5 _ _ h4⟩, trivial⟩
  · rintro zs σ H2 ⟨s2, _, tw⟩ l3 hl3
    rw [l1, List.take_length] at tw
    have s3 := same_new hl3 (.lst zs)
    have h3 : upd H2 l3 (.lst zs) l3 = some (.lst zs) := upd_same
    have g := sD.trans (s2.trans s3)
    replace tw := tw.mono fun _ _ z => AboA.ts (.of s3) z
    generalize upd H2 l3 (.lst zs) = H3 at s3 h3 g tw ⊢
    have zl := tw.length
    refine ⟨_, rfl, l3, rfl, ⟨_, SqL.of h3⟩, comp_list (K := K) (a := l3) (xs := zs) (fun i ys σ H4 => H4 = H3 ∧ (∃ v, σ = [v]) ∧ Two (AboA b es2 f H3) ys ((es1.take i).filter (abv es2 f)))
      (small1000 (by omega)) ⟨rfl, ⟨_, rfl⟩, trivial⟩ (fun i ys σ H4 ⟨_, _, e⟩ => by
        rw [e.length]
        exact Nat.le_trans (List.length_filter_le _ _) (by rw [List.length_take]; omega)) (by rintro i ys σ H4 _ ⟨e, _⟩; rw [e]; exact SqL.of h3) ?_ ?_⟩
    · rintro i v ys σ H4 hv ⟨rfl, ⟨v', rfl⟩, tw4⟩
      obtain ⟨e, he, t, x, q, r, rfl, ht, hx, hq, hr4⟩ := tw.at hv
      have me := List.mem_of_getElem? he
      have lb := lim_b A.of (A.o2.shOk e.1)
      have sb := (A.o1.at me).1.b1
      refine ⟨_, rfl, t, _, _, .ref r, rfl, rfl, SqT.of ht, rfl, _, rfl, t, _, _, .ref q, rfl, rfl, SqT.of ht, rfl, r, q, _, _, _, _, rfl, hr4, hq, lb.1, lb.2.1, sb.1, sb.2, _, rfl, ?_⟩
      rw [take_snoc he, List.filter_append]
      by_cases c : abv es2 f e = true
      · refine iteP c ⟨_, rfl, rfl, ⟨_, rfl⟩, ?_⟩
        rw [List.filter_cons_of_pos c, List.filter_nil]
        exact Two.append tw4 ⟨⟨t, x, q, r, rfl, ht, hx, hq, hr4⟩, trivial⟩
      · refine iteN c ⟨rfl, ⟨_, rfl⟩, ?_⟩
        rw [List.filter_cons_of_neg c, List.filter_nil, List.append_nil]
        exact tw4
    · rintro ys σ H4 ⟨rfl, _, tw4⟩ l5 hl5
      rw [zl, List.take_length] at tw4
      exact k _ l5 ys (g.trans (same_new hl5 _)) upd_same (tw4.mono fun _ _ z => AboA.ts (.of (same_new hl5 _)) z)
end
end Mine
namespace Mine
open PySem L2
section
variable {P : Program} {w : World} {K : PySem.W.Frag} {mg : Str → Option Value} {base : Heap}
theorem nd_Rest1 : (["answer", "share", "limit"] : List Str).Nodup := by decide +kernel
theorem scRest : FnScope ["one", "other", "factor"] ["one", "other", "factor"] (defScope sRest) := ⟨rfl, rfl, rfl, by decide +kernel, rfl, by decide +kernel, by decide +kernel⟩
theorem ok_Rest {f : Addr} {fd : FuncData} (F : Fun K "least_rest" "least_rest" sRest f fd)
    {f_Come : Addr} {d_Come : FuncData} (G_Come : FnOk P w K mg base CX0 4 f_Come d_Come ["shares"] spCome) (b_Come : Binds K d_Come ["shares"] []) (k_Come : PySem.W.keepIn K (.ref f_Come) = true) (m_Come : mg "come_to" = some (.ref f_Come))
    {f_Minus : Addr} {d_Minus : FuncData} (G_Minus : FnOk P w K mg base CX0 3 f_Minus d_Minus ["one", "other"] spMinus) (b_Minus : Binds K d_Minus ["one", "other"] []) (k_Minus : PySem.W.keepIn K (.ref f_Minus) = true) (m_Minus : mg "minus" = some (.ref f_Minus))
    {f_Abv : Addr} {d_Abv : FuncData} (G_Abv : FnOk P w K mg base CX0 4 f_Abv d_Abv ["one", "other", "factor"] spAbove) (b_Abv : Binds K d_Abv ["one", "other", "factor"] []) (k_Abv : PySem.W.keepIn K (.ref f_Abv) = true) (m_Abv : mg "those_above" = some (.ref f_Abv))
     :
    FnOk P w K mg base CX0 5 f fd ["one", "other", "factor"] spRest := by
  refine F.ok scRest (fun vs H Q E h => ?_) (fun cdv A outer s H vs Q E hr h => ?_)
  · obtain ⟨b, t1, t2, p, c1, c2, es1, es2, f, rfl, _⟩ := h
    rfl
  obtain ⟨b, t1, t2, p, c1, c2, es1, es2, f, rfl, A, k⟩ := h
  have hu := hu_of hr
  have hr1 : Room 1 _ := hr.mono (by decide)
  have hr3 : Room 3 _ := hr.mono (by decide)
  have hr4 : Room 4 _ := hr.mono (by decide)
  refine ⟨_, (pss_one (ps_ret (pe_call G_Come hr4 (by rfl) m_Come k_Come b_Come .nil pass0 (pa_cons (pe_comp ["answer", "share", "limit"] [none, none, none] (pi_list (pe_call G_Abv hr4 (by rfl) m_Abv k_Abv b_Abv .nil pass0 (pa_cons (pv 0) (pa_cons (pv 1) (pa_cons (pv 2) pa_nil))))) (fun _ _ _ _ => (pgtK K (n := 3) rfl (pgs_cons (pg_name (i := 0) (nd_Rest1) rfl (Or.inl rfl)) (pgs_cons (pg_name (i := 1) (nd_Rest1) rfl (Or.inl rfl)) (pgs_cons (pg_name (i := 2) (nd_Rest1) rfl (Or.inl rfl)) pgs_nil))))) (fun _ _ _ _ => pf_nil) (fun _ _ _ _ => (pe_call G_Minus hr3 (by rfl) m_Minus k_Minus b_Minus .nil pass0 (pa_cons (pv 1) (pa_cons (pv 2) pa_nil))))) pa_nil)))), ?_⟩
  have m1 := A.o1.l2
  have sf := rest_safe A.o1.c1 A.o1.c2 A.o1.sh A.o1.l2 A.o2 A.of
  refine ⟨_, rfl, _, rfl, _, rfl, b, t1, t2, p, c1, c2, es1, es2, f, rfl, A, fun H1 l ws s1 hl tw => ?_⟩
  have fl : (es1.filter (abv es2 f)).length ≤ 12 := Nat.le_trans (List.length_filter_le _ _) m1
  have wl := tw.length
  refine ⟨l, rfl, ⟨_, SqL.of hl⟩, comp_list (K := K) (a := l) (xs := ws) (fun i zs σ H2 => Same H1 H2 ∧ (∃ v1 v2 v3, σ = [v1, v2, v3]) ∧ Two (FrR H2) zs (((es1.filter (abv es2 f)).take i).map fun e => subG e.2 (limF f (shA es2 e.1))))
    (small1000 (by omega)) ⟨Same.refl _, ⟨_, _, _, rfl⟩, trivial⟩ (fun i zs σ H2 ⟨_, _, e⟩ => by
      rw [e.length, List.length_map, List.length_take]; omega) (by rintro i zs σ H2 _ ⟨e, _⟩; exact SqL.of (e _ _ hl)) ?_ ?_⟩
  · rintro i v zs σ H2 hv ⟨s2, ⟨v1, v2, v3, rfl⟩, tw2⟩
    obtain ⟨e, he, t, x, q, r, rfl, ht, hx, hq, hr4⟩ := tw.at hv
    obtain ⟨me, ab⟩ := List.mem_filter.mp (List.mem_of_getElem? he)
    have lb := lim_b A.of (A.o2.shOk e.1)
    have sb := (A.o1.at me).1
    have lt : (limF f (shA es2 e.1)).1 * e.2.2 < e.2.1 * (limF f (shA es2 e.1)).2 := of_decide_eq_true ab
    refine ⟨t, _, rfl, SqT.of (s2 _ _ ht), rfl, _, _, rfl, _, _, rfl, _, _, rfl, rfl, ?_⟩
    refine ⟨_, rfl, _, rfl, q, r, _, _, _, _, rfl, s2 _ _ hq, s2 _ _ hr4, sb.b1.1, sb.b1.2, lb.1, lb.2.1, sb.b, lb.2.2, Int.le_of_lt lt, fun r5 hr5 => ⟨s2.trans (same_new hr5 _), ⟨_, _, _, rfl⟩, ?_⟩⟩
    rw [take_snoc he, List.map_append]
    exact Two.append (tw2.mono fun _ _ z => FrR.ts (.of (same_new hr5 _)) z) ⟨⟨r5, rfl, upd_same⟩, trivial⟩
  · rintro zs σ H2 ⟨s2, _, tw2⟩ l3 hl3
    rw [wl, List.take_length] at tw2
    refine ⟨l3, zs, restL es2 f es1, rfl, upd_same, tw2.mono fun _ _ z => FrR.ts (.of (same_new hl3 _)) z, sf.1, fun H4 r s4 hr4 => ?_⟩
    exact k _ r (s1.trans (s2.trans ((same_new hl3 _).trans s4))) hr4
theorem nd_Brk1 : (["parts"] : List Str).Nodup := by decide +kernel
theorem nd_Brk2 : (["parts"] : List Str).Nodup := by decide +kernel
theorem scBrk : FnScope ["one", "other", "factor"] ["one", "other", "factor"] (defScope sBrk) := ⟨rfl, rfl, rfl, by decide +kernel, rfl, by decide +kernel, by decide +kernel⟩
theorem ok_Brk {f : Addr} {fd : FuncData} (F : Fun K "breaking" "breaking" sBrk f fd)
    {f_Abv : Addr} {d_Abv : FuncData} (G_Abv : FnOk P w K mg base CX0 4 f_Abv d_Abv ["one", "other", "factor"] spAbove) (b_Abv : Binds K d_Abv ["one", "other", "factor"] []) (k_Abv : PySem.W.keepIn K (.ref f_Abv) = true) (m_Abv : mg "those_above" = some (.ref f_Abv))
    (m_tuple : mg "tuple" = none) :
    FnOk P w K mg base CX0 5 f fd ["one", "other", "factor"] spBreak := by
  refine F.ok scBrk (fun vs H Q E h => ?_) (fun cdv A outer s H vs Q E hr h => ?_)
  · obtain ⟨b, t1, t2, p, c1, c2, es1, es2, f, rfl, _⟩ := h
    rfl
  obtain ⟨b, t1, t2, p, c1, c2, es1, es2, f, rfl, A, k⟩ := h
  have hu := hu_of hr
  have hr1 : Room 1 _ := hr.mono (by decide)
  have hr4 : Room 4 _ := hr.mono (by decide)
  refine ⟨_, (pss_one (ps_ret (pe_callTy call_tuple_of (by rfl) m_tuple PyProof.Rows.boot_tuple (pa_cons (pe_comp ["parts"] [none] (pi_list (pe_call G_Abv hr4 (by rfl) m_Abv k_Abv b_Abv .nil pass0 (pa_cons (pv 0) (pa_cons (pv 1) (pa_cons (pv 2) pa_nil))))) (fun _ _ _ _ => (pg_name (i := 0) (nd_Brk2) rfl (Or.inl rfl))) (fun _ _ _ _ => pf_nil) (fun _ _ _ _ => (pe_ix (ixtK K) (pv 0) pe_int (fun _ _ => rfl)))) pa_nil)))), ?_⟩
  have m1 := A.o1.l2
  refine ⟨_, rfl, _, rfl, _, rfl, b, t1, t2, p, c1, c2, es1, es2, f, rfl, A, fun H1 l ws s1 hl tw => ?_⟩
  have fl : (es1.filter (abv es2 f)).length ≤ 12 := Nat.le_trans (List.length_filter_le _ _) m1
  have wl := tw.length
  refine ⟨l, rfl, ⟨_, SqL.of hl⟩, comp_list (K := K) (a := l) (xs := ws) (fun i zs σ H2 => H2 = H1 ∧ (∃ v1, σ = [v1]) ∧ Two (AnV b H1) zs (((es1.filter (abv es2 f)).take i).map (·.1)))
    (small1000 (by omega)) ⟨rfl, ⟨_, rfl⟩, trivial⟩ (fun i zs σ H2 ⟨_, _, e⟩ => by
      rw [e.length, List.length_map, List.length_take]; omega) (by rintro i zs σ H2 _ ⟨e, _⟩; rw [e]; exact SqL.of hl) ?_ ?_⟩
  · rintro i v zs σ H2 hv ⟨rfl, ⟨v1, rfl⟩, tw2⟩
    obtain ⟨e, he, t, x, q, r, rfl, ht, hx, hq, hr4⟩ := tw.at hv
    refine ⟨_, rfl, t, _, _, x, rfl, rfl, SqT.of ht, rfl, rfl, ⟨_, rfl⟩, ?_⟩
    rw [take_snoc he, List.map_append]
    exact Two.append tw2 ⟨hx, trivial⟩
  · rintro zs σ H2 ⟨rfl, _, tw2⟩ l3 hl3
    rw [wl, List.take_length] at tw2
    have s3 := same_new hl3 (.lst zs)
    refine ⟨l3, zs, rfl, .inl ⟨SqL.of upd_same, fun t4 ht4 => ?_⟩⟩
    exact k _ t4 zs (s1.trans (s3.trans (same_new ht4 _))) upd_same (tw2.mono fun _ _ z => z.ts (.of (s3.trans (same_new ht4 _))))
end
end Mine
namespace Mine
open PySem L2
section
variable {P : Program} {w : World} {K : PySem.W.Frag} {mg : Str → Option Value} {base : Heap}
theorem scLF : FnScope ["one", "other", "others", "greatest", "answer", "share", "quotient"] ["one", "other"] (defScope sLF) := ⟨rfl, rfl, rfl, by decide +kernel, rfl, by decide +kernel, by decide +kernel⟩
theorem ok_LF {f : Addr} {fd : FuncData} (F : Fun K "least_factor" "least_factor" sLF f fd)
    {f_Divd : Addr} {d_Divd : FuncData} (G_Divd : FnOk P w K mg base CX0 3 f_Divd d_Divd ["one", "other"] spDiv) (b_Divd : Binds K d_Divd ["one", "other"] []) (k_Divd : PySem.W.keepIn K (.ref f_Divd) = true) (m_Divd : mg "divided" = some (.ref f_Divd))
    {f_Less : Addr} {d_Less : FuncData} (G_Less : FnOk P w K mg base CX0 1 f_Less d_Less ["one", "other"] spLessF) (b_Less : Binds K d_Less ["one", "other"] []) (k_Less : PySem.W.keepIn K (.ref f_Less) = true) (m_Less : mg "less" = some (.ref f_Less))
    (m_dict : mg "dict" = none) :
    FnOk P w K mg base CX0 4 f fd ["one", "other"] spFacO := by
  refine F.ok scLF (fun vs H Q E h => ?_) (fun cdv A outer s H vs Q E hr h => ?_)
  · obtain ⟨b, t1, t2, c1, c2, es1, es2, rfl, _⟩ := h
    rfl
  obtain ⟨b, t1, t2, c1, c2, es1, es2, rfl, ⟨us1, h1, tw1⟩, ⟨us2, h2, tw2⟩, o1, o2, k⟩ := h
  have hu := hu_of hr
  have hr1 : Room 1 _ := hr.mono (by decide)
  have hr3 : Room 3 _ := hr.mono (by decide)
  refine ⟨_, (pss_cons (ps_set (i := 2) scLF.nd rfl (Or.inl rfl) (pe_callTy (call_dictP hr1) (by rfl) m_dict PyProof.Rows.boot_dict (pa_cons (pv 1) pa_nil)))
    (pss_cons (ps_set (i := 3) scLF.nd rfl (Or.inl rfl) (pe_tup (pa_cons pe_int (pa_cons pe_int pa_nil))))
    (pss_cons (ps_for PassesOwn.never rfl (pi_tup (pv 0)) (pg_tup rfl (pgs_cons (pg_name (i := 4) scLF.nd rfl (Or.inl rfl)) (pgs_cons (pg_name (i := 5) scLF.nd rfl (Or.inl rfl)) pgs_nil)))
    (pss_cons (ps_if (pt_cmp (pc_dnotin hu (pv 4) (pv 2))) (pss_one (ps_ret pe_non)) pss_nil)
    (pss_cons (ps_set (i := 6) scLF.nd rfl (Or.inl rfl) (pe_call G_Divd hr3 (by rfl) m_Divd k_Divd b_Divd .nil pass0 (pa_cons (pv 5) (pa_cons (pe_dget hu (pv 2) (pv 4) (fun _ _ => rfl)) pa_nil))))
    (pss_one (ps_if (pt_val (pe_call G_Less hr1 (by rfl) m_Less k_Less b_Less .nil pass0 (pa_cons (pv 3) (pa_cons (pv 6) pa_nil)))) (pss_one (ps_set (i := 3) scLF.nd rfl (Or.inl rfl) (pv 6))) pss_nil)))))
    (pss_one (ps_ret (pv 3)))))), ?_⟩
  have l1 := tw1.length
  have l2 := tw2.length
  have m1 := o1.l2
  have m2 := o2.l2
  obtain ⟨o, o0, od⟩ := dict_ok (small1000 (by omega)) o2.nd tw2
  refine ⟨_, rfl, t2, us2, o, rfl, h2, o0, fun d hd => ⟨(od d hd).1, ?_⟩⟩
  obtain ⟨_, hD, sD⟩ := od d hd
  generalize upd H d (o us2.length) = H1 at hD sD ⊢
  refine ⟨by show 2 ≤ sizeLine; decide, fun t0 ht0 => ?_⟩
  have s0 := same_new ht0 (.tup [.int 0, .int 1])
  refine ⟨_, rfl, t1, rfl, ⟨_, SqT.of (s0 _ _ (sD _ _ h1))⟩, for_tup (K := K) (a := t1) (xs := us1) (fun i σ H2 => ∃ q, ∃ g : Int × Int, ∃ v4 v5 v6, σ = [some (.ref t1), some (.ref t2), some (.ref d), some (.ref q), v4, v5, v6] ∧ Same H1 H2 ∧ TupAt H2 q g.1 g.2 ∧ GrOk g ∧ facF es2 es1 (0, 1) = facF es2 (es1.drop i) g)
    ⟨t0, (0, 1), _, _, _, rfl, s0, upd_same, ⟨by decide, by decide, by decide, by decide⟩, rfl⟩ (by rintro i σ H2 _ ⟨_, _, _, _, _, _, e, _⟩; exact SqT.of (e _ _ (sD _ _ h1))) ?_ ?_⟩
  · rintro i v σ H2 hv ⟨q, g, v4, v5, v6, rfl, s2, hq, G, ef⟩
    obtain ⟨e, he, me, t, x, q1, rfl, ht, hx, hq1⟩ := TabA.at tw1 hv
    have gg := sD.trans s2
    refine ⟨t, _, rfl, SqT.of (gg _ _ ht), rfl, _, _, rfl, _, _, rfl, rfl, ?_⟩
    obtain ⟨o', dg, og⟩ := (hD.same s2).get (hx.ts (.of gg))
    refine ⟨_, rfl, _, rfl, d, o', rfl, dg, _, rfl, ?_⟩
    have hdr : es1.drop i = e :: es1.drop (i + 1) := by
      rw [List.drop_eq_getElem_cons (List.getElem?_eq_some_iff.mp he).1, (List.getElem?_eq_some_iff.mp he).2]
    rw [hdr] at ef
    cases hg : getA es2 e.1 with
    | none =>
      rw [hg] at og
      rw [facF_none hg] at ef
      cases o' with
      | some v => exact og.elim
      | none =>
        refine iteP rfl ?_
        refine k _ _ gg ?_
        rw [ef]
        rfl
    | some s =>
      rw [hg] at og
      rw [facF_some hg] at ef
      cases o' with
      | none => exact og.elim
      | some v =>
        obtain ⟨q2, rfl, hq2⟩ := og
        refine iteN (by simp) ?_
        have sb := (o1.at me).1
        have tb := o2.at (getA_mem hg)
        have t1' : 1 ≤ s.1 := tb.2
        have tb1 : ShOk s := tb.1
        have Gq := quo_bd sb tb1 t1'
        refine ⟨_, rfl, _, rfl, _, rfl, d, .ref q2, rfl, dg, q1, q2, e.2, s, rfl, gg _ _ hq1, hq2, ⟨sb.b1.1, sb.b1.2, sb.b⟩, ⟨tb1.b1.1, tb1.b1.2, tb1.b⟩, t1', fun r hr' => ?_⟩
        have s3 := same_new hr' (.tup (lowI (e.2.1 * s.2) (e.2.2 * s.1)))
        have h3 : TupAt (upd H2 r (.tup (lowI (e.2.1 * s.2) (e.2.2 * s.1)))) r (quoF e.2 s).1 (quoF e.2 s).2 := upd_same
        generalize upd H2 r (.tup (lowI (e.2.1 * s.2) (e.2.2 * s.1))) = H3 at s3 h3 ⊢
        refine ⟨_, rfl, _, rfl, q, r, _, _, _, _, rfl, s3 _ _ hq, h3, G.b1.1, G.b1.2, Gq.b1.1, Gq.b1.2, _, rfl, ?_⟩
        by_cases c : ltF g (quoF e.2 s) = true
        · rw [if_pos c] at ef
          refine iteP c ?_
          exact ⟨_, rfl, r, quoF e.2 s, _, _, _, rfl, s2.trans s3, h3, Gq, ef⟩
        · rw [if_neg c] at ef
          refine iteN c ?_
          exact ⟨q, g, _, _, _, rfl, s2.trans s3, s3 _ _ hq, G, ef⟩
  · rintro σ H2 ⟨q, g, v4, v5, v6, rfl, s2, hq, G, ef⟩
    rw [l1, List.drop_length] at ef
    refine ⟨_, rfl, k _ _ (sD.trans s2) ?_⟩
    rw [ef]
    exact ⟨q, rfl, hq⟩
end
end Mine
namespace Mine
open PySem L2
section
variable {P : Program} {w : World} {K : PySem.W.Frag} {mg : Str → Option Value} {base : Heap}
theorem scPlus : FnScope ["_law_one", "_law_other"] ["_law_one", "_law_other"] (defScope sPlus) := ⟨rfl, rfl, rfl, by decide +kernel, rfl, by decide +kernel, by decide +kernel⟩
theorem ok_Plus {f : Addr} {fd : FuncData} (F : Fun K "_law_plus" "_law_plus" sPlus f fd)
    {f_LLow : Addr} {d_LLow : FuncData} (G_LLow : FnOk P w K mg base CX0 1 f_LLow d_LLow ["_law_top", "_law_bottom"] spLow) (b_LLow : Binds K d_LLow ["_law_top", "_law_bottom"] []) (k_LLow : PySem.W.keepIn K (.ref f_LLow) = true) (m_LLow : mg "_law_lowest" = some (.ref f_LLow))
     :
    FnOk P w K mg base CX0 2 f fd ["_law_one", "_law_other"] spPlus := by
  refine F.ok scPlus (fun vs H Q E h => ?_) (fun cdv A outer s H vs Q E hr h => ?_)
  · obtain ⟨p, q, u, e, rfl, _⟩ := h
    rfl
  obtain ⟨p, q, ⟨a, b⟩, ⟨c, d⟩, rfl, hp, hq, ⟨ha, hb, b1⟩, ⟨hc, hd, d1⟩, k⟩ := h
  have hu := hu_of hr
  have hr1 : Room 1 _ := hr.mono (by decide)
  refine ⟨_, (pss_one (ps_ret (pe_call G_LLow hr1 (by rfl) m_LLow k_LLow b_LLow .nil pass0 (pa_cons (pe_op op_add (pe_op op_mulB (pe_ix ix_tup (pv 0) pe_int (fun _ _ => rfl)) (pe_ix ix_tup (pv 1) pe_int (fun _ _ => rfl))) (pe_op op_mulB (pe_ix ix_tup (pv 1) pe_int (fun _ _ => rfl)) (pe_ix ix_tup (pv 0) pe_int (fun _ _ => rfl)))) (pa_cons (pe_op op_mulB (pe_ix ix_tup (pv 0) pe_int (fun _ _ => rfl)) (pe_ix ix_tup (pv 1) pe_int (fun _ _ => rfl))) pa_nil))))), ?_⟩
  replace ha : B72 a := ha
  replace hb : B72 b := hb
  replace hc : B72 c := hc
  replace hd : B72 d := hd
  replace b1 : 1 ≤ b := b1
  replace d1 : 1 ≤ d := d1

  have m1 := mul_bd ha.1 ha.2 hd.1 hd.2
  have m0 := mul_bd hc.1 hc.2 hb.1 hb.2
  have m2 := mul_bd hb.1 hb.2 hd.1 hd.2
  have m3 : 1 ≤ b * d := by have := Int.mul_pos (show 0 < b by omega) (show 0 < d by omega); omega
  refine ⟨_, rfl, p, _, _, _, rfl, rfl, SqT.of hp, ix0 a b, _, rfl, q, _, _, _, rfl, rfl, SqT.of hq, ix1 c d, _, _, rfl, rfl, ⟨ha.below, hd.below⟩, ?_⟩
  refine ⟨_, rfl, q, _, _, _, rfl, rfl, SqT.of hq, ix0 c d, _, rfl, p, _, _, _, rfl, rfl, SqT.of hp, ix1 a b, _, _, rfl, rfl, ⟨hc.below, hb.below⟩, _, _, rfl, rfl, ?_⟩
  refine ⟨_, rfl, p, _, _, _, rfl, rfl, SqT.of hp, ix1 a b, _, rfl, q, _, _, _, rfl, rfl, SqT.of hq, ix1 c d, _, _, rfl, rfl, ⟨hb.below, hd.below⟩, ?_⟩
  exact ⟨_, _, rfl, by omega, m3, Int.lt_trans m2.2 (by decide), k⟩
theorem scBlw : FnScope ["_law_one", "_law_other"] ["_law_one", "_law_other"] (defScope sBlw) := ⟨rfl, rfl, rfl, by decide +kernel, rfl, by decide +kernel, by decide +kernel⟩
theorem ok_Blw {f : Addr} {fd : FuncData} (F : Fun K "_law_below" "_law_below" sBlw f fd)
     :
    FnOk P w K mg base CX0 1 f fd ["_law_one", "_law_other"] spLessF := by
  refine F.ok scBlw (fun vs H Q E h => ?_) (fun cdv A outer s H vs Q E hr h => ?_)
  · obtain ⟨p, q, a, b, c, d, rfl, _⟩ := h
    rfl
  obtain ⟨p, q, a, b, c, d, rfl, hp, hq, ha, hb, hc, hd, k⟩ := h
  have hu := hu_of hr
  refine ⟨_, (pss_one (ps_ret (pe_cmpR op_lt (pe_op op_mulB (pe_ix ix_tup (pv 0) pe_int (fun _ _ => rfl)) (pe_ix ix_tup (pv 1) pe_int (fun _ _ => rfl))) (pe_op op_mulB (pe_ix ix_tup (pv 1) pe_int (fun _ _ => rfl)) (pe_ix ix_tup (pv 0) pe_int (fun _ _ => rfl))) (nomark _)))), ?_⟩
  refine ⟨_, rfl, p, _, _, _, rfl, rfl, SqT.of hp, ix0 _ _, _, rfl, q, _, _, _, rfl, rfl, SqT.of hq, ix1 _ _, _, _, rfl, rfl, ⟨ha.below, hd.below⟩, ?_⟩
  refine ⟨_, rfl, q, _, _, _, rfl, rfl, SqT.of hq, ix0 _ _, _, rfl, p, _, _, _, rfl, rfl, SqT.of hp, ix1 _ _, _, _, rfl, rfl, ⟨hc.below, hb.below⟩, ?_⟩
  exact ⟨_, _, rfl, rfl, k⟩
theorem scLTim : FnScope ["_law_one", "_law_other"] ["_law_one", "_law_other"] (defScope sLTim) := ⟨rfl, rfl, rfl, by decide +kernel, rfl, by decide +kernel, by decide +kernel⟩
theorem ok_LTim {f : Addr} {fd : FuncData} (F : Fun K "_law_times" "_law_times" sLTim f fd)
    {f_LLow : Addr} {d_LLow : FuncData} (G_LLow : FnOk P w K mg base CX0 1 f_LLow d_LLow ["_law_top", "_law_bottom"] spLow) (b_LLow : Binds K d_LLow ["_law_top", "_law_bottom"] []) (k_LLow : PySem.W.keepIn K (.ref f_LLow) = true) (m_LLow : mg "_law_lowest" = some (.ref f_LLow))
     :
    FnOk P w K mg base CX0 2 f fd ["_law_one", "_law_other"] spTimes := by
  refine F.ok scLTim (fun vs H Q E h => ?_) (fun cdv A outer s H vs Q E hr h => ?_)
  · obtain ⟨p, q, a, b, c, d, rfl, _⟩ := h
    rfl
  obtain ⟨p, q, a, b, c, d, rfl, hp, hq, ha, hb, hc, hd, b1, d1, k⟩ := h
  have hu := hu_of hr
  have hr1 : Room 1 _ := hr.mono (by decide)
  refine ⟨_, (pss_one (ps_ret (pe_call G_LLow hr1 (by rfl) m_LLow k_LLow b_LLow .nil pass0 (pa_cons (pe_op op_mulB (pe_ix ix_tup (pv 0) pe_int (fun _ _ => rfl)) (pe_ix ix_tup (pv 1) pe_int (fun _ _ => rfl))) (pa_cons (pe_op op_mulB (pe_ix ix_tup (pv 0) pe_int (fun _ _ => rfl)) (pe_ix ix_tup (pv 1) pe_int (fun _ _ => rfl))) pa_nil))))), ?_⟩
  have m1 := mul_bd ha.1 ha.2 hc.1 hc.2
  have m2 := mul_bd hb.1 hb.2 hd.1 hd.2
  have m3 : 1 ≤ b * d := by have := Int.mul_pos (show 0 < b by omega) (show 0 < d by omega); omega
  refine ⟨_, rfl, p, _, _, _, rfl, rfl, SqT.of hp, ix0 a b, _, rfl, q, _, _, _, rfl, rfl, SqT.of hq, ix0 c d, _, _, rfl, rfl, ⟨ha.below, hc.below⟩, ?_⟩
  refine ⟨_, rfl, p, _, _, _, rfl, rfl, SqT.of hp, ix1 a b, _, rfl, q, _, _, _, rfl, rfl, SqT.of hq, ix1 c d, _, _, rfl, rfl, ⟨hb.below, hd.below⟩, ?_⟩
  exact ⟨_, _, rfl, m1.1, m3, Int.lt_trans m2.2 (by decide), k⟩
end
end Mine
namespace Mine
open PySem L2
section
variable {P : Program} {w : World} {K : PySem.W.Frag} {mg : Str → Option Value} {base : Heap}
theorem nd_Pool1 : (["_law_k", "_law_start", "_law_deal_here", "_law_wide"] : List Str).Nodup := by decide +kernel
theorem nd_Pool2 : (["_law_j", "_law_deal_here"] : List Str).Nodup := by decide +kernel
theorem nd_Pool3 : (["_law_j", "_law_deal_here"] : List Str).Nodup := by decide +kernel
theorem scPool : FnScope ["_law_deal_here", "_law_many", "_law_kind", "_law_wide", "_law_start", "_law_found", "_law_k", "_law_thing"] ["_law_deal_here", "_law_many"] (defScope sPool) := ⟨rfl, rfl, rfl, by decide +kernel, rfl, by decide +kernel, by decide +kernel⟩
theorem ok_Pool {f : Addr} {fd : FuncData} (F : Fun K "_law_pool" "_law_pool" sPool f fd)
    {f_Draw : Addr} {d_Draw : FuncData} (G_Draw : FnOk P w K mg base CX0 1 f_Draw d_Draw ["_law_deal_here", "_law_many"] spDraw) (b_Draw : Binds K d_Draw ["_law_deal_here", "_law_many"] []) (k_Draw : PySem.W.keepIn K (.ref f_Draw) = true) (m_Draw : mg "_law_draw" = some (.ref f_Draw))
    (m_range : mg "range" = none) (m_sorted : mg "sorted" = none) (m_tuple : mg "tuple" = none) :
    FnOk P w K mg base CX0 2 f fd ["_law_deal_here", "_law_many"] spPool := by
  refine F.ok scPool (fun vs H Q E h => ?_) (fun cdv A outer s H vs Q E hr h => ?_)
  · obtain ⟨d, l, m, rfl, _⟩ := h
    rfl
  obtain ⟨d, l, m, rfl, D, m1, m12, k⟩ := h
  have hu := hu_of hr
  have hr1 : Room 1 _ := hr.mono (by decide)
  refine ⟨_, (pss_cons (ps_set (i := 2) scPool.nd rfl (Or.inl rfl) (pe_call G_Draw hr1 (by rfl) m_Draw k_Draw b_Draw .nil pass0 (pa_cons (pv 0) (pa_cons pe_int pa_nil))))
    (pss_cons (ps_if (pt_cmpR op_lt (pv 2) pe_int (nomark _)) (pss_cons (ps_set (i := 3) scPool.nd rfl (Or.inr rfl) (pe_ix ix_list (pe_lst (pa_cons pe_int (pa_cons (pe_op op_pow pe_int pe_int) pa_nil))) (pv 2) (fun _ _ => rfl)))
    (pss_cons (ps_set (i := 4) scPool.nd rfl (Or.inr rfl) (pe_call G_Draw hr1 (by rfl) m_Draw k_Draw b_Draw .nil pass0 (pa_cons (pv 0) (pa_cons (pe_op op_mul pe_int (pv 3)) pa_nil))))
    (pss_one (ps_ret (pe_comp ["_law_k", "_law_start", "_law_deal_here", "_law_wide"] [none, some 4, some 0, some 3] (pi_range1 (by rfl) m_range (pa_cons (pv 1) pa_nil)) (fun _ _ _ _ => (pg_name (i := 0) (nd_Pool1) rfl (Or.inl rfl))) (fun _ _ _ _ => pf_nil) (fun _ _ _ _ => (pe_op op_add (pe_op op_sub (pe_op op_mul (pv 3) (pv 0)) (pv 1)) (pe_call G_Draw hr1 (by rfl) m_Draw k_Draw b_Draw .nil pass0 (pa_cons (pv 2) (pa_cons (pv 3) pa_nil)))))))))) pss_nil)
    (pss_cons (ps_set (i := 5) scPool.nd rfl (Or.inl rfl) (pe_lst pa_nil))
    (pss_cons (ps_for PassesOwn.never rfl (pi_range1 (by rfl) m_range (pa_cons (pv 1) pa_nil)) (pg_name (i := 6) scPool.nd rfl (Or.inl rfl))
    (pss_cons (ps_set (i := 7) scPool.nd rfl (Or.inl rfl) (pe_callTy call_tuple_of (by rfl) m_tuple PyProof.Rows.boot_tuple (pa_cons (pe_comp ["_law_j", "_law_deal_here"] [none, some 0] (pi_range1 (by rfl) m_range (pa_cons (pe_call G_Draw hr1 (by rfl) m_Draw k_Draw b_Draw .nil pass0 (pa_cons (pv 0) (pa_cons pe_int pa_nil))) pa_nil)) (fun _ _ _ _ => (pg_name (i := 0) (nd_Pool3) rfl (Or.inl rfl))) (fun _ _ _ _ => pf_nil) (fun _ _ _ _ => (pe_call G_Draw hr1 (by rfl) m_Draw k_Draw b_Draw .nil pass0 (pa_cons (pv 1) (pa_cons pe_int pa_nil))))) pa_nil)))
    (pss_cons (ps_if (pt_cmpR (op_inD hr1) (pv 7) (pv 5) rfl) (pss_one (ps_set (i := 7) scPool.nd rfl (Or.inl rfl) (pe_op op_catE (pv 7) (pe_tup (pa_cons (pe_op op_add pe_int (pv 6)) pa_nil))))) pss_nil)
    (pss_one (ps_expr (pe_bm PySem.F.plainAttrs_list PySem.F.slot_list_append PySem.F.type_list_append mt_append (pv 5) (pa_cons (pv 7) pa_nil)))))))
    (pss_one (ps_ret (pe_callB (call_sortT hr1) (by rfl) m_sorted PyProof.Rows.boot_sorted (pa_cons (pv 5) pa_nil)))))))), ?_⟩
  refine ⟨_, rfl, d, l, 3, rfl, D, by decide, by decide, fun kn H1 n0 n1 D1 o1 => ?_⟩
  refine ⟨_, rfl, _, _, rfl, rfl, _, rfl, ?_⟩
  by_cases c : kn < 2
  · refine iteP (decide_eq_true c) ?_
    refine ⟨_, _, rfl, rfl, ⟨by decide, by decide, by decide⟩, by show 2 ≤ sizeLine; decide, fun l0 hl0 => ?_⟩
    obtain ⟨wd, ha, w1, w2⟩ : ∃ wd, atI [V.int 7, V.int (10 ^ (6 : Int).toNat)] kn = some (.int wd) ∧ 1 ≤ wd ∧ wd ≤ 1000000 := by
      have : kn = 0 ∨ kn = 1 := by omega
      rcases this with rfl | rfl
      · exact ⟨7, rfl, by decide, by decide⟩
      · exact ⟨10 ^ (6 : Int).toNat, rfl, by decide, by decide⟩
    refine ⟨_, rfl, l0, _, _, .int wd, rfl, rfl, SqL.of upd_same, ha, ?_⟩
    have s2 := same_new hl0 (.lst [V.int 7, V.int (10 ^ (6 : Int).toNat)])
    generalize upd H1 l0 (.lst [V.int 7, V.int (10 ^ (6 : Int).toNat)]) = H2 at s2 ⊢
    refine ⟨_, rfl, _, rfl, _, _, rfl, rfl, .inl ⟨by decide, by decide⟩, d, l, 5 * wd, rfl, D1.same s2, by omega, by omega, fun st H3 st0 st1 D3 o3 => ?_⟩
    have oo : Out d l H H3 := o1.trans ((Out.of s2).trans o3)
    refine ⟨_, rfl, m, rfl, by omega, by omega, comp_range (n := m.toNat) (fun i ys σ H4 => Deal H4 d l ∧ Out d l H H4 ∧ (∃ v, σ = [v, some (.int st), some (.ref d), some (.int wd)]) ∧ ∃ ns : List Int, ys = ns.map V.int ∧ ns.length = i ∧ ns.Pairwise (· < ·) ∧ ∀ x ∈ ns, -5000000 ≤ x ∧ x < wd * (i : Int) - st)
      (small1000 (by omega)) ⟨D3, oo, ⟨_, rfl⟩, [], rfl, rfl, List.Pairwise.nil, fun _ z => nomatch z⟩ (by rintro i ys σ H4 ⟨_, _, _, zs, e, e2, _⟩; rw [e, List.length_map]; omega) ?_ ?_⟩
    · rintro i ys σ H4 hi ⟨D4, o4, ⟨v, rfl⟩, ns, rfl, hl, pw, bd⟩
      have wi : 0 ≤ wd * (i : Int) := Int.mul_nonneg (by omega) (by omega)
      have e1 : wd * (0 + (i : Int)) = wd * (i : Int) := by rw [Int.zero_add]
      have e2 : wd * ((i + 1 : Nat) : Int) = wd * (i : Int) + wd := by rw [Int.natCast_add, Int.mul_add]; simp
      refine ⟨_, rfl, _, rfl, _, _, rfl, rfl, .inl ⟨by omega, by omega⟩, _, rfl, _, _, rfl, rfl, _, rfl, _, rfl, d, l, wd, rfl, D4, by omega, by omega, fun r H5 r0 r1 D5 o5 => ⟨_, _, rfl, rfl, D5, o4.trans o5, ⟨_, rfl⟩, ns ++ [wd * (0 + (i : Int)) - st + r], by rw [List.map_append]; rfl, by rw [List.length_append, hl]; rfl, ?_, fun x hx => ?_⟩⟩
      · rw [List.pairwise_append]
        refine ⟨pw, List.pairwise_singleton _ _, fun x hx y hy => ?_⟩
        have : y = wd * (0 + (i : Int)) - st + r := by simpa using hy
        have := (bd x hx).2
        omega
      · rcases List.mem_append.mp hx with q | q
        · have := bd x q
          omega
        · have : x = wd * (0 + (i : Int)) - st + r := by simpa using q
          omega
    · rintro ys σ H4 ⟨D4, o4, _, ns, rfl, hl, pw, bd⟩ l5 hl5
      have s5 := same_new hl5 (.lst (ns.map V.int))
      have wm : wd * (m.toNat : Int) ≤ 1000000 * 12 := Int.mul_le_mul w2 (by omega) (by omega) (by decide)
      refine k false _ l5 _ (ns.map fun n => [n]) ⟨upd_same, two_ints ns, ?_, fun a ha => ?_⟩ (by rw [List.length_map]; exact hl) (out_fresh D4 o4 hl5) (D4.same s5) (o4.trans (Out.of s5))
      · have np : ∀ x y : Int, x < y → ([x] : List Int) ≠ [y] := fun x y h z => by
          have : x = y := by simpa using z
          omega
        exact List.Pairwise.map (S := fun a b : List Int => a ≠ b) (fun n => [n]) np pw
      · obtain ⟨n, hn, rfl⟩ := List.mem_map.mp ha
        have := bd n hn
        refine ⟨by simp, fun x hx => ?_⟩
        have : x = n := by simpa using hx
        subst this
        exact ⟨by omega, by omega⟩
  · refine iteN (by simpa using c) ?_
    refine ⟨Nat.zero_le _, fun lf hlf => ?_⟩
    have DL0 := DealL.new D1 hlf
    have hlfH : H lf = none := out_fresh D1 o1 hlf
    have oo : Out d l H (upd H1 lf (.lst [])) := o1.trans (Out.of (same_new hlf _))
    generalize upd H1 lf (.lst []) = H2 at DL0 oo ⊢
    refine ⟨_, rfl, m, rfl, by omega, by omega, for_range (n := m.toNat) (fun i σ H2 => ∃ (us : List V) (as : List (List Int)) (v6 v7 : Option V), σ = [some (.ref d), some (.int m), some (.int kn), none, none, some (.ref lf), v6, v7] ∧ DealL H2 d l lf us ∧ Out d l H H2 ∧ Two (AnV true H2) us as ∧ as.length = i ∧ as.Nodup ∧ ∀ a ∈ as, a.length ≤ 4 ∧ ∀ n ∈ a, 0 ≤ n ∧ n < 3 + (i : Int))
      ⟨[], [], _, _, rfl, DL0, oo, trivial, rfl, List.nodup_nil, fun _ z => nomatch z⟩ ?_ ?_⟩
    · rintro i σ H2 hi ⟨us, as, v6, v7, rfl, DL, o2, tw, al, nd, ok⟩
      refine ⟨_, rfl, d, l, 4, rfl, DL.deal, by decide, by decide, fun jm H3 j0 j1 D3 o3 => ⟨jm, rfl, by omega, by omega, comp_range (n := jm.toNat) (fun j ys σ H4 => Deal H4 d l ∧ Out d l H2 H4 ∧ (∃ v, σ = [v, some (.ref d)]) ∧ ∃ ns : List Int, ys = ns.map V.int ∧ ns.length = j ∧ ∀ x ∈ ns, 0 ≤ x ∧ x < 3)
        (small1000 (by omega)) ⟨D3, o3, ⟨_, rfl⟩, [], rfl, rfl, fun _ z => nomatch z⟩ (by rintro i ys σ H4 ⟨_, _, _, zs, e, e2, _⟩; rw [e, List.length_map]; omega) ?_ ?_⟩⟩
      · rintro j ys σ H4 hj ⟨D4, o4, ⟨v, rfl⟩, ns, rfl, hl, bd⟩
        refine ⟨_, rfl, d, l, 3, rfl, D4, by decide, by decide, fun r H5 r0 r1 D5 o5 => ⟨D5, o4.trans o5, ⟨_, rfl⟩, ns ++ [r], by rw [List.map_append]; rfl, by rw [List.length_append, hl]; rfl, fun x hx => ?_⟩⟩
        rcases List.mem_append.mp hx with q | q
        · exact bd x q
        · have : x = r := by simpa using q
          omega
      · rintro ys σ H4 ⟨D4, o4, _, ns, rfl, hl, bd⟩ l5 hl5
        refine ⟨l5, _, rfl, .inl ⟨SqL.of upd_same, fun t8 ht8 => ?_⟩⟩
        have s6 := (same_new hl5 (.lst (ns.map V.int))).trans (same_new ht8 (.tup (ns.map V.int)))
        have h8 : upd (upd H4 l5 (.lst (ns.map V.int))) t8 (.tup (ns.map V.int)) t8 = some (.tup (ns.map V.int)) := upd_same
        generalize upd (upd H4 l5 (.lst (ns.map V.int))) t8 (.tup (ns.map V.int)) = H6 at s6 h8 ⊢
        have DL8 := (DL.out D4 o4).same s6
        have o8 := o2.trans (o4.trans (Out.of s6))
        have tw8 := tw.mono fun _ _ z => AnV.ts ((TS.out DL.deal o4).trans (.of s6)) z
        have nl : ns.length ≤ 3 := by omega
        refine ⟨_, rfl, _, rfl, as.map (ansD true), ansD true ns, two_list DL8.lst tw8, ans_rep (b := true) ⟨t8, rfl, h8⟩, ans_shaped true as, shaped_ints ns, nomix_ans ns as, _, rfl, ?_⟩
        by_cases c2 : ns ∈ as
        · refine iteP (decide_eq_true ((count_in ns as).mpr c2)) ?_
          refine ⟨_, rfl, _, rfl, _, _, rfl, rfl, by show 1 ≤ sizeLine; decide, fun t7 ht7 => ?_⟩
          have s7 := same_new ht7 (.tup [.int (3 + (0 + (i : Int)))])
          have h7 : upd H6 t7 (.tup [.int (3 + (0 + (i : Int)))]) t7 = some (.tup [.int (3 + (0 + (i : Int)))]) := upd_same
          generalize upd H6 t7 (.tup [.int (3 + (0 + (i : Int)))]) = H7 at s7 h7 ⊢
          replace DL8 := DL8.same s7
          replace o8 := o8.trans (Out.of s7)
          replace tw8 := tw8.mono fun _ _ z => AnV.ts (.of s7) z
          have na : ns ++ [3 + (0 + (i : Int))] ∉ as := fun z => by
            have := ((ok _ z).2 (3 + (0 + (i : Int))) (List.mem_append_right _ List.mem_cons_self)).2
            omega
          have okn : (ns ++ [3 + (0 + (i : Int))]).length ≤ 4 ∧ ∀ n ∈ ns ++ [3 + (0 + (i : Int))], 0 ≤ n ∧ n < 3 + ((i + 1 : Nat) : Int) := by
            refine ⟨by rw [List.length_append]; show ns.length + 1 ≤ 4; omega, fun n hn => ?_⟩
            rcases List.mem_append.mp hn with q | q
            · have := bd n q
              omega
            · have : n = 3 + (0 + (i : Int)) := by simpa using q
              omega
          refine ⟨t8, t7, ns.map V.int, _, rfl, rfl, SqT.of (s7 _ _ h8), SqT.of h7, by simp, by show (ns.map V.int).length + 1 ≤ sizeLine; rw [List.length_map]; exact Nat.le_of_lt (small1000 (by omega)), fun z => ?_, fun z t9 ht9 => ?_⟩
          · have nn : ns = [] := by cases ns with | nil => rfl | cons _ _ => cases z
            have h8 : H7 t7 = some (.tup ((ns ++ [3 + (0 + (i : Int))]).map V.int)) := by rw [nn]; exact h7
            generalize t7 = t8 at h8 ⊢
            refine ⟨_, rfl, .inl ⟨rfl, _, SqL.of DL8.lst⟩, _, rfl, lf, us, _, rfl, rfl, DL8.lst, small1000 (by rw [tw8.length]; omega), ?_⟩
            refine ⟨us ++ [.ref t8], as ++ [ns ++ [3 + (0 + (i : Int))]], _, _, rfl, DL8.app _, out_lst o8 hlfH, Two.append (tw8.mono fun _ _ z => z.ts (TS.lst DL8.lst)) ⟨⟨t8, rfl, TS.lst DL8.lst _ _ h8⟩, trivial⟩, by rw [List.length_append, al]; rfl, nodup_snoc nd na, fun a ha => ?_⟩
            rcases List.mem_append.mp ha with q | q
            · exact ⟨(ok a q).1, fun n hn => by have := (ok a q).2 n hn; omega⟩
            · have e : a = ns ++ [3 + (0 + (i : Int))] := by simpa using q
              rw [e]
              exact okn
          · have s9 := same_new ht9 (.tup (ns.map V.int ++ [.int (3 + (0 + (i : Int)))]))
            have h8 : upd H7 t9 (.tup (ns.map V.int ++ [.int (3 + (0 + (i : Int)))])) t9 = some (.tup ((ns ++ [3 + (0 + (i : Int))]).map V.int)) := by rw [upd_same, List.map_append]; rfl
            generalize upd H7 t9 (.tup (ns.map V.int ++ [.int (3 + (0 + (i : Int)))])) = H9 at s9 h8 ⊢
            replace DL8 := DL8.same s9
            replace o8 := o8.trans (Out.of s9)
            replace tw8 := tw8.mono fun _ _ z => AnV.ts (.of s9) z
            generalize t9 = t8 at h8 ⊢
            refine ⟨_, rfl, .inl ⟨rfl, _, SqL.of DL8.lst⟩, _, rfl, lf, us, _, rfl, rfl, DL8.lst, small1000 (by rw [tw8.length]; omega), ?_⟩
            refine ⟨us ++ [.ref t8], as ++ [ns ++ [3 + (0 + (i : Int))]], _, _, rfl, DL8.app _, out_lst o8 hlfH, Two.append (tw8.mono fun _ _ z => z.ts (TS.lst DL8.lst)) ⟨⟨t8, rfl, TS.lst DL8.lst _ _ h8⟩, trivial⟩, by rw [List.length_append, al]; rfl, nodup_snoc nd na, fun a ha => ?_⟩
            rcases List.mem_append.mp ha with q | q
            · exact ⟨(ok a q).1, fun n hn => by have := (ok a q).2 n hn; omega⟩
            · have e : a = ns ++ [3 + (0 + (i : Int))] := by simpa using q
              rw [e]
              exact okn
        · refine iteN (by simp only [decide_eq_true_eq]; exact fun z => c2 ((count_in ns as).mp z)) ?_
          have na := c2
          have okn : ns.length ≤ 4 ∧ ∀ n ∈ ns, 0 ≤ n ∧ n < 3 + ((i + 1 : Nat) : Int) := ⟨by omega, fun n hn => by have := bd n hn; omega⟩
          refine ⟨_, rfl, .inl ⟨rfl, _, SqL.of DL8.lst⟩, _, rfl, lf, us, _, rfl, rfl, DL8.lst, small1000 (by rw [tw8.length]; omega), ?_⟩
          refine ⟨us ++ [.ref t8], as ++ [ns], _, _, rfl, DL8.app _, out_lst o8 hlfH, Two.append (tw8.mono fun _ _ z => z.ts (TS.lst DL8.lst)) ⟨⟨t8, rfl, TS.lst DL8.lst _ _ h8⟩, trivial⟩, by rw [List.length_append, al]; rfl, nodup_snoc nd na, fun a ha => ?_⟩
          rcases List.mem_append.mp ha with q | q
          · exact ⟨(ok a q).1, fun n hn => by have := (ok a q).2 n hn; omega⟩
          · have e : a = ns := by simpa using q
            rw [e]
            exact okn
    · rintro σ H2 ⟨us, as, v6, v7, rfl, DL, o2, tw, al, nd, ok⟩
      have ul := tw.length
      refine ⟨_, rfl, lf, us, rfl, SqL.of DL.lst, by omega, fun v hv => ?_, fun us' pm l3 hl3 => ?_⟩
      · obtain ⟨a, _, p, e, h⟩ := two_mem tw hv
        exact ⟨p, a, e, h⟩
      · obtain ⟨as', pa, tw'⟩ := two_perm pm tw
        have s3 := same_new hl3 (.lst us')
        refine k true _ l3 us' as' ⟨upd_same, tw'.mono fun _ _ z => z.ts (.of s3), pa.nodup_iff.mpr nd, fun a ha => ?_⟩ (pa.length_eq.trans al) (out_fresh DL.deal o2 hl3) (DL.deal.same s3) (o2.trans (Out.of s3))
        have := ok a (pa.mem_iff.mp ha)
        exact ⟨by omega, fun n hn => by have := this.2 n hn; exact ⟨by omega, by omega⟩⟩
end
end Mine
namespace Mine
open PySem L2
section
variable {P : Program} {w : World} {K : PySem.W.Frag} {mg : Str → Option Value} {base : Heap}
theorem nd_Shs1 : (["_law_answer", "_law_heavy", "_law_come"] : List Str).Nodup := by decide +kernel
theorem nd_Shs2 : (["_law_answer", "_law_heavy", "_law_come"] : List Str).Nodup := by decide +kernel
theorem scShs : FnScope ["_law_answers", "_law_weights", "_law_come"] ["_law_answers", "_law_weights"] (defScope sShs) := ⟨rfl, rfl, rfl, by decide +kernel, rfl, by decide +kernel, by decide +kernel⟩
theorem ok_Shs {f : Addr} {fd : FuncData} (F : Fun K "_law_shares" "_law_shares" sShs f fd)
    {f_LLow : Addr} {d_LLow : FuncData} (G_LLow : FnOk P w K mg base CX0 1 f_LLow d_LLow ["_law_top", "_law_bottom"] spLow) (b_LLow : Binds K d_LLow ["_law_top", "_law_bottom"] []) (k_LLow : PySem.W.keepIn K (.ref f_LLow) = true) (m_LLow : mg "_law_lowest" = some (.ref f_LLow))
    (m_sum : mg "sum" = none) (m_tuple : mg "tuple" = none) (m_zip : mg "zip" = none) :
    FnOk P w K mg base CX0 2 f fd ["_law_answers", "_law_weights"] spShares := by
  refine F.ok scShs (fun vs H Q E h => ?_) (fun cdv A outer s H vs Q E hr h => ?_)
  · obtain ⟨b, p, q, us, as, ws, rfl, _⟩ := h
    rfl
  obtain ⟨b, p, q, us, as, ws, rfl, Pl, hq, wl, w1, w12, wb, k⟩ := h
  have hu := hu_of hr
  have hr1 : Room 1 _ := hr.mono (by decide)
  refine ⟨_, (pss_cons (ps_set (i := 2) scShs.nd rfl (Or.inr rfl) (pe_callB call_sum (by rfl) m_sum PyProof.Rows.boot_sum (pa_cons (pv 1) pa_nil)))
    (pss_one (ps_ret (pe_callTy call_tuple_of (by rfl) m_tuple PyProof.Rows.boot_tuple (pa_cons (pe_comp ["_law_answer", "_law_heavy", "_law_come"] [none, none, some 2] (pi_zipL (by rfl) m_zip (pa_cons (pv 0) (pa_cons (pv 1) pa_nil))) (fun _ _ _ _ => (pgtK K (n := 2) rfl (pgs_cons (pg_name (i := 0) (nd_Shs2) rfl (Or.inl rfl)) (pgs_cons (pg_name (i := 1) (nd_Shs2) rfl (Or.inl rfl)) pgs_nil)))) (fun _ _ _ _ => pf_nil) (fun _ _ _ _ => (pe_tup (pa_cons (pv 0) (pa_cons (pe_call G_LLow hr1 (by rfl) m_LLow k_LLow b_LLow .nil pass0 (pa_cons (pv 1) (pa_cons (pv 2) pa_nil))) pa_nil))))) pa_nil))))), ?_⟩
  have zo := zip_ok Pl.nd Pl.ok wl w1 w12 wb
  have ul := Pl.tw.length
  have sb := sum_bd wb
  have ln : (shsL ws).length = as.length := by unfold shsL; rw [List.length_map]; exact wl
  refine ⟨_, rfl, q, ws, rfl, SqL.of hq, ?_⟩
  refine ⟨_, rfl, _, rfl, p, q, rfl, ⟨_, SqL.of Pl.h⟩, ⟨_, SqL.of hq⟩, comp_zipL (K := K) (a := p) (b := q) (xs := us) (ys := ws.map V.int) (fun i zs σ H2 => Same H H2 ∧ (∃ v1 v2, σ = [v1, v2, some (.int ws.sum)]) ∧ Two (EnA b H2) zs ((as.zip (shsL ws)).take i))
    (small1000 (by omega)) (by rw [List.length_map]; omega) ⟨Same.refl _, ⟨_, _, rfl⟩, trivial⟩ (by rintro i zs σ H2 ⟨_, _, e⟩; rw [e.length, List.length_take]; omega) (by rintro i zs σ H2 _ ⟨e, _⟩; exact ⟨SqL.of (e _ _ Pl.h), SqL.of (e _ _ hq)⟩) ?_ ?_⟩
  · rintro i x y zs σ H2 t hx hy ⟨s2, ⟨v1, v2, rfl⟩, tw⟩ ht
    obtain ⟨a, ha, ax⟩ := Pl.tw.at hx
    obtain ⟨w, rfl, hw⟩ := ints_at hy
    have s3 := s2.trans (same_new ht (.tup [x, .int w]))
    have h3 : upd H2 t (.tup [x, .int w]) t = some (.tup [x, .int w]) := upd_same
    replace tw := tw.mono fun _ _ z => EnA.ts (.of (same_new ht (.tup [x, .int w]))) z
    generalize upd H2 t (.tup [x, .int w]) = H3 at s3 h3 tw ⊢
    have wm := wb w (List.mem_of_getElem? hw)
    refine ⟨t, _, rfl, SqT.of h3, rfl, _, _, rfl, _, _, rfl, rfl, ?_⟩
    refine ⟨_, rfl, _, rfl, _, rfl, w, ws.sum, rfl, by omega, by omega, by omega, fun r hr' => ?_⟩
    have s4 := same_new hr' (.tup (lowI w ws.sum))
    have h4 : TupAt (upd H3 r (.tup (lowI w ws.sum))) r (lowP w ws.sum).1 (lowP w ws.sum).2 := upd_same
    generalize upd H3 r (.tup (lowI w ws.sum)) = H4 at s4 h4 ⊢
    refine ⟨by show 2 ≤ sizeLine; decide, fun t5 ht5 => ⟨s3.trans (s4.trans (same_new ht5 _)), ⟨_, _, rfl⟩, ?_⟩⟩
    have s5 := same_new ht5 (.tup [x, .ref r])
    have hz : (as.zip (shsL ws))[i]? = some (a, lowP w ws.sum) := (List.getElem?_zip_eq_some (z := (a, lowP w ws.sum))).mpr ⟨ha, by unfold shsL; rw [List.getElem?_map, hw]; rfl⟩
    rw [take_snoc hz]
    exact Two.append (tw.mono fun _ _ z => EnA.ts (.of (s4.trans s5)) z) ⟨⟨t5, x, r, rfl, upd_same, ax.ts (.of (s3.trans (s4.trans s5))), s5 _ _ h4⟩, trivial⟩
  · rintro zs σ H2 ⟨s2, _, tw⟩ l3 hl3
    have zl : (as.zip (shsL ws)).length = us.length := by rw [List.length_zip]; omega
    rw [← zl, List.take_length] at tw
    have s3 := same_new hl3 (.lst zs)
    refine ⟨l3, zs, rfl, .inl ⟨SqL.of upd_same, fun t4 ht4 => ?_⟩⟩
    have s4 := same_new ht4 (.tup zs) (H := upd H2 l3 (.lst zs))
    exact k _ t4 _ _ (s2.trans (s3.trans s4)) ⟨zs, upd_same, tw.mono fun _ _ z => EnA.ts (.of (s3.trans s4)) z⟩ zo
end
end Mine
namespace Mine
open PySem L2
section
variable {P : Program} {w : World} {K : PySem.W.Frag} {mg : Str → Option Value} {base : Heap}
theorem nd_Two1 : (["_law_answer", "_law_deal_here"] : List Str).Nodup := by decide +kernel
theorem nd_Two2 : (["_law_answer", "_law_deal_here", "_law_wide"] : List Str).Nodup := by decide +kernel
theorem nd_Two3 : (["_law_answer", "_law_deal_here", "_law_wide"] : List Str).Nodup := by decide +kernel
theorem nd_Two4 : (["_law_answers", "_law_weights"] : List Str).Nodup := by decide +kernel
theorem scTwo : FnScope ["_law_deal_here", "_law_pool_here", "_law_wide", "_law_tables", "_law_turn", "_law_answers", "_law_way", "_law_weights", "_law_at"] ["_law_deal_here", "_law_pool_here", "_law_wide"] (defScope sTwo) := ⟨rfl, rfl, rfl, by decide +kernel, rfl, by decide +kernel, by decide +kernel⟩
theorem ok_Two {f : Addr} {fd : FuncData} (F : Fun K "_law_two" "_law_two" sTwo f fd)
    {f_Draw : Addr} {d_Draw : FuncData} (G_Draw : FnOk P w K mg base CX0 1 f_Draw d_Draw ["_law_deal_here", "_law_many"] spDraw) (b_Draw : Binds K d_Draw ["_law_deal_here", "_law_many"] []) (k_Draw : PySem.W.keepIn K (.ref f_Draw) = true) (m_Draw : mg "_law_draw" = some (.ref f_Draw))
    {f_Shs : Addr} {d_Shs : FuncData} (G_Shs : FnOk P w K mg base CX0 2 f_Shs d_Shs ["_law_answers", "_law_weights"] spShares) (b_Shs : Binds K d_Shs ["_law_answers", "_law_weights"] []) (k_Shs : PySem.W.keepIn K (.ref f_Shs) = true) (m_Shs : mg "_law_shares" = some (.ref f_Shs))
    (m_range : mg "range" = none) (m_list : mg "list" = none) (m_len : mg "len" = none) :
    FnOk P w K mg base CX0 3 f fd ["_law_deal_here", "_law_pool_here", "_law_wide"] spTwo := by
  refine F.ok scTwo (fun vs H Q E h => ?_) (fun cdv A outer s H vs Q E hr h => ?_)
  · obtain ⟨d, l, r, wide, b, us, as, rfl, _⟩ := h
    rfl
  obtain ⟨d, l, r, wide, b, us, as, rfl, D, Pl, nl, a1, a12, w1, w2, k⟩ := h
  have hu := hu_of hr
  have hr1 : Room 1 _ := hr.mono (by decide)
  have hr2 : Room 2 _ := hr.mono (by decide)
  refine ⟨_, (pss_cons (ps_set (i := 3) scTwo.nd rfl (Or.inl rfl) (pe_lst pa_nil))
    (pss_cons (ps_for PassesOwn.never rfl (pi_range1 (by rfl) m_range (pa_cons pe_int pa_nil)) (pg_name (i := 4) scTwo.nd rfl (Or.inl rfl))
    (pss_cons (ps_setC ["_law_answer", "_law_deal_here"] [none, some 0] (i := 5) scTwo.nd rfl (Or.inl rfl) (pi_list (pv 1)) (fun _ _ _ _ => (pg_name (i := 0) (nd_Two1) rfl (Or.inl rfl))) (fun _ _ _ _ => (pf_one (pt_cmpR op_gt (pe_call G_Draw hr1 (by rfl) m_Draw k_Draw b_Draw .nil pass0 (pa_cons (pv 1) (pa_cons pe_int pa_nil))) pe_int (nomark _)))) (fun _ _ _ _ => (pv 0)))
    (pss_cons (ps_if (pt_cmpR (op_eqD hr1) (pv 5) (pe_lst pa_nil) (nomark _)) (pss_one (ps_set (i := 5) scTwo.nd rfl (Or.inl rfl) (pe_lst (pa_cons (pe_ix ix_list (pv 1) (pe_call G_Draw hr1 (by rfl) m_Draw k_Draw b_Draw .nil pass0 (pa_cons (pv 0) (pa_cons (pe_callB call_len_seq (by rfl) m_len PySem.boot_len (pa_cons (pv 1) pa_nil)) pa_nil))) (fun _ _ => rfl)) pa_nil)))) pss_nil)
    (pss_one (ps_expr (pe_bm PySem.F.plainAttrs_list PySem.F.slot_list_append PySem.F.type_list_append mt_append (pv 3) (pa_cons (pe_tup (pa_cons (pv 5) (pa_cons (pe_comp ["_law_answer", "_law_deal_here", "_law_wide"] [none, some 0, some 2] (pi_list (pv 5)) (fun _ _ _ _ => (pg_name (i := 0) (nd_Two2) rfl (Or.inl rfl))) (fun _ _ _ _ => pf_nil) (fun _ _ _ _ => (pe_op op_add pe_int (pe_call G_Draw hr1 (by rfl) m_Draw k_Draw b_Draw .nil pass0 (pa_cons (pv 1) (pa_cons (pv 2) pa_nil)))))) pa_nil))) pa_nil)))))))
    (pss_cons (ps_set (i := 6) scTwo.nd rfl (Or.inl rfl) (pe_call G_Draw hr1 (by rfl) m_Draw k_Draw b_Draw .nil pass0 (pa_cons (pv 0) (pa_cons pe_int pa_nil))))
    (pss_cons (ps_if (pt_cmpR op_lt (pv 6) pe_int (nomark _)) (pss_cons (ps_par (i := 5) (j := 7) rfl scTwo.nd rfl rfl (by decide) rfl rfl (pa_cons (pe_callTy call_list_of (by rfl) m_list PyProof.Rows.boot_list (pa_cons (pe_ix ix_tup (pe_ix ix_list (pv 3) pe_int (fun _ _ => rfl)) pe_int (fun _ _ => rfl)) pa_nil)) (pa_cons (pe_callTy call_list_of (by rfl) m_list PyProof.Rows.boot_list (pa_cons (pe_ix ix_tup (pe_ix ix_list (pv 3) pe_int (fun _ _ => rfl)) pe_int (fun _ _ => rfl)) pa_nil)) pa_nil)) rfl)
    (pss_cons (ps_set (i := 8) scTwo.nd rfl (Or.inl rfl) (pe_call G_Draw hr1 (by rfl) m_Draw k_Draw b_Draw .nil pass0 (pa_cons (pv 0) (pa_cons (pe_callB call_len_seq (by rfl) m_len PySem.boot_len (pa_cons (pv 5) pa_nil)) pa_nil))))
    (pss_cons (ps_if (pt_cmpR op_eq (pv 6) pe_int (nomark _)) (pss_one (ps_asg (pe_op op_add pe_int (pe_call G_Draw hr1 (by rfl) m_Draw k_Draw b_Draw .nil pass0 (pa_cons (pv 0) (pa_cons (pv 2) pa_nil)))) (pg_sub (pv 7) (pv 8) set_list))) pss_nil)
    (pss_cons (ps_if (pw_and (pt_cmpR op_eq (pv 6) pe_int (nomark _)) (pw_and1 (pt_cmpR op_gt (pe_callB call_len_seq (by rfl) m_len PySem.boot_len (pa_cons (pv 5) pa_nil)) pe_int (nomark _)))).pt (pss_cons (ps_expr (pe_bm PySem.F.plainAttrs_list PySem.F.slot_list_pop PySem.F.type_list_pop mt_popAt (pv 5) (pa_cons (pv 8) pa_nil)))
    (pss_one (ps_expr (pe_bm PySem.F.plainAttrs_list PySem.F.slot_list_pop PySem.F.type_list_pop mt_popAt (pv 7) (pa_cons (pv 8) pa_nil))))) pss_nil)
    (pss_one (ps_asg (pe_tup (pa_cons (pv 5) (pa_cons (pv 7) pa_nil))) (pg_sub (pv 3) pe_int set_list))))))) pss_nil)
    (pss_cons (ps_setC ["_law_answers", "_law_weights"] [none, none] (i := 3) scTwo.nd rfl (Or.inl rfl) (pi_list (pv 3)) (fun _ _ _ _ => (pgtK K (n := 2) rfl (pgs_cons (pg_name (i := 0) (nd_Two4) rfl (Or.inl rfl)) (pgs_cons (pg_name (i := 1) (nd_Two4) rfl (Or.inl rfl)) pgs_nil)))) (fun _ _ _ _ => pf_nil) (fun _ _ _ _ => (pe_call G_Shs hr2 (by rfl) m_Shs k_Shs b_Shs .nil pass0 (pa_cons (pv 0) (pa_cons (pv 1) pa_nil)))))
    (pss_one (ps_ret (pe_ix ix_list (pe_lst (pa_cons (pv 3) (pa_cons (pe_lst (pa_cons (pe_ix ix_list (pv 3) pe_int (fun _ _ => rfl)) (pa_cons (pe_ix ix_list (pv 3) pe_int (fun _ _ => rfl)) pa_nil))) pa_nil))) (pe_call G_Draw hr1 (by rfl) m_Draw k_Draw b_Draw .nil pass0 (pa_cons (pv 0) (pa_cons pe_int pa_nil))) (fun _ _ => rfl))))))))), ?_⟩
  have pl0 := Pl.tw.length
  refine ⟨Nat.zero_le _, fun lf hlf => ?_⟩
  have DL0 := DealL.new D hlf
  have hlfH := hlf
  have nlf : r ≠ lf := ne_of_none Pl.h hlf
  have oo : Out d l H (upd H lf (.lst [])) := Out.of (same_new hlf _)
  generalize upd H lf (.lst []) = H1 at DL0 oo ⊢
  refine ⟨2, rfl, by decide, by decide, for_range (n := 2) (fun i σ H2 => ∃ (vs : List V) (v4 v5 : Option V), σ = [some (.ref d), some (.ref r), some (.int wide), some (.ref lf), v4, v5, none, none, none] ∧ DealL H2 d l lf vs ∧ Out d l H H2 ∧ vs.length = i ∧ ∀ v ∈ vs, PairV b H2 [l, lf] v)
    ⟨[], _, _, rfl, DL0, oo, rfl, fun _ z => nomatch z⟩ ?_ ?_⟩
  · rintro i σ H2 hi ⟨vs, v4, v5, rfl, DL, o2, vl, PV⟩
    have P2 := Pl.out D nl o2
    refine ⟨_, rfl, r, rfl, ⟨_, SqL.of P2.h⟩, comp_list (K := K) (a := r) (xs := us) (fun j zs σ H4 => Deal H4 d l ∧ Out d l H2 H4 ∧ (∃ v, σ = [v, some (.ref d)]) ∧ ∃ bs, Two (AnV b H4) zs bs ∧ bs.Sublist (as.take j))
      (small1000 (by omega)) ⟨DL.deal, Out.refl _, ⟨_, rfl⟩, [], trivial, List.Sublist.refl _⟩ (fun j zs σ H4 ⟨_, _, _, bs, e, e2⟩ => by
        have := e2.length_le
        rw [List.length_take] at this
        rw [e.length]
        omega) (by rintro j zs σ H4 _ ⟨D4, o4, _⟩; exact SqL.of (P2.out DL.deal nl o4).h) ?_ ?_⟩
    · rintro j v zs σ H4 hv ⟨D4, o4, ⟨v', rfl⟩, bs, twb, sl⟩
      obtain ⟨a, ha, av⟩ := P2.tw.at hv
      refine ⟨_, rfl, d, l, 4, rfl, D4, by decide, by decide, fun x H5 x0 x1 D5 o5 => ⟨_, _, rfl, rfl, _, rfl, ?_⟩⟩
      rw [take_snoc ha]
      by_cases c : 0 < x
      · refine iteP (decide_eq_true c) ⟨_, rfl, D5, o4.trans o5, ⟨_, rfl⟩, bs ++ [a], ?_, sl.append (List.Sublist.refl _)⟩
        exact Two.append (twb.mono fun _ _ z => z.ts (TS.out D4 o5)) ⟨av.ts (TS.out DL.deal (o4.trans o5)), trivial⟩
      · exact iteN (by simpa using c) ⟨D5, o4.trans o5, ⟨_, rfl⟩, bs, twb.mono fun _ _ z => z.ts (TS.out D4 o5), sl.trans (List.sublist_append_left _ _)⟩
    · rintro zs σ H4 ⟨D4, o4, _, bs, twb, sl⟩ la hla
      rw [pl0, List.take_length] at sl
      have n4 := deal_new D4 hla
      have n4f : la ≠ lf := (ne_of_none (DL.out D4 o4).lst hla).symm
      have s5 := same_new hla (.lst zs)
      have h5 : upd H4 la (.lst zs) la = some (.lst zs) := upd_same
      generalize upd H4 la (.lst zs) = H5 at s5 h5 ⊢
      refine ⟨_, rfl, Nat.zero_le _, fun l6 hl6 => ?_⟩
      have s6 := same_new hl6 (.lst [])
      have h6 : upd H5 l6 (.lst []) l6 = some (.lst []) := upd_same
      generalize upd H5 l6 (.lst []) = H6 at s6 h6 ⊢
      have tb6 := twb.mono fun _ _ z => AnV.ts (.of (s5.trans s6)) z
      have D6 := D4.same (s5.trans s6)
      have o6 := o4.trans (Out.of (s5.trans s6))
      refine ⟨.list (bs.map (ansD b)), .list [], two_list (s6 _ _ h5) tb6, ⟨l6, [], rfl, SqL.of h6, rfl⟩, ans_shaped b bs, nil_shaped, nomix_nil, _, rfl, ?_⟩
      by_cases c : bs = []
      · refine iteP (by show Spec.same _ _ = true; rw [list_nil]; exact decide_eq_true (by rw [c]; rfl)) ?_
        have P6 := P2.out DL.deal nl o6
        refine ⟨_, rfl, _, rfl, _, rfl, r, us, rfl, .inl (SqL.of P6.h), d, l, us.length, rfl, D6, by omega, by omega, fun x H7 x0 x1 D7 o7 => ?_⟩
        have P7' := P6.out D6 nl o7
        have xl : x.toNat < us.length := by omega
        obtain ⟨a, ha, av⟩ := P7'.tw.at (List.getElem?_eq_getElem xl)
        refine ⟨r, us, _, us[x.toNat], rfl, rfl, SqL.of P7'.h, (by have h := atI_nat (List.getElem?_eq_getElem xl); rwa [show ((x.toNat : Nat) : Int) = x by omega] at h), by show 1 ≤ sizeLine; decide, fun la hla => ?_⟩
        have s8 := same_new hla (.lst [us[x.toNat]])
        have n8 := deal_new D7 hla
        have oo8 := o6.trans (o7.trans (Out.of s8))
        have n8f : la ≠ lf := (ne_of_none (DL.out D7 (o6.trans o7)).lst hla).symm
        have P7 : PoolA b (upd H7 la (.lst [us[x.toNat]])) la [us[x.toNat]] [a] := ⟨upd_same, ⟨av.ts (.of s8), trivial⟩, by simp, fun y hy => by
          have : y = a := by simpa using hy
          rw [this]
          exact Pl.ok _ (List.mem_of_getElem? ha)⟩
        generalize upd H7 la (.lst [us[x.toNat]]) = H7 at s8 oo8 P7 ⊢
        have DL7 := DL.out (D7.same s8) oo8
        have o7 := o2.trans oo8
        have PV7 : ∀ v ∈ vs, PairV b H7 [l, lf] v := fun v hv => (PV v hv).out DL.deal (by simp) oo8
        have na7 : la ≠ l ∧ la ≠ lf := ⟨n8.2, n8f⟩
        have zl7 := P7.tw.length
        have bl : 1 ≤ [a].length ∧ [a].length ≤ 12 := ⟨by simp, by simp⟩
        refine ⟨_, rfl, .inl ⟨rfl, _, SqL.of DL7.lst⟩, _, rfl, _, rfl, la, rfl, ⟨_, SqL.of P7.h⟩, comp_list (K := K) (a := la) (xs := [us[x.toNat]]) (fun j ys σ H8 => Deal H8 d l ∧ Out d l H7 H8 ∧ (∃ v, σ = [v, some (.ref d), some (.int wide)]) ∧ ∃ ws : List Int, ys = ws.map V.int ∧ ws.length = j ∧ ∀ w ∈ ws, 1 ≤ w ∧ w ≤ 10 ^ 10)
          (small1000 (by omega)) ⟨DL7.deal, Out.refl _, ⟨_, rfl⟩, [], rfl, rfl, fun _ z => nomatch z⟩ (by rintro j ys σ H8 ⟨_, _, _, ws, e, e2, _⟩; rw [e, List.length_map]; omega) (by rintro j ys σ H8 _ ⟨_, o8, _⟩; exact SqL.of (P7.out DL7.deal na7.1 o8).h) ?_ ?_⟩
        · rintro j v ys σ H8 hv ⟨D8, o8, ⟨v', rfl⟩, ws, rfl, hl, hw⟩
          refine ⟨_, rfl, _, rfl, d, l, wide, rfl, D8, by omega, by omega, fun x H9 x0 x1 D9 o9 => ⟨_, _, rfl, rfl, D9, o8.trans o9, ⟨_, rfl⟩, ws ++ [1 + x], by rw [List.map_append]; rfl, by rw [List.length_append, hl]; rfl, fun w hw' => ?_⟩⟩
          rcases List.mem_append.mp hw' with q | q
          · exact hw w q
          · have : w = 1 + x := by simpa using q
            omega
        · rintro ys σ H8 ⟨D8, o8, _, ws, rfl, hl, hw⟩ lw hlw
          have P8 := P7.out DL7.deal na7.1 o8
          have DL8 := DL7.out D8 o8
          have nw := deal_new D8 hlw
          have nw2 : lw ≠ lf := (ne_of_none DL8.lst hlw).symm
          have s9 := same_new hlw (.lst (ws.map V.int))
          have h9 : upd H8 lw (.lst (ws.map V.int)) lw = some (.lst (ws.map V.int)) := upd_same
          generalize upd H8 lw (.lst (ws.map V.int)) = H9 at s9 h9 ⊢
          refine ⟨by show 2 ≤ sizeLine; decide, fun t ht => ?_⟩
          have s10 := same_new ht (.tup [.ref la, .ref lw])
          have P10 : PairAt b (upd H9 t (.tup [.ref la, .ref lw])) [l, lf] t la lw [us[x.toNat]] [a] ws := ⟨upd_same, P8.same (s9.trans s10), s10 _ _ h9, by omega, by omega, by omega, hw, by simp [na7.1, na7.2], by simp [nw.2, nw2]⟩
          generalize upd H9 t (.tup [.ref la, .ref lw]) = H10 at s10 P10 ⊢
          have DL10 := DL8.same (s9.trans s10)
          have o10 := o7.trans (o8.trans (Out.of (s9.trans s10)))
          refine ⟨lf, vs, _, rfl, rfl, DL10.lst, small1000 (by omega), ?_⟩
          refine ⟨vs ++ [.ref t], _, _, rfl, DL10.app _, out_lst o10 hlfH, by rw [List.length_append, vl]; rfl, fun v hv => ?_⟩
          rcases List.mem_append.mp hv with q | q
          · exact (((PV7 v q).out DL7.deal (by simp) o8).same (s9.trans s10)).lst (by simp) DL10.lst
          · have q : v = .ref t := by simpa using q
            rw [q]
            exact PairV.lst ⟨t, la, lw, _, _, ws, rfl, P10⟩ (by simp) DL10.lst
      · refine iteN (by show ¬ Spec.same _ _ = true; rw [list_nil]; simp [c]) ?_
        have P7 : PoolA b H6 la zs bs := ⟨s6 _ _ h5, tb6, Pl.nd.sublist sl, fun y hy => Pl.ok _ (sl.subset hy)⟩
        have b1 : 1 ≤ bs.length := by cases bs with | nil => exact absurd rfl c | cons _ _ => simp
        have b2 := sl.length_le
        have zl := tb6.length
        generalize H6 = H7 at s6 D6 o6 P7 ⊢
        have DL7 := DL.out D6 o6
        have o7 := o2.trans o6
        have PV7 : ∀ v ∈ vs, PairV b H7 [l, lf] v := fun v hv => (PV v hv).out DL.deal (by simp) o6
        have na7 : la ≠ l ∧ la ≠ lf := ⟨n4.2, n4f⟩
        have zl7 := P7.tw.length
        have bl : 1 ≤ bs.length ∧ bs.length ≤ 12 := ⟨b1, by omega⟩
        refine ⟨_, rfl, .inl ⟨rfl, _, SqL.of DL7.lst⟩, _, rfl, _, rfl, la, rfl, ⟨_, SqL.of P7.h⟩, comp_list (K := K) (a := la) (xs := zs) (fun j ys σ H8 => Deal H8 d l ∧ Out d l H7 H8 ∧ (∃ v, σ = [v, some (.ref d), some (.int wide)]) ∧ ∃ ws : List Int, ys = ws.map V.int ∧ ws.length = j ∧ ∀ w ∈ ws, 1 ≤ w ∧ w ≤ 10 ^ 10)
          (small1000 (by omega)) ⟨DL7.deal, Out.refl _, ⟨_, rfl⟩, [], rfl, rfl, fun _ z => nomatch z⟩ (by rintro j ys σ H8 ⟨_, _, _, ws, e, e2, _⟩; rw [e, List.length_map]; omega) (by rintro j ys σ H8 _ ⟨_, o8, _⟩; exact SqL.of (P7.out DL7.deal na7.1 o8).h) ?_ ?_⟩
        · rintro j v ys σ H8 hv ⟨D8, o8, ⟨v', rfl⟩, ws, rfl, hl, hw⟩
          refine ⟨_, rfl, _, rfl, d, l, wide, rfl, D8, by omega, by omega, fun x H9 x0 x1 D9 o9 => ⟨_, _, rfl, rfl, D9, o8.trans o9, ⟨_, rfl⟩, ws ++ [1 + x], by rw [List.map_append]; rfl, by rw [List.length_append, hl]; rfl, fun w hw' => ?_⟩⟩
          rcases List.mem_append.mp hw' with q | q
          · exact hw w q
          · have : w = 1 + x := by simpa using q
            omega
        · rintro ys σ H8 ⟨D8, o8, _, ws, rfl, hl, hw⟩ lw hlw
          have P8 := P7.out DL7.deal na7.1 o8
          have DL8 := DL7.out D8 o8
          have nw := deal_new D8 hlw
          have nw2 : lw ≠ lf := (ne_of_none DL8.lst hlw).symm
          have s9 := same_new hlw (.lst (ws.map V.int))
          have h9 : upd H8 lw (.lst (ws.map V.int)) lw = some (.lst (ws.map V.int)) := upd_same
          generalize upd H8 lw (.lst (ws.map V.int)) = H9 at s9 h9 ⊢
          refine ⟨by show 2 ≤ sizeLine; decide, fun t ht => ?_⟩
          have s10 := same_new ht (.tup [.ref la, .ref lw])
          have P10 : PairAt b (upd H9 t (.tup [.ref la, .ref lw])) [l, lf] t la lw zs bs ws := ⟨upd_same, P8.same (s9.trans s10), s10 _ _ h9, by omega, by omega, by omega, hw, by simp [na7.1, na7.2], by simp [nw.2, nw2]⟩
          generalize upd H9 t (.tup [.ref la, .ref lw]) = H10 at s10 P10 ⊢
          have DL10 := DL8.same (s9.trans s10)
          have o10 := o7.trans (o8.trans (Out.of (s9.trans s10)))
          refine ⟨lf, vs, _, rfl, rfl, DL10.lst, small1000 (by omega), ?_⟩
          refine ⟨vs ++ [.ref t], _, _, rfl, DL10.app _, out_lst o10 hlfH, by rw [List.length_append, vl]; rfl, fun v hv => ?_⟩
          rcases List.mem_append.mp hv with q | q
          · exact (((PV7 v q).out DL7.deal (by simp) o8).same (s9.trans s10)).lst (by simp) DL10.lst
          · have q : v = .ref t := by simpa using q
            rw [q]
            exact PairV.lst ⟨t, la, lw, _, _, ws, rfl, P10⟩ (by simp) DL10.lst
  · rintro σ H2 ⟨vs, v4, v5, rfl, DL, o2, vl, PV⟩
    obtain ⟨p1, p2, rfl⟩ := len2 vl
    refine ⟨_, rfl, d, l, 6, rfl, DL.deal, by decide, by decide, fun wy H3 y0 y1 D3 o3 => ?_⟩
    have DL3 := DL.out D3 o3
    have oH3 := o2.trans o3
    have PV3 : ∀ v ∈ [p1, p2], PairV b H3 [l, lf] v := fun v hv => (PV v hv).out DL.deal (by simp) o3
    refine ⟨_, rfl, _, _, rfl, rfl, _, rfl, ?_⟩
    by_cases c : wy < 3
    · refine iteP (decide_eq_true c) ?_
      obtain ⟨t1, pa, pw, us1, as1, ws1, rfl, A1⟩ := PV3 p1 (by simp)
      refine ⟨_, rfl, lf, _, _, .ref t1, rfl, rfl, SqL.of DL3.lst, rfl, t1, _, _, .ref pa, rfl, rfl, SqT.of A1.h, rfl, pa, us1, rfl, .inl (SqL.of A1.pl.h), fun la hla => ?_⟩
      have na0 := deal_new D3 hla
      have na1 : la ≠ lf := (ne_of_none DL3.lst hla).symm
      have s4 := same_new hla (.lst us1)
      have h4 : upd H3 la (.lst us1) la = some (.lst us1) := upd_same
      generalize upd H3 la (.lst us1) = H4 at s4 h4 ⊢
      refine ⟨_, rfl, lf, _, _, .ref t1, rfl, rfl, SqL.of (s4 _ _ DL3.lst), rfl, t1, _, _, .ref pw, rfl, rfl, SqT.of (s4 _ _ A1.h), rfl, pw, _, rfl, .inl (SqL.of (s4 _ _ A1.hw)), fun lw hlw => ⟨_, _, rfl, ?_⟩⟩
      have nw0 := deal_new (D3.same s4) hlw
      have nw1 : lw ≠ lf := (ne_of_none (s4 _ _ DL3.lst) hlw).symm
      have nwa : lw ≠ la := (ne_of_none h4 hlw).symm
      have s5 := same_new hlw (.lst (ws1.map V.int))
      have h5 : upd H4 lw (.lst (ws1.map V.int)) lw = some (.lst (ws1.map V.int)) := upd_same
      have PV5 : ∀ v ∈ [V.ref t1, p2], PairV b (upd H4 lw (.lst (ws1.map V.int))) [lw, la, l, lf] v := fun v hv => (((((PV3 v hv).more hla).same s4).more hlw).same s5)
      generalize upd H4 lw (.lst (ws1.map V.int)) = H5 at s5 h5 PV5 ⊢
      have u1 := A1.pl.tw.length
      have q1 := A1.wl
      have q2 := A1.w1
      have q3 := A1.w12
      have D5 := D3.same (s4.trans s5)
      refine ⟨_, rfl, _, rfl, la, us1, rfl, .inl (SqL.of (s5 _ _ h4)), d, l, us1.length, rfl, D5, by omega, by omega, fun at' H6 a0 a1 D6 o6 => ?_⟩
      have PV6 : ∀ v ∈ [V.ref t1, p2], PairV b H6 [lw, la, l, lf] v := fun v hv => (PV5 v hv).out D5 (by simp) o6
      have DL6 := (DL3.same (s4.trans s5)).out D6 o6
      have oH6 := oH3.trans ((Out.of (s4.trans s5)).trans o6)
      have h6a := o6 _ _ (s5 _ _ h4) na0.1 na0.2
      have h6w := o6 _ _ h5 nw0.1 nw0.2
      have t6 := (TS.of (s4.trans s5)).trans (TS.out D5 o6)
      have tw6 := A1.pl.tw.mono fun _ _ z => AnV.ts t6 z
      have nam : la ∉ [l, lf] := by simp [na0.2, na1]
      have nwm : lw ∉ [l, lf] := by simp [nw0.2, nw1]
      have sub : ∀ x ∈ [l, lf], x ∈ [lw, la, l, lf] := fun x hx => List.mem_cons_of_mem _ (List.mem_cons_of_mem _ hx)
      refine ⟨_, rfl, rfl, _, rfl, ?_⟩
      by_cases c1 : wy = 1
      · refine iteP (by simp [c1]) ?_
        refine ⟨_, rfl, _, rfl, d, l, wide, rfl, D6, by omega, by omega, fun x H7 x0 x1 D7 o7 => ⟨_, _, rfl, rfl, _, rfl, _, rfl, lw, _, at', at'.toNat, rfl, rfl, o7 _ _ h6w nw0.1 nw0.2, by rw [List.length_map]; unfold ixN; rw [if_pos a0, if_pos (by omega)], ?_⟩⟩
        have PV7 : ∀ v ∈ [V.ref t1, p2], PairV b (upd H7 lw (.lst ((ws1.map V.int).set at'.toNat (.int (1 + x))))) [lw, la, l, lf] v := fun v hv => ((PV6 v hv).out D6 (by simp) o7).lst (by simp) (o7 _ _ h6w nw0.1 nw0.2)
        have DL7 := DL6.out D7 o7
        have ts7 := (TS.out D6 o7).trans (TS.lst (ys := (ws1.map V.int).set at'.toNat (.int (1 + x))) (o7 _ _ h6w nw0.1 nw0.2))
        have DLm : DealL (upd H7 lw (.lst ((ws1.map V.int).set at'.toNat (.int (1 + x))))) d l lf [.ref t1, p2] := ⟨deal_lst DL7.deal (o7 _ _ h6w nw0.1 nw0.2) nw0.2, DL7.ne, by rw [upd_ne nw1.symm]; exact DL7.lst⟩
        have hwm : upd H7 lw (.lst ((ws1.map V.int).set at'.toNat (.int (1 + x)))) lw = some (.lst ((ws1.set at'.toNat (1 + x)).map V.int)) := by rw [upd_same, List.map_set]
        have lwH : H lw = none := out_fresh (D3.same s4) (oH3.trans (Out.of s4)) hlw
        have om := out_lst (o := .lst ((ws1.map V.int).set at'.toNat (.int (1 + x)))) (oH6.trans o7) lwH
        have PLm : PoolA b (upd H7 lw (.lst ((ws1.map V.int).set at'.toNat (.int (1 + x))))) la us1 as1 := ⟨by rw [upd_ne nwa.symm]; exact o7 _ _ h6a na0.1 na0.2, tw6.mono fun _ _ z => AnV.ts ts7 z, A1.pl.nd, A1.pl.ok⟩
        have PVm := fun v hv => (PV7 v hv).less sub
        generalize upd H7 lw (.lst ((ws1.map V.int).set at'.toNat (.int (1 + x)))) = Hm at PVm DLm hwm om PLm ⊢
        refine ⟨_, rfl, rfl, _, rfl, ?_⟩
        refine iteN (by simp [c1]) ?_
        refine iteN (by simp) ?_
        have wb : ∀ w ∈ ws1.set at'.toNat (1 + x), 1 ≤ w ∧ w ≤ 10 ^ 10 := fun w hw => by
          rcases mem_set' hw with q | q
          · exact A1.wb w q
          · omega
        have wl : (ws1.set at'.toNat (1 + x)).length = as1.length := by rw [List.length_set]; exact q1
        have w1 : 1 ≤ (ws1.set at'.toNat (1 + x)).length := by rw [List.length_set]; exact q2
        have w12 : (ws1.set at'.toNat (1 + x)).length ≤ 12 := by rw [List.length_set]; exact q3
        generalize us1 = zm at PLm
        generalize as1 = bm at PLm wl
        generalize ws1.set at'.toNat (1 + x) = wm at hwm wb wl w1 w12
        refine ⟨_, rfl, _, rfl, by show 2 ≤ sizeLine; decide, fun t9 ht9 => ?_⟩
        have s9 := same_new ht9 (.tup [.ref la, .ref lw])
        have PT : PairAt b (upd Hm t9 (.tup [.ref la, .ref lw])) [l, lf] t9 la lw zm bm wm := ⟨upd_same, PLm.same s9, s9 _ _ hwm, wl, w1, w12, wb, nam, nwm⟩
        generalize upd Hm t9 (.tup [.ref la, .ref lw]) = H9 at s9 PT ⊢
        refine ⟨_, rfl, lf, _, 1, 1, rfl, rfl, s9 _ _ DLm.lst, rfl, ?_⟩
        have DLf := (DLm.same s9).app [.ref t1, .ref t9]
        have of := out_lst (o := .lst [.ref t1, .ref t9]) (om.trans (Out.of s9)) hlfH
        have PVf : ∀ v ∈ [V.ref t1, .ref t9], PairV b (upd H9 lf (.lst [.ref t1, .ref t9])) [l, lf] v := fun v hv => by
          rcases List.mem_cons.mp hv with q | q
          · rw [q]
            exact ((PVm (.ref t1) List.mem_cons_self).same s9).lst (by simp) (s9 _ _ DLm.lst)
          · have q : v = .ref t9 := by simpa using q
            rw [q]
            exact PairV.lst ⟨t9, la, lw, zm, bm, wm, rfl, PT⟩ (by simp) (s9 _ _ DLm.lst)
        refine ⟨_, rfl, lf, rfl, ⟨_, SqL.of DLf.lst⟩, comp_list (K := K) (a := lf) (xs := [.ref t1, .ref t9]) (fun j zs σ H11 => Same (upd H9 lf (.lst [.ref t1, .ref t9])) H11 ∧ (∃ x y, σ = [x, y]) ∧ TabsA b H11 zs ∧ zs.length = j)
          (small1000 (by show 2 ≤ 1000; decide)) ⟨Same.refl _, ⟨_, _, rfl⟩, fun _ z => absurd z List.not_mem_nil, rfl⟩ (by rintro j zs σ H11 ⟨_, _, _, e⟩; omega) (by rintro j zs σ H11 _ ⟨e, _⟩; exact SqL.of (e _ _ DLf.lst)) ?_ ?_⟩
        · rintro j v zs σ H11 hv ⟨s11, ⟨x, y, rfl⟩, T11, zl⟩
          obtain ⟨t, pa, pw, us, as, ws, rfl, PA⟩ := PVf v (List.mem_of_getElem? hv)
          have PB := PA.same s11
          refine ⟨t, _, rfl, SqT.of PB.h, rfl, _, _, rfl, _, _, rfl, rfl, ?_⟩
          exact ⟨_, rfl, _, rfl, b, pa, pw, us, as, ws, rfl, PB.pl, PB.hw, PB.wl, PB.w1, PB.w12, PB.wb, fun H12 t12 es c s12 ht12 ok12 => ⟨s11.trans s12, ⟨_, _, rfl⟩, (T11.ts (.of s12)).snoc ht12 ok12, by rw [List.length_append, zl]; rfl⟩⟩
        · rintro zs σ H11 ⟨s11, _, T11, zl⟩ l5 hl5
          obtain ⟨z1, z2, rfl⟩ := len2 zl
          obtain ⟨ta, es1, c1, rfl, ha, oa⟩ := T11 z1 (by simp)
          obtain ⟨tb, es2, c2, rfl, hb, ob⟩ := T11 z2 (by simp)
          have s5 := same_new hl5 (.lst [.ref ta, .ref tb])
          have h5 : upd H11 l5 (.lst [.ref ta, .ref tb]) l5 = some (.lst [.ref ta, .ref tb]) := upd_same
          have n5 := deal_new (DLf.deal.same s11) hl5
          generalize upd H11 l5 (.lst [.ref ta, .ref tb]) = H12 at s5 h5 ⊢
          refine ⟨_, rfl, _, rfl, l5, _, _, .ref tb, rfl, rfl, SqL.of h5, rfl, _, rfl, l5, _, _, .ref ta, rfl, rfl, SqL.of h5, rfl, by show 2 ≤ sizeLine; decide, fun l6 hl6 => ?_⟩
          have s6 := same_new hl6 (.lst [.ref tb, .ref ta])
          have h6 : upd H12 l6 (.lst [.ref tb, .ref ta]) l6 = some (.lst [.ref tb, .ref ta]) := upd_same
          have n6 := deal_new (DLf.deal.same (s11.trans s5)) hl6
          generalize upd H12 l6 (.lst [.ref tb, .ref ta]) = H13 at s6 h6 ⊢
          refine ⟨by show 2 ≤ sizeLine; decide, fun l7 hl7 => ?_⟩
          have s7 := same_new hl7 (.lst [.ref l5, .ref l6])
          have h7 : upd H13 l7 (.lst [.ref l5, .ref l6]) l7 = some (.lst [.ref l5, .ref l6]) := upd_same
          have n7 := deal_new (DLf.deal.same (s11.trans (s5.trans s6))) hl7
          generalize upd H13 l7 (.lst [.ref l5, .ref l6]) = H14 at s7 h7 ⊢
          have s14 := s5.trans (s6.trans s7)
          have D14 := DLf.deal.same (s11.trans s14)
          refine ⟨_, rfl, d, l, 2, rfl, D14, by decide, by decide, fun x H15 x0 x1 D15 o15 => ?_⟩
          have oE : Out d l H H15 := of.trans ((Out.of (s11.trans s14)).trans o15)
          have tE := (TS.of s14).trans (TS.out D14 o15)
          have e7 := o15 _ _ h7 n7.1 n7.2
          have e5 := o15 _ _ ((s6.trans s7) _ _ h5) n5.1 n5.2
          have e6 := o15 _ _ (s7 _ _ h6) n6.1 n6.2
          have hx : x = 0 ∨ x = 1 := by omega
          rcases hx with rfl | rfl
          · exact ⟨l7, _, _, .ref l5, rfl, rfl, SqL.of e7, rfl, k _ l5 ta tb es1 es2 c1 c2 e5 (ha.ts tE) (hb.ts tE) oa ob D15 oE⟩
          · exact ⟨l7, _, _, .ref l6, rfl, rfl, SqL.of e7, rfl, k _ l6 tb ta es2 es1 c2 c1 e6 (hb.ts tE) (ha.ts tE) ob oa D15 oE⟩
      · refine iteN (by simp [c1]) ?_
        refine ⟨_, rfl, rfl, _, rfl, ?_⟩
        by_cases c2 : wy = 2
        · refine iteP (by simp [c2]) ?_
          refine ⟨_, rfl, la, us1, rfl, .inl (SqL.of h6a), _, _, rfl, rfl, _, rfl, ?_⟩
          by_cases c3 : (1 : Int) < us1.length
          · refine iteP (decide_eq_true c3) ?_
            have ai : at'.toNat < us1.length := by omega
            have si : seqIndex? at' us1.length = some at'.toNat := (ixN_seq (by unfold ixN; rw [if_pos a0, if_pos a1])).1
            have si2 : seqIndex? at' (ws1.map V.int).length = some at'.toNat := (ixN_seq (by rw [List.length_map]; unfold ixN; rw [if_pos a0, if_pos (by omega)])).1
            refine ⟨_, rfl, .inl ⟨rfl, _, SqL.of h6a⟩, _, rfl, la, us1, at', at'.toNat, us1[at'.toNat], rfl, rfl, h6a, by omega, by omega, si, List.getElem?_eq_getElem ai, ?_⟩
            have laH : H la = none := out_fresh D3 oH3 hla
            have lwH : H lw = none := out_fresh (D3.same s4) (oH3.trans (Out.of s4)) hlw
            have t7 := TS.lst (ys := us1.eraseIdx at'.toNat) h6a
            have PV7 : ∀ v ∈ [V.ref t1, p2], PairV b (upd H6 la (.lst (us1.eraseIdx at'.toNat))) [lw, la, l, lf] v := fun v hv => (PV6 v hv).lst (by simp) h6a
            have DL7 : DealL (upd H6 la (.lst (us1.eraseIdx at'.toNat))) d l lf [.ref t1, p2] := ⟨deal_lst DL6.deal h6a na0.2, DL6.ne, by rw [upd_ne na1.symm]; exact DL6.lst⟩
            have o7 := out_lst (o := .lst (us1.eraseIdx at'.toNat)) oH6 laH
            have h7a : upd H6 la (.lst (us1.eraseIdx at'.toNat)) la = some (.lst (us1.eraseIdx at'.toNat)) := upd_same
            have h7w : upd H6 la (.lst (us1.eraseIdx at'.toNat)) lw = some (.lst (ws1.map V.int)) := by rw [upd_ne nwa]; exact h6w
            have tw7 := two_erase at'.toNat (tw6.mono fun _ _ z => AnV.ts t7 z)
            generalize upd H6 la (.lst (us1.eraseIdx at'.toNat)) = H7 at PV7 DL7 o7 h7a h7w tw7 ⊢
            have aw : at'.toNat < (ws1.map V.int).length := by rw [List.length_map]; omega
            refine ⟨_, rfl, .inl ⟨rfl, _, SqL.of h7w⟩, _, rfl, lw, ws1.map V.int, at', at'.toNat, (ws1.map V.int)[at'.toNat], rfl, rfl, h7w, by omega, by omega, si2, List.getElem?_eq_getElem aw, ?_⟩
            have t8 := TS.lst (ys := (ws1.map V.int).eraseIdx at'.toNat) h7w
            have PVm : ∀ v ∈ [V.ref t1, p2], PairV b (upd H7 lw (.lst ((ws1.map V.int).eraseIdx at'.toNat))) [l, lf] v := fun v hv => ((PV7 v hv).lst (by simp) h7w).less sub
            have DLm : DealL (upd H7 lw (.lst ((ws1.map V.int).eraseIdx at'.toNat))) d l lf [.ref t1, p2] := ⟨deal_lst DL7.deal h7w nw0.2, DL7.ne, by rw [upd_ne nw1.symm]; exact DL7.lst⟩
            have om := out_lst (o := .lst ((ws1.map V.int).eraseIdx at'.toNat)) o7 lwH
            have hwm : upd H7 lw (.lst ((ws1.map V.int).eraseIdx at'.toNat)) lw = some (.lst ((ws1.eraseIdx at'.toNat).map V.int)) := by rw [upd_same, map_erase]
            have PLm : PoolA b (upd H7 lw (.lst ((ws1.map V.int).eraseIdx at'.toNat))) la (us1.eraseIdx at'.toNat) (as1.eraseIdx at'.toNat) := ⟨by rw [upd_ne nwa.symm]; exact h7a, tw7.mono fun _ _ z => AnV.ts t8 z, A1.pl.nd.sublist (List.eraseIdx_sublist _ _), fun y hy => A1.pl.ok _ ((List.eraseIdx_sublist _ _).subset hy)⟩
            generalize upd H7 lw (.lst ((ws1.map V.int).eraseIdx at'.toNat)) = Hm at PVm DLm om hwm PLm ⊢
            have e1 : (ws1.eraseIdx at'.toNat).length = ws1.length - 1 := List.length_eraseIdx_of_lt (by omega)
            have e2 : (as1.eraseIdx at'.toNat).length = as1.length - 1 := List.length_eraseIdx_of_lt (by omega)
            have wl : (ws1.eraseIdx at'.toNat).length = (as1.eraseIdx at'.toNat).length := by omega
            have w1 : 1 ≤ (ws1.eraseIdx at'.toNat).length := by omega
            have w12 : (ws1.eraseIdx at'.toNat).length ≤ 12 := by omega
            have wb : ∀ w ∈ ws1.eraseIdx at'.toNat, 1 ≤ w ∧ w ≤ 10 ^ 10 := fun w hw => A1.wb w ((List.eraseIdx_sublist _ _).subset hw)
            generalize us1.eraseIdx at'.toNat = zm at PLm
            generalize as1.eraseIdx at'.toNat = bm at PLm wl
            generalize ws1.eraseIdx at'.toNat = wm at hwm wb wl w1 w12
            refine ⟨_, rfl, _, rfl, by show 2 ≤ sizeLine; decide, fun t9 ht9 => ?_⟩
            have s9 := same_new ht9 (.tup [.ref la, .ref lw])
            have PT : PairAt b (upd Hm t9 (.tup [.ref la, .ref lw])) [l, lf] t9 la lw zm bm wm := ⟨upd_same, PLm.same s9, s9 _ _ hwm, wl, w1, w12, wb, nam, nwm⟩
            generalize upd Hm t9 (.tup [.ref la, .ref lw]) = H9 at s9 PT ⊢
            refine ⟨_, rfl, lf, _, 1, 1, rfl, rfl, s9 _ _ DLm.lst, rfl, ?_⟩
            have DLf := (DLm.same s9).app [.ref t1, .ref t9]
            have of := out_lst (o := .lst [.ref t1, .ref t9]) (om.trans (Out.of s9)) hlfH
            have PVf : ∀ v ∈ [V.ref t1, .ref t9], PairV b (upd H9 lf (.lst [.ref t1, .ref t9])) [l, lf] v := fun v hv => by
              rcases List.mem_cons.mp hv with q | q
              · rw [q]
                exact ((PVm (.ref t1) List.mem_cons_self).same s9).lst (by simp) (s9 _ _ DLm.lst)
              · have q : v = .ref t9 := by simpa using q
                rw [q]
                exact PairV.lst ⟨t9, la, lw, zm, bm, wm, rfl, PT⟩ (by simp) (s9 _ _ DLm.lst)
            refine ⟨_, rfl, lf, rfl, ⟨_, SqL.of DLf.lst⟩, comp_list (K := K) (a := lf) (xs := [.ref t1, .ref t9]) (fun j zs σ H11 => Same (upd H9 lf (.lst [.ref t1, .ref t9])) H11 ∧ (∃ x y, σ = [x, y]) ∧ TabsA b H11 zs ∧ zs.length = j)
              (small1000 (by show 2 ≤ 1000; decide)) ⟨Same.refl _, ⟨_, _, rfl⟩, fun _ z => absurd z List.not_mem_nil, rfl⟩ (by rintro j zs σ H11 ⟨_, _, _, e⟩; omega) (by rintro j zs σ H11 _ ⟨e, _⟩; exact SqL.of (e _ _ DLf.lst)) ?_ ?_⟩
            · rintro j v zs σ H11 hv ⟨s11, ⟨x, y, rfl⟩, T11, zl⟩
              obtain ⟨t, pa, pw, us, as, ws, rfl, PA⟩ := PVf v (List.mem_of_getElem? hv)
              have PB := PA.same s11
              refine ⟨t, _, rfl, SqT.of PB.h, rfl, _, _, rfl, _, _, rfl, rfl, ?_⟩
              exact ⟨_, rfl, _, rfl, b, pa, pw, us, as, ws, rfl, PB.pl, PB.hw, PB.wl, PB.w1, PB.w12, PB.wb, fun H12 t12 es c s12 ht12 ok12 => ⟨s11.trans s12, ⟨_, _, rfl⟩, (T11.ts (.of s12)).snoc ht12 ok12, by rw [List.length_append, zl]; rfl⟩⟩
            · rintro zs σ H11 ⟨s11, _, T11, zl⟩ l5 hl5
              obtain ⟨z1, z2, rfl⟩ := len2 zl
              obtain ⟨ta, es1, c1, rfl, ha, oa⟩ := T11 z1 (by simp)
              obtain ⟨tb, es2, c2, rfl, hb, ob⟩ := T11 z2 (by simp)
              have s5 := same_new hl5 (.lst [.ref ta, .ref tb])
              have h5 : upd H11 l5 (.lst [.ref ta, .ref tb]) l5 = some (.lst [.ref ta, .ref tb]) := upd_same
              have n5 := deal_new (DLf.deal.same s11) hl5
              generalize upd H11 l5 (.lst [.ref ta, .ref tb]) = H12 at s5 h5 ⊢
              refine ⟨_, rfl, _, rfl, l5, _, _, .ref tb, rfl, rfl, SqL.of h5, rfl, _, rfl, l5, _, _, .ref ta, rfl, rfl, SqL.of h5, rfl, by show 2 ≤ sizeLine; decide, fun l6 hl6 => ?_⟩
              have s6 := same_new hl6 (.lst [.ref tb, .ref ta])
              have h6 : upd H12 l6 (.lst [.ref tb, .ref ta]) l6 = some (.lst [.ref tb, .ref ta]) := upd_same
              have n6 := deal_new (DLf.deal.same (s11.trans s5)) hl6
              generalize upd H12 l6 (.lst [.ref tb, .ref ta]) = H13 at s6 h6 ⊢
              refine ⟨by show 2 ≤ sizeLine; decide, fun l7 hl7 => ?_⟩
              have s7 := same_new hl7 (.lst [.ref l5, .ref l6])
              have h7 : upd H13 l7 (.lst [.ref l5, .ref l6]) l7 = some (.lst [.ref l5, .ref l6]) := upd_same
              have n7 := deal_new (DLf.deal.same (s11.trans (s5.trans s6))) hl7
              generalize upd H13 l7 (.lst [.ref l5, .ref l6]) = H14 at s7 h7 ⊢
              have s14 := s5.trans (s6.trans s7)
              have D14 := DLf.deal.same (s11.trans s14)
              refine ⟨_, rfl, d, l, 2, rfl, D14, by decide, by decide, fun x H15 x0 x1 D15 o15 => ?_⟩
              have oE : Out d l H H15 := of.trans ((Out.of (s11.trans s14)).trans o15)
              have tE := (TS.of s14).trans (TS.out D14 o15)
              have e7 := o15 _ _ h7 n7.1 n7.2
              have e5 := o15 _ _ ((s6.trans s7) _ _ h5) n5.1 n5.2
              have e6 := o15 _ _ (s7 _ _ h6) n6.1 n6.2
              have hx : x = 0 ∨ x = 1 := by omega
              rcases hx with rfl | rfl
              · exact ⟨l7, _, _, .ref l5, rfl, rfl, SqL.of e7, rfl, k _ l5 ta tb es1 es2 c1 c2 e5 (ha.ts tE) (hb.ts tE) oa ob D15 oE⟩
              · exact ⟨l7, _, _, .ref l6, rfl, rfl, SqL.of e7, rfl, k _ l6 tb ta es2 es1 c2 c1 e6 (hb.ts tE) (ha.ts tE) ob oa D15 oE⟩
          · refine iteN (by simpa using c3) ?_
            have PVm := fun v hv => (PV6 v hv).less sub
            have DLm := DL6
            have om := oH6
            have PLm : PoolA b H6 la us1 as1 := ⟨h6a, tw6, A1.pl.nd, A1.pl.ok⟩
            have hwm := h6w
            have wl := A1.wl
            have w1 := A1.w1
            have w12 := A1.w12
            have wb := A1.wb
            generalize us1 = zm at PLm
            generalize as1 = bm at PLm wl
            generalize ws1 = wm at hwm wb wl w1 w12
            generalize H6 = Hm at PVm DLm hwm om PLm ⊢
            refine ⟨_, rfl, _, rfl, by show 2 ≤ sizeLine; decide, fun t9 ht9 => ?_⟩
            have s9 := same_new ht9 (.tup [.ref la, .ref lw])
            have PT : PairAt b (upd Hm t9 (.tup [.ref la, .ref lw])) [l, lf] t9 la lw zm bm wm := ⟨upd_same, PLm.same s9, s9 _ _ hwm, wl, w1, w12, wb, nam, nwm⟩
            generalize upd Hm t9 (.tup [.ref la, .ref lw]) = H9 at s9 PT ⊢
            refine ⟨_, rfl, lf, _, 1, 1, rfl, rfl, s9 _ _ DLm.lst, rfl, ?_⟩
            have DLf := (DLm.same s9).app [.ref t1, .ref t9]
            have of := out_lst (o := .lst [.ref t1, .ref t9]) (om.trans (Out.of s9)) hlfH
            have PVf : ∀ v ∈ [V.ref t1, .ref t9], PairV b (upd H9 lf (.lst [.ref t1, .ref t9])) [l, lf] v := fun v hv => by
              rcases List.mem_cons.mp hv with q | q
              · rw [q]
                exact ((PVm (.ref t1) List.mem_cons_self).same s9).lst (by simp) (s9 _ _ DLm.lst)
              · have q : v = .ref t9 := by simpa using q
                rw [q]
                exact PairV.lst ⟨t9, la, lw, zm, bm, wm, rfl, PT⟩ (by simp) (s9 _ _ DLm.lst)
            refine ⟨_, rfl, lf, rfl, ⟨_, SqL.of DLf.lst⟩, comp_list (K := K) (a := lf) (xs := [.ref t1, .ref t9]) (fun j zs σ H11 => Same (upd H9 lf (.lst [.ref t1, .ref t9])) H11 ∧ (∃ x y, σ = [x, y]) ∧ TabsA b H11 zs ∧ zs.length = j)
              (small1000 (by show 2 ≤ 1000; decide)) ⟨Same.refl _, ⟨_, _, rfl⟩, fun _ z => absurd z List.not_mem_nil, rfl⟩ (by rintro j zs σ H11 ⟨_, _, _, e⟩; omega) (by rintro j zs σ H11 _ ⟨e, _⟩; exact SqL.of (e _ _ DLf.lst)) ?_ ?_⟩
            · rintro j v zs σ H11 hv ⟨s11, ⟨x, y, rfl⟩, T11, zl⟩
              obtain ⟨t, pa, pw, us, as, ws, rfl, PA⟩ := PVf v (List.mem_of_getElem? hv)
              have PB := PA.same s11
              refine ⟨t, _, rfl, SqT.of PB.h, rfl, _, _, rfl, _, _, rfl, rfl, ?_⟩
              exact ⟨_, rfl, _, rfl, b, pa, pw, us, as, ws, rfl, PB.pl, PB.hw, PB.wl, PB.w1, PB.w12, PB.wb, fun H12 t12 es c s12 ht12 ok12 => ⟨s11.trans s12, ⟨_, _, rfl⟩, (T11.ts (.of s12)).snoc ht12 ok12, by rw [List.length_append, zl]; rfl⟩⟩
            · rintro zs σ H11 ⟨s11, _, T11, zl⟩ l5 hl5
              obtain ⟨z1, z2, rfl⟩ := len2 zl
              obtain ⟨ta, es1, c1, rfl, ha, oa⟩ := T11 z1 (by simp)
              obtain ⟨tb, es2, c2, rfl, hb, ob⟩ := T11 z2 (by simp)
              have s5 := same_new hl5 (.lst [.ref ta, .ref tb])
              have h5 : upd H11 l5 (.lst [.ref ta, .ref tb]) l5 = some (.lst [.ref ta, .ref tb]) := upd_same
              have n5 := deal_new (DLf.deal.same s11) hl5
              generalize upd H11 l5 (.lst [.ref ta, .ref tb]) = H12 at s5 h5 ⊢
              refine ⟨_, rfl, _, rfl, l5, _, _, .ref tb, rfl, rfl, SqL.of h5, rfl, _, rfl, l5, _, _, .ref ta, rfl, rfl, SqL.of h5, rfl, by show 2 ≤ sizeLine; decide, fun l6 hl6 => ?_⟩
              have s6 := same_new hl6 (.lst [.ref tb, .ref ta])
              have h6 : upd H12 l6 (.lst [.ref tb, .ref ta]) l6 = some (.lst [.ref tb, .ref ta]) := upd_same
              have n6 := deal_new (DLf.deal.same (s11.trans s5)) hl6
              generalize upd H12 l6 (.lst [.ref tb, .ref ta]) = H13 at s6 h6 ⊢
              refine ⟨by show 2 ≤ sizeLine; decide, fun l7 hl7 => ?_⟩
              have s7 := same_new hl7 (.lst [.ref l5, .ref l6])
              have h7 : upd H13 l7 (.lst [.ref l5, .ref l6]) l7 = some (.lst [.ref l5, .ref l6]) := upd_same
              have n7 := deal_new (DLf.deal.same (s11.trans (s5.trans s6))) hl7
              generalize upd H13 l7 (.lst [.ref l5, .ref l6]) = H14 at s7 h7 ⊢
              have s14 := s5.trans (s6.trans s7)
              have D14 := DLf.deal.same (s11.trans s14)
              refine ⟨_, rfl, d, l, 2, rfl, D14, by decide, by decide, fun x H15 x0 x1 D15 o15 => ?_⟩
              have oE : Out d l H H15 := of.trans ((Out.of (s11.trans s14)).trans o15)
              have tE := (TS.of s14).trans (TS.out D14 o15)
              have e7 := o15 _ _ h7 n7.1 n7.2
              have e5 := o15 _ _ ((s6.trans s7) _ _ h5) n5.1 n5.2
              have e6 := o15 _ _ (s7 _ _ h6) n6.1 n6.2
              have hx : x = 0 ∨ x = 1 := by omega
              rcases hx with rfl | rfl
              · exact ⟨l7, _, _, .ref l5, rfl, rfl, SqL.of e7, rfl, k _ l5 ta tb es1 es2 c1 c2 e5 (ha.ts tE) (hb.ts tE) oa ob D15 oE⟩
              · exact ⟨l7, _, _, .ref l6, rfl, rfl, SqL.of e7, rfl, k _ l6 tb ta es2 es1 c2 c1 e6 (hb.ts tE) (ha.ts tE) ob oa D15 oE⟩
        · refine iteN (by simp [c2]) ?_
          refine iteN (by simp) ?_
          have PVm := fun v hv => (PV6 v hv).less sub
          have DLm := DL6
          have om := oH6
          have PLm : PoolA b H6 la us1 as1 := ⟨h6a, tw6, A1.pl.nd, A1.pl.ok⟩
          have hwm := h6w
          have wl := A1.wl
          have w1 := A1.w1
          have w12 := A1.w12
          have wb := A1.wb
          generalize us1 = zm at PLm
          generalize as1 = bm at PLm wl
          generalize ws1 = wm at hwm wb wl w1 w12
          generalize H6 = Hm at PVm DLm hwm om PLm ⊢
          refine ⟨_, rfl, _, rfl, by show 2 ≤ sizeLine; decide, fun t9 ht9 => ?_⟩
          have s9 := same_new ht9 (.tup [.ref la, .ref lw])
          have PT : PairAt b (upd Hm t9 (.tup [.ref la, .ref lw])) [l, lf] t9 la lw zm bm wm := ⟨upd_same, PLm.same s9, s9 _ _ hwm, wl, w1, w12, wb, nam, nwm⟩
          generalize upd Hm t9 (.tup [.ref la, .ref lw]) = H9 at s9 PT ⊢
          refine ⟨_, rfl, lf, _, 1, 1, rfl, rfl, s9 _ _ DLm.lst, rfl, ?_⟩
          have DLf := (DLm.same s9).app [.ref t1, .ref t9]
          have of := out_lst (o := .lst [.ref t1, .ref t9]) (om.trans (Out.of s9)) hlfH
          have PVf : ∀ v ∈ [V.ref t1, .ref t9], PairV b (upd H9 lf (.lst [.ref t1, .ref t9])) [l, lf] v := fun v hv => by
            rcases List.mem_cons.mp hv with q | q
            · rw [q]
              exact ((PVm (.ref t1) List.mem_cons_self).same s9).lst (by simp) (s9 _ _ DLm.lst)
            · have q : v = .ref t9 := by simpa using q
              rw [q]
              exact PairV.lst ⟨t9, la, lw, zm, bm, wm, rfl, PT⟩ (by simp) (s9 _ _ DLm.lst)
          refine ⟨_, rfl, lf, rfl, ⟨_, SqL.of DLf.lst⟩, comp_list (K := K) (a := lf) (xs := [.ref t1, .ref t9]) (fun j zs σ H11 => Same (upd H9 lf (.lst [.ref t1, .ref t9])) H11 ∧ (∃ x y, σ = [x, y]) ∧ TabsA b H11 zs ∧ zs.length = j)
            (small1000 (by show 2 ≤ 1000; decide)) ⟨Same.refl _, ⟨_, _, rfl⟩, fun _ z => absurd z List.not_mem_nil, rfl⟩ (by rintro j zs σ H11 ⟨_, _, _, e⟩; omega) (by rintro j zs σ H11 _ ⟨e, _⟩; exact SqL.of (e _ _ DLf.lst)) ?_ ?_⟩
          · rintro j v zs σ H11 hv ⟨s11, ⟨x, y, rfl⟩, T11, zl⟩
            obtain ⟨t, pa, pw, us, as, ws, rfl, PA⟩ := PVf v (List.mem_of_getElem? hv)
            have PB := PA.same s11
            refine ⟨t, _, rfl, SqT.of PB.h, rfl, _, _, rfl, _, _, rfl, rfl, ?_⟩
            exact ⟨_, rfl, _, rfl, b, pa, pw, us, as, ws, rfl, PB.pl, PB.hw, PB.wl, PB.w1, PB.w12, PB.wb, fun H12 t12 es c s12 ht12 ok12 => ⟨s11.trans s12, ⟨_, _, rfl⟩, (T11.ts (.of s12)).snoc ht12 ok12, by rw [List.length_append, zl]; rfl⟩⟩
          · rintro zs σ H11 ⟨s11, _, T11, zl⟩ l5 hl5
            obtain ⟨z1, z2, rfl⟩ := len2 zl
            obtain ⟨ta, es1, c1, rfl, ha, oa⟩ := T11 z1 (by simp)
            obtain ⟨tb, es2, c2, rfl, hb, ob⟩ := T11 z2 (by simp)
            have s5 := same_new hl5 (.lst [.ref ta, .ref tb])
            have h5 : upd H11 l5 (.lst [.ref ta, .ref tb]) l5 = some (.lst [.ref ta, .ref tb]) := upd_same
            have n5 := deal_new (DLf.deal.same s11) hl5
            generalize upd H11 l5 (.lst [.ref ta, .ref tb]) = H12 at s5 h5 ⊢
            refine ⟨_, rfl, _, rfl, l5, _, _, .ref tb, rfl, rfl, SqL.of h5, rfl, _, rfl, l5, _, _, .ref ta, rfl, rfl, SqL.of h5, rfl, by show 2 ≤ sizeLine; decide, fun l6 hl6 => ?_⟩
            have s6 := same_new hl6 (.lst [.ref tb, .ref ta])
            have h6 : upd H12 l6 (.lst [.ref tb, .ref ta]) l6 = some (.lst [.ref tb, .ref ta]) := upd_same
            have n6 := deal_new (DLf.deal.same (s11.trans s5)) hl6
            generalize upd H12 l6 (.lst [.ref tb, .ref ta]) = H13 at s6 h6 ⊢
            refine ⟨by show 2 ≤ sizeLine; decide, fun l7 hl7 => ?_⟩
            have s7 := same_new hl7 (.lst [.ref l5, .ref l6])
            have h7 : upd H13 l7 (.lst [.ref l5, .ref l6]) l7 = some (.lst [.ref l5, .ref l6]) := upd_same
            have n7 := deal_new (DLf.deal.same (s11.trans (s5.trans s6))) hl7
            generalize upd H13 l7 (.lst [.ref l5, .ref l6]) = H14 at s7 h7 ⊢
            have s14 := s5.trans (s6.trans s7)
            have D14 := DLf.deal.same (s11.trans s14)
            refine ⟨_, rfl, d, l, 2, rfl, D14, by decide, by decide, fun x H15 x0 x1 D15 o15 => ?_⟩
            have oE : Out d l H H15 := of.trans ((Out.of (s11.trans s14)).trans o15)
            have tE := (TS.of s14).trans (TS.out D14 o15)
            have e7 := o15 _ _ h7 n7.1 n7.2
            have e5 := o15 _ _ ((s6.trans s7) _ _ h5) n5.1 n5.2
            have e6 := o15 _ _ (s7 _ _ h6) n6.1 n6.2
            have hx : x = 0 ∨ x = 1 := by omega
            rcases hx with rfl | rfl
            · exact ⟨l7, _, _, .ref l5, rfl, rfl, SqL.of e7, rfl, k _ l5 ta tb es1 es2 c1 c2 e5 (ha.ts tE) (hb.ts tE) oa ob D15 oE⟩
            · exact ⟨l7, _, _, .ref l6, rfl, rfl, SqL.of e7, rfl, k _ l6 tb ta es2 es1 c2 c1 e6 (hb.ts tE) (ha.ts tE) ob oa D15 oE⟩
    · refine iteN (by simpa using c) ?_
      have DLf := DL3
      have of := oH3
      have PVf := PV3
      generalize H3 = Hf at DLf of PVf
      refine ⟨_, rfl, lf, rfl, ⟨_, SqL.of DLf.lst⟩, comp_list (K := K) (a := lf) (xs := [p1, p2]) (fun j zs σ H11 => Same Hf H11 ∧ (∃ x y, σ = [x, y]) ∧ TabsA b H11 zs ∧ zs.length = j)
        (small1000 (by show 2 ≤ 1000; decide)) ⟨Same.refl _, ⟨_, _, rfl⟩, fun _ z => absurd z List.not_mem_nil, rfl⟩ (by rintro j zs σ H11 ⟨_, _, _, e⟩; omega) (by rintro j zs σ H11 _ ⟨e, _⟩; exact SqL.of (e _ _ DLf.lst)) ?_ ?_⟩
      · rintro j v zs σ H11 hv ⟨s11, ⟨x, y, rfl⟩, T11, zl⟩
        obtain ⟨t, pa, pw, us, as, ws, rfl, PA⟩ := PVf v (List.mem_of_getElem? hv)
        have PB := PA.same s11
        refine ⟨t, _, rfl, SqT.of PB.h, rfl, _, _, rfl, _, _, rfl, rfl, ?_⟩
        exact ⟨_, rfl, _, rfl, b, pa, pw, us, as, ws, rfl, PB.pl, PB.hw, PB.wl, PB.w1, PB.w12, PB.wb, fun H12 t12 es c s12 ht12 ok12 => ⟨s11.trans s12, ⟨_, _, rfl⟩, (T11.ts (.of s12)).snoc ht12 ok12, by rw [List.length_append, zl]; rfl⟩⟩
      · rintro zs σ H11 ⟨s11, _, T11, zl⟩ l5 hl5
        obtain ⟨z1, z2, rfl⟩ := len2 zl
        obtain ⟨ta, es1, c1, rfl, ha, oa⟩ := T11 z1 (by simp)
        obtain ⟨tb, es2, c2, rfl, hb, ob⟩ := T11 z2 (by simp)
        have s5 := same_new hl5 (.lst [.ref ta, .ref tb])
        have h5 : upd H11 l5 (.lst [.ref ta, .ref tb]) l5 = some (.lst [.ref ta, .ref tb]) := upd_same
        have n5 := deal_new (DLf.deal.same s11) hl5
        generalize upd H11 l5 (.lst [.ref ta, .ref tb]) = H12 at s5 h5 ⊢
        refine ⟨_, rfl, _, rfl, l5, _, _, .ref tb, rfl, rfl, SqL.of h5, rfl, _, rfl, l5, _, _, .ref ta, rfl, rfl, SqL.of h5, rfl, by show 2 ≤ sizeLine; decide, fun l6 hl6 => ?_⟩
        have s6 := same_new hl6 (.lst [.ref tb, .ref ta])
        have h6 : upd H12 l6 (.lst [.ref tb, .ref ta]) l6 = some (.lst [.ref tb, .ref ta]) := upd_same
        have n6 := deal_new (DLf.deal.same (s11.trans s5)) hl6
        generalize upd H12 l6 (.lst [.ref tb, .ref ta]) = H13 at s6 h6 ⊢
        refine ⟨by show 2 ≤ sizeLine; decide, fun l7 hl7 => ?_⟩
        have s7 := same_new hl7 (.lst [.ref l5, .ref l6])
        have h7 : upd H13 l7 (.lst [.ref l5, .ref l6]) l7 = some (.lst [.ref l5, .ref l6]) := upd_same
        have n7 := deal_new (DLf.deal.same (s11.trans (s5.trans s6))) hl7
        generalize upd H13 l7 (.lst [.ref l5, .ref l6]) = H14 at s7 h7 ⊢
        have s14 := s5.trans (s6.trans s7)
        have D14 := DLf.deal.same (s11.trans s14)
        refine ⟨_, rfl, d, l, 2, rfl, D14, by decide, by decide, fun x H15 x0 x1 D15 o15 => ?_⟩
        have oE : Out d l H H15 := of.trans ((Out.of (s11.trans s14)).trans o15)
        have tE := (TS.of s14).trans (TS.out D14 o15)
        have e7 := o15 _ _ h7 n7.1 n7.2
        have e5 := o15 _ _ ((s6.trans s7) _ _ h5) n5.1 n5.2
        have e6 := o15 _ _ (s7 _ _ h6) n6.1 n6.2
        have hx : x = 0 ∨ x = 1 := by omega
        rcases hx with rfl | rfl
        · exact ⟨l7, _, _, .ref l5, rfl, rfl, SqL.of e7, rfl, k _ l5 ta tb es1 es2 c1 c2 e5 (ha.ts tE) (hb.ts tE) oa ob D15 oE⟩
        · exact ⟨l7, _, _, .ref l6, rfl, rfl, SqL.of e7, rfl, k _ l6 tb ta es2 es1 c2 c1 e6 (hb.ts tE) (ha.ts tE) ob oa D15 oE⟩
end
end Mine
namespace Mine
open PySem L2
section
variable {P : Program} {w : World} {K : PySem.W.Frag} {mg : Str → Option Value} {base : Heap}
theorem nd_Fac1 : (["_law_answer", "_law_share", "_law_shares_here"] : List Str).Nodup := by decide +kernel
theorem scFac : FnScope ["_law_deal_here", "_law_one", "_law_other", "_law_shares_here", "_law_some", "_law_here", "_law_there", "_law_found"] ["_law_deal_here", "_law_one", "_law_other"] (defScope sFac) := ⟨rfl, rfl, rfl, by decide +kernel, rfl, by decide +kernel, by decide +kernel⟩
theorem ok_Fac {f : Addr} {fd : FuncData} (F : Fun K "_law_factor" "_law_factor" sFac f fd)
    {f_LLow : Addr} {d_LLow : FuncData} (G_LLow : FnOk P w K mg base CX0 1 f_LLow d_LLow ["_law_top", "_law_bottom"] spLow) (b_LLow : Binds K d_LLow ["_law_top", "_law_bottom"] []) (k_LLow : PySem.W.keepIn K (.ref f_LLow) = true) (m_LLow : mg "_law_lowest" = some (.ref f_LLow))
    {f_Draw : Addr} {d_Draw : FuncData} (G_Draw : FnOk P w K mg base CX0 1 f_Draw d_Draw ["_law_deal_here", "_law_many"] spDraw) (b_Draw : Binds K d_Draw ["_law_deal_here", "_law_many"] []) (k_Draw : PySem.W.keepIn K (.ref f_Draw) = true) (m_Draw : mg "_law_draw" = some (.ref f_Draw))
    (m_dict : mg "dict" = none) (m_max : mg "max" = none) (m_len : mg "len" = none) :
    FnOk P w K mg base CX0 2 f fd ["_law_deal_here", "_law_one", "_law_other"] spFac := by
  refine F.ok scFac (fun vs H Q E h => ?_) (fun cdv A outer s H vs Q E hr h => ?_)
  · obtain ⟨d, l, b, t1, t2, c1, c2, es1, es2, rfl, _⟩ := h
    rfl
  obtain ⟨d, l, b, t1, t2, c1, c2, es1, es2, rfl, D, ⟨us1, h1, tw1⟩, ⟨us2, h2, tw2⟩, o1, o2, k⟩ := h
  have hu := hu_of hr
  have hr1 : Room 1 _ := hr.mono (by decide)
  refine ⟨_, (pss_cons (ps_set (i := 3) scFac.nd rfl (Or.inr rfl) (pe_callTy (call_dictP hr1) (by rfl) m_dict PyProof.Rows.boot_dict (pa_cons (pv 2) pa_nil)))
    (pss_cons (ps_setC ["_law_answer", "_law_share", "_law_shares_here"] [none, none, some 3] (i := 4) scFac.nd rfl (Or.inl rfl) (pi_tup (pv 1)) (fun _ _ _ _ => (pgtK K (n := 2) rfl (pgs_cons (pg_name (i := 0) (nd_Fac1) rfl (Or.inl rfl)) (pgs_cons (pg_name (i := 1) (nd_Fac1) rfl (Or.inl rfl)) pgs_nil)))) (fun _ _ _ _ => (pf_one (pt_cmp (pc_din hu (pv 0) (pv 2))))) (fun _ _ _ _ => (pe_tup (pa_cons (pv 1) (pa_cons (pe_dget hu (pv 2) (pv 0) (fun _ _ => rfl)) pa_nil)))))
    (pss_cons (ps_if (pw_and (pt_cmpR (op_neD hr1) (pv 4) (pe_lst pa_nil) (nomark _)) (pw_and1 (pt_cmpR op_eq (pe_call G_Draw hr1 (by rfl) m_Draw k_Draw b_Draw .nil pass0 (pa_cons (pv 0) (pa_cons pe_int pa_nil))) pe_int (nomark _)))).pt (pss_cons (ps_asg (pe_ix ix_list (pv 4) (pe_call G_Draw hr1 (by rfl) m_Draw k_Draw b_Draw .nil pass0 (pa_cons (pv 0) (pa_cons (pe_callB call_len_seq (by rfl) m_len PySem.boot_len (pa_cons (pv 4) pa_nil)) pa_nil))) (fun _ _ => rfl)) (pg_tup rfl (pgs_cons (pg_name (i := 5) scFac.nd rfl (Or.inl rfl)) (pgs_cons (pg_name (i := 6) scFac.nd rfl (Or.inl rfl)) pgs_nil))))
    (pss_cons (ps_set (i := 7) scFac.nd rfl (Or.inl rfl) (pe_call G_LLow hr1 (by rfl) m_LLow k_LLow b_LLow .nil pass0 (pa_cons (pe_op op_mulB (pe_ix ix_tup (pv 5) pe_int (fun _ _ => rfl)) (pe_ix ix_tup (pv 6) pe_int (fun _ _ => rfl))) (pa_cons (pe_op op_mulB (pe_ix ix_tup (pv 5) pe_int (fun _ _ => rfl)) (pe_ix ix_tup (pv 6) pe_int (fun _ _ => rfl))) pa_nil))))
    (pss_one (ps_if (pt_cmpR op_lt (pe_callB call_max_u (by rfl) m_max PyProof.Rows.boot_max (pa_cons (pv 7) pa_nil)) (pe_op op_pow pe_int pe_int) (nomark _)) (pss_one (ps_ret (pv 7))) pss_nil)))) pss_nil)
    (pss_one (ps_ret (pe_call G_LLow hr1 (by rfl) m_LLow k_LLow b_LLow .nil pass0 (pa_cons (pe_call G_Draw hr1 (by rfl) m_Draw k_Draw b_Draw .nil pass0 (pa_cons (pv 0) (pa_cons pe_int pa_nil))) (pa_cons (pe_op op_add pe_int (pe_call G_Draw hr1 (by rfl) m_Draw k_Draw b_Draw .nil pass0 (pa_cons (pv 0) (pa_cons pe_int pa_nil)))) pa_nil)))))))), ?_⟩
  have l1 := tw1.length
  have l2 := tw2.length
  have m1 := o1.l2
  have m2 := o2.l2
  obtain ⟨o, o0, od⟩ := dict_ok (small1000 (by omega)) o2.nd tw2
  refine ⟨_, rfl, t2, us2, o, rfl, h2, o0, fun dd hd => ⟨(od dd hd).1, ?_⟩⟩
  obtain ⟨_, hD, sD⟩ := od dd hd
  generalize upd H dd (o us2.length) = H1 at hD sD ⊢
  refine ⟨_, rfl, t1, rfl, ⟨_, SqT.of (sD _ _ h1)⟩, comp_tup (K := K) (a := t1) (xs := us1) (fun i zs σ H2 => Same H1 H2 ∧ (∃ v1 v2, σ = [v1, v2, some (.ref dd)]) ∧ zs.length ≤ i ∧ ∃ ss, Two (SomeR H2) zs ss)
    (small1000 (by omega)) ⟨Same.refl _, ⟨_, _, rfl⟩, Nat.le_refl _, [], trivial⟩ (by rintro i zs σ H2 ⟨_, _, e, _⟩; exact e) (by rintro i zs σ H2 _ ⟨e, _⟩; exact SqT.of (e _ _ (sD _ _ h1))) ?_ ?_⟩
  · rintro i v zs σ H2 hv ⟨s2, ⟨v1, v2, rfl⟩, zl, ss, tw⟩
    obtain ⟨e, he, me, t, x, q, rfl, ht, hx, hq⟩ := TabA.at tw1 hv
    have g := sD.trans s2
    refine ⟨t, _, rfl, SqT.of (g _ _ ht), rfl, _, _, rfl, _, _, rfl, rfl, ?_⟩
    obtain ⟨o, dg, og⟩ := (hD.same s2).get (hx.ts (.of g))
    refine ⟨_, rfl, _, rfl, dd, o, rfl, dg, _, rfl, ?_⟩
    cases hg : getA es2 e.1 with
    | none =>
      rw [hg] at og
      cases o with
      | some v => exact og.elim
      | none => exact iteN (by simp) ⟨s2, ⟨_, _, rfl⟩, by omega, ss, tw⟩
    | some s =>
      rw [hg] at og
      cases o with
      | none => exact og.elim
      | some v =>
        obtain ⟨q2, rfl, hq2⟩ := og
        refine iteP rfl ?_
        have sb := (o1.at me).1
        have tb := o2.at (getA_mem hg)
        refine ⟨_, rfl, _, rfl, _, rfl, dd, .ref q2, rfl, dg, by show 2 ≤ sizeLine; decide, fun t3 ht3 => ⟨s2.trans (same_new ht3 _), ⟨_, _, rfl⟩, by rw [List.length_append]; show zs.length + 1 ≤ _; omega, ss ++ [(e.2, s)], ?_⟩⟩
        have s3 := same_new ht3 (.tup [.ref q, .ref q2])
        exact Two.append (tw.mono fun _ _ z => z.ts (.of s3)) ⟨⟨t3, q, q2, rfl, upd_same, (g.trans s3) _ _ hq, s3 _ _ hq2, sb, tb.1, tb.2⟩, trivial⟩
  · rintro zs σ H2 ⟨s2, _, zl, ss, tw⟩ ls hls
    have s3 := same_new hls (.lst zs)
    have h3 : upd H2 ls (.lst zs) ls = some (.lst zs) := upd_same
    replace tw := tw.mono fun _ _ z => SomeR.ts (.of s3) z
    have n3 := deal_new (D.same (sD.trans s2)) hls
    generalize upd H2 ls (.lst zs) = H3 at s3 h3 tw ⊢
    refine ⟨_, rfl, Nat.zero_le _, fun l6 hl6 => ?_⟩
    have s6 := same_new hl6 (.lst [])
    have h6 : upd H3 l6 (.lst []) l6 = some (.lst []) := upd_same
    replace tw := tw.mono fun _ _ z => SomeR.ts (.of s6) z
    replace h3 := s6 _ _ h3
    generalize upd H3 l6 (.lst []) = H6 at s6 h6 tw h3 ⊢
    have g6 := sD.trans (s2.trans (s3.trans s6))
    have D6 := D.same g6
    have zl2 := tw.length
    refine ⟨.list (ss.map prD), .list [], pr_list h3 tw, ⟨l6, [], rfl, SqL.of h6, rfl⟩, pr_shaped ss, nil_shaped, nomix_nil, _, rfl, ?_⟩
    by_cases c : ss = []
    · refine iteN (by show ¬ (!Spec.same _ _) = true; rw [list_nil]; simp [c]) ?_
      refine iteN (by simp) ?_
      have DZ := D6
      have oZ : Out d l H H6 := Out.of g6
      refine ⟨_, rfl, d, l, 13, rfl, DZ, by decide, by decide, fun x1 HX y0 y1 DX oX => ?_⟩
      refine ⟨_, rfl, d, l, 6, rfl, DX, by decide, by decide, fun x2 HY z0 z1 DY oY => ⟨_, _, rfl, rfl, x1, 1 + x2, rfl, y0, by omega, by omega, fun r hr' => ?_⟩⟩
      exact k _ r (lowP x1 (1 + x2)) upd_same (fac_low y0 (by omega) (by omega) (by omega)) (DY.same (same_new hr' _)) (oZ.trans (oX.trans (oY.trans (Out.of (same_new hr' _)))))
    · refine iteP (by show (!Spec.same _ _) = true; rw [list_nil]; simp [c]) ?_
      refine ⟨_, rfl, d, l, 3, rfl, D6, by decide, by decide, fun x H7 x0 x1 D7 o7 => ⟨rfl, _, rfl, ?_⟩⟩
      have oH7 : Out d l H H7 := (Out.of g6).trans o7
      by_cases c1 : x = 0
      · refine iteP (by simp [c1]) ?_
        have sl : 1 ≤ ss.length := by cases ss with | nil => exact absurd rfl c | cons _ _ => simp
        have h7 := o7 _ _ h3 n3.1 n3.2
        have tw7 := tw.mono fun _ _ z => SomeR.ts (TS.out D6 o7) z
        refine ⟨_, rfl, _, rfl, _, rfl, ls, zs, rfl, .inl (SqL.of h7), d, l, zs.length, rfl, D7, by omega, by omega, fun y H8 y0 y1 D8 o8 => ?_⟩
        have yl : y.toNat < zs.length := by omega
        have h8 := o8 _ _ h7 n3.1 n3.2
        have tw8 := tw7.mono fun _ _ z => SomeR.ts (TS.out D7 o8) z
        obtain ⟨s, hs, t, p, q, ev, ht, hp, hq, sp, sq, q1⟩ := tw8.at (List.getElem?_eq_getElem yl)
        refine ⟨ls, zs, _, zs[y.toNat], rfl, rfl, SqL.of h8, (by have h := atI_nat (List.getElem?_eq_getElem yl); rwa [show ((y.toNat : Nat) : Int) = y by omega] at h), t, _, ev, SqT.of ht, rfl, _, _, rfl, _, _, rfl, rfl, ?_⟩
        have b1 := sp.b1
        have b2 := sq.b1
        refine ⟨_, rfl, p, _, _, _, rfl, rfl, SqT.of hp, ix0 _ _, _, rfl, q, _, _, _, rfl, rfl, SqT.of hq, ix1 _ _, _, _, rfl, rfl, ⟨b1.1.below, b2.2.below⟩, ?_⟩
        refine ⟨_, rfl, p, _, _, _, rfl, rfl, SqT.of hp, ix1 _ _, _, rfl, q, _, _, _, rfl, rfl, SqT.of hq, ix0 _ _, _, _, rfl, rfl, ⟨b1.2.below, b2.1.below⟩, ?_⟩
        have e1 := mul_bd sp.a sp.a2 (by have := sq.b; omega) sq.b2
        have e2 := mul_bd (by have := sp.b; omega) sp.b2 sq.a sq.a2
        refine ⟨_, _, rfl, e1.1, pos_mul sp.b q1, by omega, fun r hr' => ?_⟩
        have s9 := same_new hr' (.tup (lowI (s.1.1 * s.2.2) (s.1.2 * s.2.1)))
        have h9 : TupAt (upd H8 r (.tup (lowI (s.1.1 * s.2.2) (s.1.2 * s.2.1)))) r (quoF s.1 s.2).1 (quoF s.1 s.2).2 := upd_same
        have Gq := quo_bd sp sq q1
        generalize upd H8 r (.tup (lowI (s.1.1 * s.2.2) (s.1.2 * s.2.1))) = H9 at s9 h9 ⊢
        have oZ : Out d l H H9 := oH7.trans (o8.trans (Out.of s9))
        have DZ := D8.same s9
        refine ⟨_, rfl, r, [(quoF s.1 s.2).1, (quoF s.1 s.2).2], rfl, SqT.of h9, by simp, fun mx hm => ⟨_, _, rfl, rfl, ⟨by decide, by decide, by decide⟩, _, _, rfl, rfl, _, rfl, ?_⟩⟩
        have ma := hm (quoF s.1 s.2).1 (by simp)
        have mb := hm (quoF s.1 s.2).2 (by simp)
        by_cases c2 : mx < 10 ^ (12 : Int).toNat
        · refine iteP (decide_eq_true c2) ?_
          have c3 : mx < 1000000000000 := c2
          exact ⟨_, rfl, k _ r (quoF s.1 s.2) h9 ⟨Gq.a, by omega, Gq.b, by omega⟩ DZ oZ⟩
        · refine iteN (by simpa using c2) ?_
          refine ⟨_, rfl, d, l, 13, rfl, DZ, by decide, by decide, fun x1 HX y0 y1 DX oX => ?_⟩
          refine ⟨_, rfl, d, l, 6, rfl, DX, by decide, by decide, fun x2 HY z0 z1 DY oY => ⟨_, _, rfl, rfl, x1, 1 + x2, rfl, y0, by omega, by omega, fun r hr' => ?_⟩⟩
          exact k _ r (lowP x1 (1 + x2)) upd_same (fac_low y0 (by omega) (by omega) (by omega)) (DY.same (same_new hr' _)) (oZ.trans (oX.trans (oY.trans (Out.of (same_new hr' _)))))
      · refine iteN (by simp [c1]) ?_
        have DZ := D7
        have oZ := oH7
        refine ⟨_, rfl, d, l, 13, rfl, DZ, by decide, by decide, fun x1 HX y0 y1 DX oX => ?_⟩
        refine ⟨_, rfl, d, l, 6, rfl, DX, by decide, by decide, fun x2 HY z0 z1 DY oY => ⟨_, _, rfl, rfl, x1, 1 + x2, rfl, y0, by omega, by omega, fun r hr' => ?_⟩⟩
        exact k _ r (lowP x1 (1 + x2)) upd_same (fac_low y0 (by omega) (by omega) (by omega)) (DY.same (same_new hr' _)) (oZ.trans (oX.trans (oY.trans (Out.of (same_new hr' _)))))
end
end Mine
namespace Mine
open PySem L2
section
variable {P : Program} {w : World} {K : PySem.W.Frag} {mg : Str → Option Value} {base : Heap}
theorem scDue : FnScope ["_law_one", "_law_other", "_law_factor_here", "_law_shares_here", "_law_rest", "_law_answers", "_law_greatest", "_law_lacks", "_law_answer", "_law_share", "_law_there", "_law_spent"] ["_law_one", "_law_other", "_law_factor_here"] (defScope sDue) := ⟨rfl, rfl, rfl, by decide +kernel, rfl, by decide +kernel, by decide +kernel⟩
theorem ok_Due {f : Addr} {fd : FuncData} (F : Fun K "_law_due" "_law_due" sDue f fd)
    {f_LTim : Addr} {d_LTim : FuncData} (G_LTim : FnOk P w K mg base CX0 2 f_LTim d_LTim ["_law_one", "_law_other"] spTimes) (b_LTim : Binds K d_LTim ["_law_one", "_law_other"] []) (k_LTim : PySem.W.keepIn K (.ref f_LTim) = true) (m_LTim : mg "_law_times" = some (.ref f_LTim))
    {f_Blw : Addr} {d_Blw : FuncData} (G_Blw : FnOk P w K mg base CX0 1 f_Blw d_Blw ["_law_one", "_law_other"] spLessF) (b_Blw : Binds K d_Blw ["_law_one", "_law_other"] []) (k_Blw : PySem.W.keepIn K (.ref f_Blw) = true) (m_Blw : mg "_law_below" = some (.ref f_Blw))
    {f_Plus : Addr} {d_Plus : FuncData} (G_Plus : FnOk P w K mg base CX0 2 f_Plus d_Plus ["_law_one", "_law_other"] spPlus) (b_Plus : Binds K d_Plus ["_law_one", "_law_other"] []) (k_Plus : PySem.W.keepIn K (.ref f_Plus) = true) (m_Plus : mg "_law_plus" = some (.ref f_Plus))
    {f_LLow : Addr} {d_LLow : FuncData} (G_LLow : FnOk P w K mg base CX0 1 f_LLow d_LLow ["_law_top", "_law_bottom"] spLow) (b_LLow : Binds K d_LLow ["_law_top", "_law_bottom"] []) (k_LLow : PySem.W.keepIn K (.ref f_LLow) = true) (m_LLow : mg "_law_lowest" = some (.ref f_LLow))
    (m_dict : mg "dict" = none) (m_tuple : mg "tuple" = none) (m_int : mg "int" = none) :
    FnOk P w K mg base CX0 3 f fd ["_law_one", "_law_other", "_law_factor_here"] spDue := by
  refine F.ok scDue (fun vs H Q E h => ?_) (fun cdv A outer s H vs Q E hr h => ?_)
  · obtain ⟨b, t1, t2, p, c1, c2, es1, es2, f, rfl, _⟩ := h
    rfl
  obtain ⟨b, t1, t2, p, c1, c2, es1, es2, f, rfl, A, k⟩ := h
  have hu := hu_of hr
  have hr1 : Room 1 _ := hr.mono (by decide)
  have hr2 : Room 2 _ := hr.mono (by decide)
  refine ⟨_, (pss_cons (ps_set (i := 3) scDue.nd rfl (Or.inl rfl) (pe_callTy (call_dictP hr1) (by rfl) m_dict PyProof.Rows.boot_dict (pa_cons (pv 1) pa_nil)))
    (pss_cons (ps_set (i := 4) scDue.nd rfl (Or.inl rfl) (pe_tup (pa_cons pe_int (pa_cons pe_int pa_nil))))
    (pss_cons (ps_set (i := 5) scDue.nd rfl (Or.inl rfl) (pe_lst pa_nil))
    (pss_cons (ps_set (i := 6) scDue.nd rfl (Or.inl rfl) (pe_tup (pa_cons pe_int (pa_cons pe_int pa_nil))))
    (pss_cons (ps_set (i := 7) scDue.nd rfl (Or.inl rfl) pe_bl)
    (pss_cons (ps_for PassesOwn.never rfl (pi_tup (pv 0)) (pg_tup rfl (pgs_cons (pg_name (i := 8) scDue.nd rfl (Or.inl rfl)) (pgs_cons (pg_name (i := 9) scDue.nd rfl (Or.inl rfl)) pgs_nil)))
    (pss_cons (ps_set (i := 10) scDue.nd rfl (Or.inl rfl) (pe_dget2 hu (pv 3) (pv 8) (pe_tup (pa_cons pe_int (pa_cons pe_int pa_nil))) ⟨rfl, rfl, rfl, rfl⟩))
    (pss_cons (ps_set (i := 11) scDue.nd rfl (Or.inl rfl) (pe_call G_LTim hr2 (by rfl) m_LTim k_LTim b_LTim .nil pass0 (pa_cons (pv 2) (pa_cons (pv 10) pa_nil))))
    (pss_cons (ps_if (pt_val (pe_call G_Blw hr1 (by rfl) m_Blw k_Blw b_Blw .nil pass0 (pa_cons (pv 11) (pa_cons (pv 9) pa_nil)))) (pss_cons (ps_set (i := 4) scDue.nd rfl (Or.inl rfl) (pe_call G_Plus hr2 (by rfl) m_Plus k_Plus b_Plus .nil pass0 (pa_cons (pv 4) (pa_cons (pe_tup (pa_cons (pe_op op_sub (pe_op op_mulB (pe_ix ix_tup (pv 9) pe_int (fun _ _ => rfl)) (pe_ix ix_tup (pv 11) pe_int (fun _ _ => rfl))) (pe_op op_mulB (pe_ix ix_tup (pv 11) pe_int (fun _ _ => rfl)) (pe_ix ix_tup (pv 9) pe_int (fun _ _ => rfl)))) (pa_cons (pe_op op_mulB (pe_ix ix_tup (pv 9) pe_int (fun _ _ => rfl)) (pe_ix ix_tup (pv 11) pe_int (fun _ _ => rfl))) pa_nil))) pa_nil))))
    (pss_one (ps_expr (pe_bm PySem.F.plainAttrs_list PySem.F.slot_list_append PySem.F.type_list_append mt_append (pv 5) (pa_cons (pv 8) pa_nil))))) pss_nil)
    (pss_one (ps_if (pt_cmpR op_eq (pe_ix ix_tup (pv 10) pe_int (fun _ _ => rfl)) pe_int (nomark _)) (pss_one (ps_set (i := 7) scDue.nd rfl (Or.inl rfl) pe_bl)) (pss_one (ps_if (pt_val (pe_call G_Blw hr1 (by rfl) m_Blw k_Blw b_Blw .nil pass0 (pa_cons (pv 6) (pa_cons (pe_tup (pa_cons (pe_op op_mulB (pe_ix ix_tup (pv 9) pe_int (fun _ _ => rfl)) (pe_ix ix_tup (pv 10) pe_int (fun _ _ => rfl))) (pa_cons (pe_op op_mulB (pe_ix ix_tup (pv 9) pe_int (fun _ _ => rfl)) (pe_ix ix_tup (pv 10) pe_int (fun _ _ => rfl))) pa_nil))) pa_nil)))) (pss_one (ps_set (i := 6) scDue.nd rfl (Or.inl rfl) (pe_call G_LLow hr1 (by rfl) m_LLow k_LLow b_LLow .nil pass0 (pa_cons (pe_op op_mulB (pe_ix ix_tup (pv 9) pe_int (fun _ _ => rfl)) (pe_ix ix_tup (pv 10) pe_int (fun _ _ => rfl))) (pa_cons (pe_op op_mulB (pe_ix ix_tup (pv 9) pe_int (fun _ _ => rfl)) (pe_ix ix_tup (pv 10) pe_int (fun _ _ => rfl))) pa_nil))))) pss_nil))))))))
    (pss_one (ps_ret (pe_tup (pa_cons (pv 4) (pa_cons (pe_callTy call_tuple_of (by rfl) m_tuple PyProof.Rows.boot_tuple (pa_cons (pv 5) pa_nil)) (pa_cons (pe_ix ix_list (pe_lst (pa_cons (pv 6) (pa_cons pe_non pa_nil))) (pe_callTy call_int1 (by rfl) m_int PyProof.Rows.boot_int (pa_cons (pv 7) pa_nil)) (fun _ _ => rfl)) pa_nil)))))))))))), ?_⟩
  obtain ⟨us1, h1, tw1⟩ := A.h1
  obtain ⟨us2, h2, tw2⟩ := A.h2
  have l1 := tw1.length
  have l2 := tw2.length
  have m1 := A.o1.l2
  have m2 := A.o2.l2
  obtain ⟨o, o0, od⟩ := dict_ok (small1000 (by omega)) A.o2.nd tw2
  refine ⟨_, rfl, t2, us2, o, rfl, h2, o0, fun d hd => ⟨(od d hd).1, ?_⟩⟩
  obtain ⟨_, hD, sD⟩ := od d hd
  generalize upd H d (o us2.length) = H1 at hD sD ⊢
  refine ⟨by show 2 ≤ sizeLine; decide, fun t0 ht0 => ?_⟩
  have s0 := same_new ht0 (.tup [.int 0, .int 1])
  have h0 : upd H1 t0 (.tup [.int 0, .int 1]) t0 = some (.tup [.int 0, .int 1]) := upd_same
  generalize upd H1 t0 (.tup [.int 0, .int 1]) = H2 at s0 h0 ⊢
  refine ⟨Nat.zero_le _, fun la hla => ?_⟩
  have laH : H la = none := by
    cases q : H la with
    | none => rfl
    | some u => rw [(sD.trans s0) _ _ q] at hla; cases hla
  have la1 : H1 la = none := by
    cases q : H1 la with
    | none => rfl
    | some u => rw [s0 _ _ q] at hla; cases hla
  have s3 := same_new hla (.lst [])
  have h3 : upd H2 la (.lst []) la = some (.lst []) := upd_same
  generalize upd H2 la (.lst []) = H3 at s3 h3 ⊢
  refine ⟨by show 2 ≤ sizeLine; decide, fun t4 ht4 => ?_⟩
  have s4 := same_new ht4 (.tup [.int 0, .int 1])
  have h4 : upd H3 t4 (.tup [.int 0, .int 1]) t4 = some (.tup [.int 0, .int 1]) := upd_same
  generalize upd H3 t4 (.tup [.int 0, .int 1]) = H4 at s4 h4 ⊢
  have s34 := s0.trans (s3.trans s4)
  refine ⟨_, rfl, t1, rfl, ⟨_, SqT.of ((sD.trans s34) _ _ h1)⟩, for_tup (K := K) (a := t1) (xs := us1) (fun i σ H5 => ∃ (rq : Addr) (ws : List V) (gq : Addr) (lk : Bool) (v8 v9 v10 v11 : Option V), σ = [some (.ref t1), some (.ref t2), some (.ref p), some (.ref d), some (.ref rq), some (.ref la), some (.ref gq), some (.bl lk), v8, v9, v10, v11] ∧ Same H H5 ∧ H5 la = some (.lst ws) ∧ Two (AnV b H5) ws (brkA es2 f (es1.take i)) ∧ TupAt H5 rq (restF es2 f (es1.take i)).1 (restF es2 f (es1.take i)).2 ∧ TupAt H5 gq ((es1.take i).foldl (grStep es2) (0, 1)).1 ((es1.take i).foldl (grStep es2) (0, 1)).2 ∧ DicA b H5 d es2 ∧ lk = lacks es2 (es1.take i))
    ⟨t0, [], t4, false, _, _, _, _, rfl, sD.trans s34, s4 _ _ h3, trivial, (s3.trans s4) _ _ h0, h4, hD.same s34, rfl⟩ (by rintro i σ H5 _ ⟨_, _, _, _, _, _, _, _, _, e, _⟩; exact SqT.of (e _ _ h1)) ?_ ?_⟩
  · rintro i v σ H5 hv ⟨rq, ws, gq, lk, v8, v9, v10, v11, rfl, g0, hl0, tw0, hr0, hgq, hD5, elk⟩
    obtain ⟨e, he, me, t, x, q, rfl, ht, hx, hq⟩ := TabA.at tw1 hv
    have ei : i < es1.length := (List.getElem?_eq_some_iff.mp he).1
    have sb := (A.o1.at me).1
    have bs := A.o2.shOk e.1
    have bf := A.of.b1
    have lb := lim_b A.of bs
    have lb2 := lim_bd A.of bs
    have G : GrOk ((es1.take i).foldl (grStep es2) (0, 1)) := gr_all A.o2 _ _ ⟨by decide, by decide, by decide, by decide⟩ fun y hy => (A.o1.at (List.mem_of_mem_take hy)).1
    refine ⟨t, _, rfl, SqT.of (g0 _ _ ht), rfl, _, _, rfl, _, _, rfl, rfl, ?_⟩
    refine ⟨_, rfl, d, rfl, hD5.isD, _, rfl, by show 2 ≤ sizeLine; decide, fun z hz => ?_⟩
    have s6 := same_new hz (.tup [.int 0, .int 1])
    have h6 : upd H5 z (.tup [.int 0, .int 1]) z = some (.tup [.int 0, .int 1]) := upd_same
    replace hD5 := hD5.same s6
    generalize upd H5 z (.tup [.int 0, .int 1]) = H6 at s6 h6 hD5 ⊢
    obtain ⟨o', dg, og⟩ := hD5.get (hx.ts (.of (g0.trans s6)))
    obtain ⟨q2, e2, hq2⟩ := optr_get og h6
    refine ⟨o', dg, ?_⟩
    rw [e2]
    refine ⟨_, rfl, _, rfl, p, q2, f.1, f.2, (shA es2 e.1).1, (shA es2 e.1).2, rfl, (g0.trans s6) _ _ A.hf, hq2, bf.1, bf.2, bs.b1.1, bs.b1.2, A.of.b, bs.b, fun r7 hr7 => ?_⟩
    have s7 := same_new hr7 (.tup (lowI (f.1 * (shA es2 e.1).1) (f.2 * (shA es2 e.1).2)))
    have h7 : TupAt (upd H6 r7 (.tup (lowI (f.1 * (shA es2 e.1).1) (f.2 * (shA es2 e.1).2)))) r7 (limF f (shA es2 e.1)).1 (limF f (shA es2 e.1)).2 := upd_same
    replace hq2 := s7 _ _ hq2
    replace hD5 := hD5.same s7
    generalize upd H6 r7 (.tup (lowI (f.1 * (shA es2 e.1).1) (f.2 * (shA es2 e.1).2))) = H7 at s7 h7 hq2 hD5 ⊢
    have s67 := s6.trans s7
    have g7 := g0.trans s67
    refine ⟨_, rfl, _, rfl, r7, q, _, _, _, _, rfl, h7, g7 _ _ hq, lb.1, lb.2.1, sb.b1.1, sb.b1.2, _, rfl, ?_⟩
    by_cases c : abv es2 f e = true
    · refine iteP c ?_
      have lt : (limF f (shA es2 e.1)).1 * e.2.2 < e.2.1 * (limF f (shA es2 e.1)).2 := of_decide_eq_true c
      refine ⟨_, rfl, _, rfl, q, _, _, _, rfl, rfl, SqT.of (g7 _ _ hq), ix0 _ _, _, rfl, r7, _, _, _, rfl, rfl, SqT.of h7, ix1 _ _, _, _, rfl, rfl, ⟨sb.b1.1.below, lb.2.1.below⟩, ?_⟩
      refine ⟨_, rfl, r7, _, _, _, rfl, rfl, SqT.of h7, ix0 _ _, _, rfl, q, _, _, _, rfl, rfl, SqT.of (g7 _ _ hq), ix1 _ _, _, _, rfl, rfl, ⟨lb.1.below, sb.b1.2.below⟩, _, _, rfl, rfl, ?_⟩
      refine ⟨_, rfl, q, _, _, _, rfl, rfl, SqT.of (g7 _ _ hq), ix1 _ _, _, rfl, r7, _, _, _, rfl, rfl, SqT.of h7, ix1 _ _, _, _, rfl, rfl, ⟨sb.b1.2.below, lb.2.1.below⟩, by show 2 ≤ sizeLine; decide, fun t8 ht8 => ?_⟩
      have s8 := same_new ht8 (.tup [.int (e.2.1 * (limF f (shA es2 e.1)).2 - (limF f (shA es2 e.1)).1 * e.2.2), .int (e.2.2 * (limF f (shA es2 e.1)).2)])
      have h8 : TupAt (upd H7 t8 (.tup [.int (e.2.1 * (limF f (shA es2 e.1)).2 - (limF f (shA es2 e.1)).1 * e.2.2), .int (e.2.2 * (limF f (shA es2 e.1)).2)])) t8 (e.2.1 * (limF f (shA es2 e.1)).2 - (limF f (shA es2 e.1)).1 * e.2.2) (e.2.2 * (limF f (shA es2 e.1)).2) := upd_same
      generalize upd H7 t8 (.tup [.int (e.2.1 * (limF f (shA es2 e.1)).2 - (limF f (shA es2 e.1)).1 * e.2.2), .int (e.2.2 * (limF f (shA es2 e.1)).2)]) = H8 at s8 h8 ⊢
      have fr := (rest_safe A.o1.c1 A.o1.c2 (A.o1.sh.take i) (by rw [List.length_take]; omega) A.o2 A.of).2
      have b1 := mulB (n := 77) sb.a sb.a2 (by omega) lb2.2.2.2 (by decide)
      have b2 := mulB (m := 77) (n := 37) lb2.1 lb2.2.1 (by have := sb.b; omega) sb.b2 (by decide)
      have b3 := mulB (n := 77) (by have := sb.b; omega) sb.b2 (by omega) lb2.2.2.2 (by decide)
      have b4 := pos_mul sb.b lb2.2.2.1
      have t0' : 0 ≤ e.2.1 * (limF f (shA es2 e.1)).2 - (limF f (shA es2 e.1)).1 * e.2.2 := by omega
      refine ⟨rq, t8, restF es2 f (es1.take i), (e.2.1 * (limF f (shA es2 e.1)).2 - (limF f (shA es2 e.1)).1 * e.2.2, e.2.2 * (limF f (shA es2 e.1)).2), rfl, (s67.trans s8) _ _ hr0, h8, fr, ⟨⟨t0', by have := b1.2; have := b2.1; show _ - _ < _; omega⟩, b3, b4⟩, fun r9 hr9 => ?_⟩
      have pe := plus_low (u := restF es2 f (es1.take i)) fr.1.1 fr.2.2 t0' b4
      have s9 := same_new hr9 (.tup [.int (addF (restF es2 f (es1.take i)) (e.2.1 * (limF f (shA es2 e.1)).2 - (limF f (shA es2 e.1)).1 * e.2.2, e.2.2 * (limF f (shA es2 e.1)).2)).1, .int (addF (restF es2 f (es1.take i)) (e.2.1 * (limF f (shA es2 e.1)).2 - (limF f (shA es2 e.1)).1 * e.2.2, e.2.2 * (limF f (shA es2 e.1)).2)).2])
      have h9 : TupAt (upd H8 r9 (.tup [.int (addF (restF es2 f (es1.take i)) (e.2.1 * (limF f (shA es2 e.1)).2 - (limF f (shA es2 e.1)).1 * e.2.2, e.2.2 * (limF f (shA es2 e.1)).2)).1, .int (addF (restF es2 f (es1.take i)) (e.2.1 * (limF f (shA es2 e.1)).2 - (limF f (shA es2 e.1)).1 * e.2.2, e.2.2 * (limF f (shA es2 e.1)).2)).2])) r9 (restF es2 f (es1.take i ++ [e])).1 (restF es2 f (es1.take i ++ [e])).2 := by
        rw [rest_pos c]
        unfold subG
        rw [← pe]
        exact upd_same
      generalize upd H8 r9 (.tup [.int (addF (restF es2 f (es1.take i)) (e.2.1 * (limF f (shA es2 e.1)).2 - (limF f (shA es2 e.1)).1 * e.2.2, e.2.2 * (limF f (shA es2 e.1)).2)).1, .int (addF (restF es2 f (es1.take i)) (e.2.1 * (limF f (shA es2 e.1)).2 - (limF f (shA es2 e.1)).1 * e.2.2, e.2.2 * (limF f (shA es2 e.1)).2)).2]) = H9 at s9 h9 ⊢
      have s89 := s67.trans (s8.trans s9)
      have wl : ws.length ≤ 12 := by
        rw [tw0.length]
        unfold brkA
        rw [List.length_map]
        exact Nat.le_trans (List.length_filter_le _ _) (by rw [List.length_take]; omega)
      refine ⟨_, rfl, .inl ⟨rfl, _, SqL.of (s89 _ _ hl0)⟩, _, rfl, la, ws, x, rfl, rfl, s89 _ _ hl0, small1000 (by omega), ?_⟩
      have t5 := TS.lst (ys := ws ++ [x]) (s89 _ _ hl0)
      have g5 : Same H (upd H9 la (.lst (ws ++ [x]))) := same_lst (g0.trans s89) laH
      have hl5 : upd H9 la (.lst (ws ++ [x])) la = some (.lst (ws ++ [x])) := upd_same
      have tw5 : Two (AnV b (upd H9 la (.lst (ws ++ [x])))) (ws ++ [x]) (brkA es2 f (es1.take i ++ [e])) := by
        rw [brk_pos c]
        exact Two.append (tw0.mono fun _ _ z => AnV.ts ((TS.of s89).trans t5) z) ⟨hx.ts (.of g5), trivial⟩
      have hr5 : TupAt (upd H9 la (.lst (ws ++ [x]))) r9 (restF es2 f (es1.take i ++ [e])).1 (restF es2 f (es1.take i ++ [e])).2 := t5 _ _ h9
      have hg5 : TupAt (upd H9 la (.lst (ws ++ [x]))) gq ((es1.take i).foldl (grStep es2) (0, 1)).1 ((es1.take i).foldl (grStep es2) (0, 1)).2 := t5 _ _ (s89 _ _ hgq)
      have hq5 : TupAt (upd H9 la (.lst (ws ++ [x]))) q2 (shA es2 e.1).1 (shA es2 e.1).2 := t5 _ _ ((s8.trans s9) _ _ hq2)
      have hD9 : DicA b (upd H9 la (.lst (ws ++ [x]))) d es2 := (hD5.same (s8.trans s9)).keep t5 fun u hu' => by
        rw [upd_ne (dic_ne (s89 _ _ hl0) (hD5.same (s8.trans s9)))]
        exact hu'
      generalize upd H9 la (.lst (ws ++ [x])) = H5 at g5 hl5 tw5 hr5 hg5 hq5 hD9 ⊢
      generalize ws ++ [x] = ws5 at hl5 tw5
      generalize r9 = rq5 at hr5 ⊢
      rw [← take_snoc he] at tw5 hr5
      refine ⟨_, rfl, q2, _, _, _, rfl, rfl, SqT.of (hq5), ix0 _ _, rfl, _, rfl, ?_⟩
      by_cases c2 : (shA es2 e.1).1 = 0
      · refine iteP (by simp [c2]) ?_
        refine ⟨rq5, ws5, gq, _, _, _, _, _, rfl, g5, hl5, tw5, hr5, ?_, hD9, ?_⟩
        · rw [take_snoc he, gr_snoc, gr_zero c2]
          exact hg5
        · rw [take_snoc he, lacks_snoc, decide_eq_true c2, Bool.or_true]
      · refine iteN (by simp [c2]) ?_
        have t1' : 1 ≤ (shA es2 e.1).1 := by have := bs.a; omega
        refine ⟨_, rfl, _, rfl, q, _, _, _, rfl, rfl, SqT.of (g5 _ _ hq), ix0 _ _, _, rfl, q2, _, _, _, rfl, rfl, SqT.of (hq5), ix1 _ _, _, _, rfl, rfl, ⟨sb.b1.1.below, bs.b1.2.below⟩, ?_⟩
        refine ⟨_, rfl, q, _, _, _, rfl, rfl, SqT.of (g5 _ _ hq), ix1 _ _, _, rfl, q2, _, _, _, rfl, rfl, SqT.of (hq5), ix0 _ _, _, _, rfl, rfl, ⟨sb.b1.2.below, bs.b1.1.below⟩, by show 2 ≤ sizeLine; decide, fun t6 ht6 => ?_⟩
        have s6 := same_new ht6 (.tup [.int (e.2.1 * (shA es2 e.1).2), .int (e.2.2 * (shA es2 e.1).1)])
        have h6 : TupAt (upd H5 t6 (.tup [.int (e.2.1 * (shA es2 e.1).2), .int (e.2.2 * (shA es2 e.1).1)])) t6 (e.2.1 * (shA es2 e.1).2) (e.2.2 * (shA es2 e.1).1) := upd_same
        generalize upd H5 t6 (.tup [.int (e.2.1 * (shA es2 e.1).2), .int (e.2.2 * (shA es2 e.1).1)]) = H6 at s6 h6 ⊢
        have e1 := mulB sb.a sb.a2 (by have := bs.b; omega) bs.b2 (by decide)
        have e2 := mulB (by have := sb.b; omega) sb.b2 bs.a bs.a2 (by decide)
        have e3 := pos_mul sb.b t1'
        have e4 := mul_bd (by have := sb.b; omega) sb.b2 bs.a bs.a2
        refine ⟨gq, t6, _, _, _, _, rfl, s6 _ _ (hg5), h6, G.b1.1, G.b1.2, e1, e2, _, rfl, ?_⟩
        have tw6 := tw5.mono fun _ _ z => AnV.ts (.of s6) z
        have g6 := g5.trans s6
        by_cases c3 : ltF ((es1.take i).foldl (grStep es2) (0, 1)) (e.2.1 * (shA es2 e.1).2, e.2.2 * (shA es2 e.1).1) = true
        · refine iteP c3 ?_
          refine ⟨_, rfl, q, _, _, _, rfl, rfl, SqT.of (g6 _ _ hq), ix0 _ _, _, rfl, q2, _, _, _, rfl, rfl, SqT.of (s6 _ _ hq5), ix1 _ _, _, _, rfl, rfl, ⟨sb.b1.1.below, bs.b1.2.below⟩, ?_⟩
          refine ⟨_, rfl, q, _, _, _, rfl, rfl, SqT.of (g6 _ _ hq), ix1 _ _, _, rfl, q2, _, _, _, rfl, rfl, SqT.of (s6 _ _ hq5), ix0 _ _, _, _, rfl, rfl, ⟨sb.b1.2.below, bs.b1.1.below⟩, _, _, rfl, e1.1, e3, by omega, fun r7 hr7 => ?_⟩
          have s7 := same_new hr7 (.tup (lowI (e.2.1 * (shA es2 e.1).2) (e.2.2 * (shA es2 e.1).1)))
          have h7 : TupAt (upd H6 r7 (.tup (lowI (e.2.1 * (shA es2 e.1).2) (e.2.2 * (shA es2 e.1).1)))) r7 (quoF e.2 (shA es2 e.1)).1 (quoF e.2 (shA es2 e.1)).2 := upd_same
          generalize upd H6 r7 (.tup (lowI (e.2.1 * (shA es2 e.1).2) (e.2.2 * (shA es2 e.1).1))) = H7 at s7 h7 ⊢
          refine ⟨rq5, ws5, r7, _, _, _, _, _, rfl, g6.trans s7, (s6.trans s7) _ _ hl5, tw6.mono fun _ _ z => AnV.ts (.of s7) z, (s6.trans s7) _ _ hr5, ?_, hD9.same (s6.trans s7), ?_⟩
          · rw [take_snoc he, gr_snoc, gr_up c2 c3]
            exact h7
          · rw [take_snoc he, lacks_snoc, decide_eq_false c2, Bool.or_false]
            exact elk
        · refine iteN c3 ?_
          refine ⟨rq5, ws5, gq, _, _, _, _, _, rfl, g6, s6 _ _ hl5, tw6, s6 _ _ hr5, ?_, hD9.same s6, ?_⟩
          · rw [take_snoc he, gr_snoc, gr_stay c2 c3]
            exact s6 _ _ (hg5)
          · rw [take_snoc he, lacks_snoc, decide_eq_false c2, Bool.or_false]
            exact elk
    · refine iteN c ?_
      have g5 := g7
      have hl5 := s67 _ _ hl0
      have tw5 := tw0.mono fun _ _ z => AnV.ts (.of s67) z
      have hr5 := s67 _ _ hr0
      have hg5 := s67 _ _ hgq
      have hq5 := hq2
      have hD9 := hD5
      rw [← brk_neg c, ← take_snoc he] at tw5
      have hr5 : TupAt H7 rq (restF es2 f (es1.take (i + 1))).1 (restF es2 f (es1.take (i + 1))).2 := by rw [take_snoc he, rest_neg c]; exact hr5
      generalize H7 = H5 at g5 hl5 tw5 hr5 hg5 hq5 hD9 ⊢
      generalize ws = ws5 at hl5 tw5
      generalize rq = rq5 at hr5 ⊢
      refine ⟨_, rfl, q2, _, _, _, rfl, rfl, SqT.of (hq5), ix0 _ _, rfl, _, rfl, ?_⟩
      by_cases c2 : (shA es2 e.1).1 = 0
      · refine iteP (by simp [c2]) ?_
        refine ⟨rq5, ws5, gq, _, _, _, _, _, rfl, g5, hl5, tw5, hr5, ?_, hD9, ?_⟩
        · rw [take_snoc he, gr_snoc, gr_zero c2]
          exact hg5
        · rw [take_snoc he, lacks_snoc, decide_eq_true c2, Bool.or_true]
      · refine iteN (by simp [c2]) ?_
        have t1' : 1 ≤ (shA es2 e.1).1 := by have := bs.a; omega
        refine ⟨_, rfl, _, rfl, q, _, _, _, rfl, rfl, SqT.of (g5 _ _ hq), ix0 _ _, _, rfl, q2, _, _, _, rfl, rfl, SqT.of (hq5), ix1 _ _, _, _, rfl, rfl, ⟨sb.b1.1.below, bs.b1.2.below⟩, ?_⟩
        refine ⟨_, rfl, q, _, _, _, rfl, rfl, SqT.of (g5 _ _ hq), ix1 _ _, _, rfl, q2, _, _, _, rfl, rfl, SqT.of (hq5), ix0 _ _, _, _, rfl, rfl, ⟨sb.b1.2.below, bs.b1.1.below⟩, by show 2 ≤ sizeLine; decide, fun t6 ht6 => ?_⟩
        have s6 := same_new ht6 (.tup [.int (e.2.1 * (shA es2 e.1).2), .int (e.2.2 * (shA es2 e.1).1)])
        have h6 : TupAt (upd H5 t6 (.tup [.int (e.2.1 * (shA es2 e.1).2), .int (e.2.2 * (shA es2 e.1).1)])) t6 (e.2.1 * (shA es2 e.1).2) (e.2.2 * (shA es2 e.1).1) := upd_same
        generalize upd H5 t6 (.tup [.int (e.2.1 * (shA es2 e.1).2), .int (e.2.2 * (shA es2 e.1).1)]) = H6 at s6 h6 ⊢
        have e1 := mulB sb.a sb.a2 (by have := bs.b; omega) bs.b2 (by decide)
        have e2 := mulB (by have := sb.b; omega) sb.b2 bs.a bs.a2 (by decide)
        have e3 := pos_mul sb.b t1'
        have e4 := mul_bd (by have := sb.b; omega) sb.b2 bs.a bs.a2
        refine ⟨gq, t6, _, _, _, _, rfl, s6 _ _ (hg5), h6, G.b1.1, G.b1.2, e1, e2, _, rfl, ?_⟩
        have tw6 := tw5.mono fun _ _ z => AnV.ts (.of s6) z
        have g6 := g5.trans s6
        by_cases c3 : ltF ((es1.take i).foldl (grStep es2) (0, 1)) (e.2.1 * (shA es2 e.1).2, e.2.2 * (shA es2 e.1).1) = true
        · refine iteP c3 ?_
          refine ⟨_, rfl, q, _, _, _, rfl, rfl, SqT.of (g6 _ _ hq), ix0 _ _, _, rfl, q2, _, _, _, rfl, rfl, SqT.of (s6 _ _ hq5), ix1 _ _, _, _, rfl, rfl, ⟨sb.b1.1.below, bs.b1.2.below⟩, ?_⟩
          refine ⟨_, rfl, q, _, _, _, rfl, rfl, SqT.of (g6 _ _ hq), ix1 _ _, _, rfl, q2, _, _, _, rfl, rfl, SqT.of (s6 _ _ hq5), ix0 _ _, _, _, rfl, rfl, ⟨sb.b1.2.below, bs.b1.1.below⟩, _, _, rfl, e1.1, e3, by omega, fun r7 hr7 => ?_⟩
          have s7 := same_new hr7 (.tup (lowI (e.2.1 * (shA es2 e.1).2) (e.2.2 * (shA es2 e.1).1)))
          have h7 : TupAt (upd H6 r7 (.tup (lowI (e.2.1 * (shA es2 e.1).2) (e.2.2 * (shA es2 e.1).1)))) r7 (quoF e.2 (shA es2 e.1)).1 (quoF e.2 (shA es2 e.1)).2 := upd_same
          generalize upd H6 r7 (.tup (lowI (e.2.1 * (shA es2 e.1).2) (e.2.2 * (shA es2 e.1).1))) = H7 at s7 h7 ⊢
          refine ⟨rq5, ws5, r7, _, _, _, _, _, rfl, g6.trans s7, (s6.trans s7) _ _ hl5, tw6.mono fun _ _ z => AnV.ts (.of s7) z, (s6.trans s7) _ _ hr5, ?_, hD9.same (s6.trans s7), ?_⟩
          · rw [take_snoc he, gr_snoc, gr_up c2 c3]
            exact h7
          · rw [take_snoc he, lacks_snoc, decide_eq_false c2, Bool.or_false]
            exact elk
        · refine iteN c3 ?_
          refine ⟨rq5, ws5, gq, _, _, _, _, _, rfl, g6, s6 _ _ hl5, tw6, s6 _ _ hr5, ?_, hD9.same s6, ?_⟩
          · rw [take_snoc he, gr_snoc, gr_stay c2 c3]
            exact s6 _ _ (hg5)
          · rw [take_snoc he, lacks_snoc, decide_eq_false c2, Bool.or_false]
            exact elk
  · rintro σ H5 ⟨rq, ws, gq, lk, v8, v9, v10, v11, rfl, g0, hl0, tw0, hr0, hgq, hD5, elk⟩
    rw [l1, List.take_length] at tw0 hr0 hgq elk
    have fe := fac_eq A.o2 es1 (0, 1) ⟨by decide, by decide, by decide, by decide⟩ fun y hy => (A.o1.at hy).1
    refine ⟨_, rfl, _, rfl, la, ws, rfl, .inl ⟨SqL.of hl0, fun t6 ht6 => ?_⟩⟩
    have s6 := same_new ht6 (.tup ws)
    have h6 : upd H5 t6 (.tup ws) t6 = some (.tup ws) := upd_same
    generalize upd H5 t6 (.tup ws) = H6 at s6 h6 ⊢
    refine ⟨_, rfl, by show 2 ≤ sizeLine; decide, fun l7 hl7 => ?_⟩
    have s7 := same_new hl7 (.lst [.ref gq, .non])
    have h7 : upd H6 l7 (.lst [.ref gq, .non]) l7 = some (.lst [.ref gq, .non]) := upd_same
    generalize upd H6 l7 (.lst [.ref gq, .non]) = H7 at s7 h7 ⊢
    have s67 := s6.trans s7
    refine ⟨_, rfl, .inr ⟨lk, rfl, ?_⟩⟩
    have fin : ∀ (v : V) (t8 : Addr), H7 t8 = none → OptV H7 v (facF es2 es1 (0, 1)) → Q (.ref t8) (upd H7 t8 (.tup [.ref rq, .ref t6, v])) := fun v t8 ht8 ov => by
      have s8 := same_new ht8 (.tup [.ref rq, .ref t6, v])
      exact k _ t8 rq t6 ws v (g0.trans (s67.trans s8)) ⟨upd_same, (s67.trans s8) _ _ hr0, (s7.trans s8) _ _ h6, tw0.mono fun _ _ z => AnV.ts (.of (s67.trans s8)) z, ov.ts (.of s8)⟩
    cases lk with
    | true =>
      refine ⟨l7, _, _, .non, rfl, rfl, SqL.of h7, rfl, by show 3 ≤ sizeLine; decide, fun t8 ht8 => fin _ t8 ht8 ?_⟩
      rw [fe, ← elk]
      rfl
    | false =>
      refine ⟨l7, _, _, .ref gq, rfl, rfl, SqL.of h7, rfl, by show 3 ≤ sizeLine; decide, fun t8 ht8 => fin _ t8 ht8 ?_⟩
      rw [fe, ← elk]
      exact ⟨gq, rfl, s67 _ _ hgq⟩
end
end Mine
namespace Mine
open PySem L2
section
variable {P : Program} {w : World} {K : PySem.W.Frag} {mg : Str → Option Value} {base : Heap}
theorem scLaw : FnScope ["_law_script", "_law_deal_here", "_law_asked", "_law_turn", "_law_many", "_law_wide", "_law_one", "_law_other", "_law_factor_here", "_law_due_here"] ["_law_script"] (defScope sLaw) := ⟨rfl, rfl, rfl, by decide +kernel, rfl, by decide +kernel, by decide +kernel⟩
theorem ok_Law {f : Addr} {fd : FuncData} (F : Fun K "law" "law" sLaw f fd)
    {f_Deal : Addr} {d_Deal : FuncData} (G_Deal : FnOk P w K mg base CX0 1 f_Deal d_Deal ["_law_script", "_law_base"] (spDeal K)) (b_Deal : Binds K d_Deal ["_law_script", "_law_base"] []) (k_Deal : PySem.W.keepIn K (.ref f_Deal) = true) (m_Deal : mg "_law_deal" = some (.ref f_Deal))
    {f_Two : Addr} {d_Two : FuncData} (G_Two : FnOk P w K mg base CX0 3 f_Two d_Two ["_law_deal_here", "_law_pool_here", "_law_wide"] spTwo) (b_Two : Binds K d_Two ["_law_deal_here", "_law_pool_here", "_law_wide"] []) (k_Two : PySem.W.keepIn K (.ref f_Two) = true) (m_Two : mg "_law_two" = some (.ref f_Two))
    {f_Fac : Addr} {d_Fac : FuncData} (G_Fac : FnOk P w K mg base CX0 2 f_Fac d_Fac ["_law_deal_here", "_law_one", "_law_other"] spFac) (b_Fac : Binds K d_Fac ["_law_deal_here", "_law_one", "_law_other"] []) (k_Fac : PySem.W.keepIn K (.ref f_Fac) = true) (m_Fac : mg "_law_factor" = some (.ref f_Fac))
    {f_Pool : Addr} {d_Pool : FuncData} (G_Pool : FnOk P w K mg base CX0 2 f_Pool d_Pool ["_law_deal_here", "_law_many"] spPool) (b_Pool : Binds K d_Pool ["_law_deal_here", "_law_many"] []) (k_Pool : PySem.W.keepIn K (.ref f_Pool) = true) (m_Pool : mg "_law_pool" = some (.ref f_Pool))
    {f_Due : Addr} {d_Due : FuncData} (G_Due : FnOk P w K mg base CX0 3 f_Due d_Due ["_law_one", "_law_other", "_law_factor_here"] spDue) (b_Due : Binds K d_Due ["_law_one", "_law_other", "_law_factor_here"] []) (k_Due : PySem.W.keepIn K (.ref f_Due) = true) (m_Due : mg "_law_due" = some (.ref f_Due))
    {f_Rest : Addr} {d_Rest : FuncData} (G_Rest : FnOk P w K mg base CX0 5 f_Rest d_Rest ["one", "other", "factor"] spRest) (b_Rest : Binds K d_Rest ["one", "other", "factor"] []) (k_Rest : PySem.W.keepIn K (.ref f_Rest) = true) (m_Rest : mg "least_rest" = some (.ref f_Rest))
    {f_Draw : Addr} {d_Draw : FuncData} (G_Draw : FnOk P w K mg base CX0 1 f_Draw d_Draw ["_law_deal_here", "_law_many"] spDraw) (b_Draw : Binds K d_Draw ["_law_deal_here", "_law_many"] []) (k_Draw : PySem.W.keepIn K (.ref f_Draw) = true) (m_Draw : mg "_law_draw" = some (.ref f_Draw))
    {f_Brk : Addr} {d_Brk : FuncData} (G_Brk : FnOk P w K mg base CX0 5 f_Brk d_Brk ["one", "other", "factor"] spBreak) (b_Brk : Binds K d_Brk ["one", "other", "factor"] []) (k_Brk : PySem.W.keepIn K (.ref f_Brk) = true) (m_Brk : mg "breaking" = some (.ref f_Brk))
    {f_LF : Addr} {d_LF : FuncData} (G_LF : FnOk P w K mg base CX0 4 f_LF d_LF ["one", "other"] spFacO) (b_LF : Binds K d_LF ["one", "other"] []) (k_LF : PySem.W.keepIn K (.ref f_LF) = true) (m_LF : mg "least_factor" = some (.ref f_LF))
    (m_range : mg "range" = none) (m_list : mg "list" = none) (m_int : mg "int" = none) (m_reversed : mg "reversed" = none) (m_repr : mg "repr" = none) :
    FnOk P w K mg base CX0 6 f fd ["_law_script"] (spLaw K) := by
  refine F.ok scLaw (fun vs H Q E h => ?_) (fun cdv A outer s H vs Q E hr h => ?_)
  · obtain ⟨a, ns, rfl, _⟩ := h
    rfl
  obtain ⟨a, ns, rfl, hs, hl, k⟩ := h
  have hu := hu_of hr
  have hr1 : Room 1 _ := hr.mono (by decide)
  have hr2 : Room 2 _ := hr.mono (by decide)
  have hr3 : Room 3 _ := hr.mono (by decide)
  have hr4 : Room 4 _ := hr.mono (by decide)
  have hr5 : Room 5 _ := hr.mono (by decide)
  refine ⟨_, (pss_cons (ps_set (i := 1) scLaw.nd rfl (Or.inl rfl) (pe_call G_Deal hr1 (by rfl) m_Deal k_Deal b_Deal .nil pass0 (pa_cons (pv 0) (pa_cons pe_int pa_nil))))
    (pss_cons (ps_set (i := 2) scLaw.nd rfl (Or.inl rfl) (pe_lst pa_nil))
    (pss_cons (ps_for PassesOwn.never rfl (pi_range1 (by rfl) m_range (pa_cons pe_int pa_nil)) (pg_name (i := 3) scLaw.nd rfl (Or.inl rfl))
    (pss_cons (ps_asg (pe_ix ix_list (pe_lst (pa_cons (pe_tup (pa_cons (pe_op op_add pe_int (pe_call G_Draw hr1 (by rfl) m_Draw k_Draw b_Draw .nil pass0 (pa_cons (pv 1) (pa_cons pe_int pa_nil)))) (pa_cons pe_int pa_nil))) (pa_cons (pe_tup (pa_cons pe_int (pa_cons (pe_op op_pow pe_int pe_int) pa_nil))) pa_nil))) (pe_callTy call_int1 (by rfl) m_int PyProof.Rows.boot_int (pa_cons (pe_cmpR op_eq (pe_call G_Draw hr1 (by rfl) m_Draw k_Draw b_Draw .nil pass0 (pa_cons (pv 1) (pa_cons pe_int pa_nil))) pe_int (nomark _)) pa_nil)) (fun _ _ => rfl)) (pg_tup rfl (pgs_cons (pg_name (i := 4) scLaw.nd rfl (Or.inl rfl)) (pgs_cons (pg_name (i := 5) scLaw.nd rfl (Or.inl rfl)) pgs_nil))))
    (pss_cons (ps_asg (pe_call G_Two hr3 (by rfl) m_Two k_Two b_Two .nil pass0 (pa_cons (pv 1) (pa_cons (pe_call G_Pool hr2 (by rfl) m_Pool k_Pool b_Pool .nil pass0 (pa_cons (pv 1) (pa_cons (pv 4) pa_nil))) (pa_cons (pv 5) pa_nil)))) (pg_lst rfl (pgs_cons (pg_name (i := 6) scLaw.nd rfl (Or.inl rfl)) (pgs_cons (pg_name (i := 7) scLaw.nd rfl (Or.inl rfl)) pgs_nil))))
    (pss_cons (ps_set (i := 8) scLaw.nd rfl (Or.inl rfl) (pe_call G_Fac hr2 (by rfl) m_Fac k_Fac b_Fac .nil pass0 (pa_cons (pv 1) (pa_cons (pv 6) (pa_cons (pv 7) pa_nil)))))
    (pss_cons (ps_expr (pe_bm PySem.F.plainAttrs_list PySem.F.slot_list_append PySem.F.type_list_append mt_append (pv 2) (pa_cons (pe_tup (pa_cons (pv 6) (pa_cons (pv 7) (pa_cons (pv 8) (pa_cons (pe_call G_Due hr3 (by rfl) m_Due k_Due b_Due .nil pass0 (pa_cons (pv 6) (pa_cons (pv 7) (pa_cons (pv 8) pa_nil)))) pa_nil))))) pa_nil)))
    (pss_cons (ps_expr (pe_bm PySem.F.plainAttrs_list PySem.F.slot_list_append PySem.F.type_list_append mt_append (pv 2) (pa_cons (pe_tup (pa_cons (pv 7) (pa_cons (pv 6) (pa_cons (pv 8) (pa_cons (pe_call G_Due hr3 (by rfl) m_Due k_Due b_Due .nil pass0 (pa_cons (pv 7) (pa_cons (pv 6) (pa_cons (pv 8) pa_nil)))) pa_nil))))) pa_nil)))
    (pss_one (ps_expr (pe_bm PySem.F.plainAttrs_list PySem.F.slot_list_append PySem.F.type_list_append mt_append (pv 2) (pa_cons (pe_tup (pa_cons (pv 6) (pa_cons (pv 6) (pa_cons (pe_tup (pa_cons pe_int (pa_cons pe_int pa_nil))) (pa_cons (pe_tup (pa_cons (pe_tup (pa_cons pe_int (pa_cons pe_int pa_nil))) (pa_cons (pe_tup pa_nil) (pa_cons (pe_tup (pa_cons pe_int (pa_cons pe_int pa_nil))) pa_nil)))) pa_nil))))) pa_nil))))))))))
    (pss_cons (ps_for PassesOwn.never rfl (pi_list (pe_op op_cat (pv 2) (pe_listrev (pv 2) (by rfl) m_list (by rfl) m_reversed))) (pg_tup rfl (pgs_cons (pg_name (i := 6) scLaw.nd rfl (Or.inl rfl)) (pgs_cons (pg_name (i := 7) scLaw.nd rfl (Or.inl rfl)) (pgs_cons (pg_name (i := 8) scLaw.nd rfl (Or.inl rfl)) (pgs_cons (pg_name (i := 9) scLaw.nd rfl (Or.inl rfl)) pgs_nil)))))
    (pss_cons (ps_if (pt_cmpR op_ne (pe_callB (call_reprV hr1) (by rfl) m_repr PyProof.Rows.boot_repr (pa_cons (pe_call G_Rest hr5 (by rfl) m_Rest k_Rest b_Rest .nil pass0 (pa_cons (pv 6) (pa_cons (pv 7) (pa_cons (pv 8) pa_nil)))) pa_nil)) (pe_callB (call_reprV hr1) (by rfl) m_repr PyProof.Rows.boot_repr (pa_cons (pe_ix ix_tup (pv 9) pe_int (fun _ _ => rfl)) pa_nil)) (nomark _)) (pss_one (ps_ret pe_bl)) pss_nil)
    (pss_one (ps_if (pw_or (pt_cmpR op_ne (pe_callB (call_reprV hr1) (by rfl) m_repr PyProof.Rows.boot_repr (pa_cons (pe_call G_Brk hr5 (by rfl) m_Brk k_Brk b_Brk .nil pass0 (pa_cons (pv 6) (pa_cons (pv 7) (pa_cons (pv 8) pa_nil)))) pa_nil)) (pe_callB (call_reprV hr1) (by rfl) m_repr PyProof.Rows.boot_repr (pa_cons (pe_ix ix_tup (pv 9) pe_int (fun _ _ => rfl)) pa_nil)) (nomark _)) (pw_or1 (pt_cmpR op_ne (pe_callB (call_reprV hr1) (by rfl) m_repr PyProof.Rows.boot_repr (pa_cons (pe_call G_LF hr4 (by rfl) m_LF k_LF b_LF .nil pass0 (pa_cons (pv 6) (pa_cons (pv 7) pa_nil))) pa_nil)) (pe_callB (call_reprV hr1) (by rfl) m_repr PyProof.Rows.boot_repr (pa_cons (pe_ix ix_tup (pv 9) pe_int (fun _ _ => rfl)) pa_nil)) (nomark _)))).pt (pss_one (ps_ret pe_bl)) pss_nil))))
    (pss_one (ps_ret pe_bl)))))), ?_⟩
  refine ⟨_, rfl, a, ns, 0, rfl, hs, hl, by decide, by decide, fun d l H1 hd hl' D1 s1 => ?_⟩
  refine ⟨Nat.zero_le _, fun lf hlf => ?_⟩
  have DL0 := DealL.new D1 hlf
  generalize upd H1 lf (.lst []) = H2 at DL0 ⊢
  refine ⟨3, rfl, by decide, by decide, for_range (n := 3) (fun i σ H2 => ∃ (ts : List V) (v3 v4 v5 v6 v7 v8 : Option V), σ = [some (.ref a), some (.ref d), some (.ref lf), v3, v4, v5, v6, v7, v8, none] ∧ DealL H2 d l lf ts ∧ ts.length = 3 * i ∧ ∀ v ∈ ts, AskedV H2 v)
    ⟨[], _, _, _, _, _, _, rfl, DL0, rfl, fun _ z => nomatch z⟩ ?_ ?_⟩
  · rintro i σ H2 hi ⟨ts, v3, v4, v5, v6, v7, v8, rfl, DL, tl, TA⟩
    refine ⟨_, rfl, d, l, 6, rfl, DL.deal, by decide, by decide, fun x H3 x0 x1 D3 o3 => ⟨_, _, rfl, rfl, by show 2 ≤ sizeLine; decide, fun ta hta => ?_⟩⟩
    have s4 := same_new hta (.tup [.int (1 + x), .int 9])
    have h4 : upd H3 ta (.tup [.int (1 + x), .int 9]) ta = some (.tup [.int (1 + x), .int 9]) := upd_same
    generalize upd H3 ta (.tup [.int (1 + x), .int 9]) = H4 at s4 h4 ⊢
    refine ⟨_, _, rfl, rfl, ⟨by decide, by decide, by decide⟩, by show 2 ≤ sizeLine; decide, fun tb htb => ?_⟩
    have s5 := same_new htb (.tup [.int 12, .int (10 ^ (10 : Int).toNat)])
    have h5 : upd H4 tb (.tup [.int 12, .int (10 ^ (10 : Int).toNat)]) tb = some (.tup [.int 12, .int (10 ^ (10 : Int).toNat)]) := upd_same
    generalize upd H4 tb (.tup [.int 12, .int (10 ^ (10 : Int).toNat)]) = H5 at s5 h5 ⊢
    refine ⟨by show 2 ≤ sizeLine; decide, fun l0 hl0 => ?_⟩
    have n0 := deal_new (D3.same (s4.trans s5)) hl0
    have s6 := same_new hl0 (.lst [.ref ta, .ref tb])
    have h6 : upd H5 l0 (.lst [.ref ta, .ref tb]) l0 = some (.lst [.ref ta, .ref tb]) := upd_same
    generalize upd H5 l0 (.lst [.ref ta, .ref tb]) = H6 at s6 h6 ⊢
    have s46 := s4.trans (s5.trans s6)
    have D6 := D3.same s46
    refine ⟨_, rfl, d, l, 8, rfl, D6, by decide, by decide, fun y H7 y0 y1 D7 o7 => ⟨rfl, .inr ⟨_, rfl, ?_⟩⟩⟩
    have e7 := o7 _ _ h6 n0.1 n0.2
    obtain ⟨tt, m, wd, hat, htt, m1, m2, w1, w2⟩ : ∃ tt m wd, atI [V.ref ta, V.ref tb] (if decide (V.int y = V.int 0) = true then 1 else 0) = some (.ref tt) ∧ H7 tt = some (.tup [.int m, .int wd]) ∧ 1 ≤ m ∧ m ≤ 12 ∧ 1 ≤ wd ∧ wd ≤ 10 ^ 10 := by
      by_cases c : y = 0
      · exact ⟨tb, 12, 10 ^ (10 : Int).toNat, by simp [c]; rfl, TS.out D6 o7 _ _ (s6 _ _ h5), by decide, by decide, by decide, by decide⟩
      · exact ⟨ta, 1 + x, 9, by simp [c]; rfl, TS.out D6 o7 _ _ ((s5.trans s6) _ _ h4), by omega, by omega, by decide, by decide⟩
    refine ⟨l0, _, _, .ref tt, rfl, rfl, SqL.of e7, hat, tt, _, rfl, SqT.of htt, rfl, _, _, rfl, _, _, rfl, rfl, ?_⟩
    have oo := o3.trans ((Out.of s46).trans o7)
    refine ⟨_, rfl, _, rfl, _, rfl, d, l, m, rfl, D7, m1, m2, fun b H8 r us as P8 pl hr8 D8 o8 => ?_⟩
    have nr := deal_new D7 hr8
    refine ⟨_, rfl, d, l, r, wd, b, us, as, rfl, D8, P8, nr.2, by omega, by omega, w1, w2, fun H9 p0 t1 t2 es1 es2 c1 c2 hp0 h1 h2 k1 k2 D9 o9 => ?_⟩
    refine ⟨p0, _, rfl, SqL.of hp0, rfl, _, _, rfl, _, _, rfl, rfl, ?_⟩
    refine ⟨_, rfl, _, rfl, _, rfl, d, l, b, t1, t2, c1, c2, es1, es2, rfl, D9, h1, h2, k1, k2, fun H10 p f hp fo D10 o10 => ?_⟩
    have oA := oo.trans (o8.trans (o9.trans o10))
    replace TA := fun v hv => (TA v hv).ts (TS.out DL.deal oA)
    replace DL := DL.out D10 oA
    replace h1 := h1.ts (TS.out D9 o10)
    replace h2 := h2.ts (TS.out D9 o10)
    refine ⟨_, rfl, .inl ⟨rfl, _, SqL.of DL.lst⟩, _, rfl, _, rfl, _, rfl, _, rfl, _, rfl, _, rfl, b, t1, t2, p, c1, c2, es1, es2, f, rfl, (AskA.mk h1 h2 hp k1 k2 fo), fun HD du r' br ws x sd Dd => ⟨by show 4 ≤ sizeLine; decide, fun t ht => ⟨lf, ts, _, rfl, rfl, (sd.trans (same_new ht _)) _ _ DL.lst, small1000 (by omega), ?_⟩⟩⟩
    have s9 := sd.trans (same_new ht (.tup [.ref t1, .ref t2, .ref p, .ref du]))
    have nv : AskedV (upd HD t (.tup [.ref t1, .ref t2, .ref p, .ref du])) (.ref t) := ⟨t, b, _, _, _, du, _, _, _, _, _, r', br, ws, x, rfl, upd_same, (AskA.mk h1 h2 hp k1 k2 fo).ts (.of s9), Dd.ts (.of (same_new ht _))⟩
    replace TA := fun u hu => (TA u hu).ts (.of s9)
    replace DL := DL.same s9
    replace h1 := h1.ts (.of s9)
    replace h2 := h2.ts (.of s9)
    replace hp := s9 _ _ hp
    generalize upd HD t (.tup [.ref t1, .ref t2, .ref p, .ref du]) = HX at s9 nv TA DL h1 h2 hp ⊢
    replace TA := AskedV.app DL TA nv
    replace h1 := h1.ts (TS.lst (ys := ts ++ [.ref t]) DL.lst)
    replace h2 := h2.ts (TS.lst (ys := ts ++ [.ref t]) DL.lst)
    replace hp := TS.lst (ys := ts ++ [.ref t]) DL.lst _ _ hp
    replace DL := DL.app (ts ++ [.ref t])
    generalize upd HX lf (.lst (ts ++ [.ref t])) = HZ at TA DL h1 h2 hp ⊢
    replace tl : (ts ++ [V.ref t]).length = 3 * i + 1 := by rw [List.length_append, tl]; rfl
    generalize ts ++ [V.ref t] = ts at TA DL tl ⊢
    refine ⟨_, rfl, .inl ⟨rfl, _, SqL.of DL.lst⟩, _, rfl, _, rfl, _, rfl, _, rfl, _, rfl, _, rfl, b, t2, t1, p, c2, c1, es2, es1, f, rfl, (AskA.mk h2 h1 hp k2 k1 fo), fun HD du r' br ws x sd Dd => ⟨by show 4 ≤ sizeLine; decide, fun t ht => ⟨lf, ts, _, rfl, rfl, (sd.trans (same_new ht _)) _ _ DL.lst, small1000 (by omega), ?_⟩⟩⟩
    have s9 := sd.trans (same_new ht (.tup [.ref t2, .ref t1, .ref p, .ref du]))
    have nv : AskedV (upd HD t (.tup [.ref t2, .ref t1, .ref p, .ref du])) (.ref t) := ⟨t, b, _, _, _, du, _, _, _, _, _, r', br, ws, x, rfl, upd_same, (AskA.mk h2 h1 hp k2 k1 fo).ts (.of s9), Dd.ts (.of (same_new ht _))⟩
    replace TA := fun u hu => (TA u hu).ts (.of s9)
    replace DL := DL.same s9
    replace h1 := h1.ts (.of s9)
    replace h2 := h2.ts (.of s9)
    replace hp := s9 _ _ hp
    generalize upd HD t (.tup [.ref t2, .ref t1, .ref p, .ref du]) = HX at s9 nv TA DL h1 h2 hp ⊢
    replace TA := AskedV.app DL TA nv
    replace h1 := h1.ts (TS.lst (ys := ts ++ [.ref t]) DL.lst)
    replace h2 := h2.ts (TS.lst (ys := ts ++ [.ref t]) DL.lst)
    replace hp := TS.lst (ys := ts ++ [.ref t]) DL.lst _ _ hp
    replace DL := DL.app (ts ++ [.ref t])
    generalize upd HX lf (.lst (ts ++ [.ref t])) = HZ at TA DL h1 h2 hp ⊢
    replace tl : (ts ++ [V.ref t]).length = 3 * i + 2 := by rw [List.length_append, tl]; rfl
    generalize ts ++ [V.ref t] = ts at TA DL tl ⊢
    refine ⟨_, rfl, .inl ⟨rfl, _, SqL.of DL.lst⟩, _, rfl, _, rfl, by show 2 ≤ sizeLine; decide, fun u1 hu1 => ?_⟩
    have z1 := same_new hu1 (.tup [.int 1, .int 1])
    have g1 : upd HZ u1 (.tup [.int 1, .int 1]) u1 = some (.tup [.int 1, .int 1]) := upd_same
    generalize upd HZ u1 (.tup [.int 1, .int 1]) = J1 at z1 g1 ⊢
    refine ⟨by show 2 ≤ sizeLine; decide, fun u2 hu2 => ?_⟩
    have z2 := same_new hu2 (.tup [.int 0, .int 1])
    have g2 : upd J1 u2 (.tup [.int 0, .int 1]) u2 = some (.tup [.int 0, .int 1]) := upd_same
    generalize upd J1 u2 (.tup [.int 0, .int 1]) = J2 at z2 g2 ⊢
    refine ⟨Nat.zero_le _, fun u3 hu3 => ?_⟩
    have z3 := same_new hu3 (.tup [])
    have g3 : upd J2 u3 (.tup []) u3 = some (.tup []) := upd_same
    generalize upd J2 u3 (.tup []) = J3 at z3 g3 ⊢
    refine ⟨by show 2 ≤ sizeLine; decide, fun u4 hu4 => ?_⟩
    have z4 := same_new hu4 (.tup [.int 1, .int 1])
    have g4 : upd J3 u4 (.tup [.int 1, .int 1]) u4 = some (.tup [.int 1, .int 1]) := upd_same
    generalize upd J3 u4 (.tup [.int 1, .int 1]) = J4 at z4 g4 ⊢
    refine ⟨by show 3 ≤ sizeLine; decide, fun u5 hu5 => ?_⟩
    have z5 := same_new hu5 (.tup [.ref u2, .ref u3, .ref u4])
    have g5 : upd J4 u5 (.tup [.ref u2, .ref u3, .ref u4]) u5 = some (.tup [.ref u2, .ref u3, .ref u4]) := upd_same
    generalize upd J4 u5 (.tup [.ref u2, .ref u3, .ref u4]) = J5 at z5 g5 ⊢
    refine ⟨by show 4 ≤ sizeLine; decide, fun u6 hu6 => ?_⟩
    have z6 := same_new hu6 (.tup [.ref t1, .ref t1, .ref u1, .ref u5])
    have zz := z1.trans (z2.trans (z3.trans (z4.trans (z5.trans z6))))
    have sr := self_rest k1
    have nv : AskedV (upd J5 u6 (.tup [.ref t1, .ref t1, .ref u1, .ref u5])) (.ref u6) := by
      refine ⟨u6, b, t1, t1, u1, u5, c1, c1, es1, es1, (1, 1), u2, u3, [], .ref u4, rfl, upd_same, ⟨h1.ts (.of zz), h1.ts (.of zz), (z2.trans (z3.trans (z4.trans (z5.trans z6)))) _ _ g1, k1, k1, one_ok⟩, z6 _ _ g5, ?_, (z4.trans (z5.trans z6)) _ _ g3, ?_, ?_⟩
      · rw [sr.1]; exact (z3.trans (z4.trans (z5.trans z6))) _ _ g2
      · rw [sr.2]; trivial
      · rw [self_fac k1]; exact ⟨u4, rfl, (z5.trans z6) _ _ g4⟩
    replace TA := fun u hu => (TA u hu).ts (.of zz)
    replace DL := DL.same zz
    generalize upd J5 u6 (.tup [.ref t1, .ref t1, .ref u1, .ref u5]) = J6 at nv TA DL ⊢
    refine ⟨lf, ts, _, rfl, rfl, DL.lst, small1000 (by omega), ?_⟩
    exact ⟨ts ++ [.ref u6], _, _, _, _, _, _, rfl, DL.app _, by rw [List.length_append, tl]; show 3 * i + 2 + 1 = 3 * (i + 1); omega, AskedV.app DL TA nv⟩
  · rintro σ H2 ⟨ts, v3, v4, v5, v6, v7, v8, rfl, DL, tl, TA⟩
    refine ⟨_, rfl, _, rfl, lf, ts, rfl, SqL.of DL.lst, fun l3 hl3 => ?_⟩
    have s3 := same_new hl3 (.lst ts.reverse)
    have h3 : upd H2 l3 (.lst ts.reverse) l3 = some (.lst ts.reverse) := upd_same
    generalize upd H2 l3 (.lst ts.reverse) = H3 at s3 h3 ⊢
    refine ⟨lf, l3, ts, ts.reverse, rfl, rfl, s3 _ _ DL.lst, h3, by rw [List.length_reverse]; exact Nat.le_of_lt (small1000 (by omega)), fun p4 hp4 => ?_⟩
    have s4 := same_new hp4 (.lst (ts ++ ts.reverse))
    have h4 : upd H3 p4 (.lst (ts ++ ts.reverse)) p4 = some (.lst (ts ++ ts.reverse)) := upd_same
    generalize upd H3 p4 (.lst (ts ++ ts.reverse)) = H4 at s4 h4 ⊢
    have TB : ∀ v ∈ ts ++ ts.reverse, AskedV H4 v := fun v hv => by
      rcases List.mem_append.mp hv with q | q
      · exact (TA v q).ts (.of (s3.trans s4))
      · exact (TA v (List.mem_reverse.mp q)).ts (.of (s3.trans s4))
    refine ⟨p4, rfl, ⟨_, SqL.of h4⟩, for_list (K := K) (a := p4) (xs := ts ++ ts.reverse) (fun i σ H5 => ∃ v6 v7 v8 v9, σ = [some (.ref a), some (.ref d), some (.ref lf), v3, v4, v5, v6, v7, v8, v9] ∧ Same H4 H5)
      ⟨_, _, _, _, rfl, Same.refl _⟩ (by rintro i σ H5 _ ⟨_, _, _, _, _, e⟩; exact SqL.of (e _ _ h4)) ?_ ?_⟩
    · rintro i v σ H5 hv ⟨v6, v7, v8, v9, rfl, s5⟩
      obtain ⟨t, b, t1, t2, p, du, c1, c2, es1, es2, f, r, br, ws, x, rfl, ht, A0, D0⟩ := (TB v (List.mem_of_getElem? hv)).ts (.of s5)
      have fs := frac_show A0.rest.1 A0.rest.2
      have bs := ans_show (b := b) A0.brk.1 A0.brk.2
      have os := opt_show A0.fac
      refine ⟨t, _, rfl, SqT.of ht, rfl, _, _, rfl, _, _, rfl, _, _, rfl, _, _, rfl, rfl, ?_⟩
      refine ⟨_, rfl, _, rfl, _, rfl, b, t1, t2, p, c1, c2, es1, es2, f, rfl, A0, fun H6 r6 s6 h6 => ?_⟩
      have D6 := D0.ts (.of s6)
      refine ⟨_, .ref r6, rfl, .inr ⟨_, rfl⟩, frac_rep h6, fs.1, fs.2.1, fs.2.2.1, fs.2.2.2, ?_⟩
      refine ⟨_, rfl, du, _, _, .ref r, rfl, rfl, SqT.of D6.h, rfl, _, .ref r, rfl, .inr ⟨_, rfl⟩, frac_rep D6.hr, fs.1, fs.2.1, fs.2.2.1, fs.2.2.2, rfl, _, rfl, ?_⟩
      refine iteN (by simp) ?_
      have A6 := A0.ts (.of s6)
      refine ⟨_, rfl, _, rfl, _, rfl, b, t1, t2, p, c1, c2, es1, es2, f, rfl, A6, fun H7 r7 ws7 s7 h7 tw7 => ?_⟩
      have D7 := D6.ts (.of s7)
      refine ⟨_, .ref r7, rfl, .inr ⟨_, rfl⟩, brk_rep h7 tw7, bs.1, bs.2.1, bs.2.2.1, bs.2.2.2, ?_⟩
      refine ⟨_, rfl, du, _, _, .ref br, rfl, rfl, SqT.of D7.h, rfl, _, .ref br, rfl, .inr ⟨_, rfl⟩, brk_rep D7.hb D7.tw, bs.1, bs.2.1, bs.2.2.1, bs.2.2.2, rfl, _, rfl, ?_⟩
      refine iteN (by simp) ?_
      have A7 := A6.ts (.of s7)
      refine ⟨_, rfl, _, rfl, b, t1, t2, c1, c2, es1, es2, rfl, A7.h1, A7.h2, A7.o1, A7.o2, fun H8 v8 s8 ov => ?_⟩
      have D8 := D7.ts (.of s8)
      refine ⟨_, v8, rfl, optv_ref ov, opt_rep ov, os.1, os.2.1, os.2.2.1, os.2.2.2, ?_⟩
      refine ⟨_, rfl, du, _, _, x, rfl, rfl, SqT.of D8.h, rfl, _, x, rfl, optv_ref D8.ov, opt_rep D8.ov, os.1, os.2.1, os.2.2.1, os.2.2.2, rfl, _, rfl, ?_⟩
      refine iteN (by simp) ?_
      exact ⟨_, _, _, _, rfl, s5.trans (s6.trans (s7.trans s8))⟩
    · rintro σ H5 ⟨v6, v7, v8, v9, rfl, s5⟩
      exact k _
end
end Mine
namespace Mine
open PySem L2
theorem all_mk {l : PySem.W.OpenLaw} {w : World} {K : PySem.W.Frag} {h : Heap} {mg : Str → Option Value} {fa f1 f2 f3 f4 f5 f6 f7 f8 f9 f10 f11 f12 f13 f14 f15 f16 f17 f18 f19 f20 f21 f22 f23 f24 : Addr} (X : K.In h) (G : h.Ns mainGlobals mg) (hfa : mg "law" = some (.ref fa))
    {od1 an1 od2 an2 od3 an3 od4 an4 od5 an5 od6 an6 od7 an7 od8 an8 od9 an9 od10 an10 od11 an11 od12 an12 od13 an13 od14 an14 od15 an15 od16 an16 od17 an17 od18 an18 od19 an19 od20 an20 od21 an21 od22 an22 od23 an23 od24 an24 : Option Addr} {sl1 sl2 sl3 sl4 sl5 sl6 sl7 sl8 sl9 sl10 sl11 sl12 sl13 sl14 sl15 sl16 sl17 sl18 sl19 sl20 sl21 sl22 sl23 sl24 : Array (Option Value)} {oc1 kV1 dc1 pm1 cd1 ct1 oc2 kV2 dc2 pm2 cd2 ct2 oc3 kV3 dc3 pm3 cd3 ct3 oc4 kV4 dc4 pm4 cd4 ct4 oc5 kV5 dc5 pm5 cd5 ct5 oc6 kV6 dc6 pm6 cd6 ct6 oc7 kV7 dc7 pm7 cd7 ct7 oc8 kV8 dc8 pm8 cd8 ct8 oc9 kV9 dc9 pm9 cd9 ct9 oc10 kV10 dc10 pm10 cd10 ct10 oc11 kV11 dc11 pm11 cd11 ct11 oc12 kV12 dc12 pm12 cd12 ct12 oc13 kV13 dc13 pm13 cd13 ct13 oc14 kV14 dc14 pm14 cd14 ct14 oc15 kV15 dc15 pm15 cd15 ct15 oc16 kV16 dc16 pm16 cd16 ct16 oc17 kV17 dc17 pm17 cd17 ct17 oc18 kV18 dc18 pm18 cd18 ct18 oc19 kV19 dc19 pm19 cd19 ct19 oc20 kV20 dc20 pm20 cd20 ct20 oc21 kV21 dc21 pm21 cd21 ct21 oc22 kV22 dc22 pm22 cd22 ct22 oc23 kV23 dc23 pm23 cd23 ct23 oc24 kV24 dc24 pm24 cd24 ct24 : Value}
    (a1 : PySem.W.nsIn K mainGlobals "common_divisor" = some (some (.ref f1))) (l1 : K.lookup f1 = some ⟨oc1, od1, .func (PySem.W.fnOf "common_divisor" "common_divisor" (defArgs sGcd) (defBody sGcd) (defScope sGcd) .none kV1 dc1 pm1 an1 cd1 ct1), sl1⟩) (c1 : PySem.W.codeIn K cd1 "common_divisor" = true) (k1 : PySem.W.keepIn K (.ref f1) = true)
    (a2 : PySem.W.nsIn K mainGlobals "lowest" = some (some (.ref f2))) (l2 : K.lookup f2 = some ⟨oc2, od2, .func (PySem.W.fnOf "lowest" "lowest" (defArgs sLow) (defBody sLow) (defScope sLow) .none kV2 dc2 pm2 an2 cd2 ct2), sl2⟩) (c2 : PySem.W.codeIn K cd2 "lowest" = true) (k2 : PySem.W.keepIn K (.ref f2) = true)
    (a3 : PySem.W.nsIn K mainGlobals "added" = some (some (.ref f3))) (l3 : K.lookup f3 = some ⟨oc3, od3, .func (PySem.W.fnOf "added" "added" (defArgs sAdd) (defBody sAdd) (defScope sAdd) .none kV3 dc3 pm3 an3 cd3 ct3), sl3⟩) (c3 : PySem.W.codeIn K cd3 "added" = true) (k3 : PySem.W.keepIn K (.ref f3) = true)
    (a4 : PySem.W.nsIn K mainGlobals "times" = some (some (.ref f4))) (l4 : K.lookup f4 = some ⟨oc4, od4, .func (PySem.W.fnOf "times" "times" (defArgs sTimes) (defBody sTimes) (defScope sTimes) .none kV4 dc4 pm4 an4 cd4 ct4), sl4⟩) (c4 : PySem.W.codeIn K cd4 "times" = true) (k4 : PySem.W.keepIn K (.ref f4) = true)
    (a5 : PySem.W.nsIn K mainGlobals "minus" = some (some (.ref f5))) (l5 : K.lookup f5 = some ⟨oc5, od5, .func (PySem.W.fnOf "minus" "minus" (defArgs sMinus) (defBody sMinus) (defScope sMinus) .none kV5 dc5 pm5 an5 cd5 ct5), sl5⟩) (c5 : PySem.W.codeIn K cd5 "minus" = true) (k5 : PySem.W.keepIn K (.ref f5) = true)
    (a6 : PySem.W.nsIn K mainGlobals "divided" = some (some (.ref f6))) (l6 : K.lookup f6 = some ⟨oc6, od6, .func (PySem.W.fnOf "divided" "divided" (defArgs sDivd) (defBody sDivd) (defScope sDivd) .none kV6 dc6 pm6 an6 cd6 ct6), sl6⟩) (c6 : PySem.W.codeIn K cd6 "divided" = true) (k6 : PySem.W.keepIn K (.ref f6) = true)
    (a7 : PySem.W.nsIn K mainGlobals "less" = some (some (.ref f7))) (l7 : K.lookup f7 = some ⟨oc7, od7, .func (PySem.W.fnOf "less" "less" (defArgs sLess) (defBody sLess) (defScope sLess) .none kV7 dc7 pm7 an7 cd7 ct7), sl7⟩) (c7 : PySem.W.codeIn K cd7 "less" = true) (k7 : PySem.W.keepIn K (.ref f7) = true)
    (a8 : PySem.W.nsIn K mainGlobals "come_to" = some (some (.ref f8))) (l8 : K.lookup f8 = some ⟨oc8, od8, .func (PySem.W.fnOf "come_to" "come_to" (defArgs sCome) (defBody sCome) (defScope sCome) .none kV8 dc8 pm8 an8 cd8 ct8), sl8⟩) (c8 : PySem.W.codeIn K cd8 "come_to" = true) (k8 : PySem.W.keepIn K (.ref f8) = true)
    (a9 : PySem.W.nsIn K mainGlobals "those_above" = some (some (.ref f9))) (l9 : K.lookup f9 = some ⟨oc9, od9, .func (PySem.W.fnOf "those_above" "those_above" (defArgs sAbv) (defBody sAbv) (defScope sAbv) .none kV9 dc9 pm9 an9 cd9 ct9), sl9⟩) (c9 : PySem.W.codeIn K cd9 "those_above" = true) (k9 : PySem.W.keepIn K (.ref f9) = true)
    (a10 : PySem.W.nsIn K mainGlobals "least_rest" = some (some (.ref f10))) (l10 : K.lookup f10 = some ⟨oc10, od10, .func (PySem.W.fnOf "least_rest" "least_rest" (defArgs sRest) (defBody sRest) (defScope sRest) .none kV10 dc10 pm10 an10 cd10 ct10), sl10⟩) (c10 : PySem.W.codeIn K cd10 "least_rest" = true) (k10 : PySem.W.keepIn K (.ref f10) = true)
    (a11 : PySem.W.nsIn K mainGlobals "breaking" = some (some (.ref f11))) (l11 : K.lookup f11 = some ⟨oc11, od11, .func (PySem.W.fnOf "breaking" "breaking" (defArgs sBrk) (defBody sBrk) (defScope sBrk) .none kV11 dc11 pm11 an11 cd11 ct11), sl11⟩) (c11 : PySem.W.codeIn K cd11 "breaking" = true) (k11 : PySem.W.keepIn K (.ref f11) = true)
    (a12 : PySem.W.nsIn K mainGlobals "least_factor" = some (some (.ref f12))) (l12 : K.lookup f12 = some ⟨oc12, od12, .func (PySem.W.fnOf "least_factor" "least_factor" (defArgs sLF) (defBody sLF) (defScope sLF) .none kV12 dc12 pm12 an12 cd12 ct12), sl12⟩) (c12 : PySem.W.codeIn K cd12 "least_factor" = true) (k12 : PySem.W.keepIn K (.ref f12) = true)
    (a13 : PySem.W.nsIn K mainGlobals "_law_deal" = some (some (.ref f13))) (l13 : K.lookup f13 = some ⟨oc13, od13, .func (PySem.W.fnOf "_law_deal" "_law_deal" (defArgs sDeal) (defBody sDeal) (defScope sDeal) .none kV13 dc13 pm13 an13 cd13 ct13), sl13⟩) (c13 : PySem.W.codeIn K cd13 "_law_deal" = true) (k13 : PySem.W.keepIn K (.ref f13) = true)
    (a14 : PySem.W.nsIn K mainGlobals "_law_draw" = some (some (.ref f14))) (l14 : K.lookup f14 = some ⟨oc14, od14, .func (PySem.W.fnOf "_law_draw" "_law_draw" (defArgs sDraw) (defBody sDraw) (defScope sDraw) .none kV14 dc14 pm14 an14 cd14 ct14), sl14⟩) (c14 : PySem.W.codeIn K cd14 "_law_draw" = true) (k14 : PySem.W.keepIn K (.ref f14) = true)
    (a15 : PySem.W.nsIn K mainGlobals "_law_lowest" = some (some (.ref f15))) (l15 : K.lookup f15 = some ⟨oc15, od15, .func (PySem.W.fnOf "_law_lowest" "_law_lowest" (defArgs sLLow) (defBody sLLow) (defScope sLLow) .none kV15 dc15 pm15 an15 cd15 ct15), sl15⟩) (c15 : PySem.W.codeIn K cd15 "_law_lowest" = true) (k15 : PySem.W.keepIn K (.ref f15) = true)
    (a16 : PySem.W.nsIn K mainGlobals "_law_pool" = some (some (.ref f16))) (l16 : K.lookup f16 = some ⟨oc16, od16, .func (PySem.W.fnOf "_law_pool" "_law_pool" (defArgs sPool) (defBody sPool) (defScope sPool) .none kV16 dc16 pm16 an16 cd16 ct16), sl16⟩) (c16 : PySem.W.codeIn K cd16 "_law_pool" = true) (k16 : PySem.W.keepIn K (.ref f16) = true)
    (a17 : PySem.W.nsIn K mainGlobals "_law_shares" = some (some (.ref f17))) (l17 : K.lookup f17 = some ⟨oc17, od17, .func (PySem.W.fnOf "_law_shares" "_law_shares" (defArgs sShs) (defBody sShs) (defScope sShs) .none kV17 dc17 pm17 an17 cd17 ct17), sl17⟩) (c17 : PySem.W.codeIn K cd17 "_law_shares" = true) (k17 : PySem.W.keepIn K (.ref f17) = true)
    (a18 : PySem.W.nsIn K mainGlobals "_law_two" = some (some (.ref f18))) (l18 : K.lookup f18 = some ⟨oc18, od18, .func (PySem.W.fnOf "_law_two" "_law_two" (defArgs sTwo) (defBody sTwo) (defScope sTwo) .none kV18 dc18 pm18 an18 cd18 ct18), sl18⟩) (c18 : PySem.W.codeIn K cd18 "_law_two" = true) (k18 : PySem.W.keepIn K (.ref f18) = true)
    (a19 : PySem.W.nsIn K mainGlobals "_law_plus" = some (some (.ref f19))) (l19 : K.lookup f19 = some ⟨oc19, od19, .func (PySem.W.fnOf "_law_plus" "_law_plus" (defArgs sPlus) (defBody sPlus) (defScope sPlus) .none kV19 dc19 pm19 an19 cd19 ct19), sl19⟩) (c19 : PySem.W.codeIn K cd19 "_law_plus" = true) (k19 : PySem.W.keepIn K (.ref f19) = true)
    (a20 : PySem.W.nsIn K mainGlobals "_law_below" = some (some (.ref f20))) (l20 : K.lookup f20 = some ⟨oc20, od20, .func (PySem.W.fnOf "_law_below" "_law_below" (defArgs sBlw) (defBody sBlw) (defScope sBlw) .none kV20 dc20 pm20 an20 cd20 ct20), sl20⟩) (c20 : PySem.W.codeIn K cd20 "_law_below" = true) (k20 : PySem.W.keepIn K (.ref f20) = true)
    (a21 : PySem.W.nsIn K mainGlobals "_law_times" = some (some (.ref f21))) (l21 : K.lookup f21 = some ⟨oc21, od21, .func (PySem.W.fnOf "_law_times" "_law_times" (defArgs sLTim) (defBody sLTim) (defScope sLTim) .none kV21 dc21 pm21 an21 cd21 ct21), sl21⟩) (c21 : PySem.W.codeIn K cd21 "_law_times" = true) (k21 : PySem.W.keepIn K (.ref f21) = true)
    (a22 : PySem.W.nsIn K mainGlobals "_law_factor" = some (some (.ref f22))) (l22 : K.lookup f22 = some ⟨oc22, od22, .func (PySem.W.fnOf "_law_factor" "_law_factor" (defArgs sFac) (defBody sFac) (defScope sFac) .none kV22 dc22 pm22 an22 cd22 ct22), sl22⟩) (c22 : PySem.W.codeIn K cd22 "_law_factor" = true) (k22 : PySem.W.keepIn K (.ref f22) = true)
    (a23 : PySem.W.nsIn K mainGlobals "_law_due" = some (some (.ref f23))) (l23 : K.lookup f23 = some ⟨oc23, od23, .func (PySem.W.fnOf "_law_due" "_law_due" (defArgs sDue) (defBody sDue) (defScope sDue) .none kV23 dc23 pm23 an23 cd23 ct23), sl23⟩) (c23 : PySem.W.codeIn K cd23 "_law_due" = true) (k23 : PySem.W.keepIn K (.ref f23) = true)
    (a24 : PySem.W.nsIn K mainGlobals "law" = some (some (.ref f24))) (l24 : K.lookup f24 = some ⟨oc24, od24, .func (PySem.W.fnOf "law" "law" (defArgs sLaw) (defBody sLaw) (defScope sLaw) .none kV24 dc24 pm24 an24 cd24 ct24), sl24⟩) (c24 : PySem.W.codeIn K cd24 "law" = true) (k24 : PySem.W.keepIn K (.ref f24) = true)
    (z_dict : PySem.W.nsIn K mainGlobals "dict" = some none)
    (z_tuple : PySem.W.nsIn K mainGlobals "tuple" = some none)
    (z_max : PySem.W.nsIn K mainGlobals "max" = some none)
    (z_list : PySem.W.nsIn K mainGlobals "list" = some none)
    (z_reversed : PySem.W.nsIn K mainGlobals "reversed" = some none)
    (z_len : PySem.W.nsIn K mainGlobals "len" = some none)
    (z_range : PySem.W.nsIn K mainGlobals "range" = some none)
    (z_sorted : PySem.W.nsIn K mainGlobals "sorted" = some none)
    (z_sum : PySem.W.nsIn K mainGlobals "sum" = some none)
    (z_zip : PySem.W.nsIn K mainGlobals "zip" = some none)
    (z_int : PySem.W.nsIn K mainGlobals "int" = some none)
    (z_repr : PySem.W.nsIn K mainGlobals "repr" = some none) :
    ∃ fd : FuncData, (∀ (s : Shared) (v : Value), BindsTo s fd ⟨[v], []⟩ [("_law_script", v)]) ∧ ∀ base : Heap, K.In base → base.Ns mainGlobals mg → FnOk l.prog w K mg base CX0 6 fa fd ["_law_script"] (spLaw K) := by
  have e := hfa.symm.trans (PySem.W.mg_of X G a24)
  cases e
  have F1 := fun_mk (st := sGcd) l1 c1 k1
  have b1 := F1.b2 (p1 := "one") (p2 := "other") fun _ _ _ _ _ _ _ _ => rfl
  have m1 := PySem.W.mg_of X G a1
  have F2 := fun_mk (st := sLow) l2 c2 k2
  have b2 := F2.b2 (p1 := "top") (p2 := "bottom") fun _ _ _ _ _ _ _ _ => rfl
  have m2 := PySem.W.mg_of X G a2
  have F3 := fun_mk (st := sAdd) l3 c3 k3
  have b3 := F3.b2 (p1 := "one") (p2 := "other") fun _ _ _ _ _ _ _ _ => rfl
  have m3 := PySem.W.mg_of X G a3
  have F4 := fun_mk (st := sTimes) l4 c4 k4
  have b4 := F4.b2 (p1 := "one") (p2 := "other") fun _ _ _ _ _ _ _ _ => rfl
  have m4 := PySem.W.mg_of X G a4
  have F5 := fun_mk (st := sMinus) l5 c5 k5
  have b5 := F5.b2 (p1 := "one") (p2 := "other") fun _ _ _ _ _ _ _ _ => rfl
  have m5 := PySem.W.mg_of X G a5
  have F6 := fun_mk (st := sDivd) l6 c6 k6
  have b6 := F6.b2 (p1 := "one") (p2 := "other") fun _ _ _ _ _ _ _ _ => rfl
  have m6 := PySem.W.mg_of X G a6
  have F7 := fun_mk (st := sLess) l7 c7 k7
  have b7 := F7.b2 (p1 := "one") (p2 := "other") fun _ _ _ _ _ _ _ _ => rfl
  have m7 := PySem.W.mg_of X G a7
  have F8 := fun_mk (st := sCome) l8 c8 k8
  have b8 := F8.b1 (p1 := "shares") fun _ _ _ _ _ _ _ => rfl
  have m8 := PySem.W.mg_of X G a8
  have F9 := fun_mk (st := sAbv) l9 c9 k9
  have b9 := F9.b3 (p1 := "one") (p2 := "other") (p3 := "factor") fun _ _ _ _ _ _ _ _ _ => rfl
  have m9 := PySem.W.mg_of X G a9
  have F10 := fun_mk (st := sRest) l10 c10 k10
  have b10 := F10.b3 (p1 := "one") (p2 := "other") (p3 := "factor") fun _ _ _ _ _ _ _ _ _ => rfl
  have m10 := PySem.W.mg_of X G a10
  have F11 := fun_mk (st := sBrk) l11 c11 k11
  have b11 := F11.b3 (p1 := "one") (p2 := "other") (p3 := "factor") fun _ _ _ _ _ _ _ _ _ => rfl
  have m11 := PySem.W.mg_of X G a11
  have F12 := fun_mk (st := sLF) l12 c12 k12
  have b12 := F12.b2 (p1 := "one") (p2 := "other") fun _ _ _ _ _ _ _ _ => rfl
  have m12 := PySem.W.mg_of X G a12
  have F13 := fun_mk (st := sDeal) l13 c13 k13
  have b13 := F13.b2 (p1 := "_law_script") (p2 := "_law_base") fun _ _ _ _ _ _ _ _ => rfl
  have m13 := PySem.W.mg_of X G a13
  have F14 := fun_mk (st := sDraw) l14 c14 k14
  have b14 := F14.b2 (p1 := "_law_deal_here") (p2 := "_law_many") fun _ _ _ _ _ _ _ _ => rfl
  have m14 := PySem.W.mg_of X G a14
  have F15 := fun_mk (st := sLLow) l15 c15 k15
  have b15 := F15.b2 (p1 := "_law_top") (p2 := "_law_bottom") fun _ _ _ _ _ _ _ _ => rfl
  have m15 := PySem.W.mg_of X G a15
  have F16 := fun_mk (st := sPool) l16 c16 k16
  have b16 := F16.b2 (p1 := "_law_deal_here") (p2 := "_law_many") fun _ _ _ _ _ _ _ _ => rfl
  have m16 := PySem.W.mg_of X G a16
  have F17 := fun_mk (st := sShs) l17 c17 k17
  have b17 := F17.b2 (p1 := "_law_answers") (p2 := "_law_weights") fun _ _ _ _ _ _ _ _ => rfl
  have m17 := PySem.W.mg_of X G a17
  have F18 := fun_mk (st := sTwo) l18 c18 k18
  have b18 := F18.b3 (p1 := "_law_deal_here") (p2 := "_law_pool_here") (p3 := "_law_wide") fun _ _ _ _ _ _ _ _ _ => rfl
  have m18 := PySem.W.mg_of X G a18
  have F19 := fun_mk (st := sPlus) l19 c19 k19
  have b19 := F19.b2 (p1 := "_law_one") (p2 := "_law_other") fun _ _ _ _ _ _ _ _ => rfl
  have m19 := PySem.W.mg_of X G a19
  have F20 := fun_mk (st := sBlw) l20 c20 k20
  have b20 := F20.b2 (p1 := "_law_one") (p2 := "_law_other") fun _ _ _ _ _ _ _ _ => rfl
  have m20 := PySem.W.mg_of X G a20
  have F21 := fun_mk (st := sLTim) l21 c21 k21
  have b21 := F21.b2 (p1 := "_law_one") (p2 := "_law_other") fun _ _ _ _ _ _ _ _ => rfl
  have m21 := PySem.W.mg_of X G a21
  have F22 := fun_mk (st := sFac) l22 c22 k22
  have b22 := F22.b3 (p1 := "_law_deal_here") (p2 := "_law_one") (p3 := "_law_other") fun _ _ _ _ _ _ _ _ _ => rfl
  have m22 := PySem.W.mg_of X G a22
  have F23 := fun_mk (st := sDue) l23 c23 k23
  have b23 := F23.b3 (p1 := "_law_one") (p2 := "_law_other") (p3 := "_law_factor_here") fun _ _ _ _ _ _ _ _ _ => rfl
  have m23 := PySem.W.mg_of X G a23
  have F24 := fun_mk (st := sLaw) l24 c24 k24
  have y_dict := PySem.W.mg_none_of X G z_dict
  have y_tuple := PySem.W.mg_none_of X G z_tuple
  have y_max := PySem.W.mg_none_of X G z_max
  have y_list := PySem.W.mg_none_of X G z_list
  have y_reversed := PySem.W.mg_none_of X G z_reversed
  have y_len := PySem.W.mg_none_of X G z_len
  have y_range := PySem.W.mg_none_of X G z_range
  have y_sorted := PySem.W.mg_none_of X G z_sorted
  have y_sum := PySem.W.mg_none_of X G z_sum
  have y_zip := PySem.W.mg_none_of X G z_zip
  have y_int := PySem.W.mg_none_of X G z_int
  have y_repr := PySem.W.mg_none_of X G z_repr
  refine ⟨PySem.W.fnOf "law" "law" (defArgs sLaw) (defBody sLaw) (defScope sLaw) .none kV24 dc24 pm24 an24 cd24 ct24, fun s v => .of_eq rfl, fun base _ _ => ?_⟩
  have G1 := ok_Gcd (P := l.prog) (w := w) (mg := mg) (base := base) F1  
  have G2 := ok_Low (P := l.prog) (w := w) (mg := mg) (base := base) F2 G1 b1 k1 m1 
  have G3 := ok_Add (P := l.prog) (w := w) (mg := mg) (base := base) F3 G2 b2 k2 m2 
  have G4 := ok_Times (P := l.prog) (w := w) (mg := mg) (base := base) F4 G2 b2 k2 m2 
  have G5 := ok_Minus (P := l.prog) (w := w) (mg := mg) (base := base) F5 G2 b2 k2 m2 
  have G6 := ok_Divd (P := l.prog) (w := w) (mg := mg) (base := base) F6 G2 b2 k2 m2 
  have G7 := ok_Less (P := l.prog) (w := w) (mg := mg) (base := base) F7  
  have G8 := ok_Come (P := l.prog) (w := w) (mg := mg) (base := base) F8 G3 b3 k3 m3 
  have G9 := ok_Abv (P := l.prog) (w := w) (mg := mg) (base := base) F9 G4 b4 k4 m4 G7 b7 k7 m7 y_dict
  have G10 := ok_Rest (P := l.prog) (w := w) (mg := mg) (base := base) F10 G8 b8 k8 m8 G5 b5 k5 m5 G9 b9 k9 m9 
  have G11 := ok_Brk (P := l.prog) (w := w) (mg := mg) (base := base) F11 G9 b9 k9 m9 y_tuple
  have G12 := ok_LF (P := l.prog) (w := w) (mg := mg) (base := base) F12 G6 b6 k6 m6 G7 b7 k7 m7 y_dict
  have G13 := ok_deal (P := l.prog) (w := w) (mg := mg) (base := base) F13 y_max y_reversed y_list
  have G14 := ok_draw (P := l.prog) (w := w) (mg := mg) (base := base) F14 y_len
  have G15 := ok_LLow (P := l.prog) (w := w) (mg := mg) (base := base) F15  
  have G16 := ok_Pool (P := l.prog) (w := w) (mg := mg) (base := base) F16 G14 b14 k14 m14 y_range y_sorted y_tuple
  have G17 := ok_Shs (P := l.prog) (w := w) (mg := mg) (base := base) F17 G15 b15 k15 m15 y_sum y_tuple y_zip
  have G18 := ok_Two (P := l.prog) (w := w) (mg := mg) (base := base) F18 G14 b14 k14 m14 G17 b17 k17 m17 y_range y_list y_len
  have G19 := ok_Plus (P := l.prog) (w := w) (mg := mg) (base := base) F19 G15 b15 k15 m15 
  have G20 := ok_Blw (P := l.prog) (w := w) (mg := mg) (base := base) F20  
  have G21 := ok_LTim (P := l.prog) (w := w) (mg := mg) (base := base) F21 G15 b15 k15 m15 
  have G22 := ok_Fac (P := l.prog) (w := w) (mg := mg) (base := base) F22 G15 b15 k15 m15 G14 b14 k14 m14 y_dict y_max y_len
  have G23 := ok_Due (P := l.prog) (w := w) (mg := mg) (base := base) F23 G21 b21 k21 m21 G20 b20 k20 m20 G19 b19 k19 m19 G15 b15 k15 m15 y_dict y_tuple y_int
  exact ok_Law F24 G13 b13 k13 m13 G18 b18 k18 m18 G22 b22 k22 m22 G16 b16 k16 m16 G23 b23 k23 m23 G10 b10 k10 m10 G14 b14 k14 m14 G11 b11 k11 m11 G12 b12 k12 m12 y_range y_list y_int y_reversed y_repr
theorem walk {l : PySem.W.OpenLaw} {q : Program} {loose : List Str} {XP : (Str → Option Value) → Heap → Prop} {YP : World → Heap → Prop} {d : DefRec} {K : Params → PySem.W.Frag} (hn : l.most = some 63) (hdf : d.params.defaults = [])
    (hY : ∀ (w : World) (h : Heap), YP w h → (K w.params).In h)
    (F : ∀ (w : World) (mg : Str → Option Value) (fa : Addr) (h : Heap), (K w.params).In h → h.Ns mainGlobals mg → mg d.name = some (.ref fa) →
      ∃ fd : FuncData, (∀ (s : Shared) (u : Value), BindsTo s fd ⟨[u], []⟩ [("_law_script", u)]) ∧ ∀ base : Heap, (K w.params).In base → base.Ns mainGlobals mg → FnOk l.prog w (K w.params) mg base CX0 6 fa fd ["_law_script"] (spLaw (K w.params))) :
    PySem.W.WalkO q loose XP YP l.row.toRowW d [] (fun f vs => PySem.call f vs) :=
  L2.walk_of (n := 63) (k := 6) (x := "_law_script") (CX := fun _ => CX0) (sp := fun w => spLaw (K w.params)) hn (by decide) hdf ⟨rfl, by decide, by decide, rfl⟩ hY F (fun _ _ a ns hl _ hS => ⟨a, ns, rfl, hS, hl, fun _ => rfl⟩) fun _ _ _ _ _ z => z
end Mine
open PySem PySem.W PyProof.Rows
set_option maxRecDepth 100000 in
set_option maxHeartbeats 0 in
theorem PySem.Challenge.cw_pairedthrows_k28_least_rests_and_factors_holds : PySem.Challenge.rw_pairedthrows_k28_least_rests_and_factors.Holds := by
  w_on; o_law; k_head; (case hw => w_witness2)
  k_fill
  refine Mine.walk (l := PySem.Challenge.rw_pairedthrows_k28_least_rests_and_factors) rfl rfl (fun w h Y => PySem.W.kIn_of Y) ?F
  case F =>
    intro w mg fa h KX G hmg
    refine' Mine.all_mk KX G hmg ?a1 ?l1 ?c1 ?k1 ?a2 ?l2 ?c2 ?k2 ?a3 ?l3 ?c3 ?k3 ?a4 ?l4 ?c4 ?k4 ?a5 ?l5 ?c5 ?k5 ?a6 ?l6 ?c6 ?k6 ?a7 ?l7 ?c7 ?k7 ?a8 ?l8 ?c8 ?k8 ?a9 ?l9 ?c9 ?k9 ?a10 ?l10 ?c10 ?k10 ?a11 ?l11 ?c11 ?k11 ?a12 ?l12 ?c12 ?k12 ?a13 ?l13 ?c13 ?k13 ?a14 ?l14 ?c14 ?k14 ?a15 ?l15 ?c15 ?k15 ?a16 ?l16 ?c16 ?k16 ?a17 ?l17 ?c17 ?k17 ?a18 ?l18 ?c18 ?k18 ?a19 ?l19 ?c19 ?k19 ?a20 ?l20 ?c20 ?k20 ?a21 ?l21 ?c21 ?k21 ?a22 ?l22 ?c22 ?k22 ?a23 ?l23 ?c23 ?k23 ?a24 ?l24 ?c24 ?k24 ?z_dict ?z_tuple ?z_max ?z_list ?z_reversed ?z_len ?z_range ?z_sorted ?z_sum ?z_zip ?z_int ?z_repr
    (case a1 => k_is); (case l1 => k_is); (case c1 => k_is); (case k1 => k_is); (case a2 => k_is); (case l2 => k_is)
    (case c2 => k_is); (case k2 => k_is); (case a3 => k_is); (case l3 => k_is); (case c3 => k_is); (case k3 => k_is)
    (case a4 => k_is); (case l4 => k_is); (case c4 => k_is); (case k4 => k_is); (case a5 => k_is); (case l5 => k_is)
    (case c5 => k_is); (case k5 => k_is); (case a6 => k_is); (case l6 => k_is); (case c6 => k_is); (case k6 => k_is)
    (case a7 => k_is); (case l7 => k_is); (case c7 => k_is); (case k7 => k_is); (case a8 => k_is); (case l8 => k_is)
    (case c8 => k_is); (case k8 => k_is); (case a9 => k_is); (case l9 => k_is); (case c9 => k_is); (case k9 => k_is)
    (case a10 => k_is); (case l10 => k_is); (case c10 => k_is); (case k10 => k_is); (case a11 => k_is); (case l11 => k_is)
    (case c11 => k_is); (case k11 => k_is); (case a12 => k_is); (case l12 => k_is); (case c12 => k_is); (case k12 => k_is)
    (case a13 => k_is); (case l13 => k_is); (case c13 => k_is); (case k13 => k_is); (case a14 => k_is); (case l14 => k_is)
    (case c14 => k_is); (case k14 => k_is); (case a15 => k_is); (case l15 => k_is); (case c15 => k_is); (case k15 => k_is)
    (case a16 => k_is); (case l16 => k_is); (case c16 => k_is); (case k16 => k_is); (case a17 => k_is); (case l17 => k_is)
    (case c17 => k_is); (case k17 => k_is); (case a18 => k_is); (case l18 => k_is); (case c18 => k_is); (case k18 => k_is)
    (case a19 => k_is); (case l19 => k_is); (case c19 => k_is); (case k19 => k_is); (case a20 => k_is); (case l20 => k_is)
    (case c20 => k_is); (case k20 => k_is); (case a21 => k_is); (case l21 => k_is); (case c21 => k_is); (case k21 => k_is)
    (case a22 => k_is); (case l22 => k_is); (case c22 => k_is); (case k22 => k_is); (case a23 => k_is); (case l23 => k_is)
    (case c23 => k_is); (case k23 => k_is); (case a24 => k_is); (case l24 => k_is); (case c24 => k_is); (case k24 => k_is)
    (case z_dict => k_is); (case z_tuple => k_is); (case z_max => k_is); (case z_list => k_is); (case z_reversed => k_is); (case z_len => k_is)
    (case z_range => k_is); (case z_sorted => k_is); (case z_sum => k_is); (case z_zip => k_is); (case z_int => k_is); (case z_repr => k_is)
