import PyProof.Rows.All
import Wide.All
import OpenK.AllK
import Wide.FinOn
import Lean
import PyProof.EqAt
import PyProof.EqKinds
import PyProof.TupleCall
import KE.KDictOf
import PyProof.AttrMissHeap
import KE.KSortTup
import PyProof.Rows.InDataRows
import KE.KRevSl
import PyProof.Rows.SetFrom
import PyProof.Rows.SortStr
import KE.KDictLaws
import PySem.Challenge.RW_pairedthrows_k36_needed_and_idle
set_option Elab.async false
set_option linter.all false
set_option maxRecDepth 100000
/-! THE HAND LAYER, for ints, bools, texts, own classes, DICTS (int and text keys), calls, loops. Paste it whole ahead of your own text; what your proof does not reach may be deleted. -/
namespace L2
open PySem PySem.Spec PyProof.Rows

/-- a key: an int or a str -/
abbrev Key := Sum Int Str
def keyIs : Key → Value → Bool
  | .inl k, v => Value.isInt k v
  | .inr x, v => Value.isStrOf x v
def keyH (w : World) : Key → Int
  | .inl k => hashInt k
  | .inr x => hashStr w x
theorem keyIs_shape : ∀ {k : Key} {v : Value}, keyIs k v = true → (∃ i t, k = Sum.inl i ∧ v = Value.int i t) ∨ (∃ x t, k = Sum.inr x ∧ v = Value.str x t)
  | .inl i, v, h => by
    obtain ⟨t, e⟩ := Value.isInt_shape (k := i) (v := v) h
    exact .inl ⟨i, t, rfl, e⟩
  | .inr x, v, h => by
    obtain ⟨t, e⟩ := Value.isStrOf_shape (x := x) (v := v) h
    exact .inr ⟨x, t, rfl, e⟩
theorem keyIs_int (i : Int) (t : Tok) : keyIs (.inl i) (.int i t) = true := by simp [keyIs, Value.isInt]
theorem keyIs_str (x : Str) (t : Tok) : keyIs (.inr x) (.str x t) = true := by simp [keyIs, Value.isStrOf]
theorem key_ll (a b : Int) : decide ((Sum.inl a : Key) = Sum.inl b) = (a == b) := by
  by_cases e : a = b
  · subst e; simp
  · have h : ¬ (Sum.inl a : Key) = Sum.inl b := fun q => e (Sum.inl.inj q)
    rw [decide_eq_false h]
    exact (beq_eq_false_iff_ne.mpr e).symm
theorem key_rr (a b : Str) : decide ((Sum.inr a : Key) = Sum.inr b) = decide (a = b) := by
  by_cases e : a = b
  · subst e; simp
  · have h : ¬ (Sum.inr a : Key) = Sum.inr b := fun q => e (Sum.inr.inj q)
    rw [decide_eq_false h, decide_eq_false e]
theorem key_lr (a : Int) (b : Str) : decide ((Sum.inl a : Key) = Sum.inr b) = false := decide_eq_false (fun q => nomatch q)
theorem key_rl (a : Str) (b : Int) : decide ((Sum.inr a : Key) = Sum.inl b) = false := decide_eq_false (fun q => nomatch q)

def mixKind (prog : Program) (w : World) : PySem.KeyKind prog w Key where
  is := keyIs
  hash := keyH w
  inj := fun v a b ha hb => by
    rcases keyIs_shape ha with ⟨i, t, rfl, rfl⟩ | ⟨x, t, rfl, rfl⟩
    · rcases keyIs_shape hb with ⟨j, u, rfl, e⟩ | ⟨y, u, rfl, e⟩
      · injection e with e1 _; rw [e1]
      · exact nomatch e
    · rcases keyIs_shape hb with ⟨j, u, rfl, e⟩ | ⟨y, u, rfl, e⟩
      · exact nomatch e
      · injection e with e1 _; rw [e1]
  byValue := fun k v h => by
    rcases keyIs_shape h with ⟨i, t, rfl, rfl⟩ | ⟨x, t, rfl, rfl⟩ <;> rfl
  pyHash := fun hv h => by
    rcases keyIs_shape hv with ⟨i, t, rfl, rfl⟩ | ⟨x, t, rfl, rfl⟩
    · exact wpAny_pyHash_int h
    · exact wpAny_pyHash_str h
  eqBool := fun hu hv h => by
    rcases keyIs_shape hu with ⟨i, t, rfl, rfl⟩ | ⟨x, t, rfl, rfl⟩
    · rcases keyIs_shape hv with ⟨j, u, rfl, rfl⟩ | ⟨y, u, rfl, rfl⟩
      · rw [key_ll] at h; exact wpAny_eqBool_int h
      · rw [key_lr] at h; exact SeqAt.EqAt.int_str i t y u _ _ _ _ h
    · rcases keyIs_shape hv with ⟨j, u, rfl, rfl⟩ | ⟨y, u, rfl, rfl⟩
      · rw [key_rl] at h; exact SeqAt.EqAt.str_int x t j u _ _ _ _ h
      · rw [key_rr] at h; exact wpAny_eqBool_str h
  «strs» := fun k x t v h => by
    rcases keyIs_shape h with ⟨i, u, rfl, e⟩ | ⟨y, u, rfl, e⟩
    · exact nomatch e
    · injection e with e1 _
      subst e1
      cases v <;> rfl

theorem mixKind_int (prog : Program) (w : World) (i : Int) (t : Tok) : (mixKind prog w).is (.inl i) (.int i t) = true := keyIs_int i t
theorem mixKind_str (prog : Program) (w : World) (x : Str) (t : Tok) : (mixKind prog w).is (.inr x) (.str x t) = true := keyIs_str x t
end L2

namespace L2
open PySem PySem.Spec PyProof.Rows

/-- a value, without the heap -/
inductive V where
  | non | bl (b : Bool) | int (i : Int) | str (x : Str) | byt (b : Array UInt8) | flt (b : UInt64) | ref (a : Addr) | ty (n : String)
  deriving DecidableEq

def RelV : V → Value → Prop
  | .non, u => u = Value.none
  | .bl b, u => u = Value.bool b
  | .int i, u => ∃ t, u = Value.int i t
  | .str x, u => ∃ t, u = Value.str x t
  | .byt b, u => ∃ t, u = Value.bytes b t
  | .flt b, u => ∃ t, u = Value.float b t
  | .ref a, u => u = Value.ref a
  | .ty n, u => u = Value.type n

abbrev Vals : List V → List Value → Prop := Paired RelV
theorem Vals.length {xs : List V} {us : List Value} (r : Vals xs us) : xs.length = us.length := Paired.length r
theorem Vals.get : ∀ {xs : List V} {us : List Value} {i : Nat} {x : V}, Vals xs us → xs[i]? = some x → ∃ u, us[i]? = some u ∧ RelV x u
  | _, _, _, _, .nil, e => by simp at e
  | _, _, 0, _, .cons r _, e => by simp at e; subst e; exact ⟨_, rfl, r⟩
  | _, _, i + 1, x, .cons _ t, e => by
    obtain ⟨u, h1, h2⟩ := Vals.get (i := i) (x := x) t (by simpa using e)
    exact ⟨u, by simpa using h1, h2⟩
theorem Vals.set {x : V} {u : Value} (r : RelV x u) : ∀ {xs : List V} {us : List Value} (i : Nat), Vals xs us → Vals (xs.set i x) (us.set i u)
  | _, _, _, .nil => .nil
  | _, _, 0, .cons _ t => .cons r t
  | _, _, i + 1, .cons q t => .cons q (Vals.set r i t)
theorem Vals.append : ∀ {xs ys : List V} {us ws : List Value}, Vals xs us → Vals ys ws → Vals (xs ++ ys) (us ++ ws)
  | _, _, _, _, .nil, s => s
  | _, _, _, _, .cons r t, s => .cons r (Vals.append t s)
theorem Vals.take : ∀ {xs : List V} {us : List Value} (n : Nat), Vals xs us → Vals (xs.take n) (us.take n)
  | _, _, 0, _ => .nil
  | _, _, _ + 1, .nil => .nil
  | _, _, n + 1, .cons r t => .cons r (Vals.take n t)
theorem Vals.drop : ∀ {xs : List V} {us : List Value} (n : Nat), Vals xs us → Vals (xs.drop n) (us.drop n)
  | _, _, 0, r => r
  | _, _, _ + 1, .nil => .nil
  | _, _, n + 1, .cons _ t => Vals.drop n t
theorem Vals.none_of : ∀ {xs : List V} {us : List Value} {i : Nat}, Vals xs us → xs[i]? = none → us[i]? = none := fun {xs us i} r e => by
  have h1 := r.length
  have h2 : xs.length ≤ i := List.getElem?_eq_none_iff.mp e
  exact List.getElem?_eq_none_iff.mpr (by omega)

def RelO : Option V → Option Value → Prop
  | some v, some u => RelV v u
  | none, none => True
  | _, _ => False
def KV {κ : Type} : List (κ × V) → List (κ × Value) → Prop := Paired fun (p : κ × V) (q : κ × Value) => p.1 = q.1 ∧ RelV p.2 q.2

/-- a key of a dict (00_mix): an int or a text -/
def kV : Key → V
  | .inl i => .int i
  | .inr x => .str x

/-- what stands at a tracked address -/
inductive HO where
  /-- a list -/
  | lst (xs : List V)
  /-- a tuple (never changes) -/
  | tup (xs : List V)
  /-- a dict whose keys are ints and texts; one whose keys are tuples of ints and texts (the empty one is both) -/
  | dK (kvs : List (Key × V)) | dT (kvs : List (List Key × V))
  /-- a set of ints: its members, its size -/
  | set (S : Int → Bool) (n : Nat)
  /-- an instance of the class at C, its dict at dx, its attributes -/
  | ins (C dx : Addr) (fs : List (Str × V))
  /-- the dict of the instance at x -/
  | own (x : Addr)
  /-- the dict of an exception -/
  | xd (fs : List (Str × V))
  /-- a bound method, f of x -/
  | met (f x : Addr)
  /-- a range object lo, lo + 1, .. below hi -/
  | rng (lo hi : Int)
  /-- a thing that is known to the object (the script; a dict while a loop walks it): read, never written while it is so -/
  | frz (o : Obj) (u : HO)
  /-- a code object's table -/
  | tbl (ps : Array Value)
  /-- any other thing, by what is true of its one object (a def of one's own: SetO a S n := HO.ext fun h => ..) -/
  | ext (φ : Heap → Prop)

abbrev Hp := Addr → Option HO
def upd (H : Hp) (a : Addr) (o : HO) : Hp := fun b => if b = a then some o else H b
theorem upd_same {H : Hp} {a : Addr} {o : HO} : upd H a o a = some o := by unfold upd; rw [if_pos rfl]
theorem upd_ne {H : Hp} {a b : Addr} {o : HO} (h : b ≠ a) : upd H a o b = H b := by unfold upd; rw [if_neg h]
theorem upd_upd {H : Hp} {a : Addr} {o u : HO} : upd (upd H a o) a u = upd H a u := by
  funext b; unfold upd; split <;> rfl
/-- two objects of different content stand apart -/
theorem ne_of {H : Hp} {a b : Addr} {o u : HO} (h : H a = some o) (h' : H b = some u) (d : o ≠ u) : a ≠ b := by
  intro e; subst e; rw [h] at h'; exact d (Option.some.inj h')
theorem ne_of_none {H : Hp} {a b : Addr} {o : HO} (h : H a = some o) (h' : H b = none) : a ≠ b := by
  intro e; subst e; rw [h] at h'; cases h'

/-- a tuple without a dict -/
def IsTupD (h : Heap) (a : Addr) (its : Array Value) : Prop := ∃ o, h.get? a = some o ∧ o.cls = .type "tuple" ∧ ∃ n, o.data = .seq its n ∧ o.dict = none
theorem IsTupD.is {h : Heap} {a : Addr} {its : Array Value} (x : IsTupD h a its) : IsTup h a its := let ⟨o, e, c, n, d, _⟩ := x; ⟨o, e, c, n, d⟩
theorem IsTupD.new (h : Heap) (its : Array Value) : IsTupD (h.push { cls := .type "tuple", data := .seq its }) h.objs.size its := ⟨_, Heap.get?_push_size _ rfl, rfl, _, rfl, rfl⟩
section
variable (P : Program) (w : World)
def ObjOk (H : Hp) (h : Heap) (a : Addr) : HO → Prop
  | .lst xs => xs.length ≤ sizeLine ∧ ∃ (its : List Value) (n : Nat), Vals xs its ∧ h.get? a = some { cls := .type "list", data := .seq its.toArray n }
  | .tup xs => xs.length ≤ sizeLine ∧ ∃ its : List Value, Vals xs its ∧ IsTupD h a its.toArray
  | .dK kvs => kvs.length ≤ sizeLine ∧ (a == sysModules) = false ∧ ∃ vs, KV kvs vs ∧ h.DictOf (mixKind P w) a vs
  | .dT kvs => kvs.length ≤ sizeLine ∧ (a == sysModules) = false ∧ ∃ xs : List (List Key × Addr × Value),
      Paired (fun (p : List Key × V) (q : List Key × Addr × Value) => p.1 = q.1 ∧ H q.2.1 = some (.tup (p.1.map kV)) ∧ RelV p.2 q.2.2) kvs xs ∧
      ∃ o es ep, h.get? a = some o ∧ o.ExactDict ∧ o.data = .dict es ep ∧ es.toList = xs.map (entryOfKey (tupleKind (mixKind P w))) ∧ (xs.map (·.1)).Nodup
  | .set S n => h.SetOf (intKind P w) a S n
  | .ins C dx fs => H dx = some (.own a) ∧ fs.length ≤ 1000 ∧ dx ≠ a ∧ h.get? a = some (PySem.W.instObj C dx) ∧
      ∃ mA, h.Ns1 dx mA ∧ (∀ f, RelO (fs.lookup f) (mA f)) ∧ PySem.Within mA (fs.map (·.1))
  | .own _ => ∃ o, h.get? a = some o
  | .xd fs => ∃ mA, h.Ns1 a mA ∧ ∀ f, RelO (fs.lookup f) (mA f)
  | .rng lo hi => ∃ t u v, h.get? a = some { cls := .type "range", data := .fields #[.int lo t, .int hi u, .int 1 v] }
  | .frz o u => h.get? a = some o ∧ ObjOk H h a u
  | .tbl ps => h.get? a = some { cls := .none, data := .fields ps }
  | .met f x => h.get? a = some (PySem.W.methodObj (.ref f) (.ref x))
  | .ext φ => φ h ∧ (∃ o, h.get? a = some o) ∧ ∀ h1 h2 : Heap, φ h1 → (∀ o, h1.get? a = some o → h2.get? a = some o) → φ h2
/-- the abstract heap is held -/
def HOk (H : Hp) (h : Heap) : Prop := ∀ a o, H a = some o → ObjOk P w H h a o
end

section
variable {P : Program} {w : World} {H H' : Hp} {h h' : Heap} {a : Addr} {o : HO}
theorem ObjOk.lt (x : ObjOk P w H h a o) : a < h.objs.size := by
  cases o with
  | lst xs => obtain ⟨_, _, _, _, e⟩ := x; exact Heap.lt_size e
  | tup xs => obtain ⟨_, _, _, p⟩ := x; exact p.is.lt
  | dK kvs => obtain ⟨_, _, _, _, o, _, _, e, _⟩ := x; exact Heap.lt_size e
  | dT kvs => obtain ⟨_, _, _, _, o, _, _, e, _⟩ := x; exact Heap.lt_size e
  | set S n => obtain ⟨o, _, _, _, e, _⟩ := x; exact Heap.lt_size e
  | ins C dx fs => obtain ⟨_, _, _, e, _⟩ := x; exact Heap.lt_size e
  | own y => obtain ⟨_, e⟩ := x; exact Heap.lt_size e
  | xd fs => obtain ⟨_, ⟨_, _, _, e, _⟩, _⟩ := x; exact Heap.lt_size e
  | rng lo hi => obtain ⟨_, _, _, e⟩ := x; exact Heap.lt_size e
  | frz ob u => obtain ⟨e, _⟩ := x; exact Heap.lt_size e
  | tbl ps => exact Heap.lt_size (show h.get? a = some _ from x)
  | met f y => exact Heap.lt_size (show h.get? a = some _ from x)
  | ext φ => obtain ⟨_, ⟨_, e⟩, _⟩ := x; exact Heap.lt_size e
theorem Paired.mapP {α β : Type} {F G : α → β → Prop} : ∀ {l₁ : List α} {l₂ : List β}, Paired F l₁ l₂ → (∀ a b, F a b → G a b) → Paired G l₁ l₂
  | _, _, .nil, _ => .nil
  | _, _, .cons r t, f => .cons (f _ _ r) (Paired.mapP t f)
/-- what an object's description leans on: its own object, its own dict, the tuples -/
theorem ObjOk.stay (x : ObjOk P w H h a o) (k : ∀ b u, (b = a ∨ H b = some (.own a)) → h.get? b = some u → h'.get? b = some u)
    (ho : ∀ b, H b = some (.own a) → H' b = some (.own a)) (ht : ∀ b xs, H b = some (.tup xs) → H' b = some (.tup xs)) : ObjOk P w H' h' a o := by
  induction o with
  | lst xs => obtain ⟨z, its, n, r, e⟩ := x; exact ⟨z, its, n, r, k _ _ (.inl rfl) e⟩
  | tup xs => obtain ⟨z, its, r, ob, e, c⟩ := x; exact ⟨z, its, r, ob, k _ _ (.inl rfl) e, c⟩
  | dK kvs => obtain ⟨z, y, vs, r, ob, es, ep, e, c⟩ := x; exact ⟨z, y, vs, r, ob, es, ep, k _ _ (.inl rfl) e, c⟩
  | dT kvs =>
    obtain ⟨z, y, xs, r, ob, es, ep, e, c⟩ := x
    exact ⟨z, y, xs, Paired.mapP r fun p q z => ⟨z.1, ht _ _ z.2.1, z.2.2⟩, ob, es, ep, k _ _ (.inl rfl) e, c⟩
  | set S n => obtain ⟨ob, es, ep, t, e, c⟩ := x; exact ⟨ob, es, ep, t, k _ _ (.inl rfl) e, c⟩
  | ins C dx fs =>
    obtain ⟨d, z, ne, e, mA, ⟨od, es, ep, e2, c⟩, r⟩ := x
    exact ⟨ho _ d, z, ne, k _ _ (.inl rfl) e, mA, ⟨od, es, ep, k _ _ (.inr d) e2, c⟩, r⟩
  | own y => obtain ⟨ob, e⟩ := x; exact ⟨ob, k _ _ (.inl rfl) e⟩
  | xd fs => obtain ⟨mA, ⟨od, es, ep, e, c⟩, r⟩ := x; exact ⟨mA, ⟨od, es, ep, k _ _ (.inl rfl) e, c⟩, r⟩
  | rng lo hi => obtain ⟨t, u, v, e⟩ := x; exact ⟨t, u, v, k _ _ (.inl rfl) e⟩
  | frz ob u ih => obtain ⟨e, q⟩ := x; exact ⟨k _ _ (.inl rfl) e, ih q⟩
  | tbl ps =>
    have e : h.get? a = some { cls := .none, data := .fields ps } := x
    show h'.get? a = some { cls := .none, data := .fields ps }
    exact k a _ (.inl rfl) e
  | met f y =>
    have e : h.get? a = some (PySem.W.methodObj (.ref f) (.ref y)) := x
    show h'.get? a = some (PySem.W.methodObj (.ref f) (.ref y))
    exact k a _ (.inl rfl) e
  | ext φ => obtain ⟨p, ⟨o, e⟩, st⟩ := x; exact ⟨st _ _ p fun o q => k _ _ (.inl rfl) q, ⟨o, k _ _ (.inl rfl) e⟩, st⟩
theorem HOk.lt (x : HOk P w H h) (e : H a = some o) : a < h.objs.size := (x a o e).lt
theorem HOk.fresh (x : HOk P w H h) (e : h.objs.size ≤ a) : H a = none := by
  cases q : H a with
  | none => rfl
  | some u => exact absurd (Nat.lt_of_lt_of_le (x.lt q) e) (Nat.lt_irrefl _)
/-- every object of the heap is kept -/
theorem HOk.kept (x : HOk P w H h) (k : ∀ b u, h.get? b = some u → h'.get? b = some u) : HOk P w H h' := fun a o e =>
  (x a o e).stay (fun b u _ q => k b u q) (fun _ q => q) fun _ _ q => q
/-- a new object is laid and tracked -/
theorem HOk.laid (x : HOk P w H h) (k : ∀ b u, h.get? b = some u → h'.get? b = some u) (hp : h.objs.size ≤ a) (new : ObjOk P w (upd H a o) h' a o) : HOk P w (upd H a o) h' := fun b u e => by
  have hn := x.fresh hp
  by_cases hb : b = a
  · subst hb; rw [upd_same] at e; cases e; exact new
  · rw [upd_ne hb] at e
    exact (x b u e).stay (fun c v _ q => k c v q) (fun c q => by rw [upd_ne (ne_of_none q hn)]; exact q) fun c xs q => by rw [upd_ne (ne_of_none q hn)]; exact q
end

/-- what may be read as u: it is u, or a known u -/
def Rd (H : Hp) (a : Addr) (u : HO) : Prop := H a = some u ∨ ∃ o, H a = some (.frz o u)
theorem Rd.of {H : Hp} {a : Addr} {u : HO} (h : H a = some u) : Rd H a u := .inl h
theorem Rd.ok {P : Program} {w : World} {H : Hp} {h : Heap} {a : Addr} {u : HO} (r : Rd H a u) (x : HOk P w H h) : ObjOk P w H h a u := by
  rcases r with r | ⟨o, r⟩
  · exact x a u r
  · obtain ⟨_, q⟩ := x a _ r
    exact q
/-- what may be written -/
def Mut : Option HO → Prop
  | some (.lst _) => True
  | some (.dK _) => True
  | some (.dT _) => True
  | some (.set _ _) => True
  | some (.ins _ _ _) => True
  | some (.ext _) => True
  | _ => False
section
variable {P : Program} {w : World} {H : Hp} {h h' : Heap} {x e : Addr} {o' : HO}
/-- the object at e is changed: x itself, or the dict of the instance x -/
theorem HOk.write (ok : HOk P w H h) (mu : Mut (H x)) (he : e = x ∨ H e = some (.own x)) (k : ∀ b u, b ≠ e → h.get? b = some u → h'.get? b = some u) (heo : ∃ u, h'.get? e = some u)
    (new : ObjOk P w (upd H x o') h' x o') : HOk P w (upd H x o') h' := fun b u q => by
  have nown : ∀ c y, H c = some (.own y) → c ≠ x := fun c y r z => by subst z; rw [r] at mu; exact mu
  have ntup : ∀ c xs, H c = some (.tup xs) → c ≠ x := fun c xs r z => by subst z; rw [r] at mu; exact mu
  by_cases hb : b = x
  · subst hb; rw [upd_same] at q; cases q; exact new
  · rw [upd_ne hb] at q
    by_cases hbe : b = e
    · have q' : H b = some (.own x) := by
        rcases he with z | z
        · exact absurd (hbe.trans z) hb
        · rw [hbe]; exact z
      rw [q] at q'; cases q'
      obtain ⟨v, hv⟩ := heo
      exact ⟨v, by rw [hbe]; exact hv⟩
    · refine (ok b u q).stay (fun c v hc r => k c v ?_ r) (fun c r => by rw [upd_ne (nown c b r)]; exact r) fun c xs r => by rw [upd_ne (ntup c xs r)]; exact r
      rcases hc with rfl | hc
      · exact hbe
      · rintro rfl
        rcases he with z | z
        · exact nown c b hc z
        · rw [hc] at z; cases z; exact hb rfl
end

/-! ### kept unless tracked; of the frames at fs (the callers') the slots may change (an exception that passes writes there); of the records at ex (iterators) nothing is said -/
structure Un (fs ex : List Addr) (H H' : Hp) (h h' : Heap) : Prop where
  keep : ∀ b o, h.get? b = some o → H b = none → b ∉ fs → b ∉ ex → h'.get? b = some o
  slot : ∀ b o, h.get? b = some o → H b = none → b ∈ fs → b ∉ ex → ∃ sl, h'.get? b = some { o with slots := sl }
  free : ∀ b o, h.get? b = some o → H b = none → b ∉ ex → H' b = none
  there : ∀ b o, h.get? b = some o → b ∉ ex → ∃ o', h'.get? b = some o'
  tups : ∀ b xs, H b = some (.tup xs) → H' b = some (.tup xs)
  frzs : ∀ b o u, H b = some (.frz o u) → H' b = some (.frz o u)
  tbls : ∀ b ps, H b = some (.tbl ps) → ∃ more, H' b = some (.tbl (ps ++ more))
section
variable {fs fs' ex ex' : List Addr} {H H1 H2 : Hp} {h h1 h2 h' : Heap} {a x e : Addr} {o : HO}
theorem Un.any (u : Un fs ex H H1 h h1) {b : Addr} {ob : Obj} (q : h.get? b = some ob) (n : H b = none) (hx : b ∉ ex) : ∃ sl, h1.get? b = some { ob with slots := sl } := by
  by_cases hb : b ∈ fs
  · exact u.slot b ob q n hb hx
  · exact ⟨ob.slots, u.keep b ob q n hb hx⟩
theorem Un.trans (a : Un fs ex H H1 h h1) (b : Un fs ex H1 H2 h1 h2) : Un fs ex H H2 h h2 where
  keep := fun c ob q n hc hx => b.keep c ob (a.keep c ob q n hc hx) (a.free c ob q n hx) hc hx
  slot := fun c ob q n hc hx => by
    obtain ⟨sl, e1⟩ := a.slot c ob q n hc hx
    obtain ⟨sl', e2⟩ := b.slot c _ e1 (a.free c ob q n hx) hc hx
    exact ⟨sl', e2⟩
  free := fun c ob q n hx => by
    obtain ⟨o', e1⟩ := a.there c ob q hx
    exact b.free c o' e1 (a.free c ob q n hx) hx
  there := fun c ob q hx => by
    obtain ⟨o', e1⟩ := a.there c ob q hx
    exact b.there c o' e1 hx
  tups := fun c xs q => b.tups c xs (a.tups c xs q)
  frzs := fun c ob xs q => b.frzs c ob xs (a.frzs c ob xs q)
  tbls := fun c ps q => by
    obtain ⟨m1, e1⟩ := a.tbls c ps q
    obtain ⟨m2, e2⟩ := b.tbls c _ e1
    exact ⟨m1 ++ m2, by rw [e2, Array.append_assoc]⟩
theorem Un.kept (k : ∀ b u, h.get? b = some u → h'.get? b = some u) : Un fs ex H H h h' :=
  ⟨fun b ob q _ _ _ => k b ob q, fun b ob q _ _ _ => ⟨ob.slots, k b ob q⟩, fun _ _ _ n _ => n, fun b ob q _ => ⟨ob, k b ob q⟩, fun _ _ q => q, fun _ _ _ q => q, fun _ ps q => ⟨#[], by rw [q]; simp⟩⟩
theorem Un.refl : Un fs ex H H h h := Un.kept fun _ _ q => q
theorem Un.laid (k : ∀ b u, h.get? b = some u → h'.get? b = some u) (hp : h.objs.size ≤ a) (hn : H a = none) : Un fs ex H (upd H a o) h h' where
  keep := fun b u q _ _ _ => k b u q
  slot := fun b u q _ _ _ => ⟨u.slots, k b u q⟩
  free := fun b u q n _ => by rw [upd_ne (Nat.ne_of_lt (Nat.lt_of_lt_of_le (Heap.lt_size q) hp))]; exact n
  there := fun b u q _ => ⟨u, k b u q⟩
  tups := fun b xs q => by rw [upd_ne (ne_of_none q hn)]; exact q
  frzs := fun b u xs q => by rw [upd_ne (ne_of_none q hn)]; exact q
  tbls := fun b ps q => ⟨#[], by rw [upd_ne (ne_of_none q hn), q]; simp⟩
theorem Un.write (mu : Mut (H x)) (he : e = x ∨ H e = some (.own x)) (k : ∀ b u, b ≠ e → h.get? b = some u → h'.get? b = some u) (heo : ∃ u, h'.get? e = some u) : Un fs ex H (upd H x o) h h' := by
  have hx : ∀ b, H b = none → b ≠ x := fun b n z => by subst z; rw [n] at mu; exact mu
  have hb : ∀ b, H b = none → b ≠ e := fun b n z => by
    subst z
    rcases he with r | r
    · exact hx b n r
    · rw [n] at r; cases r
  have hm : ∀ b u, H b = some u → ¬ Mut (some u) → b ≠ x := fun b u q nm z => by subst z; rw [q] at mu; exact nm mu
  refine ⟨fun b u q n _ _ => k b u (hb b n) q, fun b u q n _ _ => ⟨u.slots, k b u (hb b n) q⟩, fun b u q n _ => by rw [upd_ne (hx b n)]; exact n, fun b u q _ => ?_,
    fun b xs q => by rw [upd_ne (hm b _ q fun z => z)]; exact q, fun b u xs q => by rw [upd_ne (hm b _ q fun z => z)]; exact q, fun b ps q => ⟨#[], by rw [upd_ne (hm b _ q fun z => z), q]; simp⟩⟩
  by_cases hbe : b = e
  · subst hbe; exact heo
  · exact ⟨u, k b u hbe q⟩
theorem Un.mono (u : Un fs ex H H1 h h1) (hs : ∀ b ∈ fs, b ∈ fs') (hx : ∀ b ∈ ex, b ∈ ex') : Un fs' ex' H H1 h h1 :=
  ⟨fun b ob q n hb he => u.keep b ob q n (fun z => hb (hs b z)) fun z => he (hx b z), fun _ _ q n _ he => u.any q n fun z => he (hx _ z), fun b ob q n he => u.free b ob q n fun z => he (hx b z), fun b ob q he => u.there b ob q fun z => he (hx b z), u.tups, u.frzs, u.tbls⟩
end

/-! ### the heap without what is tracked -/
def trk (h : Heap) (H : Hp) : List Addr := (List.range h.objs.size).filter fun a => (H a).isSome
def hidT (h : Heap) (H : Hp) : Heap := PySem.W.hideAll h (trk h H)
theorem hidT_size (h : Heap) (H : Hp) : (hidT h H).objs.size = h.objs.size := PySem.W.hideAll_size _ _
theorem hidT_get {h : Heap} {H : Hp} {b : Addr} {o : Obj} (e : h.get? b = some o) (n : H b = none) : (hidT h H).get? b = some o :=
  PySem.W.hideAll_get _ e fun hm => by
    have q : (H b).isSome = true := (List.mem_filter.mp hm).2
    rw [n] at q; simp at q
theorem of_hidT {h : Heap} {H : Hp} {b : Addr} {o : Obj} (e : (hidT h H).get? b = some o) : h.get? b = some o ∧ H b = none := by
  have e' : h.get? b = some o := PySem.W.of_hideAll (trk h H) e
  refine ⟨e', ?_⟩
  cases q : H b with
  | none => rfl
  | some x =>
    have hm : b ∈ trk h H := List.mem_filter.mpr ⟨List.mem_range.mpr (Heap.lt_size e'), by simp [q]⟩
    have z : (hidT h H).get? b = none := PySem.W.hideAll_none (trk h H) hm
    rw [z] at e; cases e

/-! ### OpenK's ledger, filled with every new object but one -/
def allNews (g h : Heap) (L : Addr) : List (Addr × Obj) := (List.range h.objs.size).filterMap fun a => if a = L ∨ (g.get? a).isSome = true then none else (h.get? a).map fun o => (a, o)
def rest (g h : Heap) (L d : Addr) : List (Addr × Obj) := (allNews g h L).filter fun p => decide (p.1 ≠ d)
end L2

namespace L2
open PySem PySem.Spec PyProof.Rows

/-- the module's facts, over the base: the heap at the law's entry without what is tracked there -/
structure Mod (K : PySem.W.Frag) (mg : Str → Option Value) (base : Heap) : Prop where
  kin : K.In base
  glob : base.Ns mainGlobals mg
  blt : ∃ mb, base.Ns builtinsNs mb ∧ ∀ x : Str, x ≠ "__name__" → mb x = bootBuiltins x
  nolimit : base.NoLimit

/-- the context: a def's body (or a comprehension's block) running. base: fixed through the whole law; s₀, H₀: the entry; outer: the frames whose slots others may change (a def's callers); stack: all frames that run;
   ex: iterators that were made ahead of the entry and are walked here (a comprehension's); fn: the names whose cells were made at the entry (a def: all; a comprehension's block: its own); calm: not within an except suite; pn: pins that every state bears; xe: what is wanted of an exception that leaves the code -/
structure Cx where
  prog : Program
  w : World
  K : PySem.W.Frag
  mg : Str → Option Value
  base : Heap
  A : Around
  N : List Str
  s₀ : Shared
  H₀ : Hp
  env : Env
  outer : List Env
  stack : List Env
  ex : List Addr
  fn : Str → Bool
  calm : Bool
  pn : List (Addr × Obj)
  xe : Value → Shared → Prop
/-- the callers' frames -/
def frs (l : List Env) : List Addr := l.filterMap (·.frame)
abbrev Cx.fs (X : Cx) : List Addr := frs X.outer

def Vis (sc : Scope) (x : Str) : Prop := sc.names.lookup x = some .local ∨ sc.names.lookup x = some .cell ∨ sc.names.lookup x = some .free
def Loc (sc : Scope) (x : Str) : Prop := sc.names.lookup x = some .local ∨ sc.names.lookup x = some .cell
def Look (env : Env) (h : Heap) (m : Str → Option Value) (x : Str) (u : Value) : Prop :=
  (env.kindOf x = some .local ∧ m x = some u) ∨ ((env.kindOf x = some .cell ∨ env.kindOf x = some .free) ∧ ∃ c, env.cells.lookup x = some c ∧ h.IsCell c (some u))

structure Cx.Ok (X : Cx) : Prop where
  mod : Mod X.K X.mg X.base
  kind : X.env.scope.kind = .function
  glob : X.env.globals = mainGlobals
  blt : X.env.builtins = builtinsNs
  above : X.s₀.heap.objs.size ≤ X.env.locals
  inj : ∀ x y c, X.env.cells.lookup x = some c → X.env.cells.lookup y = some c → x = y
  has : ∀ x, (X.env.kindOf x = some .cell ∨ X.env.kindOf x = some .free) → ∃ c, X.env.cells.lookup x = some c
  cab : ∀ x c, X.fn x = true → X.env.cells.lookup x = some c → X.s₀.heap.objs.size ≤ c
  hd : X.calm = true → X.A.handled = none
  frames : X.A.frames = some X.stack
  stk : X.stack = X.outer ∨ (X.stack = X.env :: X.outer ∧ X.env.frame = some X.env.locals)
  exf : ∀ b ∈ X.ex, b ≠ X.env.locals ∧ ∀ x c, X.env.cells.lookup x = some c → c ≠ b
  bs : ∀ b o, X.base.get? b = some o → X.s₀.heap.get? b = some o ∧ X.H₀ b = none
  bsz : X.base.objs.size ≤ X.s₀.heap.objs.size
  noex : ∀ b o, X.base.get? b = some o → b ∉ X.ex
  exfs : ∀ b ∈ X.ex, b ∉ X.fs
  funs : X.s₀.heap.FunFrames X.base X.outer
  frf : ∀ b ∈ X.fs, X.H₀ b = none

structure Inv (X : Cx) (pins : List (Addr × Obj)) (σ : List (Option V)) (H : Hp) (s : Shared) : Prop where
  ok : X.Ok
  os : s.os = X.s₀.os
  bare : AllBare s.gens
  base : Un X.fs X.ex X.H₀ H X.s₀.heap s.heap
  loc : ∃ m, s.heap.Ns X.env.locals m ∧ ∀ (i : Nat) (x : Str) (v : V), X.N[i]? = some x → σ[i]? = some (some v) → Vis X.env.scope x → ∃ u, RelV v u ∧ Look X.env s.heap m x u
  cell : ∀ x c, X.env.cells.lookup x = some c → ∃ v, s.heap.IsCell c v
  free : H X.env.locals = none
  freeC : ∀ x c, X.env.cells.lookup x = some c → H c = none
  pin : ∀ p ∈ X.pn ++ pins, s.heap.get? p.1 = some p.2 ∧ H p.1 = none ∧ p.1 ≠ X.env.locals ∧ p.1 ∉ X.fs ∧ ∀ v, p.2.data ≠ .cell v
  hok : HOk X.prog X.w H s.heap
  len : σ.length = X.N.length

section
variable {X : Cx} {pins : List (Addr × Obj)} {σ : List (Option V)} {H H' : Hp} {s : Shared} {h' : Heap}

theorem Cx.Ok.nofr (ok : X.Ok) {b : Addr} {o : Obj} (e : X.base.get? b = some o) : b ∉ X.fs := fun hb => by
  have := (ok.funs.mem hb).1
  rw [e] at this; cases this
theorem Inv.bs (I : Inv X pins σ H s) : ∀ b o, X.base.get? b = some o → s.heap.get? b = some o ∧ H b = none := fun b o e =>
  ⟨I.base.keep b o (I.ok.bs b o e).1 (I.ok.bs b o e).2 (I.ok.nofr e) (I.ok.noex b o e), I.base.free b o (I.ok.bs b o e).1 (I.ok.bs b o e).2 (I.ok.noex b o e)⟩
theorem Inv.bk (I : Inv X pins σ H s) : ∀ b o, X.base.get? b = some o → s.heap.get? b = some o := fun b o e => (I.bs b o e).1
theorem Inv.mod (I : Inv X pins σ H s) : Mod X.K X.mg X.base := I.ok.mod
theorem Inv.kIn (I : Inv X pins σ H s) : X.K.In s.heap := I.ok.mod.kin.keeps I.bk
theorem Inv.nolimit (I : Inv X pins σ H s) : s.heap.NoLimit := I.ok.mod.nolimit.keeps I.bk
/-- the frame over the base: for OpenK's rules (K.In X.base is I.mod.kin) -/
theorem Inv.fr (I : Inv X pins σ H s) : ∃ m, Fr X.base X.env.locals s.heap m :=
  let ⟨m, hn, _⟩ := I.loc
  ⟨m, hn, I.bk, Nat.le_trans I.ok.bsz I.ok.above⟩
theorem Inv.lt (I : Inv X pins σ H s) : X.env.locals < s.heap.objs.size := let ⟨_, hn, _⟩ := I.loc; hn.lt
theorem Inv.sz (I : Inv X pins σ H s) : X.s₀.heap.objs.size ≤ s.heap.objs.size := Nat.le_trans I.ok.above (Nat.le_of_lt I.lt)
theorem Inv.nofs (I : Inv X pins σ H s) {a : Addr} (h : s.heap.objs.size ≤ a) : a ∉ X.fs := fun hb => by
  obtain ⟨_, o, ho, _⟩ := I.ok.funs.mem hb
  exact absurd (Nat.lt_of_lt_of_le (Heap.lt_size ho) (Nat.le_trans I.sz h)) (Nat.lt_irrefl _)
theorem Inv.cne (I : Inv X pins σ H s) : ∀ x c, X.env.cells.lookup x = some c → c ≠ X.env.locals := fun x c e z => by
  obtain ⟨v, o, ho, hd⟩ := I.cell x c e
  obtain ⟨m, ⟨o', es, ep, ho', hd', _⟩, _⟩ := I.loc
  rw [z, ho'] at ho; cases ho; rw [hd'] at hd; cases hd
theorem Inv.funs (I : Inv X pins σ H s) : s.heap.FunFrames X.base X.outer := by
  have all : ∀ (l : List Env), (∀ b ∈ frs l, b ∈ X.fs) → X.s₀.heap.FunFrames X.base l → s.heap.FunFrames X.base l := by
    intro l
    induction l with
    | nil => intro _ _; trivial
    | cons env r ih =>
      intro hs hl
      obtain ⟨hk, ⟨L, o, hf, hn, ho, hd⟩, hr⟩ := hl
      have hL : L ∈ X.fs := hs L (by unfold frs; rw [List.filterMap_cons, hf]; exact List.mem_cons_self)
      obtain ⟨sl, e⟩ := I.base.slot L o ho (I.ok.frf L hL) hL fun z => I.ok.exfs L z hL
      exact ⟨hk, ⟨L, _, hf, hn, e, hd⟩, ih (fun b hb => hs b (by unfold frs; rw [List.filterMap_cons, hf]; exact List.mem_cons_of_mem _ hb)) hr⟩
  exact all X.outer (fun _ hb => hb) I.ok.funs

/-- the frames that run, for a call -/
theorem Inv.stack (I : Inv X pins σ H s) : s.heap.FunFrames X.base X.stack := by
  rcases I.ok.stk with e | ⟨e, hf⟩
  · rw [e]; exact I.funs
  · rw [e]
    obtain ⟨m, hn, _⟩ := I.loc
    refine .cons (by rw [I.ok.kind]; decide) hf hn ?_ I.funs
    exact Heap.get?_none_of_le (Nat.le_trans I.ok.bsz I.ok.above)
theorem Inv.stkSub (I : Inv X pins σ H s) : ∀ b ∈ frs X.stack, b ∈ X.env.locals :: X.fs := fun b hb => by
  rcases I.ok.stk with e | ⟨e, hf⟩
  · rw [e] at hb; exact List.mem_cons_of_mem _ hb
  · rw [e] at hb
    unfold frs at hb
    rw [List.filterMap_cons, hf] at hb
    exact hb
theorem Inv.stkFree (I : Inv X pins σ H s) : ∀ b ∈ frs X.stack, H b = none := fun b hb => by
  rcases List.mem_cons.mp (I.stkSub b hb) with e | hb
  · rw [e]; exact I.free
  · obtain ⟨_, o, ho, _⟩ := I.ok.funs.mem hb
    exact I.base.free b o ho (I.ok.frf b hb) fun z => I.ok.exfs b z hb

/-- THE STEP: the untracked objects but the frame and the records at ch are kept (the callers' frames up to slots), the frame's map is kept, the new abstract heap is held -/
theorem Inv.step {g' : Array GenState} {t' : Nat} {d' : Drawn} {ch : List Addr} (I : Inv X pins σ H s)
    (hch : ∀ b ∈ ch, (b ∈ X.ex ∨ X.s₀.heap.objs.size ≤ b) ∧ b ≠ X.env.locals ∧ (∀ x c, X.env.cells.lookup x = some c → c ≠ b) ∧ ∀ p ∈ X.pn ++ pins, p.1 ≠ b)
    (keep : ∀ b o, b ≠ X.env.locals → b ∉ X.fs → b ∉ ch → s.heap.get? b = some o → H b = none → h'.get? b = some o)
    (slot : ∀ b o, b ≠ X.env.locals → b ∈ X.fs → b ∉ ch → s.heap.get? b = some o → H b = none → ∃ sl, h'.get? b = some { o with slots := sl }) (free : ∀ b o, b ∉ ch → s.heap.get? b = some o → H b = none → H' b = none)
    (there : ∀ b o, b ∉ ch → s.heap.get? b = some o → ∃ o', h'.get? b = some o')
    (tups : ∀ b xs, H b = some (.tup xs) → H' b = some (.tup xs)) (frzs : ∀ b o u, H b = some (.frz o u) → H' b = some (.frz o u)) (tbls : ∀ b ps, H b = some (.tbl ps) → ∃ more, H' b = some (.tbl (ps ++ more)))
    (ns : ∀ m, s.heap.Ns X.env.locals m → h'.Ns X.env.locals m) (hok : HOk X.prog X.w H' h') (hg : AllBare g') :
    Inv X pins σ H' { s with heap := h', gens := g', drawn := d', toks := t' } := by
  have neL : ∀ b o, X.s₀.heap.get? b = some o → b ≠ X.env.locals := fun b o e => Nat.ne_of_lt (Nat.lt_of_lt_of_le (Heap.lt_size e) I.ok.above)
  have neC : ∀ b o, X.s₀.heap.get? b = some o → b ∉ X.ex → b ∉ ch := fun b o e hx hb => by
    rcases (hch b hb).1 with z | z
    · exact hx z
    · exact absurd (Nat.lt_of_lt_of_le (Heap.lt_size e) z) (Nat.lt_irrefl _)
  have cellK : ∀ x c, X.env.cells.lookup x = some c → ∀ v, s.heap.IsCell c v → h'.IsCell c v := fun x c e v ⟨o, ho, hd⟩ => by
    have nch : c ∉ ch := fun z => (hch c z).2.2.1 x c e rfl
    by_cases hc : c ∈ X.fs
    · obtain ⟨sl, q⟩ := slot c o (I.cne x c e) hc nch ho (I.freeC x c e)
      exact ⟨_, q, hd⟩
    · exact ⟨o, keep c o (I.cne x c e) hc nch ho (I.freeC x c e), hd⟩
  refine ⟨I.ok, I.os, hg, ⟨fun b o e n hb hx => ?_, fun b o e n hb hx => ?_, fun b o e n hx => ?_, fun b o e hx => ?_, fun b xs e => tups b xs (I.base.tups b xs e), fun b o xs e => frzs b o xs (I.base.frzs b o xs e), fun b ps e => ?_⟩, ?_, fun x c e => ?_, ?_, fun x c e => ?_, fun p hp => ?_, hok, I.len⟩
  · exact keep b o (neL b o e) hb (neC b o e hx) (I.base.keep b o e n hb hx) (I.base.free b o e n hx)
  · obtain ⟨sl, e1⟩ := I.base.slot b o e n hb hx
    obtain ⟨sl', e2⟩ := slot b _ (neL b o e) hb (neC b o e hx) e1 (I.base.free b o e n hx)
    exact ⟨sl', e2⟩
  · obtain ⟨o', e1⟩ := I.base.there b o e hx
    exact free b o' (neC b o e hx) e1 (I.base.free b o e n hx)
  · obtain ⟨o', e1⟩ := I.base.there b o e hx
    exact there b o' (neC b o e hx) e1
  · obtain ⟨m1, e1⟩ := I.base.tbls b ps e
    obtain ⟨m2, e2⟩ := tbls b _ e1
    exact ⟨m1 ++ m2, by rw [e2, Array.append_assoc]⟩
  · obtain ⟨m, hn, hl⟩ := I.loc
    refine ⟨m, ns m hn, fun i x v e1 e2 e3 => ?_⟩
    obtain ⟨u, r, l⟩ := hl i x v e1 e2 e3
    refine ⟨u, r, ?_⟩
    rcases l with l | ⟨k, c, e, z⟩
    · exact .inl l
    · exact .inr ⟨k, c, e, cellK x c e _ z⟩
  · obtain ⟨v, z⟩ := I.cell x c e
    exact ⟨v, cellK x c e v z⟩
  · obtain ⟨m, ⟨o, _, _, ho, _⟩, _⟩ := I.loc
    exact free _ o (fun z => (hch _ z).2.1 rfl) ho I.free
  · obtain ⟨v, o, ho, hd⟩ := I.cell x c e
    exact free c o (fun z => (hch c z).2.2.1 x c e rfl) ho (I.freeC x c e)
  · obtain ⟨e, n, ne, nf, d⟩ := I.pin p hp
    have nch : p.1 ∉ ch := fun z => (hch p.1 z).2.2.2 p hp rfl
    exact ⟨keep p.1 p.2 ne nf nch e n, free p.1 p.2 nch e n, ne, nf, d⟩
/-- .. where the frame's own object is kept too -/
theorem Inv.un {t' : Nat} (I : Inv X pins σ H s) (u : Un X.fs [] H H' s.heap h') (hok : HOk X.prog X.w H' h') : Inv X pins σ H' { s with heap := h', toks := t' } := by
  obtain ⟨m, ⟨o, es, ep, ho, r⟩, _⟩ := id I.loc
  obtain ⟨sl, hL⟩ := u.any ho I.free (by simp)
  exact I.step (g' := s.gens) (d' := s.drawn) (ch := []) (fun _ z => nomatch z) (fun b o _ hb _ e n => u.keep b o e n hb (by simp)) (fun b o _ hb _ e n => u.slot b o e n hb (by simp)) (fun b o _ e n => u.free b o e n (by simp)) (fun b o _ e => u.there b o e (by simp)) u.tups u.frzs u.tbls (fun m' hm => by
    obtain ⟨o', es', ep', ho', r'⟩ := hm
    rw [ho] at ho'; cases ho'
    exact ⟨_, es', ep', hL, r'⟩) hok I.bare
/-- behind a call (or a comprehension's block): the slots of this frame may have changed too, the records at ch may have turned -/
theorem Inv.call {g' : Array GenState} {t' : Nat} {d' : Drawn} {ch : List Addr} (I : Inv X pins σ H s) (u : Un (frs X.stack) ch H H' s.heap h') (hok : HOk X.prog X.w H' h') (hg : AllBare g')
    (hch : ∀ b ∈ ch, (b ∈ X.ex ∨ X.s₀.heap.objs.size ≤ b) ∧ b ≠ X.env.locals ∧ (∀ x c, X.env.cells.lookup x = some c → c ≠ b) ∧ ∀ p ∈ X.pn ++ pins, p.1 ≠ b) :
    Inv X pins σ H' { s with heap := h', gens := g', drawn := d', toks := t' } := by
  obtain ⟨m, ⟨o, es, ep, ho, r⟩, _⟩ := id I.loc
  obtain ⟨sl, hL⟩ := u.any ho I.free fun z => (hch _ z).2.1 rfl
  exact I.step (ch := ch) hch (fun b o hL hb hc e n => u.keep b o e n (fun z => (List.mem_cons.mp (I.stkSub b z)).elim hL hb) hc) (fun b o _ _ hc e n => u.any e n hc) (fun b o hc e n => u.free b o e n hc) (fun b o hc e => u.there b o e hc) u.tups u.frzs u.tbls (fun m' hm => by
    obtain ⟨o', es', ep', ho', r'⟩ := hm
    rw [ho] at ho'; cases ho'
    exact ⟨_, es', ep', hL, r'⟩) hok hg
/-- an untracked record of ours (an iterator) has turned -/
theorem Inv.turned {t' : Nat} {it : Addr} (I : Inv X pins σ H s) (k : ∀ b o, b ≠ it → s.heap.get? b = some o → h'.get? b = some o) (hn : H it = none) (hL : it ≠ X.env.locals)
    (h1 : it ∈ X.ex ∨ X.s₀.heap.objs.size ≤ it) (h2 : ∀ x c, X.env.cells.lookup x = some c → c ≠ it) (h3 : ∀ p ∈ X.pn ++ pins, p.1 ≠ it) : Inv X pins σ H { s with heap := h', toks := t' } := by
  have nit : ∀ b u, H b = some u → b ≠ it := fun b u e z => by rw [z, hn] at e; cases e
  refine I.step (g' := s.gens) (d' := s.drawn) (ch := [it]) (fun b hb => ?_) (fun b o _ _ hc e _ => k b o (fun z => hc (by simp [z])) e) (fun b o _ _ hc e _ => ⟨o.slots, k b o (fun z => hc (by simp [z])) e⟩) (fun _ _ _ _ n => n)
    (fun b o hc e => ⟨o, k b o (fun z => hc (by simp [z])) e⟩) (fun _ _ e => e) (fun _ _ _ e => e) (fun b ps e => ⟨#[], by rw [e]; simp⟩) (fun m hm => ?_) (fun b u e => ?_) I.bare
  · have e : b = it := by simpa using hb
    subst e
    exact ⟨h1, hL, h2, h3⟩
  · obtain ⟨o, es, ep, ho, r⟩ := hm
    exact ⟨o, es, ep, k _ o (Ne.symm hL) ho, r⟩
  · refine (I.hok b u e).stay (fun c v hc q => k c v ?_ q) (fun _ q => q) fun _ _ q => q
    rcases hc with z | z
    · rw [z]; exact nit b u e
    · exact nit c _ z
theorem Inv.tok (I : Inv X pins σ H s) (t : Nat) : Inv X pins σ H { s with toks := t } := I.un (h' := s.heap) (t' := t) Un.refl I.hok
/-- all objects kept -/
theorem Inv.kept {t' : Nat} (I : Inv X pins σ H s) (k : ∀ b u, s.heap.get? b = some u → h'.get? b = some u) : Inv X pins σ H { s with heap := h', toks := t' } := I.un (Un.kept k) (I.hok.kept k)
/-- a new object laid and tracked -/
theorem Inv.laid {a : Addr} {o : HO} {t' : Nat} (I : Inv X pins σ H s) (k : ∀ b u, s.heap.get? b = some u → h'.get? b = some u) (hp : s.heap.objs.size ≤ a) (new : ObjOk X.prog X.w (upd H a o) h' a o) :
    Inv X pins σ (upd H a o) { s with heap := h', toks := t' } := I.un (Un.laid k hp (I.hok.fresh hp)) (I.hok.laid k hp new)
/-- an object written -/
theorem Inv.write {x e : Addr} {o : HO} {t' : Nat} (I : Inv X pins σ H s) (mu : Mut (H x)) (he : e = x ∨ H e = some (.own x)) (k : ∀ b u, b ≠ e → s.heap.get? b = some u → h'.get? b = some u) (heo : ∃ u, h'.get? e = some u)
    (new : ObjOk X.prog X.w (upd H x o) h' x o) : Inv X pins σ (upd H x o) { s with heap := h', toks := t' } := I.un (Un.write mu he k heo) (I.hok.write mu he k heo new)
theorem Inv.pins_of {pins' : List (Addr × Obj)} (I : Inv X pins σ H s) (h : ∀ p ∈ pins', s.heap.get? p.1 = some p.2 ∧ H p.1 = none ∧ p.1 ≠ X.env.locals ∧ p.1 ∉ X.fs ∧ ∀ v, p.2.data ≠ .cell v) : Inv X pins' σ H s :=
  ⟨I.ok, I.os, I.bare, I.base, I.loc, I.cell, I.free, I.freeC, fun p hp => (List.mem_append.mp hp).elim (fun z => I.pin p (List.mem_append_left _ z)) (h p), I.hok, I.len⟩

theorem nodup_ix {N : List Str} (hN : N.Nodup) {i j : Nat} {x : Str} (a : N[i]? = some x) (b : N[j]? = some x) : i = j := by
  obtain ⟨h1, e1⟩ := List.getElem?_eq_some_iff.mp a
  obtain ⟨h2, e2⟩ := List.getElem?_eq_some_iff.mp b
  exact (List.getElem_inj hN).mp (e1.trans e2.symm)

/-- a name is stored; what changed -/
theorem store_ok2 {M : Model} {A : Around} {E : Value → Shared → Prop} {i : Nat} {x : Str} {v : V} {u : Value} {Q : Unit → Shared → Prop} (I : Inv X pins σ H s) (hN : X.N.Nodup) (hi : X.N[i]? = some x) (hx : Loc X.env.scope x) (r : RelV v u)
    (h : ∀ s', Inv X pins (σ.set i (some v)) H s' → (∃ a, Heap.SameBut a s.heap s'.heap ∧ (a = X.env.locals ∨ X.env.cells.lookup x = some a)) → Q () s') (hf : X.fn x = true ∨ X.env.scope.names.lookup x = some .local := by first | exact .inl rfl | exact .inr rfl | assumption) : wpAny M A (storeName X.env x u) Q E s := by
  obtain ⟨m, hn, hl⟩ := id I.loc
  have hcls : (X.env.scope.kind == .class || (X.env.scope.kind == .module && X.env.locals != X.env.globals)) = false := by rw [I.ok.kind]; rfl
  have hiσ : i < σ.length := by rw [I.len]; exact (List.getElem?_eq_some_iff.mp hi).1
  have cne := I.cne
  have tracked : ∀ {a : Addr} {h' : Heap}, (∃ o, s.heap.get? a = some o ∧ H a = none) → Heap.SameBut a s.heap h' → HOk X.prog X.w H h' := fun {a h'} ha hs b ob e => by
    obtain ⟨_, _, hfree⟩ := ha
    refine (I.hok b ob e).stay (fun c w' hc q => (hs.2 c ?_).trans q) (fun _ q => q) fun _ _ q => q
    rintro rfl
    rcases hc with rfl | hc
    · rw [hfree] at e; cases e
    · rw [hfree] at hc; cases hc
  rcases hx with hk | hk
  · refine wpAny_storeName_local hk hn (fun h' hn' hs => ?_) hcls
    obtain ⟨oL, _, _, hoL, _⟩ := id hn
    refine h _ ⟨I.ok, I.os, I.bare, ⟨fun b o e n hb hx => ?_, fun b o e n hb hx => ?_, I.base.free, fun b o e hx => ?_, I.base.tups, I.base.frzs, I.base.tbls⟩, ⟨_, hn', fun j y v' e1 e2 e3 => ?_⟩, fun y c e => ?_, I.free, I.freeC, fun p hp => ?_, tracked ⟨oL, hoL, I.free⟩ hs, by simpa using I.len⟩ ⟨_, hs, .inl rfl⟩
    · exact (hs.2 b (Nat.ne_of_lt (Nat.lt_of_lt_of_le (Heap.lt_size e) I.ok.above))).trans (I.base.keep b o e n hb hx)
    · obtain ⟨sl, e1⟩ := I.base.slot b o e n hb hx
      exact ⟨sl, (hs.2 b (Nat.ne_of_lt (Nat.lt_of_lt_of_le (Heap.lt_size e) I.ok.above))).trans e1⟩
    · obtain ⟨o', e1⟩ := I.base.there b o e hx
      exact ⟨o', (hs.2 b (Nat.ne_of_lt (Nat.lt_of_lt_of_le (Heap.lt_size e) I.ok.above))).trans e1⟩
    · by_cases hj : j = i
      · subst hj
        rw [hi] at e1; cases e1
        rw [List.getElem?_set_self hiσ] at e2
        cases e2
        exact ⟨u, r, .inl ⟨hk, by simp⟩⟩
      · rw [List.getElem?_set_ne (Ne.symm hj)] at e2
        obtain ⟨u', r', q⟩ := hl j y v' e1 e2 e3
        refine ⟨u', r', ?_⟩
        rcases q with ⟨k, e⟩ | ⟨k, c, e, z⟩
        · refine .inl ⟨k, ?_⟩
          have : y ≠ x := fun e => hj (nodup_ix hN e1 (e ▸ hi))
          simp [this, e]
        · exact .inr ⟨k, c, e, z.sameBut hs (cne y c e)⟩
    · obtain ⟨w', z⟩ := I.cell y c e
      exact ⟨w', z.sameBut hs (cne y c e)⟩
    · obtain ⟨e, n, ne, nf, d⟩ := I.pin p hp
      exact ⟨(hs.2 p.1 ne).trans e, n, ne, nf, d⟩
  · have hfn : X.fn x = true := by
      rcases hf with z | z
      · exact z
      · rw [z] at hk; cases hk
    obtain ⟨c, hc⟩ := I.ok.has x (.inl hk)
    obtain ⟨w', z⟩ := I.cell x c hc
    refine wpAny_storeName_cell I.ok.kind hk hc z (fun h' hc' hs => ?_)
    obtain ⟨oc, hoc, hocd⟩ := id z
    refine h { s with heap := h' } ⟨I.ok, I.os, I.bare, ⟨fun b o e n hb hx => ?_, fun b o e n hb hx => ?_, I.base.free, fun b o e hx => ?_, I.base.tups, I.base.frzs, I.base.tbls⟩, ⟨m, hn.sameBut hs (Ne.symm (cne x c hc)), fun j y v' e1 e2 e3 => ?_⟩, fun y c' e => ?_, I.free, I.freeC, fun p hp => ?_, tracked ⟨oc, hoc, I.freeC x c hc⟩ hs, by simpa using I.len⟩ ⟨c, hs, .inr hc⟩
    · exact (hs.2 b (Nat.ne_of_lt (Nat.lt_of_lt_of_le (Heap.lt_size e) (I.ok.cab x c hfn hc)))).trans (I.base.keep b o e n hb hx)
    · obtain ⟨sl, e1⟩ := I.base.slot b o e n hb hx
      exact ⟨sl, (hs.2 b (Nat.ne_of_lt (Nat.lt_of_lt_of_le (Heap.lt_size e) (I.ok.cab x c hfn hc)))).trans e1⟩
    · obtain ⟨o', e1⟩ := I.base.there b o e hx
      exact ⟨o', (hs.2 b (Nat.ne_of_lt (Nat.lt_of_lt_of_le (Heap.lt_size e) (I.ok.cab x c hfn hc)))).trans e1⟩
    · by_cases hj : j = i
      · subst hj
        rw [hi] at e1; cases e1
        rw [List.getElem?_set_self hiσ] at e2
        cases e2
        exact ⟨u, r, .inr ⟨.inl hk, c, hc, hc'⟩⟩
      · rw [List.getElem?_set_ne (Ne.symm hj)] at e2
        obtain ⟨u', r', q⟩ := hl j y v' e1 e2 e3
        refine ⟨u', r', ?_⟩
        rcases q with q | ⟨k, c', e, z'⟩
        · exact .inl q
        · refine .inr ⟨k, c', e, z'.sameBut hs ?_⟩
          rintro rfl
          exact hj (nodup_ix hN e1 (I.ok.inj _ _ _ e hc ▸ hi))
    · by_cases hcc : c' = c
      · subst hcc; exact ⟨_, hc'⟩
      · obtain ⟨w2, z2⟩ := I.cell y c' e
        exact ⟨w2, z2.sameBut hs hcc⟩
    · obtain ⟨e, n, ne, nf, d⟩ := I.pin p hp
      refine ⟨(hs.2 p.1 ?_).trans e, n, ne, nf, d⟩
      intro q
      rw [q, hoc] at e
      have q' : oc = p.2 := Option.some.inj e
      exact d w' (by rw [← q']; exact hocd)
theorem store_ok {M : Model} {A : Around} {E : Value → Shared → Prop} {i : Nat} {x : Str} {v : V} {u : Value} {Q : Unit → Shared → Prop} (I : Inv X pins σ H s) (hN : X.N.Nodup) (hi : X.N[i]? = some x) (hx : Loc X.env.scope x) (r : RelV v u)
    (h : ∀ s', Inv X pins (σ.set i (some v)) H s' → Q () s') (hf : X.fn x = true ∨ X.env.scope.names.lookup x = some .local := by first | exact .inl rfl | exact .inr rfl | assumption) : wpAny M A (storeName X.env x u) Q E s :=
  store_ok2 I hN hi hx r (fun s' I' _ => h s' I') hf
/-- behind a call or a block, the state as it is -/
theorem Inv.call' {s' : Shared} {ch : List Addr} (I : Inv X pins σ H s) (ho : s'.os = s.os) (u : Un (frs X.stack) ch H H' s.heap s'.heap) (hok : HOk X.prog X.w H' s'.heap) (hg : AllBare s'.gens)
    (hch : ∀ b ∈ ch, (b ∈ X.ex ∨ X.s₀.heap.objs.size ≤ b) ∧ b ≠ X.env.locals ∧ (∀ x c, X.env.cells.lookup x = some c → c ≠ b) ∧ ∀ p ∈ X.pn ++ pins, p.1 ≠ b) : Inv X pins σ H' s' := by
  obtain ⟨h', g', d', t', o'⟩ := s'
  have e : o' = s.os := ho
  subst e
  exact I.call (g' := g') (t' := t') (d' := d') u hok hg hch
end

/-! ### the judgements -/
/-- an exception: its class, its own dict's address (where it has one), the abstract heap behind it -/
abbrev XK := Value → Option Addr → Hp → Prop
abbrev St := List (Option V)
abbrev VK := V → Hp → Prop
/-- an expression's reading; a test's; an argument list's -/
abbrev TE := St → Hp → VK → Prop
abbrev TT := St → Hp → (Bool → Hp → Prop) → Prop
abbrev TA := St → Hp → (List V → Hp → Prop) → Prop
/-- what is wanted behind a statement -/
structure Ends where
  nx : St → Hp → Prop
  rt : VK
  bk : St → Hp → Prop := fun _ _ => False
  ct : St → Hp → Prop := fun _ _ => False
abbrev TS := Ends → St → Hp → Prop

def EP (X : Cx) (pins : List (Addr × Obj)) (σ : St) (Q : VK) (u : Value) (s' : Shared) : Prop := ∃ v H', Inv X pins σ H' s' ∧ RelV v u ∧ Q v H'
def TP (X : Cx) (pins : List (Addr × Obj)) (σ : St) (Q : Bool → Hp → Prop) (b : Bool) (s' : Shared) : Prop := ∃ H', Inv X pins σ H' s' ∧ Q b H'
def AP (X : Cx) (pins : List (Addr × Obj)) (σ : St) (Q : List V → Hp → Prop) (us : List Value) (s' : Shared) : Prop := ∃ vs H', Inv X pins σ H' s' ∧ Vals vs us ∧ Q vs H'
def SP (X : Cx) (pins : List (Addr × Obj)) (D : Ends) (f : Flow) (s' : Shared) : Prop :=
  match f with
  | .next => ∃ σ' H', Inv X pins σ' H' s' ∧ D.nx σ' H'
  | .brk => ∃ σ' H', Inv X pins σ' H' s' ∧ D.bk σ' H'
  | .cont => ∃ σ' H', Inv X pins σ' H' s' ∧ D.ct σ' H'
  | .ret u => ∃ v σ' H', Inv X pins σ' H' s' ∧ RelV v u ∧ D.rt v H'

def PE (X : Cx) (e : Expr) (t : TE) : Prop :=
  ∀ (pins : List (Addr × Obj)) (s : Shared) (σ : St) (H : Hp) (Q : VK), Inv X pins σ H s → t σ H Q → wpAny (model X.prog X.w) X.A (eval e X.env) (EP X pins σ Q) X.xe s
def PT (X : Cx) (e : Expr) (t : TT) : Prop :=
  ∀ (pins : List (Addr × Obj)) (s : Shared) (σ : St) (H : Hp) (Q : Bool → Hp → Prop), Inv X pins σ H s → t σ H Q → wpAny (model X.prog X.w) X.A (isTrue e X.env (eval e X.env)) (TP X pins σ Q) X.xe s
/-- a test whatever its 'whole' is (and, or) -/
def PW (X : Cx) (e : Expr) (t : TT) : Prop :=
  ∀ (whole : Sem Value) (pins : List (Addr × Obj)) (s : Shared) (σ : St) (H : Hp) (Q : Bool → Hp → Prop), Inv X pins σ H s → t σ H Q → wpAny (model X.prog X.w) X.A (isTrue e X.env whole) (TP X pins σ Q) X.xe s
theorem PW.pt {X : Cx} {e : Expr} {t : TT} (h : PW X e t) : PT X e t := h _
/-- an argument list (no star), from the left -/
def PA (X : Cx) (es : List Expr) (t : TA) : Prop :=
  ∀ (pos : Pos) (pins : List (Addr × Obj)) (s : Shared) (σ : St) (H : Hp) (Q : List V → Hp → Prop), Inv X pins σ H s → t σ H Q → wpAny (model X.prog X.w) X.A (spliced (backTo pos (starEach es X.env))) (AP X pins σ Q) X.xe s
def PS (X : Cx) (st : Stmt) (t : TS) : Prop :=
  ∀ (pins : List (Addr × Obj)) (s : Shared) (σ : St) (H : Hp) (D : Ends), Inv X pins σ H s → t D σ H → wpAny (model X.prog X.w) X.A (exec st X.env) (SP X pins D) X.xe s
def PSs (X : Cx) (st : List Stmt) (t : TS) : Prop :=
  ∀ (pins : List (Addr × Obj)) (s : Shared) (σ : St) (H : Hp) (D : Ends), Inv X pins σ H s → t D σ H → wpAny (model X.prog X.w) X.A (execs st X.env) (SP X pins D) X.xe s
/-- weaken the end -/
theorem thn {α : Type} {t : Sem α} {Q Q' : α → Shared → Prop} {M : Model} {A : Around} {E : Value → Shared → Prop} {s : Shared} (h : wpAny M A t Q E s) (hQ : ∀ a s, Q a s → Q' a s) : wpAny M A t Q' E s := wpAny_mono h hQ fun _ _ x => x
end L2

namespace L2
open PySem PySem.Spec PyProof.Rows
section
variable {X : Cx}

/-! ### names and constants -/
def tVar (i : Nat) : TE := fun σ H Q => ∃ v, σ[i]? = some (some v) ∧ Q v H
def tC (v : V) : TE := fun _ H Q => Q v H
theorem pe_var {i : Nat} {x : Str} {pos : Pos} (hN : X.N[i]? = some x) (hv : Vis X.env.scope x) (hd : (x == ("__debug__" : Str)) = false := by decide) (hcd : (x == ("__classdict__" : Str)) = false := by decide) : PE X (.Name x pos) (tVar i) := by
  intro pins s σ H Q I h
  obtain ⟨v, e, h⟩ := h
  obtain ⟨m, hn, hl⟩ := I.loc
  obtain ⟨u, r, l⟩ := hl i x v hN e hv
  have fin : EP X pins σ Q u s := ⟨v, H, I, r, h⟩
  rcases l with ⟨hk, hm⟩ | ⟨hk, c, hc, hcell⟩
  · exact wpAny_Name (wpAny_loadName_local I.ok.kind hk hn hm fin) hd
  · rcases hk with hk | hk
    · exact wpAny_Name (wpAny_loadName_cell I.ok.kind hk hc hcell fin) hd
    · exact wpAny_Name (wpAny_loadName_free I.ok.kind hk hc hcell fin hcd) hd
theorem pe_int {i j pos} : PE X (.Constant (.int i) j pos) (tC (.int i)) := fun _ _ _ H _ I h => wpAny_Constant_int ⟨.int i, H, I.tok _, ⟨_, rfl⟩, h⟩
theorem pe_bl {b j pos} : PE X (.Constant (.bool b) j pos) (tC (.bl b)) := fun _ _ _ H _ I h => Constant_bool ⟨.bl b, H, I, rfl, h⟩
theorem pe_str {x j pos} : PE X (.Constant (.str x) j pos) (tC (.str x)) := fun _ _ _ H _ I h => Calls.Constant_str ⟨.str x, H, I.tok _, ⟨_, rfl⟩, h⟩

/-- a global name of the def -/
def Gl (X : Cx) (x : Str) : Prop := X.env.kindOf x = some .globalImplicit
theorem ld_glob {E : Value → Shared → Prop} {pins : List (Addr × Obj)} {s : Shared} {σ : St} {H : Hp} {x : Str} {u : Value} {pos : Pos} {Q : Value → Shared → Prop} (I : Inv X pins σ H s) (hg : Gl X x) (hm : X.mg x = some u) (h : Q u s)
    (hd : (x == ("__debug__" : Str)) = false := by decide) : wpAny (model X.prog X.w) X.A (eval (.Name x pos) X.env) Q E s :=
  Calls.Name_function_global I.ok.kind hg (Calls.loadGlobal_global (by rw [I.ok.glob]; exact I.mod.glob.keeps I.bk) hm h) hd
theorem ld_blt {E : Value → Shared → Prop} {pins : List (Addr × Obj)} {s : Shared} {σ : St} {H : Hp} {x : Str} {u : Value} {pos : Pos} {Q : Value → Shared → Prop} (I : Inv X pins σ H s) (hg : Gl X x) (hm : X.mg x = none) (hv : bootBuiltins x = some u) (h : Q u s)
    (hn : x ≠ "__name__" := by decide) (hd : (x == ("__debug__" : Str)) = false := by decide) : wpAny (model X.prog X.w) X.A (eval (.Name x pos) X.env) Q E s := by
  obtain ⟨mb, h1, h2⟩ := I.mod.blt
  exact Calls.Name_function_global I.ok.kind hg (Calls.loadGlobal_builtin (by rw [I.ok.glob]; exact I.mod.glob.keeps I.bk) hm (by rw [I.ok.blt]; exact h1.keeps I.bk) ((h2 x hn).trans hv) h) hd
/-- a module's constant, a class, a function, as a value -/
theorem pe_glob {x : Str} {v : V} {u : Value} {pos : Pos} (hg : Gl X x) (hm : X.mg x = some u) (r : RelV v u) (hd : (x == ("__debug__" : Str)) = false := by decide) : PE X (.Name x pos) (tC v) :=
  fun _ _ _ H _ I h => ld_glob I hg hm ⟨v, H, I, r, h⟩ hd
theorem pe_bltn {x : Str} {v : V} {u : Value} {pos : Pos} (hg : Gl X x) (hm : X.mg x = none) (hv : bootBuiltins x = some u) (r : RelV v u) (hn : x ≠ "__name__" := by decide) (hd : (x == ("__debug__" : Str)) = false := by decide) : PE X (.Name x pos) (tC v) :=
  fun _ _ _ H _ I h => ld_blt I hg hm hv ⟨v, H, I, r, h⟩ hn hd

/-! ### arithmetic -/
variable {a b : Expr} {ta tb : TE} {pos : Pos}
/-! ### comparisons -/
def PC (X : Cx) (op : CmpOp) (a b : Expr) (t : TE) : Prop :=
  ∀ (pins : List (Addr × Obj)) (s : Shared) (σ : St) (H : Hp) (Q : VK), Inv X pins σ H s → t σ H Q →
    wpAny (model X.prog X.w) X.A (eval a X.env) (fun v s₁ => wpAny (model X.prog X.w) X.A (eval b X.env) (fun u s₂ => wpAny (model X.prog X.w) X.A (compareOp op v u) (EP X pins σ Q) X.xe s₂) X.xe s₁) X.xe s
theorem nobehind (b : Expr) {op : CmpOp} (h : op ≠ .In) (h2 : op ≠ .NotIn) : behindInMarks op b = false := by
  have e1 : (op == CmpOp.In) = false := by cases op <;> first | rfl | exact absurd rfl h
  have e2 : (op == CmpOp.NotIn) = false := by cases op <;> first | rfl | exact absurd rfl h2
  cases b <;> simp [behindInMarks, e1, e2]
/-- a comparison as a value, as a test -/
def tB (t : TE) : TT := fun σ H Q => t σ H fun x H1 => ∃ c, x = .bl c ∧ Q c H1
theorem pt_cmp {op : CmpOp} {t : TE} (h : PC X op a b t) (h1 : behindInMarks op b = false := by first | exact nobehind _ (by decide) (by decide) | rfl) : PT X (.Compare a [op] [b] pos) (tB t) := by
  intro pins s σ H Q I hw
  refine wpAny_isTrue_Compare1 (thn (h pins s σ H _ I hw) fun v s1 h1 => thn h1 fun u s2 h2 => thn h2 fun c s3 ⟨x, H1, I1, r1, q1⟩ => ?_) h1
  obtain ⟨d, rfl, q⟩ := q1
  cases r1
  exact wpAny_truthy_bool ⟨H1, I1, q⟩
/-- an expression whose value is a bool, as a test -/
theorem pt_val {e : Expr} {t : TE} (h : PE X e t) (he : ∀ whole, isTrue e X.env whole = (do let v ← whole; standAt e.pos; holding [v] (truthy v)) := by intro _; rfl) : PT X e (tB t) := by
  intro pins s σ H Q I hw
  refine isTrue_plain (thn (h pins s σ H _ I hw) fun v s1 ⟨x, H1, I1, r1, q1⟩ => ?_) (he _)
  obtain ⟨d, rfl, q⟩ := q1
  cases r1
  exact wpAny_truthy_bool ⟨H1, I1, q⟩

/-! ### and, or, not -/
variable {tA tB' : TT} {rest : List Expr}
def tAnd (t u : TT) : TT := fun σ H Q => t σ H fun c H1 => if c = true then u σ H1 Q else Q false H1
def tOr (t u : TT) : TT := fun σ H Q => t σ H fun c H1 => if c = true then Q true H1 else u σ H1 Q
def tNot (t : TT) : TT := fun σ H Q => t σ H fun c H1 => Q (!c) H1
theorem pw_and1 (ha : PT X a tA) : PW X (.BoolOp .And [a] pos) tA := by
  intro wh pins s σ H Q I h
  refine isTrue_and (thn (ha pins s σ H Q I h) fun c s1 e => ?_)
  cases c with
  | true => exact isTrue_and_nil e
  | false => exact e
theorem pw_or1 (ha : PT X a tA) : PW X (.BoolOp .Or [a] pos) tA := by
  intro wh pins s σ H Q I h
  refine isTrue_or (thn (ha pins s σ H Q I h) fun c s1 e => ?_)
  cases c with
  | false => exact isTrue_or_nil e
  | true => exact e
theorem pw_and (ha : PT X a tA) (hb : PW X (.BoolOp .And (b :: rest) pos) tB') : PW X (.BoolOp .And (a :: b :: rest) pos) (tAnd tA tB') := by
  intro wh pins s σ H Q I h
  refine isTrue_and (thn (ha pins s σ H _ I h) fun c s1 ⟨H1, I1, q1⟩ => ?_)
  cases c with
  | true => exact hb wh pins s1 σ H1 Q I1 q1
  | false => exact ⟨H1, I1, q1⟩
theorem pw_or (ha : PT X a tA) (hb : PW X (.BoolOp .Or (b :: rest) pos) tB') : PW X (.BoolOp .Or (a :: b :: rest) pos) (tOr tA tB') := by
  intro wh pins s σ H Q I h
  refine isTrue_or (thn (ha pins s σ H _ I h) fun c s1 ⟨H1, I1, q1⟩ => ?_)
  cases c with
  | true => exact ⟨H1, I1, q1⟩
  | false => exact hb wh pins s1 σ H1 Q I1 q1
theorem pt_not (ha : PT X a tA) : PT X (.UnaryOp .Not a pos) (tNot tA) := by
  intro pins s σ H Q I h
  exact isTrue_not (ha pins s σ H (fun c H1 => Q (!c) H1) I h)
/-- .. as values (bools) -/
def tAndV (ta tb : TE) : TE := fun σ H Q => ta σ H fun x H1 => ∃ c, x = .bl c ∧ if c = true then tb σ H1 Q else Q (.bl false) H1
def tOrV (ta tb : TE) : TE := fun σ H Q => ta σ H fun x H1 => ∃ c, x = .bl c ∧ if c = true then Q (.bl true) H1 else tb σ H1 Q
def tNotV (ta : TE) : TE := fun σ H Q => ta σ H fun x H1 => ∃ c, x = .bl c ∧ Q (.bl (!c)) H1
theorem pe_one {op} {t : TE} (h : PE X a t) : PE X (.BoolOp op [a] pos) t := fun pins s σ H Q I hw => BoolOp_one (h pins s σ H Q I hw)
theorem pe_and (ha : PE X a ta) (hb : PE X (.BoolOp .And (b :: rest) pos) tb) : PE X (.BoolOp .And (a :: b :: rest) pos) (tAndV ta tb) := by
  intro pins s σ H Q I h
  refine BoolOp_and (thn (ha pins s σ H _ I h) fun v s1 ⟨x, H1, I1, r1, q1⟩ => ?_)
  obtain ⟨c, rfl, q1⟩ := q1
  cases r1
  refine wpAny_truthy_bool ?_
  cases c with
  | true => exact hb pins s1 σ H1 Q I1 q1
  | false => exact ⟨.bl false, H1, I1, rfl, q1⟩
theorem pe_or (ha : PE X a ta) (hb : PE X (.BoolOp .Or (b :: rest) pos) tb) : PE X (.BoolOp .Or (a :: b :: rest) pos) (tOrV ta tb) := by
  intro pins s σ H Q I h
  refine BoolOp_or (thn (ha pins s σ H _ I h) fun v s1 ⟨x, H1, I1, r1, q1⟩ => ?_)
  obtain ⟨c, rfl, q1⟩ := q1
  cases r1
  refine wpAny_truthy_bool ?_
  cases c with
  | false => exact hb pins s1 σ H1 Q I1 q1
  | true => exact ⟨.bl true, H1, I1, rfl, q1⟩
theorem pe_not (ha : PE X a ta) : PE X (.UnaryOp .Not a pos) (tNotV ta) := by
  intro pins s σ H Q I h
  refine UnaryOp_ (thn (ha pins s σ H _ I h) fun v s1 ⟨x, H1, I1, r1, q1⟩ => ?_)
  obtain ⟨c, rfl, q1⟩ := q1
  cases r1
  exact not_of (wpAny_truthy_bool ⟨.bl (!c), H1, I1, rfl, q1⟩)
end
end L2

namespace L2
open PySem PySem.Spec PyProof.Rows

/-! ### a list, a tuple that is read: tracked, frozen, or an object of the module -/
def SqL (K : PySem.W.Frag) (H : Hp) (a : Addr) (xs : List V) : Prop :=
  Rd H a (.lst xs) ∨
    ∃ (o : Obj) (its : Array Value) (n : Nat), K.lookup a = some o ∧ o.cls = .type "list" ∧ o.dict = none ∧ o.data = .seq its n ∧ its.size ≤ sizeLine ∧ Vals xs its.toList
def SqT (K : PySem.W.Frag) (H : Hp) (a : Addr) (xs : List V) : Prop :=
  Rd H a (.tup xs) ∨
    ∃ (o : Obj) (its : Array Value) (n : Nat), K.lookup a = some o ∧ o.cls = .type "tuple" ∧ o.data = .seq its n ∧ its.size ≤ sizeLine ∧ Vals xs its.toList
def absV : Value → Option V
  | .none => some .non
  | .bool b => some (.bl b)
  | .int i _ => some (.int i)
  | .str x _ => some (.str x)
  | .bytes b _ => some (.byt b)
  | .float b _ => some (.flt b)
  | .ref a => some (.ref a)
  | .type n => some (.ty n)
  | _ => none
theorem RelV.abs {x : V} {u : Value} (r : RelV x u) : absV u = some x := by
  cases x with
  | non => cases r; rfl
  | bl _ => cases r; rfl
  | int _ => obtain ⟨t, rfl⟩ := r; rfl
  | str _ => obtain ⟨t, rfl⟩ := r; rfl
  | byt _ => obtain ⟨t, rfl⟩ := r; rfl
  | flt _ => obtain ⟨t, rfl⟩ := r; rfl
  | ref _ => cases r; rfl
  | ty _ => cases r; rfl
theorem RelV.inj {x y : V} {u : Value} (r : RelV x u) (q : RelV y u) : x = y := Option.some.inj (r.abs.symm.trans q.abs)
theorem Vals.inj : ∀ {xs ys : List V} {us : List Value}, Vals xs us → Vals ys us → xs = ys
  | _, _, _, .nil, .nil => rfl
  | _, _, _, .cons r t, .cons r' t' => by rw [r.inj r', Vals.inj t t']
section
variable {X : Cx} {pins : List (Addr × Obj)} {σ : St} {H : Hp} {s : Shared} {a : Addr} {xs ys : List V}
theorem SqL.of {K : PySem.W.Frag} (h : H a = some (.lst xs)) : SqL K H a xs := .inl (.inl h)
theorem SqT.of {K : PySem.W.Frag} (h : H a = some (.tup xs)) : SqT K H a xs := .inl (.inl h)
theorem Inv.list (I : Inv X pins σ H s) (h : SqL X.K H a xs) : ∃ its : List Value, Vals xs its ∧ PlainL s.heap a its.toArray ∧ xs.length ≤ sizeLine := by
  rcases h with h | ⟨o, its, n, hk, hc, hd, hs, hz, r⟩
  · obtain ⟨z, its, n, r, e⟩ := h.ok I.hok
    exact ⟨its, r, ⟨_, n, e, rfl, rfl, rfl⟩, z⟩
  · refine ⟨its.toList, r, ⟨o, n, I.kIn a o hk, hc, hd, by simpa using hs⟩, ?_⟩
    have e := r.length
    simp only [Array.length_toList] at e
    omega
theorem Inv.tuple (I : Inv X pins σ H s) (h : SqT X.K H a xs) : ∃ its : List Value, Vals xs its ∧ IsTup s.heap a its.toArray ∧ xs.length ≤ sizeLine := by
  rcases h with h | ⟨o, its, n, hk, hc, hs, hz, r⟩
  · obtain ⟨z, its, r, p⟩ := h.ok I.hok
    exact ⟨its, r, p.is, z⟩
  · refine ⟨its.toList, r, ⟨o, I.kIn a o hk, hc, n, by simpa using hs⟩, ?_⟩
    have e := r.length
    simp only [Array.length_toList] at e
    omega
theorem Inv.list_inj (I : Inv X pins σ H s) (h : SqL X.K H a xs) (h' : SqL X.K H a ys) : xs = ys := by
  obtain ⟨its, r, ⟨o, n, e, _, _, d⟩, _⟩ := I.list h
  obtain ⟨its', r', ⟨o', n', e', _, _, d'⟩, _⟩ := I.list h'
  rw [e] at e'; cases e'
  rw [d] at d'
  injection d' with d1 _
  have : its = its' := by simpa using congrArg Array.toList d1
  subst this
  exact r.inj r'
theorem Inv.tuple_inj (I : Inv X pins σ H s) (h : SqT X.K H a xs) (h' : SqT X.K H a ys) : xs = ys := by
  obtain ⟨its, r, ⟨o, e, _, n, d⟩, _⟩ := I.tuple h
  obtain ⟨its', r', ⟨o', e', _, n', d'⟩, _⟩ := I.tuple h'
  rw [e] at e'; cases e'
  rw [d] at d'
  injection d' with d1 _
  have : its = its' := by simpa using congrArg Array.toList d1
  subst this
  exact r.inj r'
end

/-! ### another wish about exceptions -/
abbrev Cx.wish (X : Cx) (E : Value → Shared → Prop) : Cx := { X with xe := E }
/-- no exception leaves -/
abbrev Cx.nox (X : Cx) : Cx := X.wish fun _ _ => False
theorem Cx.Ok.wish {X : Cx} (ok : X.Ok) (E : Value → Shared → Prop) : (X.wish E).Ok :=
  ⟨ok.mod, ok.kind, ok.glob, ok.blt, ok.above, ok.inj, ok.has, ok.cab, ok.hd, ok.frames, ok.stk, ok.exf, ok.bs, ok.bsz, ok.noex, ok.exfs, ok.funs, ok.frf⟩
theorem Cx.Ok.unwish {X : Cx} {E : Value → Shared → Prop} (ok : (X.wish E).Ok) : X.Ok :=
  ⟨ok.mod, ok.kind, ok.glob, ok.blt, ok.above, ok.inj, ok.has, ok.cab, ok.hd, ok.frames, ok.stk, ok.exf, ok.bs, ok.bsz, ok.noex, ok.exfs, ok.funs, ok.frf⟩
section
variable {X : Cx} {pins : List (Addr × Obj)} {σ : St} {H : Hp} {s : Shared} {E : Value → Shared → Prop}
theorem Inv.wish (I : Inv X pins σ H s) (E : Value → Shared → Prop) : Inv (X.wish E) pins σ H s := ⟨I.ok.wish E, I.os, I.bare, I.base, I.loc, I.cell, I.free, I.freeC, I.pin, I.hok, I.len⟩
theorem Inv.unwish (I : Inv (X.wish E) pins σ H s) : Inv X pins σ H s := ⟨I.ok.unwish, I.os, I.bare, I.base, I.loc, I.cell, I.free, I.freeC, I.pin, I.hok, I.len⟩
theorem SP.unwish {D : Ends} {f : Flow} {s' : Shared} (h : SP (X.wish E) pins D f s') : SP X pins D f s' := by
  cases f with
  | next => obtain ⟨σ', H', I, q⟩ := h; exact ⟨σ', H', I.unwish, q⟩
  | brk => obtain ⟨σ', H', I, q⟩ := h; exact ⟨σ', H', I.unwish, q⟩
  | cont => obtain ⟨σ', H', I, q⟩ := h; exact ⟨σ', H', I.unwish, q⟩
  | ret u => obtain ⟨v, σ', H', I, r, q⟩ := h; exact ⟨v, σ', H', I.unwish, r, q⟩
theorem PE.nox {e : Expr} {t : TE} (h : PE X.nox e t) : PE X e t := fun pins s σ H Q I hw =>
  wpAny_mono (h pins s σ H Q (I.wish _) hw) (fun _ _ ⟨v, H', I', r, q⟩ => ⟨v, H', I'.unwish, r, q⟩) fun _ _ z => False.elim z
theorem PT.nox {e : Expr} {t : TT} (h : PT X.nox e t) : PT X e t := fun pins s σ H Q I hw =>
  wpAny_mono (h pins s σ H Q (I.wish _) hw) (fun _ _ ⟨H', I', q⟩ => ⟨H', I'.unwish, q⟩) fun _ _ z => False.elim z
theorem PSs.nox {st : List Stmt} {t : TS} (h : PSs X.nox st t) : PSs X st t := fun pins s σ H D I hw =>
  wpAny_mono (h pins s σ H D (I.wish _) hw) (fun _ _ q => q.unwish) fun _ _ z => False.elim z
end

/-! ### blocks and small statements -/
section
variable {X : Cx} {st : Stmt} {rest : List Stmt} {t u : TS} {e : Expr} {te : TE} {pos : Pos}
def tNext : TS := fun D σ H => D.nx σ H
def tSeq (t u : TS) : TS := fun D σ H => t { D with nx := u D } σ H
theorem pss_nil : PSs X [] tNext := fun _ _ σ H _ I h => wpAny_execs_nil ⟨σ, H, I, h⟩
theorem pss_cons (h1 : PS X st t) (h2 : PSs X rest u) : PSs X (st :: rest) (tSeq t u) := by
  intro pins s σ H D I h
  refine wpAny_execs_cons (thn (h1 pins s σ H { D with nx := u D } I h) fun f s1 q => ?_)
  cases f with
  | next =>
    obtain ⟨σ', H', I', q⟩ := q
    exact h2 pins s1 σ' H' D I' q
  | ret v => exact q
  | brk => exact q
  | cont => exact q
theorem pss_one (h1 : PS X st t) : PSs X [st] t := by
  intro pins s σ H D I h
  refine wpAny_execs_cons (thn (h1 pins s σ H D I h) fun f s1 q => ?_)
  cases f with
  | next => exact wpAny_execs_nil q
  | ret v => exact q
  | brk => exact q
  | cont => exact q
/-- in a def's body nothing is shown -/
theorem Inv.quiet {pins : List (Addr × Obj)} {σ : St} {H : Hp} {s : Shared} (I : Inv X pins σ H s) : interactive X.env = false := by simp [interactive, I.ok.kind]
/-- an expression whose value is dropped -/
def tDrop (te : TE) : TS := fun D σ H => te σ H fun _ H1 => D.nx σ H1
theorem ps_expr (he : PE X e te) (hs : swapsWith e none pos.line X.env = pure false := by rfl) : PS X (.Expr e pos) (tDrop te) := by
  intro pins s σ H D I h
  exact wpAny_Expr_any (thn (he pins s σ H _ I h) fun v s1 ⟨x, H1, I1, r1, q1⟩ => ⟨σ, H1, I1, q1⟩) I.quiet hs
def tRet (te : TE) : TS := fun D σ H => te σ H D.rt
theorem ps_ret (he : PE X e te) : PS X (.Return (some e) pos) (tRet te) := by
  intro pins s σ H D I h
  exact wpAny_Return_some (thn (he pins s σ H _ I h) fun v s1 ⟨x, H1, I1, r1, q1⟩ => ⟨x, σ, H1, I1, r1, q1⟩)
def tIfS (c : TT) (t u : TS) : TS := fun D σ H => c σ H fun b H1 => if b = true then t D σ H1 else u D σ H1
theorem ps_if {c : Expr} {a b : List Stmt} {tc : TT} (hc : PT X c tc) (ha : PSs X a t) (hb : PSs X b u) : PS X (.If c a b pos) (tIfS tc t u) := by
  intro pins s σ H D I h
  refine wpAny_If (thn (hc pins s σ H _ I h) fun d s1 ⟨H1, I1, q1⟩ => ?_)
  cases d with
  | true => exact ha pins s1 σ H1 D I1 q1
  | false => exact hb pins s1 σ H1 D I1 q1
/-- code that the proof never comes to -/
def tNever : TS := fun _ _ _ => False
theorem pss_never {sts : List Stmt} : PSs X sts tNever := fun _ _ _ _ _ _ h => h.elim
end

/-! ### targets -/
abbrev TG := V → St → Hp → (St → Hp → Prop) → Prop
abbrev TGs := List V → St → Hp → (St → Hp → Prop) → Prop
def PG (X : Cx) (target : Expr) (t : TG) : Prop :=
  ∀ (pins : List (Addr × Obj)) (s : Shared) (σ : St) (H : Hp) (v : V) (u : Value) (Q : St → Hp → Prop), Inv X pins σ H s → RelV v u → t v σ H Q →
    wpAny (model X.prog X.w) X.A (assign target X.env u) (fun _ s' => ∃ σ' H', Inv X pins σ' H' s' ∧ Q σ' H') X.xe s
/-- several targets, one after another -/
def PGs (X : Cx) (ts : List Expr) (t : TGs) : Prop :=
  ∀ (pins : List (Addr × Obj)) (s : Shared) (σ : St) (H : Hp) (vs : List V) (us : List Value) (Q : St → Hp → Prop), Inv X pins σ H s → Vals vs us → t vs σ H Q →
    wpAny (model X.prog X.w) X.A (assignInOrder ((assignEach ts X.env).map (·.2)) us) (fun _ s' => ∃ σ' H', Inv X pins σ' H' s' ∧ Q σ' H') X.xe s
/-- a op= b, by values -/
abbrev TIp := V → V → Hp → VK → Prop
def PIp (X : Cx) (op : Operator) (t : TIp) : Prop :=
  ∀ (pins : List (Addr × Obj)) (s : Shared) (σ : St) (H : Hp) (x y : V) (v u : Value) (Q : VK), Inv X pins σ H s → RelV x v → RelV y u → t x y H Q →
    wpAny (model X.prog X.w) X.A (inplaceOp op v u) (EP X pins σ Q) X.xe s
section
variable {X : Cx} {pos : Pos}
def gName (i : Nat) : TG := fun v σ H Q => Q (σ.set i (some v)) H
theorem pg_name {i : Nat} {x : Str} (hN : X.N.Nodup) (hi : X.N[i]? = some x) (hx : Loc X.env.scope x) (hf : X.fn x = true ∨ X.env.scope.names.lookup x = some .local := by first | exact .inl rfl | exact .inr rfl | assumption) : PG X (.Name x pos) (gName i) := by
  intro pins s σ H v u Q I r h
  exact wpAny_assign_Name (store_ok I hN hi hx r (fun s' I' => ⟨_, H, I', h⟩) hf)
def gNil : TGs := fun vs σ H Q => vs = [] ∧ Q σ H
def gCons (t : TG) (u : TGs) : TGs := fun vs σ H Q => ∃ v r, vs = v :: r ∧ t v σ H fun σ' H' => u r σ' H' Q
theorem pgs_nil : PGs X [] gNil := by
  intro pins s σ H vs us Q I r h
  obtain ⟨e, h⟩ := h
  subst e
  cases r
  exact assignInOrder_nil ⟨σ, H, I, h⟩
theorem pgs_cons {e : Expr} {es : List Expr} {t : TG} {u : TGs} (h1 : PG X e t) (h2 : PGs X es u)
    (hs : (assignEach (e :: es) X.env).map (·.2) = assign e X.env :: (assignEach es X.env).map (·.2) := by rfl) : PGs X (e :: es) (gCons t u) := by
  intro pins s σ H vs us Q I r h
  obtain ⟨v, vr, e1, h⟩ := h
  subst e1
  cases r with
  | cons r rr =>
    rw [hs]
    refine assignInOrder_cons (thn (h1 pins s σ H _ _ _ I r h) fun _ s1 ⟨σ1, H1, I1, q1⟩ => ?_)
    exact h2 pins s1 σ1 H1 _ _ Q I1 rr q1
/-- (a, b, ..) = a tuple of that length -/
def gTup (K : PySem.W.Frag) (n : Nat) (t : TGs) : TG := fun v σ H Q => ∃ a xs, v = .ref a ∧ SqT K H a xs ∧ xs.length = n ∧ t xs σ H Q
theorem pg_tup {es : List Expr} {k : Nat} {t : TGs} {n : Nat} (hc : X.calm = true) (h : PGs X es t)
    (hn : (assignEach es X.env).length = n := by rfl) (hst : (assignEach es X.env).findIdx? (·.1) = none := by rfl) : PG X (.Tuple es k pos) (gTup X.K n t) := by
  intro pins s σ H v u Q I r hw
  obtain ⟨a, xs, e1, hq, hl, hw⟩ := hw
  subst e1
  cases r
  obtain ⟨its, rv, ht, hz⟩ := I.tuple hq
  refine assign_Tuple_tuple (I.ok.hd hc) ht (by simp [hn, ← hl, rv.length]) hst fun h' hx => ?_
  have I1 : Inv X pins σ H { s with heap := h' } := I.kept (t' := s.toks) fun b o e => hx b o (Nat.ne_of_lt (Heap.lt_size e)) e
  exact h pins _ σ H xs _ Q I1 (by simpa using rv) hw
/-- target = value -/
def tAsg (te : TE) (g : TG) : TS := fun D σ H => te σ H fun x H1 => g x σ H1 D.nx
theorem ps_asg {tg e : Expr} {te : TE} {g : TG} (he : PE X e te) (hg : PG X tg g) (hs : swapsWithSole [tg] e pos.line X.env = pure false := by rfl) (hw : swappedStores [tg] e X.env = pure none := by rfl)
    (h1 : (assignEach [tg] X.env).map (·.2) = [assign tg X.env] := by rfl) : PS X (.Assign [tg] e pos) (tAsg te g) := by
  intro pins s σ H D I h
  refine wpAny_Assign_stores (thn (he pins s σ H _ I h) fun v s1 ⟨x, H1, I1, r1, q1⟩ => ?_) hs hw
  rw [h1]
  exact thn (hg pins s1 σ H1 x v _ I1 r1 q1) fun _ s2 q => q
/-- name = value -/
theorem ps_set {i : Nat} {x : Str} {e : Expr} {te : TE} {pos' : Pos} (hN : X.N.Nodup) (hi : X.N[i]? = some x) (hx : Loc X.env.scope x) (he : PE X e te) (hs : swapsWith e (some (.Name x pos')) pos.line X.env = pure false := by rfl) (hf : X.fn x = true ∨ X.env.scope.names.lookup x = some .local := by first | exact .inl rfl | exact .inr rfl | assumption) :
    PS X (.Assign [.Name x pos'] e pos) (tAsg te (gName i)) := by
  intro pins s σ H D I h
  refine wpAny_Assign_Name (thn (he pins s σ H _ I h) fun v s1 ⟨y, H1, I1, r1, q1⟩ => ?_) hs
  exact store_ok I1 hN hi hx r1 (fun s2 I2 => ⟨_, H1, I2, q1⟩) hf
/-- name op= e -/
def tAug (i : Nat) (te : TE) (ti : TIp) : TS := fun D σ H => ∃ x, σ[i]? = some (some x) ∧ te σ H fun y H1 => ti x y H1 fun z H2 => D.nx (σ.set i (some z)) H2
theorem ps_aug {i : Nat} {x : Str} {e : Expr} {te : TE} {op : Operator} {ti : TIp} {pos' : Pos} (hN : X.N.Nodup) (hi : X.N[i]? = some x) (hx : Loc X.env.scope x) (he : PE X e te) (ho : PIp X op ti) (hf : X.fn x = true ∨ X.env.scope.names.lookup x = some .local := by first | exact .inl rfl | exact .inr rfl | assumption) :
    PS X (.AugAssign (.Name x pos') op e pos) (tAug i te ti) := by
  intro pins s σ H D I h
  obtain ⟨v, e1, h⟩ := h
  obtain ⟨m, hn, hl⟩ := I.loc
  have vis : Vis X.env.scope x := by rcases hx with k | k; exact .inl k; exact .inr (.inl k)
  obtain ⟨u, r, l⟩ := hl i x v hi e1 vis
  refine wpAny_AugAssign_Name ?_
  have go : wpAny (model X.prog X.w) X.A (eval e X.env) (fun w s₂ => wpAny (model X.prog X.w) X.A (inplaceOp op u w) (fun r s₃ => wpAny (model X.prog X.w) X.A (storeName X.env x r) (fun _ => SP X pins D .next) X.xe s₃) X.xe s₂) X.xe s := by
    refine thn (he pins s σ H _ I h) fun w s1 ⟨y, H1, I1, r1, q1⟩ => ?_
    refine thn (ho pins s1 σ H1 v y u w _ I1 r r1 q1) fun z s2 ⟨zv, H2, I2, r2, q2⟩ => ?_
    exact store_ok I2 hN hi hx r2 (fun s3 I3 => ⟨_, H2, I3, q2⟩) hf
  rcases l with ⟨hk, hm⟩ | ⟨hk, c, hc, hcell⟩
  · exact wpAny_loadName_local I.ok.kind hk hn hm go
  · rcases hk with hk | hk
    · exact wpAny_loadName_cell I.ok.kind hk hc hcell go
    · rcases hx with k | k
      · have : X.env.scope.names.lookup x = some .free := hk
        rw [k] at this; cases this
      · have : X.env.scope.names.lookup x = some .free := hk
        rw [k] at this; cases this
/-- ints -/
def ipI (f : Int → Int → Int) : TIp := fun x y H Q => ∃ i j, x = .int i ∧ y = .int j ∧ Q (.int (f i j)) H
theorem ip_add : PIp X .Add (ipI fun i j => i + j) := by
  intro pins s σ H x y v u Q I r1 r2 h
  obtain ⟨i, j, e1, e2, q⟩ := h
  subst e1; subst e2
  obtain ⟨t, rfl⟩ := r1
  obtain ⟨t', rfl⟩ := r2
  exact iadd_int ⟨.int _, H, I.tok _, ⟨_, rfl⟩, q⟩
end

/-! ### while -/
section
variable {X : Cx} {pos : Pos}
/-- the invariant W with its measure -/
def tWhile (c : TT) (tb : TS) : TS := fun D σ H => ∃ W : Nat → St → Hp → Prop, (∃ m, W m σ H) ∧ ∀ m σ H, W m σ H →
  c σ H fun b H1 => if b = true then ∃ N : St → Hp → Prop, (∀ σ' H', N σ' H' → ∃ m', m' < m ∧ W m' σ' H') ∧ tb { D with nx := N, ct := N, bk := D.nx } σ H1 else D.nx σ H1
theorem ps_while {c : Expr} {body : List Stmt} {tc : TT} {tb : TS} (hp : PassesOwn (model X.prog X.w) X.A X.env X.xe) (hc : PT X c tc) (hb : PSs X body tb) : PS X (.While c body [] pos) (tWhile tc tb) := by
  intro pins s σ H D I h
  obtain ⟨W, ⟨m0, w0⟩, turn⟩ := h
  refine wpAny_While (codeAny_whileLoop (fun n s' => ∃ σ' H', Inv X pins σ' H' s' ∧ W n σ' H') ?_ m0 ⟨σ, H, I, w0⟩)
  rintro n s1 ⟨σ1, H1, I1, w1⟩
  refine wpAny_passesOwn hp (thn (hc pins s1 σ1 H1 _ I1 (turn n σ1 H1 w1)) fun b s2 ⟨H2, I2, q2⟩ => ?_)
  cases b with
  | true =>
    obtain ⟨N, hN, q2⟩ := q2
    rw [if_pos rfl]
    refine wpAny_passesOwn hp (thn (hb pins s2 σ1 H2 _ I2 q2) fun f s3 q3 => ?_)
    cases f with
    | next =>
      obtain ⟨σ3, H3, I3, n3⟩ := q3
      obtain ⟨m', hm, w3⟩ := hN σ3 H3 n3
      exact ⟨m', hm, σ3, H3, I3, w3⟩
    | cont =>
      obtain ⟨σ3, H3, I3, n3⟩ := q3
      obtain ⟨m', hm, w3⟩ := hN σ3 H3 n3
      exact ⟨m', hm, σ3, H3, I3, w3⟩
    | brk => exact q3
    | ret v => exact q3
  | false =>
    rw [if_neg Bool.false_ne_true]
    exact wpAny_execs_nil ⟨σ1, H2, I2, q2⟩
end

/-! ### what a loop or a comprehension walks -/
/-- at turn i: it yields x (the heap may grow), or it stops -/
structure It where
  go : Nat → Hp → Prop
  yld : Nat → Hp → V → Hp → Prop
  stop : Nat → Hp → Prop
/-- the iterator's own objects may turn: they are not the frame's, not pinned, younger than the entry (or a comprehension's own) -/
def FpOk (X : Cx) (pins : List (Addr × Obj)) (H : Hp) (b : Addr) : Prop :=
  H b = none ∧ b ≠ X.env.locals ∧ b ∉ X.fs ∧ (b ∈ X.ex ∨ X.s₀.heap.objs.size ≤ b) ∧ (∀ x c, X.env.cells.lookup x = some c → c ≠ b) ∧ ∀ p ∈ X.pn ++ pins, p.1 ≠ b
theorem Inv.fpOk {X : Cx} {pins : List (Addr × Obj)} {σ : St} {H H' : Hp} {s : Shared} {b : Addr} (I : Inv X pins σ H s) (hb : s.heap.objs.size ≤ b) (hn : H' b = none) : FpOk X pins H' b := by
  refine ⟨hn, Nat.ne_of_gt (Nat.lt_of_lt_of_le I.lt hb), I.nofs hb, .inr (Nat.le_trans I.sz hb), fun x c e z => ?_, fun p hp z => ?_⟩
  · obtain ⟨v, q⟩ := I.cell x c e
    exact absurd (Nat.lt_of_lt_of_le q.lt (by rw [z]; exact hb)) (Nat.lt_irrefl _)
  · exact absurd (Nat.lt_of_lt_of_le (Heap.lt_size (I.pin p hp).1) (by rw [z]; exact hb)) (Nat.lt_irrefl _)
structure Turn (P : Program) (w : World) (K : PySem.W.Frag) (tg : Expr) (J : It) (fp : List Addr) (it : Addr) (tn : Nat → Heap → Prop) : Prop where
  mem : it ∈ fp
  obj : ∀ i h, tn i h → ∀ b ∈ fp, ∃ o, h.get? b = some o ∧ ∀ v, o.data ≠ .cell v
  keep : ∀ i h h', tn i h → (∀ b ∈ fp, ∀ o, h.get? b = some o → h'.get? b = some o) → tn i h'
  item : ∀ (X : Cx), X.prog = P → X.w = w → X.K = K → X.calm = true → ∀ (i : Nat) (pins : List (Addr × Obj)) (s : Shared) (σ : St) (H : Hp) (E : Value → Shared → Prop), Inv X pins σ H s → (∀ b ∈ fp, FpOk X pins H b) → tn i s.heap → J.go i H →
    wpAny (model P w) X.A (pyNext (.ref it)) (fun r s1 => ∃ u, r = some u ∧
      wpAny (model P w) X.A (letOwnedTupleGo tg (.ref it) u) (fun _ s2 => ∃ x H', Inv X pins σ H' s2 ∧ RelV x u ∧ J.yld i H x H' ∧ tn (i + 1) s2.heap ∧ ∀ b ∈ fp, H' b = none) E s1) E s
  done : ∀ (X : Cx), X.prog = P → X.w = w → X.K = K → X.calm = true → ∀ (i : Nat) (pins : List (Addr × Obj)) (s : Shared) (σ : St) (H : Hp) (E : Value → Shared → Prop), Inv X pins σ H s → (∀ b ∈ fp, FpOk X pins H b) → tn i s.heap → J.stop i H →
    wpAny (model P w) X.A (pyNext (.ref it)) (fun r s1 => r = none ∧ Inv X pins σ H s1) E s
  self : ∀ (A : Around) (i : Nat) (s : Shared) (Q : Value → Shared → Prop) (E : Value → Shared → Prop), tn i s.heap → Q (.ref it) s → wpAny (model P w) A (pyIter (.ref it)) Q E s
abbrev TI := St → Hp → (It → Hp → Prop) → Prop
/-- an iterator has come -/
def PIE (X : Cx) (pins : List (Addr × Obj)) (σ : St) (tg : Expr) (R : It → Hp → Prop) (itv : Value) (s2 : Shared) : Prop :=
  ∃ (it : Addr) (fp : List Addr) (tn : Nat → Heap → Prop) (J : It) (H' : Hp), itv = .ref it ∧ Inv X pins σ H' s2 ∧ Turn X.prog X.w X.K tg J fp it tn ∧ tn 0 s2.heap ∧ (∀ b ∈ fp, FpOk X pins H' b) ∧ R J H'
def PI (X : Cx) (tg iter : Expr) (wi : TI) : Prop :=
  ∀ (pins : List (Addr × Obj)) (s : Shared) (σ : St) (H : Hp) (R : It → Hp → Prop), Inv X pins σ H s → wi σ H R →
    wpAny (model X.prog X.w) X.A (eval iter X.env) (fun v s1 => wpAny (model X.prog X.w) X.A (pyIter v) (PIE X pins σ tg R) X.xe s1) X.xe s

/-- the step ahead of the store is nothing for an iterator that keeps no tuple -/
theorem go_of {M : Model} {A : Around} {E : Value → Shared → Prop} {s : Shared} {tg : Expr} {it : Addr} {u : Value} {o : Obj} {n : String} {vs : Array Value} {Q : Unit → Shared → Prop} (ho : s.heap.get? it = some o) (hc : o.cls = .type n) (hd : o.data = .fields vs)
    (hn : ["enumerate", "zip", "dict_itemiterator", "dict_reverseitemiterator", "odict_iterator", "itertools.zip_longest", "itertools.pairwise"].contains n = false) (hQ : Q () s) : wpAny M A (letOwnedTupleGo tg (.ref it) u) Q E s := by
  unfold letOwnedTupleGo
  cases tg <;> first
    | exact wpAny_pure hQ
    | (cases u <;> first
        | exact wpAny_pure hQ
        | (refine wpAny_bind (wpAny_load ho ?_)
           rw [hc, hd]
           show wpAny M A (if (["enumerate", "zip", "dict_itemiterator", "dict_reverseitemiterator", "odict_iterator", "itertools.zip_longest", "itertools.pairwise"].contains n && vs[0]? == some (rawInt _)) = true then _ else _) Q E s
           rw [if_neg (by intro h; rw [hn, Bool.false_and] at h; cases h)]
           exact wpAny_pure hQ))

/-- the list at a, as it stands at each turn (a loop may append to it) -/
def Itl (K : PySem.W.Frag) (a : Addr) : It :=
  ⟨fun i H => ∃ xs x, SqL K H a xs ∧ xs[i]? = some x, fun i H x H' => H' = H ∧ ∀ xs, SqL K H a xs → xs[i]? = some x, fun i H => ∃ xs, SqL K H a xs ∧ xs.length ≤ i⟩
def Itt (K : PySem.W.Frag) (a : Addr) : It :=
  ⟨fun i H => ∃ xs x, SqT K H a xs ∧ xs[i]? = some x, fun i H x H' => H' = H ∧ ∀ xs, SqT K H a xs → xs[i]? = some x, fun i H => ∃ xs, SqT K H a xs ∧ xs.length ≤ i⟩
/-- lo, lo + 1, .. (n of them) -/
def Itr (lo : Int) (n : Nat) : It := ⟨fun i _ => i < n, fun i H x H' => H' = H ∧ x = .int (lo + i), fun i _ => n ≤ i⟩
theorem turn_list {P : Program} {w : World} {K : PySem.W.Frag} {tg : Expr} (a it : Addr) : Turn P w K tg (Itl K a) [it] it (fun i h => h.IsListIter it a i) where
  mem := by simp
  obj := fun i h st b hb => by
    have e : b = it := by simpa using hb
    subst e
    obtain ⟨o, e, c, d⟩ := st
    exact ⟨o, e, fun v z => by rw [d] at z; cases z⟩
  keep := fun i h h' st k => st.at fun o e => k it (by simp) o e
  item := by
    intro X hP hw hK hc i pins s σ H E I hf st hg
    subst hP hw hK
    obtain ⟨xs, x, hq, hx⟩ := hg
    obtain ⟨its, rv, p, hz⟩ := I.list hq
    obtain ⟨u, hu, ru⟩ := rv.get hx
    obtain ⟨f0, f1, f2, f3, f4, f5⟩ := hf it (by simp)
    refine wpAny_pyNext_list_item st p.isList (x := u) (by simpa using hu) fun h' st' sb => ?_
    have I1 : Inv X pins σ H { s with heap := h' } := I.turned (t' := s.toks) (fun b o hb e => (sb.2 b hb).trans e) f0 f1 f3 f4 f5
    obtain ⟨o, e, c, d⟩ := id st'
    exact ⟨u, rfl, go_of (s := { s with heap := h' }) e c d (by decide) ⟨x, H, I1, ru, ⟨rfl, fun ys hy => by rw [I.list_inj hy hq]; exact hx⟩, st', fun b hb => (hf b hb).1⟩⟩
  done := by
    intro X hP hw hK hc i pins s σ H E I hf st hg
    subst hP hw hK
    obtain ⟨xs, hq, hx⟩ := hg
    obtain ⟨its, rv, p, hz⟩ := I.list hq
    obtain ⟨f0, f1, f2, f3, f4, f5⟩ := hf it (by simp)
    have hl := rv.length
    exact wpAny_pyNext_list_end (I.ok.hd hc) st p.isList (by simp; omega) fun h' eb => ⟨rfl, I.turned (t' := s.toks) (fun b o hb e => eb b o hb e) f0 f1 f3 f4 f5⟩
  self := fun _ _ _ _ _ st h => wpAny_pyIter_listiter st h
theorem turn_tuple {P : Program} {w : World} {K : PySem.W.Frag} {tg : Expr} (a it : Addr) : Turn P w K tg (Itt K a) [it] it (fun i h => h.IsTupleIter it a i) where
  mem := by simp
  obj := fun i h st b hb => by
    have e : b = it := by simpa using hb
    subst e
    obtain ⟨o, e, c, d⟩ := st
    exact ⟨o, e, fun v z => by rw [d] at z; cases z⟩
  keep := fun i h h' st k => st.at fun o e => k it (by simp) o e
  item := by
    intro X hP hw hK hc i pins s σ H E I hf st hg
    subst hP hw hK
    obtain ⟨xs, x, hq, hx⟩ := hg
    obtain ⟨its, rv, p, hz⟩ := I.tuple hq
    obtain ⟨u, hu, ru⟩ := rv.get hx
    obtain ⟨f0, f1, f2, f3, f4, f5⟩ := hf it (by simp)
    refine wpAny_pyNext_tuple_item st (show s.heap.IsTuple a its.toArray from p) (x := u) (by simpa using hu) fun h' st' sb => ?_
    have I1 : Inv X pins σ H { s with heap := h' } := I.turned (t' := s.toks) (fun b o hb e => (sb.2 b hb).trans e) f0 f1 f3 f4 f5
    obtain ⟨o, e, c, d⟩ := id st'
    exact ⟨u, rfl, go_of (s := { s with heap := h' }) e c d (by decide) ⟨x, H, I1, ru, ⟨rfl, fun ys hy => by rw [I.tuple_inj hy hq]; exact hx⟩, st', fun b hb => (hf b hb).1⟩⟩
  done := by
    intro X hP hw hK hc i pins s σ H E I hf st hg
    subst hP hw hK
    obtain ⟨xs, hq, hx⟩ := hg
    obtain ⟨its, rv, p, hz⟩ := I.tuple hq
    obtain ⟨f0, f1, f2, f3, f4, f5⟩ := hf it (by simp)
    have hl := rv.length
    exact wpAny_pyNext_tuple_end (I.ok.hd hc) st (show s.heap.IsTuple a its.toArray from p) (by simp; omega) fun h' eb => ⟨rfl, I.turned (t' := s.toks) (fun b o hb e => eb b o hb e) f0 f1 f3 f4 f5⟩
  self := fun _ _ _ _ _ st h => wpAny_pyIter_tupleiter st h
theorem turn_range {P : Program} {w : World} {K : PySem.W.Frag} {tg : Expr} (it : Addr) (lo : Int) (n : Nat) : Turn P w K tg (Itr lo n) [it] it (fun i h => IsRangeIter h it (lo + (i : Nat) * 1) ((n : Int) - (i : Nat)) 1) where
  mem := by simp
  obj := fun i h st b hb => by
    have e : b = it := by simpa using hb
    subst e
    exact ⟨_, st, fun v z => by
      have z' : Data.fields _ = Data.cell v := z
      cases z'⟩
  keep := fun i h h' st k => k it (by simp) _ st
  item := by
    intro X hP hw hK hc i pins s σ H E I hf st hg
    subst hP hw hK
    obtain ⟨f0, f1, f2, f3, f4, f5⟩ := hf it (by simp)
    have W := Walks.range (prog := X.prog) (w := X.w) (I.ok.hd hc) it lo 1 n
    refine W.item i s _ _ hg st fun v h' tk hv st' kk => ?_
    obtain ⟨t, rfl⟩ := hv
    have I1 : Inv X pins σ H { s with heap := h', toks := tk } := I.turned (fun b o hb e => kk b o (by simpa using hb) e) f0 f1 f3 f4 f5
    refine ⟨_, rfl, go_of (s := { s with heap := h', toks := tk }) (n := "range_iterator") st' rfl rfl (by decide) ⟨.int (lo + i), H, I1, ⟨t, ?_⟩, ⟨rfl, rfl⟩, st', fun b hb => (hf b hb).1⟩⟩
    rw [Int.mul_one]
  done := by
    intro X hP hw hK hc i pins s σ H E I hf st hg
    subst hP hw hK
    obtain ⟨f0, f1, f2, f3, f4, f5⟩ := hf it (by simp)
    exact wpAny_pyNext_range_end (I.ok.hd hc) st (by have : n ≤ i := hg; omega) fun h' eb => ⟨rfl, I.turned (t' := s.toks) (fun b o hb e => eb b o hb e) f0 f1 f3 f4 f5⟩
  self := fun _ _ _ _ _ st h => wpAny_pyIter_rangeiter st h
end L2

namespace L2
open PySem PySem.Spec PyProof.Rows
section
variable {X : Cx} {tg : Expr}
def iList (K : PySem.W.Frag) (tl : TE) : TI := fun σ H R => tl σ H fun x H1 => ∃ a, x = .ref a ∧ (∃ xs, SqL K H1 a xs) ∧ R (Itl K a) H1
def iTup (K : PySem.W.Frag) (tl : TE) : TI := fun σ H R => tl σ H fun x H1 => ∃ a, x = .ref a ∧ (∃ xs, SqT K H1 a xs) ∧ R (Itt K a) H1
theorem pi_list {l : Expr} {tl : TE} (hl : PE X l tl) : PI X tg l (iList X.K tl) := by
  intro pins s σ H R I h
  refine thn (hl pins s σ H _ I h) fun v s1 ⟨x, H1, I1, r1, q1⟩ => ?_
  obtain ⟨a, e, ⟨xs, hq⟩, q⟩ := q1
  subst e
  cases r1
  obtain ⟨its, rv, p, hz⟩ := I1.list hq
  refine wpAny_pyIter_list p.isList ?_
  refine ⟨s1.heap.objs.size, [s1.heap.objs.size], _, _, H1, rfl, I1.kept (t' := s1.toks) fun b o e => Heap.get?_push_of_some _ e, turn_list a _, ⟨_, Heap.get?_push_size _ rfl, rfl, rfl⟩, fun b hb => ?_, q⟩
  have e : b = s1.heap.objs.size := by simpa using hb
  subst e
  exact I1.fpOk (Nat.le_refl _) (I1.hok.fresh (Nat.le_refl _))
theorem pi_tup {l : Expr} {tl : TE} (hl : PE X l tl) : PI X tg l (iTup X.K tl) := by
  intro pins s σ H R I h
  refine thn (hl pins s σ H _ I h) fun v s1 ⟨x, H1, I1, r1, q1⟩ => ?_
  obtain ⟨a, e, ⟨xs, hq⟩, q⟩ := q1
  subst e
  cases r1
  obtain ⟨its, rv, p, hz⟩ := I1.tuple hq
  refine wpAny_pyIter_tuple (show s1.heap.IsTuple a its.toArray from p) ?_
  refine ⟨s1.heap.objs.size, [s1.heap.objs.size], _, _, H1, rfl, I1.kept (t' := s1.toks) fun b o e => Heap.get?_push_of_some _ e, turn_tuple a _, ⟨_, Heap.get?_push_size _ rfl, rfl, rfl⟩, fun b hb => ?_, q⟩
  have e : b = s1.heap.objs.size := by simpa using hb
  subst e
  exact I1.fpOk (Nat.le_refl _) (I1.hok.fresh (Nat.le_refl _))
/-- a range object just made, walked -/
theorem range_it {pins : List (Addr × Obj)} {σ : St} {H : Hp} {s : Shared} {R : It → Hp → Prop} {E : Value → Shared → Prop} {lo hi : Int} {t u v : Tok} {tk : Nat} (I : Inv X pins σ H s) (h1 : -(2 ^ 62) ≤ lo) (h2 : lo < 2 ^ 62) (h3 : -(2 ^ 62) ≤ hi) (h4 : hi < 2 ^ 62)
    (q : R (Itr lo (hi - lo).toNat) H) : wpAny (model X.prog X.w) X.A (pyIter (.ref s.heap.objs.size)) (PIE X pins σ tg R) E { s with heap := s.heap.push { cls := .type "range", data := .fields #[.int lo t, .int hi u, .int 1 v] }, toks := tk } := by
  refine wpAny_pyIter_range (IsRange.new ..) (small_one h1 h2 h3 h4) ?_
  have I1 : Inv X pins σ H { s with heap := s.heap.push { cls := .type "range", data := .fields #[.int lo t, .int hi u, .int 1 v] }, toks := tk } := I.kept fun b o e => Heap.get?_push_of_some _ e
  refine ⟨(s.heap.push { cls := .type "range", data := .fields #[.int lo t, .int hi u, .int 1 v] }).objs.size, [(s.heap.push { cls := .type "range", data := .fields #[.int lo t, .int hi u, .int 1 v] }).objs.size], _, _, H, rfl,
    I1.kept (t' := tk) fun b o e => Heap.get?_push_of_some _ e, turn_range _ lo (hi - lo).toNat, ?_, fun b hb => ?_, q⟩
  · have e1 : lo + ((0 : Nat) : Int) * 1 = lo := by simp
    have e2 : (((hi - lo).toNat : Nat) : Int) - ((0 : Nat) : Int) = Builtin.Range.rangeSize lo hi 1 := by rw [rangeSize_one]; split <;> omega
    show IsRangeIter _ _ (lo + ((0 : Nat) : Int) * 1) ((((hi - lo).toNat : Nat) : Int) - ((0 : Nat) : Int)) 1
    rw [e1, e2]
    exact Heap.get?_push_size _ rfl
  · have e : b = (s.heap.push { cls := .type "range", data := .fields #[.int lo t, .int hi u, .int 1 v] }).objs.size := by simpa using hb
    subst e
    exact I1.fpOk (Nat.le_refl _) (I1.hok.fresh (Nat.le_refl _))
def iRng1 (ta : TA) : TI := fun σ H R => ta σ H fun vs H1 => ∃ j : Int, vs = [.int j] ∧ -(2 ^ 62) ≤ j ∧ j < 2 ^ 62 ∧ R (Itr 0 j.toNat) H1
theorem pi_range1 {a : Expr} {ta : TA} {p pos : Pos} (hg : Gl X "range") (hm : X.mg "range" = none) (ha : PA X [a] ta) (hs : starEach [a] X.env = [(false, eval a X.env)] := by rfl) : PI X tg (.Call (.Name "range" p) [a] [] pos) (iRng1 ta) := by
  intro pins s σ H R I h
  refine Call_ (ld_blt I hg hm boot_range (PyProof.Rows.callWith_type1 (thn (ha pos pins s σ H _ I h) fun us s1 ⟨vs, H1, I1, r1, q1⟩ => ?_) hs rfl))
  obtain ⟨j, e, q1, q2, q⟩ := q1
  subst e
  cases r1 with
  | cons r rr =>
    cases rr
    obtain ⟨t, rfl⟩ := r
    exact call_range_1 (range_it I1 (by omega) (by omega) q1 q2 (by simpa using q))
/-! ### for -/
/-- W: the invariant by the turn and a measure; N: what the body is to reach -/
def tFor (wi : TI) (g : TG) (tb : TS) : TS := fun D σ H => wi σ H fun J H1 => ∃ W : Nat → Nat → St → Hp → Prop, (∃ m, W 0 m σ H1) ∧ ∀ i m σ H, W i m σ H →
  (J.stop i H ∧ D.nx σ H) ∨ (J.go i H ∧ ∃ N : St → Hp → Prop, (∀ σ' H', N σ' H' → ∃ m', m' < m ∧ W (i + 1) m' σ' H') ∧ ∀ x H', J.yld i H x H' → g x σ H' fun σ2 H2 => tb { D with nx := N, ct := N, bk := D.nx } σ2 H2)
/-- the records at fp as they stand -/
def pinsAt (fp : List Addr) (h : Heap) : List (Addr × Obj) := fp.filterMap fun b => (h.get? b).map fun o => (b, o)
theorem mem_pinsAt {fp : List Addr} {h : Heap} {b : Addr} {o : Obj} (hb : b ∈ fp) (e : h.get? b = some o) : (b, o) ∈ pinsAt fp h := List.mem_filterMap.mpr ⟨b, hb, by rw [e]; rfl⟩
theorem of_pinsAt {fp : List Addr} {h : Heap} {p : Addr × Obj} (hp : p ∈ pinsAt fp h) : p.1 ∈ fp ∧ h.get? p.1 = some p.2 := by
  obtain ⟨b, hb, e⟩ := List.mem_filterMap.mp hp
  cases q : h.get? b with
  | none => rw [q] at e; cases e
  | some o =>
    rw [q] at e
    have e' : (b, o) = p := Option.some.inj e
    subst e'
    exact ⟨hb, q⟩
theorem Inv.pinned {pins : List (Addr × Obj)} {σ : St} {H : Hp} {s : Shared} {fp : List Addr} (I : Inv X pins σ H s) (hf : ∀ b ∈ fp, FpOk X pins H b) (ho : ∀ b ∈ fp, ∃ o, s.heap.get? b = some o ∧ ∀ v, o.data ≠ .cell v) : Inv X (pins ++ pinsAt fp s.heap) σ H s :=
  I.pins_of fun p hp => (List.mem_append.mp hp).elim (fun z => I.pin p (List.mem_append_right _ z)) fun z => by
    obtain ⟨hb, e⟩ := of_pinsAt z
    obtain ⟨f0, f1, f2, _⟩ := hf p.1 hb
    obtain ⟨o, e', d⟩ := ho p.1 hb
    rw [e] at e'; cases e'
    exact ⟨e, f0, f1, f2, d⟩
theorem Inv.unpinned {pins pl : List (Addr × Obj)} {σ : St} {H : Hp} {s : Shared} (I : Inv X (pins ++ pl) σ H s) : Inv X pins σ H s := I.pins_of fun p hp => I.pin p (List.mem_append_right _ (List.mem_append_left _ hp))
theorem ps_for {iter : Expr} {body : List Stmt} {wi : TI} {g : TG} {tb : TS} {pos : Pos} (hp : PassesOwn (model X.prog X.w) X.A X.env X.xe) (hc : X.calm = true) (hi : PI X tg iter wi) (hg : PG X tg g) (hb : PSs X body tb)
    (hs : ∀ x, foldedSetIterable iter X.env x = pure x := by intro _; rfl) : PS X (.For tg iter body [] pos) (tFor wi g tb) := by
  intro pins s σ H D I h
  refine wpAny_For (thn (hi pins s σ H _ I h) fun v s1 h1 => thn h1 fun itv s2 h2 => ?_) hs
  obtain ⟨it, fp, tn, J, H2, e, I2, T, st2, f2, W, ⟨m0, w0⟩, turn⟩ := h2
  subst e
  -- what stays true of the iterator's objects through the loop
  have stat : ∀ {H' : Hp}, (∀ b ∈ fp, H' b = none) → ∀ b ∈ fp, FpOk X pins H' b := fun hn b hb => ⟨hn b hb, (f2 b hb).2⟩
  refine codeAny_forLoop_any (fun n s' => ∃ i σ' H', Inv X pins σ' H' s' ∧ tn i s'.heap ∧ (∀ b ∈ fp, H' b = none) ∧ W i n σ' H') ?_ m0 ⟨0, σ, H2, I2, st2, fun b hb => (f2 b hb).1, w0⟩
  rintro n s3 ⟨i, σ3, H3, I3, st3, fr3, w3⟩
  rcases turn i n σ3 H3 w3 with ⟨stop, qn⟩ | ⟨go, N, hN, step⟩
  · refine wpAny_passesOwn hp (thn (T.done X rfl rfl rfl hc i pins s3 σ3 H3 X.xe I3 (stat fr3) st3 stop) fun r s4 ⟨hr, I4⟩ => ?_)
    subst hr
    exact wpAny_execs_nil ⟨σ3, H3, I4, qn⟩
  · refine wpAny_passesOwn hp (thn (T.item X rfl rfl rfl hc i pins s3 σ3 H3 X.xe I3 (stat fr3) st3 go) fun r s4 ⟨u, hr, h4⟩ => ?_)
    subst hr
    refine wpAny_passesOwn hp (thn h4 fun _ s5 ⟨x, H5, I5, r5, y5, st5, fr5⟩ => ?_)
    have I5' := I5.pinned (stat fr5) (T.obj _ _ st5)
    refine wpAny_passesOwn hp (thn (hg _ s5 σ3 H5 x u _ I5' r5 (step x H5 y5)) fun _ s6 ⟨σ6, H6, I6, q6⟩ => ?_)
    refine wpAny_passesOwn hp (thn (hb _ s6 σ6 H6 _ I6 q6) fun f s7 q7 => ?_)
    have again : ∀ {σ7 : St} {H7 : Hp}, Inv X (pins ++ pinsAt fp s5.heap) σ7 H7 s7 → N σ7 H7 → ∃ m, m < n ∧ ∃ i σ' H', Inv X pins σ' H' s7 ∧ tn i s7.heap ∧ (∀ b ∈ fp, H' b = none) ∧ W i m σ' H' := fun {σ7 H7} I7 n7 => by
      obtain ⟨m', hm, w7⟩ := hN σ7 H7 n7
      refine ⟨m', hm, i + 1, σ7, H7, I7.unpinned, T.keep _ _ _ st5 fun b hb o e => (I7.pin (b, o) (List.mem_append_right _ (List.mem_append_right _ (mem_pinsAt hb e)))).1, fun b hb => ?_, w7⟩
      obtain ⟨o, e, d⟩ := T.obj _ _ st5 b hb
      exact (I7.pin (b, o) (List.mem_append_right _ (List.mem_append_right _ (mem_pinsAt hb e)))).2.1
    cases f with
    | next => obtain ⟨σ7, H7, I7, n7⟩ := q7; exact again I7 n7
    | cont => obtain ⟨σ7, H7, I7, n7⟩ := q7; exact again I7 n7
    | brk => obtain ⟨σ7, H7, I7, q7⟩ := q7; exact ⟨σ7, H7, I7.unpinned, q7⟩
    | ret v => obtain ⟨x7, σ7, H7, I7, r7, q7⟩ := q7; exact ⟨x7, σ7, H7, I7.unpinned, r7, q7⟩
end

/-! ### the forms one uses -/
/-- over a list that the body leaves as it is -/
theorem for_list {K : PySem.W.Frag} {a : Addr} {xs : List V} {g : TG} {tb : TS} {D : Ends} {σ : St} {H : Hp} (Pv : Nat → St → Hp → Prop) (h0 : Pv 0 σ H) (hl : ∀ i σ H, i ≤ xs.length → Pv i σ H → SqL K H a xs)
    (hs : ∀ i x σ H, xs[i]? = some x → Pv i σ H → g x σ H fun σ2 H2 => tb { D with nx := Pv (i + 1), ct := Pv (i + 1), bk := D.nx } σ2 H2) (hd : ∀ σ H, Pv xs.length σ H → D.nx σ H) :
    ∃ W : Nat → Nat → St → Hp → Prop, (∃ m, W 0 m σ H) ∧ ∀ i m σ H, W i m σ H →
      ((Itl K a).stop i H ∧ D.nx σ H) ∨ ((Itl K a).go i H ∧ ∃ N : St → Hp → Prop, (∀ σ' H', N σ' H' → ∃ m', m' < m ∧ W (i + 1) m' σ' H') ∧ ∀ x H', (Itl K a).yld i H x H' → g x σ H' fun σ2 H2 => tb { D with nx := N, ct := N, bk := D.nx } σ2 H2) := by
  refine ⟨fun i m σ H => m = xs.length - i ∧ i ≤ xs.length ∧ Pv i σ H, ⟨xs.length, by simp, Nat.zero_le _, h0⟩, ?_⟩
  rintro i m σ H ⟨rfl, hi, p⟩
  have q := hl i σ H hi p
  by_cases hlt : i < xs.length
  · refine .inr ⟨⟨xs, xs[i], q, by simp [hlt]⟩, Pv (i + 1), fun σ' H' p' => ⟨xs.length - (i + 1), by omega, rfl, hlt, p'⟩, fun x H' y => ?_⟩
    obtain ⟨e, y⟩ := y
    subst e
    exact hs i x σ _ (y xs q) p
  · have e : i = xs.length := by omega
    subst e
    exact .inl ⟨⟨xs, q, Nat.le_refl _⟩, hd σ H p⟩
theorem for_tup {K : PySem.W.Frag} {a : Addr} {xs : List V} {g : TG} {tb : TS} {D : Ends} {σ : St} {H : Hp} (Pv : Nat → St → Hp → Prop) (h0 : Pv 0 σ H) (hl : ∀ i σ H, i ≤ xs.length → Pv i σ H → SqT K H a xs)
    (hs : ∀ i x σ H, xs[i]? = some x → Pv i σ H → g x σ H fun σ2 H2 => tb { D with nx := Pv (i + 1), ct := Pv (i + 1), bk := D.nx } σ2 H2) (hd : ∀ σ H, Pv xs.length σ H → D.nx σ H) :
    ∃ W : Nat → Nat → St → Hp → Prop, (∃ m, W 0 m σ H) ∧ ∀ i m σ H, W i m σ H →
      ((Itt K a).stop i H ∧ D.nx σ H) ∨ ((Itt K a).go i H ∧ ∃ N : St → Hp → Prop, (∀ σ' H', N σ' H' → ∃ m', m' < m ∧ W (i + 1) m' σ' H') ∧ ∀ x H', (Itt K a).yld i H x H' → g x σ H' fun σ2 H2 => tb { D with nx := N, ct := N, bk := D.nx } σ2 H2) := by
  refine ⟨fun i m σ H => m = xs.length - i ∧ i ≤ xs.length ∧ Pv i σ H, ⟨xs.length, by simp, Nat.zero_le _, h0⟩, ?_⟩
  rintro i m σ H ⟨rfl, hi, p⟩
  have q := hl i σ H hi p
  by_cases hlt : i < xs.length
  · refine .inr ⟨⟨xs, xs[i], q, by simp [hlt]⟩, Pv (i + 1), fun σ' H' p' => ⟨xs.length - (i + 1), by omega, rfl, hlt, p'⟩, fun x H' y => ?_⟩
    obtain ⟨e, y⟩ := y
    subst e
    exact hs i x σ _ (y xs q) p
  · have e : i = xs.length := by omega
    subst e
    exact .inl ⟨⟨xs, q, Nat.le_refl _⟩, hd σ H p⟩
theorem for_range {lo : Int} {n : Nat} {g : TG} {tb : TS} {D : Ends} {σ : St} {H : Hp} (Pv : Nat → St → Hp → Prop) (h0 : Pv 0 σ H)
    (hs : ∀ i σ H, i < n → Pv i σ H → g (.int (lo + i)) σ H fun σ2 H2 => tb { D with nx := Pv (i + 1), ct := Pv (i + 1), bk := D.nx } σ2 H2) (hd : ∀ σ H, Pv n σ H → D.nx σ H) :
    ∃ W : Nat → Nat → St → Hp → Prop, (∃ m, W 0 m σ H) ∧ ∀ i m σ H, W i m σ H →
      ((Itr lo n).stop i H ∧ D.nx σ H) ∨ ((Itr lo n).go i H ∧ ∃ N : St → Hp → Prop, (∀ σ' H', N σ' H' → ∃ m', m' < m ∧ W (i + 1) m' σ' H') ∧ ∀ x H', (Itr lo n).yld i H x H' → g x σ H' fun σ2 H2 => tb { D with nx := N, ct := N, bk := D.nx } σ2 H2) := by
  refine ⟨fun i m σ H => m = n - i ∧ i ≤ n ∧ Pv i σ H, ⟨n, by simp, Nat.zero_le _, h0⟩, ?_⟩
  rintro i m σ H ⟨rfl, hi, p⟩
  by_cases hlt : i < n
  · refine .inr ⟨hlt, Pv (i + 1), fun σ' H' p' => ⟨n - (i + 1), by omega, rfl, hlt, p'⟩, fun x H' y => ?_⟩
    obtain ⟨e, y⟩ := y
    subst e y
    exact hs i σ _ hlt p
  · have e : i = n := by omega
    subst e
    exact .inl ⟨Nat.le_refl _, hd σ H p⟩
end L2

namespace L2
open PySem PySem.Spec PyProof.Rows

abbrev R2 := V → V → Hp → VK → Prop
/-- a two-place operation on values: f is binaryOp op, inplaceOp op or compareOp op -/
def OpR (X : Cx) (f : Value → Value → Sem Value) (r : R2) : Prop :=
  ∀ (pins : List (Addr × Obj)) (s : Shared) (σ : St) (H : Hp) (x y : V) (v u : Value) (Q : VK), Inv X pins σ H s → RelV x v → RelV y u → r x y H Q →
    wpAny (model X.prog X.w) X.A (f v u) (EP X pins σ Q) X.xe s
/-- a one-place operation -/
def UnR (X : Cx) (f : Value → Sem Value) (r : V → Hp → VK → Prop) : Prop :=
  ∀ (pins : List (Addr × Obj)) (s : Shared) (σ : St) (H : Hp) (x : V) (v : Value) (Q : VK), Inv X pins σ H s → RelV x v → r x H Q →
    wpAny (model X.prog X.w) X.A (f v) (EP X pins σ Q) X.xe s
/-- a call of a value that is known (a builtin, a type) with values -/
def CallR (X : Cx) (f : Value) (r : List V → Hp → VK → Prop) : Prop :=
  ∀ (pins : List (Addr × Obj)) (s : Shared) (σ : St) (H : Hp) (xs : List V) (us : List Value) (Q : VK), Inv X pins σ H s → Vals xs us → r xs H Q →
    wpAny (model X.prog X.w) X.A (call f us) (EP X pins σ Q) X.xe s
/-- a value's truth -/
def TruR (X : Cx) (r : V → Hp → (Bool → Hp → Prop) → Prop) : Prop :=
  ∀ (pins : List (Addr × Obj)) (s : Shared) (σ : St) (H : Hp) (x : V) (v : Value) (Q : Bool → Hp → Prop), Inv X pins σ H s → RelV x v → r x H Q →
    wpAny (model X.prog X.w) X.A (truthy v) (TP X pins σ Q) X.xe s

def tOp (r : R2) (ta tb : TE) : TE := fun σ H Q => ta σ H fun x H1 => tb σ H1 fun y H2 => r x y H2 Q
def tUn (r : V → Hp → VK → Prop) (ta : TE) : TE := fun σ H Q => ta σ H fun x H1 => r x H1 Q
/-- ints in, under C, and a value out -/
def rI (C : Int → Int → Prop) (g : Int → Int → V) : R2 := fun x y H Q => ∃ i j, x = .int i ∧ y = .int j ∧ C i j ∧ Q (g i j) H
def rI0 (g : Int → Int → V) : R2 := fun x y H Q => ∃ i j, x = .int i ∧ y = .int j ∧ Q (g i j) H
def rU (g : Int → V) : V → Hp → VK → Prop := fun x H Q => ∃ i, x = .int i ∧ Q (g i) H

section
variable {X : Cx} {a b c : Expr} {ta tb tc : TE} {pos : Pos}

theorem binT (ha : PE X a ta) (hb : PE X b tb) {pins : List (Addr × Obj)} {s : Shared} {σ : St} {H : Hp} {R : V → V → Hp → Prop} (I : Inv X pins σ H s)
    (h : ta σ H fun x H1 => tb σ H1 fun y H2 => R x y H2) {Q : Value → Shared → Prop} {f : Value → Value → Sem Value}
    (hf : ∀ v u s2 x y H2, Inv X pins σ H2 s2 → RelV x v → RelV y u → R x y H2 → wpAny (model X.prog X.w) X.A (f v u) Q X.xe s2) :
    wpAny (model X.prog X.w) X.A (eval a X.env) (fun v s₁ => wpAny (model X.prog X.w) X.A (eval b X.env) (fun u s₂ => wpAny (model X.prog X.w) X.A (f v u) Q X.xe s₂) X.xe s₁) X.xe s := by
  refine thn (ha pins s σ H _ I h) fun v s1 ⟨x, H1, I1, r1, q1⟩ => ?_
  refine thn (hb pins s1 σ H1 _ I1 q1) fun u s2 ⟨y, H2, I2, r2, q2⟩ => ?_
  exact hf v u s2 x y H2 I2 r1 r2 q2

theorem pe_op {op : Operator} {r : R2} (ho : OpR X (binaryOp op) r) (ha : PE X a ta) (hb : PE X b tb) : PE X (.BinOp a op b pos) (tOp r ta tb) := by
  intro pins s σ H Q I h
  exact wpAny_BinOp (binT ha hb I h fun v u s2 x y H2 I2 rx ry q => ho pins s2 σ H2 x y v u Q I2 rx ry q)
theorem pe_un {op : UnaryOp} {r : V → Hp → VK → Prop} (ho : UnR X (unaryOp op) r) (ha : PE X a ta) : PE X (.UnaryOp op a pos) (tUn r ta) := by
  intro pins s σ H Q I h
  exact UnaryOp_ (thn (ha pins s σ H _ I h) fun v s1 ⟨x, H1, I1, r1, q1⟩ => ho pins s1 σ H1 x v Q I1 r1 q1)
/-! ### ints -/
theorem opI {f : Value → Value → Sem Value} {C : Int → Int → Prop} {g : Int → Int → Int}
    (rule : ∀ (i j : Int) (t u : Tok) (s : Shared) (Q : Value → Shared → Prop) (E : Value → Shared → Prop), C i j → Q (.int (g i j) s.toks) { s with toks := s.toks + 1 } → wpAny (model X.prog X.w) X.A (f (.int i t) (.int j u)) Q E s) :
    OpR X f (rI C fun i j => .int (g i j)) := by
  intro pins s σ H x y v u Q I rx ry h
  obtain ⟨i, j, rfl, rfl, hc, q⟩ := h
  obtain ⟨t, rfl⟩ := rx
  obtain ⟨t', rfl⟩ := ry
  exact rule i j t t' s _ _ hc ⟨.int (g i j), H, I.tok _, ⟨_, rfl⟩, q⟩
theorem opI0 {f : Value → Value → Sem Value} {g : Int → Int → Int}
    (rule : ∀ (i j : Int) (t u : Tok) (s : Shared) (Q : Value → Shared → Prop) (E : Value → Shared → Prop), Q (.int (g i j) s.toks) { s with toks := s.toks + 1 } → wpAny (model X.prog X.w) X.A (f (.int i t) (.int j u)) Q E s) :
    OpR X f (rI0 fun i j => .int (g i j)) := by
  intro pins s σ H x y v u Q I rx ry h
  obtain ⟨i, j, rfl, rfl, q⟩ := h
  obtain ⟨t, rfl⟩ := rx
  obtain ⟨t', rfl⟩ := ry
  exact rule i j t t' s _ _ ⟨.int (g i j), H, I.tok _, ⟨_, rfl⟩, q⟩
theorem opB0 {f : Value → Value → Sem Value} {g : Int → Int → Bool}
    (rule : ∀ (i j : Int) (t u : Tok) (s : Shared) (Q : Value → Shared → Prop) (E : Value → Shared → Prop), Q (.bool (g i j)) s → wpAny (model X.prog X.w) X.A (f (.int i t) (.int j u)) Q E s) :
    OpR X f (rI0 fun i j => .bl (g i j)) := by
  intro pins s σ H x y v u Q I rx ry h
  obtain ⟨i, j, rfl, rfl, q⟩ := h
  obtain ⟨t, rfl⟩ := rx
  obtain ⟨t', rfl⟩ := ry
  exact rule i j t t' s _ _ ⟨.bl (g i j), H, I, rfl, q⟩

def CPow (i j : Int) : Prop := 0 ≤ j ∧ j ≤ 1000000 ∧ i.natAbs < 2 ^ 64
def CMul (i j : Int) : Prop := (-(2 ^ 64) < i ∧ i < 2 ^ 64) ∨ (-(2 ^ 64) < j ∧ j < 2 ^ 64)
theorem CMul.ok {i j : Int} (h : CMul i j) : IntMulOk i j := by
  rcases h with ⟨h1, h2⟩ | ⟨h1, h2⟩
  · exact .of_left (intBits_le_64 h1 h2)
  · exact .of_right (intBits_le_64 h1 h2)
theorem op_add : OpR X (binaryOp .Add) (rI0 fun i j => .int (i + j)) := opI0 fun _ _ _ _ _ _ _ q => add_int q
theorem op_sub : OpR X (binaryOp .Sub) (rI0 fun i j => .int (i - j)) := opI0 fun _ _ _ _ _ _ _ q => sub_int q
theorem op_mul : OpR X (binaryOp .Mult) (rI CMul fun i j => .int (i * j)) := opI fun _ _ _ _ _ _ _ hc q => mul_int q hc.ok
/-- % by a positive divisor of any size -/
theorem op_mod : OpR X (binaryOp .Mod) (rI (fun _ j => 0 < j) fun i j => .int (i % j)) := opI fun i j _ _ _ _ _ hc q => by
  have h1 : (0 : Int) < j := hc
  exact mod_int' (by omega) (by rw [Int.fmod_eq_emod_of_nonneg i (by omega)]; exact q)
theorem op_pow : OpR X (binaryOp .Pow) (rI CPow fun i j => .int (i ^ j.toNat)) := opI fun _ _ _ _ _ _ _ hc q => pow_int_small hc.1 hc.2.1 hc.2.2 q
theorem unI {f : Value → Sem Value} {g : Int → Int}
    (rule : ∀ (i : Int) (t : Tok) (s : Shared) (Q : Value → Shared → Prop) (E : Value → Shared → Prop), Q (.int (g i) s.toks) { s with toks := s.toks + 1 } → wpAny (model X.prog X.w) X.A (f (.int i t)) Q E s) :
    UnR X f (rU fun i => .int (g i)) := by
  intro pins s σ H x v Q I rx h
  obtain ⟨i, rfl, q⟩ := h
  obtain ⟨t, rfl⟩ := rx
  exact rule i t s _ _ ⟨.int (g i), H, I.tok _, ⟨_, rfl⟩, q⟩
theorem un_neg : UnR X (unaryOp .USub) (rU fun i => .int (-i)) := unI fun _ _ _ _ _ q => neg_int q
/-! ### bools among ints: n += (a < b) -/
end

/-! ### comparisons -/
/-- the scalars that == tells apart as data does -/
def scal : V → V → Bool
  | .non, .non => true | .non, .int _ => true | .int _, .non => true | .non, .bl _ => true | .bl _, .non => true | .non, .str _ => true | .str _, .non => true
  | .int _, .int _ => true | .bl _, .bl _ => true | .str _, .str _ => true | .byt _, .byt _ => true
  | .int _, .str _ => true | .str _, .int _ => true | .bl _, .str _ => true | .str _, .bl _ => true
  | _, _ => false
def rEq : R2 := fun x y H Q => scal x y = true ∧ Q (.bl (decide (x = y))) H
theorem dec_int {i j : Int} : decide (V.int i = V.int j) = (i == j) := by
  rw [Bool.eq_iff_iff]
  simp
theorem dec_bl {i j : Bool} : decide (V.bl i = V.bl j) = (i == j) := by
  rw [Bool.eq_iff_iff]
  simp
theorem dec_str {i j : Str} : decide (V.str i = V.str j) = (i == j) := by
  rw [Bool.eq_iff_iff]
  simp
theorem dec_byt {i j : Array UInt8} : decide (V.byt i = V.byt j) = (i.toList == j.toList) := by
  rw [Bool.eq_iff_iff]
  cases i
  cases j
  simp

section
variable {X : Cx} {a b c : Expr} {ta tb tc : TE} {pos : Pos}
theorem fin_bl {pins : List (Addr × Obj)} {σ : St} {H : Hp} {s : Shared} {Q : VK} {k k' : Bool} (I : Inv X pins σ H s) (q : Q (.bl k) H) (e : k = k') : EP X pins σ Q (.bool k') s := by
  subst e
  exact ⟨.bl k, H, I, rfl, q⟩
theorem op_eq : OpR X (compareOp .Eq) rEq := by
  intro pins s σ H x y v u Q I rx ry h
  obtain ⟨hs, q⟩ := h
  cases x with
  | non =>
    cases rx
    cases y with
    | non => cases ry; exact PySem.EqNone.eq_none_none (fin_bl I q (by simp))
    | bl j => cases ry; exact PySem.EqNone.eq_none_bool (fin_bl I q (by simp))
    | int j => obtain ⟨t', rfl⟩ := ry; exact PySem.EqNone.eq_none_int (fin_bl I q (by simp))
    | str j => obtain ⟨t', rfl⟩ := ry; exact PySem.EqNone.eq_none_str (fin_bl I q (by simp))
    | _ => exact absurd (show false = true from hs) Bool.false_ne_true
  | bl i =>
    cases rx
    cases y with
    | non => cases ry; exact PySem.EqNone.eq_bool_none (fin_bl I q (by simp))
    | bl j => cases ry; exact eq_bool (fin_bl I q dec_bl)
    | str j => obtain ⟨t', rfl⟩ := ry; exact PySem.EqMixed.eq_bool_str (fin_bl I q (by simp))
    | _ => exact absurd (show false = true from hs) Bool.false_ne_true
  | int i =>
    obtain ⟨t, rfl⟩ := rx
    cases y with
    | non => cases ry; exact PySem.EqNone.eq_int_none (fin_bl I q (by simp))
    | int j => obtain ⟨t', rfl⟩ := ry; exact eq_int (fin_bl I q dec_int)
    | str j => obtain ⟨t', rfl⟩ := ry; exact PySem.EqMixed.eq_int_str (fin_bl I q (by simp))
    | _ => exact absurd (show false = true from hs) Bool.false_ne_true
  | str i =>
    obtain ⟨t, rfl⟩ := rx
    cases y with
    | non => cases ry; exact PySem.EqNone.eq_str_none (fin_bl I q (by simp))
    | bl j => cases ry; exact PySem.EqMixed.eq_str_bool (fin_bl I q (by simp))
    | int j => obtain ⟨t', rfl⟩ := ry; exact PySem.EqMixed.eq_str_int (fin_bl I q (by simp))
    | str j => obtain ⟨t', rfl⟩ := ry; exact eq_str (fin_bl I q dec_str)
    | _ => exact absurd (show false = true from hs) Bool.false_ne_true
  | byt i =>
    obtain ⟨t, rfl⟩ := rx
    cases y with
    | byt j => obtain ⟨t', rfl⟩ := ry; exact PySem.W.eq_bytes (fin_bl I q dec_byt)
    | _ => exact absurd (show false = true from hs) Bool.false_ne_true
  | _ => cases y <;> exact absurd (show false = true from hs) Bool.false_ne_true
theorem op_lt : OpR X (compareOp .Lt) (rI0 fun i j => .bl (decide (i < j))) := opB0 fun _ _ _ _ _ _ _ q => lt_int q
theorem op_gt : OpR X (compareOp .Gt) (rI0 fun i j => .bl (decide (j < i))) := opB0 fun _ _ _ _ _ _ _ q => gt_int q
theorem op_ge : OpR X (compareOp .GtE) (rI0 fun i j => .bl (decide (j ≤ i))) := opB0 fun _ _ _ _ _ _ _ q => ge_int q
/-- two rules for one operation: by cases -/
theorem OpR.or {f : Value → Value → Sem Value} {r r' : R2} (h : OpR X f r) (h' : OpR X f r') : OpR X f (fun x y H Q => r x y H Q ∨ r' x y H Q) := by
  intro pins s σ H x y v u Q I rx ry q
  rcases q with q | q
  · exact h pins s σ H x y v u Q I rx ry q
  · exact h' pins s σ H x y v u Q I rx ry q

theorem nomark (b : Expr) {op : CmpOp} (h : op ≠ .In := by decide) (h2 : op ≠ .NotIn := by decide) : behindInMarks op b = false := by
  have e1 : (op == CmpOp.In) = false := by cases op <;> first | rfl | exact absurd rfl h
  have e2 : (op == CmpOp.NotIn) = false := by cases op <;> first | rfl | exact absurd rfl h2
  cases b <;> simp [behindInMarks, e1, e2]
/-- a comparison as a value; hm: nomark b, or (for in, not in) by with_unfolding_all rfl -/
theorem pe_cmpR {op : CmpOp} {r : R2} (ho : OpR X (compareOp op) r) (ha : PE X a ta) (hb : PE X b tb) (hm : behindInMarks op b = false) : PE X (.Compare a [op] [b] pos) (tOp r ta tb) := by
  intro pins s σ H Q I h
  exact wpAny_Compare1 (binT ha hb I h fun v u s2 x y H2 I2 rx ry q => ho pins s2 σ H2 x y v u Q I2 rx ry q) hm
/-- a reading of a value as a test -/
def tTest (t : TE) : TT := fun σ H Q => t σ H fun x H' => ∃ k, x = .bl k ∧ Q k H'
theorem pt_cmpR {op : CmpOp} {r : R2} (ho : OpR X (compareOp op) r) (ha : PE X a ta) (hb : PE X b tb) (hm : behindInMarks op b = false) : PT X (.Compare a [op] [b] pos) (tTest (tOp r ta tb)) := by
  intro pins s σ H Q I h
  refine wpAny_isTrue_Compare1 (thn (ha pins s σ H _ I h) fun v s1 ⟨x, H1, I1, r1, q1⟩ => thn (hb pins s1 σ H1 _ I1 q1) fun u s2 ⟨y, H2, I2, r2, q2⟩ =>
    thn (ho pins s2 σ H2 x y v u _ I2 r1 r2 q2) fun c s3 ⟨z, H3, I3, r3, k, e, q3⟩ => ?_) hm
  subst e
  cases r3
  exact wpAny_truthy_bool ⟨H3, I3, q3⟩
/-! ### truth -/
/-- a value's truth by the abstract heap -/
def TruV (K : PySem.W.Frag) (x : V) (H : Hp) (k : Bool) : Prop :=
  match x with
  | .non => k = false
  | .bl b => k = b
  | .int i => k = (i != 0)
  | .str y => y.length ≤ sizeLine ∧ k = ((y.length : Int) != 0)
  | .byt y => y.size ≤ sizeLine ∧ k = ((y.size : Int) != 0)
  | .ref p => (∃ xs, SqL K H p xs ∧ k = !xs.isEmpty) ∨ (∃ xs, SqT K H p xs ∧ k = !xs.isEmpty) ∨ ∃ kvs, H p = some (.dK kvs) ∧ k = !kvs.isEmpty
  | _ => False
theorem isEmpty_kv {κ : Type} {kvs : List (κ × V)} {vs : List (κ × Value)} (r : KV kvs vs) : (!vs.isEmpty) = !kvs.isEmpty := by
  cases r <;> rfl
theorem isEmpty_of {xs : List V} {its : List Value} (r : Vals xs its) : (!its.toArray.isEmpty) = !xs.isEmpty := by
  cases r <;> simp
theorem line63 : (sizeLine : Nat) < 2 ^ 63 := by rw [sizeLine_eq]; decide
theorem tru_ok : TruR X (fun x H Q => ∃ k, TruV X.K x H k ∧ Q k H) := by
  intro pins s σ H x v Q I rx h
  obtain ⟨k, e, q⟩ := h
  have hl := line63
  have hs : sizeLine = 16777216 := sizeLine_eq
  cases x with
  | non =>
    cases rx
    have e' : k = false := e
    subst e'
    exact truthy_none ⟨H, I, q⟩
  | bl b =>
    cases rx
    have e' : k = b := e
    subst e'
    exact wpAny_truthy_bool ⟨H, I, q⟩
  | int i =>
    obtain ⟨t, rfl⟩ := rx
    have e' : k = (i != 0) := e
    subst e'
    exact PySem.P.truthy_int ⟨H, I, q⟩
  | str y =>
    obtain ⟨t, rfl⟩ := rx
    obtain ⟨hy, e'⟩ : y.length ≤ sizeLine ∧ k = ((y.length : Int) != 0) := e
    subst e'
    exact PySem.P.truthy_str (by omega) ⟨H, I.tok _, q⟩
  | byt y =>
    obtain ⟨t, rfl⟩ := rx
    obtain ⟨hy, e'⟩ : y.size ≤ sizeLine ∧ k = ((y.size : Int) != 0) := e
    subst e'
    exact PySem.W.truthy_bytes (by omega) ⟨H, I.tok _, q⟩
  | ref p =>
    cases rx
    have e' : (∃ xs, SqL X.K H p xs ∧ k = !xs.isEmpty) ∨ (∃ xs, SqT X.K H p xs ∧ k = !xs.isEmpty) ∨ ∃ kvs, H p = some (.dK kvs) ∧ k = !kvs.isEmpty := e
    rcases e' with ⟨xs, hx, e'⟩ | ⟨xs, hx, e'⟩ | ⟨kvs, hx, e'⟩
    · subst e'
      obtain ⟨its, r, pl, hz⟩ := I.list hx
      have hlen := r.length
      exact wpAny_truthy_list pl.isList (by simp only [List.size_toArray]; omega) ⟨H, I.tok _, by rw [isEmpty_of r]; exact q⟩
    · subst e'
      obtain ⟨its, r, pl, hz⟩ := I.tuple hx
      have hlen := r.length
      exact truthy_tuple pl (by simp only [List.size_toArray]; omega) ⟨H, I.tok _, by rw [isEmpty_of r]; exact q⟩
    · subst e'
      obtain ⟨hz, hS, vs, r, m⟩ : kvs.length ≤ sizeLine ∧ (p == sysModules) = false ∧ ∃ vs, KV kvs vs ∧ s.heap.DictOf (mixKind X.prog X.w) p vs := I.hok p _ hx
      have hlen : kvs.length = vs.length := Paired.length r
      exact wpAny_truthy_dict hS m (by omega) ⟨H, I.tok _, by rw [isEmpty_kv r]; exact q⟩
  | _ => exact (show False from e).elim
/-- any expression whose test is its value's truth (a name, a call, a subscript, a field ..: he by fun _ => rfl) -/
theorem pt_truth (ha : PE X a ta) (he : ∀ whole, isTrue a X.env whole = (do let v ← whole; standAt a.pos; holding [v] (truthy v))) :
    PT X a (fun σ H Q => ta σ H fun x H' => ∃ k, TruV X.K x H' k ∧ Q k H') := by
  intro pins s σ H Q I h
  exact isTrue_plain (thn (ha pins s σ H _ I h) fun v s1 ⟨x, H1, I1, r1, q1⟩ => tru_ok pins s1 σ H1 x v Q I1 r1 q1) (he _)

/-! ### strs and bytes -/
theorem op_add_str : OpR X (binaryOp .Add) (fun x y H Q => ∃ i j, x = .str i ∧ y = .str j ∧ i.length + j.length ≤ sizeLine ∧ Q (.str (i ++ j)) H) := by
  intro pins s σ H x y v u Q I rx ry h
  obtain ⟨i, j, rfl, rfl, hz, q⟩ := h
  obtain ⟨t, rfl⟩ := rx
  obtain ⟨t', rfl⟩ := ry
  exact add_str (fun t' tk => ⟨.str (i ++ j), H, I.tok _, ⟨_, rfl⟩, q⟩) hz
/-! ### scalar builtins, by CallR -/
theorem vals1 {x : V} {us : List Value} (r : Vals [x] us) : ∃ u, us = [u] ∧ RelV x u := by
  cases r with
  | cons r1 r2 => cases r2; exact ⟨_, rfl, r1⟩
theorem vals2 {x y : V} {us : List Value} (r : Vals [x, y] us) : ∃ u w', us = [u, w'] ∧ RelV x u ∧ RelV y w' := by
  cases r with
  | cons r1 r2 =>
    cases r2 with
    | cons r3 r4 => cases r4; exact ⟨_, _, rfl, r1, r3⟩
theorem call_max2 (hc : X.calm = true) : CallR X (.builtin "max") (fun xs H Q => ∃ i j, xs = [.int i, .int j] ∧ Q (.int (if j > i then j else i)) H) := by
  intro pins s σ H xs us Q I r h
  obtain ⟨i, j, rfl, q⟩ := h
  obtain ⟨u, w', rfl, ⟨t, rfl⟩, ⟨t', rfl⟩⟩ := vals2 r
  refine max_two_ints (I.ok.hd hc) fun h' tk k => ⟨_, H, I.kept k, ?_, q⟩
  by_cases hj : j > i
  · rw [if_pos hj, if_pos hj]; exact ⟨_, rfl⟩
  · rw [if_neg hj, if_neg hj]; exact ⟨_, rfl⟩
theorem call_min2 (hc : X.calm = true) : CallR X (.builtin "min") (fun xs H Q => ∃ i j, xs = [.int i, .int j] ∧ Q (.int (if j < i then j else i)) H) := by
  intro pins s σ H xs us Q I r h
  obtain ⟨i, j, rfl, q⟩ := h
  obtain ⟨u, w', rfl, ⟨t, rfl⟩, ⟨t', rfl⟩⟩ := vals2 r
  refine min_two_ints (I.ok.hd hc) fun h' tk k => ⟨_, H, I.kept k, ?_, q⟩
  by_cases hj : j < i
  · rw [if_pos hj, if_pos hj]; exact ⟨_, rfl⟩
  · rw [if_neg hj, if_neg hj]; exact ⟨_, rfl⟩
theorem call_int1 : CallR X (.type "int") (fun xs H Q => (∃ i, xs = [.int i] ∧ Q (.int i) H) ∨ ∃ k, xs = [.bl k] ∧ Q (.int (if k then 1 else 0)) H) := by
  intro pins s σ H xs us Q I r h
  rcases h with ⟨i, rfl, q⟩ | ⟨k, rfl, q⟩
  · obtain ⟨u, rfl, t, rfl⟩ := vals1 r
    exact call_int_int ⟨.int i, H, I, ⟨_, rfl⟩, q⟩
  · obtain ⟨u, rfl, r1⟩ := vals1 r
    cases r1
    exact call_int_bool ⟨.int (if k then 1 else 0), H, I.tok _, ⟨_, rfl⟩, q⟩
end
end L2

namespace L2
open PySem PySem.Spec PyProof.Rows

/-! ### an instance, its attributes a map -/
structure ObjM (h : Heap) (x dx C : Addr) (mA : Str → Option Value) : Prop where
  obj : h.get? x = some (PySem.W.instObj C dx)
  ns : h.Ns1 dx mA
  ne : dx ≠ x

theorem lookIn_ns {h : Heap} {dx : Addr} {mA : Str → Option Value} (n : h.Ns1 dx mA) : ∃ od, h.get? dx = some od ∧ ∀ name, PySem.W.lookIn name od = some (mA name) := by
  obtain ⟨o, es, ep, ho, hd, hk, _, hm⟩ := n
  refine ⟨o, ho, fun name => ?_⟩
  have e := hm name
  unfold nsFind findBy at e
  rw [← Array.find?_toList] at e
  unfold PySem.W.lookIn
  rw [hd]
  dsimp only
  split
  · rename_i y q
    rw [q] at e
    exact congrArg some e
  · rename_i q
    rw [q] at e
    have a : es.toList.any (·.refKey) = false := by
      rw [List.any_eq_false]
      intro y hy
      obtain ⟨z, t, hkey⟩ := hk y (Array.mem_toList_iff.mp hy)
      simp [DictEntry.refKey, hkey]
    have a' : ¬ es.toList.any (·.refKey) = true := by rw [a]; exact Bool.false_ne_true
    rw [if_neg a']
    exact congrArg some e

theorem ObjM.look {h : Heap} {x dx C : Addr} {mA : Str → Option Value} (I : ObjM h x dx C mA) : ∃ od, PySem.W.InstAt h x (PySem.W.instObj C dx) C (some od) ∧ ∀ name, PySem.W.lookIn name od = some (mA name) :=
  let ⟨od, ho, hl⟩ := lookIn_ns I.ns
  ⟨od, ⟨I.obj, rfl, rfl, ho⟩, hl⟩

section
variable {prog : Program} {w : World} {A : Around} {E : Value → Shared → Prop} {s : Shared} {K : PySem.W.Frag} {x dx C f : Addr} {mA : Str → Option Value} {name : Str} {v : Value}

end

/-! ### the attributes as a list of pairs -/
theorem RelO.some_of {v : V} {o : Option Value} (r : RelO (some v) o) : ∃ u, o = some u ∧ RelV v u := by
  cases o with
  | none => exact (show False from r).elim
  | some u => exact ⟨u, rfl, r⟩
theorem RelO.none_of {o : Option Value} (r : RelO none o) : o = none := by
  cases o with
  | none => rfl
  | some u => exact (show False from r).elim
section
variable {P : Program} {w : World} {H H' : Hp} {h h' : Heap} {a C dx : Addr} {fs fs' : List (Str × V)}
theorem ins_get (hok : HOk P w H h) (e : H a = some (.ins C dx fs)) : ∃ mA, ObjM h a dx C mA ∧ (∀ f, RelO (fs.lookup f) (mA f)) ∧ PySem.Within mA (fs.map (·.1)) ∧ fs.length ≤ 1000 ∧ H dx = some (.own a) := by
  obtain ⟨d, z, ne, ob, mA, n, r, q⟩ := (show ObjOk P w H h a (.ins C dx fs) from hok a _ e)
  exact ⟨mA, ⟨ob, n, ne⟩, r, q, z, d⟩
end

/-! ### what of the text a class must have -/
structure Cls (K : PySem.W.Frag) (C : Addr) : Prop where
  pg : PySem.W.plainGet K C Str.empty = true
  hd : PySem.W.hasDictIn K C = true
  po : PySem.W.plainOver K C = true
  sa : PySem.W.findIn K (.ref C) "__setattr__" = some (some (.builtin "object.__setattr__"))
theorem Cls.get {K : PySem.W.Frag} {C : Addr} (c : Cls K C) (f : Str) : PySem.W.plainGet K C f = true := c.pg
/-- a constant of the class -/
structure Con (K : PySem.W.Frag) (C : Addr) (f : Str) (v : V) (u : Value) : Prop where
  at_ : PySem.W.findIn K (.ref C) f = some (some u)
  rel : RelV v u
  get : PySem.W.specialIn K u "__get__" = some none
  cp : PySem.W.copiedNames.contains f = false
/-- a method: a plain def of the class or of one above it -/
structure Meth (K : PySem.W.Frag) (C : Addr) (m : Str) (f : Addr) : Prop where
  at_ : PySem.W.findIn K (.ref C) m = some (some (.ref f))
  fn : PySem.W.isFn K (.ref f) = true
  kp : PySem.W.keepIn K (.ref f) = true

section
variable {X : Cx} {pins : List (Addr × Obj)} {σ : St} {H : Hp} {s : Shared} {a C dx : Addr} {fs : List (Str × V)} {f : Str} {v : V} {A : Around} {E : Value → Shared → Prop}

/-- a new instance, tracked, without attributes -/
theorem Inv.made (I : Inv X pins σ H s) : Inv X pins σ (upd (upd H s.heap.objs.size (.own (s.heap.objs.size + 1))) (s.heap.objs.size + 1) (.ins C s.heap.objs.size []))
    { s with heap := (s.heap.push PySem.W.emptyDict).push (PySem.W.instObj C s.heap.objs.size) } := by
  have e1 : (s.heap.push PySem.W.emptyDict).get? s.heap.objs.size = some PySem.W.emptyDict := Heap.get?_push_size s.heap rfl
  have e2 : ((s.heap.push PySem.W.emptyDict).push (PySem.W.instObj C s.heap.objs.size)).get? (s.heap.objs.size + 1) = some (PySem.W.instObj C s.heap.objs.size) := by
    have := Heap.get?_push_size (s.heap.push PySem.W.emptyDict) (o := PySem.W.instObj C s.heap.objs.size) rfl
    rwa [Heap.size_push] at this
  have e3 : (s.heap.push PySem.W.emptyDict).Ns s.heap.objs.size (fun _ => none) := ⟨PySem.W.emptyDict, #[], _, e1, rfl, (fun e he => absurd he (by simp)), fun _ => rfl⟩
  have I1 := I.laid (a := s.heap.objs.size) (o := .own (s.heap.objs.size + 1)) (h' := s.heap.push PySem.W.emptyDict) (t' := s.toks) (fun b u q => Heap.get?_push_of_some _ q) (Nat.le_refl _) ⟨_, e1⟩
  refine I1.laid (a := s.heap.objs.size + 1) (o := .ins C s.heap.objs.size []) (t' := s.toks) (fun b u q => Heap.get?_push_of_some _ q) (Nat.le_of_eq (Heap.size_push _ _)) ?_
  have ne : s.heap.objs.size ≠ s.heap.objs.size + 1 := Nat.ne_of_lt (Nat.lt_succ_self _)
  refine ⟨by rw [upd_ne ne, upd_same], Nat.zero_le _, ne, e2, fun _ => none, (Heap.Ns1.of_empty e3).at fun o q => Heap.get?_push_of_some _ q, fun _ => True.intro, fun y hy => absurd rfl hy⟩

end

/-! ### readings and rules -/
section
variable {X : Cx} {o e value : Expr} {f : Str} {pos pos' tpos : Pos} {ta tv : TE}
end

/-! ### isinstance -/
section
variable {X : Cx} {pins : List (Addr × Obj)} {σ : St} {H : Hp} {s : Shared} {A : Around} {E : Value → Shared → Prop} {Q : Value → Shared → Prop} {c : Value} {b : Bool}
/-- the type of a value, as the fragment's deciders take it; for an instance its class -/
inductive TyOf (K : PySem.W.Frag) (H : Hp) : V → Value → Prop where
  | non : TyOf K H .non (.type "NoneType")
  | bl (x : Bool) : TyOf K H (.bl x) (.type "bool")
  | int (i : Int) : TyOf K H (.int i) (.type "int")
  | str (x : Str) : TyOf K H (.str x) (.type "str")
  | flt (x : UInt64) : TyOf K H (.flt x) (.type "float")
  | lst {a : Addr} {xs : List V} (e : H a = some (.lst xs)) : TyOf K H (.ref a) (.type "list")
  | frz {a : Addr} {o : Obj} {xs : List V} (e : H a = some (.frz o (.lst xs))) : TyOf K H (.ref a) (.type "list")
  | tup {a : Addr} {xs : List V} (e : H a = some (.tup xs)) : TyOf K H (.ref a) (.type "tuple")
  | dK {a : Addr} {kvs : List (Key × V)} (e : H a = some (.dK kvs)) : TyOf K H (.ref a) (.type "dict")
  | dT {a : Addr} {kvs : List (List Key × V)} (e : H a = some (.dT kvs)) : TyOf K H (.ref a) (.type "dict")
  | ins {a C dx : Addr} {fs : List (Str × V)} (e : H a = some (.ins C dx fs)) (cl : Cls K C) (ha : PySem.W.findIn K (.ref C) "__class__" = some (some (.builtin "object.__class__")))
      (hn : PySem.W.specialIn K (.builtin "object.__class__") "__get__" = some (some (.builtin "getset_descriptor.__get__"))) (htk : PySem.W.takesIn K (.builtin "object.__class__") = some true)
      (hm : PySem.W.mroIn K C (.type "object") = some true) : TyOf K H (.ref a) (.ref C)
/-- isinstance(x, c) for one class c, a built-in or an own one: kitOne's answer -/
theorem isinst_ok {x : V} {u t : Value} (I : Inv X pins σ H s) (rx : RelV x u) (ty : TyOf X.K H x t) (e : PySem.W.kitOne X.K t c = some b) (h : ∀ tk, Q (.bool b) { s with toks := tk }) :
    wpAny (model X.prog X.w) A (call (.builtin "isinstance") [u, c]) Q E s := by
  cases ty with
  | non => cases (show u = Value.none from rx); exact PySem.W.kia_one PySem.W.kitx_none I.kIn True.intro e (fun z => nomatch z) h
  | bl y => cases (show u = Value.bool y from rx); exact PySem.W.kia_one PySem.W.kitx_bool I.kIn True.intro e (fun z => nomatch z) h
  | int i => obtain ⟨t, q⟩ := (show ∃ t, u = Value.int i t from rx); cases q; exact PySem.W.kia_one PySem.W.kitx_int I.kIn True.intro e (fun z => nomatch z) h
  | str y => obtain ⟨t, q⟩ := (show ∃ t, u = Value.str y t from rx); cases q; exact PySem.W.kia_one PySem.W.kitx_str I.kIn True.intro e (fun z => nomatch z) h
  | flt y => obtain ⟨t, q⟩ := (show ∃ t, u = Value.float y t from rx); cases q; exact PySem.W.kia_one PySem.W.kitx_float I.kIn True.intro e (fun z => nomatch z) h
  | @lst a xs ea =>
    cases (show u = Value.ref a from rx)
    obtain ⟨_, _, n, _, h1⟩ := (show ObjOk X.prog X.w H s.heap a (.lst xs) from I.hok a _ ea)
    exact PySem.W.kia_one PySem.W.kitx_list I.kIn ⟨_, h1, rfl⟩ e (fun z => nomatch z) h
  | @frz a ob xs ea =>
    cases (show u = Value.ref a from rx)
    obtain ⟨_, _, _, n, _, h1⟩ := (show ObjOk X.prog X.w H s.heap a (.frz ob (.lst xs)) from I.hok a _ ea)
    exact PySem.W.kia_one PySem.W.kitx_list I.kIn ⟨_, h1, rfl⟩ e (fun z => nomatch z) h
  | @tup a xs ea =>
    cases (show u = Value.ref a from rx)
    obtain ⟨_, _, _, p⟩ := (show ObjOk X.prog X.w H s.heap a (.tup xs) from I.hok a _ ea)
    obtain ⟨o, h1, h2, _⟩ := p
    exact PySem.W.kia_one PySem.W.kitx_tuple I.kIn ⟨o, h1, h2⟩ e (fun z => nomatch z) h
  | @dK a kvs ea =>
    cases (show u = Value.ref a from rx)
    obtain ⟨_, _, vs, _, p⟩ := (show ObjOk X.prog X.w H s.heap a (.dK kvs) from I.hok a _ ea)
    obtain ⟨o, es, ep, h1, h2, _⟩ := p
    exact PySem.W.kia_one PySem.W.kitx_dict I.kIn ⟨o, h1, h2.1⟩ e (fun z => nomatch z) h
  | @dT a kvs ea =>
    cases (show u = Value.ref a from rx)
    obtain ⟨_, _, xs, _, o, es, ep, h1, h2, _⟩ := (show ObjOk X.prog X.w H s.heap a (.dT kvs) from I.hok a _ ea)
    exact PySem.W.kia_one PySem.W.kitx_dict I.kIn ⟨o, h1, h2.1⟩ e (fun z => nomatch z) h
  | @ins a C dx fs ea cl ha hn htk hm =>
    cases (show u = Value.ref a from rx)
    obtain ⟨mA, O, _⟩ := ins_get I.hok ea
    obtain ⟨od, J, _⟩ := O.look
    exact PySem.W.kia_one (PySem.W.kitx_own (cl.get _) cl.hd ha hn htk hm) I.kIn J e (fun z => nomatch z) h
end
end L2

namespace L2
open PySem PySem.Spec PyProof.Rows

/-! ### room -/
structure Room (k : Nat) (A : Around) : Prop where
  hd : A.handled = none
  dp : A.depth + 3 * k + 5 < recursionLimit
  un : A.units + 16 * k + 200 < cLine
  gd : A.guards = some []
theorem Room.mono {j k : Nat} {A : Around} (r : Room k A) (h : j ≤ k) : Room j A := ⟨r.hd, by have := r.dp; omega, by have := r.un; omega, r.gd⟩
theorem Room.deeper {k : Nat} {A : Around} (r : Room (k + 1) A) (env : Env) : Room k (A.deeper env) :=
  ⟨r.hd, by have := r.dp; show A.depth + 1 + 3 * k + 5 < _; omega, by have := r.un; show A.units + 3 + 16 * k + 200 < _; omega, r.gd⟩
theorem Room.in1 {k : Nat} {A : Around} (r : Room (k + 1) A) : Room k A.in1 :=
  ⟨r.hd, by have := r.dp; show A.depth + 3 * k + 5 < _; omega, by have := r.un; show A.units + 1 + 16 * k + 200 < _; omega, r.gd⟩
theorem Room.depth {k : Nat} {A : Around} (r : Room k A) : A.depth < recursionLimit := by have := r.dp; omega
theorem Room.units {k : Nat} {A : Around} (r : Room k A) : A.units + 64 < cLine := by have := r.un; omega
/-! ### argument lists and displays -/
def tNil : TA := fun _ H Q => Q [] H
def tCons (ta : TE) (tr : TA) : TA := fun σ H Q => ta σ H fun x H1 => tr σ H1 fun xs H2 => Q (x :: xs) H2
section
variable {X : Cx} {e : Expr} {es : List Expr} {te : TE} {t : TA} {pos : Pos}
theorem pa_nil : PA X [] tNil := fun _ _ _ _ H Q I h => Calls.spliced_nil ⟨[], H, I, .nil, h⟩
theorem pa_cons (ha : PE X e te) (hr : PA X es t) (hs : starEach (e :: es) X.env = (false, eval e X.env) :: starEach es X.env := by rfl) : PA X (e :: es) (tCons te t) := by
  intro pos pins s σ H Q I h
  rw [hs]
  show wpAny _ _ (spliced ((false, eval e X.env) :: backTo pos (starEach es X.env))) _ _ s
  refine Calls.spliced_cons (thn (ha pins s σ H _ I h) fun u s1 ⟨x, H1, I1, r1, q1⟩ => ?_)
  exact thn (hr pos pins s1 σ H1 _ I1 q1) fun us s2 ⟨xs, H2, I2, r2, q2⟩ => ⟨x :: xs, H2, I2, .cons r1 r2, q2⟩

/-- a tuple, a list of written items -/
def tTup (t : TA) : TE := fun σ H Q => t σ H fun xs H1 => xs.length ≤ sizeLine ∧ ∀ p, H1 p = none → Q (.ref p) (upd H1 p (.tup xs))
def tLst (t : TA) : TE := fun σ H Q => t σ H fun xs H1 => xs.length ≤ sizeLine ∧ ∀ p, H1 p = none → Q (.ref p) (upd H1 p (.lst xs))
theorem pe_tup {x1} (h : PA X es t) : PE X (.Tuple es x1 pos) (tTup t) := by
  intro pins s σ H Q I hq
  refine wpAny_Tuple_spliced (thn (h pos pins s σ H _ I hq) fun us s1 ⟨xs, H1, I1, r, z, q⟩ => ⟨by rw [← r.length]; exact z, ?_⟩)
  have hf : H1 s1.heap.objs.size = none := I1.hok.fresh (Nat.le_refl _)
  refine ⟨.ref s1.heap.objs.size, upd H1 s1.heap.objs.size (.tup xs), I1.laid (t' := s1.toks) (fun b u e => Heap.get?_push_of_some _ e) (Nat.le_refl _) ?_, rfl, q _ hf⟩
  exact ⟨z, us, r, ⟨_, Heap.get?_push_size _ rfl, rfl, _, rfl, rfl⟩⟩
theorem pe_lst (h : PA X es t) : PE X (.List es pos) (tLst t) := by
  intro pins s σ H Q I hq
  refine wpAny_List_spliced (thn (h pos pins s σ H _ I hq) fun us s1 ⟨xs, H1, I1, r, z, q⟩ => ⟨by rw [← r.length]; exact z, ?_⟩)
  have hf : H1 s1.heap.objs.size = none := I1.hok.fresh (Nat.le_refl _)
  refine ⟨.ref s1.heap.objs.size, upd H1 s1.heap.objs.size (.lst xs), I1.laid (t' := s1.toks) (fun b u e => Heap.get?_push_of_some _ e) (Nat.le_refl _) ?_, rfl, q _ hf⟩
  exact ⟨z, us, 0, r, Heap.get?_push_size _ rfl⟩
end

/-! ### what a def promises -/
/-- a def's promise: the bound arguments in the parameters' order, the heap, the wanted end, the wanted exception -/
abbrev Sp := List V → Hp → VK → XK → Prop
/-- how an exception lies behind a call (file 08 gives it): the callers' frames, abstract heap and state ahead of the call, the wish, the exception, the state -/
abbrev CXT := List Env → Hp → Shared → XK → Value → Shared → Prop

/-- the state at a call -/
structure Env0 (P : Program) (w : World) (K : PySem.W.Frag) (mg : Str → Option Value) (base : Heap) (A : Around) (outer : List Env) (s : Shared) (H : Hp) : Prop where
  frames : A.frames = some outer
  mod : Mod K mg base
  bs : ∀ b o, base.get? b = some o → s.heap.get? b = some o ∧ H b = none
  bsz : base.objs.size ≤ s.heap.objs.size
  funs : s.heap.FunFrames base outer
  frf : ∀ b ∈ frs outer, H b = none
  hok : HOk P w H s.heap
  bare : AllBare s.gens
/-- a call's end -/
def CE (outer : List Env) (P : Program) (w : World) (H : Hp) (s : Shared) (Q : VK) (u : Value) (s' : Shared) : Prop :=
  ∃ v H', s'.os = s.os ∧ AllBare s'.gens ∧ Un (frs outer) [] H H' s.heap s'.heap ∧ HOk P w H' s'.heap ∧ RelV v u ∧ Q v H'
def CR (CX : CXT) (outer : List Env) (P : Program) (w : World) (H : Hp) (s : Shared) (Q : VK) (E : XK) (r : Result) (s' : Shared) : Prop :=
  match r with
  | .ok (.ret u) => CE outer P w H s Q u s'
  | .ok _ => False
  | .error e => CX outer H s E e s'
structure FnOk (P : Program) (w : World) (K : PySem.W.Frag) (mg : Str → Option Value) (base : Heap) (CX : CXT) (k : Nat) (f : Addr) (fd : FuncData) (ps : List Str) (sp : Sp) : Prop where
  len : ∀ vs H Q E, sp vs H Q E → vs.length = ps.length
  run : ∀ (A : Around) (outer : List Env) (s : Shared) (H : Hp) (args : Args) (us : List Value) (vs : List V) (Q : VK) (E : XK), Room k A → Env0 P w K mg base A outer s H → BindsTo s fd args (ps.zip us) → Vals vs us → sp vs H Q E →
    codeAny (model P w) A (.call (.ref f) args) (CR CX outer P w H s Q E) s
theorem FnOk.mono {P : Program} {w : World} {K : PySem.W.Frag} {mg : Str → Option Value} {base : Heap} {CX : CXT} {j k : Nat} {f : Addr} {fd : FuncData} {ps : List Str} {sp : Sp} (F : FnOk P w K mg base CX j f fd ps sp) (h : j ≤ k) :
    FnOk P w K mg base CX k f fd ps sp := ⟨F.len, fun A outer s H args us vs Q E hr => F.run A outer s H args us vs Q E (hr.mono h)⟩
/-- a weaker promise -/
theorem FnOk.imp {P : Program} {w : World} {K : PySem.W.Frag} {mg : Str → Option Value} {base : Heap} {CX : CXT} {k : Nat} {f : Addr} {fd : FuncData} {ps : List Str} {sp sp' : Sp} (F : FnOk P w K mg base CX k f fd ps sp)
    (h : ∀ vs H Q E, sp' vs H Q E → sp vs H Q E) : FnOk P w K mg base CX k f fd ps sp' :=
  ⟨fun vs H Q E q => F.len vs H Q E (h _ _ _ _ q), fun A outer s H args us vs Q E hr he hb hv hs => F.run A outer s H args us vs Q E hr he hb hv (h _ _ _ _ hs)⟩

theorem Env0.in1 {P : Program} {w : World} {K : PySem.W.Frag} {mg : Str → Option Value} {base : Heap} {A : Around} {outer : List Env} {s : Shared} {H : Hp} (e : Env0 P w K mg base A outer s H) :
    Env0 P w K mg base A.in1 outer s H := ⟨e.frames, e.mod, e.bs, e.bsz, e.funs, e.frf, e.hok, e.bare⟩

section
variable {X : Cx} {pins : List (Addr × Obj)} {σ : St} {H : Hp} {s s' : Shared}
/-- from a body: what a callee wants -/
theorem Inv.env0 (I : Inv X pins σ H s) : Env0 X.prog X.w X.K X.mg X.base X.A X.stack s H :=
  ⟨I.ok.frames, I.ok.mod, I.bs, Nat.le_trans I.ok.bsz I.sz, I.stack, I.stkFree, I.hok, I.bare⟩
/-- behind a call -/
theorem Inv.after {Q : VK} {u : Value} (I : Inv X pins σ H s) (h : CE X.stack X.prog X.w H s Q u s') : EP X pins σ Q u s' := by
  obtain ⟨v, H', os, bare, un, hok, r, q⟩ := h
  obtain ⟨hh, g, d, t, os'⟩ := s'
  obtain rfl : os' = s.os := os
  exact ⟨v, H', I.call (h' := hh) (g' := g) (d' := d) (t' := t) (ch := []) un hok bare (fun b z => absurd z (by simp)), r, q⟩
end

/-! ### calls -/
/-- f(..): the written arguments, then the defaults dvs; E: what is wanted of an exception -/
def tCall (sp : Sp) (dvs : List V) (E : XK) (t : TA) : TE := fun σ H Q => t σ H fun vs H1 => sp (vs ++ dvs) H1 Q E
/-- how the parameters are bound: us the positional arguments, kw the keywords' values by name, ds the defaults that fill up -/
def Binds (K : PySem.W.Frag) (fd : FuncData) (ps : List Str) (ds : List Value) : Prop :=
  ∀ (s : Shared) (us : List Value), K.In s.heap → (us ++ ds).length = ps.length → BindsTo s fd ⟨us, []⟩ (ps.zip (us ++ ds))
/-- every parameter is given -/
theorem Binds.all {K : PySem.W.Frag} {fd : FuncData} {ps : List Str} (h : ∀ us : List Value, us.length = ps.length → bindArgs fd ⟨us, []⟩ = pure (ps.zip us)) : Binds K fd ps [] := fun s us _ hl => by
  rw [List.append_nil] at hl ⊢
  exact .of_eq (h us hl)

/-- an exception of a callee reaches what this body wants of exceptions -/
def Passes (CX : CXT) (X : Cx) (E : XK) : Prop := ∀ (pins : List (Addr × Obj)) (σ : St) (H : Hp) (s : Shared) (e : Value) (s' : Shared), Inv X pins σ H s → CX X.stack H s E e s' → X.xe e s'

section
variable {X : Cx} {CX : CXT} {k : Nat} {f C : Addr} {fd : FuncData} {ps : List Str} {sp : Sp} {dvs : List V} {ds : List Value} {E : XK} {x m : Str} {p pos apos : Pos} {e o : Expr} {es : List Expr} {ta : TE} {t : TA}

/-- the callee runs -/
theorem run_fn {pins : List (Addr × Obj)} {σ : St} {H : Hp} {s : Shared} {Q : VK} {us : List Value} {vs : List V} (F : FnOk X.prog X.w X.K X.mg X.base CX k f fd ps sp) (hr : Room k X.A) (hb : Binds X.K fd ps ds) (hd : Vals dvs ds) (hx : Passes CX X E)
    (I : Inv X pins σ H s) (r : Vals vs us) (h : sp (vs ++ dvs) H Q E) : wpAny (model X.prog X.w) X.A (call (.ref f) us) (EP X pins σ Q) X.xe s := by
  have r2 : Vals (vs ++ dvs) (us ++ ds) := r.append hd
  have hl : (us ++ ds).length = ps.length := by rw [← r2.length]; exact F.len _ _ _ _ h
  refine wpAny_call (codeAny_mono (F.run X.A X.stack s H ⟨us, []⟩ (us ++ ds) (vs ++ dvs) Q E hr I.env0 (hb s us I.kIn hl) r2 h) fun r s' hq => ?_)
  cases r with
  | error e => exact hx pins σ H s e s' I hq
  | ok fl =>
    cases fl with
    | ret u => exact I.after hq
    | next => exact False.elim hq
    | brk => exact False.elim hq
    | cont => exact False.elim hq

theorem pe_call (F : FnOk X.prog X.w X.K X.mg X.base CX k f fd ps sp) (hr : Room k X.A) (hg : Gl X x) (hm : X.mg x = some (.ref f)) (hk : PySem.W.keepIn X.K (.ref f) = true) (hb : Binds X.K fd ps ds) (hd : Vals dvs ds) (hx : Passes CX X E)
    (ha : PA X (e :: es) t) (hdb : (x == ("__debug__" : Str)) = false := by decide) (he : starEach (e :: es) X.env = (false, eval e X.env) :: starEach es X.env := by rfl) (hpl : (backTo pos (starEach es X.env)).any (·.1) = false := by rfl) :
    PE X (.Call (.Name x p) (e :: es) [] pos) (tCall sp dvs E t) := by
  intro pins s σ H Q I h
  refine wpAny_Call_Name_kw (ld_glob I hg hm ?_ hdb)
  refine PySem.W.callWith_K (h₀ := X.base) I.ok.mod.kin hk (thn (ha pos pins s σ H _ I h) fun us s1 ⟨vs, H1, I1, r, q⟩ => ⟨I1.kIn, ?_⟩) he hpl
  exact run_fn F hr hb hd hx I1 r q
/-- what a class must have to be made -/
structure Mk (K : PySem.W.Frag) (C f : Addr) : Prop where
  makes : PySem.W.makesIn K C = true
  init : PySem.W.findIn K (.ref C) "__init__" = some (some (.ref f))
  fn : PySem.W.isFn K (.ref f) = true
  kp : PySem.W.keepIn K (.ref C) = true

end

/-! ### keywords -/
section
variable {X : Cx} {CX : CXT} {k : Nat} {f C : Addr} {fd : FuncData} {ps ks : List Str} {sp : Sp} {E : XK} {x m : Str} {p pos apos kpos : Pos} {e o : Expr} {es : List Expr} {kws : List Keyword} {te ta : TE} {t tk : TA} {nm : Option Str}
/-- how a call with keywords binds: g puts the positional values us and the keywords' values ws (names ks) in the parameters' order, defaults among them -/
structure KBinds (K : PySem.W.Frag) (fd : FuncData) (ps ks : List Str) (g : List Value → List Value → List Value) (gV : List V → List V → List V) : Prop where
  to : ∀ (s : Shared) (us ws : List Value), K.In s.heap → (g us ws).length = ps.length → BindsTo s fd ⟨us, ks.zip ws⟩ (ps.zip (g us ws))
  rel : ∀ {vs : List V} {us : List Value} {zs : List V} {ws : List Value}, Vals vs us → Vals zs ws → Vals (gV vs zs) (g us ws)
variable {g : List Value → List Value → List Value} {gV : List V → List V → List V}
end

/-! ### a def's body keeps its promise -/
/-- names: the parameters first -/
structure FnScope (N P : List Str) (sc : Scope) : Prop where
  kind : sc.kind = .function
  co : sc.isCoroutine = false
  gen : sc.isGenerator = false
  nd : N.Nodup
  pre : N.take P.length = P
  par : ∀ x ∈ P, sc.names.lookup x = some .local ∨ sc.names.lookup x = some .cell
  nofree : ∀ y ∈ sc.names, y.2 ≠ .free

theorem bindL_out {kindOf : Str → Option NameKind} {x : Str} : ∀ {binds : List (Str × Value)} {m : Str → Option Value}, (∀ v, (x, v) ∉ binds) → bindL kindOf binds m x = m x
  | [], _, _ => rfl
  | (n, v) :: r, m, h => by
    unfold bindL
    rw [bindL_out fun w hw => h w (List.mem_cons_of_mem _ hw)]
    split
    · have : x ≠ n := by rintro rfl; exact h v List.mem_cons_self
      simp [this]
    · rfl
theorem bindC_out {kindOf : Str → Option NameKind} {x : Str} : ∀ {binds : List (Str × Value)} {m : Str → Option Value}, (∀ v, (x, v) ∉ binds) → bindC kindOf binds m x = m x
  | [], _, _ => rfl
  | (n, v) :: r, m, h => by
    unfold bindC
    rw [bindC_out fun w hw => h w (List.mem_cons_of_mem _ hw)]
    split
    · rfl
    · have : x ≠ n := by rintro rfl; exact h v List.mem_cons_self
      simp [this]
theorem bindL_get {kindOf : Str → Option NameKind} {x : Str} {v : Value} : ∀ {P : List Str} {vs : List Value} {i : Nat} {m : Str → Option Value}, P.Nodup → P[i]? = some x → vs[i]? = some v → kindOf x = some .local →
    bindL kindOf (P.zip vs) m x = some v
  | [], _, _, _, _, h, _, _ => by simp at h
  | _ :: _, [], _, _, _, _, h, _ => by simp at h
  | p :: P, w :: vs, 0, m, nd, h1, h2, hk => by
    simp at h1 h2; subst h1; subst h2
    show bindL kindOf ((p, w) :: P.zip vs) m p = _
    unfold bindL
    rw [bindL_out fun v hv => (List.nodup_cons.mp nd).1 (List.of_mem_zip hv).1, if_pos hk]
    simp
  | p :: P, w :: vs, i + 1, m, nd, h1, h2, hk => by
    show bindL kindOf ((p, w) :: P.zip vs) m x = _
    unfold bindL
    exact bindL_get (i := i) (List.nodup_cons.mp nd).2 (by simpa using h1) (by simpa using h2) hk
theorem bindC_get {kindOf : Str → Option NameKind} {x : Str} {v : Value} : ∀ {P : List Str} {vs : List Value} {i : Nat} {m : Str → Option Value}, P.Nodup → P[i]? = some x → vs[i]? = some v → kindOf x ≠ some .local →
    bindC kindOf (P.zip vs) m x = some v
  | [], _, _, _, _, h, _, _ => by simp at h
  | _ :: _, [], _, _, _, _, h, _ => by simp at h
  | p :: P, w :: vs, 0, m, nd, h1, h2, hk => by
    simp at h1 h2; subst h1; subst h2
    show bindC kindOf ((p, w) :: P.zip vs) m p = _
    unfold bindC
    rw [bindC_out fun v hv => (List.nodup_cons.mp nd).1 (List.of_mem_zip hv).1, if_neg hk]
    simp
  | p :: P, w :: vs, i + 1, m, nd, h1, h2, hk => by
    show bindC kindOf ((p, w) :: P.zip vs) m x = _
    unfold bindC
    exact bindC_get (i := i) (List.nodup_cons.mp nd).2 (by simpa using h1) (by simpa using h2) hk

/-- the names' values at the entry -/
def start (N : List Str) (vs : List V) : St := vs.map some ++ List.replicate (N.length - vs.length) none

/-- the context of a def's body, at its entry; an exception leaves the frame, then lies as CX says -/
def cxOf (CX : CXT) (P : Program) (w : World) (K : PySem.W.Frag) (mg : Str → Option Value) (base : Heap) (N : List Str) (qual : Str) (scope : Scope) (f : Addr) (cd : Value) (A : Around) (outer : List Env) (s : Shared) (H : Hp) (E : XK) : Cx where
  prog := P
  w := w
  K := K
  mg := mg
  base := base
  A := A.deeper (envOfC qual scope s.heap.objs.size f cd)
  N := N
  s₀ := s
  H₀ := H
  env := envOfC qual scope s.heap.objs.size f cd
  outer := outer
  stack := envOfC qual scope s.heap.objs.size f cd :: outer
  ex := []
  calm := true
  fn := fun _ => true
  pn := []
  xe := fun e s' => wpAny (model P w) (A.deeper (envOfC qual scope s.heap.objs.size f cd)) (leaving (envOfC qual scope s.heap.objs.size f cd) e) (fun _ s'' => CX outer H s E e s'') (fun e' s'' => CX outer H s E e' s'') s'

theorem cell_has {sc : Scope} {n : Nat} {x : Str} (h : sc.names.lookup x = some .cell) : ∃ c, (cellsFrom n sc.names []).lookup x = some c := by
  have q := PySem.W.cellsFrom_some sc.names n [] (.inl h)
  exact Option.isSome_iff_exists.mp q

theorem inv_start {CX : CXT} {P : Program} {w : World} {K : PySem.W.Frag} {mg : Str → Option Value} {base : Heap} {N ps : List Str} {qual : Str} {scope : Scope} {f : Addr} {cd : Value} {A : Around} {outer : List Env} {s s1 : Shared} {H : Hp} {E : XK} {us : List Value} {vs : List V}
    (S : FnScope N ps scope) (hd : A.handled = none) (e0 : Env0 P w K mg base A outer s H) (hl : vs.length = ps.length) (r : Vals vs us)
    (x : InCallC s s.heap.objs.size (bindL (envOfC qual scope s.heap.objs.size f cd).kindOf (ps.zip us) fun _ => none) (cellsFrom (s.heap.objs.size + 1) scope.names []) (bindC (envOfC qual scope s.heap.objs.size f cd).kindOf (ps.zip us) fun _ => none) s1) :
    Inv (cxOf CX P w K mg base N qual scope f cd A outer s H E) [] (start N vs) H s1 := by
  have hpl : ps.length ≤ N.length := by have := congrArg List.length S.pre; rw [List.length_take] at this; omega
  obtain ⟨h1, tk, rfl, hk⟩ := x.done
  have noA : ∀ b : Addr, b ∉ (cxOf CX P w K mg base N qual scope f cd A outer s H E).ex := fun b z => absurd (show b ∈ ([] : List Addr) from z) (by simp)
  refine ⟨⟨e0.mod, S.kind, rfl, rfl, Nat.le_refl _, fun y z c h1 h2 => ?_, fun y hy => ?_, fun y c _ h => ?_, fun _ => hd, Around.frames_deeper e0.frames, .inr ⟨rfl, rfl⟩, fun b z => absurd z (noA b), e0.bs, e0.bsz, fun b _ _ => noA b, fun b z => absurd z (noA b), e0.funs, e0.frf⟩,
    rfl, e0.bare, Un.kept hk, ⟨_, x.toInCall.ns, fun i y v h1 h2 h3 => ?_⟩, fun y c h => ⟨_, x.cell y c h⟩, e0.hok.fresh (Nat.le_refl _), fun y c h => ?_, fun p hp => absurd (show p ∈ ([] : List (Addr × Obj)) from hp) (by simp), e0.hok.kept hk, ?_⟩
  · exact name_of_addr x.apart (PySem.mem_of_lookup h1) (PySem.mem_of_lookup h2)
  · have hy : scope.names.lookup y = some .cell ∨ scope.names.lookup y = some .free := hy
    rcases hy with hy | hy
    · exact cell_has hy
    · exact absurd rfl (S.nofree _ (PySem.mem_of_lookup hy))
  · exact Nat.le_of_lt (x.above y c (PySem.mem_of_lookup h))
  · have hi : i < vs.length := by
      unfold start at h2
      by_cases hi : i < vs.length
      · exact hi
      · rw [List.getElem?_append_right (by simpa using hi)] at h2
        rw [List.getElem?_replicate] at h2
        split at h2 <;> cases h2
    have ha : vs[i]? = some v := by
      unfold start at h2
      rw [List.getElem?_append_left (by simpa using hi), List.getElem?_map] at h2
      cases e : vs[i]? with
      | none => rw [e] at h2; cases h2
      | some a => rw [e] at h2; cases h2; rfl
    obtain ⟨u, hu, rv⟩ := r.get ha
    have hp : ps[i]? = some y := by
      rw [← S.pre, List.getElem?_take_of_lt (by omega)]; exact h1
    have ndP : ps.Nodup := by rw [← S.pre]; exact S.nd.sublist (List.take_sublist _ _)
    refine ⟨u, rv, ?_⟩
    rcases S.par y (List.mem_of_getElem? hp) with k | k
    · exact .inl ⟨k, bindL_get ndP hp hu k⟩
    · obtain ⟨c, e⟩ := cell_has (n := s.heap.objs.size + 1) k
      refine .inr ⟨.inl k, c, e, ?_⟩
      have q := x.cell y c e
      rw [bindC_get ndP hp hu (by show scope.names.lookup y ≠ _; rw [k]; decide)] at q
      exact q
  · exact e0.hok.fresh (Nat.le_of_lt (x.above y c (PySem.mem_of_lookup h)))
  · unfold start
    show _ = N.length
    rw [List.length_append, List.length_map, List.length_replicate]
    omega

/-- THE RULE: a def (or a method) of the text, by its body. The body's reading t is chosen for each entry; it is run at the parameters' values -/
theorem fn_of {CX : CXT} {P : Program} {w : World} {K : PySem.W.Frag} {mg : Str → Option Value} {base : Heap} {k : Nat} {f : Addr} {name qual : Str} {params : Arguments} {body : List Stmt} {scope : Scope} {dV kV doc pm cdv ct oc : Value} {an od : Option Addr}
    {osl : Array (Option Value)} {N ps : List Str} {sp : Sp} (lk : K.lookup f = some ⟨oc, od, .func (PySem.W.fnOf name qual params body scope dV kV doc pm an cdv ct), osl⟩) (hcd : PySem.W.codeIn K cdv qual = true) (S : FnScope N ps scope)
    (len : ∀ vs H Q E, sp vs H Q E → vs.length = ps.length)
    (hbody : ∀ (A : Around) (outer : List Env) (s : Shared) (H : Hp) (vs : List V) (Q : VK) (E : XK), Room k (A.deeper (envOfC qual scope s.heap.objs.size f cdv)) → sp vs H Q E →
      ∃ t, PSs (cxOf CX P w K mg base N qual scope f cdv A outer s H E) body t ∧ t { nx := fun _ H' => Q .non H', rt := Q } (start N vs) H) :
    FnOk P w K mg base CX (k + 1) f (PySem.W.fnOf name qual params body scope dV kV doc pm an cdv ct) ps sp := by
  refine ⟨len, fun A outer s H args us vs Q E hr e0 hb r hsp => ?_⟩
  have hl := len _ _ _ _ hsp
  have KX : K.In s.heap := e0.mod.kin.keeps fun b o e => (e0.bs b o e).1
  have lim : s.heap.NoLimit := e0.mod.nolimit.keeps fun b o e => (e0.bs b o e).1
  have hkind : ∀ y ∈ ps.zip us, scope.names.lookup y.1 = some .local ∨ (scope.names.lookup y.1 = some .cell ∧ ((cellsFrom (s.heap.objs.size + 1) scope.names []).lookup y.1).isSome = true) := fun ⟨n, v⟩ hy => by
    rcases S.par n (List.of_mem_zip hy).1 with q | q
    · exact .inl q
    · exact .inr ⟨q, PySem.W.cellsFrom_some _ _ _ (.inl q)⟩
  refine codeAny_call_function hr.depth (KX _ _ lk) rfl S.co S.gen rfl (PySem.W.codeRec_of KX hcd) (hb _ _ _ _ ?_)
  refine wpAny_newFunctionEnv_cells S.kind hkind fun env he s1 x => ?_
  subst he
  refine ⟨lim.keeps x.toInCall.keep, codeAny_func ?_⟩
  obtain ⟨t, ht, hq⟩ := hbody A outer s H vs Q E (hr.deeper _) hsp
  have I : Inv (cxOf CX P w K mg base N qual scope f cdv A outer s H E) [] (start N vs) H s1 := inv_start S hr.hd e0 hl r x
  refine wpAny_mono (ht [] s1 (start N vs) H _ I hq) (fun fl s' hs => ?_) fun e s' hs => hs
  have fin : ∀ {σ' : St} {H' : Hp} {v : V} {u : Value}, Inv (cxOf CX P w K mg base N qual scope f cdv A outer s H E) [] σ' H' s' → RelV v u → Q v H' → CE outer P w H s Q u s' :=
    fun {σ' H' v u} J rv q => ⟨v, H', J.os, J.bare, J.base, J.hok, rv, q⟩
  cases fl with
  | ret u =>
    obtain ⟨v, σ', H', J, rv, q⟩ := hs
    exact fin J rv q
  | next =>
    obtain ⟨σ', H', J, q⟩ := hs
    exact fin (v := V.non) (u := Value.none) J rfl q
  | brk =>
    obtain ⟨_, _, _, q⟩ := hs
    exact False.elim q
  | cont =>
    obtain ⟨_, _, _, q⟩ := hs
    exact False.elim q
end L2

namespace L2
open PySem PySem.Spec PyProof.Rows
section
variable {X : Cx} {x : Str} {p pos : Pos} {e : Expr} {es : List Expr} {t : TA} {id T : String} {r : List V → Hp → VK → Prop}

def tCB (r : List V → Hp → VK → Prop) (t : TA) : TE := fun σ H Q => t σ H fun vs H1 => r vs H1 Q
/-- f(e, ..), f a built-in function -/
theorem pe_callB (hc : CallR X (.builtin id) r) (hg : Gl X x) (hm : X.mg x = none) (hv : bootBuiltins x = some (.builtin id)) (ha : PA X (e :: es) t) (hn : x ≠ "__name__" := by decide) (hdb : (x == ("__debug__" : Str)) = false := by decide)
    (he : starEach (e :: es) X.env = (false, eval e X.env) :: starEach es X.env := by rfl) (hpl : (backTo pos (starEach es X.env)).any (·.1) = false := by rfl) : PE X (.Call (.Name x p) (e :: es) [] pos) (tCB r t) := by
  intro pins s σ H Q I h
  refine wpAny_Call_Name_kw (ld_blt I hg hm hv ?_ hn hdb)
  exact PyProof.Rows.callWith_builtin1 (thn (ha pos pins s σ H _ I h) fun us s1 ⟨vs, H1, I1, r1, q1⟩ => hc pins s1 σ H1 vs us Q I1 r1 q1) he hpl
/-- T(e, ..), T a built-in type -/
theorem pe_callTy (hc : CallR X (.type T) r) (hg : Gl X x) (hm : X.mg x = none) (hv : bootBuiltins x = some (.type T)) (ha : PA X (e :: es) t) (hn : x ≠ "__name__" := by decide) (hdb : (x == ("__debug__" : Str)) = false := by decide)
    (he : starEach (e :: es) X.env = (false, eval e X.env) :: starEach es X.env := by rfl) (hpl : (backTo pos (starEach es X.env)).any (·.1) = false := by rfl) : PE X (.Call (.Name x p) (e :: es) [] pos) (tCB r t) := by
  intro pins s σ H Q I h
  refine wpAny_Call_Name_kw (ld_blt I hg hm hv ?_ hn hdb)
  exact PyProof.Rows.callWith_type1 (thn (ha pos pins s σ H _ I h) fun us s1 ⟨vs, H1, I1, r1, q1⟩ => hc pins s1 σ H1 vs us Q I1 r1 q1) he hpl
end
end L2

namespace L2
open PySem PySem.Spec PyProof.Rows

/-! ### lists of pairs as tables -/
section
variable {κ : Type} [DecidableEq κ]
def valV (kvs : List (κ × V)) (k : κ) : Option V := (kvs.find? fun kv => decide (kv.1 = k)).map (·.2)
/-- in its place, or at the end -/
def putK (kvs : List (κ × V)) (k : κ) (v : V) : List (κ × V) :=
  if (kvs.any fun kv => decide (kv.1 = k)) = true then kvs.map (fun kv => if kv.1 = k then (kv.1, v) else kv) else kvs ++ [(k, v)]
def dropK (kvs : List (κ × V)) (k : κ) : List (κ × V) := kvs.filter fun kv => decide (kv.1 ≠ k)

theorem valV_nil {k : κ} : valV ([] : List (κ × V)) k = none := rfl
theorem valV_pos {p : κ × V} {r : List (κ × V)} {k : κ} (e : p.1 = k) : valV (p :: r) k = some p.2 := by simp [valV, List.find?_cons, e]
theorem valV_neg {p : κ × V} {r : List (κ × V)} {k : κ} (e : ¬ p.1 = k) : valV (p :: r) k = valV r k := by simp [valV, List.find?_cons, e]
theorem valV_any (k : κ) : ∀ kvs : List (κ × V), (kvs.any fun kv => decide (kv.1 = k)) = (valV kvs k).isSome
  | [] => rfl
  | p :: r => by
    rw [List.any_cons]
    by_cases e : p.1 = k
    · simp only [valV_pos e, decide_eq_true e, Bool.true_or, Option.isSome_some]
    · rw [valV_neg e, decide_eq_false e, Bool.false_or]; exact valV_any k r
theorem valV_map (k j : κ) (y : V) : ∀ kvs : List (κ × V), valV (kvs.map fun kv => if kv.1 = k then (kv.1, y) else kv) j = (valV kvs j).map fun x => if j = k then y else x
  | [] => rfl
  | p :: r => by
    have ih := valV_map k j y r
    rw [List.map_cons]
    by_cases h : p.1 = k
    · rw [if_pos h]
      by_cases e : p.1 = j
      · rw [valV_pos (p := (p.1, y)) e, valV_pos e, Option.map_some, if_pos (e.symm.trans h)]
      · rw [valV_neg (p := (p.1, y)) e, valV_neg e, ih]
    · rw [if_neg h]
      by_cases e : p.1 = j
      · rw [valV_pos (p := p) e, valV_pos e, Option.map_some, if_neg (fun z => h (e.trans z))]
      · rw [valV_neg (p := p) e, valV_neg e, ih]
theorem valV_snoc (k j : κ) (y : V) : ∀ kvs : List (κ × V), valV kvs k = none → valV (kvs ++ [(k, y)]) j = if j = k then some y else valV kvs j
  | [], _ => by
    by_cases e : k = j
    · rw [if_pos e.symm]; exact valV_pos (p := (k, y)) e
    · rw [if_neg (fun z => e z.symm)]; exact valV_neg (p := (k, y)) e
  | p :: r, hn => by
    rw [List.cons_append]
    have hk : ¬ p.1 = k := fun z => by rw [valV_pos z] at hn; cases hn
    rw [valV_neg hk] at hn
    have ih := valV_snoc k j y r hn
    by_cases e : p.1 = j
    · rw [valV_pos e, valV_pos e, if_neg (fun z => hk (e.trans z))]
    · rw [valV_neg e, valV_neg e, ih]
theorem valV_put (kvs : List (κ × V)) (k j : κ) (y : V) : valV (putK kvs k y) j = if j = k then some y else valV kvs j := by
  unfold putK
  by_cases a : (kvs.any fun kv => decide (kv.1 = k)) = true
  · rw [if_pos a, valV_map]
    rw [valV_any] at a
    by_cases e : j = k
    · obtain ⟨x, hx⟩ := Option.isSome_iff_exists.mp a
      rw [if_pos e, e, hx, Option.map_some, if_pos rfl]
    · rw [if_neg e]
      cases valV kvs j with
      | none => rfl
      | some x => rw [Option.map_some, if_neg e]
  · rw [if_neg a]
    refine valV_snoc k j y kvs ?_
    rw [valV_any] at a
    cases q : valV kvs k with
    | none => rfl
    | some x => rw [q] at a; exact (a rfl).elim
theorem length_putK (kvs : List (κ × V)) (k : κ) (v : V) : (putK kvs k v).length ≤ kvs.length + 1 := by
  unfold putK
  split
  · rw [List.length_map]; omega
  · rw [List.length_append, List.length_cons, List.length_nil]; omega
theorem putK_new {kvs : List (κ × V)} {k : κ} (v : V) (h : valV kvs k = none) : putK kvs k v = kvs ++ [(k, v)] := by
  unfold putK
  rw [valV_any, h]
  exact if_neg (by decide)

theorem RelO.isSome_eq {o : Option V} {u : Option Value} (r : RelO o u) : o.isSome = u.isSome := by
  cases o with
  | none => cases u with
    | none => rfl
    | some _ => exact (show False from r).elim
  | some _ => cases u with
    | none => exact (show False from r).elim
    | some _ => rfl
theorem RelO.getD {o : Option V} {u : Option Value} {d : V} {d' : Value} (r : RelO o u) (rd : RelV d d') : RelV (o.getD d) (u.getD d') := by
  cases o with
  | none => cases u with
    | none => exact rd
    | some _ => exact (show False from r).elim
  | some _ => cases u with
    | none => exact (show False from r).elim
    | some _ => exact r

/-- raw tables of the same keys -/
theorem KV.val {kvs : List (κ × V)} {vs : List (κ × Value)} (r : KV kvs vs) (k : κ) : RelO (valV kvs k) (valueAt vs k) := by
  unfold KV at r
  induction r with
  | nil => exact True.intro
  | @cons p q ps qs h t ih =>
    obtain ⟨h1, h2⟩ := h
    by_cases e : p.1 = k
    · have e' : q.1 = k := h1.symm.trans e
      have b : valueAt (q :: qs) k = some q.2 := by simp [valueAt, List.find?_cons, e']
      rw [valV_pos e, b]; exact h2
    · have e' : ¬ q.1 = k := fun z => e (h1.trans z)
      have b : valueAt (q :: qs) k = valueAt qs k := by simp [valueAt, List.find?_cons, e']
      rw [valV_neg e, b]; exact ih
theorem KV.any {kvs : List (κ × V)} {vs : List (κ × Value)} (r : KV kvs vs) (k : κ) : (kvs.any fun kv => decide (kv.1 = k)) = vs.any fun kv => decide (kv.1 = k) := by
  unfold KV at r
  induction r with
  | nil => rfl
  | cons h t ih => rw [List.any_cons, List.any_cons, ih, h.1]
theorem KV.repl {kvs : List (κ × V)} {vs : List (κ × Value)} (r : KV kvs vs) (k : κ) {y : V} {u : Value} (ry : RelV y u) :
    KV (kvs.map fun kv => if kv.1 = k then (kv.1, y) else kv) (vs.map fun kv => if kv.1 = k then (kv.1, u) else kv) := by
  unfold KV at r ⊢
  induction r with
  | nil => exact .nil
  | @cons p q ps qs h t ih =>
    rw [List.map_cons, List.map_cons]
    refine .cons ?_ ih
    obtain ⟨h1, h2⟩ := h
    by_cases e : p.1 = k
    · rw [if_pos e, if_pos (h1.symm.trans e)]; exact ⟨h1, ry⟩
    · rw [if_neg e, if_neg (fun z => e (h1.trans z))]; exact ⟨h1, h2⟩
theorem KV.put {kvs : List (κ × V)} {vs : List (κ × Value)} (r : KV kvs vs) (k : κ) {y : V} {u : Value} (ry : RelV y u) : KV (putK kvs k y) (stored vs k u) := by
  unfold putK stored
  rw [r.any k]
  by_cases e : (vs.any fun kv => decide (kv.1 = k)) = true
  · rw [if_pos e, if_pos e]; exact r.repl k ry
  · rw [if_neg e, if_neg e]; exact Paired.snoc r ⟨rfl, ry⟩
theorem KV.drop {kvs : List (κ × V)} {vs : List (κ × Value)} (r : KV kvs vs) (k : κ) : KV (dropK kvs k) (without vs k) := by
  unfold KV at r ⊢
  unfold dropK without
  induction r with
  | nil => exact .nil
  | @cons p q ps qs h t ih =>
    obtain ⟨h1, h2⟩ := h
    rw [List.filter_cons, List.filter_cons]
    by_cases e : p.1 = k
    · have a : ¬ decide (p.1 ≠ k) = true := by simp [e]
      have b : ¬ decide (q.1 ≠ k) = true := by simp [h1.symm.trans e]
      rw [if_neg a, if_neg b]; exact ih
    · have e' : ¬ q.1 = k := fun z => e (h1.trans z)
      have a : decide (p.1 ≠ k) = true := by simp [e]
      have b : decide (q.1 ≠ k) = true := by simp [e']
      rw [if_pos a, if_pos b]; exact .cons ⟨h1, h2⟩ ih
theorem KV.keys {kvs : List (κ × V)} {vs : List (κ × Value)} (r : KV kvs vs) : kvs.map (·.1) = vs.map (·.1) := by
  unfold KV at r
  induction r with
  | nil => rfl
  | cons h t ih => rw [List.map_cons, List.map_cons, ih, h.1]
theorem KV.length {kvs : List (κ × V)} {vs : List (κ × Value)} (r : KV kvs vs) : kvs.length = vs.length := Paired.length r
end


/-! ### a tracked dict, its keys ints and texts or tuples of these -/
theorem kV_is {P : Program} {w : World} {k : Key} {u : Value} (r : RelV (kV k) u) : (mixKind P w).is k u = true := by
  cases k with
  | inl i => obtain ⟨t, e⟩ := (show ∃ t, u = Value.int i t from r); subst e; exact mixKind_int P w i t
  | inr x => obtain ⟨t, e⟩ := (show ∃ t, u = Value.str x t from r); subst e; exact mixKind_str P w x t
theorem items_are {P : Program} {w : World} : ∀ {ks : List Key} {us : List Value}, Vals (ks.map kV) us → ItemsAre (mixKind P w) ks us
  | [], _, r => by rw [List.map_nil] at r; cases r; exact .nil
  | k :: ks, _, r => by
    rw [List.map_cons] at r
    cases r with
    | cons h t => exact .cons (kV_is h) (items_are t)

/-- raw entries of a dict with tuple keys -/
abbrev KT (H : Hp) : List (List Key × V) → List (List Key × Addr × Value) → Prop := Paired fun p q => p.1 = q.1 ∧ H q.2.1 = some (.tup (p.1.map kV)) ∧ RelV p.2 q.2.2
theorem KT.val {H : Hp} {kvs : List (List Key × V)} {xs : List (List Key × Addr × Value)} (r : KT H kvs xs) (k : List Key) : RelO (valV kvs k) ((atKey xs k).map (·.2)) := by
  induction r with
  | nil => exact True.intro
  | @cons p q ps qs h t ih =>
    obtain ⟨h1, _, h2⟩ := h
    by_cases e : p.1 = k
    · have e' : q.1 = k := h1.symm.trans e
      have b : atKey (q :: qs) k = some q.2 := by simp [atKey, List.find?_cons, e']
      rw [valV_pos e, b]; exact h2
    · have e' : ¬ q.1 = k := fun z => e (h1.trans z)
      have b : atKey (q :: qs) k = atKey qs k := by simp [atKey, List.find?_cons, e']
      rw [valV_neg e, b]; exact ih
theorem KT.repl {H : Hp} {kvs : List (List Key × V)} {xs : List (List Key × Addr × Value)} (r : KT H kvs xs) (k : List Key) {y : V} {u : Value} (ry : RelV y u) :
    KT H (kvs.map fun kv => if kv.1 = k then (kv.1, y) else kv) (xs.map (putAt k u)) := by
  induction r with
  | nil => exact .nil
  | @cons p q ps qs h t ih =>
    rw [List.map_cons, List.map_cons]
    refine .cons ?_ ih
    obtain ⟨h1, h2, h3⟩ := h
    unfold putAt
    by_cases e : p.1 = k
    · rw [if_pos e, if_pos (h1.symm.trans e)]; exact ⟨h1, h2, ry⟩
    · rw [if_neg e, if_neg (fun z => e (h1.trans z))]; exact ⟨h1, h2, h3⟩
theorem KT.put {H : Hp} {kvs : List (List Key × V)} {xs : List (List Key × Addr × Value)} (r : KT H kvs xs) (k : List Key) {b : Addr} {y : V} {u : Value} (hb : H b = some (.tup (k.map kV))) (ry : RelV y u) :
    KT H (putK kvs k y) (storedH xs k b u) := by
  have e : (kvs.any fun kv => decide (kv.1 = k)) = (atKey xs k).isSome := by
    rw [valV_any, (r.val k).isSome_eq, Option.isSome_map]
  unfold putK storedH
  rw [e]
  by_cases q : (atKey xs k).isSome = true
  · rw [if_pos q, if_pos q]; exact r.repl k ry
  · rw [if_neg q, if_neg q]; exact Paired.snoc r ⟨rfl, hb, ry⟩
theorem KT.keeps {H H' : Hp} {kvs : List (List Key × V)} {xs : List (List Key × Addr × Value)} (r : KT H kvs xs) (ht : ∀ b ys, H b = some (.tup ys) → H' b = some (.tup ys)) : KT H' kvs xs :=
  Paired.mapP r fun _ _ z => ⟨z.1, ht _ _ z.2.1, z.2.2⟩

section
variable {P : Program} {w : World} {H : Hp} {h : Heap} {a : Addr}
theorem rd_of {u : HO} (ok : HOk P w H h) (e : Rd H a u) : ObjOk P w H h a u := e.ok ok
theorem dk_rd {kvs : List (Key × V)} (ok : HOk P w H h) (e : Rd H a (.dK kvs)) : kvs.length ≤ sizeLine ∧ (a == sysModules) = false ∧ ∃ vs, KV kvs vs ∧ h.DictOf (mixKind P w) a vs :=
  show ObjOk P w H h a (.dK kvs) from rd_of ok e
theorem dk_of {kvs : List (Key × V)} (ok : HOk P w H h) (e : H a = some (.dK kvs)) : kvs.length ≤ sizeLine ∧ (a == sysModules) = false ∧ ∃ vs, KV kvs vs ∧ h.DictOf (mixKind P w) a vs := dk_rd ok (.inl e)
/-- a tracked tuple of ints and texts is a key -/
theorem key_of {ks : List Key} (ok : HOk P w H h) (e : H a = some (.tup (ks.map kV))) : (tupleKind (mixKind P w)).is h ks a := by
  obtain ⟨_, its, r, o, h1, h2, n, h3, _⟩ := (show ObjOk P w H h a (.tup (ks.map kV)) from ok a _ e)
  exact ⟨o, its.toArray, n, h1, h2, h3, by simpa using items_are r⟩
theorem dt_rd {kvs : List (List Key × V)} (ok : HOk P w H h) (e : Rd H a (.dT kvs)) : kvs.length ≤ sizeLine ∧ (a == sysModules) = false ∧
    ∃ xs, KT H kvs xs ∧ h.DictOfH (tupleKind (mixKind P w)) a xs := by
  obtain ⟨z, y, xs, r, o, es, ep, h1, h2, h3, h4, h5⟩ := (show ObjOk P w H h a (.dT kvs) from rd_of ok e)
  refine ⟨z, y, xs, r, o, es, ep, h1, h2, h3, h4, fun x hx => ?_, h5⟩
  have all : ∀ {l : List (List Key × V)} {m : List (List Key × Addr × Value)}, KT H l m → ∀ x ∈ m, (tupleKind (mixKind P w)).is h x.1 x.2.1 := by
    intro l m q
    induction q with
    | nil => intro x hx; exact nomatch hx
    | @cons p q ps qs hq t ih =>
      intro x hx
      rcases List.mem_cons.mp hx with e | hx
      · subst e
        exact key_of ok (by rw [← hq.1]; exact hq.2.1)
      · exact ih x hx
  exact all r x hx
theorem dt_of {kvs : List (List Key × V)} (ok : HOk P w H h) (e : H a = some (.dT kvs)) : kvs.length ≤ sizeLine ∧ (a == sysModules) = false ∧
    ∃ xs, KT H kvs xs ∧ h.DictOfH (tupleKind (mixKind P w)) a xs := dt_rd ok (.inl e)
end

/-- what the dict at a holds at the key y -/
def DGet (H : Hp) (a : Addr) (y : V) (r : Option V) : Prop :=
  (∃ kvs k, Rd H a (.dK kvs) ∧ y = kV k ∧ r = valV kvs k) ∨ ∃ kvs k b, Rd H a (.dT kvs) ∧ y = .ref b ∧ H b = some (.tup (k.map kV)) ∧ r = valV kvs k
/-- the heap behind a[y] = v -/
def DPut (H : Hp) (a : Addr) (y v : V) (H' : Hp) : Prop :=
  (∃ kvs k, H a = some (.dK kvs) ∧ y = kV k ∧ kvs.length < sizeLine ∧ H' = upd H a (.dK (putK kvs k v))) ∨
  ∃ kvs k b, H a = some (.dT kvs) ∧ y = .ref b ∧ H b = some (.tup (k.map kV)) ∧ kvs.length < sizeLine ∧ H' = upd H a (.dT (putK kvs k v))
theorem DGet.k {H : Hp} {a : Addr} {kvs : List (Key × V)} {k : Key} (e : H a = some (.dK kvs)) : DGet H a (kV k) (valV kvs k) := .inl ⟨kvs, k, .inl e, rfl, rfl⟩
theorem DGet.t {H : Hp} {a b : Addr} {kvs : List (List Key × V)} {k : List Key} (e : H a = some (.dT kvs)) (eb : H b = some (.tup (k.map kV))) : DGet H a (.ref b) (valV kvs k) := .inr ⟨kvs, k, b, .inl e, rfl, eb, rfl⟩
theorem DPut.k {H : Hp} {a : Addr} {kvs : List (Key × V)} {k : Key} {v : V} (e : H a = some (.dK kvs)) (hl : kvs.length < sizeLine) : DPut H a (kV k) v (upd H a (.dK (putK kvs k v))) := .inl ⟨kvs, k, e, rfl, hl, rfl⟩
theorem DPut.t {H : Hp} {a b : Addr} {kvs : List (List Key × V)} {k : List Key} {v : V} (e : H a = some (.dT kvs)) (eb : H b = some (.tup (k.map kV))) (hl : kvs.length < sizeLine) :
    DPut H a (.ref b) v (upd H a (.dT (putK kvs k v))) := .inr ⟨kvs, k, b, e, rfl, eb, hl, rfl⟩


section
variable {X : Cx} {pins : List (Addr × Obj)} {σ : St} {H : Hp} {s : Shared} {a : Addr} {y v : V} {u r : Value} {o : Option V} {A : Around} {E : Value → Shared → Prop}

theorem Inv.big (I : Inv X pins σ H s) : sysModules < s.heap.objs.size := by
  have h : mainGlobals < s.heap.objs.size := (I.mod.glob.keeps I.bk).lt
  exact Nat.lt_trans (by decide) h

/-- d[y], there -/
theorem d_getItem {Q : Value → Shared → Prop} (hu : A.units + 1 < cLine) (I : Inv X pins σ H s) (g : DGet H a y (some v)) (ry : RelV y u) (h : ∀ w' s', Inv X pins σ H s' → RelV v w' → Q w' s') :
    wpAny (model X.prog X.w) A (getItem (.ref a) u) Q E s := by
  rcases g with ⟨kvs, k, e, ey, l⟩ | ⟨kvs, k, b, e, ey, eb, l⟩
  · subst ey
    obtain ⟨z, hd, vs, rel, dd⟩ := dk_rd I.hok e
    obtain ⟨w', hw, rw'⟩ := RelO.some_of (v := v) (o := valueAt vs k) (by rw [l]; exact rel.val k)
    exact wpAny_getItem_of (kV_is ry) dd.mapOf hw (h w' _ (I.tok _) rw')
  · subst ey
    cases (show u = Value.ref b from ry)
    obtain ⟨z, hd, xs, rel, dd⟩ := dt_rd I.hok e
    obtain ⟨w', hw, rw'⟩ := RelO.some_of (v := v) (o := (atKey xs k).map (·.2)) (by rw [l]; exact rel.val k)
    obtain ⟨p, hp, hp2⟩ := Option.map_eq_some_iff.mp hw
    refine wpAny_getItem_heap (tupleKind_room_in1 hu) (key_of I.hok eb) dd hp ?_
    rw [hp2]
    exact h w' _ (I.tok _) rw'
theorem d_notIn {Q : Value → Shared → Prop} (hu : A.units + 1 < cLine) (I : Inv X pins σ H s) (g : DGet H a y o) (ry : RelV y u) (h : ∀ s', Inv X pins σ H s' → Q (.bool (!o.isSome)) s') :
    wpAny (model X.prog X.w) A (compareOp .NotIn u (.ref a)) Q E s := by
  rcases g with ⟨kvs, k, e, ey, l⟩ | ⟨kvs, k, b, e, ey, eb, l⟩
  · subst ey
    obtain ⟨z, hd, vs, rel, dd⟩ := dk_rd I.hok e
    refine wpAny_notIn_of (kV_is ry) hd dd.mapOf ?_
    rw [← (rel.val k).isSome_eq, ← l]
    exact h _ (I.tok _)
  · subst ey
    cases (show u = Value.ref b from ry)
    obtain ⟨z, hd, xs, rel, dd⟩ := dt_rd I.hok e
    refine wpAny_notIn_heap (tupleKind_room_in1 hu) (key_of I.hok eb) hd dd ?_
    have q := (rel.val k).isSome_eq
    rw [Option.isSome_map] at q
    rw [← q, ← l]
    exact h _ (I.tok _)
/-- a dict's object is replaced -/
theorem d_write {h' : Heap} {t' : Nat} {ob : HO} (I : Inv X pins σ H s) (mu : Mut (H a)) (hs : Heap.SameBut a s.heap h') (he : ∃ q, h'.get? a = some q) (new : ObjOk X.prog X.w (upd H a ob) h' a ob) :
    Inv X pins σ (upd H a ob) { s with heap := h', toks := t' } :=
  I.write (x := a) (e := a) mu (.inl rfl) (fun b q hb z => (hs.2 b hb).trans z) he new
theorem dk_new {P : Program} {w : World} {H' : Hp} {h' : Heap} {kvs : List (Key × V)} {vs : List (Key × Value)} (z : kvs.length ≤ sizeLine) (hd : (a == sysModules) = false) (rel : KV kvs vs) (dd : h'.DictOf (mixKind P w) a vs) :
    ObjOk P w H' h' a (.dK kvs) := ⟨z, hd, vs, rel, dd⟩
/-- d[y] = v -/
theorem d_setItem {H' : Hp} {Q : Unit → Shared → Prop} (hu : A.units + 1 < cLine) (I : Inv X pins σ H s) (g : DPut H a y v H') (ry : RelV y u) (rv : RelV v r) (h : ∀ s', Inv X pins σ H' s' → Q () s') :
    wpAny (model X.prog X.w) A (setItem (.ref a) u r) Q E s := by
  rcases g with ⟨kvs, k, e, ey, l, eH⟩ | ⟨kvs, k, b, e, ey, eb, l, eH⟩
  · subst ey eH
    obtain ⟨z, hd, vs, rel, dd⟩ := dk_of I.hok e
    have hz : vs.length ≤ sizeLine := by rw [← rel.length]; exact z
    have hl : (putK kvs k v).length ≤ sizeLine := by have := length_putK kvs k v; omega
    refine wpAny_setItem_pairs (hsz := hz) (kV_is ry) dd fun h' dd' hs => h _ ?_
    have he : ∃ q, h'.get? a = some q := let ⟨q, _, _, hq, _⟩ := dd'; ⟨q, hq⟩
    exact d_write I (by rw [e]; exact True.intro) hs he (dk_new hl hd (rel.put k rv) dd')
  · subst ey eH
    cases (show u = Value.ref b from ry)
    obtain ⟨z, hd, xs, rel, dd⟩ := dt_of I.hok e
    have hz : xs.length ≤ sizeLine := by rw [← Paired.length rel]; exact z
    have hl : (putK kvs k v).length ≤ sizeLine := by have := length_putK kvs k v; omega
    refine wpAny_setItem_heap (hsz := hz) (tupleKind_room_in1 hu) (key_of I.hok eb) dd fun h' dd' hs => h _ ?_
    obtain ⟨q, es, ep, hq, h2, h3, h4, _, h5⟩ := dd'
    refine d_write I (by rw [e]; exact True.intro) hs ⟨q, hq⟩ ⟨hl, hd, _, (rel.put k eb rv).keeps fun c ys ec => ?_, q, es, ep, hq, h2, h3, h4, h5⟩
    rw [upd_ne (ne_of ec e (fun z => nomatch z))]
    exact ec
end

section
variable {X : Cx} {pins : List (Addr × Obj)} {σ : St} {H : Hp} {s : Shared} {a : Addr} {kvs : List (Key × V)} {k : Key} {u : Value} {A : Around} {E : Value → Shared → Prop}
end


/-! ### readings and rules -/
/-- the element of a subscription, not a slice -/
def NoSl (i : Expr) : Prop := ∀ ov iv, subscripted i false ov iv = operate [ov, iv] (getItem ov iv)
theorem subD_of {prog : Program} {w : World} {A : Around} {E : Value → Shared → Prop} {s : Shared} {env : Env} {value slice : Expr} {pos : Pos} {T id : String} {Q : Value → Shared → Prop}
    (hl : typeLookup (.type T) "__getitem__" = pure (some (.builtin id))) (hs : NoSl slice)
    (h : wpAny (model prog w) A (eval value env) (fun o s₁ => wpAny (model prog w) A (eval slice env) (fun i s₂ => s₂.TypeIs o T ∧ wpAny (model prog w) A (getItem o i) Q E s₂) E s₁) E s) :
    wpAny (model prog w) A (eval (.Subscript value slice pos) env) Q E s := by
  refine Subscript_ (wpAny_mono h (fun o s₁ h₁ => wpAny_mono h₁ (fun i s₂ h₂ => ?_) fun _ _ x => x) fun _ _ x => x)
  obtain ⟨hT, h₂⟩ := h₂
  unfold subscriptTail
  refine wpAny_bind ?_
  rw [getitemInPython_of_ne hT.not_modules]
  refine wpAny_bind (wpAny_specialOf hT hl ?_)
  have fin : wpAny (model prog w) A (subscripted slice false o i) (fun r s₃ => wpAny (model prog w) A (letTemporaryGo value o r >>= fun _ => pure r) Q E s₃) E s₂ := by
    rw [hs o i]
    exact wpAny_operating (wpAny_mono h₂ (fun r s₃ h₃ => wpAny_bind (wpAny_letTemporaryGo (wpAny_pure h₃))) fun _ _ x => x)
  first
    | exact wpAny_pure (wpAny_bind fin)
    | exact wpAny_bind (wpAny_pure (wpAny_bind fin))
    | exact wpAny_bind fin

theorem dict_typeIs {X : Cx} {pins : List (Addr × Obj)} {σ : St} {H : Hp} {s : Shared} {a : Addr} {y : V} {o : Option V} (I : Inv X pins σ H s) (g : DGet H a y o) : s.TypeIs (.ref a) "dict" := by
  rcases g with ⟨kvs, k, e, _, _⟩ | ⟨kvs, k, b, e, _, _, _⟩
  · obtain ⟨_, _, vs, _, dd⟩ := dk_rd I.hok e
    exact dd.typeIs
  · obtain ⟨_, _, xs, _, dd⟩ := dt_rd I.hok e
    exact dd.typeIs
/-- d[y] -/
def tDGet (td ty : TE) : TE := fun σ H Q => td σ H fun x H1 => ty σ H1 fun y H2 => ∃ a v, x = .ref a ∧ DGet H2 a y (some v) ∧ Q v H2
def tDNotIn (ty td : TE) : TE := fun σ H Q => ty σ H fun y H1 => td σ H1 fun x H2 => ∃ a o, x = .ref a ∧ DGet H2 a y o ∧ Q (.bl (!o.isSome)) H2
/-- d[y] = v -/
def sDPut (td ty tv : TE) : TS := fun D σ H => tv σ H fun v H1 => td σ H1 fun x H2 => ty σ H2 fun y H3 => ∃ a H4, x = .ref a ∧ DPut H3 a y v H4 ∧ D.nx σ H4
section
variable {X : Cx} {o i e value : Expr} {pos pos' tpos : Pos} {td ty tv : TE}
theorem pe_dget (hu : X.A.units + 1 < cLine) (ho : PE X o td) (hi : PE X i ty) (hs : NoSl i) : PE X (.Subscript o i pos) (tDGet td ty) := by
  intro pins s σ H Q I h
  refine subD_of PySem.F.slot_dict_getitem.lookup hs (thn (ho pins s σ H _ I h) fun u s1 ⟨x, H1, I1, rx, q1⟩ => thn (hi pins s1 σ H1 _ I1 q1) fun iv s2 ⟨y, H2, I2, ry, a, v, ex, g, q2⟩ => ?_)
  subst ex
  obtain rfl : u = Value.ref a := rx
  exact ⟨dict_typeIs I2 g, d_getItem hu I2 g ry fun w' s3 I3 rw' => ⟨v, H2, I3, rw', q2⟩⟩
theorem pc_dnotin (hu : X.A.units + 1 < cLine) (hi : PE X i ty) (ho : PE X o td) : PC X .NotIn i o (tDNotIn ty td) := by
  intro pins s σ H Q I h
  refine thn (hi pins s σ H _ I h) fun iv s1 ⟨y, H1, I1, ry, q1⟩ => thn (ho pins s1 σ H1 _ I1 q1) fun u s2 ⟨x, H2, I2, rx, a, ov, ex, g, q2⟩ => ?_
  subst ex
  obtain rfl : u = Value.ref a := rx
  exact d_notIn hu I2 g ry fun s3 I3 => ⟨.bl (!ov.isSome), H2, I3, rfl, q2⟩
theorem ps_dput (hu : X.A.units + 1 < cLine) (ho : PE X o td) (hi : PE X i ty) (hv : PE X value tv) (hs : swapsWith value (some (.Subscript o i pos')) pos.line X.env = pure false) :
    PS X (.Assign [.Subscript o i pos'] value pos) (sDPut td ty tv) := by
  intro pins s σ H D I h
  refine wpAny_Assign_Subscript (thn (hv pins s σ H _ I h) fun r s1 ⟨v, H1, I1, rv, q1⟩ => thn (ho pins s1 σ H1 _ I1 q1) fun u s2 ⟨x, H2, I2, rx, q2⟩ => thn (hi pins s2 σ H2 _ I2 q2) fun iv s3 ⟨y, H3, I3, ry, a, H4, ex, g, q3⟩ => ?_) hs
  subst ex
  obtain rfl : u = Value.ref a := rx
  exact d_setItem hu I3 g ry rv fun s4 I4 => ⟨σ, H4, I4, q3⟩
end


/-! ### displays -/
theorem dk_empty {P : Program} {w : World} {H : Hp} (h : Heap) (hb : sysModules < h.objs.size) : ObjOk P w H (h.push { cls := .type "dict", data := .dict #[] }) h.objs.size (.dK []) :=
  ⟨Nat.zero_le _, beq_eq_false_iff_ne.mpr (Ne.symm (Nat.ne_of_lt hb)), [], .nil, Heap.DictOf.new h⟩
/-- {}, to be a dict of the kind that is wanted -/
def tDNewK : TE := fun _ H Q => ∀ p, H p = none → Q (.ref p) (upd H p (.dK []))
section
variable {X : Cx} {pos : Pos}
theorem pe_dnewK : PE X (.Dict [] [] pos) tDNewK := fun pins s σ H Q I h =>
  wpAny_Dict_empty ⟨.ref s.heap.objs.size, _, I.laid (a := s.heap.objs.size) (o := .dK []) (t' := s.toks) (fun _ _ q => Heap.get?_push_of_some _ q) (Nat.le_refl _) (dk_empty s.heap I.big), rfl, h _ (I.hok.fresh (Nat.le_refl _))⟩
end

/-- the pairs of a display, from the left -/
def tPairs : List (TE × TE) → St → Hp → (List (V × V) → Hp → Prop) → Prop
  | [], _, H, Q => Q [] H
  | (tk, tv) :: r, σ, H, Q => tk σ H fun x H1 => tv σ H1 fun y H2 => tPairs r σ H2 fun ps H3 => Q ((x, y) :: ps) H3
abbrev VV : List (V × V) → List (Value × Value) → Prop := Paired fun p q => RelV p.1 q.1 ∧ RelV p.2 q.2
def PPs (X : Cx) (pos : Pos) (keys : List (Option Expr)) (values : List Expr) (trs : List (TE × TE)) : Prop :=
  ∀ (pins : List (Addr × Obj)) (s : Shared) (σ : St) (H : Hp) (Q : List (V × V) → Hp → Prop), Inv X pins σ H s → tPairs trs σ H Q →
    wpAny (model X.prog X.w) X.A (evalPairs (pairTrees keys values X.env pos)) (fun vs s' => ∃ ps H', Inv X pins σ H' s' ∧ VV ps vs ∧ Q ps H') X.xe s
theorem pps_nil {X : Cx} {pos : Pos} : PPs X pos [] [] [] := fun pins s σ H Q I h => pairTrees_nil_walk ⟨[], H, I, .nil, h⟩
theorem pps_cons {X : Cx} {pos : Pos} {k v : Expr} {ks : List (Option Expr)} {vs : List Expr} {tk tv : TE} {trs : List (TE × TE)} (hk : PE X k tk) (hv : PE X v tv) (hr : PPs X pos ks vs trs) :
    PPs X pos (some k :: ks) (v :: vs) ((tk, tv) :: trs) := fun pins s σ H Q I h =>
  pairTrees_cons_walk (thn (hk pins s σ H _ I h) fun u s1 ⟨x, H1, I1, rx, q1⟩ => thn (hv pins s1 σ H1 _ I1 q1) fun w2 s2 ⟨y, H2, I2, ry, q2⟩ =>
    thn (hr pins s2 σ H2 _ I2 q2) fun ws s3 ⟨ps, H3, I3, rel, q3⟩ => ⟨(x, y) :: ps, H3, I3, .cons ⟨rx, ry⟩ rel, q3⟩)

def mergeK (kvs more : List (Key × V)) : List (Key × V) := more.foldl (fun acc kv => putK acc kv.1 kv.2) kvs
theorem KV.merge : ∀ {more : List (Key × V)} {rs : List (Key × Value)} {kvs : List (Key × V)} {vs : List (Key × Value)}, KV more rs → KV kvs vs → KV (mergeK kvs more) (merged vs rs) := by
  intro more rs kvs vs r
  unfold KV at r
  induction r generalizing kvs vs with
  | nil => intro q; exact q
  | @cons p q ps qs h t ih =>
    intro r0
    have e : KV (putK kvs p.1 p.2) (stored vs q.1 q.2) := by
      have := r0.put p.1 h.2
      rw [← h.1]; exact this
    exact ih e
theorem length_mergeK : ∀ (more kvs : List (Key × V)), (mergeK kvs more).length ≤ kvs.length + more.length
  | [], kvs => by show kvs.length ≤ kvs.length + 0; omega
  | p :: r, kvs => by
    have h1 := length_mergeK r (putK kvs p.1 p.2)
    have h2 := length_putK kvs p.1 p.2
    show (mergeK (putK kvs p.1 p.2) r).length ≤ _
    rw [List.length_cons]; omega
theorem carries_of {P : Program} {w : World} : ∀ {kvs : List (Key × V)} {ws : List (Value × Value)}, VV (kvs.map fun kv => (kV kv.1, kv.2)) ws → ∃ rs, Carries (mixKind P w) ws rs ∧ KV kvs rs
  | [], _, r => by rw [List.map_nil] at r; cases r; exact ⟨[], True.intro, .nil⟩
  | p :: kvs, _, r => by
    rw [List.map_cons] at r
    cases r with
    | @cons a b as bs h t =>
      obtain ⟨rs, c, q⟩ := carries_of (P := P) (w := w) t
      obtain ⟨b1, b2⟩ := b
      exact ⟨(p.1, b2) :: rs, ⟨kV_is h.1, rfl, c⟩, .cons ⟨rfl, h.2⟩ q⟩
/-- {k: v, ..} with keys ints and texts; the new dict stands empty while the pairs are made -/
def tDisp (trs : List (TE × TE)) : TE := fun σ H Q => ∀ p, H p = none → tPairs trs σ (upd H p (.dK [])) fun ps H2 => H2 p = some (.dK []) ∧ ∃ kvs : List (Key × V), ps = kvs.map (fun kv => (kV kv.1, kv.2)) ∧ kvs.length ≤ 15 ∧ Q (.ref p) (upd H2 p (.dK (mergeK [] kvs)))
theorem pe_disp {X : Cx} {pos : Pos} {keys : List (Option Expr)} {values : List Expr} {trs : List (TE × TE)} (h : PPs X pos keys values trs) (hall : keys.all (·.isSome) = true) (hl : keys.length = values.length) (h0 : keys ≠ [])
    (h15 : keys.length ≤ 15) : PE X (.Dict keys values pos) (tDisp trs) := by
  intro pins s σ H Q I q
  have hn := I.hok.fresh (Nat.le_refl s.heap.objs.size)
  have I1 := I.laid (a := s.heap.objs.size) (o := .dK []) (h' := s.heap.push { cls := .type "dict", data := .dict #[] }) (t' := s.toks) (fun _ _ q => Heap.get?_push_of_some _ q) (Nat.le_refl _) (dk_empty s.heap I.big)
  refine wpAny_Dict_walk (knd := mixKind X.prog X.w) hall hl h0 h15 (thn (h pins _ σ _ _ I1 (q _ hn)) fun ws s2 ⟨ps, H2, I2, rel, e, kvs, ep, lk, q2⟩ => ?_)
  subst ep
  obtain ⟨rs, c, rk⟩ := carries_of (P := X.prog) (w := X.w) rel
  obtain ⟨z, hd, vs0, r0, dd⟩ := dk_of I2.hok e
  cases r0
  refine ⟨rs, c, dd, fun h' dd' hs => ⟨.ref s.heap.objs.size, _, ?_, rfl, q2⟩⟩
  have hz : (mergeK [] kvs).length ≤ sizeLine := by
    have h1 := length_mergeK kvs []
    rw [List.length_nil] at h1
    rw [sizeLine_eq]; omega
  have he : ∃ q, h'.get? s.heap.objs.size = some q := let ⟨q, _, _, hq, _⟩ := dd'; ⟨q, hq⟩
  exact d_write I2 (by rw [e]; exact True.intro) hs he (dk_new hz hd (rk.merge .nil) dd')


/-! ### methods -/
/-- a method call o.m(e) of a built-in, with one argument: what must be seen of the text -/
structure M1 (X : Cx) (o : Expr) (m : Str) (apos : Pos) (e : Expr) (cpos : Pos) : Prop where
  base : attributeBase o m X.env (eval o X.env) = eval o X.env
  few : ((backTo cpos (starEach [e] X.env)).all (fun x => !x.1) && (backToKw cpos (keywordEach [] X.env)).all (fun x => x.1.isSome)
    && decide (([e] : List Expr).length + ([] : List Keyword).length + (if ([] : List Keyword).isEmpty then 0 else 1) < 30)) = true
  line : (apos.endLine == cpos.line) = true
  trees : backTo cpos (starEach [e] X.env) = [(false, eval e X.env)]
structure M2 (X : Cx) (o : Expr) (m : Str) (apos : Pos) (e f : Expr) (cpos : Pos) : Prop where
  base : attributeBase o m X.env (eval o X.env) = eval o X.env
  few : ((backTo cpos (starEach [e, f] X.env)).all (fun x => !x.1) && (backToKw cpos (keywordEach [] X.env)).all (fun x => x.1.isSome)
    && decide (([e, f] : List Expr).length + ([] : List Keyword).length + (if ([] : List Keyword).isEmpty then 0 else 1) < 30)) = true
  line : (apos.endLine == cpos.line) = true
  trees : backTo cpos (starEach [e, f] X.env) = [(false, eval e X.env), (false, eval f X.env)]

/-- a is a dict, whatever its keys -/
def IsD (H : Hp) (a : Addr) : Prop := (∃ kvs, Rd H a (.dK kvs)) ∨ ∃ kvs, Rd H a (.dT kvs)
theorem isD_at {X : Cx} {pins : List (Addr × Obj)} {σ : St} {H : Hp} {s : Shared} {a : Addr} (I : Inv X pins σ H s) (d : IsD H a) :
    s.TypeIs (.ref a) "dict" ∧ (∀ b, Value.ref a = .ref b → ∃ ob, s.heap.get? b = some ob ∧ ob.dict = none) ∧ (a == sysModules) = false := by
  rcases d with ⟨kvs, e⟩ | ⟨kvs, e⟩
  · obtain ⟨_, hd, vs, _, dd⟩ := dk_rd I.hok e
    refine ⟨dd.typeIs, fun b q => ?_, hd⟩
    cases q
    obtain ⟨ob, _, _, h1, h2, _⟩ := dd
    exact ⟨ob, h1, h2.2.1⟩
  · obtain ⟨_, hd, xs, _, dd⟩ := dt_rd I.hok e
    refine ⟨dd.typeIs, fun b q => ?_, hd⟩
    cases q
    obtain ⟨ob, _, _, h1, h2, _⟩ := dd
    exact ⟨ob, h1, h2.2.1⟩

section
variable {X : Cx} {pins : List (Addr × Obj)} {σ : St} {H : Hp} {s : Shared} {a : Addr} {y d : V} {u r : Value} {o : Option V} {A : Around} {E : Value → Shared → Prop}
/-- d.get(y, x) -/
theorem d_get2 {Q : Value → Shared → Prop} (hu : A.units + 1 < cLine) (I : Inv X pins σ H s) (g : DGet H a y o) (ry : RelV y u) (rd : RelV d r) (h : ∀ w' s', Inv X pins σ H s' → RelV (o.getD d) w' → Q w' s') :
    wpAny (model X.prog X.w) A (call (.builtin "dict.get") [.ref a, u, r]) Q E s := by
  rcases g with ⟨kvs, k, e, ey, l⟩ | ⟨kvs, k, b, e, ey, eb, l⟩
  · subst ey
    obtain ⟨z, hd, vs, rel, dd⟩ := dk_rd I.hok e
    refine call_meetsIn PySem.F.slot_dict_get dd.typeIs PySem.F.entry_dict_get (PySem.F.args_dict_get_3 _ _ _) (meets_dict_get_default (mixKind X.prog X.w) a (kV_is ry) hd r) ⟨_, dd.mapOf, h _ _ (I.tok _) ?_⟩
    rw [l]
    exact (rel.val k).getD rd
  · subst ey
    cases (show u = Value.ref b from ry)
    obtain ⟨z, hd, xs, rel, dd⟩ := dt_rd I.hok e
    refine call_meetsIn PySem.F.slot_dict_get dd.typeIs PySem.F.entry_dict_get (PySem.F.args_dict_get_3 _ _ _) (meetsH_dict_get_default (tupleKind (mixKind X.prog X.w)) a b hd r) ⟨tupleKind_room_in1 hu, k, xs, key_of I.hok eb, dd, h _ _ (I.tok _) ?_⟩
    rw [l]
    exact (rel.val k).getD rd
end

def tDGet2 (td ty tx : TE) : TE := fun σ H Q => td σ H fun x H1 => ∃ a, x = .ref a ∧ IsD H1 a ∧ ty σ H1 fun y H2 => tx σ H2 fun z H3 => ∃ o, DGet H3 a y o ∧ Q (o.getD z) H3
section
variable {X : Cx} {o e f : Expr} {apos cpos : Pos} {td ty tx : TE}
theorem pe_dget2 (hu : X.A.units + 1 < cLine) (ho : PE X o td) (he : PE X e ty) (hf : PE X f tx) (m : M2 X o "get" apos e f cpos) : PE X (.Call (.Attribute o "get" apos) [e, f] [] cpos) (tDGet2 td ty tx) := by
  intro pins s σ H Q I h
  refine wpAny_Call_method m.base m.few m.line PySem.F.plainAttrs_dict PySem.F.slot_dict_get PySem.F.type_dict_get (thn (ho pins s σ H _ I h) fun u s1 ⟨x, H1, I1, rx, a, ex, d, q1⟩ => ?_)
  subst ex
  obtain rfl : u = Value.ref a := rx
  obtain ⟨t1, t2, _⟩ := isD_at I1 d
  refine ⟨t1, t2, ?_⟩
  rw [m.trees]
  refine Calls.callWith_builtin rfl (Calls.evalArgs_plain (Calls.spliced_cons (thn (he pins s1 σ H1 _ I1 q1) fun iv s2 ⟨y, H2, I2, ry, q2⟩ =>
    Calls.spliced_cons (thn (hf pins s2 σ H2 _ I2 q2) fun fv s3 ⟨z, H3, I3, rz, ov, g, q3⟩ => Calls.spliced_nil ?_))))
  exact d_get2 hu I3 g ry rz fun w' s4 I4 rw' => ⟨_, H3, I4, rw', q3⟩
end

/-! ### dict(d): a copy -/
section
variable {X : Cx} {pins : List (Addr × Obj)} {σ : St} {H : Hp} {s : Shared} {a : Addr} {kvs : List (Key × V)} {A : Around} {E : Value → Shared → Prop}
end


section
variable {X : Cx} {pins : List (Addr × Obj)} {σ : St} {H : Hp} {s : Shared} {a : Addr} {y : V} {u : Value} {A : Around} {E : Value → Shared → Prop}
end
end L2

namespace HT
open PySem PyProof.Rows

section
open PySem.SeqAt
open PySem.AutoSeq1 (wpAny_loadPart')
open PySem.MeetsSeq PySem.MeetsSeq2 PySem.MeetsSeq3

end

section
variable {prog : Program} {w : World} {A : Around} {E : Value → Shared → Prop} {s : Shared}

/-- t + u, t not empty -/
theorem cat_tup {t b : Addr} {vs ws : List Value} {Q : Value → Shared → Prop} (ht : IsTup s.heap t vs.toArray) (hb : IsTup s.heap b ws.toArray) (hv : vs ≠ [])
    (h1 : ws = [] → Q (.ref t) s) (h2 : ws ≠ [] → Q (.ref s.heap.objs.size) { s with heap := s.heap.push { cls := .type "tuple", data := .seq (vs ++ ws).toArray } })
    (hsz : vs.length + ws.length ≤ sizeLine) : wpAny (model prog w) A (binaryOp .Add (.ref t) (.ref b)) Q E s := by
  obtain ⟨⟨cls, dd, data, sl⟩, ho, hc, n, hd⟩ := id ht
  obtain ⟨⟨cls2, dd2, data2, sl2⟩, ho2, hc2, n2, hd2⟩ := id hb
  simp only at hc hd hc2 hd2
  subst hc hd hc2 hd2
  have e : vs.toArray ++ ws.toArray = (vs ++ ws).toArray := by simp
  by_cases hw : ws = []
  · exact concat_meets ⟨_, ho, rfl⟩ ⟨_, ho2, rfl⟩ noFill_tuple_add seq_tuple_add PySem.F.slot_tuple_add PySem.F.entry_tuple_add (PySem.F.args_tuple_add_2 _ _)
      (tuple_addW1 t b vs.toArray ws.toArray n n2 dd dd2 sl sl2 (by simpa using hv) (by simp [hw])) ⟨ho, ho2, h1 hw⟩
  · refine concat_meets ⟨_, ho, rfl⟩ ⟨_, ho2, rfl⟩ noFill_tuple_add seq_tuple_add PySem.F.slot_tuple_add PySem.F.entry_tuple_add (PySem.F.args_tuple_add_2 _ _)
      (tuple_addW2 t b vs.toArray ws.toArray n n2 dd dd2 sl sl2 (by simpa using hv) (by simpa using hw) (by rw [List.size_toArray, List.size_toArray]; exact hsz)) ⟨ho, ho2, ?_⟩
    rw [e]
    exact h2 hw

/-! ### t[a:b], not the whole -/
/-- a slice's bound as a place among n (d where it is left out) -/
def sIx (n d : Nat) : Option Int → Nat
  | none => d
  | some v => if v < 0 then (v + (n : Int)).toNat else min v.toNat n
theorem sIx_nat (n d k : Nat) : sIx n d (some (k : Int)) = min k n := by
  show (if (k : Int) < 0 then ((k : Int) + (n : Int)).toNat else min (k : Int).toNat n) = min k n
  rw [if_neg (by omega), Int.toNat_natCast]
theorem sIx_le (n d : Nat) (hd : d ≤ n) (o : Option Int) : sIx n d o ≤ n := by
  cases o with
  | none => exact hd
  | some v =>
    show (if v < 0 then (v + (n : Int)).toNat else min v.toNat n) ≤ n
    by_cases hv : v < 0
    · rw [if_pos hv]; omega
    · rw [if_neg hv]; exact Nat.min_le_right _ _
theorem clip_eq (v : Int) (n d : Nat) : (if v < 0 then max (v + (n : Int)) 0 else min v (n : Int)) = ((sIx n d (some v) : Nat) : Int) := by
  show (if v < 0 then max (v + (n : Int)) 0 else min v (n : Int)) = (((if v < 0 then (v + (n : Int)).toNat else min v.toNat n) : Nat) : Int)
  by_cases hv : v < 0
  · simp only [if_pos hv]; omega
  · simp only [if_neg hv]; omega
theorem adjust_gen (lo hi : Option Int) (n : Nat) : Builtin.Slice.sliceAdjust lo hi 1 (n : Int) = (((sIx n 0 lo : Nat) : Int), ((sIx n n hi : Nat) : Int)) := by
  have h1 : ¬ ((1 : Int) < 0) := by omega
  unfold Builtin.Slice.sliceAdjust
  simp only [h1, if_false]
  refine Prod.ext ?_ ?_
  · cases lo with
    | none => rfl
    | some v => exact clip_eq v n 0
  · cases hi with
    | none => rfl
    | some v => exact clip_eq v n n
theorem places_gen (i j : Nat) : Builtin.Slice.slicePlaces (i : Int) (j : Int) 1 = j - i := by
  unfold Builtin.Slice.slicePlaces
  have h1 : (1 : Int) > 0 := by omega
  simp only [h1, if_true, Int.ediv_one]
  split <;> omega
theorem slicePart_ {v : Value} {o : Option Int} {Q : Option Int → Shared → Prop} (p : IsPart v o) (h : Q o s) : wpAny (model prog w) A (Builtin.Slice.slicePartIndex v) Q E s := by
  cases p with
  | none => exact slicePart_none h
  | int i t => exact slicePart_int h
theorem sliceApplied_gen {sl : Addr} {vl vu : Value} {lo hi : Option Int} {n : Nat} {Q : Int × Int × Nat → Shared → Prop} (hs : s.heap.IsSliceOf sl vl vu .none) (pl : IsPart vl lo) (pu : IsPart vu hi)
    (h : Q (((sIx n 0 lo : Nat) : Int), 1, sIx n n hi - sIx n 0 lo) s) : wpAny (model prog w) A (Builtin.Slice.sliceApplied (.ref sl) (pure (n : Int))) Q E s := by
  obtain ⟨os, hos, hcs, hds⟩ := id hs
  unfold Builtin.Slice.sliceApplied Builtin.Slice.sliceFields
  refine wpAny_bind (wpAny_bind (wpAny_field hos hds (x := vl) rfl (wpAny_bind (wpAny_field hos hds (x := vu) rfl (wpAny_bind (wpAny_field hos hds (x := .none) rfl (wpAny_pure ?_)))))))
  refine wpAny_bind (slicePart_none ?_)
  show wpAny _ _ (if ((1 : Int) == 0) = true then _ else _) _ _ s
  rw [if_neg (by decide)]
  refine wpAny_bind (slicePart_ pl (wpAny_bind (slicePart_ pu (wpAny_bind (wpAny_pure ?_)))))
  show wpAny _ _ (match Builtin.Slice.sliceAdjust lo hi 1 (n : Int) with | (lo, hi) => pure (lo, (1 : Int), Builtin.Slice.slicePlaces lo hi 1)) _ _ s
  rw [adjust_gen lo hi n]
  show wpAny _ _ (pure (((sIx n 0 lo : Nat) : Int), (1 : Int), Builtin.Slice.slicePlaces ((sIx n 0 lo : Nat) : Int) ((sIx n n hi : Nat) : Int) 1)) _ _ s
  rw [places_gen]
  exact wpAny_pure h
theorem pick_gen (xs : Array Value) (i k : Nat) : ((List.range k).filterMap fun (m : Nat) => xs[((i : Int) + (m : Int) * 1).toNat]?).toArray = ((xs.toList.drop i).take k).toArray := by
  have e : (fun (m : Nat) => xs[((i : Int) + (m : Int) * 1).toNat]?) = fun m => xs[i + m]? := by
    funext m
    have : ((i : Int) + (m : Int) * 1).toNat = i + m := by omega
    rw [this]
  rw [e]
  have := pick_run xs i k
  rw [List.filterMap_map] at this
  have e2 : ((fun x => xs[x]?) ∘ fun x => i + x) = fun m => xs[i + m]? := rfl
  rw [e2] at this
  rw [this]

theorem getItem_tuple_cut {t sl : Addr} {items : Array Value} {vl vu : Value} {lo hi : Option Int} {Q : Value → Shared → Prop} (ht : IsTup s.heap t items) (hs : s.heap.IsSliceOf sl vl vu .none) (pl : IsPart vl lo) (pu : IsPart vu hi)
    (hw : ¬ (sIx items.size 0 lo = 0 ∧ sIx items.size items.size hi = items.size))
    (h : Q (.ref s.heap.objs.size) { s with heap := s.heap.push { cls := .type "tuple", data := .seq ((items.toList.drop (sIx items.size 0 lo)).take (sIx items.size items.size hi - sIx items.size 0 lo)).toArray } })
    (hsz : items.size ≤ sizeLine) : wpAny (model prog w) A (getItem (.ref t) (.ref sl)) Q E s := by
  have htake : sizeOk (.seq ((items.toList.drop (sIx items.size 0 lo)).take (sIx items.size items.size hi - sIx items.size 0 lo)).toArray) := by
    show ((items.toList.drop (sIx items.size 0 lo)).take (sIx items.size items.size hi - sIx items.size 0 lo)).toArray.size ≤ sizeLine
    rw [List.size_toArray, List.length_take, List.length_drop, Array.length_toList]
    omega
  have hj : sIx items.size items.size hi ≤ items.size := sIx_le _ _ (Nat.le_refl _) hi
  obtain ⟨os, hos, hcs, hds⟩ := id hs
  have hTs : s.TypeIs (.ref sl) "slice" := ⟨os, hos, hcs⟩
  unfold getItem
  try with_reducible refine wpAny_holding ?_
  first | refine wpAny_bind (wpAny_pure ?_) | skip
  refine wpAny_bind (wpAny_sequenceKey ht.typeIs (by decide) ?_)
  refine wpAny_bind (wpAny_callSpecial?_slot (name := Str.ofString "__getitem__") ht.typeIs PyProof.Rows.slot_tuple_getitem
    (wpAny_call_entry PyProof.Rows.slot_tuple_getitem ht.typeIs entry_tuple_getitem ?_ (args_tuple_getitem _ _)))
  show wpAny _ _ (Builtin.Tuple.tupleItemsOf (.ref t) >>= _) _ _ s
  refine wpAny_bind (tupleItemsOf_ ht ?_)
  refine wpAny_bind (wpAny_typeOf hTs ?_)
  rw [if_pos (by decide)]
  refine wpAny_bind (sliceApplied_gen hs pl pu ?_)
  have hno : ¬ ((((sIx items.size 0 lo : Nat) : Int) == 0 && (1 : Int) == 1 && (sIx items.size items.size hi - sIx items.size 0 lo) == items.size) = true) := by
    intro q
    rw [Bool.and_eq_true, Bool.and_eq_true] at q
    have q1 : ((sIx items.size 0 lo : Nat) : Int) = 0 := eq_of_beq q.1.1
    have q2 : sIx items.size items.size hi - sIx items.size 0 lo = items.size := eq_of_beq q.2
    exact hw ⟨by omega, by omega⟩
  show wpAny _ _ (if (((sIx items.size 0 lo : Nat) : Int) == 0 && (1 : Int) == 1 && (sIx items.size items.size hi - sIx items.size 0 lo) == items.size) = true then _ else _) _ _ s
  rw [if_neg hno, pick_gen]
  first
    | exact wpAny_bind (m := Builtin.Tuple.tupleExact _) (wpAny_newObj_type (wpAny_pure ⟨_, rfl, wpAny_pure h⟩) htake)
    | exact wpAny_bind (m := Builtin.Tuple.tupleExact _) (wpAny_newObj_type (wpAny_bind (wpAny_pure (wpAny_pure ⟨_, rfl, wpAny_pure h⟩))) htake)
    | exact wpAny_bind (wpAny_bind (m := Builtin.Tuple.tupleExact _) (wpAny_newObj_type (wpAny_pure (wpAny_pure ⟨_, rfl, wpAny_pure h⟩)) htake))
    | exact wpAny_bind (wpAny_bind (m := Builtin.Tuple.tupleExact _) (wpAny_newObj_type (wpAny_pure ⟨_, rfl, wpAny_pure h⟩) htake))
end
end HT

namespace L2
open PySem PySem.Spec PyProof.Rows

/-! ### the parts of a slice -/
abbrev TO := St → Hp → (Option Int → Hp → Prop) → Prop
/-- a slice's part (left out, or an int) -/
def PO (X : Cx) (e : Option Expr) (t : TO) : Prop :=
  ∀ (pins : List (Addr × Obj)) (s : Shared) (σ : St) (H : Hp) (Q : Option Int → Hp → Prop), Inv X pins σ H s → t σ H Q →
    wpAny (model X.prog X.w) X.A (evalPart e X.env) (fun u s' => ∃ o H', Inv X pins σ H' s' ∧ IsPart u o ∧ Q o H') X.xe s
def tNoPart : TO := fun _ H Q => Q none H
def tPart (t : TE) : TO := fun σ H Q => t σ H fun x H1 => ∃ i, x = .int i ∧ Q (some i) H1

section
variable {X : Cx} {e : Expr} {te : TE} {lo hi : Option Expr} {tl th : TO} {pos p2 : Pos}

theorem po_none : PO X none tNoPart := by
  intro pins s σ H Q I h
  rw [evalPart_none]
  exact wpAny_pure ⟨none, H, I, .none, h⟩
theorem po_some (h : PE X e te) : PO X (some e) (tPart te) := by
  intro pins s σ H Q I hw
  rw [evalPart_some]
  refine thn (h pins s σ H _ I hw) fun u s1 ⟨x, H1, I1, r1, q1⟩ => ?_
  obtain ⟨i, rfl, q⟩ := q1
  obtain ⟨t, rfl⟩ := r1
  exact ⟨some i, H1, I1, .int i t, q⟩

/-- what a slice of a value is, by values: the slice object stands at sl -/
def SlR (X : Cx) (r : V → Option Int → Option Int → Hp → VK → Prop) : Prop :=
  ∀ (pins : List (Addr × Obj)) (s : Shared) (σ : St) (H : Hp) (x : V) (v vl vu : Value) (lo hi : Option Int) (sl : Addr) (Q : VK), Inv X pins σ H s → RelV x v → s.heap.IsSliceOf sl vl vu .none → IsPart vl lo → IsPart vu hi → r x lo hi H Q →
    ∃ T id, typeLookup (.type T) "__getitem__" = pure (some (.builtin id)) ∧ s.TypeIs v T ∧ wpAny (model X.prog X.w) X.A (getItem v (.ref sl)) (EP X pins σ Q) X.xe s
theorem SlR.or {r r' : V → Option Int → Option Int → Hp → VK → Prop} (h : SlR X r) (h' : SlR X r') : SlR X (fun x lo hi H Q => r x lo hi H Q ∨ r' x lo hi H Q) := by
  intro pins s σ H x v vl vu lo hi sl Q I rx hs pl pu q
  rcases q with q | q
  · exact h pins s σ H x v vl vu lo hi sl Q I rx hs pl pu q
  · exact h' pins s σ H x v vl vu lo hi sl Q I rx hs pl pu q
def tSl (r : V → Option Int → Option Int → Hp → VK → Prop) (te : TE) (tl th : TO) : TE := fun σ H Q => te σ H fun x H1 => tl σ H1 fun l H2 => th σ H2 fun u H3 => r x l u H3 Q
/-- a[lo:hi], any a -/
theorem pe_slice {r : V → Option Int → Option Int → Hp → VK → Prop} (hr : SlR X r) (he : PE X e te) (hl : PO X lo tl) (hu : PO X hi th) : PE X (.Subscript e (.Slice lo hi none p2) pos) (tSl r te tl th) := by
  intro pins s σ H Q I h
  refine Subscript_ (thn (he pins s σ H _ I h) fun v s1 ⟨x, H1, I1, r1, q1⟩ => ?_)
  refine wpAny_Slice (thn (hl pins s1 σ H1 _ I1 q1) fun vl s2 ⟨l, H2, I2, pl, q2⟩ => thn (hu pins s2 σ H2 _ I2 q2) fun vu s3 ⟨u, H3, I3, pu, q3⟩ => ?_)
  rw [evalPart_none]
  refine wpAny_pure ?_
  have I4 : Inv X pins σ H3 { s3 with heap := s3.heap.push { cls := .type "slice", data := .fields #[vl, vu, .none] } } := I3.kept (t' := s3.toks) fun b ob q => Heap.get?_push_of_some _ q
  obtain ⟨T, id, hT, ht, hg⟩ := hr pins { s3 with heap := s3.heap.push { cls := .type "slice", data := .fields #[vl, vu, .none] } } σ H3 x v vl vu l u s3.heap.objs.size Q I4 r1 (Heap.IsSliceOf.new ..) pl pu q3
  show wpAny (model X.prog X.w) X.A (subscriptTail e (.Slice lo hi none p2) v (.ref s3.heap.objs.size)) (EP X pins σ Q) X.xe { s3 with heap := s3.heap.push { cls := .type "slice", data := .fields #[vl, vu, .none] } }
  exact tail_any (ops := [.ref s3.heap.objs.size, v]) ht hT hg (by with_unfolding_all rfl)

/-- the items of xs[lo:hi] -/
def cutV (xs : List V) (lo hi : Option Int) : List V := (xs.drop (HT.sIx xs.length 0 lo)).take (HT.sIx xs.length xs.length hi - HT.sIx xs.length 0 lo)
theorem cutV_length (xs : List V) (lo hi : Option Int) : (cutV xs lo hi).length ≤ xs.length := by
  unfold cutV
  rw [List.length_take, List.length_drop]
  omega
/-- t[lo:hi], not the whole of it (the whole would be t itself) -/
def rSlT (K : PySem.W.Frag) : V → Option Int → Option Int → Hp → VK → Prop := fun x lo hi H Q => ∃ a xs, x = .ref a ∧ SqT K H a xs ∧
  ¬ (HT.sIx xs.length 0 lo = 0 ∧ HT.sIx xs.length xs.length hi = xs.length) ∧ ∀ p, H p = none → Q (.ref p) (upd H p (.tup (cutV xs lo hi)))
theorem sl_tup : SlR X (rSlT X.K) := by
  intro pins s σ H x v vl vu lo hi sl Q I rx hs pl pu h
  obtain ⟨a, xs, rfl, hx, hw, q⟩ := h
  cases rx
  obtain ⟨its, r, ht, hz⟩ := I.tuple hx
  have hlen : its.toArray.size = xs.length := by rw [List.size_toArray]; exact r.length.symm
  refine ⟨"tuple", _, PyProof.Rows.slot_tuple_getitem.lookup, ht.typeIs, ?_⟩
  refine HT.getItem_tuple_cut ht hs pl pu (by rw [hlen]; exact hw) ?_ (by rw [hlen]; exact hz)
  rw [hlen]
  refine ⟨.ref s.heap.objs.size, _, I.laid (t' := s.toks) (o := .tup (cutV xs lo hi)) (fun b ob q => Heap.get?_push_of_some _ q) (Nat.le_refl _) ?_, rfl, q _ (I.hok.fresh (Nat.le_refl _))⟩
  exact ⟨Nat.le_trans (cutV_length xs lo hi) hz, _, (r.drop (HT.sIx xs.length 0 lo)).take (HT.sIx xs.length xs.length hi - HT.sIx xs.length 0 lo), IsTupD.new _ _⟩

/-! ### t < u, t + u -/
/-- t + u, t not empty: u empty gives t itself -/
def rCatT (K : PySem.W.Frag) : R2 := fun x y H Q => ∃ a b xs ys, x = .ref a ∧ y = .ref b ∧ SqT K H a xs ∧ SqT K H b ys ∧ xs ≠ [] ∧ xs.length + ys.length ≤ sizeLine ∧
  (ys = [] → Q (.ref a) H) ∧ (ys ≠ [] → ∀ p, H p = none → Q (.ref p) (upd H p (.tup (xs ++ ys))))
theorem Vals.nil_iff {xs : List V} {us : List Value} (r : Vals xs us) : us = [] ↔ xs = [] := by
  cases r with
  | nil => simp
  | cons _ _ => simp
theorem op_catT : OpR X (binaryOp .Add) (rCatT X.K) := by
  intro pins s σ H x y v u Q I rx ry h
  obtain ⟨a, b, xs, ys, rfl, rfl, ha, hb, hx, hz, q1, q2⟩ := h
  cases rx
  cases ry
  obtain ⟨its, r1, p1, _⟩ := I.tuple ha
  obtain ⟨its2, r2, p2, _⟩ := I.tuple hb
  refine HT.cat_tup p1 p2 (fun z => hx (r1.nil_iff.mp z)) (fun z => ⟨.ref a, H, I, rfl, q1 (r2.nil_iff.mp z)⟩) (fun z => ?_) (by rw [← r1.length, ← r2.length]; exact hz)
  refine ⟨.ref s.heap.objs.size, _, I.laid (t' := s.toks) (o := .tup (xs ++ ys)) (fun b ob q => Heap.get?_push_of_some _ q) (Nat.le_refl _) ?_, rfl, q2 (fun w => z (r2.nil_iff.mpr w)) _ (I.hok.fresh (Nat.le_refl _))⟩
  exact ⟨by rw [List.length_append]; exact hz, _, r1.append r2, IsTupD.new _ _⟩
end
end L2

namespace L2
open PySem PySem.Spec PyProof.Rows

/-! ### places -/
/-- the place that an index of any sign means -/
def ixN (n : Nat) (i : Int) : Option Nat := if 0 ≤ i then (if i < n then some i.toNat else none) else if -(n : Int) ≤ i then some (i + n).toNat else none
def atI {α : Type} (xs : List α) (i : Int) : Option α := (ixN xs.length i).bind fun j => xs[j]?
theorem ixN_seq {n : Nat} {i : Int} {j : Nat} (h : ixN n i = some j) : seqIndex? i n = some j ∧ j < n ∧ -(n : Int) ≤ i ∧ i < n := by
  unfold ixN at h
  by_cases h0 : 0 ≤ i
  · rw [if_pos h0] at h
    by_cases h1 : i < n
    · rw [if_pos h1] at h
      have e : i.toNat = j := Option.some.inj h
      exact ⟨by rw [seqIndex_of h0 h1, e], by omega, by omega, h1⟩
    · rw [if_neg h1] at h; cases h
  · rw [if_neg h0] at h
    by_cases h1 : -(n : Int) ≤ i
    · rw [if_pos h1] at h
      have e : (i + n).toNat = j := Option.some.inj h
      exact ⟨by rw [seqIndex_neg (by omega) h1, e], by omega, h1, by omega⟩
    · rw [if_neg h1] at h; cases h
theorem atI_get {α : Type} {xs : List α} {i : Int} {v : α} (h : atI xs i = some v) : ∃ j, seqIndex? i xs.length = some j ∧ xs[j]? = some v ∧ j < xs.length ∧ -(xs.length : Int) ≤ i ∧ i < xs.length := by
  unfold atI at h
  cases e : ixN xs.length i with
  | none => rw [e] at h; cases h
  | some j =>
    rw [e] at h
    obtain ⟨h1, h2, h3, h4⟩ := ixN_seq e
    exact ⟨j, h1, h, h2, h3, h4⟩
theorem atI_nat {α : Type} {xs : List α} {j : Nat} {v : α} (h : xs[j]? = some v) : atI xs (j : Int) = some v := by
  have hj : j < xs.length := (List.getElem?_eq_some_iff.mp h).1
  have e : ixN xs.length (j : Int) = some j := by
    unfold ixN
    rw [if_pos (by omega), if_pos (by omega)]; simp
  unfold atI; rw [e]; exact h
/-! ### what may be subscripted -/
/-- what stands as an index of a plain subscript -/
def PlainIx (b : Expr) : Prop := ∀ o i, subscripted b false o i = operate [o, i] (getItem o i)
/-- a subscript by values -/
def IxR (X : Cx) (r : R2) : Prop :=
  ∀ (value slice : Expr) (pins : List (Addr × Obj)) (s : Shared) (σ : St) (H : Hp) (x y : V) (v u : Value) (Q : VK), Inv X pins σ H s → RelV x v → RelV y u → r x y H Q →
    subscripted slice false v u = operate [v, u] (getItem v u) → wpAny (model X.prog X.w) X.A (subscriptTail value slice v u) (EP X pins σ Q) X.xe s
/-- a call of a builtin's method by values: the receiver, the arguments -/
def MtR (X : Cx) (id : String) (r : V → List V → Hp → VK → Prop) : Prop :=
  ∀ (pins : List (Addr × Obj)) (s : Shared) (σ : St) (H : Hp) (x : V) (xs : List V) (v : Value) (us : List Value) (Q : VK), Inv X pins σ H s → RelV x v → Vals xs us → r x xs H Q →
    wpAny (model X.prog X.w) X.A (call (.builtin id) (v :: us)) (EP X pins σ Q) X.xe s
section
variable {X : Cx} {a b : Expr} {ta tb : TE} {pos : Pos}
theorem IxR.or {r r' : R2} (h : IxR X r) (h' : IxR X r') : IxR X (fun x y H Q => r x y H Q ∨ r' x y H Q) := by
  intro value slice pins s σ H x y v u Q I rx ry q hs
  rcases q with q | q
  · exact h value slice pins s σ H x y v u Q I rx ry q hs
  · exact h' value slice pins s σ H x y v u Q I rx ry q hs
theorem MtR.or {id : String} {r r' : V → List V → Hp → VK → Prop} (h : MtR X id r) (h' : MtR X id r') : MtR X id (fun x xs H Q => r x xs H Q ∨ r' x xs H Q) := by
  intro pins s σ H x xs v us Q I rx rs q
  rcases q with q | q
  · exact h pins s σ H x xs v us Q I rx rs q
  · exact h' pins s σ H x xs v us Q I rx rs q
/-- a[b] -/
theorem pe_ix {r : R2} (hr : IxR X r) (ha : PE X a ta) (hb : PE X b tb) (hs : PlainIx b) : PE X (.Subscript a b pos) (tOp r ta tb) := by
  intro pins s σ H Q I h
  exact Subscript_ (binT ha hb I h fun v u s2 x y H2 I2 rx ry q => hr a b pins s2 σ H2 x y v u Q I2 rx ry q (hs _ _))

def rIxL (K : PySem.W.Frag) : R2 := fun x y H Q => ∃ p xs i v, x = .ref p ∧ y = .int i ∧ SqL K H p xs ∧ atI xs i = some v ∧ Q v H
def rIxT (K : PySem.W.Frag) : R2 := fun x y H Q => ∃ p xs i v, x = .ref p ∧ y = .int i ∧ SqT K H p xs ∧ atI xs i = some v ∧ Q v H
def rIxS : R2 := fun x y H Q => ∃ z i c, x = .str z ∧ y = .int i ∧ z.length ≤ sizeLine ∧ atI z.cps.toList i = some c ∧ Q (.str ⟨#[c]⟩) H
theorem ix_list : IxR X (rIxL X.K) := by
  intro value slice pins s σ H x y v u Q I rx ry h hs
  obtain ⟨p, xs, i, z, rfl, rfl, hq, he, q⟩ := h
  cases rx
  obtain ⟨t, rfl⟩ := ry
  obtain ⟨its, r, pl, hz⟩ := I.list hq
  obtain ⟨j, h1, h2, h3, h4, h5⟩ := atI_get he
  obtain ⟨w, ew, rw'⟩ := r.get h2
  have hl := r.length
  have hn := line63
  have fin : EP X pins σ Q w s := ⟨z, H, I, rw', q⟩
  by_cases h0 : 0 ≤ i
  · have hj : i.toNat = j := by
      rw [seqIndex_of h0 h5] at h1
      exact Option.some.inj h1
    exact item_listR pl.isList h0 (by omega) (by rw [hj]; simpa using ew) fin hs
  · have hj : (i + (its.toArray.size : Int)).toNat = j := by
      rw [seqIndex_neg (by omega) h4] at h1
      rw [List.size_toArray, ← hl]
      exact Option.some.inj h1
    exact subscriptTail_builtinR (x := w) pl.isList.typeIs slot_list_getitem.lookup
      (wpAny_getItem_list_neg (Q := fun r s' => r = w ∧ EP X pins σ Q r s') pl.isList (by omega) (by rw [List.size_toArray] <;> omega) (by omega) (by rw [hj]; simpa using ew) ⟨rfl, fin⟩) hs
theorem ix_tup : IxR X (rIxT X.K) := by
  intro value slice pins s σ H x y v u Q I rx ry h hs
  obtain ⟨p, xs, i, z, rfl, rfl, hq, he, q⟩ := h
  cases rx
  obtain ⟨t, rfl⟩ := ry
  obtain ⟨its, r, pl, hz⟩ := I.tuple hq
  obtain ⟨j, h1, h2, h3, h4, h5⟩ := atI_get he
  obtain ⟨w, ew, rw'⟩ := r.get h2
  have hl := r.length
  have hn := line63
  have fin : EP X pins σ Q w s := ⟨z, H, I, rw', q⟩
  exact subscriptTail_builtinR (x := w) pl.typeIs slot_tuple_getitem.lookup
    (getItem_tuple (j := j) (Q := fun r s' => r = w ∧ EP X pins σ Q r s') pl (by omega) (by omega) (by rw [List.size_toArray, ← hl]; exact h1) (by simpa using ew) ⟨rfl, fin⟩) hs
theorem ix_str : IxR X rIxS := by
  intro value slice pins s σ H x y v u Q I rx ry h hs
  obtain ⟨z, i, c, rfl, rfl, hz, he, q⟩ := h
  obtain ⟨t, rfl⟩ := rx
  obtain ⟨t', rfl⟩ := ry
  obtain ⟨j, h1, h2, h3, h4, h5⟩ := atI_get he
  have hl : z.cps.toList.length = z.length := by simp [Str.length]
  rw [hl] at h1 h4 h5
  have hn := line63
  exact tail_any (typeIs_str s z t) slot_str_getitem.lookup (getItem_str (c := c) (by
    have e1 : decide (i < -(2 ^ 63 : Int)) = false := decide_eq_false (by omega)
    have e2 : decide (i ≥ 2 ^ 63) = false := decide_eq_false (by omega)
    rw [e1, e2, Bool.or_false]) (by rw [h1]; simpa using h2) ⟨.str ⟨#[c]⟩, H, I.tok _, ⟨_, rfl⟩, q⟩) hs
/-! ### xs[i] = v, any sign -/
theorem Inv.lst {pins : List (Addr × Obj)} {σ : St} {H : Hp} {s : Shared} {p : Addr} {xs : List V} (I : Inv X pins σ H s) (h : H p = some (.lst xs)) :
    ∃ (its : List Value) (n : Nat), Vals xs its ∧ s.heap.get? p = some { cls := .type "list", data := .seq its.toArray n } ∧ xs.length ≤ sizeLine := by
  obtain ⟨z, its, n, r, e⟩ := I.hok p _ h
  exact ⟨its, n, r, e, z⟩
/-! ### slices -/
theorem slice_bounds (lo hi : Option Int) (n : Nat) : (sliceBounds lo hi none n).1 = ((HT.sIx n 0 lo : Nat) : Int) ∧ (sliceBounds lo hi none n).2.1 = ((HT.sIx n n hi : Nat) : Int) ∧ (sliceBounds lo hi none n).2.2 = 1 := by
  refine ⟨?_, ?_, rfl⟩
  · cases lo with
    | none => simp [sliceBounds, HT.sIx]
    | some i =>
      simp only [sliceBounds, HT.sIx, Option.getD_none, show (1 : Int) > 0 by decide, if_true]
      by_cases h : i < 0
      · simp only [h, if_true] <;> omega
      · simp only [h, if_false] <;> omega
  · cases hi with
    | none => simp [sliceBounds, HT.sIx]
    | some i =>
      simp only [sliceBounds, HT.sIx, Option.getD_none, show (1 : Int) > 0 by decide, if_true]
      by_cases h : i < 0
      · simp only [h, if_true] <;> omega
      · simp only [h, if_false] <;> omega
theorem slicePick_cut (its : List Value) (lo hi : Option Int) : slicePick its.toArray lo hi none = ((its.drop (HT.sIx its.length 0 lo)).take (HT.sIx its.length its.length hi - HT.sIx its.length 0 lo)).toArray := by
  obtain ⟨h1, h2, h3⟩ := slice_bounds lo hi its.toArray.size
  unfold slicePick
  rw [h1, h2, h3]
  simp only [sliceRange_one, pick_run, List.size_toArray] <;> rfl
/-- xs[lo:hi] of a list: a new list -/
def rSlL (K : PySem.W.Frag) : V → Option Int → Option Int → Hp → VK → Prop := fun x lo hi H Q => ∃ a xs, x = .ref a ∧ SqL K H a xs ∧ ∀ p, H p = none → Q (.ref p) (upd H p (.lst (cutV xs lo hi)))
theorem sl_list : SlR X (rSlL X.K) := by
  intro pins s σ H x v vl vu lo hi sl Q I rx hs pl pu h
  obtain ⟨a, xs, rfl, hx, q⟩ := h
  cases rx
  obtain ⟨its, r, ht, hz⟩ := I.list hx
  have hlen := r.length
  refine ⟨"list", _, slot_list_getitem.lookup, ht.isList.typeIs, ?_⟩
  refine wpAny_getItem_list_slice ht.isList hs pl pu .none (by simp) ?_ (by rw [List.size_toArray] <;> omega)
  rw [slicePick_cut, ← hlen]
  refine ⟨.ref s.heap.objs.size, _, I.laid (t' := s.toks) (o := .lst (cutV xs lo hi)) (fun b ob q => Heap.get?_push_of_some _ q) (Nat.le_refl _) ?_, rfl, q _ (I.hok.fresh (Nat.le_refl _))⟩
  exact ⟨Nat.le_trans (cutV_length xs lo hi) hz, _, 0, (r.drop (HT.sIx xs.length 0 lo)).take (HT.sIx xs.length xs.length hi - HT.sIx xs.length 0 lo), Heap.get?_push_size _ rfl⟩

/-! ### in, not in: flat items -/
def flatV : V → Bool
  | .non => true
  | .bl _ => true
  | .int _ => true
  | .str _ => true
  | _ => false
/-- == of flat values -/
def eqV : V → V → Bool
  | .non, .non => true
  | .bl a, .bl b => a == b
  | .bl a, .int b => (if a then 1 else 0) == b
  | .int a, .bl b => a == (if b then 1 else 0)
  | .int a, .int b => a == b
  | .str a, .str b => a == b
  | _, _ => false
theorem eqAt_V {A : Around} {s : Shared} {y x : V} {u v : Value} (ry : RelV y u) (rx : RelV x v) (fy : flatV y = true) (fx : flatV x = true) : SeqAt.EqAt A s u v (eqV y x) := by
  cases y with
  | non =>
    cases ry
    cases x with
    | non => cases rx; exact SeqAt.EqAt.same _
    | bl b => cases rx; exact SeqAt.EqAt.none_bool b
    | int b => obtain ⟨t, rfl⟩ := rx; exact SeqAt.EqAt.none_int b t
    | str b => obtain ⟨t, rfl⟩ := rx; exact SeqAt.EqAt.none_str b t
    | _ => exact absurd (show false = true from fx) Bool.false_ne_true
  | bl a =>
    cases ry
    cases x with
    | non => cases rx; exact SeqAt.EqAt.bool_none a
    | bl b => cases rx; exact SeqAt.EqAt.bool_bool a b
    | int b => obtain ⟨t, rfl⟩ := rx; exact SeqAt.EqAt.bool_int a b t
    | str b => obtain ⟨t, rfl⟩ := rx; exact SeqAt.EqAt.bool_str a b t
    | _ => exact absurd (show false = true from fx) Bool.false_ne_true
  | int a =>
    obtain ⟨t', rfl⟩ := ry
    cases x with
    | non => cases rx; exact SeqAt.EqAt.int_none a t'
    | bl b => cases rx; exact SeqAt.EqAt.int_bool a t' b
    | int b => obtain ⟨t, rfl⟩ := rx; exact SeqAt.EqAt.int_int a t' b t
    | str b => obtain ⟨t, rfl⟩ := rx; exact SeqAt.EqAt.int_str a t' b t
    | _ => exact absurd (show false = true from fx) Bool.false_ne_true
  | str a =>
    obtain ⟨t', rfl⟩ := ry
    cases x with
    | non => cases rx; exact SeqAt.EqAt.str_none a t'
    | bl b => cases rx; exact SeqAt.EqAt.str_bool a t' b
    | int b => obtain ⟨t, rfl⟩ := rx; exact SeqAt.EqAt.str_int a t' b t
    | str b => obtain ⟨t, rfl⟩ := rx; exact SeqAt.EqAt.str_str a t' b t
    | _ => exact absurd (show false = true from fx) Bool.false_ne_true
  | _ => exact absurd (show false = true from fy) Bool.false_ne_true
/-- the items' answers, read off the values (a value's own answer does not lean on its token) -/
def eqU (x : V) (u : Value) : Bool := match u with
  | .none => eqV .non x
  | .bool b => eqV (.bl b) x
  | .int i _ => eqV (.int i) x
  | .str z _ => eqV (.str z) x
  | _ => false
theorem eqU_of {x y : V} {u : Value} (r : RelV y u) (f : flatV y = true) : eqU x u = eqV y x := by
  cases y with
  | non => cases r; rfl
  | bl b => cases r; rfl
  | int i => obtain ⟨t, rfl⟩ := r; rfl
  | str z => obtain ⟨t, rfl⟩ := r; rfl
  | _ => exact absurd (show false = true from f) Bool.false_ne_true
theorem any_eqU {x : V} : ∀ {xs : List V} {us : List Value}, Vals xs us → xs.all flatV = true → us.any (eqU x) = xs.any fun y => eqV y x
  | _, _, .nil, _ => rfl
  | y :: xs, u :: us, .cons r t, f => by
    rw [List.all_cons, Bool.and_eq_true] at f
    rw [List.any_cons, List.any_cons, eqU_of r f.1, any_eqU t f.2]
theorem mem_eqAt {A : Around} {s : Shared} {x : V} {v : Value} (rx : RelV x v) (fx : flatV x = true) : ∀ {xs : List V} {us : List Value}, Vals xs us → xs.all flatV = true → ∀ u ∈ us, SeqAt.EqAt A s u v (eqU x u)
  | _, _, .nil, _ => fun u hu => by cases hu
  | y :: xs, u :: us, .cons r t, f => fun u' hu => by
    rw [List.all_cons, Bool.and_eq_true] at f
    rcases List.mem_cons.mp hu with rfl | hu
    · rw [eqU_of r f.1]; exact eqAt_V r rx f.1 fx
    · exact mem_eqAt rx fx t f.2 u' hu
def inV (x : V) (xs : List V) : Bool := xs.any fun y => eqV y x
/-- x in a list or tuple of flat items -/
def rIn (K : PySem.W.Frag) (neg : Bool) : R2 := fun x y H Q => ∃ p xs, y = .ref p ∧ (SqL K H p xs ∨ SqT K H p xs) ∧ flatV x = true ∧ xs.all flatV = true ∧ Q (.bl (if neg then !inV x xs else inV x xs)) H
theorem op_in_seq : OpR X (compareOp .In) (rIn X.K false) := by
  intro pins s σ H x y v u Q I rx ry h
  obtain ⟨p, xs, rfl, hq, fx, fs, q⟩ := h
  cases ry
  rcases hq with hq | hq
  · obtain ⟨its, r, pl, hz⟩ := I.list hq
    refine SeqAt.in_listAt (eqU x) pl.isList (fun w hw => mem_eqAt rx fx r fs w (by simpa using hw)) ⟨.bl _, H, I, rfl, ?_⟩
    rw [show its.toArray.any (eqU x) = its.any (eqU x) by simp, any_eqU r fs]
    exact q
  · obtain ⟨its, r, pl, hz⟩ := I.tuple hq
    refine SeqAt.in_tupleAt (eqU x) pl (fun w hw => mem_eqAt rx fx r fs w (by simpa using hw)) ⟨.bl _, H, I, rfl, ?_⟩
    rw [show its.toArray.any (eqU x) = its.any (eqU x) by simp, any_eqU r fs]
    exact q
theorem op_notIn_seq : OpR X (compareOp .NotIn) (rIn X.K true) := by
  intro pins s σ H x y v u Q I rx ry h
  obtain ⟨p, xs, rfl, hq, fx, fs, q⟩ := h
  cases ry
  rcases hq with hq | hq
  · obtain ⟨its, r, pl, hz⟩ := I.list hq
    refine SeqAt.notIn_listAt (eqU x) pl.isList (fun w hw => mem_eqAt rx fx r fs w (by simpa using hw)) ⟨.bl _, H, I, rfl, ?_⟩
    rw [show its.toArray.any (eqU x) = its.any (eqU x) by simp, any_eqU r fs]
    exact q
  · obtain ⟨its, r, pl, hz⟩ := I.tuple hq
    refine SeqAt.notIn_tupleAt (eqU x) pl (fun w hw => mem_eqAt rx fx r fs w (by simpa using hw)) ⟨.bl _, H, I, rfl, ?_⟩
    rw [show its.toArray.any (eqU x) = its.any (eqU x) by simp, any_eqU r fs]
    exact q
/-! ### len, list(x), tuple(x) of any list or tuple that is read -/
theorem call_len_seq : CallR X (.builtin "len") (fun xs H Q => ∃ p ys, xs = [.ref p] ∧ (SqL X.K H p ys ∨ SqT X.K H p ys) ∧ Q (.int ys.length) H) := by
  intro pins s σ H xs us Q I r h
  obtain ⟨p, ys, rfl, hq, q⟩ := h
  obtain ⟨u, rfl, rx⟩ := vals1 r
  cases rx
  have hn := line63
  rcases hq with hq | hq
  · obtain ⟨its, r', pl, hz⟩ := I.list hq
    have hlen := r'.length
    exact Calls.call_len_list pl.isList (by simp only [List.size_toArray] <;> omega) ⟨.int ys.length, H, I.tok _, ⟨s.toks + 1, by rw [List.size_toArray, hlen]⟩, q⟩
  · obtain ⟨its, r', pl, hz⟩ := I.tuple hq
    have hlen := r'.length
    exact len_tuple pl (by simp only [List.size_toArray] <;> omega) ⟨.int ys.length, H, I.tok _, ⟨s.toks + 1, by rw [List.size_toArray, hlen]⟩, q⟩
theorem CallR.or {f : Value} {r r' : List V → Hp → VK → Prop} (h : CallR X f r) (h' : CallR X f r') : CallR X f (fun xs H Q => r xs H Q ∨ r' xs H Q) := by
  intro pins s σ H xs us Q I rs q
  rcases q with q | q
  · exact h pins s σ H xs us Q I rs q
  · exact h' pins s σ H xs us Q I rs q
theorem call_list_of : CallR X (.type "list") (fun xs H Q => ∃ p ys, xs = [.ref p] ∧ (SqL X.K H p ys ∨ SqT X.K H p ys) ∧ ∀ l, H l = none → Q (.ref l) (upd H l (.lst ys))) := by
  intro pins s σ H xs us Q I r h
  obtain ⟨p, ys, rfl, hq, q⟩ := h
  obtain ⟨u, rfl, rx⟩ := vals1 r
  cases rx
  have fin : ∀ (its : List Value), Vals ys its → ys.length ≤ sizeLine → ∀ (h' : Heap) (c' : Nat), (∀ b o', s.heap.get? b = some o' → h'.get? b = some o') →
      h'.get? s.heap.objs.size = some { cls := .type "list", dict := none, data := .seq its.toArray c', slots := #[] } → EP X pins σ Q (.ref s.heap.objs.size) { s with heap := h' } := fun its r' hz h' c' kp e =>
    ⟨.ref s.heap.objs.size, _, I.laid (t' := s.toks) kp (Nat.le_refl _) (show ObjOk X.prog X.w _ h' _ (.lst ys) from ⟨hz, its, c', r', e⟩), rfl, q _ (I.hok.fresh (Nat.le_refl _))⟩
  rcases hq with hq | hq
  · obtain ⟨its, r', pl, hz⟩ := I.list hq
    have hlen := r'.length
    obtain ⟨o, ho, hc, n, hd⟩ := pl.isList
    exact call_list_seq p (.inl rfl) ho hc hd (fun h' c' kp e => fin its r' hz h' c' kp e) (by simp only [List.size_toArray] <;> omega)
  · obtain ⟨its, r', pl, hz⟩ := I.tuple hq
    have hlen := r'.length
    obtain ⟨o, ho, hc, n, hd⟩ := pl
    exact call_list_seq p (.inr rfl) ho hc hd (fun h' c' kp e => fin its r' hz h' c' kp e) (by simp only [List.size_toArray] <;> omega)
theorem call_tuple_of : CallR X (.type "tuple") (fun xs H Q => ∃ p ys, xs = [.ref p] ∧ ((SqL X.K H p ys ∧ ∀ l, H l = none → Q (.ref l) (upd H l (.tup ys))) ∨ (SqT X.K H p ys ∧ Q (.ref p) H))) := by
  intro pins s σ H xs us Q I r h
  obtain ⟨p, ys, rfl, h⟩ := h
  obtain ⟨u, rfl, rx⟩ := vals1 r
  cases rx
  rcases h with ⟨hq, q⟩ | ⟨hq, q⟩
  · obtain ⟨its, r', pl, hz⟩ := I.list hq
    have hlen := r'.length
    refine call_tuple_list pl.isList (fun h' kp => ?_) (by simp only [List.size_toArray] <;> omega)
    have I1 : Inv X pins σ H { s with heap := h' } := I.kept (t' := s.toks) kp
    have I2 : Inv X pins σ (upd H h'.objs.size (.tup ys)) { s with heap := h'.push { cls := .type "tuple", data := .seq its.toArray } } :=
      I1.laid (t' := s.toks) (fun b o e => Heap.get?_push_of_some _ e) (Nat.le_refl _) (show ObjOk X.prog X.w _ _ _ (.tup ys) from ⟨hz, its, r', IsTupD.new _ _⟩)
    exact ⟨.ref h'.objs.size, _, I2, rfl, q _ (I1.hok.fresh (Nat.le_refl _))⟩
  · obtain ⟨its, r', pl, hz⟩ := I.tuple hq
    exact call_tuple_same pl ⟨.ref p, H, I, rfl, q⟩

/-! ### the call of a builtin's method: o.m(..) -/
/-- the value is of that builtin type -/
def tyV (K : PySem.W.Frag) (T : String) (x : V) (H : Hp) : Prop := match x with
  | .str _ => T = "str"
  | .int _ => T = "int"
  | .ref p => (T = "list" ∧ ∃ xs, SqL K H p xs) ∨ (T = "tuple" ∧ ∃ o, K.lookup p = some o ∧ o.cls = .type "tuple" ∧ o.dict = none) ∨
      (T = "dict" ∧ ((∃ kvs, H p = some (.dK kvs)) ∨ ∃ kvs, H p = some (.dT kvs))) ∨ (T = "set" ∧ ∃ S n, H p = some (.set S n))
  | _ => False
theorem tyV_is {pins : List (Addr × Obj)} {σ : St} {H : Hp} {s : Shared} {T : String} {x : V} {v : Value} (I : Inv X pins σ H s) (r : RelV x v) (ty : tyV X.K T x H) :
    s.TypeIs v T ∧ ∀ a, v = .ref a → ∃ ob, s.heap.get? a = some ob ∧ ob.dict = none := by
  cases x with
  | str z =>
    obtain ⟨t, rfl⟩ := r
    cases (show T = "str" from ty)
    exact ⟨typeIs_str s z t, fun _ e => nomatch e⟩
  | int i =>
    obtain ⟨t, rfl⟩ := r
    cases (show T = "int" from ty)
    exact ⟨typeIs_int s i t, fun _ e => nomatch e⟩
  | ref p =>
    cases r
    rcases ty with ⟨rfl, xs, hq⟩ | ⟨rfl, o, hk, hc, hd⟩ | ⟨rfl, hk⟩ | ⟨rfl, S, n, hk⟩
    · obtain ⟨its, _, pl, _⟩ := I.list hq
      refine ⟨pl.isList.typeIs, fun a e => ?_⟩
      cases e
      obtain ⟨o, n, e, c, hd, _⟩ := pl
      exact ⟨o, e, hd⟩
    · refine ⟨⟨o, I.kIn p o hk, hc⟩, fun a e => ?_⟩
      cases e
      exact ⟨o, I.kIn _ o hk, hd⟩
    · have z : ∃ o, s.heap.get? p = some o ∧ o.ExactDict := by
        rcases hk with ⟨kvs, hk⟩ | ⟨kvs, hk⟩
        · obtain ⟨_, _, _, _, o, _, _, e, ex, _⟩ := I.hok p _ hk
          exact ⟨o, e, ex⟩
        · obtain ⟨_, _, _, _, o, _, _, e, ex, _⟩ := I.hok p _ hk
          exact ⟨o, e, ex⟩
      obtain ⟨o, e, ex⟩ := z
      refine ⟨⟨o, e, ex.1⟩, fun a e2 => ?_⟩
      cases e2
      exact ⟨o, e, ex.2.1⟩
    · obtain ⟨o, _, _, _, e, ex, _⟩ := I.hok p _ hk
      refine ⟨⟨o, e, ex.1⟩, fun a e2 => ?_⟩
      cases e2
      exact ⟨o, e, ex.2.1⟩
  | _ => exact False.elim ty
def tBM0 (K : PySem.W.Frag) (T : String) (r : V → List V → Hp → VK → Prop) (to : TE) : TE := fun σ H Q => to σ H fun x H1 => tyV K T x H1 ∧ r x [] H1 Q
def tBM (K : PySem.W.Frag) (T : String) (r : V → List V → Hp → VK → Prop) (to : TE) (t : TA) : TE := fun σ H Q => to σ H fun x H1 => tyV K T x H1 ∧ t σ H1 fun xs H2 => r x xs H2 Q
variable {o e : Expr} {es : List Expr} {to : TE} {t : TA} {name : Str} {apos cpos : Pos} {T id : String} {r : V → List V → Hp → VK → Prop}
theorem pe_bm0 (pa : PlainAttrs T) (slot : Slot T name id) (hty : typeOf (.builtin id) = pure (.type "method_descriptor")) (hm : MtR X id r) (ho : PE X o to)
    (hbase : attributeBase o name X.env (eval o X.env) = eval o X.env := by rfl) (hline : (apos.endLine == cpos.line) = true := by rfl) : PE X (.Call (.Attribute o name apos) [] [] cpos) (tBM0 X.K T r to) := by
  intro pins s σ H Q I h
  refine wpAny_Call_method0_late hbase hline (thn (ho pins s σ H _ I h) fun v s1 ⟨x, H1, I1, r1, ty, q1⟩ => ?_)
  obtain ⟨h1, h2⟩ := tyV_is I1 r1 ty
  exact ⟨T, id, pa, slot, hty, h1, h2, Calls.callWith_builtin rfl (PySem.evalArgs_none (hm pins s1 σ H1 x [] v [] Q I1 r1 .nil q1))⟩
theorem pe_bm (pa : PlainAttrs T) (slot : Slot T name id) (hty : typeOf (.builtin id) = pure (.type "method_descriptor")) (hm : MtR X id r) (ho : PE X o to) (ha : PA X (e :: es) t)
    (hbase : attributeBase o name X.env (eval o X.env) = eval o X.env := by rfl)
    (hfew : ((backTo cpos (starEach (e :: es) X.env)).all (fun x => !x.1) && (backToKw cpos (keywordEach [] X.env)).all (fun x => x.1.isSome)
      && decide ((e :: es).length + ([] : List Keyword).length + (if ([] : List Keyword).isEmpty then 0 else 1) < 30)) = true := by rfl)
    (hline : (apos.endLine == cpos.line) = true := by rfl) (hs : starEach (e :: es) X.env = (false, eval e X.env) :: starEach es X.env := by rfl) (hplain : (backTo cpos (starEach es X.env)).any (·.1) = false := by rfl) :
    PE X (.Call (.Attribute o name apos) (e :: es) [] cpos) (tBM X.K T r to t) := by
  intro pins s σ H Q I h
  refine wpAny_Call_method_late hbase hfew hline rfl (thn (ho pins s σ H _ I h) fun v s1 ⟨x, H1, I1, r1, ty, q1⟩ => ?_)
  obtain ⟨h1, h2⟩ := tyV_is I1 r1 ty
  refine ⟨T, id, pa, slot, hty, h1, h2, ?_⟩
  have hA := ha cpos pins s1 σ H1 _ I1 q1
  rw [hs] at hA ⊢
  refine Calls.callWith_builtin (by show (false || (backTo cpos (starEach es X.env)).any (·.1)) = false; rw [hplain] <;> rfl) (Calls.evalArgs_plain ?_)
  exact thn hA fun us s2 ⟨vs, H2, I2, r2, q2⟩ => hm pins s2 σ H2 x vs v us Q I2 r1 r2 q2
/- xs.append(e), list.index on a module's tuple .. are MtR facts of 06m -/
end
end L2

namespace L2
open PySem PySem.Spec PyProof.Rows

def MtM (X : Cx) (id : String) (r : V → List V → Hp → VK → Prop) : Prop :=
  ∀ (pins : List (Addr × Obj)) (s : Shared) (σ : St) (H : Hp) (x : V) (xs : List V) (v : Value) (us : List Value) (Q : VK), Inv X pins σ H s → RelV x v → Vals xs us → r x xs H Q →
    wpAny (model X.prog X.w) X.A (call (.builtin id) (v :: us)) (EP X pins σ Q) X.xe s

/-! ### lists of values -/
theorem Vals.one : ∀ {x : V} {us : List Value}, Vals [x] us → ∃ u, us = [u] ∧ RelV x u
  | _, _, .cons r .nil => ⟨_, rfl, r⟩
theorem Vals.two : ∀ {x y : V} {us : List Value}, Vals [x, y] us → ∃ u v, us = [u, v] ∧ RelV x u ∧ RelV y v
  | _, _, _, .cons r (.cons q .nil) => ⟨_, _, rfl, r, q⟩
theorem Vals.zero : ∀ {us : List Value}, Vals [] us → us = []
  | _, .nil => rfl
theorem Vals.dropLast {xs : List V} {us : List Value} (h : Vals xs us) : Vals xs.dropLast us.dropLast := by
  induction h with
  | nil => exact .nil
  | cons r t ih =>
    cases t with
    | nil => exact .nil
    | cons q t' => exact .cons r ih
theorem Vals.eraseIdx : ∀ {xs : List V} {us : List Value} (i : Nat), Vals xs us → Vals (xs.eraseIdx i) (us.eraseIdx i)
  | _, _, _, .nil => .nil
  | _, _, 0, .cons _ t => t
  | _, _, i + 1, .cons r t => .cons r (Vals.eraseIdx i t)
theorem Vals.reverse {xs : List V} {us : List Value} (h : Vals xs us) : Vals xs.reverse us.reverse := by
  induction h with
  | nil => exact .nil
  | cons r t ih => rw [List.reverse_cons, List.reverse_cons]; exact Vals.append ih (.cons r .nil)
theorem erase_last {α : Type} (l : List α) : l.eraseIdx (l.length - 1) = l.dropLast := by
  induction l with
  | nil => rfl
  | cons a r ih =>
    cases r with
    | nil => rfl
    | cons b r =>
      have e : (a :: b :: r).length - 1 = ((b :: r).length - 1) + 1 := by
        have h1 : (a :: b :: r).length = r.length + 2 := rfl
        have h2 : (b :: r).length = r.length + 1 := rfl
        omega
      rw [e, List.eraseIdx_cons_succ, ih]
      all_goals rfl
section
variable {X : Cx} {pins : List (Addr × Obj)} {σ : St} {H : Hp} {s : Shared} {l b : Addr} {xs ys zs : List V}

/-! ### the two steps: a tracked list is rewritten, a new list is laid -/
theorem Inv.lset {its its' : List Value} {n : Nat} {f : Array Value → Array Value} {t' : Nat} (I : Inv X pins σ H s) (hH : H l = some (.lst xs))
    (e : s.heap.get? l = some { cls := .type "list", data := .seq its.toArray n }) (hf : f its.toArray = its'.toArray) (hv : Vals ys its') (hz : ys.length ≤ sizeLine) :
    Inv X pins σ (upd H l (.lst ys)) { s with heap := s.heap.update l (Obj.mapSeq f), toks := t' } := by
  have q := PySem.IsL.update e f
  rw [hf] at q
  refine I.write (x := l) (e := l) (by rw [hH]; exact trivial) (.inl rfl) (fun b' u hb hu => (Heap.get?_update_other s.heap (Obj.mapSeq f) (Ne.symm hb)).trans hu) ⟨_, q⟩ ?_
  exact ⟨hz, its', _, hv, q⟩
theorem Inv.lnew {its : List Value} {t' : Nat} (I : Inv X pins σ H s) (hv : Vals ys its) (hz : ys.length ≤ sizeLine) :
    Inv X pins σ (upd H s.heap.objs.size (.lst ys)) { s with heap := s.heap.push { cls := .type "list", data := .seq its.toArray }, toks := t' } :=
  I.laid (fun _ _ q => Heap.get?_push_of_some _ q) (Nat.le_refl _) ⟨hz, its, 0, hv, Heap.get?_push_size _ rfl⟩
theorem Inv.fresh (I : Inv X pins σ H s) : H s.heap.objs.size = none := I.hok.fresh (Nat.le_refl _)
theorem Inv.lstM (I : Inv X pins σ H s) (hH : H l = some (.lst xs)) : xs.length ≤ sizeLine ∧ ∃ (its : List Value) (n : Nat), Vals xs its ∧ xs.length = its.length ∧ s.heap.get? l = some { cls := .type "list", data := .seq its.toArray n } := by
  obtain ⟨z, its, n, r, e⟩ := I.hok l _ hH
  exact ⟨z, its, n, r, r.length, e⟩

theorem notLongL {n : Nat} (h : n ≤ sizeLine) : Builtin.List.listTooLong n = false := by
  unfold Builtin.List.listTooLong
  exact decide_eq_false (by omega)
end

section
variable {X : Cx}

/-! ### methods -/
def rAppend : V → List V → Hp → VK → Prop := fun x vs H Q => ∃ l xs y, x = .ref l ∧ vs = [y] ∧ H l = some (.lst xs) ∧ xs.length < sizeLine ∧ Q .non (upd H l (.lst (xs ++ [y])))
theorem mt_append : MtM X "list.append" rAppend := by
  intro pins s σ H x vs v us Q I rx rv h
  obtain ⟨l, xs, y, rfl, rfl, hH, hz, q⟩ := h
  cases rx
  obtain ⟨u, rfl, ru⟩ := rv.one
  obtain ⟨z, its, n, r, hl, e⟩ := I.lstM hH
  refine call_meets F.slot_list_append ⟨_, e, rfl⟩ F.entry_list_append (F.args_list_append_2 _ _) (PySem.list_append l its.toArray n u (by rw [List.size_toArray]; omega)) ⟨e, ?_⟩
  refine ⟨.non, _, I.lset (its' := its ++ [u]) hH e (by simp) (r.append (.cons ru .nil)) ?_, rfl, q⟩
  rw [List.length_append, List.length_singleton]
  omega

def rExtend : V → List V → Hp → VK → Prop := fun x vs H Q => ∃ l b xs zs, x = .ref l ∧ vs = [.ref b] ∧ H l = some (.lst xs) ∧ H b = some (.lst zs) ∧ xs.length + zs.length ≤ sizeLine ∧ Q .non (upd H l (.lst (xs ++ zs)))
theorem mt_extend : MtM X "list.extend" rExtend := by
  intro pins s σ H x vs v us Q I rx rv h
  obtain ⟨l, b, xs, zs, rfl, rfl, hH, hB, hz, q⟩ := h
  cases rx
  obtain ⟨u, rfl, ru⟩ := rv.one
  cases ru
  obtain ⟨z, its, n, r, hl, e⟩ := I.lstM hH
  obtain ⟨z2, its2, n2, r2, hl2, e2⟩ := I.lstM hB
  have hsz : its.toArray.size + its2.toArray.size ≤ sizeLine := by rw [List.size_toArray, List.size_toArray]; omega
  have hlong : ¬ (!its.toArray.isEmpty && Builtin.List.listTooLong (its.toArray.size + its2.toArray.size)) = true := by
    rw [notLongL hsz, Bool.and_false]
    exact Bool.false_ne_true
  refine call_meets F.slot_list_extend ⟨_, e, rfl⟩ F.entry_list_extend (F.args_list_extend_2 _ _)
    (AutoSeq1.list_extend_list_list_0 l its.toArray n b its2.toArray n2 hlong (by rw [List.size_toArray]; omega) (by omega)) ⟨e, e2, ?_⟩
  refine ⟨.non, _, I.lset (its' := its ++ its2) hH e (by simp) (r.append r2) ?_, rfl, q⟩
  rw [List.length_append]
  omega

def rPop : V → List V → Hp → VK → Prop := fun x vs H Q => ∃ l xs y, x = .ref l ∧ vs = [] ∧ H l = some (.lst xs) ∧ xs[xs.length - 1]? = some y ∧ Q y (upd H l (.lst xs.dropLast))
theorem mt_pop : MtM X "list.pop" rPop := by
  intro pins s σ H x vs v us Q I rx rv h
  obtain ⟨l, xs, y, rfl, rfl, hH, hy, q⟩ := h
  cases rx
  have hus := rv.zero
  subst hus
  obtain ⟨z, its, n, r, hl, e⟩ := I.lstM hH
  obtain ⟨u, hu, ru⟩ := r.get hy
  have hy' : its.toArray[its.toArray.size - 1]? = some u := by
    show its.toArray[its.length - 1]? = some u
    rw [← Array.getElem?_toList, ← hl]
    exact hu
  refine call_meets F.slot_list_pop ⟨_, e, rfl⟩ F.entry_list_pop (F.args_list_pop_1 _) (MeetsSeq.list_pop_last l its.toArray n u hy' (by rw [List.size_toArray]; omega)) ⟨e, ?_⟩
  refine ⟨y, _, I.lset (its' := its.dropLast) hH e ?_ r.dropLast ?_, ru, q⟩
  · show its.toArray.eraseIdxIfInBounds (its.toArray.size - 1) = its.dropLast.toArray
    rw [List.size_toArray, List.eraseIdxIfInBounds_toArray, erase_last]
  · rw [List.length_dropLast]
    omega

/-! ### list + list, list += list, list * int -/
def rCat : R2 := fun x y H Q => ∃ l b xs zs, x = .ref l ∧ y = .ref b ∧ H l = some (.lst xs) ∧ H b = some (.lst zs) ∧ xs.length + zs.length ≤ sizeLine ∧ ∀ p, H p = none → Q (.ref p) (upd H p (.lst (xs ++ zs)))
theorem op_cat : OpR X (binaryOp .Add) rCat := by
  intro pins s σ H x y v u Q I rx ry h
  obtain ⟨l, b, xs, zs, rfl, rfl, hH, hB, hz, q⟩ := h
  cases rx
  cases ry
  obtain ⟨z, its, n, r, hl, e⟩ := I.lstM hH
  obtain ⟨z2, its2, n2, r2, hl2, e2⟩ := I.lstM hB
  refine PySem.P.add_list e e2 ?_ (by rw [List.size_toArray, List.size_toArray]; omega)
  have ea : its.toArray ++ its2.toArray = (its ++ its2).toArray := by simp
  rw [ea]
  exact ⟨.ref _, _, I.lnew (t' := s.toks) (r.append r2) (by rw [List.length_append]; omega), rfl, q _ I.fresh⟩
/-! ### del xs[i] -/
end

/-! ### xs[a:b] = ys -/
section
variable {prog : Program} {w : World} {A : Around} {E : Value → Shared → Prop} {s : Shared}
end

section
variable {X : Cx}
end
end L2

namespace Att
open PySem PySem.W PySem.Calls PyProof.Rows

/-! ### the script -/
theorem ints_of_wellAll {P : Params} {h : Heap} : ∀ (ns : List Int) (vs : List Value), WellAll P h vs (ns.map WData.int) → IntsAre vs ns := by
  intro ns
  induction ns with
  | nil =>
    intro vs w
    rw [List.map_nil] at w
    cases w
    exact .nil
  | cons n ns ih =>
    intro vs w
    rw [List.map_cons] at w
    cases w with
    | cons a b =>
      cases a
      exact .cons _ _ (ih _ b)

theorem script_of {l : OpenLaw} {n : Nat} (hn : l.most = some n) {P : Params} {h : Heap} {args : List WData} {vals : List Value}
    (hpre : l.row.toRowW.claim.pre args = true) (hwl : WellAll P h vals args) :
    ∃ a vs ns, vals = [Value.ref a] ∧ args = [WData.list (ns.map WData.int)] ∧ h.get? a = some { cls := .type "list", data := .seq vs.toArray } ∧ IntsAre vs ns ∧ ns.length ≤ n := by
  have hsh : WShape.hasAll [] args [.list .int] = true := (pre_splitW hpre).1
  have hc : l.pre.holds [] { args := args } = true := (pre_splitW hpre).2
  obtain ⟨d, r, rfl, h1, h2⟩ := hasAllW_cons hsh
  obtain rfl := hasAllW_nil h2
  obtain ⟨xs, rfl, h3⟩ := hasW_list h1
  obtain ⟨ns, rfl⟩ := items_int h3
  have hlen : ns.length ≤ n := by
    unfold OpenLaw.pre at hc
    have h4 : (WTm.not (.lt (.lit (.int (n : Int))) (.len (.arg 0)))).holds [] { args := [.list (ns.map .int)] } = true := by
      have h4 := (holds_andW hc).1
      rw [hn] at h4
      exact h4
    have h5 := condW_of h4 (w_not (w_lt w_lit (w_len_list (w_arg rfl))))
    rw [List.length_map] at h5
    refine Nat.le_of_not_lt fun q => ?_
    have q' : (n : Int) < ((ns.length : Nat) : Int) := by omega
    first
      | (rw [decide_eq_true q'] at h5; exact absurd h5 (by decide))
      | (simp at h5; omega)
  cases hwl with
  | cons w1 w2 =>
    cases w2
    cases w1 with
    | list ho hall => exact ⟨_, _, ns, rfl, rfl, ho, ints_of_wellAll ns _ hall, hlen⟩

theorem post_true (l : OpenLaw) (args : List WData) : l.row.toRowW.claim.post args (.bool true) args = true :=
  postW_of (r := l.row.toRowW) (X := (true == true))
    (show WShape.has [] (.bool true) .bool = true by first | rfl | decide | simp [WShape.has, WShape.arms, WShape.armsAll])
    (show (WTm.eq .res (.lit (.bool true))).value [] { args := args, res := some (.bool true), after := args } = some (.bool (true == true)) from w_eq_bool (w_res rfl) w_lit) rfl

/-! ### the attachment: holds_open's last premise (the goal 'hc' behind k_head) from a wpAny of the law's body -/
/-- the same from a codeAny of the CALL (for a layer whose function contracts speak of calls) -/
theorem attach_call {l : OpenLaw} {n : Nat} {q : Program} {loose : List Str} {XP : (Str → Option Value) → Heap → Prop} {YP : World → Heap → Prop} {d : DefRec}
    (hn : l.most = some n) (hdf : d.params.defaults = [])
    (call : ∀ (w : World) (s₀ s₁ : Shared) (mg mb : Str → Option Value) (fa : Addr) (o : Obj) (pm cd doc : Value) (a : Addr) (vs : List Value) (ns : List Int),
      Ground q loose [] XP w s₀ mg mb s₁.heap → YP w s₁.heap →
      s₁.heap.get? fa = some o → o.data = .func (docDef d.name d.params d.body d.scope pm cd doc) → s₁.heap.CodeRec cd d.name → mg d.name = some (.ref fa) →
      s₁.heap.get? a = some { cls := .type "list", data := .seq vs.toArray } → IntsAre vs ns → ns.length ≤ n → s₁.gens = #[] →
      codeAny (model l.prog w) callerA (.call (.ref fa) ⟨[.ref a], []⟩) (fun r s' => r = .ok (.ret (.bool true)) ∧ OldK s₁.heap s'.heap ∧ s'.os = s₁.os ∧ AllBare s'.gens) s₁) :
    WalkO q loose XP YP l.row.toRowW d [] (fun f vs => PySem.call f vs) := by
  intro w s₀ s₁ mg mb G Y fa o pm cd doc dV kV ho hd hcd hD hmg hg args vals as hpre hlay hrd hwl hlo
  obtain rfl : dV = .none := Dflts.none hD hdf
  obtain rfl : kV = .none := Dflts.noKw hD
  obtain ⟨a, vs, ns, rfl, rfl, hobj, hints, hlen⟩ := script_of hn hpre hwl
  refine enter_call (codeAny_mono (call w s₀ s₁ mg mb fa o pm cd doc a vs ns G Y ho (fd_plain hd) hcd hmg hobj hints hlen hg) fun r s' hq => ?_)
  obtain ⟨rfl, h2, h3, h4⟩ := hq
  exact ⟨.inl ⟨.bool true, .bool true, [], rfl, fun _ => rfl, .bool true, post_true l _, fun _ => ⟨List.Pairwise.nil, fun _ hm => (nomatch hm)⟩⟩, h2, h3, h4⟩

/-! ### rules over ANY heap (no ledger) from facts about the written part K: the library's own take a ledger (News) for what they write -/
section
variable {prog : Program} {w : World} {A : Around} {E : Value → Shared → Prop} {s : Shared} {K : Frag}

/-! the whole heap as the ledger: makes every rule that writes through a ledger a rule over any heap -/
def ledger (h : Heap) (L d : Addr) : List (Addr × Obj) := (List.range h.objs.size).filterMap fun a => if a = L ∨ a = d then none else (h.get? a).map fun o => (a, o)
end
end Att

namespace L2
open PySem PySem.Spec PyProof.Rows

theorem vals_ints : ∀ {vs : List Value} {ns : List Int}, IntsAre vs ns → Vals (ns.map V.int) vs
  | _, _, .nil => .nil
  | _, _, .cons n t h => .cons ⟨t, rfl⟩ (vals_ints h)

/-- nothing is tracked but the script, known to the object (or it is an object of the module) -/
def Only (H : Hp) : Prop := ∀ b, H b = none ∨ ∃ o xs, H b = some (.frz o (.lst xs))

/-- THE HEAD: the law's promise, at the heap behind the top. F, the promise of the law's def, may use that base is part of the heap (so K.In base, base.Ns mainGlobals mg stand in Mod) -/
theorem law_call {P : Program} {w : World} {K : PySem.W.Frag} {mg mb : Str → Option Value} {CX : CXT} {k : Nat} {fa a : Addr} {fd : FuncData} {x : Str} {sp : Sp} {s₁ : Shared} {vs : List Value} {ns : List Int}
    (KX : K.In s₁.heap) (hns : s₁.heap.Ns mainGlobals mg) (hb : s₁.heap.Ns builtinsNs mb) (hbb : ∀ x : Str, x ≠ "__name__" → mb x = bootBuiltins x) (hlim : s₁.heap.NoLimit) (hg : s₁.gens = #[])
    (ha : s₁.heap.get? a = some { cls := .type "list", data := .seq vs.toArray }) (hi : IntsAre vs ns) (hl : ns.length ≤ sizeLine) (hr : Room k callerA)
    (F : ∀ base : Heap, K.In base → base.Ns mainGlobals mg → FnOk P w K mg base CX k fa fd [x] sp) (hbind : ∀ (s : Shared) (u : Value), BindsTo s fd ⟨[u], []⟩ [(x, u)])
    (hsp : ∀ H : Hp, Only H → SqL K H a (ns.map V.int) → sp [.ref a] H (fun v _ => v = .bl true) fun _ _ _ => False)
    (hCX : ∀ H e s', CX [] H s₁ (fun _ _ _ => False) e s' → False) :
    codeAny (model P w) callerA (.call (.ref fa) ⟨[.ref a], []⟩) (fun r s' => r = .ok (.ret (.bool true)) ∧ OldK s₁.heap s'.heap ∧ s'.os = s₁.os ∧ AllBare s'.gens) s₁ := by
  have rv := vals_ints hi
  have lenV := hi.length
  -- from an abstract heap in which nothing but the script may be tracked
  have core : ∀ H : Hp, Only H → SqL K H a (ns.map V.int) → HOk P w H s₁.heap → (∀ b, H b ≠ none → b = a) → (H a ≠ none → K.lookup a = none) →
      codeAny (model P w) callerA (.call (.ref fa) ⟨[.ref a], []⟩) (fun r s' => r = .ok (.ret (.bool true)) ∧ OldK s₁.heap s'.heap ∧ s'.os = s₁.os ∧ AllBare s'.gens) s₁ := by
    intro H hO hS hok hA hK
    have base_of : ∀ {b : Addr} {o : Obj}, s₁.heap.get? b = some o → H b = none → (hidT s₁.heap H).get? b = some o := fun e n => hidT_get e n
    have noA : ∀ {b : Addr} {o : Obj} {es : Array DictEntry} {ep : Nat}, s₁.heap.get? b = some o → o.data = .dict es ep → H b = none := fun {b o es ep} e d => by
      cases q : H b with
      | none => rfl
      | some u =>
        have e' : b = a := hA b (by rw [q]; simp)
        subst e'
        rw [ha] at e; cases e
        have d' : Data.seq vs.toArray _ = Data.dict es ep := d
        cases d'
    have nsK : ∀ {b : Addr} {m : Str → Option Value}, s₁.heap.Ns b m → (hidT s₁.heap H).Ns b m := fun {b m} ⟨o, es, ep, e, d, r⟩ => ⟨o, es, ep, base_of e (noA e d), d, r⟩
    have hKb : K.In (hidT s₁.heap H) := fun b o e => base_of (KX b o e) (by
      cases q : H b with
      | none => rfl
      | some u =>
        have e' : b = a := hA b (by rw [q]; simp)
        subst e'
        rw [hK (by rw [q]; simp)] at e; cases e)
    have hM : Mod K mg (hidT s₁.heap H) := ⟨hKb, nsK hns, ⟨mb, nsK hb, hbb⟩, let ⟨mc, h1, h2⟩ := hlim; ⟨mc, nsK h1, h2⟩⟩
    have e0 : Env0 P w K mg (hidT s₁.heap H) callerA [] s₁ H := ⟨rfl, hM, fun b o e => of_hidT e, Nat.le_of_eq (hidT_size _ _), trivial, fun b hb => absurd (show b ∈ ([] : List Addr) from hb) (by simp), hok, .of_eq hg⟩
    refine codeAny_mono ((F _ hKb (nsK hns)).run callerA [] s₁ H ⟨[.ref a], []⟩ [.ref a] [.ref a] _ _ hr e0 (hbind s₁ (.ref a)) (.cons rfl .nil) (hsp H hO hS)) fun r s' h => ?_
    cases r with
    | error e => exact (hCX H e s' h).elim
    | ok fl =>
      cases fl with
      | next => exact False.elim h
      | brk => exact False.elim h
      | cont => exact False.elim h
      | ret u =>
        obtain ⟨v, H', os, bare, un, hok', r', q⟩ := h
        have q' : v = .bl true := q
        subst q'
        obtain rfl : u = Value.bool true := r'
        refine ⟨rfl, OldK.of_keep fun b o e => ?_, os, bare⟩
        cases q : H b with
        | none => exact un.keep b o e q (by intro z; exact absurd (show b ∈ ([] : List Addr) from z) (by simp)) (by simp)
        | some u =>
          rcases hO b with z | ⟨ob, xs, z⟩
          · rw [q] at z; cases z
          · have z2 := un.frzs b ob _ z
            obtain ⟨e1, _⟩ := hok b _ z
            obtain ⟨e2, _⟩ := hok' b _ z2
            rw [e] at e1; cases e1
            exact e2
  cases hk : K.lookup a with
  | some o =>
    -- the script is one of the module's own objects
    have e := KX a o hk
    rw [ha] at e
    cases e
    refine core (fun _ => none) (fun _ => .inl rfl) (.inr ⟨_, vs.toArray, _, hk, rfl, rfl, rfl, by rw [List.size_toArray, lenV]; exact hl, by simpa using rv⟩) (fun b u z => by have z' : (none : Option HO) = some u := z; cases z') (fun b z => absurd rfl z) fun z => absurd rfl z
  | none =>
    refine core (fun b => if b = a then some (.frz { cls := .type "list", data := .seq vs.toArray } (.lst (ns.map V.int))) else none) (fun b => ?_) (.inl (.inr ⟨{ cls := .type "list", data := .seq vs.toArray }, if_pos rfl⟩)) (fun b u z => ?_) (fun b z => ?_) fun _ => hk
    · by_cases hb : b = a
      · exact .inr ⟨_, _, if_pos hb⟩
      · exact .inl (if_neg hb)
    · by_cases hb : b = a
      · have z' := (if_pos hb).symm.trans z
        cases z'
        subst hb
        exact ⟨ha, by rw [List.length_map]; exact hl, vs, _, rv, ha⟩
      · have z' := (if_neg hb).symm.trans z
        cases z'
    · by_cases hb : b = a
      · exact hb
      · exact absurd (if_neg hb) z
end L2

namespace L2
open PySem PySem.Spec PyProof.Rows

abbrev KOf {K : PySem.W.Frag} {h : Heap} (_ : K.In h) : PySem.W.Frag := K

/-- the goal that k_head leaves (case hc), from the law's promise. F gives the function object fd (K's own) once, then the promise over every base -/
theorem walk_of {l : PySem.W.OpenLaw} {n k : Nat} {q : Program} {loose : List Str} {XP : (Str → Option Value) → Heap → Prop} {YP : World → Heap → Prop} {d : DefRec} {K : Params → PySem.W.Frag} {CX : World → CXT} {sp : World → Sp} {x : Str}
    (hn : l.most = some n) (hn2 : n ≤ sizeLine) (hdf : d.params.defaults = []) (hr : Room k callerA)
    (hY : ∀ (w : World) (h : Heap), YP w h → (K w.params).In h)
    (F : ∀ (w : World) (mg : Str → Option Value) (fa : Addr) (h : Heap), (K w.params).In h → h.Ns mainGlobals mg → mg d.name = some (.ref fa) →
      ∃ fd : FuncData, (∀ (s : Shared) (u : Value), BindsTo s fd ⟨[u], []⟩ [(x, u)]) ∧
        ∀ base : Heap, (K w.params).In base → base.Ns mainGlobals mg → FnOk l.prog w (K w.params) mg base (CX w) k fa fd [x] (sp w))
    (hsp : ∀ (w : World) (H : Hp) (a : Addr) (ns : List Int), ns.length ≤ n → Only H → SqL (K w.params) H a (ns.map V.int) → sp w [.ref a] H (fun v _ => v = .bl true) fun _ _ _ => False)
    (hCX : ∀ (w : World) (H : Hp) (s : Shared) (e : Value) (s' : Shared), CX w [] H s (fun _ _ _ => False) e s' → False) :
    PySem.W.WalkO q loose XP YP l.row.toRowW d [] (fun f vs => PySem.call f vs) := by
  refine Att.attach_call hn hdf fun w s₀ s₁ mg mb fa o pm cd doc a vs ns G Y ho hd hcd hmg hobj hints hlen hg => ?_
  have KX := hY w _ Y
  obtain ⟨fd, hb, hF⟩ := F w mg fa _ KX G.T.g hmg
  exact law_call KX G.T.g G.T.b G.T.builtins G.T.nolimit hg hobj hints (Nat.le_trans hlen hn2) hr hF hb (fun H hO hS => hsp w H a ns hlen hO hS) fun H e s' => hCX w H s₁ e s'
end L2

/- THE LAST THEOREM (shape; LID, My.* are yours):
   My.Adr: a structure of the addresses that your layer names (classes, functions); My.Txt K t: a structure (Prop) of the equations over K;
   My.txt_mk : {K} {implicit addresses ..} (e1 : nsIn K mainGlobals "law" = some (some (.ref f))) (e2 : K.lookup f = some ⟨oc, od, .func (fnOf "law" "law" params body scope dV kV doc pm an cdv ct), sl⟩) (e3 : codeIn K cdv "law" = true) .. : ∃ t, My.Txt K t

set_option maxRecDepth 100000 in
set_option maxHeartbeats 0 in
theorem PySem.Challenge.cw_LID_holds : PySem.Challenge.rw_LID.Holds := by
  w_on; o_law; k_head; (case hw => w_witness2)
  k_fill
  refine L2.walk_of (l := PySem.Challenge.rw_LID) (n := 63) (k := 40) (x := "script") (CX := fun w => ..) (sp := fun _ => My.sp_law) rfl (by decide) rfl ⟨rfl, by decide, by decide⟩ (fun w h Y => PySem.W.kIn_of Y) ?F ?S ?C
  case F =>
    intro w mg fa h KX G hmg
    have T : ∃ t, My.Txt (L2.KOf KX) t := by
      dsimp only [L2.KOf]                          -- K must stand as «<heap const> w.params» for k_is
      refine' My.txt_mk ?e1 ?e2 ?e3 ..
      (case e1 => PySem.W.k_is)                    -- in the order: a name -> its address -> its object -> its parts
      (case e2 => PySem.W.k_is)
      ..
    obtain ⟨t, T⟩ := T
    have e0 := hmg.symm.trans (PySem.W.mg_of KX G T.law)
    cases e0                                       -- fa is the law's own address
    exact ⟨_, fun s u => .of_eq rfl, fun base kb nb => My.law_fn T kb nb⟩     -- if «.of_eq rfl» comes too early: refine' ⟨_, ?b, fun base kb nb => My.law_fn T kb nb⟩; exact fun s u => .of_eq rfl
  case S => exact fun w H a ns hl hO hS => ..
  case C => exact ..
(the tactic k_is has no namespace: write k_is) -/

/-! SHORT WORDS over the layer: a def of the text, its body, what a loop and a test want. -/
namespace L2
open PySem PySem.Spec PyProof.Rows

/-! ### the text by places -/
def defArgs (s : Stmt) : Arguments := match s with
  | .FunctionDef _ a _ _ _ _ _ _ _ _ => a
  | _ => { posonlyargs := [], args := [], vararg := none, kwonlyargs := [], kw_defaults := [], kwarg := none, defaults := [] }
def defBody (s : Stmt) : List Stmt := match s with
  | .FunctionDef _ _ b _ _ _ _ _ _ _ => b
  | _ => []
def defScope (s : Stmt) : Scope := match s with
  | .FunctionDef _ _ _ _ _ _ sc _ _ _ => sc
  | _ => { kind := .function, names := [], isGenerator := false, isCoroutine := false }

/-! ### no exception leaves a def -/
abbrev CX0 : CXT := fun _ _ _ _ _ _ => False
abbrev E0 : XK := fun _ _ _ => False
theorem pass0 {X : Cx} : Passes CX0 X E0 := fun _ _ _ _ _ _ _ h => h.elim

/-! ### a def (or method) of the text as it stands behind the top -/
structure Fun (K : PySem.W.Frag) (x qual : Str) (st : Stmt) (f : Addr) (fd : FuncData) : Prop where
  ex : ∃ (oc : Value) (od : Option Addr) (kV doc pm : Value) (an : Option Addr) (cdv ct : Value) (osl : Array (Option Value)),
    fd = PySem.W.fnOf x qual (defArgs st) (defBody st) (defScope st) .none kV doc pm an cdv ct ∧ K.lookup f = some ⟨oc, od, .func fd, osl⟩ ∧ PySem.W.codeIn K cdv qual = true
  kp : PySem.W.keepIn K (.ref f) = true
section
variable {P : Program} {w : World} {K : PySem.W.Frag} {mg : Str → Option Value} {base : Heap}
/-- THE RULE for a def: its body as a term of rules, and the reading of that term -/
theorem Fun.ok {x qual : Str} {st : Stmt} {f : Addr} {fd : FuncData} {N ps : List Str} {k : Nat} {sp : Sp} (F : Fun K x qual st f fd) (S : FnScope N ps (defScope st)) (len : ∀ vs H Q E, sp vs H Q E → vs.length = ps.length)
    (hbody : ∀ (cdv : Value) (A : Around) (outer : List Env) (s : Shared) (H : Hp) (vs : List V) (Q : VK) (E : XK), Room k (A.deeper (envOfC qual (defScope st) s.heap.objs.size f cdv)) → sp vs H Q E →
      ∃ t, PSs (cxOf CX0 P w K mg base N qual (defScope st) f cdv A outer s H E).nox (defBody st) t ∧ t { nx := fun _ H' => Q .non H', rt := Q } (start N vs) H) : FnOk P w K mg base CX0 (k + 1) f fd ps sp := by
  obtain ⟨oc, od, kV, doc, pm, an, cdv, ct, osl, rfl, lk, hcd⟩ := F.ex
  refine fn_of lk hcd S len fun A outer s H vs Q E hr hsp => ?_
  obtain ⟨t, h, q⟩ := hbody cdv A outer s H vs Q E hr hsp
  exact ⟨t, h.nox, q⟩
/-- how its arguments bind (no defaults): h is «fun _ _ _ _ _ _ us hl => match us, hl with | [_, _], _ => rfl», one _ a parameter -/
theorem Fun.binds {x qual : Str} {st : Stmt} {f : Addr} {fd : FuncData} {ps : List Str} (F : Fun K x qual st f fd)
    (h : ∀ (kV doc pm : Value) (an : Option Addr) (cdv ct : Value) (us : List Value), us.length = ps.length → bindArgs (PySem.W.fnOf x qual (defArgs st) (defBody st) (defScope st) .none kV doc pm an cdv ct) ⟨us, []⟩ = pure (ps.zip us)) : Binds K fd ps [] := by
  obtain ⟨oc, od, kV, doc, pm, an, cdv, ct, osl, rfl, lk, hcd⟩ := F.ex
  exact .all (h kV doc pm an cdv ct)
theorem fun_mk {x qual : Str} {st : Stmt} {f : Addr} {oc : Value} {od an : Option Addr} {osl : Array (Option Value)} {kV doc pm cdv ct : Value} (l : K.lookup f = some ⟨oc, od, .func (PySem.W.fnOf x qual (defArgs st) (defBody st) (defScope st) .none kV doc pm an cdv ct), osl⟩)
    (c : PySem.W.codeIn K cdv qual = true) (k : PySem.W.keepIn K (.ref f) = true) : Fun K x qual st f (PySem.W.fnOf x qual (defArgs st) (defBody st) (defScope st) .none kV doc pm an cdv ct) := ⟨⟨oc, od, kV, doc, pm, an, cdv, ct, osl, rfl, l, c⟩, k⟩
end
theorem hu_of {A : Around} {k : Nat} (hr : Room k A) : A.units + 1 < cLine := Nat.lt_of_le_of_lt (Nat.add_le_add_left (by decide : 1 ≤ 64) _) hr.units
theorem small1000 {n : Nat} (h : n ≤ 1000) : n < sizeLine := Nat.lt_of_le_of_lt h (by decide)

/-! ### expressions in short: the name that stands in the i-th slot -/
section
variable {X : Cx}
theorem pv (i : Nat) {x : Str} {pos : Pos} (hN : X.N[i]? = some x := by rfl) (hv : Vis X.env.scope x := by first | exact Or.inl rfl | exact Or.inr (Or.inl rfl) | exact Or.inr (Or.inr rfl)) (hd : (x == ("__debug__" : Str)) = false := by decide)
    (hcd : (x == ("__classdict__" : Str)) = false := by decide) : PE X (.Name x pos) (tVar i) := pe_var hN hv hd hcd
end

/-! ### tests -/
theorem iteF {A B : Prop} (h : B) : if false = true then A else B := by
  rw [if_neg Bool.false_ne_true]
  exact h
theorem ite2 {c A B : Prop} [Decidable c] (h1 : c → A) (h2 : ¬ c → B) : if c then A else B := by
  by_cases h : c
  · rw [if_pos h]
    exact h1 h
  · rw [if_neg h]
    exact h2 h
/-! ### heaps -/
/-- all that was tracked is as it was -/
def Same (H H' : Hp) : Prop := ∀ b o, H b = some o → H' b = some o
theorem Same.refl (H : Hp) : Same H H := fun _ _ h => h
theorem Same.trans {H H1 H2 : Hp} (a : Same H H1) (b : Same H1 H2) : Same H H2 := fun c o h => b c o (a c o h)
theorem Same.free {H H' : Hp} (e : Same H H') {l : Addr} (h : H' l = Option.none) : H l = Option.none := by
  cases q : H l with
  | none => rfl
  | some o =>
    rw [e l o q] at h
    cases h
theorem Same.seq {K : PySem.W.Frag} {H H' : Hp} {a : Addr} {xs : List V} (e : Same H H') (h : SqL K H a xs) : SqL K H' a xs := by
  rcases h with (h | ⟨o, h⟩) | h
  · exact .inl (.inl (e _ _ h))
  · exact .inl (.inr ⟨o, e _ _ h⟩)
  · exact .inr h

/-! ### a dict's pairs: keys that differ -/
section
variable {κ : Type} [DecidableEq κ]
end
end L2
set_option maxHeartbeats 4000000
namespace L2
open PySem PySem.Spec PyProof.Rows

/-! ### what a block closes over -/
def clOf (env : Env) (names : List (Str × NameKind)) : List (Str × Addr) :=
  names.foldl (fun cs y => if y.2 == NameKind.free then (y.1, (env.cells.lookup y.1).getD 0) :: cs else cs) []
theorem clFold {env : Env} : ∀ (names : List (Str × NameKind)) (cs : List (Str × Addr)), (∀ y ∈ names, y.2 = .free → ∃ c, env.cells.lookup y.1 = some c) →
    (forIn names cs fun (y : Str × NameKind) (r : List (Str × Addr)) => (if y.2 == NameKind.free then (do let a ← cellOf env y.1; pure (ForInStep.yield ((y.1, a) :: r))) else pure (ForInStep.yield r) : Sem (ForInStep (List (Str × Addr))))) =
      pure (names.foldl (fun cs y => if y.2 == NameKind.free then (y.1, (env.cells.lookup y.1).getD 0) :: cs else cs) cs)
  | [], cs, _ => rfl
  | (n, k) :: r, cs, h => by
    have ih := fun cs' => clFold (env := env) r cs' fun y hy => h y (List.mem_cons_of_mem _ hy)
    rw [List.forIn_cons, List.foldl_cons]
    by_cases hk : k = .free
    · subst hk
      obtain ⟨c, hc⟩ := h (n, .free) List.mem_cons_self rfl
      have e : cellOf env n = pure c := by unfold cellOf; rw [hc]
      simp only [beq_self_eq_true, if_true, e, pure_bind, hc, Option.getD_some]
      exact ih _
    · have hb : (k == NameKind.free) = false := by simpa using hk
      simp only [hb, Bool.false_eq_true, if_false, pure_bind]
      exact ih _
theorem closure_of {scope : Scope} {env : Env} (h : ∀ y ∈ scope.names, y.2 = .free → ∃ c, env.cells.lookup y.1 = some c) : closureFor scope env = pure (clOf env scope.names) := by
  unfold closureFor
  have e := clFold (env := env) scope.names [] h
  simp only [] at e ⊢
  refine Eq.trans ?_ (congrArg (fun m : Sem (List (Str × Addr)) => m >>= fun cs => pure cs) e)
  rfl
theorem cl_get {env : Env} {x : Str} {c : Addr} : ∀ (names : List (Str × NameKind)) (cs : List (Str × Addr)), (∀ y ∈ names, y.2 = .free → ∃ c, env.cells.lookup y.1 = some c) →
    (names.foldl (fun cs y => if y.2 == NameKind.free then (y.1, (env.cells.lookup y.1).getD 0) :: cs else cs) cs).lookup x = some c → cs.lookup x = some c ∨ env.cells.lookup x = some c
  | [], _, _, e => .inl e
  | (n, k) :: r, cs, h, e => by
    rw [List.foldl_cons] at e
    have ih := cl_get r _ (fun y hy => h y (List.mem_cons_of_mem _ hy)) e
    rcases ih with q | q
    · by_cases hk : k = .free
      · subst hk
        obtain ⟨c', hc⟩ := h (n, .free) List.mem_cons_self rfl
        simp only [beq_self_eq_true, if_true, hc, Option.getD_some, List.lookup_cons] at q
        cases hx : x == n with
        | true =>
          rw [hx] at q
          have : x = n := by simpa using hx
          subst this
          simp only [Option.some.injEq] at q
          subst q
          exact .inr hc
        | false =>
          rw [hx] at q
          exact .inl q
      · have hb : (k == NameKind.free) = false := by simpa using hk
        simp only [hb, Bool.false_eq_true, if_false] at q
        exact .inl q
    · exact .inr q
theorem cl_has {env : Env} {x : Str} : ∀ (names : List (Str × NameKind)) (cs : List (Str × Addr)), ((x, NameKind.free) ∈ names ∨ ∃ c, cs.lookup x = some c) →
    ∃ c, (names.foldl (fun cs y => if y.2 == NameKind.free then (y.1, (env.cells.lookup y.1).getD 0) :: cs else cs) cs).lookup x = some c
  | [], _, e => by rcases e with e | e; exact absurd e (by simp); exact e
  | (n, k) :: r, cs, e => by
    rw [List.foldl_cons]
    refine cl_has r _ ?_
    rcases e with e | ⟨c, e⟩
    · rcases List.mem_cons.mp e with z | z
      · cases z
        right
        simp only [beq_self_eq_true, if_true, List.lookup_cons]
        exact ⟨_, rfl⟩
      · exact .inl z
    · right
      by_cases hk : k = .free
      · subst hk
        simp only [beq_self_eq_true, if_true, List.lookup_cons]
        cases hx : x == n with
        | true => exact ⟨_, rfl⟩
        | false => exact ⟨c, e⟩
      · have hb : (k == NameKind.free) = false := by simpa using hk
        simp only [hb, Bool.false_eq_true, if_false]
        exact ⟨c, e⟩
/-- a name that the block holds as a cell or as free was free there -/
theorem relabel_free {env : Env} {x : Str} : ∀ {names : List (Str × NameKind)}, (∀ y ∈ names, y.2 ≠ .cell) →
    ((names.map fun (n, k) => if (k == NameKind.free && env.scope.kind == .function && env.kindOf n == some .cell) then (n, NameKind.cell) else (n, k)).lookup x = some .cell ∨
     (names.map fun (n, k) => if (k == NameKind.free && env.scope.kind == .function && env.kindOf n == some .cell) then (n, NameKind.cell) else (n, k)).lookup x = some .free) → (x, NameKind.free) ∈ names
  | [], _, h => by simp at h
  | (n, k) :: r, hc, h => by
    have ih := @relabel_free env x r fun y hy => hc y (List.mem_cons_of_mem _ hy)
    have hk := hc (n, k) List.mem_cons_self
    simp only [List.map_cons] at h
    by_cases cc : (k == NameKind.free && env.scope.kind == .function && env.kindOf n == some .cell) = true
    · rw [if_pos cc] at h
      have kf : k = .free := by
        simp only [Bool.and_eq_true, beq_iff_eq] at cc
        exact cc.1.1
      subst kf
      simp only [List.lookup_cons] at h
      cases hx : x == n with
      | true =>
        have : x = n := by simpa using hx
        subst this
        exact List.mem_cons_self
      | false => rw [hx] at h; exact List.mem_cons_of_mem _ (ih h)
    · rw [if_neg cc] at h
      simp only [List.lookup_cons] at h
      cases hx : x == n with
      | true =>
        rw [hx] at h
        have : x = n := by simpa using hx
        subst this
        rcases h with h | h
        · simp only [Option.some.injEq] at h
          exact absurd h hk
        · simp only [Option.some.injEq] at h
          subst h
          exact List.mem_cons_self
      | false => rw [hx] at h; exact List.mem_cons_of_mem _ (ih h)

/-- the tests of a clause, as one tree -/
abbrev testsT (ifs : List Expr) (env : Env) : Sem Bool := forIn ifs true fun c r =>
  if r = true then do
    let ok ← isTrue c env (eval c env)
    pure (ForInStep.yield ok)
  else pure (ForInStep.yield r)
/-! ### the tests of a clause -/
def PIfs (X : Cx) (ifs : List Expr) (t : TT) : Prop :=
  ∀ (pins : List (Addr × Obj)) (s : Shared) (σ : St) (H : Hp) (Q : Bool → Hp → Prop), Inv X pins σ H s → t σ H Q →
    wpAny (model X.prog X.w) X.A (testsT ifs X.env) (TP X pins σ Q) X.xe s
def tYes : TT := fun _ H Q => Q true H
theorem pf_nil {X : Cx} : PIfs X [] tYes := fun _ _ _ H _ I h => wpAny_tests_nil ⟨H, I, h⟩
theorem pf_one {X : Cx} {c : Expr} {t : TT} (h : PT X c t) : PIfs X [c] t := fun pins s σ H Q I q => wpAny_tests_one (h pins s σ H Q I q)

abbrev Nope : Value → Shared → Prop := fun _ _ => False
/-- the loop of a comprehension, with the step ahead of the store; nothing is raised -/
theorem comp_loop {prog : Program} {w : World} {A : Around} {R : Result → Shared → Prop} {s0 : Shared} {elt target iter : Expr} {ifs : List Expr} {scope : Scope} {pos : Pos} {it acc : Value} {env : Env} (W : Nat → Shared → Prop)
    (one : ∀ k t, W k t → wpAny (model prog w) A (pyNext it) (fun r t1 => match r with
      | none => R (.ok .next) t1
      | some v => wpAny (model prog w) A (letOwnedTupleGo target it v) (fun _ t2 => wpAny (model prog w) A (assign target env v) (fun _ t3 => wpAny (model prog w) A (testsT ifs env) (fun ok t4 =>
          if ok = true then wpAny (model prog w) A (eval elt env) (fun x t5 => wpAny (model prog w) A (call (.builtin "list.append") [acc, x]) (fun _ t6 => ∃ j, j < k ∧ W j t6) Nope t5) Nope t4
          else ∃ j, j < k ∧ W j t4) Nope t3) Nope t2) Nope t1) Nope t)
    (k0 : Nat) (h0 : W k0 s0) : codeAny (model prog w) A (.compLoop (.ListComp elt [⟨target, iter, ifs, 0⟩] scope pos) 0 it acc env) R s0 := by
  refine codeAny_loop rfl W (fun k t hW => ?_) k0 h0
  refine wpAny_noted (m := compTurn (.ListComp elt [⟨target, iter, ifs, 0⟩] scope pos) 0 it acc env) ?_
  have no : ∀ {P : Prop} {e : Value} {t : Shared}, Nope e t → P := fun z => z.elim
  rw [compTurn_list]
  refine wpAny_bind (wpAny_standAt (wpAny_bind (wpAny_mono (one k t hW) (fun r t1 q1 => ?_) fun _ _ => no)))
  match r with
  | none => exact wpAny_pure q1
  | some v =>
    refine wpAny_bind (wpAny_mono q1 (fun _ t2 q2 => wpAny_bind (wpAny_mono q2 (fun _ t3 q3 => wpAny_bind (wpAny_mono q3 (fun ok t4 q4 => ?_) fun _ _ => no)) fun _ _ => no)) fun _ _ => no)
    match ok with
    | false => exact wpAny_pure ⟨rfl, q4⟩
    | true =>
      rw [if_pos rfl] at q4
      refine wpAny_bind (wpAny_bind (wpAny_mono q4 (fun x t5 q5 => wpAny_bind (wpAny_mono q5 (fun _ t6 q6 => ?_) fun _ _ => no)) fun _ _ => no))
      exact wpAny_pure (wpAny_pure ⟨rfl, q6⟩)

/-! ### the block of a comprehension -/
/-- the block's names' values at its start: none, or those of the def's names -/
def entV (ix : List (Option Nat)) (σ : St) : St := ix.map fun o => o.bind fun j => σ[j]?.join
theorem entV_get {ix : List (Option Nat)} {σ : St} {i : Nat} {v : V} (h : (entV ix σ)[i]? = some (some v)) : ∃ j, ix[i]? = some (some j) ∧ σ[j]? = some (some v) := by
  unfold entV at h
  rw [List.getElem?_map] at h
  cases e : ix[i]? with
  | none => rw [e] at h; cases h
  | some o =>
    rw [e] at h
    cases o with
    | none => cases h
    | some j =>
      have h : some (σ[j]?.join) = some (some v) := h
      refine ⟨j, rfl, ?_⟩
      cases q : σ[j]? with
      | none => rw [q] at h; cases h
      | some z => rw [q] at h; cases h; rfl
/-- N': the block's names; ix: for each of them where it stands among the def's names (or none: a target) -/
def compOk (N : List Str) (sc scope : Scope) (N' : List Str) (ix : List (Option Nat)) : Bool :=
  ix.length == N'.length && (ix.zip N').all (fun p => match p.1 with | none => true | some j => N[j]? == some p.2 && scope.names.lookup p.2 == some NameKind.free) &&
  scope.names.all (fun y => y.2 != NameKind.cell && (y.2 != NameKind.free || sc.names.lookup y.1 == some NameKind.cell || sc.names.lookup y.1 == some NameKind.free) && (y.2 != NameKind.local || scope.names.lookup y.1 == some NameKind.local)) &&
  scope.kind == ScopeKind.function
structure CompOk (N : List Str) (sc scope : Scope) (N' : List Str) (ix : List (Option Nat)) : Prop where
  len : ix.length = N'.length
  at_ : ∀ (i j : Nat) (x : Str), ix[i]? = some (some j) → N'[i]? = some x → N[j]? = some x ∧ scope.names.lookup x = some .free
  nocell : ∀ y ∈ scope.names, y.2 ≠ .cell
  free : ∀ y ∈ scope.names, y.2 = .free → sc.names.lookup y.1 = some .cell ∨ sc.names.lookup y.1 = some .free
  loc : ∀ y ∈ scope.names, y.2 = .local → scope.names.lookup y.1 = some .local
  kind : scope.kind = .function
theorem CompOk.of {N : List Str} {sc scope : Scope} {N' : List Str} {ix : List (Option Nat)} (h : compOk N sc scope N' ix = true) : CompOk N sc scope N' ix := by
  unfold compOk at h
  simp only [Bool.and_eq_true, beq_iff_eq, List.all_eq_true] at h
  obtain ⟨⟨⟨h1, h2⟩, h3⟩, h4⟩ := h
  refine ⟨h1, fun i j x a b => ?_, fun y hy e => ?_, fun y hy e => ?_, fun y hy e => ?_, h4⟩
  · have hm : (some j, x) ∈ ix.zip N' := List.mem_of_getElem? (i := i) (by rw [List.getElem?_zip_eq_some]; exact ⟨a, b⟩)
    have q := h2 _ hm
    simp only [Bool.and_eq_true, beq_iff_eq] at q
    exact q
  · have q := h3 y hy
    simp only [Bool.and_eq_true, bne_iff_ne, ne_eq] at q
    exact q.1.1 e
  · have q := (h3 y hy).1.2
    rw [e] at q
    simpa using q
  · have q := (h3 y hy).2
    rw [e] at q
    simpa using q

/-- the context of the block: its frame at C, entered at s₂, H₂, its iterator's records fp -/
def compCx (X : Cx) (N' : List Str) (scope : Scope) (C : Addr) (s₂ : Shared) (H₂ : Hp) (fp : List Addr) : Cx where
  prog := X.prog
  w := X.w
  K := X.K
  mg := X.mg
  base := X.base
  A := X.A
  N := N'
  s₀ := s₂
  H₀ := H₂
  env := compEnvC scope (clOf X.env scope.names) C X.env
  outer := X.stack
  stack := X.stack
  ex := fp
  fn := fun _ => false
  calm := X.calm
  pn := []
  xe := fun _ _ => False
section
variable {X : Cx} {N' : List Str} {ix : List (Option Nat)} {scope : Scope} {pins : List (Addr × Obj)} {σ : St} {H₂ : Hp} {s₂ : Shared} {fp : List Addr} {C : Addr}
theorem CompOk.cells (S : CompOk X.N X.env.scope scope N' ix) (I : Inv X pins σ H₂ s₂) : ∀ y ∈ scope.names, y.2 = .free → ∃ c, X.env.cells.lookup y.1 = some c := fun y hy e => I.ok.has y.1 (S.free y hy e)
theorem CompOk.get (S : CompOk X.N X.env.scope scope N' ix) (I : Inv X pins σ H₂ s₂) {x : Str} {c : Addr} (h : (clOf X.env scope.names).lookup x = some c) : X.env.cells.lookup x = some c := by
  rcases cl_get scope.names [] (S.cells I) h with q | q
  · exact absurd q (by simp)
  · exact q
theorem compCx_ok (S : CompOk X.N X.env.scope scope N' ix) (I : Inv X pins σ H₂ s₂) (hf : ∀ b ∈ fp, FpOk X pins H₂ b) (hC : s₂.heap.objs.size ≤ C) (hfC : ∀ b ∈ fp, b < s₂.heap.objs.size) : (compCx X N' scope C s₂ H₂ fp).Ok where
  mod := I.ok.mod
  kind := S.kind
  glob := I.ok.glob
  blt := I.ok.blt
  above := hC
  inj := fun x y c a b => I.ok.inj x y c (S.get I a) (S.get I b)
  has := fun x h => cl_has scope.names [] (.inl (relabel_free S.nocell h))
  cab := fun x c h => by cases h
  hd := I.ok.hd
  frames := I.ok.frames
  stk := .inl rfl
  exf := fun b hb => ⟨Nat.ne_of_lt (Nat.lt_of_lt_of_le (hfC b hb) hC), fun x c e => (hf b hb).2.2.2.2.1 x c (S.get I e)⟩
  bs := I.bs
  bsz := Nat.le_trans I.ok.bsz I.sz
  noex := fun b o e hb => by
    rcases (hf b hb).2.2.2.1 with z | z
    · exact I.ok.noex b o e z
    · exact absurd (Nat.lt_of_lt_of_le (Heap.lt_size e) (Nat.le_trans I.ok.bsz z)) (Nat.lt_irrefl _)
  exfs := fun b hb hm => by
    rcases List.mem_cons.mp (I.stkSub b hm) with z | z
    · exact (hf b hb).2.1 z
    · exact (hf b hb).2.2.1 z
  funs := I.stack
  frf := I.stkFree
/-- the block is entered: a list D and its frame C are laid, both untracked -/
theorem comp_start (S : CompOk X.N X.env.scope scope N' ix) (I : Inv X pins σ H₂ s₂) (hf : ∀ b ∈ fp, FpOk X pins H₂ b) (hfC : ∀ b ∈ fp, b < s₂.heap.objs.size) {D : Addr} {h₁ : Heap} {tk : Nat} {m : Str → Option Value} {ob : Obj}
    (hC : s₂.heap.objs.size ≤ C) (hD : s₂.heap.objs.size ≤ D) (hDC : D ≠ C) (old : ∀ b o, s₂.heap.get? b = some o → h₁.get? b = some o) (hn : h₁.Ns C m) (hob : h₁.get? D = some ob) (hd : ∀ v, ob.data ≠ .cell v) :
    Inv (compCx X N' scope C s₂ H₂ fp) [(D, ob)] (entV ix σ) H₂ { s₂ with heap := h₁, toks := tk } := by
  have fr : ∀ a, s₂.heap.objs.size ≤ a → H₂ a = none := fun a ha => I.hok.fresh ha
  have cOf : ∀ x c, (clOf X.env scope.names).lookup x = some c → X.env.cells.lookup x = some c := fun x c e => S.get I e
  refine ⟨compCx_ok S I hf hC hfC, rfl, I.bare, Un.kept old, ⟨m, hn, fun i x v e1 e2 e3 => ?_⟩, fun x c e => ?_, fr C hC, fun x c e => I.freeC x c (cOf x c e), fun p hp => ?_, I.hok.kept old, ?_⟩
  · obtain ⟨j, q1, q2⟩ := entV_get e2
    obtain ⟨n1, n2⟩ := S.at_ i j x q1 e1
    have hm : (x, NameKind.free) ∈ scope.names := PySem.mem_of_lookup n2
    have hv : Vis X.env.scope x := by
      rcases S.free _ hm rfl with z | z
      · exact .inr (.inl z)
      · exact .inr (.inr z)
    obtain ⟨m0, _, hl⟩ := I.loc
    obtain ⟨u, r, l⟩ := hl j x v n1 q2 hv
    refine ⟨u, r, ?_⟩
    have hne : ¬ X.env.kindOf x = some .local := fun z => by
      have z : X.env.scope.names.lookup x = some .local := z
      rcases S.free _ hm rfl with y | y
      · rw [y] at z; cases z
      · rw [y] at z; cases z
    rcases l with ⟨k, _⟩ | ⟨k, c, e, z⟩
    · exact absurd k hne
    · obtain ⟨c', hc'⟩ := cl_has (env := X.env) (x := x) scope.names [] (.inl hm)
      have hc'' := cOf x c' hc'
      rw [e] at hc''
      cases hc''
      have kk : (compCx X N' scope C s₂ H₂ fp).env.kindOf x = some .cell ∨ (compCx X N' scope C s₂ H₂ fp).env.kindOf x = some .free := by
        rcases e3 with y | y | y
        · exfalso
          have : ∀ {names : List (Str × NameKind)}, names.lookup x = some .free →
            (names.map fun (n, k) => if (k == NameKind.free && X.env.scope.kind == .function && X.env.kindOf n == some .cell) then (n, NameKind.cell) else (n, k)).lookup x = some .local → False := by
            intro names
            induction names with
            | nil => intro a; simp at a
            | cons p r ih =>
              obtain ⟨n, k⟩ := p
              intro a b
              simp only [List.map_cons] at b
              simp only [List.lookup_cons] at a
              cases hx : x == n with
              | true =>
                rw [hx] at a
                simp only [Option.some.injEq] at a
                subst a
                split at b
                · simp [List.lookup_cons, hx] at b
                · simp [List.lookup_cons, hx] at b
              | false =>
                rw [hx] at a
                split at b
                · simp only [List.lookup_cons, hx] at b; exact ih a b
                · simp only [List.lookup_cons, hx] at b; exact ih a b
          exact this n2 y
        · exact .inl y
        · exact .inr y
      obtain ⟨oc, ho, hod⟩ := z
      exact .inr ⟨kk, c, hc', oc, old _ _ ho, hod⟩
  · obtain ⟨v, o, ho, hod⟩ := I.cell x c (cOf x c e)
    exact ⟨v, o, old _ _ ho, hod⟩
  · have hp : p ∈ [(D, ob)] := hp
    have e : p = (D, ob) := by simpa using hp
    subst e
    refine ⟨hob, fr D hD, hDC, fun hb => ?_, hd⟩
    have hb : D ∈ frs X.stack := hb
    rcases List.mem_cons.mp (I.stkSub D hb) with z | z
    · exact absurd I.lt (by rw [← z]; exact Nat.not_lt.mpr hD)
    · exact I.nofs hD z
  · show (entV ix σ).length = N'.length
    unfold entV
    rw [List.length_map, S.len]
/-- the block is left: the list is tracked -/
theorem comp_leave (I : Inv X pins σ H₂ s₂) (hf : ∀ b ∈ fp, FpOk X pins H₂ b) {pins' : List (Addr × Obj)} {σ' : St} {H' : Hp} {s' : Shared} {D : Addr} {ys : List V} {its : List Value} (hC : s₂.heap.objs.size ≤ C) (hD : s₂.heap.objs.size ≤ D)
    (J : Inv (compCx X N' scope C s₂ H₂ fp) pins' σ' H' s') (hn : H' D = none) (hl : s'.heap.PlainList D its.toArray) (r : Vals ys its) (hz : ys.length ≤ sizeLine) : Inv X pins σ (upd H' D (.lst ys)) s' := by
  have sb : Un (frs X.stack) fp H₂ H' s₂.heap s'.heap := J.base
  have nD : ∀ b u, H' b = some u → b ≠ D := fun b u e => ne_of_none e hn
  refine I.call' (ch := fp) J.os ⟨sb.keep, sb.slot, fun b o e n hx => ?_, sb.there, fun b xs e => ?_, fun b o u e => ?_, fun b ps e => ?_⟩ (fun b u e => ?_) J.bare (fun b hb => ?_)
  · rw [upd_ne (Nat.ne_of_lt (Nat.lt_of_lt_of_le (Heap.lt_size e) hD))]
    exact sb.free b o e n hx
  · have q := sb.tups b xs e
    rw [upd_ne (nD b _ q)]; exact q
  · have q := sb.frzs b o u e
    rw [upd_ne (nD b _ q)]; exact q
  · obtain ⟨more, q⟩ := sb.tbls b ps e
    exact ⟨more, by rw [upd_ne (nD b _ q)]; exact q⟩
  · by_cases hb : b = D
    · subst hb
      rw [upd_same] at e
      cases e
      obtain ⟨n, hg⟩ := hl
      exact ⟨hz, its, n, r, hg⟩
    · rw [upd_ne hb] at e
      exact (J.hok b u e).stay (fun c v _ q => q) (fun c q => by rw [upd_ne (nD c _ q)]; exact q) fun c xs q => by rw [upd_ne (nD c _ q)]; exact q
  · obtain ⟨_, f1, _, f3, f4, f5⟩ := hf b hb
    exact ⟨f3, f1, f4, f5⟩
end
end L2
namespace L2
open PySem PySem.Spec PyProof.Rows

/-- a comprehension: W is what holds between two turns, ys the items so far -/
def CompW (J : It) (g : TG) (tc : TT) (te : TE) (Kf : List V → Hp → Prop) (σ0 : St) (H1 : Hp) : Prop :=
  ∃ W : Nat → Nat → List V → St → Hp → Prop, (∃ m, W 0 m [] σ0 H1) ∧ ∀ i m ys σ' H', W i m ys σ' H' → ys.length < sizeLine ∧
    ((J.stop i H' ∧ Kf ys H') ∨ (J.go i H' ∧ ∃ N : List V → St → Hp → Prop, (∀ ys' σ2 H2, N ys' σ2 H2 → ∃ m', m' < m ∧ W (i + 1) m' ys' σ2 H2) ∧ ∀ x H'', J.yld i H' x H'' → g x σ' H'' fun σ2 H2 => tc σ2 H2 fun b H3 =>
      if b = true then te σ2 H3 fun y H4 => N (ys ++ [y]) σ2 H4 else N ys σ2 H3))
def tComp (wi : TI) (ix : List (Option Nat)) (g : TG) (tc : TT) (te : TE) : TE := fun σ H Q =>
  wi σ H fun J H1 => CompW J g tc te (fun ys H' => ∀ l, H' l = none → Q (.ref l) (upd H' l (.lst ys))) (entV ix σ) H1

section
variable {X : Cx} {tg elt iter : Expr} {ifs : List Expr} {scope : Scope} {pos : Pos} {N' : List Str} {ix : List (Option Nat)} {wi : TI} {g : TG} {tc : TT} {te : TE}

/-- where the block ends -/
def CompEnd (X : Cx) (pins : List (Addr × Obj)) (σ : St) (Kf : List V → Hp → Prop) (acc : Value) (C : Addr) (s' : Shared) : Prop :=
  ∃ D H' ys, acc = .ref D ∧ H' D = none ∧ Inv X pins σ (upd H' D (.lst ys)) s' ∧ (∃ m, s'.heap.Ns C m) ∧ H' C = none ∧ D ≠ C ∧ C ≠ X.env.locals ∧ X.s₀.heap.objs.size ≤ C ∧ (∀ x c, X.env.cells.lookup x = some c → c ≠ C) ∧ (∀ p ∈ X.pn ++ pins, p.1 ≠ C) ∧ Kf ys H'

theorem comp_core {pins : List (Addr × Obj)} {s₂ : Shared} {σ : St} {H₂ : Hp} {it : Addr} {fp : List Addr} {tn : Nat → Heap → Prop} {J : It} {Kf : List V → Hp → Prop} {RR : Value → Addr → Result → Shared → Prop} {E : Value → Shared → Prop}
    (S : CompOk X.N X.env.scope scope N' ix) (hc : X.calm = true)
    (hg : ∀ C s₂ H₂ fp, PG (compCx X N' scope C s₂ H₂ fp) tg g) (ht : ∀ C s₂ H₂ fp, PIfs (compCx X N' scope C s₂ H₂ fp) ifs tc) (he : ∀ C s₂ H₂ fp, PE (compCx X N' scope C s₂ H₂ fp) elt te)
    (I2 : Inv X pins σ H₂ s₂) (T : Turn X.prog X.w X.K tg J fp it tn) (st2 : tn 0 s₂.heap) (f2 : ∀ b ∈ fp, FpOk X pins H₂ b) (w : CompW J g tc te Kf (entV ix σ) H₂)
    (hR : ∀ acc C s', CompEnd X pins σ Kf acc C s' → RR acc C (.ok .next) s') :
    wpAny (model X.prog X.w) X.A (newList []) (fun acc s₃ => wpAny (model X.prog X.w) X.A (newFunctionEnv scope X.env.globals (clOf X.env scope.names) [] X.env.qual none .none (some X.env)) (fun cenv s₄ =>
      codeAny (model X.prog X.w) X.A (.compStart (.ListComp elt [⟨tg, iter, ifs, 0⟩] scope pos) 0 (.ref it) acc { cenv with scope := relabel scope X.env }) (RR acc cenv.locals) s₄) E s₃) E s₂ := by
  obtain ⟨W, ⟨m0, w0⟩, turn⟩ := w
  refine wpAny_newObj_type (wpAny_newFunctionEnv S.nocell (by intro y hy; simp at hy) (fun h₁ nsN sbN => ?_) S.kind)
  dsimp only at nsN sbN ⊢
  generalize eH : s₂.heap.push { cls := .type "list", dict := none, data := .seq ([] : List Value).toArray } = G2 at nsN sbN ⊢
  have sizeC : G2.objs.size = s₂.heap.objs.size + 1 := by rw [← eH, Heap.size_push]
  have neDC : s₂.heap.objs.size ≠ G2.objs.size := by rw [sizeC]; exact Nat.ne_of_lt (Nat.lt_succ_self _)
  have leC : s₂.heap.objs.size ≤ G2.objs.size := by rw [sizeC]; exact Nat.le_succ _
  have older : ∀ b, b < s₂.heap.objs.size → b ≠ G2.objs.size ∧ b ≠ s₂.heap.objs.size := fun b hb => ⟨by rw [sizeC]; exact Nat.ne_of_lt (Nat.lt_succ_of_lt hb), Nat.ne_of_lt hb⟩
  have keepOld : ∀ b o, s₂.heap.get? b = some o → h₁.get? b = some o := fun b o e => sbN.extBut b o (older b (Heap.lt_size e)).1 (Heap.get?_push_of_some _ (eH ▸ Heap.get?_push_of_some _ e))
  have accNew : h₁.PlainList s₂.heap.objs.size #[] := ⟨_, sbN.extBut _ _ neDC (Heap.get?_push_of_some _ (eH ▸ Heap.get?_push_size _ rfl))⟩
  generalize eC : G2.objs.size = C at *
  generalize eD : s₂.heap.objs.size = D at *
  have hfC : ∀ b ∈ fp, b < s₂.heap.objs.size := fun b hb => by
    obtain ⟨o, e, _⟩ := T.obj 0 _ st2 b hb
    exact Heap.lt_size e
  have hfD : ∀ b ∈ fp, b ≠ D := fun b hb => by have := hfC b hb; rw [eD] at this; exact Nat.ne_of_lt this
  have hfC' : ∀ b ∈ fp, b ≠ C := fun b hb => by have := hfC b hb; rw [eD] at this; exact Nat.ne_of_lt (Nat.lt_of_lt_of_le this leC)
  have geD : s₂.heap.objs.size ≤ D := by rw [eD]; exact Nat.le_refl _
  have geC : s₂.heap.objs.size ≤ C := by rw [eD]; exact leC
  obtain ⟨nn, hob⟩ := id accNew
  have J1 : Inv (compCx X N' scope C s₂ H₂ fp) [] (entV ix σ) H₂ { s₂ with heap := h₁, toks := s₂.toks + ([] : List (Str × Value)).length } :=
    (comp_start S I2 f2 hfC geC geD neDC keepOld nsN hob (fun v z => by cases z)).pins_of (fun p hp => absurd hp (by simp))
  have nfsD : D ∉ frs X.stack := fun hb => by
    rcases List.mem_cons.mp (I2.stkSub D hb) with z | z
    · exact absurd I2.lt (by rw [← z]; exact Nat.not_lt.mpr geD)
    · exact I2.nofs geD z
  have cOf : ∀ x c, (clOf X.env scope.names).lookup x = some c → c ≠ D ∧ c ≠ C := fun x c e => by
    obtain ⟨v, z⟩ := I2.cell x c (S.get I2 e)
    have := z.lt
    rw [eD] at this
    exact ⟨Nat.ne_of_lt this, Nat.ne_of_lt (Nat.lt_of_lt_of_le this leC)⟩
  -- the records may turn, whatever is pinned besides
  have fpk : ∀ {pl : List (Addr × Obj)} {H' : Hp}, (∀ b ∈ fp, H' b = none) → (∀ p ∈ pl, p.1 ∉ fp) → ∀ b ∈ fp, FpOk (compCx X N' scope C s₂ H₂ fp) pl H' b := fun {pl H'} hn hp b hb =>
    ⟨hn b hb, hfC' b hb, fun z => by
        rcases List.mem_cons.mp (I2.stkSub b z) with q | q
        · exact (f2 b hb).2.1 q
        · exact (f2 b hb).2.2.1 q,
      .inl hb, fun x c e => (f2 b hb).2.2.2.2.1 x c (S.get I2 e), fun p hp' z => hp p (by simpa [compCx] using hp') (by rw [z]; exact hb)⟩
  have dpk : ∀ {H' : Hp}, H' D = none → ∀ b ∈ [D], FpOk (compCx X N' scope C s₂ H₂ fp) [] H' b := fun {H'} hn b hb => by
    have e : b = D := by simpa using hb
    subst e
    exact ⟨hn, neDC, nfsD, .inr geD, fun x c e => (cOf x c e).1, fun p hp => absurd hp (by simp [compCx])⟩
  have loop : codeAny (model X.prog X.w) X.A (.compLoop (.ListComp elt [⟨tg, iter, ifs, 0⟩] scope pos) 0 (.ref it) (.ref D) (compEnvC scope (clOf X.env scope.names) C X.env)) (RR (.ref D) C) { s₂ with heap := h₁, toks := s₂.toks + ([] : List (Str × Value)).length } := by
    refine comp_loop (fun n s' => ∃ i ys σ' H' its, Inv (compCx X N' scope C s₂ H₂ fp) [] σ' H' s' ∧ tn i s'.heap ∧ (∀ b ∈ fp, H' b = none) ∧ H' D = none ∧ s'.heap.PlainList D its.toArray ∧ Vals ys its ∧ W i n ys σ' H') ?_ m0
      ⟨0, [], _, H₂, [], J1, T.keep _ _ _ st2 fun b _ o e => keepOld b o e, fun b hb => (f2 b hb).1, I2.hok.fresh geD, accNew, .nil, w0⟩
    rintro n s3 ⟨i, ys, σ3, H3, its, I3, st3, fr3, dn3, pl3, rv3, w3⟩
    obtain ⟨nn3, hob3⟩ := id pl3
    have oD : ∀ b ∈ [D], ∃ o, s3.heap.get? b = some o ∧ ∀ v, o.data ≠ .cell v := fun b hb => by
      have e : b = D := by simpa using hb
      subst e
      exact ⟨_, hob3, fun v z => by cases z⟩
    have I3' : Inv (compCx X N' scope C s₂ H₂ fp) (pinsAt [D] s3.heap) σ3 H3 s3 := by
      have := I3.pinned (dpk dn3) oD
      simpa using this
    have pD : (D, ({ cls := .type "list", data := .seq its.toArray nn3 } : Obj)) ∈ pinsAt [D] s3.heap := mem_pinsAt (by simp) hob3
    have npD : ∀ p ∈ pinsAt [D] s3.heap, p.1 ∉ fp := fun p hp z => by
      have e : p.1 = D := by simpa using (of_pinsAt hp).1
      exact hfD _ z e
    obtain ⟨hys, tt⟩ := turn i n ys σ3 H3 w3
    rcases tt with ⟨stop, qn⟩ | ⟨go, N, hN, step⟩
    · refine wpAny_mono (T.done (compCx X N' scope C s₂ H₂ fp) rfl rfl rfl hc i (pinsAt [D] s3.heap) s3 σ3 H3 (fun _ _ => False) I3' (fpk fr3 npD) st3 stop) (fun r s4 ⟨hr, I4⟩ => ?_) fun _ _ z => z
      subst hr
      have g4 := (I4.pin _ (List.mem_append_right _ pD)).1
      refine hR _ _ _ ⟨D, H3, ys, rfl, dn3, comp_leave I2 f2 geC geD I4 dn3 ⟨nn3, g4⟩ rv3 (Nat.le_of_lt hys), ?_, ?_, neDC, ?_, ?_, ?_, ?_, qn⟩
      · obtain ⟨m, hm, _⟩ := I4.loc
        exact ⟨m, hm⟩
      · exact I4.free
      · exact Nat.ne_of_gt (Nat.lt_of_lt_of_le I2.lt geC)
      · exact Nat.le_trans I2.sz geC
      · intro x c e z
        obtain ⟨v, q⟩ := I2.cell x c e
        exact absurd (Nat.lt_of_lt_of_le q.lt geC) (by rw [z]; exact Nat.lt_irrefl _)
      · intro p hp z
        exact absurd (Nat.lt_of_lt_of_le (Heap.lt_size (I2.pin p hp).1) geC) (by rw [z]; exact Nat.lt_irrefl _)
    · refine wpAny_mono (T.item (compCx X N' scope C s₂ H₂ fp) rfl rfl rfl hc i (pinsAt [D] s3.heap) s3 σ3 H3 (fun _ _ => False) I3' (fpk fr3 npD) st3 go) (fun r s4 ⟨u, hr, h4⟩ => ?_) fun _ _ z => z
      subst hr
      refine wpAny_mono h4 (fun _ s5 ⟨x, H5, I5, r5, y5, st5, fr5⟩ => ?_) fun _ _ z => z
      have I5' := I5.pinned (fpk fr5 npD) (T.obj _ _ st5)
      refine wpAny_mono (hg C s₂ H₂ fp _ s5 σ3 H5 x u _ I5' r5 (step x H5 y5)) (fun _ s6 ⟨σ6, H6, I6, q6⟩ => ?_) fun _ _ z => z
      refine wpAny_mono (ht C s₂ H₂ fp _ s6 σ6 H6 _ I6 q6) (fun b s7 ⟨H7, I7, q7⟩ => ?_) fun _ _ z => z
      have fin : ∀ {s8 : Shared} {σ8 : St} {H8 : Hp}, Inv (compCx X N' scope C s₂ H₂ fp) (pinsAt [D] s3.heap ++ pinsAt fp s5.heap) σ8 H8 s8 → s8.heap.get? D = some { cls := .type "list", data := .seq its.toArray nn3 } ∧ H8 D = none ∧
          tn (i + 1) s8.heap ∧ ∀ b ∈ fp, H8 b = none := fun {s8 σ8 H8} I8 => by
        have q := I8.pin _ (List.mem_append_right _ (List.mem_append_left _ pD))
        refine ⟨q.1, q.2.1, T.keep _ _ _ st5 fun b hb o e => (I8.pin (b, o) (List.mem_append_right _ (List.mem_append_right _ (mem_pinsAt hb e)))).1, fun b hb => ?_⟩
        obtain ⟨o, e, d⟩ := T.obj _ _ st5 b hb
        exact (I8.pin (b, o) (List.mem_append_right _ (List.mem_append_right _ (mem_pinsAt hb e)))).2.1
      cases b with
      | false =>
        obtain ⟨m', hm, w7⟩ := hN _ _ _ q7
        obtain ⟨a1, a2, a3, a4⟩ := fin I7
        exact ⟨m', hm, i + 1, ys, σ6, H7, its, I7.pins_of fun p hp => absurd hp (by simp), a3, a4, a2, ⟨nn3, a1⟩, rv3, w7⟩
      | true =>
        refine wpAny_mono (he C s₂ H₂ fp _ s7 σ6 H7 _ I7 q7) (fun v s8 ⟨y, H8, I8, r8, n8⟩ => ?_) fun _ _ z => z
        obtain ⟨m', hm, w8⟩ := hN _ _ _ n8
        obtain ⟨a1, a2, a3, a4⟩ := fin I8
        have hsz : its.toArray.size ≤ sizeLine := by
          have := rv3.length
          rw [List.size_toArray]
          omega
        refine wpAny_list_append_plain (hsz := hsz) ⟨nn3, a1⟩ fun h9 hl9 hs9 => ?_
        have I9 : Inv (compCx X N' scope C s₂ H₂ fp) [] σ6 H8 { s8 with heap := h9 } :=
          (I8.pins_of (pins' := []) fun p hp => absurd hp (by simp)).turned (t' := s8.toks) (fun b o hb e => (hs9.2 b hb).trans e) a2 neDC (.inr geD) (fun x c e => (cOf x c e).1) fun p hp => absurd hp (by simp [compCx])
        refine ⟨m', hm, i + 1, ys ++ [y], σ6, H8, its ++ [v], I9, T.keep _ _ _ a3 fun b hb o e => (hs9.2 b (hfD b hb)).trans e, a4, a2, ?_, rv3.append (.cons r8 .nil), w8⟩
        have e : (its ++ [v]).toArray = its.toArray.push v := by simp
        rw [e]; exact hl9
  exact codeAny_compStart_list loop (T.self _ 0 _ _ _ (T.keep _ _ _ st2 fun b _ o e => keepOld b o e) loop)

/-- [elt for tg in iter if ..] -/
theorem pe_comp (N' : List Str) (ix : List (Option Nat)) (hi : PI X tg iter wi) (hg : ∀ C s₂ H₂ fp, PG (compCx X N' scope C s₂ H₂ fp) tg g) (ht : ∀ C s₂ H₂ fp, PIfs (compCx X N' scope C s₂ H₂ fp) ifs tc)
    (he : ∀ C s₂ H₂ fp, PE (compCx X N' scope C s₂ H₂ fp) elt te) (S : compOk X.N X.env.scope scope N' ix = true := by rfl) (hc : X.calm = true := by rfl) (hs : ∀ x, foldedSetIterable iter X.env x = pure x := by intro _; rfl) :
    PE X (.ListComp elt [⟨tg, iter, ifs, 0⟩] scope pos) (tComp wi ix g tc te) := by
  intro pins s σ H Q I h
  have S := CompOk.of S
  rw [eval_ListComp]
  refine wpAny_comprehension_free (use := none) (cl := clOf X.env scope.names) rfl hs (closure_of fun y hy e => I.ok.has y.1 (S.free y hy e)) S.kind S.loc (thn (hi pins s σ H _ I h) fun xv s₁ h₁ => thn h₁ fun itv s₂ h₂ => ?_)
  obtain ⟨it, fp, tn, J, H₂, rfl, I2, T, st2, f2, w⟩ := h₂
  refine comp_core (RR := fun acc C => compPost (model X.prog X.w) X.A X.xe none (EP X pins σ Q) acc C) S hc hg ht he I2 T st2 f2 w fun acc C s' ce => ?_
  obtain ⟨D, H', ys, rfl, dn, J', hm, cn, dc, c1, c2, c3, c4, kf⟩ := ce
  obtain ⟨m, hm⟩ := hm
  refine ⟨m, hm, fun h' hs' => ⟨.ref D, _, J'.turned (t' := s'.toks) (fun b o hb e => (hs'.2 b hb).trans e) (by rw [upd_ne dc.symm]; exact cn) c1 (.inr c2) c3 c4, rfl, kf D dn⟩⟩

/-- x = [elt for tg in iter if ..] where the list goes right into its name -/
theorem ps_setC (N' : List Str) (ix : List (Option Nat)) {i : Nat} {x : Str} {pos' spos : Pos} (hN : X.N.Nodup) (hxi : X.N[i]? = some x) (hx : Loc X.env.scope x) (hi : PI X tg iter wi) (hg : ∀ C s₂ H₂ fp, PG (compCx X N' scope C s₂ H₂ fp) tg g) (ht : ∀ C s₂ H₂ fp, PIfs (compCx X N' scope C s₂ H₂ fp) ifs tc)
    (he : ∀ C s₂ H₂ fp, PE (compCx X N' scope C s₂ H₂ fp) elt te) (S : compOk X.N X.env.scope scope N' ix = true := by rfl) (hc : X.calm = true := by rfl) (hs : ∀ x, foldedSetIterable iter X.env x = pure x := by intro _; rfl)
    (hsw : swapsWith (.ListComp elt [⟨tg, iter, ifs, 0⟩] scope pos) (some (.Name x pos')) spos.line X.env = pure true := by rfl) (hf : X.fn x = true ∨ X.env.scope.names.lookup x = some .local := by first | exact .inl rfl | exact .inr rfl | assumption) :
    PS X (.Assign [.Name x pos'] (.ListComp elt [⟨tg, iter, ifs, 0⟩] scope pos) spos) (tAsg (tComp wi ix g tc te) (gName i)) := by
  intro pins s σ H D I h
  have S := CompOk.of S
  rw [exec_Assign_Name_used _ _ _ _ hsw]
  refine wpAny_bind (wpAny_standAt (wpAny_bind ?_))
  show wpAny _ X.A (do let _ ← comprehension (.ListComp elt [⟨tg, iter, ifs, 0⟩] scope pos) scope X.env _ (newList []) false (eval iter X.env) (some (assign (.Name x pos') X.env))) _ _ s
  refine wpAny_bind (wpAny_mono (wpAny_comprehension_free (use := some (assign (.Name x pos') X.env)) (cl := clOf X.env scope.names) (Q := fun _ s' => SP X pins D .next s') rfl hs (closure_of fun y hy e => I.ok.has y.1 (S.free y hy e)) S.kind S.loc
    (thn (hi pins s σ H _ I h) fun xv s₁ h₁ => thn h₁ fun itv s₂ h₂ => ?_)) (fun _ s' hq => wpAny_pure (wpAny_pure hq)) fun _ _ e => e)
  obtain ⟨it, fp, tn, J, H₂, rfl, I2, T, st2, f2, w⟩ := h₂
  refine comp_core (RR := fun acc C => compPost (model X.prog X.w) X.A X.xe (some (assign (.Name x pos') X.env)) (fun _ s' => SP X pins D .next s') acc C) S hc hg ht he I2 T st2 f2 w fun acc C s' ce => ?_
  obtain ⟨D', H', ys, rfl, dn, J', hm, cn, dc, c1, c2, c3, c4, kf⟩ := ce
  obtain ⟨m, hm⟩ := hm
  show wpAny _ X.A (assign (.Name x pos') X.env (.ref D')) _ _ _
  refine wpAny_assign_Name (store_ok2 (v := .ref D') J' hN hxi hx rfl (fun s2 J2 hsb => ?_) hf)
  obtain ⟨a, hsb, ha⟩ := hsb
  have hCa : C ≠ a := by
    rcases ha with z | z
    · rw [z]; exact c1
    · exact (c3 x a z).symm
  refine ⟨m, hm.sameBut hsb hCa, fun h' hs' => ?_⟩
  exact ⟨_, _, J2.turned (t' := s2.toks) (fun b o hb e => (hs'.2 b hb).trans e) (by rw [upd_ne dc.symm]; exact cn) c1 (.inr c2) c3 c4, kf D' dn⟩

/-- over a list that stays -/
theorem comp_list {K : PySem.W.Frag} {a : Addr} {xs : List V} {Kf : List V → Hp → Prop} {σ0 : St} {H1 : Hp} (Pv : Nat → List V → St → Hp → Prop) (hz : xs.length < sizeLine) (h0 : Pv 0 [] σ0 H1) (hb : ∀ i ys σ H, Pv i ys σ H → ys.length ≤ i) (hl : ∀ i ys σ H, i ≤ xs.length → Pv i ys σ H → SqL K H a xs)
    (hs : ∀ i x ys σ H, xs[i]? = some x → Pv i ys σ H → g x σ H fun σ2 H2 => tc σ2 H2 fun b H3 => if b = true then te σ2 H3 fun y H4 => Pv (i + 1) (ys ++ [y]) σ2 H4 else Pv (i + 1) ys σ2 H3) (hd : ∀ ys σ H, Pv xs.length ys σ H → Kf ys H) : CompW (Itl K a) g tc te Kf σ0 H1 := by
  refine ⟨fun i m ys σ H => m = xs.length - i ∧ i ≤ xs.length ∧ Pv i ys σ H, ⟨xs.length, by simp, Nat.zero_le _, h0⟩, ?_⟩
  rintro i m ys σ H ⟨rfl, hi, p⟩
  have q := hl i ys σ H hi p
  refine ⟨Nat.lt_of_le_of_lt (hb _ _ _ _ p) (Nat.lt_of_le_of_lt hi hz), ?_⟩
  by_cases hlt : i < xs.length
  · refine .inr ⟨⟨xs, xs[i], q, by simp [hlt]⟩, Pv (i + 1), fun ys' σ' H' p' => ⟨xs.length - (i + 1), Nat.sub_lt_sub_left hlt (Nat.lt_succ_self i), rfl, hlt, p'⟩, fun x H' y => ?_⟩
    obtain ⟨e, y⟩ := y
    subst e
    exact hs i x ys σ _ (y xs q) p
  · have e : i = xs.length := by omega
    subst e
    exact .inl ⟨⟨xs, q, Nat.le_refl _⟩, hd ys σ H p⟩
theorem comp_tup {K : PySem.W.Frag} {a : Addr} {xs : List V} {Kf : List V → Hp → Prop} {σ0 : St} {H1 : Hp} (Pv : Nat → List V → St → Hp → Prop) (hz : xs.length < sizeLine) (h0 : Pv 0 [] σ0 H1) (hb : ∀ i ys σ H, Pv i ys σ H → ys.length ≤ i) (hl : ∀ i ys σ H, i ≤ xs.length → Pv i ys σ H → SqT K H a xs)
    (hs : ∀ i x ys σ H, xs[i]? = some x → Pv i ys σ H → g x σ H fun σ2 H2 => tc σ2 H2 fun b H3 => if b = true then te σ2 H3 fun y H4 => Pv (i + 1) (ys ++ [y]) σ2 H4 else Pv (i + 1) ys σ2 H3) (hd : ∀ ys σ H, Pv xs.length ys σ H → Kf ys H) : CompW (Itt K a) g tc te Kf σ0 H1 := by
  refine ⟨fun i m ys σ H => m = xs.length - i ∧ i ≤ xs.length ∧ Pv i ys σ H, ⟨xs.length, by simp, Nat.zero_le _, h0⟩, ?_⟩
  rintro i m ys σ H ⟨rfl, hi, p⟩
  have q := hl i ys σ H hi p
  refine ⟨Nat.lt_of_le_of_lt (hb _ _ _ _ p) (Nat.lt_of_le_of_lt hi hz), ?_⟩
  by_cases hlt : i < xs.length
  · refine .inr ⟨⟨xs, xs[i], q, by simp [hlt]⟩, Pv (i + 1), fun ys' σ' H' p' => ⟨xs.length - (i + 1), Nat.sub_lt_sub_left hlt (Nat.lt_succ_self i), rfl, hlt, p'⟩, fun x H' y => ?_⟩
    obtain ⟨e, y⟩ := y
    subst e
    exact hs i x ys σ _ (y xs q) p
  · have e : i = xs.length := by omega
    subst e
    exact .inl ⟨⟨xs, q, Nat.le_refl _⟩, hd ys σ H p⟩
theorem comp_range {lo : Int} {n : Nat} {Kf : List V → Hp → Prop} {σ0 : St} {H1 : Hp} (Pv : Nat → List V → St → Hp → Prop) (hz : n < sizeLine) (h0 : Pv 0 [] σ0 H1) (hb : ∀ i ys σ H, Pv i ys σ H → ys.length ≤ i)
    (hs : ∀ i ys σ H, i < n → Pv i ys σ H → g (.int (lo + i)) σ H fun σ2 H2 => tc σ2 H2 fun b H3 => if b = true then te σ2 H3 fun y H4 => Pv (i + 1) (ys ++ [y]) σ2 H4 else Pv (i + 1) ys σ2 H3) (hd : ∀ ys σ H, Pv n ys σ H → Kf ys H) : CompW (Itr lo n) g tc te Kf σ0 H1 := by
  refine ⟨fun i m ys σ H => m = n - i ∧ i ≤ n ∧ Pv i ys σ H, ⟨n, by simp, Nat.zero_le _, h0⟩, ?_⟩
  rintro i m ys σ H ⟨rfl, hi, p⟩
  refine ⟨Nat.lt_of_le_of_lt (hb _ _ _ _ p) (Nat.lt_of_le_of_lt hi hz), ?_⟩
  by_cases hlt : i < n
  · refine .inr ⟨hlt, Pv (i + 1), fun ys' σ' H' p' => ⟨n - (i + 1), Nat.sub_lt_sub_left hlt (Nat.lt_succ_self i), rfl, hlt, p'⟩, fun x H' y => ?_⟩
    obtain ⟨e, y⟩ := y
    subst e y
    exact hs i ys σ _ hlt p
  · have e : i = n := by omega
    subst e
    exact .inl ⟨Nat.le_refl _, hd ys σ H p⟩
end
end L2
namespace L2
open PySem PySem.Spec PyProof.Rows
theorem revNoLen : typeLookup (.type "list_reverseiterator") "__len__" = pure none := by rw [typeLookup_type, builtinLookup_eq_fast]; kernel_rfl
theorem revHint : typeLookup (.type "list_reverseiterator") "__length_hint__" = pure (some (.builtin "list_reverseiterator.__length_hint__")) := by rw [typeLookup_type, builtinLookup_eq_fast]; kernel_rfl
/-- the new list at S, as the call of list leaves it empty -/
abbrev newL : Obj := { cls := .type "list", data := .seq #[] }
section
variable {prog : Program} {w : World} {A : Around} {E : Value → Shared → Prop} {Q : Value → Shared → Prop} {s : Shared} {it p : Addr} {items : Array Value}
/-- list(it) where it walks the list at p from its end -/
theorem list_of_rev (hh : A.handled = none) (ne : p ≠ it) (hi : s.heap.IsRevIter it p ((items.size : Int) - 1)) (hp : s.heap.IsList p items) (hz : items.size ≤ sizeLine)
    (k : ∀ t got c, (∀ b o, b ≠ it → s.heap.get? b = some o → t.heap.get? b = some o) → t.gens = s.gens → t.os = s.os →
      t.heap.get? s.heap.objs.size = some { cls := .type "list", dict := none, data := .seq got c, slots := #[] } → got.toList = items.toList.reverse → Q (.ref s.heap.objs.size) t) :
    wpAny (model prog w) A (call (.type "list") [.ref it]) Q E s := by
  let W := (Walks.listRev (prog := prog) (w := w) (A := A.in1.in1) hh it p ne items).toS
  have st0 : 0 ≤ items.size ∧ s.heap.IsRevIter it p ((items.size : Int) - 1 - ((0 : Nat) : Int)) ∧ s.heap.IsList p items := ⟨Nat.zero_le _, by simpa using hi, hp⟩
  have itLt : it < s.heap.objs.size := by
    obtain ⟨o, e, _⟩ := hi
    exact Heap.lt_size e
  have pLt : p < s.heap.objs.size := by
    obtain ⟨o, e, _⟩ := hp
    exact Heap.lt_size e
  have fresh : s.heap.objs.size ∉ [it, p] := fun m => by
    rcases List.mem_cons.mp m with z | z
    · exact Nat.lt_irrefl _ (z ▸ itLt)
    · exact Nat.lt_irrefl _ ((List.mem_singleton.mp z) ▸ pLt)
  have neS : s.heap.objs.size ≠ it := fun z => fresh (by rw [z]; exact List.mem_cons_self)
  refine callType_codes (Q₁ := fun o t => o = .ref s.heap.objs.size ∧ t = { s with heap := s.heap.push newL }) F.called_list (F.typeCall_list_1 _) F.entry_list_init (code_list_new _ ⟨rfl, rfl⟩) ?_
  rintro _ _ ⟨rfl, rfl⟩
  have hS : (s.heap.push newL).get? s.heap.objs.size = some newL := Heap.get?_push_size _ rfl
  refine ⟨⟨_, hS, rfl⟩, F.args_list_init_2 _ _, ?_⟩
  -- list.__init__: emptied, then extended
  refine wpAny_bind (m := Builtin.List.listItems (.ref s.heap.objs.size)) (wpAny_bind (wpAny_seqItems hS rfl (wpAny_pure ?_)))
  refine wpAny_bind (m := updateSeq s.heap.objs.size fun _ => #[]) (wpAny_updateSeq hS rfl (wpAny_bind (wpAny_letGo ?_)))
  have hS2 := Heap.get?_update_self (Obj.mapSeq fun _ => (#[] : Array Value)) hS rfl
  have older : ∀ b o, s.heap.get? b = some o → ((s.heap.push newL).update s.heap.objs.size (Obj.mapSeq fun _ => (#[] : Array Value))).get? b = some o := fun b o e =>
    (Heap.get?_update_other _ _ (Nat.ne_of_gt (Heap.lt_size e))).trans (Heap.get?_push_of_some _ e)
  have st1 := W.frame 0 s ((s.heap.push newL).update s.heap.objs.size (Obj.mapSeq fun _ => (#[] : Array Value))) s.toks st0 (Nat.le_refl _) fun b _ o e => older b o e
  have ty : ∀ i t, (fun (i : Nat) (t : Shared) => i ≤ items.size ∧ t.heap.IsRevIter it p ((items.size : Int) - 1 - (i : Int)) ∧ t.heap.IsList p items) i t → t.TypeIs (.ref it) "list_reverseiterator" := fun i t z => z.2.1.typeIs
  unfold Builtin.List.listExtendWith
  refine wpAny_bind (wpAny_typeOf (ty 0 _ st1) ?_)
  have same : Builtin.List.listSameRef (.ref s.heap.objs.size) (.ref it) = false := by simp [Builtin.List.listSameRef, neS]
  rw [if_neg (by rw [same]; decide)]
  refine wpAny_bind (W.self 0 _ _ _ st1 (wpAny_bind (wpAny_holding ?_)))
  unfold Builtin.List.listLengthHint
  refine wpAny_bind (wpAny_specialOf (ty 0 _ st1) revNoLen ?_)
  refine wpAny_bind (m := specialOf (Value.ref it) (Str.ofString "__length_hint__")) (wpAny_specialOf (ty 0 _ st1) revHint ?_)
  generalize hid : ("list_reverseiterator.__length_hint__" : String) = id0
  wp_delta
  rw [show splitId id0 = some ("list_reverseiterator", "__length_hint__") from by subst hid; decide +kernel]
  subst hid
  refine wpAny_bind (wpAny_isInstance (b := true) (ty 0 _ st1) (by rw [isSubtype_type]; kernel_rfl) (wpAny_pure ?_))
  rw [if_neg (by decide)]
  refine wpAny_pure ⟨plainId_quiet F.plain_extend_loop _, codeAny_extend_loopS W hz _ fresh _ items.size 0 _ _ _ rfl (Nat.zero_le _) st1 hS2 (ItemsOf.nil _) fun t got c mv at' its => ⟨rfl, ?_⟩⟩
  refine k t got c (fun b o hb e => mv.heap b o (fun m => ?_) (older b o e)) mv.gens mv.os at' ?_
  · rcases List.mem_cons.mp m with z | z
    · exact absurd (Heap.lt_size e) (by rw [z]; exact Nat.lt_irrefl _)
    · exact hb (List.mem_singleton.mp z)
  · obtain ⟨len, each⟩ := its
    refine List.ext_getElem? fun j => ?_
    by_cases hj : j < items.size
    · have g : got[j]? = some got[j] := Array.getElem?_eq_getElem (by omega)
      rw [List.getElem?_reverse (by simpa using hj), Array.getElem?_toList, Array.getElem?_toList, g, ← each j _ g]
      simp
    · rw [List.getElem?_eq_none (by simp; omega), List.getElem?_eq_none (by simp; omega)]
end
/-- list(reversed(e)), e a list -/
def tListRev (K : PySem.W.Frag) (te : TE) : TE := fun σ H Q => te σ H fun x H1 => ∃ a ys, x = .ref a ∧ SqL K H1 a ys ∧ ∀ l, H1 l = none → Q (.ref l) (upd H1 l (.lst ys.reverse))
theorem pe_listrev {X : Cx} {e : Expr} {te : TE} {p1 p2 pos1 pos2 : Pos} (he : PE X e te) (g1 : Gl X "list") (m1 : X.mg "list" = none) (g2 : Gl X "reversed") (m2 : X.mg "reversed" = none) (hc : X.calm = true := by rfl)
    (hs1 : starEach [.Call (.Name "reversed" p2) [e] [] pos2] X.env = [(false, eval (.Call (.Name "reversed" p2) [e] [] pos2) X.env)] := by rfl) (hs2 : starEach [e] X.env = [(false, eval e X.env)] := by rfl) :
    PE X (.Call (.Name "list" p1) [.Call (.Name "reversed" p2) [e] [] pos2] [] pos1) (tListRev X.K te) := by
  intro pins s σ H Q I h
  refine wpAny_Call_Name_kw (ld_blt I g1 m1 PyProof.Rows.boot_list ?_)
  refine PyProof.Rows.callWith_type1 ?_ hs1 rfl
  rw [hs1]
  refine Calls.spliced_cons (wpAny_Call_Name_kw (ld_blt I g2 m2 PyProof.Rows.boot_reversed ?_))
  refine PyProof.Rows.callWith_type1 ?_ hs2 rfl
  rw [hs2]
  refine Calls.spliced_cons (thn (he pins s σ H _ I h) fun u s1 ⟨x, H1, I1, r1, a, ys, ex, hq, q⟩ => Calls.spliced_nil ?_)
  subst ex
  cases r1
  obtain ⟨its, rv, pl, hz⟩ := I1.list hq
  have il := pl.isList
  refine call_reversed_list il (Calls.spliced_nil ?_)
  have I2 : Inv X pins σ H1 { s1 with heap := s1.heap.push (revObj a ((its.toArray.size : Int) - 1)) } := I1.kept (t' := s1.toks) fun b o e => Heap.get?_push_of_some _ e
  have aLt : a < s1.heap.objs.size := by
    obtain ⟨o, e, _⟩ := il
    exact Heap.lt_size e
  have len := rv.length
  obtain ⟨f0, f1, f2, f3, f4, f5⟩ : FpOk X pins H1 s1.heap.objs.size := I1.fpOk (Nat.le_refl _) (I1.hok.fresh (Nat.le_refl _))
  refine list_of_rev (p := a) (items := its.toArray) (I.ok.hd hc) (Nat.ne_of_lt aLt) ⟨_, Heap.get?_push_size _ rfl, rfl, rfl⟩ (il.at fun o e => Heap.get?_push_of_some _ e) (by rw [List.size_toArray]; omega) ?_
  intro t got c keep gens os at' eg
  obtain ⟨D, eD⟩ : ∃ D, (s1.heap.push (revObj a ((its.toArray.size : Int) - 1))).objs.size = D := ⟨_, rfl⟩
  have hD : (s1.heap.push (revObj a ((its.toArray.size : Int) - 1))).objs.size ≤ D := Nat.le_of_eq eD
  dsimp only at at' ⊢
  rw [eD] at at' ⊢
  have fD : H1 D = none := I2.hok.fresh hD
  have neT : ∀ b u, H1 b = some u → b ≠ s1.heap.objs.size := fun b u e z => by rw [z, f0] at e; cases e
  refine ⟨.ref D, upd H1 D (.lst ys.reverse), I2.call' (ch := [s1.heap.objs.size]) os ⟨fun b o e n _ hx => keep b o (fun z => hx (by simp [z])) e, fun b o e n _ hx => ⟨o.slots, keep b o (fun z => hx (by simp [z])) e⟩, fun b o e n _ => ?_, fun b o e hx => ⟨o, keep b o (fun z => hx (by simp [z])) e⟩, fun b xs e => ?_, fun b o u e => ?_, fun b ps e => ⟨#[], ?_⟩⟩ (fun b u e => ?_) (by rw [gens]; exact I2.bare) (fun b hb => ?_), rfl, q D fD⟩
  · rw [upd_ne (fun z => absurd (Heap.lt_size e) (by rw [z]; exact Nat.not_lt.mpr hD))]; exact n
  · rw [upd_ne (ne_of_none e fD)]; exact e
  · rw [upd_ne (ne_of_none e fD)]; exact e
  · rw [upd_ne (ne_of_none e fD), e]; simp
  · by_cases hb : b = D
    · subst hb
      rw [upd_same] at e
      cases e
      have at2 : t.heap.get? b = some { cls := .type "list", dict := none, data := .seq its.reverse.toArray c, slots := #[] } := by
        rw [at', ← Array.toArray_toList (xs := got), eg]
      exact ⟨by rw [List.length_reverse]; exact hz, its.reverse, c, Vals.reverse rv, at2⟩
    · rw [upd_ne hb] at e
      refine (I2.hok b u e).stay (fun c' v hc' q' => keep c' v ?_ q') (fun c' q' => by rw [upd_ne (ne_of_none q' fD)]; exact q') fun c' xs q' => by rw [upd_ne (ne_of_none q' fD)]; exact q'
      rcases hc' with z | z
      · rw [z]; exact neT b u e
      · exact neT c' _ z
  · have z : b = s1.heap.objs.size := by simpa using hb
    subst z
    exact ⟨f3, f1, f4, f5⟩
end L2
namespace L2
open PySem PySem.Spec PyProof.Rows
/-- // by a number of at most 250 bits -/
def CDivB (i j : Int) : Prop := 0 < j ∧ j < 2 ^ 250
theorem op_fdivB {X : Cx} : OpR X (binaryOp .FloorDiv) (rI CDivB fun i j => .int (i / j)) := opI fun i j _ _ _ _ _ hc q => by
  obtain ⟨h0, h1⟩ := hc
  refine floordiv_int (by omega) ?_ (.inl (PyProof.noPylong_of_log2 ?_))
  · rw [Int.fdiv_eq_ediv_of_nonneg i (by omega)]; exact q
  · have h2 : j.natAbs < 2 ^ 250 := by
      have e : ((j.natAbs : Nat) : Int) = j := Int.natAbs_of_nonneg (by omega)
      have : ((j.natAbs : Nat) : Int) < ((2 ^ 250 : Nat) : Int) := by rw [e]; exact_mod_cast h1
      exact Int.ofNat_lt.mp this
    have h3 : j.natAbs ≠ 0 := by omega
    have h4 : j.natAbs.log2 < 250 := (Nat.log2_lt h3).mpr h2
    exact Nat.lt_of_lt_of_le h4 (by decide)

/-! ### a deal and its draws -/
def dealK (sd n : Int) (l : Addr) : List (Key × V) := [(.inr "seed", .int sd), (.inr "number", .int n), (.inr "left", .ref l)]
theorem ksn : ¬ ((Sum.inr ("seed" : Str) : Key) = Sum.inr ("number" : Str)) := by decide +kernel
theorem ksl : ¬ ((Sum.inr ("seed" : Str) : Key) = Sum.inr ("left" : Str)) := by decide +kernel
theorem knl : ¬ ((Sum.inr ("number" : Str) : Key) = Sum.inr ("left" : Str)) := by decide +kernel
theorem kns : ¬ ((Sum.inr ("number" : Str) : Key) = Sum.inr ("seed" : Str)) := by decide +kernel
theorem kls : ¬ ((Sum.inr ("left" : Str) : Key) = Sum.inr ("seed" : Str)) := by decide +kernel
theorem kln : ¬ ((Sum.inr ("left" : Str) : Key) = Sum.inr ("number" : Str)) := by decide +kernel
theorem deal_seed (sd n : Int) (l : Addr) : valV (dealK sd n l) (Sum.inr "seed" : Key) = some (.int sd) := by unfold dealK; rw [valV_pos rfl]
theorem deal_number (sd n : Int) (l : Addr) : valV (dealK sd n l) (Sum.inr "number" : Key) = some (.int n) := by unfold dealK; rw [valV_neg ksn, valV_pos rfl]
theorem deal_left (sd n : Int) (l : Addr) : valV (dealK sd n l) (Sum.inr "left" : Key) = some (.ref l) := by unfold dealK; rw [valV_neg ksl, valV_neg knl, valV_pos rfl]
theorem put_seed (sd n v : Int) (l : Addr) : putK (dealK sd n l) (Sum.inr "seed" : Key) (.int v) = dealK v n l := by
  unfold putK dealK
  simp
  exact ⟨fun z => absurd (congrArg Sum.inr z) kns, fun z => absurd (congrArg Sum.inr z) kls⟩
theorem put_number (sd n v : Int) (l : Addr) : putK (dealK sd n l) (Sum.inr "number" : Key) (.int v) = dealK sd v l := by
  unfold putK dealK
  simp
  exact ⟨fun z => absurd (congrArg Sum.inr z) ksn, fun z => absurd (congrArg Sum.inr z) kln⟩
structure DealAt (H : Hp) (d l : Addr) (sd n : Int) (ls : List Int) : Prop where
  dc : H d = some (.dK (dealK sd n l))
  lc : H l = some (.lst (ls.map V.int))
  s0 : 0 ≤ sd
  s1 : sd < 2147483647
  n0 : 0 ≤ n
  l0 : ∀ x ∈ ls, 0 ≤ x
def Deal (H : Hp) (d l : Addr) : Prop := ∃ sd n ls, DealAt H d l sd n ls
theorem DealAt.ne {H : Hp} {d l : Addr} {sd n : Int} {ls : List Int} (D : DealAt H d l sd n ls) : d ≠ l := ne_of D.dc D.lc (by intro z; cases z)
/-- all but the deal is as it was -/
def Out (d l : Addr) (H H' : Hp) : Prop := ∀ b o, H b = some o → b ≠ d → b ≠ l → H' b = some o
theorem Out.refl {d l : Addr} (H : Hp) : Out d l H H := fun _ _ e _ _ => e
theorem Out.trans {d l : Addr} {H H1 H2 : Hp} (a : Out d l H H1) (b : Out d l H1 H2) : Out d l H H2 := fun c o e h1 h2 => b c o (a c o e h1 h2) h1 h2
theorem Out.of {d l : Addr} {H H' : Hp} (s : Same H H') : Out d l H H' := fun c o e _ _ => s c o e
theorem Out.upd_d {d l : Addr} {H : Hp} {o : HO} : Out d l H (upd H d o) := fun b u e h1 _ => by rw [upd_ne h1]; exact e
theorem Out.upd_l {d l : Addr} {H : Hp} {o : HO} : Out d l H (upd H l o) := fun b u e _ h1 => by rw [upd_ne h1]; exact e
theorem same_new {H : Hp} {p : Addr} (h : H p = none) (o : HO) : Same H (upd H p o) := fun b u q => by rw [upd_ne (ne_of_none q h)]; exact q
theorem DealAt.seed {H : Hp} {d l : Addr} {sd n : Int} {ls : List Int} (D : DealAt H d l sd n ls) {v : Int} (h0 : 0 ≤ v) (h1 : v < 2147483647) : DealAt (upd H d (.dK (dealK v n l))) d l v n ls :=
  ⟨upd_same, by rw [upd_ne D.ne.symm]; exact D.lc, h0, h1, D.n0, D.l0⟩
theorem DealAt.number {H : Hp} {d l : Addr} {sd n : Int} {ls : List Int} (D : DealAt H d l sd n ls) {v : Int} (h0 : 0 ≤ v) : DealAt (upd H d (.dK (dealK sd v l))) d l sd v ls :=
  ⟨upd_same, by rw [upd_ne D.ne.symm]; exact D.lc, D.s0, D.s1, h0, D.l0⟩
theorem DealAt.left {H : Hp} {d l : Addr} {sd n : Int} {ls ls' : List Int} (D : DealAt H d l sd n ls) (h : ∀ x ∈ ls', 0 ≤ x) : DealAt (upd H l (.lst (ls'.map V.int))) d l sd n ls' :=
  ⟨by rw [upd_ne D.ne]; exact D.dc, upd_same, D.s0, D.s1, D.n0, h⟩
theorem DealAt.out {H H' : Hp} {d l : Addr} {sd n : Int} {ls : List Int} (D : DealAt H d l sd n ls) (s : Same H H') : DealAt H' d l sd n ls := ⟨s _ _ D.dc, s _ _ D.lc, D.s0, D.s1, D.n0, D.l0⟩
theorem Deal.same {H H' : Hp} {d l : Addr} (D : Deal H d l) (s : Same H H') : Deal H' d l := let ⟨sd, n, ls, q⟩ := D; ⟨sd, n, ls, q.out s⟩
theorem DealAt.gs {H : Hp} {d l : Addr} {sd n : Int} {ls : List Int} (D : DealAt H d l sd n ls) : DGet H d (.str "seed") (some (.int sd)) := by rw [← deal_seed sd n l]; exact DGet.k (k := Sum.inr "seed") D.dc
theorem DealAt.gn {H : Hp} {d l : Addr} {sd n : Int} {ls : List Int} (D : DealAt H d l sd n ls) : DGet H d (.str "number") (some (.int n)) := by rw [← deal_number sd n l]; exact DGet.k (k := Sum.inr "number") D.dc
theorem DealAt.gl {H : Hp} {d l : Addr} {sd n : Int} {ls : List Int} (D : DealAt H d l sd n ls) : DGet H d (.str "left") (some (.ref l)) := by rw [← deal_left sd n l]; exact DGet.k (k := Sum.inr "left") D.dc
theorem DealAt.ps {H : Hp} {d l : Addr} {sd n : Int} {ls : List Int} (D : DealAt H d l sd n ls) (v : Int) : DPut H d (.str "seed") (.int v) (upd H d (.dK (dealK v n l))) := by
  rw [← put_seed sd n v l]; exact DPut.k (k := Sum.inr "seed") D.dc (small1000 (by show 3 ≤ 1000; decide))
theorem DealAt.pn {H : Hp} {d l : Addr} {sd n : Int} {ls : List Int} (D : DealAt H d l sd n ls) (v : Int) : DPut H d (.str "number") (.int v) (upd H d (.dK (dealK sd v l))) := by
  rw [← put_number sd n v l]; exact DPut.k (k := Sum.inr "number") D.dc (small1000 (by show 3 ≤ 1000; decide))
/-- a draw below m: some number, the deal turned, nothing else -/
def spDraw : Sp := fun vs H Q _ => ∃ (d l : Addr) (m : Int), vs = [.ref d, .int m] ∧ Deal H d l ∧ 0 < m ∧ m < 2 ^ 64 ∧
  ∀ (r : Int) (H' : Hp), 0 ≤ r → r < m → Deal H' d l → Out d l H H' → Q (.int r) H'
/-- a deal of the script -/
def spDeal (K : PySem.W.Frag) : Sp := fun vs H Q _ => ∃ (a : Addr) (ns : List Int) (b : Int), vs = [.ref a, .int b] ∧ SqL K H a (ns.map V.int) ∧ ns.length ≤ 63 ∧ 0 ≤ b ∧ b ≤ 1000 ∧
  ∀ (d l : Addr) (H' : Hp), H d = none → H l = none → Deal H' d l → Same H H' → Q (.ref d) H'
theorem ints_at {ns : List Int} {i : Nat} {y : V} (h : (ns.map V.int)[i]? = some y) : ∃ z, y = V.int z ∧ ns[i]? = some z := by
  rw [List.getElem?_map] at h
  cases e : ns[i]? with
  | none => rw [e] at h; cases h
  | some z => rw [e] at h; exact ⟨z, (Option.some.inj h).symm, rfl⟩
end L2
namespace L2
open PySem PySem.Spec PyProof.Rows
/-! ### plain data: ints, texts, bools, None, tuples, lists -/
mutual
def RepD (K : PySem.W.Frag) (H : Hp) : PyData → V → Prop
  | .none, v => v = .non
  | .bool b, v => v = .bl b
  | .int i, v => v = .int i
  | .str x, v => v = .str x
  | .tuple ds, v => ∃ a vs, v = .ref a ∧ SqT K H a vs ∧ RepL K H ds vs
  | .list ds, v => ∃ a vs, v = .ref a ∧ SqL K H a vs ∧ RepL K H ds vs
  | .dict _, _ => False
def RepL (K : PySem.W.Frag) (H : Hp) : List PyData → List V → Prop
  | [], vs => vs = []
  | d :: ds, vs => ∃ v r, vs = v :: r ∧ RepD K H d v ∧ RepL K H ds r
end
section
variable {X : Cx} {pins : List (Addr × Obj)} {σ : St} {H : Hp} {s : Shared}
mutual
theorem RepD.reads (I : Inv X pins σ H s) : ∀ (d : PyData) (v : V) (u : Value), RepD X.K H d v → RelV v u → ∃ as, Reads s.heap u d as
  | .none, v, u, h, r => by
    have h : v = .non := h
    subst h; cases r; exact ⟨_, .none⟩
  | .bool b, v, u, h, r => by
    have h : v = .bl b := h
    subst h; cases r; exact ⟨_, .bool b⟩
  | .int i, v, u, h, r => by
    have h : v = .int i := h
    subst h; obtain ⟨t, rfl⟩ := r; exact ⟨_, .int i t⟩
  | .str x, v, u, h, r => by
    have h : v = .str x := h
    subst h; obtain ⟨t, rfl⟩ := r; exact ⟨_, .str x t⟩
  | .tuple ds, v, u, h, r => by
    obtain ⟨a, vs, rfl, hs, hl⟩ := h
    cases r
    obtain ⟨its, rv, ⟨o, ho, hc, n, hd⟩, _⟩ := I.tuple hs
    obtain ⟨as, ra⟩ := RepL.reads I ds vs its hl rv
    exact ⟨_, .tuple ho hc hd (by simpa using ra)⟩
  | .list ds, v, u, h, r => by
    obtain ⟨a, vs, rfl, hs, hl⟩ := h
    cases r
    obtain ⟨its, rv, pl, _⟩ := I.list hs
    obtain ⟨o, ho, hc, n, hd⟩ := pl.isList
    obtain ⟨as, ra⟩ := RepL.reads I ds vs its hl rv
    exact ⟨_, .list ho hc hd (by simpa using ra)⟩
  | .dict _, v, u, h, r => h.elim
theorem RepL.reads (I : Inv X pins σ H s) : ∀ (ds : List PyData) (vs : List V) (us : List Value), RepL X.K H ds vs → Vals vs us → ∃ as, ReadsAll s.heap us ds as
  | [], vs, us, h, r => by
    have h : vs = [] := h
    subst h; cases r; exact ⟨_, .nil⟩
  | d :: ds, vs, us, h, r => by
    obtain ⟨v, t, rfl, hd, ht⟩ := h
    cases r with
    | cons r1 r2 =>
      obtain ⟨as, ra⟩ := RepD.reads I d v _ hd r1
      obtain ⟨bs, rb⟩ := RepL.reads I ds t _ ht r2
      exact ⟨_, .cons ra rb⟩
end
end
section
variable {X : Cx}
def rEqD (K : PySem.W.Frag) (neg : Bool) : R2 := fun x y H Q => ∃ d e, RepD K H d x ∧ RepD K H e y ∧ SeqAt.shaped d = true ∧ SeqAt.shaped e = true ∧ SeqAt.noMix d e = true ∧ Q (.bl (if neg then !Spec.same d e else Spec.same d e)) H
theorem op_eqD {k : Nat} (hr : Room k X.A) : OpR X (compareOp .Eq) (rEqD X.K false) := by
  intro pins s σ H x y v u Q I rx ry h
  obtain ⟨d, e, hd, he, sd, se, mx, q⟩ := h
  obtain ⟨as, ra⟩ := RepD.reads I d x v hd rx
  obtain ⟨bs, rb⟩ := RepD.reads I e y u he ry
  exact eq_dataH_same ra rb sd se hr.units mx ⟨.bl _, H, I, rfl, q⟩
theorem op_neD {k : Nat} (hr : Room k X.A) : OpR X (compareOp .NotEq) (rEqD X.K true) := by
  intro pins s σ H x y v u Q I rx ry h
  obtain ⟨d, e, hd, he, sd, se, mx, q⟩ := h
  obtain ⟨as, ra⟩ := RepD.reads I d x v hd rx
  obtain ⟨bs, rb⟩ := RepD.reads I e y u he ry
  exact ne_dataH_same ra rb sd se hr.units mx ⟨.bl _, H, I, rfl, q⟩
/-! tuples of ints -/
theorem repL_ints {K : PySem.W.Frag} {H : Hp} : ∀ ns : List Int, RepL K H (ns.map PyData.int) (ns.map V.int)
  | [] => rfl
  | n :: r => ⟨_, _, rfl, rfl, repL_ints r⟩
theorem lay_ints : ∀ ns : List Int, PyData.canLayAll0 (ns.map PyData.int) = true
  | [] => rfl
  | _ :: r => by simp [PyData.canLayAll0, PyData.canLay0, lay_ints r]
theorem depth_ints : ∀ ns : List Int, PyData.depthAll (ns.map PyData.int) = 0
  | [] => rfl
  | _ :: r => by simp [PyData.depthAll, PyData.depth, depth_ints r]
theorem nomix_ints : ∀ ns ms : List Int, SeqAt.noMixAll (ns.map PyData.int) (ms.map PyData.int) = true
  | [], [] => rfl
  | [], _ :: _ => rfl
  | _ :: _, [] => rfl
  | _ :: r, _ :: t => by simp [SeqAt.noMixAll, SeqAt.noMix, nomix_ints r t]
theorem same_ints : ∀ ns ms : List Int, Spec.sameAll (ns.map PyData.int) (ms.map PyData.int) = decide (ns = ms)
  | [], [] => by simp [Spec.sameAll]
  | [], _ :: _ => by simp [Spec.sameAll]
  | _ :: _, [] => by simp [Spec.sameAll]
  | a :: r, b :: t => by
    simp only [List.map_cons, Spec.sameAll, Spec.same, same_ints r t]
    by_cases h : a = b <;> by_cases h' : r = t <;> simp [h, h']
/-! isinstance, all -/
theorem call_isinst : CallR X (.builtin "isinstance") (fun xs H Q => ∃ x n t b, xs = [x, .ty n] ∧ TyOf X.K H x t ∧ PySem.W.kitOne X.K t (.type n) = some b ∧ Q (.bl b) H) := by
  intro pins s σ H xs us Q I r h
  obtain ⟨x, n, t, b, rfl, ty, e, q⟩ := h
  obtain ⟨u, w', rfl, ru, rw'⟩ := vals2 r
  cases rw'
  exact isinst_ok I ru ty e fun tk => ⟨.bl b, H, I.tok tk, rfl, q⟩
end
end L2
namespace L2
open PySem PySem.Spec PyProof.Rows
/-! ### the rules that name the fragment, with the fragment told: for a comprehension's block -/
section
variable {X : Cx} (K : PySem.W.Frag)
theorem isinstK (hK : X.K = K := by rfl) : CallR X (.builtin "isinstance") (fun xs H Q => ∃ x n t b, xs = [x, .ty n] ∧ TyOf K H x t ∧ PySem.W.kitOne K t (.type n) = some b ∧ Q (.bl b) H) := by subst hK; exact call_isinst
theorem ixlK (hK : X.K = K := by rfl) : IxR X (rIxL K) := by subst hK; exact ix_list
theorem ixtK (hK : X.K = K := by rfl) : IxR X (rIxT K) := by subst hK; exact ix_tup
theorem inK (hK : X.K = K := by rfl) : OpR X (compareOp .In) (rIn K false) := by subst hK; exact op_in_seq
theorem ninK (hK : X.K = K := by rfl) : OpR X (compareOp .NotIn) (rIn K true) := by subst hK; exact op_notIn_seq
end
end L2
namespace L2
open PySem PySem.Spec PyProof.Rows
theorem iteP {c A B : Prop} [Decidable c] (hc : c) (h : A) : if c then A else B := by rw [if_pos hc]; exact h
theorem iteN {c A B : Prop} [Decidable c] (hc : ¬ c) (h : B) : if c then A else B := by rw [if_neg hc]; exact h
theorem at0 {α : Type} (v : α) (r : List α) : atI (v :: r) 0 = some v := by
  have h : (0 : Int) < ((v :: r).length : Int) := by simp
  unfold atI ixN
  rw [if_pos (by decide), if_pos h]
  rfl
/-! ### list(range(a, b)) -/
def rangeI (lo : Int) (n : Nat) : List Int := (List.range n).map fun (i : Nat) => lo + (i : Int)
/-! ### any -/
section
variable {X : Cx}
theorem call_any (hc : X.calm = true := by rfl) : CallR X (.builtin "any") (fun xs H Q => ∃ (p : Addr) (bs : List Bool), xs = [.ref p] ∧ SqL X.K H p (bs.map V.bl) ∧ Q (.bl (bs.any id)) H) := by
  intro pins s σ H xs us Q I r h
  obtain ⟨p, bs, rfl, hq, q⟩ := h
  obtain ⟨u, rfl, ru⟩ := vals1 r
  cases ru
  obtain ⟨its, rv, pl, hz⟩ := I.list hq
  have lp : p < s.heap.objs.size := by
    obtain ⟨o, e, _⟩ := pl.isList
    exact Heap.lt_size e
  refine call_any_walk (wpAny_pyIter_list pl.isList ⟨s.heap.objs.size, _, _, _, _, _, fun i => bs.getD i false, rfl, Walks.list (A := X.A.in1) (I.ok.hd hc) s.heap.objs.size p (Nat.ne_of_lt lp) its.toArray, ⟨⟨_, Heap.get?_push_size _ rfl, rfl, rfl⟩, pl.isList.at fun o e => Heap.get?_push_of_some _ e⟩, ?_, ?_⟩)
  · intro i v s1 Q1 E1 hv hq1
    have hi : its[i]? = some v := by simpa using hv
    have hl := rv.length
    rw [List.length_map] at hl
    have hb : i < bs.length := by
      have := (List.getElem?_eq_some_iff.mp hi).1
      omega
    obtain ⟨u, hu, ru⟩ := rv.get (i := i) (x := V.bl bs[i]) (by rw [List.getElem?_map, List.getElem?_eq_getElem hb]; rfl)
    rw [hi] at hu
    cases hu
    cases ru
    have e : bs.getD i false = bs[i] := by simp [List.getD, hb]
    dsimp only at hq1
    rw [e] at hq1
    exact wpAny_truthy_bool hq1
  · intro h' tk hk
    have kept : ∀ b o, s.heap.get? b = some o → h'.get? b = some o := fun b o e => hk b o (by
      intro z
      have z : b = s.heap.objs.size := by simpa using z
      exact absurd (Heap.lt_size e) (by rw [z]; exact Nat.lt_irrefl _)) (Heap.get?_push_of_some _ e)
    refine ⟨.bl (bs.any id), H, I.kept kept, ?_, q⟩
    show Value.bool _ = Value.bool _
    have hl := rv.length
    rw [List.length_map] at hl
    have e : ((List.range its.toArray.size).any fun i => bs.getD i false) = bs.any id := by
      rw [List.size_toArray, ← hl]
      clear q hq rv pl hk hz hl
      rw [Bool.eq_iff_iff, List.any_eq_true, List.any_eq_true]
      constructor
      · rintro ⟨i, hi, h⟩
        have hi := List.mem_range.mp hi
        simp [List.getD, hi] at h
        exact ⟨_, List.getElem_mem hi, h⟩
      · rintro ⟨b, hb, h⟩
        obtain ⟨i, hi, e⟩ := List.getElem_of_mem hb
        refine ⟨i, List.mem_range.mpr hi, ?_⟩
        simp [List.getD, hi]
        rw [e]; exact h
    rw [e]
theorem pgtK {es : List Expr} {k : Nat} {t : TGs} {n : Nat} {pos : Pos} (K : PySem.W.Frag) (hc : X.calm = true) (h : PGs X es t) (hK : X.K = K := by rfl)
    (hn : (assignEach es X.env).length = n := by rfl) (hst : (assignEach es X.env).findIdx? (·.1) = none := by rfl) : PG X (.Tuple es k pos) (gTup K n t) := by subst hK; exact pg_tup hc h hn hst
end
/-! ### pairs of ints, as tuples on the heap -/
def Prs (H : Hp) : List V → List (Int × Int) → Prop
  | [], [] => True
  | v :: vs, p :: ps => (∃ a, v = .ref a ∧ H a = some (.tup [.int p.1, .int p.2])) ∧ Prs H vs ps
  | _, _ => False
theorem Prs.mono {H H' : Hp} (h : ∀ a xs, H a = some (.tup xs) → H' a = some (.tup xs)) : ∀ {vs : List V} {ps : List (Int × Int)}, Prs H vs ps → Prs H' vs ps
  | [], [], _ => trivial
  | _ :: _, _ :: _, ⟨⟨a, e, t⟩, r⟩ => ⟨⟨a, e, h _ _ t⟩, Prs.mono h r⟩
  | [], _ :: _, z => z.elim
  | _ :: _, [], z => z.elim
theorem Prs.same {H H' : Hp} {vs : List V} {ps : List (Int × Int)} (s : Same H H') (r : Prs H vs ps) : Prs H' vs ps := r.mono fun _ _ e => s _ _ e
theorem Prs.append {H : Hp} : ∀ {vs ws : List V} {ps qs : List (Int × Int)}, Prs H vs ps → Prs H ws qs → Prs H (vs ++ ws) (ps ++ qs)
  | [], _, [], _, _, r => r
  | _ :: _, _, _ :: _, _, ⟨e, r⟩, r2 => ⟨e, Prs.append r r2⟩
  | [], _, _ :: _, _, z, _ => z.elim
  | _ :: _, _, [], _, z, _ => z.elim
theorem Prs.length {H : Hp} : ∀ {vs : List V} {ps : List (Int × Int)}, Prs H vs ps → vs.length = ps.length
  | [], [], _ => rfl
  | _ :: _, _ :: _, ⟨_, r⟩ => by simp [Prs.length r]
  | [], _ :: _, z => z.elim
  | _ :: _, [], z => z.elim
theorem Prs.get {H : Hp} : ∀ {vs : List V} {ps : List (Int × Int)} {i : Nat} {v : V}, Prs H vs ps → vs[i]? = some v → ∃ a x y, v = .ref a ∧ H a = some (.tup [.int x, .int y])
  | v :: vs, p :: ps, 0, w, ⟨⟨a, e, t⟩, _⟩, h => by simp at h; subst h; exact ⟨a, _, _, e, t⟩
  | v :: vs, p :: ps, i + 1, w, ⟨_, r⟩, h => Prs.get r (by simpa using h)
  | [], [], _, _, _, h => by simp at h
  | [], _ :: _, _, _, z, _ => z.elim
  | _ :: _, [], _, _, z, _ => z.elim
end L2
namespace L2
open PySem PySem.Spec PyProof.Rows
/-! ### products of great numbers -/
def Below (i : Int) : Prop := -(2 ^ 250) < i ∧ i < 2 ^ 250
theorem Below.bits {i : Int} (h : Below i) : Builtin.Int.intBits i ≤ 2 ^ 20 := by
  have h1 : i.natAbs < 2 ^ 250 := by
    have := h.1; have := h.2; omega
  exact Nat.le_trans (PyProof.Rows.intBits_le h1) (by decide)
/-! ### repr of plain data -/
section
variable {X : Cx}
end
/-! ### a, b, c = x, y, z with plain local names -/
end L2
namespace L2
open PySem PySem.Spec PyProof.Rows
section
variable {X : Cx} {pins : List (Addr × Obj)} {σ : St} {H : Hp} {s : Shared} {h' : Heap}
/-- records of ours have turned, and a new object is laid -/
theorem Inv.turnedNew {T : Addr} {o : HO} {rs : List Addr} {t' : Nat} (I : Inv X pins σ H s) (hf : ∀ b ∈ rs, FpOk X pins H b) (k : ∀ b u, b ∉ rs → s.heap.get? b = some u → h'.get? b = some u)
    (hp : s.heap.objs.size ≤ T) (new : ObjOk X.prog X.w (upd H T o) h' T o) : Inv X pins σ (upd H T o) { s with heap := h', toks := t' } := by
  have fT : H T = none := I.hok.fresh hp
  have nT : ∀ b u, s.heap.get? b = some u → b ≠ T := fun b u e z => absurd (Heap.lt_size e) (by rw [z]; exact Nat.not_lt.mpr hp)
  have nrs : ∀ b u, H b = some u → b ∉ rs := fun b u e z => by rw [(hf b z).1] at e; cases e
  refine I.step (g' := s.gens) (d' := s.drawn) (ch := rs) (fun b hb => ⟨(hf b hb).2.2.2.1, (hf b hb).2.1, (hf b hb).2.2.2.2.1, (hf b hb).2.2.2.2.2⟩) (fun b u _ _ hc e _ => k b u hc e) (fun b u _ _ hc e _ => ⟨u.slots, k b u hc e⟩)
    (fun b u _ e n => by rw [upd_ne (nT b u e)]; exact n) (fun b u hc e => ⟨u, k b u hc e⟩) (fun b xs e => by rw [upd_ne (ne_of_none e fT)]; exact e) (fun b u v e => by rw [upd_ne (ne_of_none e fT)]; exact e)
    (fun b ps e => ⟨#[], by rw [upd_ne (ne_of_none e fT), e]; simp⟩) (fun m hm => ?_) (fun b u e => ?_) I.bare
  · obtain ⟨u, es, ep, hu, r⟩ := hm
    exact ⟨u, es, ep, k _ u (fun z => (hf _ z).2.1 rfl) hu, r⟩
  · by_cases hb : b = T
    · subst hb
      rw [upd_same] at e
      cases e
      exact new
    · rw [upd_ne hb] at e
      refine (I.hok b u e).stay (fun c v hc q => k c v ?_ q) (fun c q => by rw [upd_ne (ne_of_none q fT)]; exact q) fun c xs q => by rw [upd_ne (ne_of_none q fT)]; exact q
      rcases hc with z | z
      · rw [z]; exact nrs b u e
      · exact nrs c _ z
theorem Inv.turnedL {rs : List Addr} {t' : Nat} (I : Inv X pins σ H s) (hf : ∀ b ∈ rs, FpOk X pins H b) (k : ∀ b u, b ∉ rs → s.heap.get? b = some u → h'.get? b = some u) : Inv X pins σ H { s with heap := h', toks := t' } := by
  have nrs : ∀ b u, H b = some u → b ∉ rs := fun b u e z => by rw [(hf b z).1] at e; cases e
  refine I.step (g' := s.gens) (d' := s.drawn) (ch := rs) (fun b hb => ⟨(hf b hb).2.2.2.1, (hf b hb).2.1, (hf b hb).2.2.2.2.1, (hf b hb).2.2.2.2.2⟩) (fun b u _ _ hc e _ => k b u hc e) (fun b u _ _ hc e _ => ⟨u.slots, k b u hc e⟩)
    (fun b u _ _ n => n) (fun b u hc e => ⟨u, k b u hc e⟩) (fun b xs e => e) (fun b u v e => e) (fun b ps e => ⟨#[], by rw [e]; simp⟩) (fun m hm => ?_) (fun b u e => ?_) I.bare
  · obtain ⟨u, es, ep, hu, r⟩ := hm
    exact ⟨u, es, ep, k _ u (fun z => (hf _ z).2.1 rfl) hu, r⟩
  · refine (I.hok b u e).stay (fun c v hc q => k c v ?_ q) (fun c q => q) fun c xs q => q
    rcases hc with z | z
    · rw [z]; exact nrs b u e
    · exact nrs c _ z
end
/-! ### zip of two tuples of one length: its records stand at n .. n + 4 -/
section
variable {prog : Program} {w : World} {A : Around} {E : Value → Shared → Prop} {s : Shared}
/-- the records of a zip over the tuples at l1, l2, i taken -/
structure ZipAt (g : Heap) (n l1 l2 : Addr) (i : Nat) : Prop where
  z : IsZip g (n + 4) (n + 2) (n + 3) .none
  I : IsPair g (n + 2) (.ref n) (.ref (n + 1))
  O : ∃ a b, IsPair g (n + 3) a b
  i1 : g.IsTupleIter n l1 i
  i2 : g.IsTupleIter (n + 1) l2 i
end
end L2
namespace L2
open PySem PySem.Spec PyProof.Rows
section
variable {prog : Program} {w : World} {A : Around} {E : Value → Shared → Prop} {s : Shared}
end
/-! ### the walk over a zip of two tuples of one length -/
section
variable {g : TG} {tc : TT} {te : TE}
end
end L2
namespace L2
open PySem PySem.Spec PyProof.Rows
/-! ### texts -/
section
variable {X : Cx} {tg : Expr}
/-- x[lo:hi] of a text -/
def rSlS : V → Option Int → Option Int → Hp → VK → Prop := fun x lo hi H Q => ∃ z, x = .str z ∧ z.length ≤ sizeLine ∧ Q (.str (Txt.slice z lo hi)) H
theorem sl_str : SlR X rSlS := by
  intro pins s σ H x v vl vu lo hi sl Q I rx hs pl pu h
  obtain ⟨z, rfl, hz, q⟩ := h
  obtain ⟨t, rfl⟩ := rx
  refine ⟨"str", _, F.slot_str_getitem.lookup, typeIs_str _ _ _, ?_⟩
  have fin : ∀ {lo hi : Option Int}, Q (.str (Txt.slice z lo hi)) H → ∀ t' k, EP X pins σ Q (.str (Txt.slice z lo hi) t') { s with toks := k } := fun q t' k => ⟨.str _, H, I.tok k, ⟨_, rfl⟩, q⟩
  cases pl with
  | none =>
    cases pu with
    | none => exact wpAny_getItem_str_slice (l := none) (u := none) (st := none) hs rfl (post_val_or_str ⟨Nat.le_trans (Txt.slice_le z _ _) hz, fin q⟩)
    | int j u => exact wpAny_getItem_str_slice (l := none) (u := some (j, u)) (st := none) hs rfl (post_val_or_str ⟨Nat.le_trans (Txt.slice_le z _ _) hz, fin q⟩)
  | int i u' =>
    cases pu with
    | none => exact wpAny_getItem_str_slice (l := some (i, u')) (u := none) (st := none) hs rfl (post_val_or_str ⟨Nat.le_trans (Txt.slice_le z _ _) hz, fin q⟩)
    | int j u => exact wpAny_getItem_str_slice (l := some (i, u')) (u := some (j, u)) (st := none) hs rfl (post_val_or_str ⟨Nat.le_trans (Txt.slice_le z _ _) hz, fin q⟩)
theorem strsAre_of : ∀ {ys : List Str} {us : List Value}, Vals (ys.map V.str) us → StrsAre us ys
  | [], _, r => by
    cases r
    exact .nil
  | y :: ys, _, r => by
    cases r with
    | cons r1 r2 =>
      obtain ⟨t, rfl⟩ := r1
      exact .cons y t (strsAre_of r2)
/-- sep.join(list of texts) -/
def rJoin (K : PySem.W.Frag) : V → List V → Hp → VK → Prop := fun x vs H Q => ∃ (sep : Str) (p : Addr) (ys : List Str), x = .str sep ∧ vs = [.ref p] ∧ SqL K H p (ys.map V.str) ∧ (ys.map (·.length)).sum + ys.length * sep.length ≤ 16777216 ∧ Q (.str (Txt.join sep ys)) H
theorem mt_join : MtR X "str.join" (rJoin X.K) := by
  intro pins s σ H x xs v us Q I rx rs h
  obtain ⟨sep, p, ys, rfl, rfl, hq, hz, q⟩ := h
  obtain ⟨t, rfl⟩ := rx
  obtain ⟨u, rfl, ru⟩ := rs.one
  cases ru
  obtain ⟨its, rv, pl, _⟩ := I.list hq
  exact join_list pl.isList (by simpa using strsAre_of rv) hz fun t' k => ⟨.str _, H, I.tok k, ⟨_, rfl⟩, q⟩
end
end L2
namespace L2
open PySem PySem.Spec PyProof.Rows
/-! ### enumerate of a list, walked -/
def Ite (K : PySem.W.Frag) (a : Addr) : It :=
  ⟨fun i H => ∃ xs x, SqL K H a xs ∧ xs[i]? = some x,
   fun i H x H' => ∃ t, H t = none ∧ x = .ref t ∧ ∀ xs, SqL K H a xs → ∃ u, xs[i]? = some u ∧ H' = upd H t (.tup [.int i, u]),
   fun i H => ∃ xs, SqL K H a xs ∧ xs.length ≤ i⟩
theorem turn_enum {P : Program} {w : World} {K : PySem.W.Frag} {elts : List Expr} {x1 : Nat} {pos : Pos} (a n : Addr) :
    Turn P w K (.Tuple elts x1 pos) (Ite K a) [n, n + 1] (n + 1) (fun i h => (∃ old, IsEnum h (n + 1) n i old) ∧ h.IsListIter n a i) where
  mem := by simp
  obj := fun i h Z c hc => by
    obtain ⟨⟨old, he⟩, ⟨o1, e1, c1, d1⟩⟩ := Z
    simp only [List.mem_cons, List.not_mem_nil, or_false] at hc
    rcases hc with rfl | rfl
    · exact ⟨_, e1, fun v z => by rw [d1] at z; cases z⟩
    · exact ⟨_, he, fun v z => by cases z⟩
  keep := fun i h h' Z k => ⟨let ⟨old, he⟩ := Z.1; ⟨old, k _ (by simp) _ he⟩, Z.2.at fun o e => k _ (by simp) o e⟩
  item := by
    intro X hP hw hK hc i pins s σ H E I hf Z hg
    subst hP hw hK
    obtain ⟨xs, x, q1, hx⟩ := hg
    obtain ⟨its, rv, pl, _⟩ := I.list q1
    obtain ⟨u, hu, ru⟩ := rv.get hx
    obtain ⟨⟨old, he⟩, hit⟩ := Z
    have d0 : n + 1 ≠ n := Nat.succ_ne_self n
    refine wpAny_pyNext_enum_item he hit pl.isList (x := u) (by simpa using hu) d0 fun g z1 j1 T1 _ k1 => ⟨_, rfl, wpAny_letOwnedTupleGo_enum z1 fun g2 z2 sb => ?_⟩
    have nT : s.heap.objs.size ≠ n + 1 := Nat.ne_of_gt (Heap.lt_size he)
    have lt : ∀ c ∈ [n, n + 1], c < s.heap.objs.size := fun c hc => by
      simp only [List.mem_cons, List.not_mem_nil, or_false] at hc
      rcases hc with rfl | rfl
      · obtain ⟨o1, e1, _⟩ := hit
        exact Heap.lt_size e1
      · exact Heap.lt_size he
    have kk : ∀ c o, c ∉ [n, n + 1] → s.heap.get? c = some o → g2.get? c = some o := fun c o hc e => by
      simp only [List.mem_cons, List.not_mem_nil, or_false, not_or] at hc
      exact (sb.2 c hc.2).trans (k1 c o hc.2 hc.1 e)
    have TT : g2.get? s.heap.objs.size = some { cls := .type "tuple", data := .seq #[.int i s.toks, u] } := (sb.2 _ nT).trans T1
    have I2 := I.turnedNew (T := s.heap.objs.size) (o := .tup [.int i, x]) (rs := [n, n + 1]) (t' := s.toks + 1) hf kk (Nat.le_refl _) ⟨by show 2 ≤ sizeLine; decide, [.int i s.toks, u], .cons ⟨_, rfl⟩ (.cons ru .nil), ⟨_, TT, rfl, _, rfl, rfl⟩⟩
    refine ⟨.ref s.heap.objs.size, _, I2, rfl, ⟨_, I.fresh, rfl, fun xs' w1 => ⟨x, by rw [I.list_inj w1 q1]; exact hx, rfl⟩⟩, ⟨⟨_, by simpa using z2⟩, j1.at fun o e => (sb.2 _ d0.symm).trans e⟩, fun c hc => ?_⟩
    rw [upd_ne (Nat.ne_of_lt (lt c hc))]
    exact (hf c hc).1
  done := by
    intro X hP hw hK hc i pins s σ H E I hf Z hg
    subst hP hw hK
    obtain ⟨xs, q1, hx⟩ := hg
    obtain ⟨its, rv, pl, _⟩ := I.list q1
    obtain ⟨⟨old, he⟩, hit⟩ := Z
    have hl := rv.length
    refine wpAny_pyNext_enum_end (I.ok.hd hc) he hit pl.isList (by simp; omega) fun g k => ⟨rfl, I.turnedL (rs := [n, n + 1]) (t' := s.toks) hf fun c o hc e => ?_⟩
    simp only [List.mem_cons, List.not_mem_nil, or_false, not_or] at hc
    exact k c o hc.1 e
  self := fun _ _ _ _ _ Z h => by
    obtain ⟨⟨old, he⟩, _⟩ := Z
    exact wpAny_pyIter_enum he h
def iEnum (K : PySem.W.Frag) (ta : TA) : TI := fun σ H R => ta σ H fun vs H1 => ∃ a, vs = [.ref a] ∧ (∃ xs, SqL K H1 a xs) ∧ R (Ite K a) H1
theorem pi_enum {X : Cx} {a : Expr} {ta : TA} {p pos : Pos} {elts : List Expr} {x1 : Nat} {tpos : Pos} (hg : Gl X "enumerate") (hm : X.mg "enumerate" = none) (ha : PA X [a] ta) (hs : starEach [a] X.env = [(false, eval a X.env)] := by rfl) :
    PI X (.Tuple elts x1 tpos) (.Call (.Name "enumerate" p) [a] [] pos) (iEnum X.K ta) := by
  intro pins s σ H R I h
  refine wpAny_Call_Name_kw (ld_blt I hg hm PyProof.Rows.boot_enumerate (PyProof.Rows.callWith_type1 (thn (ha pos pins s σ H _ I h) fun us s1 ⟨vs, H1, I1, r1, q1⟩ => ?_) hs rfl))
  obtain ⟨a', rfl, ⟨xs, q1⟩, q⟩ := q1
  obtain ⟨u, rfl, ru⟩ := vals1 r1
  cases ru
  obtain ⟨its, _, pl, _⟩ := I1.list q1
  refine call_enumerate_list pl.isList fun g he hit _ k => wpAny_pyIter_enum he ?_
  have I2 : Inv X pins σ H1 { s1 with heap := g } := I1.kept (t' := s1.toks) k
  refine ⟨s1.heap.objs.size + 1, _, _, Ite X.K a', H1, rfl, I2, turn_enum a' s1.heap.objs.size, ⟨⟨_, he⟩, hit⟩, fun c hc => ?_, q⟩
  have hge : s1.heap.objs.size ≤ c := by
    simp only [List.mem_cons, List.not_mem_nil, or_false] at hc
    rcases hc with rfl | rfl
    · exact Nat.le_refl _
    · exact Nat.le_add_right ..
  exact I1.fpOk hge (I1.hok.fresh hge)
/-! ### sum of a list of ints -/
section
variable {X : Cx}
end
end L2
namespace L2
open PySem PySem.Spec PyProof.Rows
end L2
namespace L2
open PySem PySem.Spec PyProof.Rows
/-! ### a dict's keys, walked: the dict is frozen from then on -/
theorem kv_get {κ : Type} : ∀ {kvs : List (κ × V)} {vs : List (κ × Value)} {i : Nat} {k : κ} {v : V}, KV kvs vs → kvs[i]? = some (k, v) → ∃ u, vs[i]? = some (k, u) ∧ RelV v u
  | _, _, _, _, _, .nil, e => by simp at e
  | _, _, 0, _, _, .cons r _, e => by
    simp at e
    subst e
    obtain ⟨r1, r2⟩ := r
    exact ⟨_, by simp; exact Prod.ext r1.symm rfl, r2⟩
  | _, _, i + 1, _, _, .cons _ r, e => by
    obtain ⟨u, e1, e2⟩ := kv_get (i := i) r (by simpa using e)
    exact ⟨u, by simpa using e1, e2⟩
theorem key_rel {k : Key} {u : Value} (h : keyIs k u = true) : RelV (kV k) u := by
  rcases keyIs_shape h with ⟨i, t, rfl, rfl⟩ | ⟨x, t, rfl, rfl⟩
  · exact ⟨t, rfl⟩
  · exact ⟨t, rfl⟩
theorem DGet.f {H : Hp} {a : Addr} {o : Obj} {kvs : List (Key × V)} {k : Key} (e : H a = some (.frz o (.dK kvs))) : DGet H a (kV k) (valV kvs k) := .inl ⟨kvs, k, .inr ⟨o, e⟩, rfl, rfl⟩
end L2
namespace L2
open PySem PySem.Spec PyProof.Rows
section
variable {X : Cx}
variable {g : TG} {tc : TT} {te : TE}
theorem comp_enum {K : PySem.W.Frag} {a : Addr} {xs : List V} {Kf : List V → Hp → Prop} {σ0 : St} {H1 : Hp} (Pv : Nat → List V → St → Hp → Prop) (hz : xs.length < sizeLine) (h0 : Pv 0 [] σ0 H1) (hb : ∀ i zs σ H, Pv i zs σ H → zs.length ≤ i)
    (hl : ∀ i zs σ H, i ≤ xs.length → Pv i zs σ H → SqL K H a xs)
    (hs : ∀ i x zs σ H t, xs[i]? = some x → Pv i zs σ H → H t = none → g (.ref t) σ (upd H t (.tup [.int i, x])) fun σ2 H2 => tc σ2 H2 fun b H3 => if b = true then te σ2 H3 fun v H4 => Pv (i + 1) (zs ++ [v]) σ2 H4 else Pv (i + 1) zs σ2 H3)
    (hd : ∀ zs σ H, Pv xs.length zs σ H → Kf zs H) : CompW (Ite K a) g tc te Kf σ0 H1 := by
  refine ⟨fun i m zs σ H => m = xs.length - i ∧ i ≤ xs.length ∧ Pv i zs σ H, ⟨xs.length, by simp, Nat.zero_le _, h0⟩, ?_⟩
  rintro i m zs σ H ⟨rfl, hi, p⟩
  have q1 := hl i zs σ H hi p
  refine ⟨Nat.lt_of_le_of_lt (hb _ _ _ _ p) (Nat.lt_of_le_of_lt hi hz), ?_⟩
  by_cases hlt : i < xs.length
  · refine .inr ⟨⟨xs, xs[i], q1, by simp [hlt]⟩, Pv (i + 1), fun zs' σ' H' p' => ⟨xs.length - (i + 1), Nat.sub_lt_sub_left hlt (Nat.lt_succ_self i), rfl, hlt, p'⟩, fun x H' y => ?_⟩
    obtain ⟨t, ht, rfl, w⟩ := y
    obtain ⟨u, e1, rfl⟩ := w xs q1
    exact hs i u zs σ H t e1 p ht
  · have e : i = xs.length := by omega
    subst e
    exact .inl ⟨⟨xs, q1, Nat.le_refl _⟩, hd zs σ H p⟩
end
end L2
namespace L2
open PySem PySem.Spec PyProof.Rows
open AutoSeq1 (wpAny_loadPart')
/-! ### enumerate of a tuple, walked -/
section
variable {prog : Program} {w : World} {A : Around} {E : Value → Shared → Prop} {s : Shared}
end
section
variable {prog : Program} {w : World} {A : Around} {E : Value → Shared → Prop} {s : Shared}
end
end L2
namespace L2
open PySem PySem.Spec PyProof.Rows
/-! ### dict(t), t a tuple of pairs -/
section
variable {prog : Program} {w : World} {A : Around} {E : Value → Shared → Prop} {s : Shared}
end
section
variable {X : Cx} {pins : List (Addr × Obj)} {σ : St} {H : Hp} {s : Shared} {a : Addr} {y v : V} {u r : Value} {A : Around} {E : Value → Shared → Prop}
end
end L2
namespace L2
open PySem PySem.Spec PyProof.Rows
section
variable {X : Cx} {pins : List (Addr × Obj)} {σ : St} {H : Hp} {s : Shared} {A : Around} {E : Value → Shared → Prop}
end
end L2
namespace L2
open PySem PySem.Spec PyProof.Rows PySem.W
/-! ### sorted of a list of tuples of ints: some order of the same ones -/
/-- all asks are below n, all leaves keep R -/
def AllL {α : Type} (n : Nat) (R : α → Prop) : KasT α → Prop
  | .ret a => R a
  | .ask i j k => i < n ∧ j < n ∧ ∀ b, AllL n R (k b)
theorem AllL.bind {α β : Type} {n : Nat} {R : α → Prop} {S : β → Prop} {f : α → KasT β} : ∀ {t : KasT α}, AllL n R t → (∀ a, R a → AllL n S (f a)) → AllL n S (t.bind f)
  | .ret a, h, k => by rw [KasT.bind.eq_1]; exact k a h
  | .ask i j g, h, k => by rw [KasT.bind.eq_2]; exact ⟨h.1, h.2.1, fun b => AllL.bind (h.2.2 b) k⟩
def PermN (n : Nat) (p : Array Nat) : Prop := p.Perm (List.range n).toArray
theorem PermN.get {n : Nat} {p : Array Nat} (h : PermN n p) (h0 : 0 < n) (x : Nat) : p.getD x 0 < n := by
  by_cases c : x < p.size
  · have e : p.getD x 0 = p[x] := by simp [Array.getD, c]
    have m : p[x] ∈ (List.range n).toArray.toList := (Array.perm_iff_toList_perm.mp h).mem_iff.mp (by simp)
    rw [e]
    simpa using m
  · have e : p.getD x 0 = 0 := by simp [Array.getD, c]
    omega
section
variable {n : Nat} (h0 : 0 < n)
include h0
end
end L2
namespace L2
open PySem PySem.Spec PyProof.Rows PySem.W HT
/-- a tuple of ints -/
def TupI (h : Heap) (v : Value) : Prop := ∃ (a : Addr) (its : Array Value) (ns : List Int), v = .ref a ∧ IsTup h a its ∧ IntsAre its.toList ns
section
variable {prog : Program} {w : World} {A : Around} {E : Value → Shared → Prop} {s : Shared}
theorem TupI.keep {h h' : Heap} {v : Value} (t : TupI h v) (k : ∀ b o, h.get? b = some o → h'.get? b = some o) : TupI h' v := by
  obtain ⟨a, its, ns, e, ⟨o, ho, r⟩, ix⟩ := t
  exact ⟨a, its, ns, e, ⟨o, k _ _ ho, r⟩, ix⟩
end
end L2
namespace L2
open PySem PySem.Spec PyProof.Rows PySem.W HT
section
variable {prog : Program} {w : World} {A : Around} {E : Value → Shared → Prop} {s : Shared}
end
/-! ### x in a list of plain data -/
end L2
namespace L2
open PySem PySem.Spec PyProof.Rows
/-! ### zip of two tuples of one length: its records stand at n .. n + 4 -/
section
variable {prog : Program} {w : World} {A : Around} {E : Value → Shared → Prop} {s : Shared}
/-- the records of a zip over the tuples at l1, l2, i taken -/
structure ZipL (g : Heap) (n l1 l2 : Addr) (i : Nat) : Prop where
  z : IsZip g (n + 4) (n + 2) (n + 3) .none
  I : IsPair g (n + 2) (.ref n) (.ref (n + 1))
  O : ∃ a b, IsPair g (n + 3) a b
  i1 : g.IsListIter n l1 i
  i2 : g.IsListIter (n + 1) l2 i
end
section
variable {prog : Program} {w : World} {A : Around} {E : Value → Shared → Prop} {s : Shared}
end
/-! ### the walk over a zip of two tuples of one length -/
section
variable {g : TG} {tc : TT} {te : TE}
end
end L2
namespace L2
open PySem PySem.Spec PyProof.Rows
/-! ### t + u, u not empty -/
section
variable {X : Cx}
/-! ### repr of plain data, None too -/
end
end L2
namespace L2
open PySem PySem.Spec PyProof.Rows
/-! ### the walk over reversed(a list) -/
def ItR (K : PySem.W.Frag) (a : Addr) (n : Nat) : It :=
  ⟨fun i H => ∃ xs, SqL K H a xs ∧ xs.length = n ∧ i < n, fun i H x H' => H' = H ∧ ∀ ys, SqL K H a ys → ys.reverse[i]? = some x, fun i H => ∃ xs, SqL K H a xs ∧ xs.length = n ∧ n ≤ i⟩
theorem turn_rev {P : Program} {w : World} {K : PySem.W.Frag} {tg : Expr} (a it : Addr) (n : Nat) (ne : a ≠ it) : Turn P w K tg (ItR K a n) [it] it (fun i h => i ≤ n ∧ h.IsRevIter it a ((n : Int) - 1 - (i : Int))) where
  mem := by simp
  obj := fun i h st b hb => by
    have e : b = it := by simpa using hb
    subst e
    obtain ⟨_, o, e, c, d⟩ := st
    exact ⟨o, e, fun v z => by rw [d] at z; cases z⟩
  keep := fun i h h' st k => ⟨st.1, let ⟨o, e, r⟩ := st.2; ⟨o, k it (by simp) o e, r⟩⟩
  item := by
    intro X hP hw hK hc i pins s σ H E I hf st hg
    subst hP hw hK
    obtain ⟨xs, hq, hn, hi⟩ := hg
    obtain ⟨its, rv, p, hz⟩ := I.list hq
    have hl := rv.length
    have sz : its.toArray.size = n := by rw [List.size_toArray]; omega
    obtain ⟨f0, f1, f2, f3, f4, f5⟩ := hf it (by simp)
    have Wk := Walks.listRev (prog := X.prog) (w := X.w) (A := X.A) (I.ok.hd hc) it a ne its.toArray
    refine Wk.item i s _ _ (by omega) ⟨by omega, by rw [sz]; exact st.2, p.isList⟩ fun v h' tk pv st' kp => ?_
    have I1 : Inv X pins σ H { s with heap := h', toks := tk } := I.turned (t' := tk) (fun b o hb e => kp b o (by simpa using hb) e) f0 f1 f3 f4 f5
    have hx : i < xs.reverse.length := by rw [List.length_reverse]; omega
    obtain ⟨u, hu, ru⟩ := rv.get (show xs[xs.length - 1 - i]? = some (xs[xs.length - 1 - i]'(by omega)) from List.getElem?_eq_getElem (by omega))
    obtain ⟨o, e, c, d⟩ := id st'.2.1
    have ev : v = u := by
      have : its.toArray[its.toArray.size - 1 - i]? = some v := pv
      rw [sz, ← hn] at this
      have t2 : its[xs.length - 1 - i]? = some v := by simpa using this
      rw [hu] at t2
      exact (Option.some.inj t2).symm
    subst ev
    refine ⟨_, rfl, go_of (s := { s with heap := h', toks := tk }) e c d (by decide) ⟨xs[xs.length - 1 - i]'(by omega), H, I1, ru, ⟨rfl, fun ys hy => ?_⟩, ⟨by omega, by have := st'.2.1; rw [sz] at this; exact this⟩, fun b hb => (hf b hb).1⟩⟩
    rw [I.list_inj hy hq, List.getElem?_reverse (by omega)]
    exact List.getElem?_eq_getElem (by omega)
  done := by
    intro X hP hw hK hc i pins s σ H E I hf st hg
    subst hP hw hK
    obtain ⟨xs, hq, hn, hi⟩ := hg
    obtain ⟨its, rv, p, hz⟩ := I.list hq
    have hl := rv.length
    have sz : its.toArray.size = n := by rw [List.size_toArray]; omega
    obtain ⟨f0, f1, f2, f3, f4, f5⟩ := hf it (by simp)
    have Wk := Walks.listRev (prog := X.prog) (w := X.w) (A := X.A) (I.ok.hd hc) it a ne its.toArray
    have ei : i = n := by have := st.1; omega
    refine Wk.done s _ _ ⟨Nat.le_refl _, by rw [sz, ← ei]; have := st.2; rw [← ei] at this; exact this, p.isList⟩ fun h' tk kp => ⟨rfl, I.turned (t' := tk) (fun b o hb e => kp b o (by simpa using hb) e) f0 f1 f3 f4 f5⟩
  self := fun _ _ _ _ _ st h => wpAny_pyIter_revIter st.2 h
def iRev (K : PySem.W.Frag) (te : TE) : TI := fun σ H R => te σ H fun x H1 => ∃ a ys, x = .ref a ∧ SqL K H1 a ys ∧ R (ItR K a ys.length) H1
theorem pi_rev {X : Cx} {tg : Expr} {e : Expr} {te : TE} {p2 pos2 : Pos} (he : PE X e te) (g2 : Gl X "reversed") (m2 : X.mg "reversed" = none) (hs2 : starEach [e] X.env = [(false, eval e X.env)] := by rfl) :
    PI X tg (.Call (.Name "reversed" p2) [e] [] pos2) (iRev X.K te) := by
  intro pins s σ H R I h
  refine wpAny_Call_Name_kw (ld_blt I g2 m2 PyProof.Rows.boot_reversed (PyProof.Rows.callWith_type1 ?_ hs2 rfl))
  rw [hs2]
  refine Calls.spliced_cons (thn (he pins s σ H _ I h) fun u s1 ⟨x, H1, I1, r1, a, ys, ex, hq, q⟩ => Calls.spliced_nil ?_)
  subst ex
  cases r1
  obtain ⟨its, rv, pl, hz⟩ := I1.list hq
  have il := pl.isList
  have len := rv.length
  have sz : its.toArray.size = ys.length := by rw [List.size_toArray]; omega
  have aLt : a < s1.heap.objs.size := by
    obtain ⟨o, e, _⟩ := il
    exact Heap.lt_size e
  refine call_reversed_list il ?_
  have st : (s1.heap.push (revObj a ((its.toArray.size : Int) - 1))).IsRevIter s1.heap.objs.size a ((ys.length : Int) - 1 - ((0 : Nat) : Int)) := by
    rw [sz, Int.natCast_zero, Int.sub_zero]
    exact ⟨_, Heap.get?_push_size _ rfl, rfl, rfl⟩
  refine wpAny_pyIter_revIter st ?_
  refine ⟨s1.heap.objs.size, [s1.heap.objs.size], _, ItR X.K a ys.length, H1, rfl, I1.kept (t' := s1.toks) fun b o e => Heap.get?_push_of_some _ e, turn_rev a _ ys.length (Nat.ne_of_lt aLt), ⟨Nat.zero_le _, st⟩, fun b hb => ?_, q⟩
  have e : b = s1.heap.objs.size := by simpa using hb
  subst e
  exact I1.fpOk (Nat.le_refl _) (I1.hok.fresh (Nat.le_refl _))
/-- a comprehension over reversed(xs) -/
theorem comp_rev {g : TG} {tc : TT} {te : TE} {K : PySem.W.Frag} {a : Addr} {xs : List V} {Kf : List V → Hp → Prop} {σ0 : St} {H1 : Hp} (Pv : Nat → List V → St → Hp → Prop) (hz : xs.length < sizeLine) (h0 : Pv 0 [] σ0 H1) (hb : ∀ i ys σ H, Pv i ys σ H → ys.length ≤ i) (hl : ∀ i ys σ H, i ≤ xs.length → Pv i ys σ H → SqL K H a xs)
    (hs : ∀ i x ys σ H, xs.reverse[i]? = some x → Pv i ys σ H → g x σ H fun σ2 H2 => tc σ2 H2 fun b H3 => if b = true then te σ2 H3 fun y H4 => Pv (i + 1) (ys ++ [y]) σ2 H4 else Pv (i + 1) ys σ2 H3) (hd : ∀ ys σ H, Pv xs.length ys σ H → Kf ys H) : CompW (ItR K a xs.length) g tc te Kf σ0 H1 := by
  refine ⟨fun i m ys σ H => m = xs.length - i ∧ i ≤ xs.length ∧ Pv i ys σ H, ⟨xs.length, rfl, Nat.zero_le _, h0⟩, ?_⟩
  rintro i m ys σ H ⟨rfl, le, p⟩
  have q := hl i ys σ H le p
  refine ⟨Nat.lt_of_le_of_lt (hb _ _ _ _ p) (Nat.lt_of_le_of_lt le hz), ?_⟩
  by_cases c : i < xs.length
  · exact .inr ⟨⟨xs, q, rfl, c⟩, Pv (i + 1), fun ys' σ' H' p' => ⟨xs.length - (i + 1), Nat.sub_lt_sub_left c (Nat.lt_succ_self i), rfl, c, p'⟩, fun x H' ⟨e, y⟩ => by
      subst e
      exact hs i x ys σ _ (y xs q) p⟩
  · obtain rfl : i = xs.length := by omega
    exact .inl ⟨⟨xs, q, rfl, Nat.le_refl _⟩, hd ys σ H p⟩
end L2
namespace L2
open PySem PySem.Spec PyProof.Rows
section
variable {X : Cx}
/-! ### xs[::-1] -/
end
end L2
namespace L2
open PySem PySem.Spec PyProof.Rows
section
variable {X : Cx}
/-! ### z.index(y) -/
/-! ### dict(d), d a dict of ints and texts -/
/-! ### a display of pairs of numbers -/
/-! ### t + u, any tuples -/
def rCatA : R2 := fun x y H Q => ∃ a b xs ys, x = .ref a ∧ y = .ref b ∧ H a = some (.tup xs) ∧ H b = some (.tup ys) ∧ xs.length + ys.length ≤ sizeLine ∧ ∀ r H', Same H H' → H' r = some (.tup (xs ++ ys)) → Q (.ref r) H'
theorem op_catA : OpR X (binaryOp .Add) rCatA := by
  intro pins s σ H x y v u Q I rx ry h
  obtain ⟨a, b, xs, ys, rfl, rfl, ha, hb, hz, q⟩ := h
  by_cases hx : xs = []
  · subst hx
    cases rx
    cases ry
    obtain ⟨its, r1, p1, _⟩ := I.tuple (SqT.of ha)
    obtain ⟨its2, r2, p2, _⟩ := I.tuple (SqT.of hb)
    cases r1
    obtain ⟨⟨cls, dd, data, sl⟩, ho, hc, n, hd⟩ := id p1
    obtain ⟨⟨cls2, dd2, data2, sl2⟩, ho2, hc2, n2, hd2⟩ := id p2
    simp only at hc hd hc2 hd2
    subst hc hd hc2 hd2
    exact concat_meets ⟨_, ho, rfl⟩ ⟨_, ho2, rfl⟩ noFill_tuple_add seq_tuple_add PySem.F.slot_tuple_add PySem.F.entry_tuple_add (PySem.F.args_tuple_add_2 _ _)
      (tuple_addW0 a b _ its2.toArray n n2 dd dd2 sl sl2 (by simp)) ⟨ho, ho2, .ref b, H, I, rfl, q b H (Same.refl _) hb⟩
  · refine op_catT pins s σ H _ _ v u Q I rx ry ⟨a, b, xs, ys, rfl, rfl, SqT.of ha, SqT.of hb, hx, hz, fun e => ?_, fun _ p hp => q p _ (same_new hp _) upd_same⟩
    subst e
    exact q a H (Same.refl _) (by rw [List.append_nil]; exact ha)
end
end L2
namespace L2
open PySem PySem.Spec PyProof.Rows
section
variable {prog : Program} {w : World} {A : Around} {E : Value → Shared → Prop} {s : Shared}
end
section
variable {X : Cx} {pins : List (Addr × Obj)} {σ : St} {H : Hp} {s : Shared} {A : Around} {E : Value → Shared → Prop}
end
end L2
namespace L2
open PySem PySem.Spec PyProof.Rows
section
variable {prog : Program} {w : World} {K : Type} [DecidableEq K] {knd : KeyKind prog w K} {A : Around} {E : Value → Shared → Prop} {s : Shared}
end
section
variable {X : Cx}
end
end L2
namespace L2
open PySem PySem.Spec PyProof.Rows
section
variable {X : Cx}
end
end L2
namespace L2
open PySem PySem.Spec PyProof.Rows
end L2
namespace L2
open PySem PySem.Spec PyProof.Rows
section
variable {X : Cx}
/-- a test with a wish of one's own: its ways are joined behind it -/
def tPost (t : TT) : TT := fun σ H Q => ∃ P : Bool → Hp → Prop, t σ H P ∧ ∀ b G, P b G → Q b G
theorem pt_post {e : Expr} {t : TT} (h : PT X e t) : PT X e (tPost t) := by
  intro pins s σ H Q I ⟨P, h1, h2⟩
  exact thn (h pins s σ H P I h1) fun b s' ⟨G, I', p⟩ => ⟨G, I', h2 b G p⟩
end
end L2
namespace L2
open PySem PySem.Spec PyProof.Rows
section
variable {X : Cx} {o e : Expr} {es : List Expr} {to : TE} {t : TA} {name : Str} {apos cpos : Pos} {T id : String} {r : V → List V → Hp → VK → Prop}
end
end L2
namespace L2
open PySem PySem.Spec PyProof.Rows
/-- an expression with a wish of one's own: its ways are joined behind it -/
def ePost (t : TE) : TE := fun σ H Q => ∃ P : V → Hp → Prop, t σ H P ∧ ∀ v G, P v G → Q v G
theorem pe_post {X : Cx} {e : Expr} {t : TE} (h : PE X e t) : PE X e (ePost t) := by
  intro pins s σ H Q I ⟨P, h1, h2⟩
  exact thn (h pins s σ H P I h1) fun v s' ⟨x, G, I', r, p⟩ => ⟨x, G, I', r, h2 x G p⟩
end L2
namespace L2
open PySem PySem.Spec PyProof.Rows
/-! ### set(t), its items ints or texts -/
def hasK (σ : List Key) (k : Key) : Bool := σ.any fun j => decide (j = k)
theorem hasK_iff {σ : List Key} {k : Key} : hasK σ k = true ↔ k ∈ σ := by
  unfold hasK
  rw [List.any_eq_true]
  constructor
  · rintro ⟨j, m, e⟩
    rw [← of_decide_eq_true e]; exact m
  · exact fun m => ⟨k, m, decide_eq_true rfl⟩
def ddS (σ : List Key) (k : Key) : List Key := if hasK σ k = true then σ else σ ++ [k]
def dd (ks : List Key) : List Key := ks.foldl ddS []
theorem dd_snoc (ks : List Key) (k : Key) : dd (ks ++ [k]) = ddS (dd ks) k := by unfold dd; rw [List.foldl_append]; rfl
theorem ddS_mem {σ : List Key} {k j : Key} : j ∈ ddS σ k ↔ j ∈ σ ∨ j = k := by
  unfold ddS
  split
  · rename_i h
    constructor
    · exact .inl
    · rintro (z | z)
      · exact z
      · rw [z]; exact hasK_iff.mp h
  · simp
theorem foldS_mem : ∀ (ks σ : List Key) (j : Key), j ∈ ks.foldl ddS σ ↔ j ∈ σ ∨ j ∈ ks
  | [], σ, j => by simp
  | k :: r, σ, j => by
    rw [List.foldl_cons, foldS_mem r, ddS_mem, List.mem_cons]
    constructor
    · rintro ((h | h) | h)
      · exact .inl h
      · exact .inr (.inl h)
      · exact .inr (.inr h)
    · rintro (h | h | h)
      · exact .inl (.inl h)
      · exact .inl (.inr h)
      · exact .inr h
theorem dd_mem (ks : List Key) (j : Key) : j ∈ dd ks ↔ j ∈ ks := by unfold dd; rw [foldS_mem]; simp
theorem foldS_nd : ∀ (ks σ : List Key), σ.Nodup → (ks.foldl ddS σ).Nodup
  | [], _, h => h
  | k :: r, σ, h => by
    refine foldS_nd r _ ?_
    unfold ddS
    split
    · exact h
    · rename_i hk
      rw [List.nodup_append]
      exact ⟨h, by simp, fun a ha b hb => by rw [List.mem_singleton.mp hb]; exact fun z => hk (hasK_iff.mpr (z ▸ ha))⟩
theorem dd_nd (ks : List Key) : (dd ks).Nodup := foldS_nd ks [] (by simp)
section
variable {prog : Program} {w : World} {A : Around} {R : Result → Shared → Prop} {I : Addr} {fp wr : List Addr} {G : Array GenState → Array GenState → Prop} {n : Nat} {P : Nat → Value → Prop} {St : Nat → Shared → Prop}
end
/-- the call of a built-in type, by what its two calls do -/
theorem call_by_two {T newId initId : String} {prog : Program} {w : World} {A : Around} {E : Value → Shared → Prop} {s : Shared} {args : List Value} {Q Q₁ : Value → Shared → Prop} (ft : TypeCalled T newId initId) (hct : checkTypeCall T ⟨args, []⟩ = pure ())
    (hn : codeAny (model prog w) A.in1 (.call (.builtin newId) ⟨.type T :: args, []⟩) (wants Q₁ E) s)
    (hi : ∀ obj t, Q₁ obj t → t.TypeIs obj T ∧ codeAny (model prog w) A.in1 (.call (.builtin initId) ⟨obj :: args, []⟩) (wants (fun r u => r = .none ∧ Q obj u) E) t) :
    wpAny (model prog w) A (call (.type T) args) Q E s := by
  have z1 := ft.notType; have z2 := ft.canCreate; have z3 := ft.made; have z4 := ft.sub
  obtain ⟨c, tl, z5⟩ := ft.mro
  refine wpAny_call (codeAny_of_tree (show wpAny _ _ (callAny (.type T) _) _ _ _ from wpAny_pure ⟨Code.quiet_builtin _ (by decide +kernel), codeAny_builtin F.entry_type_call ?_⟩))
  rw [Around.under_plain (weight_type_call_type T args []) rfl]
  repeat (any_goals (first | assumption | wp_step))
  refine codeAny_mono hn fun r t hr => ?_
  match r, hr with
  | .error e, hr => exact hr
  | .ok .next, hr => exact hr.elim
  | .ok .brk, hr => exact hr.elim
  | .ok .cont, hr => exact hr.elim
  | .ok (.ret obj), hr =>
    obtain ⟨hT, hc⟩ := hi _ _ hr
    have y1 := ft.init.lookup; have y2 := ft.init.bind obj
    repeat (any_goals (first | assumption | wp_step))
    refine codeAny_mono hc fun r2 t2 hr2 => ?_
    match r2, hr2 with
    | .error e, hr2 => exact hr2
    | .ok .next, hr2 => exact hr2.elim
    | .ok .brk, hr2 => exact hr2.elim
    | .ok .cont, hr2 => exact hr2.elim
    | .ok (.ret r), hr2 =>
      obtain ⟨rfl, hq⟩ := hr2
      repeat (any_goals (first | assumption | wp_step))
section
variable {prog : Program} {w : World} {A : Around} {E : Value → Shared → Prop} {s : Shared}
abbrev newSet0 (led : Bool) : Obj := { cls := .type "set", dict := none, data := .set #[] 0 (.fresh 0 0 led) }
end
end L2
namespace L2
open PySem PySem.Spec PyProof.Rows
section
variable {X : Cx}
end
end L2
namespace L2
open PySem PySem.Spec PyProof.Rows
end L2
namespace L2
open PySem PySem.Spec PyProof.Rows
/-! ### sets of texts, with the marks of their tables -/
theorem put_marks (t : SetTable) (j : Nat) : (t.put j).1.led = t.led ∧ (t.put j).1.plain = t.plain := by
  unfold SetTable.put
  split <;> exact ⟨rfl, rfl⟩
theorem orStand_marks (t : SetTable) (n : Nat) : (t.orStandIn n).led = t.led ∧ (t.plain = false → (t.orStandIn n).plain = false) := by
  unfold SetTable.orStandIn
  split
  · exact ⟨rfl, id⟩
  · exact ⟨rfl, fun _ => rfl⟩
theorem lay_marks (t : SetTable) (es : Array (Int × Value)) (h : Int) (x : Value) : (layNew t es h x).2.1.led = t.led ∧ (t.plain = false → (layNew t es h x).2.1.plain = false) := by
  unfold layNew
  split
  · rename_i slot d e
    have p := put_marks t slot
    cases q : t.put slot with
    | mk t' k =>
      rw [q] at p
      have p : t'.led = t.led ∧ t'.plain = t.plain := p
      have z := orStand_marks t' (SetTable.insertAt es k (h, x)).size
      show (t'.orStandIn _).led = _ ∧ (_ → (t'.orStandIn _).plain = false)
      rw [z.1, p.1]
      exact ⟨rfl, fun e => z.2 (by rw [p.2]; exact e)⟩
  · exact ⟨rfl, fun _ => rfl⟩
theorem laid_marks {m f v : Nat} {l p : Bool} {hs : Array Int} {t : SetTable} {o : Array Nat} (h : SetTable.laid m f v l p hs = some (t, o)) : t.led = l ∧ t.plain = p := by
  unfold SetTable.laid at h
  cases q : SetTable.layClean m hs with
  | none => rw [q] at h; cases h
  | some z =>
    rw [q] at h
    cases h
    exact ⟨rfl, rfl⟩
theorem relay_marks (t : SetTable) (es : Array (Int × Value)) (n : Nat) : (relayAll t es n).2.1.led = t.led ∧ (t.plain = false → (relayAll t es n).2.1.plain = false) := by
  unfold relayAll
  split
  · rename_i t' o e
    obtain ⟨a, b⟩ := laid_marks e
    dsimp only
    split
    · exact ⟨a, fun z => b.trans z⟩
    · exact ⟨rfl, fun _ => rfl⟩
  · exact ⟨rfl, fun _ => rfl⟩
def SetFl (prog : Program) (w : World) (h : Heap) (a : Addr) (S : Key → Bool) (n : Nat) (led : Bool) : Prop :=
  ∃ (o : Obj) (es : Array (Int × Value)) (ep : Nat) (t : SetTable), (h.get? a = some o ∧ o.ExactSet ∧ o.data = .set es ep t) ∧ (ElemsOf (mixKind prog w) es.toList ∧ ∀ j, S j = true ↔ ∃ e ∈ es.toList, (mixKind prog w).is j e.2 = true) ∧ (es.size < scanBound ∧ t.fits es.size = true ∧ es.size = n) ∧ t.led = led ∧ (0 < n → t.plain = false)
section
variable {prog : Program} {w : World} {A : Around} {E : Value → Shared → Prop} {s : Shared} {a : Addr} {S : Key → Bool} {n : Nat} {led : Bool}
theorem SetFl.of {h : Heap} (x : SetFl prog w h a S n led) : h.SetOf (mixKind prog w) a S n := by
  obtain ⟨o, es, ep, t, ⟨x1, x2, x3⟩, ⟨x4, x5⟩, ⟨x6, x7, x8⟩, _⟩ := x
  exact ⟨o, es, ep, t, x1, x2, x3, x4, x5, x6, x7, x8⟩
theorem SetFl.keep {h h' : Heap} (x : SetFl prog w h a S n led) (k : ∀ o, h.get? a = some o → h'.get? a = some o) : SetFl prog w h' a S n led := by
  obtain ⟨o, es, ep, t, ⟨x1, x2, x3⟩, r⟩ := x
  exact ⟨o, es, ep, t, ⟨k o x1, x2, x3⟩, r⟩
theorem SetFl.stored {h : Heap} {o : Obj} {es es' : Array (Int × Value)} {ep : Nat} {t t' : SetTable} (h1 : h.get? a = some o) (h2 : o.ExactSet) (h3 : o.data = .set es ep t) (h4 : ElemsOf (mixKind prog w) es'.toList) (h5 : ∀ j, S j = true ↔ ∃ e ∈ es'.toList, (mixKind prog w).is j e.2 = true) (h6 : es'.size < scanBound) (h7 : t'.fits es'.size = true) (h8 : t'.led = led) (h9 : t'.plain = false) :
    (h.update a (Obj.putSet es' t')).get? a = some { o with data := .set es' (ep + 1) t' } ∧ SetFl prog w (h.update a (Obj.putSet es' t')) a S es'.size led := by
  obtain ⟨g, _⟩ := SetOf_store (knd := mixKind prog w) (S' := S) h1 h2 h3 h4 h5 h6 h7
  exact ⟨g, _, es', ep + 1, t', ⟨g, h2, rfl⟩, ⟨h4, h5⟩, ⟨h6, h7, rfl⟩, h8, fun _ => h9⟩
theorem set_tailF {g : Bool → Sem Unit} (hg : ∀ (b : Bool) (z : Shared) (R : Unit → Shared → Prop), R () z → wpAny (model prog w) A (g b) R E z)
    {o : Obj} {es es1 : Array (Int × Value)} {ep : Nat} {t t2 : SetTable} (h1 : s.heap.get? a = some o) (h2 : o.ExactSet) (h3 : o.data = .set es ep t)
    (h4 : ElemsOf (mixKind prog w) es1.toList) (h5 : ∀ j, S j = true ↔ ∃ e ∈ es1.toList, (mixKind prog w).is j e.2 = true) (h6 : es1.size < scanBound) (h7 : t2.fits es1.size = true) (h8 : t2.led = led) (h9 : t2.plain = false) {d : Bool} {R : Option Bool → Shared → Prop}
    (k : ∀ h', Heap.SameBut a s.heap h' → SetFl prog w h' a S es1.size led → R (some true) { s with heap := h' }) :
    wpAny (model prog w) A (do
      storeSet a es1 t2
      if (!d && t2.tooFull) = true then
        (do g (relayAll t2 es1 (SetTable.grown es1.size)).2.2; storeSet a (relayAll t2 es1 (SetTable.grown es1.size)).1 (relayAll t2 es1 (SetTable.grown es1.size)).2.1; pure (some true))
      else pure (some true)) R E s := by
  obtain ⟨o1, S1⟩ := SetFl.stored (led := led) h1 h2 h3 h4 h5 h6 h7 h8 h9
  have b1 := Heap.SameBut.update s.heap a (Obj.putSet es1 t2)
  refine wpAny_bind (wpAny_storeSet_of h1 h3 ?_ (fits_of_scanBound h6))
  by_cases c : (!d && t2.tooFull) = true
  · rw [if_pos c]
    have pm := relayAll_perm t2 es1 (SetTable.grown es1.size)
    have ft := relayAll_fits t2 es1 (SetTable.grown es1.size)
    have mk := relay_marks t2 es1 (SetTable.grown es1.size)
    revert pm ft mk
    cases relayAll t2 es1 (SetTable.grown es1.size) with
    | mk es2 z =>
    cases z with
    | mk t3 gv =>
    intro pm ft mk
    have sz : es2.size = es1.size := by rw [← Array.length_toList, ← Array.length_toList]; exact pm.length_eq
    have b2 : es2.size < scanBound := by rw [sz]; exact h6
    refine wpAny_bind (hg _ _ _ (wpAny_bind (wpAny_storeSet_of o1 rfl ?_ (fits_of_scanBound b2))))
    obtain ⟨_, S2⟩ := SetFl.stored (led := led) (S := S) (es' := es2) (t' := t3) o1 h2 rfl (h4.perm pm) (fun j => (h5 j).trans ⟨fun ⟨e, m, q⟩ => ⟨e, pm.mem_iff.mpr m, q⟩, fun ⟨e, m, q⟩ => ⟨e, pm.mem_iff.mp m, q⟩⟩) b2 ft (mk.1.trans h8) (mk.2 h9)
    rw [sz] at S2
    exact wpAny_pure (k _ (b1.trans (Heap.SameBut.update _ a _)) S2)
  · rw [if_neg c]
    exact wpAny_pure (k _ b1 S1)
theorem set_addF {x : Value} {z : Str} {Q : Bool → Shared → Prop} (hx : (mixKind prog w).is (Sum.inr z) x = true) (sx : x.scannable = true) (px : plainKind x = false) (F : SetFl prog w s.heap a S n led) (room : n + 1 < scanBound)
    (k : ∀ h', Heap.SameBut a s.heap h' → SetFl prog w h' a (fun j => S j || decide (j = Sum.inr z)) (if S (Sum.inr z) then n else n + 1) led → Q (!S (Sum.inr z)) { s with heap := h' }) :
    wpAny (model prog w) A (setAddHashed a x ((mixKind prog w).hash (Sum.inr z))) Q E s := by
  obtain ⟨o, es, ep, t, ⟨x1, x2, x3⟩, ⟨x4, x5⟩, ⟨x6, x7, x8⟩, x9, x10⟩ := F
  unfold setAddHashed setAddHashedIn
  refine wpAny_holding (wpAny_bind (wpAny_setState_of x1 x3 x7 ?_))
  dsimp only
  rw [byScan_of sx x6 x4, if_pos rfl]
  unfold setAddByScan
  refine wpAny_bind (wpAny_bind (wpAny_rule (wpAny_bind (wpAny_setScan_of hx x1 x3 x7 x4 ?_))))
  cases f : List.findIdx? (fun e => (mixKind prog w).is (Sum.inr z) e.2) es.toList with
  | some j =>
    obtain ⟨hj, pj, _⟩ := List.findIdx?_eq_some_iff_getElem.mp f
    have there : S (Sum.inr z) = true := (x5 _).mpr ⟨es.toList[j], List.getElem_mem hj, pj⟩
    refine wpAny_pure (wpAny_pure ?_)
    have q := k s.heap (Heap.SameBut.refl a s.heap) ⟨o, es, ep, t, ⟨x1, x2, x3⟩, ⟨x4, fun i => ?_⟩, ⟨x6, x7, by rw [if_pos there]; exact x8⟩, x9, by rw [if_pos there]; exact x10⟩
    · rw [there] at q; exact q
    · rw [← x5 i, Bool.or_eq_true, decide_eq_true_eq]
      constructor
      · rintro (q | q)
        · exact q
        · rw [q]; exact there
      · exact .inl
  | none =>
    have away : S (Sum.inr z) = false := by
      cases q : S (Sum.inr z) with
      | false => rfl
      | true =>
        obtain ⟨e, m, y⟩ := (x5 _).mp q
        have u := List.findIdx?_eq_none_iff.mp f e m
        rw [y] at u; cases u
    have gw : ∀ (b : Bool) (z : Shared) (R : Unit → Shared → Prop), R () z → wpAny (model prog w) A (match b with | true => rule "set.scan.the-table-gave-way" | false => pure ()) R E z := fun b z R q => by
      cases b
      · exact wpAny_pure q
      · exact wpAny_rule q
    have pm := layNew_perm t es ((mixKind prog w).hash (Sum.inr z)) x
    have ft := layNew_fits t es ((mixKind prog w).hash (Sum.inr z)) x
    have mk := lay_marks t es ((mixKind prog w).hash (Sum.inr z)) x
    dsimp only
    revert pm ft mk
    cases layNew t es ((mixKind prog w).hash (Sum.inr z)) x with
    | mk es1 z1 =>
    cases z1 with
    | mk t1 z2 =>
    cases z2 with
    | mk wd gv =>
    intro pm ft mk
    dsimp only at pm ft mk ⊢
    rw [Array.toList_push] at pm
    have el1 : ElemsOf (mixKind prog w) es1.toList := (x4.push hx sx).perm pm
    have mm := mem_push_iff (knd := mixKind prog w) hx x5 pm
    have l1 : es1.size = n + 1 := by
      have e := pm.length_eq
      rw [List.length_append, Array.length_toList, Array.length_toList, x8] at e
      exact e
    have b1 : es1.size < scanBound := by rw [l1]; exact room
    have fin : ∀ h', Heap.SameBut a s.heap h' → SetFl prog w h' a (fun j => S j || decide (j = Sum.inr z)) es1.size led → Q true { s with heap := h' } := fun h' b F' => by
      have q := k h' b
      rw [away] at q
      rw [l1] at F'
      exact q F'
    refine wpAny_bind (gw _ _ _ ?_)
    cases pl : t1.plain with
    | true =>
      rw [if_pos rfl]
      refine wpAny_bind ?_
      rw [hashByValue_scannable 8 sx, px]
      refine wpAny_pure ?_
      refine set_tailF (S := fun j => S j || decide (j = Sum.inr z)) (led := led) (t2 := { t1 with plain := false }) gw x1 x2 x3 el1 mm b1 (SetTable.fits_plain_off ft) (mk.1.trans x9) rfl fun h' b F' => ?_
      exact wpAny_pure (fin h' b F')
    | false =>
      rw [if_neg (by decide)]
      refine wpAny_bind (wpAny_pure ?_)
      refine set_tailF (S := fun j => S j || decide (j = Sum.inr z)) (led := led) (t2 := t1) gw x1 x2 x3 el1 mm b1 ft (mk.1.trans x9) pl fun h' b F' => ?_
      exact wpAny_pure (fin h' b F')
end
end L2
namespace L2
open PySem PySem.Spec PyProof.Rows
/-! ### loops whose turns neither break nor return: the rest of the def is out of their sight -/
theorem for_listA {K : PySem.W.Frag} {a : Addr} {xs : List V} {g : TG} {tb : TS} {D : Ends} {σ : St} {H : Hp} (Pv : Nat → St → Hp → Prop) (h0 : Pv 0 σ H) (hl : ∀ i σ H, i ≤ xs.length → Pv i σ H → SqL K H a xs)
    (hs : ∀ (D' : Ends), ∀ i x σ H, xs[i]? = some x → Pv i σ H → g x σ H fun σ2 H2 => tb { D' with nx := Pv (i + 1), ct := Pv (i + 1), bk := D'.nx } σ2 H2) (hd : ∀ σ H, Pv xs.length σ H → D.nx σ H) :
    ∃ W : Nat → Nat → St → Hp → Prop, (∃ m, W 0 m σ H) ∧ ∀ i m σ H, W i m σ H →
      ((Itl K a).stop i H ∧ D.nx σ H) ∨ ((Itl K a).go i H ∧ ∃ N : St → Hp → Prop, (∀ σ' H', N σ' H' → ∃ m', m' < m ∧ W (i + 1) m' σ' H') ∧ ∀ x H', (Itl K a).yld i H x H' → g x σ H' fun σ2 H2 => tb { D with nx := N, ct := N, bk := D.nx } σ2 H2) := for_list Pv h0 hl (hs D) hd
theorem for_tupA {K : PySem.W.Frag} {a : Addr} {xs : List V} {g : TG} {tb : TS} {D : Ends} {σ : St} {H : Hp} (Pv : Nat → St → Hp → Prop) (h0 : Pv 0 σ H) (hl : ∀ i σ H, i ≤ xs.length → Pv i σ H → SqT K H a xs)
    (hs : ∀ (D' : Ends), ∀ i x σ H, xs[i]? = some x → Pv i σ H → g x σ H fun σ2 H2 => tb { D' with nx := Pv (i + 1), ct := Pv (i + 1), bk := D'.nx } σ2 H2) (hd : ∀ σ H, Pv xs.length σ H → D.nx σ H) :
    ∃ W : Nat → Nat → St → Hp → Prop, (∃ m, W 0 m σ H) ∧ ∀ i m σ H, W i m σ H →
      ((Itt K a).stop i H ∧ D.nx σ H) ∨ ((Itt K a).go i H ∧ ∃ N : St → Hp → Prop, (∀ σ' H', N σ' H' → ∃ m', m' < m ∧ W (i + 1) m' σ' H') ∧ ∀ x H', (Itt K a).yld i H x H' → g x σ H' fun σ2 H2 => tb { D with nx := N, ct := N, bk := D.nx } σ2 H2) := for_tup Pv h0 hl (hs D) hd
theorem for_rangeA {lo : Int} {n : Nat} {g : TG} {tb : TS} {D : Ends} {σ : St} {H : Hp} (Pv : Nat → St → Hp → Prop) (h0 : Pv 0 σ H)
    (hs : ∀ (D' : Ends), ∀ i σ H, i < n → Pv i σ H → g (.int (lo + i)) σ H fun σ2 H2 => tb { D' with nx := Pv (i + 1), ct := Pv (i + 1), bk := D'.nx } σ2 H2) (hd : ∀ σ H, Pv n σ H → D.nx σ H) :
    ∃ W : Nat → Nat → St → Hp → Prop, (∃ m, W 0 m σ H) ∧ ∀ i m σ H, W i m σ H →
      ((Itr lo n).stop i H ∧ D.nx σ H) ∨ ((Itr lo n).go i H ∧ ∃ N : St → Hp → Prop, (∀ σ' H', N σ' H' → ∃ m', m' < m ∧ W (i + 1) m' σ' H') ∧ ∀ x H', (Itr lo n).yld i H x H' → g x σ H' fun σ2 H2 => tb { D with nx := N, ct := N, bk := D.nx } σ2 H2) := for_range Pv h0 (hs D) hd
end L2
namespace L2
open PySem PySem.Spec PyProof.Rows
/-! ### sorted(d), d a dict with ints for its keys -/
theorem vals_get {vs : List V} {us : List Value} (hl : us.length = vs.length) (h : ∀ (j : Nat) (u : Value), us[j]? = some u → ∃ v, vs[j]? = some v ∧ RelV v u) : Vals vs us := by
  induction vs generalizing us with
  | nil => cases us with
    | nil => exact .nil
    | cons _ _ => simp at hl
  | cons v vs ih => cases us with
    | nil => simp at hl
    | cons u us =>
      obtain ⟨v', e, r⟩ := h 0 u rfl
      cases e
      exact .cons r (ih (by simpa using hl) fun j w e => h (j + 1) w (by simpa using e))
/-- what is collected of a source lies in a list of its own -/
theorem collect_src {prog : Program} {w : World} {A : Around} {E : Value → Shared → Prop} {s : Shared} {T : String} {r d : Addr} {n : Nat} {P : Nat → Value → Prop} {OK : Heap → Prop} {R : List Value → Shared → Prop}
    (K : PySem.W.KdlSrc prog w T r d n P OK) (hh : A.handled = none) (hok : OK s.heap) (hn : n ≤ sizeLine)
    (h : ∀ (h' : Heap) (tk : Nat) (acc : Array Value), (∀ b o, s.heap.get? b = some o → h'.get? b = some o) → s.heap.objs.size ≤ h'.objs.size → ItemsOf P acc n → R acc.toList { s with heap := h', toks := tk }) :
    wpAny (model prog w) A (collect (.ref r)) R E s := by
  let L := s.heap.objs.size
  let G : Result → Shared → Prop := fun q s' => ∃ (g : Heap) (tk : Nat) (acc : Array Value) (c : Nat), q = .ok (.ret (.ref L)) ∧ s' = { s with heap := g, toks := tk } ∧ (∀ b o, s.heap.get? b = some o → g.get? b = some o) ∧ g.get? L = some { cls := .type "list", dict := none, data := .seq acc c, slots := #[] } ∧ ItemsOf P acc n
  unfold collect
  refine wpAny_bind (wpAny_runValue (codeAny_builtin entry_proto_collect' ?_))
  rw [Around.under_plainId PySem.F.plain_proto_collect _]
  refine (show wpAny _ A.in1 (newList [] >>= fun l => again (.builtin "list.__iadd__" ⟨[l, .ref r], []⟩)) _ _ s from wpAny_bind (wpAny_newObj_type (wpAny_pure ⟨plainId_quiet PySem.F.plain_list_iadd _, codeAny_builtin entry_list_iadd' ?_⟩)))
  rw [Around.under_plainId PySem.F.plain_list_iadd _]
  have lt := K.there _ hok
  refine (show wpAny _ A.in1 (Builtin.List.listExtendWith (.ref L) (.ref r) (.ref L)) _ _ _ from wpAny_mono (PySem.W.kdl_extend (A := A) (R := G) (s := { s with heap := s.heap.push { cls := .type "list", data := .seq ([] : List Value).toArray } }) K hh (K.keep _ _ hok fun b _ o e => Heap.get?_push_of_some _ e) L (Nat.ne_of_gt lt.1) (Nat.ne_of_gt lt.2) (.ref L) 0 (Heap.get?_push_size _ rfl)
    (fun g tk acc c hk hS ha => ⟨g, tk, acc, c, rfl, rfl, fun b o e => hk b o (Nat.ne_of_lt (Heap.lt_size e)) (Heap.get?_push_of_some _ e), hS, ha⟩) hn) (fun f s' x => ?_) fun e s' ⟨_, _, _, _, z, _⟩ => nomatch z)
  have last : ∀ (g : Heap) (tk : Nat) (acc : Array Value) (c : Nat), (∀ b o, s.heap.get? b = some o → g.get? b = some o) → g.get? L = some { cls := .type "list", dict := none, data := .seq acc c, slots := #[] } → ItemsOf P acc n →
      wpAny (model prog w) A (load L >>= fun o => match o.data with | .seq xs _ => pure xs.toList | _ => unsupported "internal:collect") R E { s with heap := g, toks := tk } :=
    fun g tk acc c hk hS ha => wpAny_bind (wpAny_load hS (wpAny_pure (h g tk acc hk (Nat.le_of_lt (Heap.lt_size hS)) ha)))
  cases f with
  | done f =>
    obtain ⟨g, tk, acc, c, e, rfl, hk, hS, ha⟩ := x
    cases e
    exact last g tk acc c hk hS ha
  | again c₁ =>
    refine ⟨x.1, codeAny_mono x.2 fun q s₂ y => ?_⟩
    obtain ⟨g, tk, acc, c, rfl, rfl, hk, hS, ha⟩ := y
    exact last g tk acc c hk hS ha
end L2
namespace L2
open PySem PySem.Spec PyProof.Rows
theorem entry_setIter : entryFor table "set.__iter__" = some Builtin.«frozenset.__iter__» := entryFor_alias (id' := "frozenset.__iter__") (by kernel_rfl) rfl (by decide +kernel) (by kernel_rfl)
theorem slot_setNext : Slot "set_iterator" "__next__" "set_iterator.__next__" :=
  Slot.of (T := "set_iterator") (owner := "set_iterator") (n := "__next__") (by rw [typeLookup_type, builtinLookup_eq_fast]; kernel_rfl) (by decide +kernel) (by decide +kernel) (by decide +kernel) (.inl (by decide +kernel)) (by rw [isSubtype_type]; kernel_rfl)
theorem entry_setNext : entryFor table "set_iterator.__next__" = some Builtin.«set_iterator.__next__» := entryFor_of_tree (by kernel_rfl)
theorem args_setNext (a : Value) : argsOk "set_iterator.__next__" ⟨[a], []⟩ := by
  unfold argsOk
  kernel_rfl
abbrev byT (w : World) : Bool := w.params.followText "set-order"
section
variable {prog : Program} {w : World} {A : Around} {E : Value → Shared → Prop} {s : Shared}
theorem any_choose {src : Source} {n : Nat} {Q : Nat → Shared → Prop} (hn : n ≠ 0) (h : ∀ i, i < n → Q i { s with drawn := s.drawn.bump src }) : wpAny (model prog w) A (choose src n) Q E s :=
  fun Γ p hΓ => ⟨hn, h _ (Nat.mod_lt _ (Nat.pos_of_ne_zero hn))⟩
theorem any_order {α : Type} : ∀ (n : Nat) (xs : List α) (s : Shared) (Q : List α → Shared → Prop), xs.length = n → (∀ ys d', ys.Perm xs → Q ys { s with drawn := d' }) → wpAny (model prog w) A (drawOrder n xs) Q E s
  | 0, xs, s, Q, hl, h => by
    have e : xs = [] := List.length_eq_zero_iff.mp hl
    subst e
    exact wpAny_pure (h [] s.drawn (List.Perm.refl _))
  | n + 1, [], s, Q, hl, h => by cases hl
  | n + 1, x :: r, s, Q, hl, h => by
    show wpAny _ _ (choose .order (x :: r).length >>= _) _ _ _
    refine wpAny_bind (any_choose (by simp) fun i hi => ?_)
    rw [List.getElem?_eq_getElem hi]
    refine wpAny_bind (any_order n _ _ _ ?_ fun ys d' p => ?_)
    · rw [List.length_eraseIdx_of_lt hi]; simpa using hl
    · refine wpAny_pure (h _ d' ?_)
      refine (List.Perm.cons _ p).trans ?_
      rw [List.eraseIdx_eq_take_drop_succ]
      have e : (x :: r) = (x :: r).take i ++ ((x :: r)[i] :: (x :: r).drop (i + 1)) := by rw [List.getElem_cons_drop, List.take_append_drop]
      exact (List.perm_middle (a := (x :: r)[i])).symm.trans (by rw [← e])
end
/-- a walk over a set, by its fields -/
def SetIt (h : Heap) (it : Addr) (fs : Array Value) : Prop := ∃ o, h.get? it = some o ∧ o.cls = .type "set_iterator" ∧ o.data = .fields fs
theorem SetIt.typeIs {s : Shared} {it : Addr} {fs : Array Value} (h : SetIt s.heap it fs) : s.TypeIs (.ref it) "set_iterator" := let ⟨o, ho, hc, _⟩ := h; ⟨o, ho, hc⟩
theorem SetIt.at {h h' : Heap} {it : Addr} {fs : Array Value} (x : SetIt h it fs) (k : ∀ o, h.get? it = some o → h'.get? it = some o) : SetIt h' it fs := let ⟨o, ho, r⟩ := x; ⟨o, k o ho, r⟩
end L2
namespace L2
open PySem PySem.Spec PyProof.Rows
section
variable {prog : Program} {w : World} {A : Around} {E : Value → Shared → Prop} {s : Shared} {a : Addr} {o : Obj} {es : Array (Int × Value)} {ep : Nat} {t : SetTable}
abbrev itObj (first : Value) (a : Addr) (n ep : Nat) : Obj := { cls := .type "set_iterator", data := .fields #[first, rawInt 0, .ref a, rawInt n, rawInt ep] }
theorem iter_set0 {Q : Value → Shared → Prop} (h1 : s.heap.get? a = some o) (h2 : o.cls = .type "set") (h3 : o.data = .set es ep t) (hf : t.fits es.size = true)
    (hA : (byT w = true ∨ es.size ≤ 1) → Q (.ref s.heap.objs.size) { s with heap := s.heap.push (itObj (rawInt 0) a es.size ep) })
    (hB : byT w = false → ∀ (ys : List Nat) d', ys.Perm (List.range es.size) → Q (.ref (s.heap.push (seqObj "tuple" (ys.map fun i : Nat => rawInt i).toArray 0)).objs.size) { s with drawn := d', heap := (s.heap.push (seqObj "tuple" (ys.map fun i : Nat => rawInt i).toArray 0)).push (itObj (.ref s.heap.objs.size) a es.size ep) })
    (hp : 0 < es.size → t.plain = false) (hz : es.size < 4096) : wpAny (model prog w) A (pyIter (.ref a)) Q E s := by
  have hT : s.TypeIs (.ref a) "set" := ⟨o, h1, h2⟩
  refine wpAny_pyIter_slot hT F.slot_set_iter (wpAny_call_entry F.slot_set_iter hT entry_setIter ?_ (F.args_set_iter_1 _))
  unfold Builtin.«frozenset.__iter__» Builtin.Frozenset.slot0 slotArgs
  simp only [List.isEmpty_nil, Bool.not_true, Bool.false_eq_true, if_false, bind_assoc, List.length_nil, bne_self_eq_false]
  unfold Builtin.Frozenset.addrOf Builtin.Frozenset.sizeOf
  refine wpAny_bind (wpAny_pure ?_)
  dsimp only
  refine wpAny_bind (wpAny_pure ?_)
  simp only [bind_assoc]
  refine wpAny_bind (wpAny_setEntries_of h1 h3 hf ?_)
  refine wpAny_bind (wpAny_pure ?_)
  unfold setDrawn setsByText
  simp only [bind_assoc]
  refine wpAny_bind (wpAny_setState_of h1 h3 hf ?_)
  dsimp only
  refine wpAny_bind (wpAny_askSetting ?_)
  refine wpAny_bind (wpAny_pure ?_)
  refine wpAny_bind (wpAny_pure ?_)
  change wpAny _ _ (if (!byT w && (!t.plain && decide (es.size > 1))) = true then _ else _) _ _ _
  by_cases c : (!byT w && (!t.plain && decide (es.size > 1))) = true
  · rw [if_pos c]
    have c1 : byT w = false := by
      rw [Bool.and_eq_true] at c
      simpa using c.1
    refine wpAny_bind (any_order _ _ _ _ (List.length_range ..) fun ys d' py => ?_)
    have yl : ys.length = es.size := by rw [py.length_eq, List.length_range]
    unfold newTuple
    refine wpAny_bind (wpAny_newObj_type ?_ (by show (List.map _ ys).toArray.size ≤ _; rw [List.size_toArray, List.length_map, yl, sizeLine_eq]; omega))
    have h4 := Heap.get?_push_of_some (seqObj "tuple" (ys.map fun i : Nat => rawInt i).toArray 0) h1
    refine wpAny_bind (wpAny_setEpoch_of h4 h3 hf ?_)
    unfold newFields
    refine wpAny_bind (wpAny_newObj_type (wpAny_pure ⟨_, rfl, "set_iterator", _, ⟨_, Heap.get?_push_size _ rfl, rfl⟩, slot_setNext.lookup, hB c1 ys d' py⟩))
  · rw [if_neg c]
    have c1 : byT w = true ∨ es.size ≤ 1 := by
      by_cases b : byT w = true
      · exact .inl b
      · refine .inr (Decidable.byContradiction fun z => c ?_)
        have b : byT w = false := by simpa using b
        rw [b, hp (by omega), decide_eq_true (show es.size > 1 by omega)]
        rfl
    refine wpAny_bind (wpAny_pure ?_)
    refine wpAny_bind (wpAny_setEpoch_of h1 h3 hf ?_)
    unfold newFields
    refine wpAny_bind (wpAny_newObj_type (wpAny_pure ⟨_, rfl, "set_iterator", _, ⟨_, Heap.get?_push_size _ rfl, rfl⟩, slot_setNext.lookup, hA c1⟩))
end
end L2
namespace L2
open PySem PySem.Spec PyProof.Rows
section
variable {prog : Program} {w : World} {A : Around} {E : Value → Shared → Prop} {s : Shared} {a it tp : Addr} {o : Obj} {es : Array (Int × Value)} {ep : Nat} {t : SetTable}
theorem raise_stop {α : Type} {R : α → Shared → Prop} (hh : A.handled = none) (k : ∀ e g, (∀ c o, s.heap.get? c = some o → g.get? c = some o) → (∃ oe, g.get? e = some oe ∧ oe.cls = .type "StopIteration") → E (.ref e) { s with heap := g }) :
    wpAny (model prog w) A (newExc (.type "StopIteration") [] >>= fun e => raiseNew (α := α) e) R E s := by
  refine wpAny_bind ?_
  simp only [newExc, newTuple]
  refine wpAny_bind (wpAny_newObj_type (wpAny_bind (m := firstArgMember _ _) (wpAny_of_eq (a := Value.none) (by first | rfl | (simp only [firstArgMember]; rfl)) (wpAny_newObj_type ?_ (by size_fits)))) (by size_fits))
  unfold raiseNew
  refine wpAny_bind (wpAny_handled ?_)
  rw [hh]
  refine wpAny_bind (wpAny_pure (wpAny_throw (k _ _ (fun c o e => Heap.get?_push_of_some _ (Heap.get?_push_of_some _ e)) ⟨_, Heap.get?_push_size _ rfl, rfl⟩)))
theorem next_drawn {i j : Nat} {items : Array Value} {hx : Int} {x : Value} {Q : Option Value → Shared → Prop} (hit : SetIt s.heap it #[.ref tp, rawInt i, .ref a, rawInt es.size, rawInt ep]) (ht : s.heap.IsTuple tp items) (h1 : s.heap.get? a = some o) (h3 : o.data = .set es ep t) (hf : t.fits es.size = true)
    (hi : items[i]? = some (rawInt j)) (he : es[j]? = some (hx, x)) (hQ : ∀ h', SetIt h' it #[.ref tp, rawInt (i + 1 : Nat), .ref a, rawInt es.size, rawInt ep] → Heap.SameBut it s.heap h' → Q (some x) { s with heap := h' }) : wpAny (model prog w) A (pyNext (.ref it)) Q E s := by
  obtain ⟨oi, ho, hc, hd⟩ := id hit
  unfold pyNext
  refine wpAny_bind (wpAny_attempt (wpAny_callSpecial?_slot (name := Str.ofString "__next__") hit.typeIs slot_setNext (wpAny_call_entry slot_setNext hit.typeIs entry_setNext ?_ (args_setNext _))))
  unfold Builtin.«set_iterator.__next__» slotArgs
  simp only [List.isEmpty_nil, Bool.not_true, Bool.false_eq_true, if_false, bind_assoc, List.length_nil, bne_self_eq_false]
  refine wpAny_bind (wpAny_pure ?_)
  dsimp only
  refine wpAny_bind (wpAny_fieldsOf ho hd ?_)
  refine (show wpAny _ _ (setEntries a >>= fun es => _) _ _ _ from wpAny_bind (wpAny_setEntries_of h1 h3 hf ?_))
  rw [if_neg (by simp)]
  refine (show wpAny _ _ (seqItems? (.ref tp) >>= fun z => _) _ _ _ from wpAny_bind ?_)
  obtain ⟨ot, g1, g2, g3, g4⟩ := id ht
  refine wpAny_seqItems g1 g4 ?_
  dsimp only
  rw [show ((i : Int)).toNat = i from Int.toNat_natCast i, hi]
  refine (show wpAny _ _ (setNextDrawn a ((j : Int)).toNat ((ep : Int)).toNat >>= fun z => _) _ _ _ from wpAny_bind ?_)
  rw [Int.toNat_natCast, Int.toNat_natCast]
  unfold setNextDrawn
  refine wpAny_bind (wpAny_setState_of h1 h3 hf ?_)
  dsimp only
  rw [if_neg (by simp), he]
  refine wpAny_bind (wpAny_pure (wpAny_pure ?_))
  refine wpAny_bind (wpAny_setField ho hd (by simp) ?_)
  have hit' : SetIt (s.heap.update it (Obj.mapFields (·.setIfInBounds 1 (rawInt ((i : Int) + 1))))) it #[.ref tp, rawInt (i + 1 : Nat), .ref a, rawInt es.size, rawInt ep] :=
    ⟨_, Heap.get?_update_self _ ho (Obj.isFreed_of_fields (Obj.data_mapFields hd _)), (Obj.cls_mapFields ..).trans hc, by rw [Obj.data_mapFields hd]; simp [rawInt]⟩
  exact wpAny_pure ⟨_, rfl, wpAny_pure (hQ _ hit' (Heap.SameBut.update ..))⟩
theorem end_drawn {i : Nat} {items : Array Value} {Q : Option Value → Shared → Prop} (hh : A.handled = none) (hit : SetIt s.heap it #[.ref tp, rawInt i, .ref a, rawInt es.size, rawInt ep]) (ht : s.heap.IsTuple tp items) (h1 : s.heap.get? a = some o) (h3 : o.data = .set es ep t) (hf : t.fits es.size = true)
    (hi : items[i]? = none) (hQ : ∀ h', (∀ c u, c ≠ it → s.heap.get? c = some u → h'.get? c = some u) → Q none { s with heap := h' }) : wpAny (model prog w) A (pyNext (.ref it)) Q E s := by
  obtain ⟨oi, ho, hc, hd⟩ := id hit
  unfold pyNext
  refine wpAny_bind (wpAny_attempt (wpAny_callSpecial?_slot (name := Str.ofString "__next__") hit.typeIs slot_setNext (wpAny_call_entry slot_setNext hit.typeIs entry_setNext ?_ (args_setNext _))))
  unfold Builtin.«set_iterator.__next__» slotArgs
  simp only [List.isEmpty_nil, Bool.not_true, Bool.false_eq_true, if_false, bind_assoc, List.length_nil, bne_self_eq_false]
  refine wpAny_bind (wpAny_pure ?_)
  dsimp only
  refine wpAny_bind (wpAny_fieldsOf ho hd ?_)
  refine (show wpAny _ _ (setEntries a >>= fun es => _) _ _ _ from wpAny_bind (wpAny_setEntries_of h1 h3 hf ?_))
  rw [if_neg (by simp)]
  refine (show wpAny _ _ (seqItems? (.ref tp) >>= fun z => _) _ _ _ from wpAny_bind ?_)
  obtain ⟨ot, g1, g2, g3, g4⟩ := id ht
  refine wpAny_seqItems g1 g4 ?_
  dsimp only
  rw [show ((i : Int)).toNat = i from Int.toNat_natCast i, hi]
  refine wpAny_bind (wpAny_setField ho hd (by simp) ?_)
  have ho2 := Heap.get?_update_self (Obj.mapFields (·.setIfInBounds 0 (rawInt 0))) ho (Obj.isFreed_of_fields (Obj.data_mapFields hd _))
  have hd2 := Obj.data_mapFields hd (·.setIfInBounds 0 (rawInt 0))
  refine wpAny_bind (wpAny_setField ho2 hd2 (by simp) ?_)
  refine raise_stop (A := A.in1) hh fun e g keep ⟨oe, q1, q2⟩ => ?_
  refine wpAny_bind (wpAny_isInstance (T := "StopIteration") (b := true) ⟨oe, q1, q2⟩ isSubtype_stop ?_)
  refine wpAny_pure (hQ _ fun c u nc e => keep c u ?_)
  rw [Heap.get?_update_other _ _ nc.symm, Heap.get?_update_other _ _ nc.symm]
  exact e
/-- the other way: by the table -/
theorem next_table {i sl nx : Nat} {x : Value} {Q : Option Value → Shared → Prop} (hit : SetIt s.heap it #[rawInt sl, rawInt i, .ref a, rawInt es.size, rawInt ep]) (h1 : s.heap.get? a = some o) (h3 : o.data = .set es ep t) (hf : t.fits es.size = true)
    (hn : ∀ R : Option (Value × Nat) → Shared → Prop, R (some (x, nx)) s → wpAny (model prog w) A.in1 (setNext a sl i ep) R (fun e s' => wpAny (model prog w) A (do let b ← isInstance e (.type "StopIteration"); if b = true then pure none else throw e) Q E s') s)
    (hQ : ∀ h', SetIt h' it #[rawInt nx, rawInt (i + 1 : Nat), .ref a, rawInt es.size, rawInt ep] → (∀ c u, c ≠ it → s.heap.get? c = some u → h'.get? c = some u) → Q (some x) { s with heap := h' }) : wpAny (model prog w) A (pyNext (.ref it)) Q E s := by
  obtain ⟨oi, ho, hc, hd⟩ := id hit
  unfold pyNext
  refine wpAny_bind (wpAny_attempt (wpAny_callSpecial?_slot (name := Str.ofString "__next__") hit.typeIs slot_setNext (wpAny_call_entry slot_setNext hit.typeIs entry_setNext ?_ (args_setNext _))))
  unfold Builtin.«set_iterator.__next__» slotArgs
  simp only [List.isEmpty_nil, Bool.not_true, Bool.false_eq_true, if_false, bind_assoc, List.length_nil, bne_self_eq_false]
  refine wpAny_bind (wpAny_pure ?_)
  dsimp only
  refine wpAny_bind (wpAny_fieldsOf ho hd ?_)
  refine (show wpAny _ _ (setEntries a >>= fun es => _) _ _ _ from wpAny_bind (wpAny_setEntries_of h1 h3 hf ?_))
  rw [if_neg (by simp)]
  refine (show wpAny _ _ (setNext a ((sl : Int)).toNat ((i : Int)).toNat ((ep : Int)).toNat >>= fun z => _) _ _ _ from wpAny_bind ?_)
  rw [Int.toNat_natCast, Int.toNat_natCast, Int.toNat_natCast]
  refine hn _ ?_
  refine wpAny_bind (wpAny_setField ho hd (by simp) ?_)
  have ho2 := Heap.get?_update_self (Obj.mapFields (·.setIfInBounds 0 (rawInt nx))) ho (Obj.isFreed_of_fields (Obj.data_mapFields hd _))
  have hd2 := Obj.data_mapFields hd (·.setIfInBounds 0 (rawInt nx))
  refine wpAny_bind (wpAny_setField ho2 hd2 (by simp) ?_)
  have hit' : SetIt ((s.heap.update it (Obj.mapFields (·.setIfInBounds 0 (rawInt nx)))).update it (Obj.mapFields (·.setIfInBounds 1 (rawInt ((i : Int) + 1))))) it #[rawInt nx, rawInt (i + 1 : Nat), .ref a, rawInt es.size, rawInt ep] :=
    ⟨_, Heap.get?_update_self _ ho2 (Obj.isFreed_of_fields (Obj.data_mapFields hd2 _)), (Obj.cls_mapFields ..).trans ((Obj.cls_mapFields ..).trans hc), by rw [Obj.data_mapFields hd2]; simp [rawInt]⟩
  refine wpAny_pure ⟨_, rfl, wpAny_pure (hQ _ hit' fun c u nc e => ?_)⟩
  rw [Heap.get?_update_other _ _ nc.symm, Heap.get?_update_other _ _ nc.symm]
  exact e
theorem end_table {i sl : Nat} {Q : Option Value → Shared → Prop} (hh : A.handled = none) (hit : SetIt s.heap it #[rawInt sl, rawInt i, .ref a, rawInt es.size, rawInt ep]) (h1 : s.heap.get? a = some o) (h3 : o.data = .set es ep t) (hf : t.fits es.size = true)
    (hn : ∀ R : Option (Value × Nat) → Shared → Prop, R none s → wpAny (model prog w) A.in1 (setNext a sl i ep) R (fun e s' => wpAny (model prog w) A (do let b ← isInstance e (.type "StopIteration"); if b = true then pure none else throw e) Q E s') s)
    (hQ : ∀ h', (∀ c u, c ≠ it → s.heap.get? c = some u → h'.get? c = some u) → Q none { s with heap := h' }) : wpAny (model prog w) A (pyNext (.ref it)) Q E s := by
  obtain ⟨oi, ho, hc, hd⟩ := id hit
  unfold pyNext
  refine wpAny_bind (wpAny_attempt (wpAny_callSpecial?_slot (name := Str.ofString "__next__") hit.typeIs slot_setNext (wpAny_call_entry slot_setNext hit.typeIs entry_setNext ?_ (args_setNext _))))
  unfold Builtin.«set_iterator.__next__» slotArgs
  simp only [List.isEmpty_nil, Bool.not_true, Bool.false_eq_true, if_false, bind_assoc, List.length_nil, bne_self_eq_false]
  refine wpAny_bind (wpAny_pure ?_)
  dsimp only
  refine wpAny_bind (wpAny_fieldsOf ho hd ?_)
  refine (show wpAny _ _ (setEntries a >>= fun es => _) _ _ _ from wpAny_bind (wpAny_setEntries_of h1 h3 hf ?_))
  rw [if_neg (by simp)]
  refine (show wpAny _ _ (setNext a ((sl : Int)).toNat ((i : Int)).toNat ((ep : Int)).toNat >>= fun z => _) _ _ _ from wpAny_bind ?_)
  rw [Int.toNat_natCast, Int.toNat_natCast, Int.toNat_natCast]
  refine hn _ ?_
  refine wpAny_bind (wpAny_setField ho hd (by simp) ?_)
  refine raise_stop (A := A.in1) hh fun e g keep ⟨oe, q1, q2⟩ => ?_
  refine wpAny_bind (wpAny_isInstance (T := "StopIteration") (b := true) ⟨oe, q1, q2⟩ isSubtype_stop ?_)
  refine wpAny_pure (hQ _ fun c u nc e => keep c u ?_)
  rw [Heap.get?_update_other _ _ nc.symm]
  exact e
end
end L2
namespace L2
open PySem PySem.Spec PyProof.Rows
theorem entry_setItIter : entryFor table "set_iterator.__iter__" = some Builtin.«dict_keyiterator.__iter__» := entryFor_alias (id' := "dict_keyiterator.__iter__") (by kernel_rfl) rfl (by decide +kernel) (by kernel_rfl)
theorem slot_setItIter : Slot "set_iterator" "__iter__" "set_iterator.__iter__" :=
  Slot.of (T := "set_iterator") (owner := "set_iterator") (n := "__iter__") (by rw [typeLookup_type, builtinLookup_eq_fast]; kernel_rfl) (by decide +kernel) (by decide +kernel) (by decide +kernel) (.inl (by decide +kernel)) (by rw [isSubtype_type]; kernel_rfl)
theorem args_setItIter (a : Value) : argsOk "set_iterator.__iter__" ⟨[a], []⟩ := by
  unfold argsOk
  kernel_rfl
theorem pick_perm {α : Type} (next : Nat → Nat) : ∀ (f k : Nat) (l : List α) (out : Array α), f = l.length → (pickOrder.go next f k l out).toList.Perm (out.toList ++ l)
  | 0, k, l, out, h => by
    have e : l = [] := List.length_eq_zero_iff.mp h.symm
    subst e
    show out.toList.Perm (out.toList ++ [])
    rw [List.append_nil]
  | f + 1, k, l, out, h => by
    have hl : next k % l.length < l.length := Nat.mod_lt _ (by omega)
    have e : pickOrder.go next (f + 1) k l out = pickOrder.go next f (k + 1) (l.eraseIdx (next k % l.length)) (out.push l[next k % l.length]) := by
      conv => lhs; unfold pickOrder.go
      rw [List.getElem?_eq_getElem hl]
    rw [e]
    refine (pick_perm next f (k + 1) _ _ (by rw [List.length_eraseIdx_of_lt hl]; omega)).trans ?_
    rw [Array.toList_push, List.append_assoc]
    refine List.Perm.append_left _ ?_
    rw [List.eraseIdx_eq_take_drop_succ]
    have e2 : l = l.take (next k % l.length) ++ (l[next k % l.length] :: l.drop (next k % l.length + 1)) := by rw [List.getElem_cons_drop, List.take_append_drop]
    exact (List.perm_middle (l₁ := l.take (next k % l.length)) (a := l[next k % l.length])).symm.trans (by rw [← e2])
theorem pickOrder_perm {α : Type} (next : Nat → Nat) (xs : Array α) : (pickOrder next xs).toList.Perm xs.toList := by
  have := pick_perm next xs.size 0 xs.toList #[] (by simp)
  simpa [pickOrder] using this
section
variable {prog : Program} {w : World} {A : Around} {E : Value → Shared → Prop} {s : Shared} {a it tp : Addr} {o : Obj} {es : Array (Int × Value)} {ep : Nat} {t : SetTable}
theorem SetIt.self {fs : Array Value} {Q : Value → Shared → Prop} (hit : SetIt s.heap it fs) (h : Q (.ref it) s) : wpAny (model prog w) A (pyIter (.ref it)) Q E s := by
  refine wpAny_pyIter_slot hit.typeIs slot_setItIter (wpAny_call_entry slot_setItIter hit.typeIs entry_setItIter ?_ (args_setItIter _))
  refine (show wpAny _ _ (ret (.ref it)) _ _ s from ?_)
  exact wpAny_pure ⟨_, rfl, "set_iterator", _, hit.typeIs, slot_setNext.lookup, h⟩
theorem setNext_text {sl i : Nat} {R : Option (Value × Nat) → Shared → Prop} (hb : byT w = true) (h1 : s.heap.get? a = some o) (h3 : o.data = .set es ep t) (hf : t.fits es.size = true)
    (h : R (((pickOrder (w.params.setOrder a ep) es)[i]?).map fun e => (e.2, sl)) s) : wpAny (model prog w) A (setNext a sl i ep) R E s := by
  unfold setNext setsByText
  refine wpAny_bind (wpAny_setState_of h1 h3 hf ?_)
  dsimp only
  refine wpAny_bind (wpAny_bind (wpAny_askSetting (wpAny_pure ?_)))
  rw [if_pos (show (model prog w).w.params.followText "set-order" = true from hb), if_neg (by simp)]
  unfold setWalk setsByText
  refine wpAny_bind (wpAny_bind (wpAny_setState_of h1 h3 hf ?_))
  dsimp only
  refine wpAny_bind (wpAny_bind (wpAny_askSetting (wpAny_pure ?_)))
  rw [if_pos (show (model prog w).w.params.followText "set-order" = true from hb)]
  refine wpAny_bind (wpAny_askSetting (wpAny_pure (wpAny_pure h)))
theorem setNext_few {sl i : Nat} {R : Option (Value × Nat) → Shared → Prop} (hb : byT w = false) (hz : es.size ≤ 1) (hl : t.led = true) (h1 : s.heap.get? a = some o) (h3 : o.data = .set es ep t) (hf : t.fits es.size = true)
    (h : R (match es[SetTable.below t.place sl]?, t.place[SetTable.below t.place sl]? with | some (_, x), some j => some (x, j + 1) | _, _ => none) s) : wpAny (model prog w) A (setNext a sl i ep) R E s := by
  unfold setNext setsByText
  refine wpAny_bind (wpAny_setState_of h1 h3 hf ?_)
  dsimp only
  refine wpAny_bind (wpAny_bind (wpAny_askSetting (wpAny_pure ?_)))
  rw [if_neg (show ¬ ((model prog w).w.params.followText "set-order" = true) from by rw [show (model prog w).w.params.followText "set-order" = false from hb]; decide)]
  refine wpAny_bind (wpAny_pure ?_)
  have e1 : (!t.plain && decide (es.size > 1)) = false := by rw [decide_eq_false (by omega), Bool.and_false]
  refine (show wpAny _ _ (if (!t.plain && decide (es.size > 1)) = true then unsupported "set_iterator.__next__:the-table-is-plain-no-more" else _) _ _ _ from ?_)
  rw [if_neg (by rw [e1]; decide)]
  refine wpAny_bind ?_
  refine (show wpAny _ _ (if (!t.led && !es.isEmpty) = true then unsupported "set:maker-not-led" else pure ()) _ _ _ from ?_)
  rw [if_neg (by rw [hl]; simp)]
  exact wpAny_pure (wpAny_pure h)
end
end L2
namespace L2
open PySem PySem.Spec PyProof.Rows
section
variable {prog : Program} {w : World} {A : Around} {E : Value → Shared → Prop} {s : Shared} {a tp : Addr} {o : Obj} {es : Array (Int × Value)} {ep : Nat} {t : SetTable}
theorem walk_drawn (hh : A.handled = none) (J : Addr) (ja : a ≠ J) (jt : tp ≠ J) (h3 : o.data = .set es ep t) (hf : t.fits es.size = true) (ys : List Nat) (hy : ys.Perm (List.range es.size)) :
    Walks prog w A J [J, tp, a] [J] es.size (fun i v => (ys.map fun j => ((es[j]?).map (·.2)).getD .none)[i]? = some v)
      (fun i h => SetIt h J #[.ref tp, rawInt i, .ref a, rawInt es.size, rawInt ep] ∧ h.IsTuple tp (ys.map fun i : Nat => rawInt i).toArray ∧ h.get? a = some o) where
  sub := fun b hb => by simp only [List.mem_singleton] at hb; rw [hb]; exact List.mem_cons_self
  frame := fun i h h' st k => ⟨st.1.at (k J (by simp)), st.2.1.at (k tp (by simp)), k a (by simp) o st.2.2⟩
  item := fun i s Q E hi st hQ => by
    have hl : ys.length = es.size := by rw [hy.length_eq, List.length_range]
    have hiy : i < ys.length := by omega
    have hj : ys[i] < es.size := List.mem_range.mp (hy.mem_iff.mp (List.getElem_mem hiy))
    refine next_drawn (j := ys[i]) (hx := es[ys[i]].1) (x := es[ys[i]].2) st.1 st.2.1 st.2.2 h3 hf (by simp [hiy]) (by simp [hj]) fun h' z q => ?_
    refine hQ _ h' s.toks ?_ ⟨z, st.2.1.at fun u e => q.extBut _ _ jt e, q.extBut _ _ ja st.2.2⟩ fun b u hb e => q.extBut b u (fun x => hb (by rw [x]; exact List.mem_cons_self)) e
    simp [hiy, hj]
  done := fun s Q E st hQ => by
    have hl : ys.length = es.size := by rw [hy.length_eq, List.length_range]
    exact end_drawn hh st.1 st.2.1 st.2.2 h3 hf (by simp [hl]) fun h' q => hQ h' s.toks fun b u hb e => q b u (fun x => hb (by rw [x]; exact List.mem_cons_self)) e
  self := fun _ _ _ _ st hQ => st.1.self hQ
theorem walk_text (hh : A.handled = none) (J : Addr) (ja : a ≠ J) (h3 : o.data = .set es ep t) (hf : t.fits es.size = true) (hb : byT w = true) :
    Walks prog w A J [J, a] [J] es.size (fun i v => ((pickOrder (w.params.setOrder a ep) es).toList.map (·.2))[i]? = some v)
      (fun i h => SetIt h J #[rawInt 0, rawInt i, .ref a, rawInt es.size, rawInt ep] ∧ h.get? a = some o) where
  sub := fun b hb => by simp only [List.mem_singleton] at hb; rw [hb]; exact List.mem_cons_self
  frame := fun i h h' st k => ⟨st.1.at (k J (by simp)), k a (by simp) o st.2⟩
  item := fun i s Q E hi st hQ => by
    have hp := (pickOrder_perm (w.params.setOrder a ep) es).length_eq
    rw [Array.length_toList, Array.length_toList] at hp
    have hi' : i < (pickOrder (w.params.setOrder a ep) es).size := by omega
    refine next_table (sl := 0) (nx := 0) (x := (pickOrder (w.params.setOrder a ep) es)[i].2) st.1 st.2 h3 hf (fun R hR => setNext_text hb st.2 h3 hf (by rw [Array.getElem?_eq_getElem hi']; exact hR)) fun h' z q => ?_
    refine hQ _ h' s.toks ?_ ⟨z, q _ _ ja st.2⟩ fun b u hb e => q b u (fun x => hb (by rw [x]; exact List.mem_cons_self)) e
    simp [hi']
  done := fun s Q E st hQ => by
    have hp := (pickOrder_perm (w.params.setOrder a ep) es).length_eq
    rw [Array.length_toList, Array.length_toList] at hp
    exact end_table (sl := 0) hh st.1 st.2 h3 hf (fun R hR => setNext_text hb st.2 h3 hf (by rw [Array.getElem?_eq_none (by omega)]; exact hR)) fun h' q => hQ h' s.toks fun b u hb e => q b u (fun x => hb (by rw [x]; exact List.mem_cons_self)) e
  self := fun _ _ _ _ st hQ => st.1.self hQ
/-- of at most one -/
theorem below_one (j k : Nat) : SetTable.below #[j] k = if j < k then 1 else 0 := by
  unfold SetTable.below
  show SetTable.below.go #[j] k 1 0 1 = _
  unfold SetTable.below.go
  rw [if_pos (by decide)]
  show (if (#[j] : Array Nat).getD 0 k < k then SetTable.below.go #[j] k 0 1 1 else SetTable.below.go #[j] k 0 0 0) = _
  rw [show (#[j] : Array Nat).getD 0 k = j from rfl]
  rfl
theorem fits_size {n : Nat} (h : t.fits n = true) : t.place.size = n := by
  unfold SetTable.fits at h
  rw [Bool.and_eq_true] at h
  simpa using h.1
theorem walk_few (hh : A.handled = none) (J : Addr) (ja : a ≠ J) (h3 : o.data = .set es ep t) (hf : t.fits es.size = true) (hb : byT w = false) (hz : es.size ≤ 1) (hl : t.led = true) :
    Walks prog w A J [J, a] [J] es.size (fun i v => (es.toList.map (·.2))[i]? = some v)
      (fun i h => (∃ sl : Nat, SetIt h J #[rawInt sl, rawInt i, .ref a, rawInt es.size, rawInt ep] ∧ (i = 0 → sl = 0) ∧ (i = 1 → ∀ j, t.place = #[j] → j < sl)) ∧ h.get? a = some o) where
  sub := fun b hb => by simp only [List.mem_singleton] at hb; rw [hb]; exact List.mem_cons_self
  frame := fun i h h' st k => by
    obtain ⟨⟨sl, x, y⟩, z⟩ := st
    exact ⟨⟨sl, x.at (k J (by simp)), y⟩, k a (by simp) o z⟩
  item := fun i s Q E hi st hQ => by
    obtain ⟨⟨sl, x, y, _⟩, z⟩ := st
    have i0 : i = 0 := by omega
    subst i0
    obtain rfl : sl = 0 := y rfl
    have ps := fits_size hf
    have e1 : es.size = 1 := by omega
    obtain ⟨j, hj⟩ : ∃ j, t.place = #[j] := by
      have : t.place.size = 1 := by omega
      exact Array.size_eq_one_iff.mp this
    obtain ⟨⟨hs, xx⟩, he⟩ : ∃ q, es = #[q] := Array.size_eq_one_iff.mp e1
    refine next_table (sl := 0) (nx := j + 1) (x := xx) x z h3 hf (fun R hR => setNext_few hb hz hl z h3 hf ?_) fun h' z' q => ?_
    · rw [hj, below_one, if_neg (Nat.not_lt_zero _), he]
      exact hR
    · refine hQ _ h' s.toks ?_ ⟨⟨j + 1, z', fun q => absurd q (by decide), fun _ j' hj' => ?_⟩, q _ _ ja z⟩ fun b u hb e => q b u (fun x => hb (by rw [x]; exact List.mem_cons_self)) e
      · rw [he]; rfl
      · rw [hj] at hj'
        cases hj'
        exact Nat.lt_succ_self _
  done := fun s Q E st hQ => by
    obtain ⟨⟨sl, x, _, y⟩, z⟩ := st
    refine end_table (sl := sl) hh x z h3 hf (fun R hR => setNext_few hb hz hl z h3 hf ?_) fun h' q => hQ h' s.toks fun b u hb e => q b u (fun x => hb (by rw [x]; exact List.mem_cons_self)) e
    have ps := fits_size hf
    by_cases e0 : es.size = 0
    · have : es = #[] := Array.size_eq_zero_iff.mp e0
      subst this
      exact hR
    · have e1 : es.size = 1 := by omega
      obtain ⟨j, hj⟩ : ∃ j, t.place = #[j] := by
        have : t.place.size = 1 := by omega
        exact Array.size_eq_one_iff.mp this
      obtain ⟨⟨hs, xx⟩, he⟩ : ∃ q, es = #[q] := Array.size_eq_one_iff.mp e1
      rw [hj, below_one, if_pos (y e1 j hj), he]
      exact hR
  self := fun _ _ _ _ st hQ => by
    obtain ⟨⟨sl, x, _⟩, _⟩ := st
    exact x.self hQ
/-- the walk over a set of texts: in some order -/
theorem iter_setW {Q : Value → Shared → Prop} (h1 : s.heap.get? a = some o) (h2 : o.cls = .type "set") (h3 : o.data = .set es ep t) (hf : t.fits es.size = true) (hl : t.led = !byT w) (hp : 0 < es.size → t.plain = false) (hz : es.size < 4096)
    (hQ : ∀ (g : Heap) (d' : Drawn) (J : Addr) (fp : List Addr) (vs : List Value) (St : Nat → Heap → Prop), (∀ b u, s.heap.get? b = some u → g.get? b = some u) → s.heap.objs.size ≤ J → (∀ b ∈ fp, b = a ∨ s.heap.objs.size ≤ b) →
      (∀ A' : Around, A'.handled = none → Walks prog w A' J fp [J] es.size (fun i v => vs[i]? = some v) St) → St 0 g → vs.Perm (es.toList.map (·.2)) → Q (.ref J) { s with heap := g, drawn := d' }) : wpAny (model prog w) A (pyIter (.ref a)) Q E s := by
  have la := Heap.lt_size h1
  refine iter_set0 h1 h2 h3 hf (fun c => ?_) (fun c ys d' py => ?_) hp hz
  · have ja : a ≠ s.heap.objs.size := Nat.ne_of_lt la
    have fpm : ∀ b ∈ [s.heap.objs.size, a], b = a ∨ s.heap.objs.size ≤ b := fun b hb => by
      simp only [List.mem_cons, List.not_mem_nil, or_false] at hb
      rcases hb with e | e
      · rw [e]; exact .inr (Nat.le_refl _)
      · exact .inl e
    have g1 : SetIt (s.heap.push (itObj (rawInt 0) a es.size ep)) s.heap.objs.size #[rawInt 0, rawInt 0, .ref a, rawInt es.size, rawInt ep] := ⟨_, Heap.get?_push_size _ rfl, rfl, rfl⟩
    cases hb : byT w with
    | true =>
      exact hQ _ s.drawn _ [s.heap.objs.size, a] _ _ (fun b u e => Heap.get?_push_of_some _ e) (Nat.le_refl _) fpm (fun A' h' => walk_text h' _ ja h3 hf hb) ⟨g1, Heap.get?_push_of_some _ h1⟩ ((pickOrder_perm _ es).map _)
    | false =>
      rw [hb] at hl c
      have c : es.size ≤ 1 := by rcases c with c | c; · cases c
                                 · exact c
      exact hQ _ s.drawn _ [s.heap.objs.size, a] _ _ (fun b u e => Heap.get?_push_of_some _ e) (Nat.le_refl _) fpm (fun A' h' => walk_few h' _ ja h3 hf hb c hl) ⟨⟨0, g1, fun _ => rfl, fun z => absurd z (by decide)⟩, Heap.get?_push_of_some _ h1⟩ (List.Perm.refl _)
  · have z1 : (s.heap.push (seqObj "tuple" (ys.map fun i : Nat => rawInt i).toArray 0)).objs.size = s.heap.objs.size + 1 := Heap.size_push ..
    have ja : a ≠ (s.heap.push (seqObj "tuple" (ys.map fun i : Nat => rawInt i).toArray 0)).objs.size := by rw [z1]; exact Nat.ne_of_lt (Nat.lt_succ_of_lt la)
    have jt : s.heap.objs.size ≠ (s.heap.push (seqObj "tuple" (ys.map fun i : Nat => rawInt i).toArray 0)).objs.size := by rw [z1]; exact Nat.ne_of_lt (Nat.lt_succ_self _)
    refine hQ _ d' _ [_, s.heap.objs.size, a] _ _ (fun b u e => Heap.get?_push_of_some _ (Heap.get?_push_of_some _ e)) (by rw [z1]; exact Nat.le_succ _) (fun b hb => ?_) (fun A' h' => walk_drawn h' _ ja jt h3 hf ys py) ⟨⟨_, Heap.get?_push_size _ rfl, rfl, rfl⟩, ⟨_, Heap.get?_push_of_some _ (Heap.get?_push_size _ rfl), rfl, 0, rfl⟩, Heap.get?_push_of_some _ (Heap.get?_push_of_some _ h1)⟩ ?_
    · simp only [List.mem_cons, List.not_mem_nil, or_false] at hb
      rcases hb with e | e | e
      · rw [e, z1]; exact .inr (Nat.le_succ _)
      · rw [e]; exact .inr (Nat.le_refl _)
      · exact .inl e
    · refine (py.map _).trans ?_
      refine List.Perm.of_eq ?_
      refine List.ext_getElem (by simp) fun i p q => ?_
      have hi : i < es.size := by simpa using p
      simp [hi]
end
end L2
namespace L2
open PySem PySem.Spec PyProof.Rows
theorem Inv.draw {X : Cx} {pins : List (Addr × Obj)} {σ : St} {H : Hp} {s : Shared} (I : Inv X pins σ H s) (d' : Drawn) : Inv X pins σ H { s with drawn := d' } :=
  ⟨I.ok, I.os, I.bare, I.base, I.loc, I.cell, I.free, I.freeC, I.pin, I.hok, I.len⟩
section
variable {prog : Program} {w : World} {A : Around} {E : Value → Shared → Prop} {s : Shared} {a : Addr} {o : Obj} {es : Array (Int × Value)} {ep : Nat} {t : SetTable}
theorem hint_set {Q : Bool → Shared → Prop} (hT : s.TypeIs (.ref a) "set") (q : Q false s) : wpAny (model prog w) A (Builtin.List.listLengthHint (.ref a)) Q E s := by
  have e0 : splitId "set.__len__" = some ("set", "__len__") := by decide +kernel
  unfold Builtin.List.listLengthHint
  refine wpAny_bind (wpAny_specialOf hT F.slot_set_len.lookup ?_)
  generalize hzz : ("set.__len__" : String) = z at e0 ⊢
  wp_delta
  rw [e0]
  subst hzz
  refine wpAny_bind (wpAny_isInstance (T := "set") (b := true) hT sub_set_self ?_)
  refine wpAny_ite_split (fun x => absurd x (by decide)) fun _ => wpAny_ite_split (fun _ => ?_) fun x => absurd (by decide +kernel) x
  exact wpAny_bind (wpAny_typeOf hT (wpAny_pure q))
theorem set_extend {R : Result → Shared → Prop} (h1 : s.heap.get? a = some o) (h2 : o.cls = .type "set") (h3 : o.data = .set es ep t) (hf : t.fits es.size = true) (hl : t.led = !byT w) (hp : 0 < es.size → t.plain = false) (hz : es.size < 4096) (hh : A.handled = none)
    (S : Addr) (hSa : S ≠ a) (res : Value) (c₀ : Nat) (hS : s.heap.get? S = some { cls := .type "list", data := .seq #[] c₀ })
    (hR : ∀ h' d' tk acc' c', (∀ b u, b ≠ S → s.heap.get? b = some u → h'.get? b = some u) → h'.get? S = some { cls := .type "list", dict := none, data := .seq acc' c', slots := #[] } → acc'.toList.Perm (es.toList.map (·.2)) → R (.ok (.ret res)) { s with heap := h', drawn := d', toks := tk }) :
    wpAny (model prog w) A.in1 (Builtin.List.listExtendWith (.ref S) (.ref a) res)
      (fun fin s' => match fin with | .done f => R (.ok f) s' | .again c' => c'.quiet = true ∧ codeAny (model prog w) A c' R s') (fun e s' => R (.error e) s') s := by
  have hT : s.TypeIs (.ref a) "set" := ⟨o, h1, h2⟩
  have lS := Heap.lt_size hS
  unfold Builtin.List.listExtendWith
  refine wpAny_bind (wpAny_typeOf (T := "set") hT ?_)
  have e1 : Builtin.List.listSameRef (.ref S) (.ref a) = false := by simp [Builtin.List.listSameRef, hSa]
  have e2 : (Value.type "set" == Value.type "list") = false := by decide
  have e3 : (Value.type "set" == Value.type "tuple") = false := by decide
  simp only [e1, e2, e3, Bool.or_false, Bool.false_eq_true, if_false]
  refine wpAny_bind (iter_setW h1 h2 h3 hf hl hp hz fun g d' J fp vs St keep lJ mf W st pv => ?_)
  have W := W A.in1 hh
  have hSJ : S ≠ J := Nat.ne_of_lt (Nat.lt_of_lt_of_le lS lJ)
  have hSf : S ∉ fp := fun m => by
    rcases mf S m with e | e
    · exact hSa e
    · exact absurd lS (Nat.not_lt.mpr e)
  have sz : es.size ≤ sizeLine := by rw [sizeLine_eq]; omega
  have fin : ∀ (h : Heap) (c₁ tk : Nat), St 0 h → (∀ b u, b ≠ S → s.heap.get? b = some u → h.get? b = some u) → h.get? S = some { cls := .type "list", data := .seq #[] c₁ } →
      codeAny (model prog w) A (.builtin "list.extend.loop" ⟨[.ref S, .ref J, res], []⟩) R { s with heap := h, drawn := d', toks := tk } := fun h c₁ tk st' k' hS' => by
    refine codeAny_extend_loopS W.toS sz S hSf res es.size 0 _ #[] c₁ rfl (Nat.zero_le _) st' hS' (ItemsOf.nil _) fun s' acc' c' hm hS2 hacc => ?_
    rw [Moved.eq_with hm]
    refine hR s'.heap d' s'.toks acc' c' (fun b u hb e => hm.heap b u (fun m => ?_) (k' b u hb e)) hS2 ?_
    · rcases List.mem_cons.mp m with e' | e'
      · exact hb e'
      · exact absurd (Heap.lt_size e) (by rw [List.mem_singleton.mp e']; exact Nat.not_lt.mpr lJ)
    · have el : acc'.toList = vs := by
        have vl : vs.length = es.size := by rw [pv.length_eq, List.length_map, Array.length_toList]
        refine List.ext_getElem (by rw [Array.length_toList, hacc.1, vl]) fun i p q => ?_
        have hi : i < acc'.size := by simpa using p
        have z : vs[i]? = some acc'[i] := hacc.2 i acc'[i] (by simp [hi])
        rw [List.getElem?_eq_getElem q] at z
        rw [Array.getElem_toList]
        exact (Option.some.inj z).symm
      rw [el]; exact pv
  have gS : g.get? S = some { cls := .type "list", data := .seq #[] c₀ } := keep S _ hS
  have hT2 : Shared.TypeIs { s with heap := g, drawn := d' } (.ref a) "set" := ⟨o, keep a _ h1, h2⟩
  refine wpAny_bind (wpAny_holding (hint_set hT2 ?_))
  refine wpAny_ite_split (fun _ => ?_) fun _ => wpAny_pure ⟨plainId_quiet PySem.F.plain_extend_loop _, fin g c₀ _ st (fun b u _ e => keep b u e) gS⟩
  refine wpAny_bind (wpAny_rule (wpAny_bind ?_))
  refine (show wpAny _ _ (updateSeq S (·.push .none) >>= fun _ => updateSeq S (·.pop)) _ _ _ from wpAny_bind (wpAny_updateSeq gS rfl ?_))
  have g2 := Heap.get?_update_self (Obj.mapSeq (·.push Value.none)) gS rfl
  refine wpAny_updateSeq (hz := by seq_fits) g2 rfl ?_
  have g3 := Heap.get?_update_self (Obj.mapSeq (·.pop)) g2 rfl
  have oth : ∀ b u, b ≠ S → g.get? b = some u → ((g.update S (Obj.mapSeq (·.push Value.none))).update S (Obj.mapSeq (·.pop))).get? b = some u := fun b u hb e => by
    rw [Heap.get?_update_other _ _ (Ne.symm hb), Heap.get?_update_other _ _ (Ne.symm hb)]; exact e
  exact wpAny_pure ⟨plainId_quiet PySem.F.plain_extend_loop _, fin _ _ _ (W.frame 0 _ _ st fun b hb u e => oth b u (fun x => hSf (x ▸ hb)) e) (fun b u hb e => oth b u hb (keep b u e)) g3⟩
theorem collect_set {R : List Value → Shared → Prop} (h1 : s.heap.get? a = some o) (h2 : o.cls = .type "set") (h3 : o.data = .set es ep t) (hf : t.fits es.size = true) (hl : t.led = !byT w) (hp : 0 < es.size → t.plain = false) (hz : es.size < 4096) (hh : A.handled = none)
    (k : ∀ (h' : Heap) (d' : Drawn) (tk : Nat) (acc : Array Value), (∀ b u, s.heap.get? b = some u → h'.get? b = some u) → s.heap.objs.size ≤ h'.objs.size → acc.toList.Perm (es.toList.map (·.2)) → R acc.toList { s with heap := h', drawn := d', toks := tk }) :
    wpAny (model prog w) A (collect (.ref a)) R E s := by
  let G : Result → Shared → Prop := fun q s' => ∃ (g : Heap) (d' : Drawn) (tk : Nat) (acc : Array Value) (c : Nat), q = .ok (.ret (.ref s.heap.objs.size)) ∧ s' = { s with heap := g, drawn := d', toks := tk } ∧ (∀ b u, s.heap.get? b = some u → g.get? b = some u) ∧ g.get? s.heap.objs.size = some { cls := .type "list", dict := none, data := .seq acc c, slots := #[] } ∧ acc.toList.Perm (es.toList.map (·.2))
  have la := Heap.lt_size h1
  unfold collect
  refine wpAny_bind (wpAny_runValue (codeAny_builtin entry_proto_collect' ?_))
  rw [Around.under_plainId PySem.F.plain_proto_collect _]
  refine (show wpAny _ A.in1 (newList [] >>= fun l => again (.builtin "list.__iadd__" ⟨[l, .ref a], []⟩)) _ _ s from wpAny_bind (wpAny_newObj_type (wpAny_pure ⟨plainId_quiet PySem.F.plain_list_iadd _, codeAny_builtin entry_list_iadd' ?_⟩)))
  rw [Around.under_plainId PySem.F.plain_list_iadd _]
  refine (show wpAny _ A.in1 (Builtin.List.listExtendWith (.ref s.heap.objs.size) (.ref a) (.ref s.heap.objs.size)) _ _ _ from wpAny_mono (set_extend (A := A) (R := G) (s := { s with heap := s.heap.push { cls := .type "list", data := .seq ([] : List Value).toArray } }) (Heap.get?_push_of_some _ h1) h2 h3 hf hl hp hz hh s.heap.objs.size (Nat.ne_of_gt la) (.ref s.heap.objs.size) 0 (Heap.get?_push_size _ rfl)
    (fun g d' tk acc c hk hS ha => ⟨g, d', tk, acc, c, rfl, rfl, fun b u e => hk b u (Nat.ne_of_lt (Heap.lt_size e)) (Heap.get?_push_of_some _ e), hS, ha⟩)) (fun f s' x => ?_) fun e s' ⟨_, _, _, _, _, z, _⟩ => nomatch z)
  have last : ∀ (g : Heap) (d' : Drawn) (tk : Nat) (acc : Array Value) (c : Nat), (∀ b u, s.heap.get? b = some u → g.get? b = some u) → g.get? s.heap.objs.size = some { cls := .type "list", dict := none, data := .seq acc c, slots := #[] } → acc.toList.Perm (es.toList.map (·.2)) →
      wpAny (model prog w) A (load s.heap.objs.size >>= fun o => match o.data with | .seq xs _ => pure xs.toList | _ => unsupported "internal:collect") R E { s with heap := g, drawn := d', toks := tk } :=
    fun g d' tk acc c hk hS ha => wpAny_bind (wpAny_load hS (wpAny_pure (k g d' tk acc hk (Nat.le_of_lt (Heap.lt_size hS)) ha)))
  cases f with
  | done f =>
    obtain ⟨g, d', tk, acc, c, e, rfl, hk, hS, ha⟩ := x
    cases e
    exact last g d' tk acc c hk hS ha
  | again c₁ =>
    refine ⟨x.1, codeAny_mono x.2 fun q s₂ y => ?_⟩
    obtain ⟨g, d', tk, acc, c, rfl, rfl, hk, hS, ha⟩ := y
    exact last g d' tk acc c hk hS ha
end
end L2
namespace L2
open PySem PySem.Spec PyProof.Rows
/-- the keys of texts -/
abbrev tk (ts : List Str) : List Key := ts.map Sum.inr
section
variable {prog : Program} {w : World} {A : Around} {R : Result → Shared → Prop} {I : Addr} {fp wr : List Addr} {G : Array GenState → Array GenState → Prop} {n : Nat} {P : Nat → Value → Prop} {St : Nat → Shared → Prop} {led : Bool}
theorem set_loopF (W : WalksS prog w A.in1 I fp wr G n P St) (S : Addr) (hSf : S ∉ fp) (ts : List Str) (hn : ts.length = n) (hval : ∀ i v, P i v → ∃ x t, ts[i]? = some x ∧ v = .str x t) (hb : ∀ ds : List Key, ds.Nodup → (∀ j ∈ ds, j ∈ tk ts) → ds.length ≤ 4000) :
    ∀ (k i : Nat) (s : Shared), n - i = k → i ≤ n → St i s → SetFl prog w s.heap S (hasK (dd (tk (ts.take i)))) (dd (tk (ts.take i))).length led →
      (∀ s', Moved (S :: wr) G s s' → SetFl prog w s'.heap S (hasK (dd (tk ts))) (dd (tk ts)).length led → R (.ok (.ret .none)) s') →
      codeAny (model prog w) A (.builtin "set.update.loop" ⟨[.ref S, .ref I], []⟩) R s := by
  have hSw : S ∉ wr := fun h => hSf (W.sub _ h)
  have hsub : ∀ b ∈ wr, b ∈ S :: wr := fun b hb => List.mem_cons_of_mem _ hb
  intro k
  induction k with
  | zero =>
    intro i s hk hi hst hS hR
    obtain rfl : i = n := by omega
    refine codeAny_builtin F.entry_set_update_loop ?_
    rw [Around.under_plainId F.plain_set_update_loop _]
    refine (show wpAny _ A.in1 (pyNext (.ref I) >>= _) _ _ s from wpAny_bind (W.done s _ _ hst fun s' hm => ?_))
    rw [← hn, List.take_length] at hS
    refine (show wpAny _ A.in1 (ret Value.none) _ _ s' from wpAny_pure (hR s' (hm.mono hsub) (hS.keep fun o e => hm.heap S _ hSw e)))
  | succ k ih =>
    intro i s hk hi hst hS hR
    have hlt : i < n := by omega
    refine codeAny_builtin F.entry_set_update_loop ?_
    rw [Around.under_plainId F.plain_set_update_loop _]
    refine (show wpAny _ A.in1 (pyNext (.ref I) >>= _) _ _ s from wpAny_bind (W.item i s _ _ hlt hst fun v s' hP hst' hm => ?_))
    obtain ⟨x, t, hx, rfl⟩ := hval i v hP
    have his : keyIs (Sum.inr x) (.str x t) = true := keyIs_str x t
    have hS' := hS.keep (h' := s'.heap) fun o e => hm.heap S _ hSw e
    refine (show wpAny _ A.in1 (holding [Value.str x t] (setAdd S (.str x t)) >>= _) _ _ s' from wpAny_bind (wpAny_holding ?_))
    unfold setAdd
    refine wpAny_holding (wpAny_bind ((mixKind prog w).pyHash (k := Sum.inr x) his ?_))
    have hroom : (dd (tk (ts.take i))).length + 1 < scanBound := by
      have := hb (dd (tk (ts.take i))) (dd_nd _) fun j hj => by
        obtain ⟨x, m, e⟩ := List.mem_map.mp ((dd_mem _ _).mp hj)
        exact List.mem_map.mpr ⟨x, List.mem_of_mem_take m, e⟩
      unfold scanBound
      omega
    refine set_addF (s := { s' with toks := s'.toks + 1 }) his rfl rfl hS' hroom fun h' hsb hS2 => ?_
    have hSi : SetFl prog w h' S (hasK (dd (tk (ts.take (i + 1))))) (dd (tk (ts.take (i + 1)))).length led := by
      have e : tk (ts.take (i + 1)) = tk (ts.take i) ++ [Sum.inr x] := by rw [List.take_succ, hx]; simp [tk]
      rw [e, dd_snoc]
      have e1 : (fun j => hasK (dd (tk (ts.take i))) j || decide (j = Sum.inr x)) = hasK (ddS (dd (tk (ts.take i))) (Sum.inr x)) := funext fun j => by
        rw [Bool.eq_iff_iff, Bool.or_eq_true, decide_eq_true_eq, hasK_iff, hasK_iff]
        exact ddS_mem.symm
      have e2 : (if hasK (dd (tk (ts.take i))) (Sum.inr x) = true then (dd (tk (ts.take i))).length else (dd (tk (ts.take i))).length + 1) = (ddS (dd (tk (ts.take i))) (Sum.inr x)).length := by
        unfold ddS
        by_cases c : hasK (dd (tk (ts.take i))) (Sum.inr x) = true
        · rw [if_pos c, if_pos c]
        · rw [if_neg c, if_neg c, List.length_append, List.length_singleton]
      rw [← e1, ← e2]
      exact hS2
    refine wpAny_pure ⟨plainId_quiet F.plain_set_update_loop _, ih (i + 1) _ (by omega) hlt (W.frame _ s' _ _ hst' (Nat.le_succ _) fun b hb o e => ?_) hSi fun s'' hm'' hS'' => ?_⟩
    · rw [hsb.2 b (fun h : b = S => hSf (by rw [← h]; exact hb))]; exact e
    · refine hR s'' (Moved.trans W.gtrans ((hm.mono hsub).then_heap (Nat.le_succ _) fun b o hb e => ?_) hm'') hS''
      rw [hsb.2 b (fun h : b = S => hb (by rw [h]; exact List.mem_cons_self))]; exact e
end
section
variable {prog : Program} {w : World} {A : Around} {E : Value → Shared → Prop} {s : Shared}
theorem new_set1 (v : Value) {R : Value → Shared → Prop} (h : R (.ref s.heap.objs.size) { s with heap := s.heap.push (newSet0 (!byT w)) }) :
    codeAny (model prog w) A (.call (.builtin "set.__new__") ⟨[.type "set", v], []⟩) (wants R E) s := by
  refine codeAny_of_tree (show wpAny _ A.in1 (checkBuiltinCall "set.__new__" ⟨[.type "set", v], []⟩ >>= fun _ => again (.builtin "set.__new__" ⟨[.type "set", v], []⟩)) _ _ s from wpAny_bind (wpAny_of_eq (F.newCall_set_1 v) (wpAny_pure ⟨plainId_quiet F.plain_set_new _, codeAny_builtin F.entry_set_new ?_⟩)))
  rw [Around.under_plainId F.plain_set_new _]
  have z := sub_set_self
  obtain ⟨x1, x2, x3, x4, x5⟩ := s
  unfold Builtin.«set.__new__» Builtin.Frozenset.newClass
  dsimp only
  wp_walk
  refine wpAny_askSetting (wpAny_pure ?_)
  unfold newObj
  exact wpAny_bind (wpAny_alloc (wpAny_pure (wpAny_pure h)))
/-- set(l), l a list of texts -/
theorem call_setX0 {l : Addr} {items : Array Value} {ts : List Str} {Q : Value → Shared → Prop} (hh : A.handled = none) (hl : s.heap.IsList l items) (hk : ts.length = items.size) (hi : ∀ (i : Nat) (v : Value), items[i]? = some v → ∃ x t, ts[i]? = some x ∧ v = .str x t) (hb : ∀ ds : List Key, ds.Nodup → (∀ j ∈ ds, j ∈ tk ts) → ds.length ≤ 4000)
    (q : ∀ (h' : Heap) (tk' : Nat), SetFl prog w h' s.heap.objs.size (hasK (dd (tk ts))) (dd (tk ts)).length (!byT w) → (∀ b o, s.heap.get? b = some o → h'.get? b = some o) → Q (.ref s.heap.objs.size) { s with heap := h', toks := tk' }) :
    wpAny (model prog w) A (call (.type "set") [.ref l]) Q E s := by
  have lS : l < s.heap.objs.size := by obtain ⟨o, e, _⟩ := hl; exact Heap.lt_size e
  refine call_by_two (Q₁ := fun obj t => obj = .ref s.heap.objs.size ∧ t = { s with heap := s.heap.push (newSet0 (!byT w)) }) F.called_set (F.typeCall_set_1 _) (new_set1 _ ⟨rfl, rfl⟩) ?_
  rintro _ _ ⟨rfl, rfl⟩
  have gS : (s.heap.push (newSet0 (!byT w))).get? s.heap.objs.size = some (newSet0 (!byT w)) := Heap.get?_push_size _ rfl
  have tS : Shared.TypeIs { s with heap := s.heap.push (newSet0 (!byT w)) } (.ref s.heap.objs.size) "set" := ⟨_, gS, rfl⟩
  have tl : (s.heap.push (newSet0 (!byT w))).IsList l items := hl.at fun o e => Heap.get?_push_of_some _ e
  refine ⟨tS, codeAny_call_builtin F.called_set.init.plain F.entry_set_init (check_set_init_1 tS ?_)⟩
  obtain ⟨⟨oc, od, oda, osl⟩, ho, hc, n0, hd⟩ := id tl
  dsimp only at hc hd
  subst hc hd
  have f1 := F.sub_list_set; have f2 := F.sub_list_frozenset
  have f3 : (Value.type "list" == Value.type "dict") = false := by decide
  have T1 : Heap.IsList (Shared.heap { s with heap := s.heap.push (newSet0 (!byT w)) }) l items := tl
  unfold Builtin.«set.__init__» noKeywords Builtin.Frozenset.updateFrom
  wp_walk using wpAny_pyIter_list T1
  have z1 : (s.heap.push (newSet0 (!byT w))).objs.size = s.heap.objs.size + 1 := Heap.size_push ..
  have hne : l ≠ (s.heap.push (newSet0 (!byT w))).objs.size := by rw [z1]; exact Nat.ne_of_lt (Nat.lt_succ_of_lt lS)
  have hSf : s.heap.objs.size ∉ [(s.heap.push (newSet0 (!byT w))).objs.size, l] := by
    rw [z1]
    simp only [List.mem_cons, List.not_mem_nil, or_false, not_or]
    exact ⟨Nat.ne_of_lt (Nat.lt_succ_self _), Nat.ne_of_gt lS⟩
  have gS2 : ((s.heap.push (newSet0 (!byT w))).push { cls := .type "list_iterator", data := .fields #[.ref l, .int 0 0] }).get? s.heap.objs.size = some (newSet0 (!byT w)) := Heap.get?_push_of_some _ gS
  refine set_loopF (led := !byT w) (A := A.in1.in1) ((Walks.list (show A.in1.in1.in1.handled = none from hh) _ l hne items).toS) s.heap.objs.size hSf ts hk hi hb (items.size - 0) 0 _ rfl (Nat.zero_le _) ⟨⟨_, Heap.get?_push_size _ rfl, rfl, rfl⟩, tl.at fun o e => Heap.get?_push_of_some _ e⟩
    ⟨_, _, _, _, ⟨gS2, ⟨rfl, rfl, rfl⟩, rfl⟩, ⟨fun e he => absurd he (by simp), fun k => ⟨fun z => absurd z (by simp [dd, hasK, tk]), fun ⟨e, he, _⟩ => absurd he (by simp)⟩⟩, ⟨by decide, rfl, rfl⟩, rfl, fun z => absurd z (by simp [dd, tk])⟩ fun s' hm hS' => ?_
  obtain ⟨h', g', d', tk', os'⟩ := s'
  obtain rfl : g' = s.gens := hm.gens
  obtain rfl : d' = s.drawn := hm.drawn
  obtain rfl : os' = s.os := hm.os
  refine wpAny_pure (wpAny_pure ⟨rfl, q h' tk' hS' fun b o e => hm.heap b o ?_ (Heap.get?_push_of_some _ (Heap.get?_push_of_some _ e))⟩)
  have bl := Heap.lt_size e
  rw [z1]
  simp only [List.mem_cons, List.not_mem_nil, or_false, not_or]
  exact ⟨Nat.ne_of_lt bl, Nat.ne_of_lt (Nat.lt_succ_of_lt bl)⟩
end
/-- a set of texts at a -/
def setTx (P : Program) (w : World) (a : Addr) (ts : List Str) : HO := .ext fun h => SetFl P w h a (hasK (dd (tk ts))) (dd (tk ts)).length (!byT w)
theorem vals_txt : ∀ {ts : List Str} {us : List Value}, Vals (ts.map V.str) us → ∀ (i : Nat) (v : Value), us[i]? = some v → ∃ x t, ts[i]? = some x ∧ v = .str x t
  | [], _, h, i, v, e => by cases h; simp at e
  | x :: r, _, h, i, v, e => by
    rw [List.map_cons] at h
    cases h with
    | cons h1 h2 =>
      cases i with
      | zero =>
        simp only [List.getElem?_cons_zero, Option.some.injEq] at e
        subst e
        obtain ⟨t, rfl⟩ := h1
        exact ⟨x, t, rfl, rfl⟩
      | succ i => exact vals_txt h2 i v (by simpa using e)
theorem call_setX {X : Cx} (P : Program) (w : World) {k : Nat} (hr : Room k X.A) (hP : X.prog = P := by rfl) (hw : X.w = w := by rfl) : CallR X (.type "set") (fun xs H Q => ∃ (p : Addr) (ts : List Str), xs = [.ref p] ∧ SqL X.K H p (ts.map V.str) ∧ (∀ ds : List Key, ds.Nodup → (∀ j ∈ ds, j ∈ tk ts) → ds.length ≤ 4000) ∧ ∀ a, H a = none → Q (.ref a) (upd H a (setTx P w a ts))) := by
  subst hP hw
  intro pins s σ H xs us Q I r h
  obtain ⟨p, ts, rfl, hp, hl, q⟩ := h
  obtain ⟨u, rfl, ru⟩ := vals1 r
  cases ru
  obtain ⟨its, rv, pl, _⟩ := I.list hp
  have ln := rv.length
  rw [List.length_map] at ln
  refine call_setX0 (items := its.toArray) (ts := ts) hr.hd pl.isList (by rw [List.size_toArray]; exact ln) (fun i v e => vals_txt rv i v (by simpa using e)) hl fun h' tk hS kp => ?_
  refine ⟨.ref s.heap.objs.size, _, I.laid (t' := tk) (o := setTx X.prog X.w s.heap.objs.size ts) kp (Nat.le_refl _) ?_, rfl, q _ (I.hok.fresh (Nat.le_refl _))⟩
  refine ⟨hS, ?_, fun h1 h2 F k2 => F.keep k2⟩
  obtain ⟨o, _, _, _, ⟨ho, _⟩, _⟩ := hS
  exact ⟨o, ho⟩
end L2
namespace L2
open PySem PySem.Spec PyProof.Rows
/-! ### texts in their order -/
def leS (a b : Str) : Prop := a.cps.toList ≤ b.cps.toList
theorem leS_of {a b : Str} (h : ltCps b.cps.toList a.cps.toList = false) : leS a b := by
  rw [ltCps_eq] at h
  exact List.not_lt.mp (of_decide_eq_false h)
theorem leS_trans {a b c : Str} (h : leS a b) (k : leS b c) : leS a c := List.le_trans h k
theorem leS_antisymm {a b : Str} (h : leS a b) (k : leS b a) : a = b := by
  have e : a.cps.toList = b.cps.toList := List.le_antisymm h k
  cases a
  cases b
  exact congrArg Str.mk (Array.toList_inj.mp e)
theorem rising_pw : ∀ (p : Str) (l : List Str), risingS p l = true → (p :: l).Pairwise leS
  | p, [], _ => by simp
  | p, x :: r, h => by
    have h : (!ltCps x.cps.toList p.cps.toList && risingS x r) = true := h
    rw [Bool.and_eq_true] at h
    have ih := rising_pw x r h.2
    have px : leS p x := leS_of (by simpa using h.1)
    refine List.pairwise_cons.mpr ⟨fun y hy => ?_, ih⟩
    rcases List.mem_cons.mp hy with e | e
    · rw [e]; exact px
    · exact leS_trans px ((List.pairwise_cons.mp ih).1 y e)
theorem sorted_pw {l : List Str} (h : sortedS l = true) : l.Pairwise leS := by
  cases l with
  | nil => exact List.Pairwise.nil
  | cons p r => exact rising_pw p r h
theorem perm_of_len {α : Type} [DecidableEq α] : ∀ {l m : List α}, l.Nodup → (∀ x ∈ l, x ∈ m) → m.length = l.length → l.Perm m
  | [], m, _, _, hl => by
    have : m = [] := List.length_eq_zero_iff.mp hl
    rw [this]
  | x :: r, m, nd, hs, hl => by
    have hx := hs x List.mem_cons_self
    have nd := List.nodup_cons.mp nd
    refine (List.Perm.cons x (perm_of_len (m := m.erase x) nd.2 (fun y hy => ?_) ?_)).trans (List.perm_cons_erase hx).symm
    · refine (List.mem_erase_of_ne fun e => nd.1 (by rw [← e]; exact hy)).mpr (hs y (List.mem_cons_of_mem _ hy))
    · rw [List.length_erase_of_mem hx, hl]
      simp
/-- two orders of the same texts, each rising -/
theorem sorted_same {l m : List Str} (nl : l.Nodup) (nm : m.Nodup) (h : ∀ x, x ∈ l ↔ x ∈ m) (sl : sortedS l = true) (sm : sortedS m = true) : l = m :=
  List.Perm.eq_of_pairwise (le := leS) (fun _ _ _ _ x y => leS_antisymm x y) (sorted_pw sl) (sorted_pw sm) ((List.perm_ext_iff_of_nodup nl nm).mpr fun x => h x)
/-- the texts of a set -/
theorem set_texts {prog : Program} {w : World} {es : List (Int × Value)} {ts : List Str} (h4 : ElemsOf (mixKind prog w) es) (h5 : ∀ j, hasK (dd (tk ts)) j = true ↔ ∃ e ∈ es, (mixKind prog w).is j e.2 = true) (hn : es.length = (dd (tk ts)).length) :
    StrsAre (es.map (·.2)) ((es.map (·.2)).map strOf) ∧ ((es.map (·.2)).map strOf).Nodup ∧ ∀ x, x ∈ (es.map (·.2)).map strOf ↔ x ∈ ts := by
  have inr : ∀ j, j ∈ dd (tk ts) → ∃ x, x ∈ ts ∧ j = Sum.inr x := fun j hj => by
    obtain ⟨x, m, e⟩ := List.mem_map.mp ((dd_mem _ _).mp hj)
    exact ⟨x, m, e.symm⟩
  have each : ∀ e ∈ es, ∃ x t, x ∈ ts ∧ e.2 = .str x t := fun e he => by
    obtain ⟨⟨j, hj, _⟩, _⟩ := h4 e he
    obtain ⟨x, m, rfl⟩ := inr j (hasK_iff.mp ((h5 j).mpr ⟨e, he, hj⟩))
    rcases keyIs_shape (show keyIs (Sum.inr x) e.2 = true from hj) with ⟨i, t, z, _⟩ | ⟨y, t, z, q⟩
    · cases z
    · cases z; exact ⟨x, t, m, q⟩
  have A : StrsAre (es.map (·.2)) ((es.map (·.2)).map strOf) := strsAre_map _ fun v hv => by
    obtain ⟨e, he, rfl⟩ := List.mem_map.mp hv
    obtain ⟨x, t, _, q⟩ := each e he
    exact ⟨x, t, q⟩
  have cover : ∀ j ∈ dd (tk ts), j ∈ ((es.map (·.2)).map strOf).map (Sum.inr : Str → Key) := fun j hj => by
    obtain ⟨e, he, hk⟩ := (h5 j).mp (hasK_iff.mpr hj)
    obtain ⟨x, m, rfl⟩ := inr j hj
    rcases keyIs_shape (show keyIs (Sum.inr x) e.2 = true from hk) with ⟨i, t, z, _⟩ | ⟨y, t, z, q⟩
    · cases z
    · cases z
      refine List.mem_map.mpr ⟨x, List.mem_map.mpr ⟨e.2, List.mem_map.mpr ⟨e, he, rfl⟩, ?_⟩, rfl⟩
      rw [q]; rfl
  have pm := perm_of_len (dd_nd (tk ts)) cover (by rw [List.length_map, List.length_map, List.length_map]; exact hn)
  have nd := pm.nodup (dd_nd (tk ts))
  refine ⟨A, ?_, fun x => ?_⟩
  · rw [List.nodup_iff_pairwise_ne, List.pairwise_map] at nd
    rw [List.nodup_iff_pairwise_ne]
    exact nd.imp fun z q => z (by rw [q])
  · constructor
    · intro hx
      obtain ⟨v, hv, rfl⟩ := List.mem_map.mp hx
      obtain ⟨e, he, rfl⟩ := List.mem_map.mp hv
      obtain ⟨y, t, m, q⟩ := each e he
      rw [q]; exact m
    · intro hx
      have : (Sum.inr x : Key) ∈ ((es.map (·.2)).map strOf).map (Sum.inr : Str → Key) := cover _ ((dd_mem _ _).mpr (List.mem_map.mpr ⟨x, hx, rfl⟩))
      obtain ⟨y, hy, e⟩ := List.mem_map.mp this
      cases e; exact hy
theorem vals_of_strs : ∀ {vs : List Value} {ss : List Str}, StrsAre vs ss → Vals (ss.map V.str) vs
  | [], [], _ => .nil
  | v :: vs, x :: ss, h => by
    have e := h.all v List.mem_cons_self
    have q := h.strs
    rw [List.map_cons] at q
    obtain ⟨y, t, rfl⟩ := e
    injection q with q1 q2
    cases q1
    refine .cons ⟨t, rfl⟩ (vals_of_strs ?_)
    have := strsAre_map vs fun v hv => h.all v (List.mem_cons_of_mem _ hv)
    rw [q2] at this
    exact this
  | [], _ :: _, h => by have := h.strs; simp at this
  | _ :: _, [], h => by have := h.strs; simp at this
section
variable {X : Cx} {k : Nat}
/-- the texts that were collected, in a list of their own that is sorted -/
theorem sort_tail {pins : List (Addr × Obj)} {σ : St} {H : Hp} {s : Shared} {Q : VK} {h' : Heap} {d' : Drawn} {t : Nat} {vs : List Value} {ss : List Str} (I : Inv X pins σ H s) (hS : StrsAre vs ss) (h64 : vs.length < 64) (keep : ∀ b o, s.heap.get? b = some o → h'.get? b = some o) (le : s.heap.objs.size ≤ h'.objs.size)
    (q : ∀ ts' : List Str, ts'.Perm ss → sortedS ts' = true → ∀ l, H l = none → Q (.ref l) (upd H l (.lst (ts'.map V.str)))) :
    wpAny (model X.prog X.w) X.A.in1 (newList vs >>= fun l => holding [l] (call (.builtin "list.sort") [l] []) >>= fun _ => ret l) (fun fin s' => ∃ v, fin = .done (.ret v) ∧ EP X pins σ Q v s') X.xe { s with heap := h', drawn := d', toks := t } := by
  refine wpAny_bind (wpAny_newList ?_ (by rw [sizeLine_eq]; omega))
  have hoL : (h'.push (seqObj "list" vs.toArray 0)).get? h'.objs.size = some (seqObj "list" vs.toArray 0) := Heap.get?_push_size _ rfl
  refine wpAny_bind (wpAny_holding (wpAny_call_entry slot_list_sort ⟨_, hoL, rfl⟩ entry_list_sort (list_sort_treeK strKind_oneLt hoL hS.keysOf (fun v₁ v₂ rest e => keyKind_strs (by rw [← e]; exact hS)) h64 fun st' hp hs => ⟨_, rfl, ?_⟩) (args_list_sort _)))
  obtain ⟨ss', a1, a2, a3⟩ := sorted_out_str hS hp hs
  refine wpAny_pure ⟨_, rfl, ?_⟩
  obtain ⟨e, he⟩ := sortedHeap_at (h := h'.push (seqObj "list" vs.toArray 0)) (vs := vs) (out := (arrOf st').map (·.2)) hoL
  refine ⟨.ref h'.objs.size, _, (I.draw d').laid (t' := t) (o := .lst (ss'.map V.str)) (fun b o z => ?_) le ?_, rfl, q ss' a2 a3 _ (I.hok.fresh le)⟩
  · have z' := keep b o z
    have hlt := Heap.lt_size z'
    rw [sortedHeap_old (Nat.ne_of_lt hlt) (by rw [size_push']; exact Nat.lt_succ_of_lt hlt)]
    exact Heap.get?_push_of_some _ z'
  · refine ⟨?_, ((arrOf st').map (·.2)).toList, e, vals_of_strs a1, by rw [Array.toArray_toList]; exact he⟩
    rw [List.length_map, a2.length_eq, ← hS.strs, List.length_map]
    exact Nat.le_of_lt (small1000 (by omega))
/-- sorted(s), s a set of texts -/
theorem call_sortSet (P : Program) (w : World) (hr : Room k X.A) (hP : X.prog = P := by rfl) (hw : X.w = w := by rfl) : CallR X (.builtin "sorted") (fun xs H Q => ∃ (a : Addr) (ts : List Str), xs = [.ref a] ∧ H a = some (setTx P w a ts) ∧ (∀ ds : List Str, ds.Nodup → (∀ x, x ∈ ds ↔ x ∈ ts) → ds.length < 64) ∧
    ∀ ts' : List Str, ts'.Nodup → (∀ x, x ∈ ts' ↔ x ∈ ts) → sortedS ts' = true → ∀ l, H l = none → Q (.ref l) (upd H l (.lst (ts'.map V.str)))) := by
  subst hP hw
  intro pins s σ H xs us Q I r h
  obtain ⟨a, ts, rfl, ha, h64, q⟩ := h
  obtain ⟨u, rfl, ru⟩ := vals1 r
  cases ru
  obtain ⟨⟨o, es, ep, t, ⟨x1, x2, x3⟩, ⟨x4, x5⟩, ⟨x6, x7, x8⟩, x9, x10⟩, _, _⟩ := (show ObjOk X.prog X.w H s.heap a (setTx X.prog X.w a ts) from I.hok a _ ha)
  obtain ⟨A, nd, mm⟩ := set_texts x4 x5 (by rw [Array.length_toList]; exact x8)
  refine Calls.call_function_entry kind_sorted plain_sorted entry_sorted (args_sorted1 _) ?_
  unfold Builtin.«sorted»
  refine wpAny_bind (m := checkCount "sorted" 1 1 _) (wpAny_pure ?_)
  refine wpAny_bind (collect_set (A := X.A.in1) x1 x2.1 x3 x7 x9 (by rw [x8]; exact x10) x6 hr.hd fun h' d' tk acc keep le pm => ?_)
  have hS : StrsAre acc.toList (acc.toList.map strOf) := strsAre_map _ fun v hv => A.all v (pm.mem_iff.mp hv)
  have pS := pm.map strOf
  have ln : acc.toList.length = ((es.toList.map (·.2)).map strOf).length := by rw [← pS.length_eq, List.length_map]
  refine sort_tail I hS (by rw [ln]; exact h64 _ nd mm) keep le fun ts' p st l hl => q ts' ((p.trans pS).symm.nodup nd) (fun x => ((p.trans pS).mem_iff).trans (mm x)) st l hl
/-- sorted(d), d a dict with texts for its keys -/
theorem call_sortDS (hr : Room k X.A) : CallR X (.builtin "sorted") (fun xs H Q => ∃ (d : Addr) (kvs : List (Key × V)) (ts : List Str), xs = [.ref d] ∧ H d = some (.dK kvs) ∧ kvs.map (fun e => kV e.1) = ts.map V.str ∧ kvs.length < 64 ∧
    ∀ ts' : List Str, ts'.Perm ts → sortedS ts' = true → ∀ l, H l = none → Q (.ref l) (upd H l (.lst (ts'.map V.str)))) := by
  intro pins s σ H xs us Q I r h
  obtain ⟨d, kvs, ts, rfl, hd, hk, hz, q⟩ := h
  obtain ⟨u, rfl, ru⟩ := vals1 r
  cases ru
  obtain ⟨z, lo, vs, rel, o, es, ep, h1, h2, h3, h4, h5, h6⟩ := dk_of I.hok hd
  have hl : kvs.length = vs.length := Paired.length rel
  have sl : vs.length ≤ sizeLine := by rw [← hl]; exact z
  refine Calls.call_function_entry kind_sorted plain_sorted entry_sorted (args_sorted1 _) ?_
  unfold Builtin.«sorted»
  refine wpAny_bind (m := checkCount "sorted" 1 1 _) (wpAny_pure ?_)
  refine wpAny_bind (collect_src (A := X.A.in1) (PySem.W.kdl_dict (knd := mixKind X.prog X.w) (kvs := vs) (ep := ep) lo) hr.hd ⟨o, es, h1, h2, h3, h4, h5, h6⟩ sl fun h' tk acc hkeep le hacc => ?_)
  have al : acc.toList.length = vs.length := by rw [Array.length_toList]; exact hacc.1
  have hV : Vals (ts.map V.str) acc.toList := by
    refine vals_get (by rw [al, ← hk, List.length_map, hl]) fun j u e => ?_
    obtain ⟨k, x, e1, e2⟩ := hacc.2 j u (by rw [← Array.getElem?_toList]; exact e)
    have hj : j < kvs.length := by rw [hl]; exact (List.getElem?_eq_some_iff.mp e1).1
    obtain ⟨u', e3, _⟩ := kv_get (i := j) (k := kvs[j].1) (v := kvs[j].2) rel (by simp [hj])
    rw [e1] at e3
    cases e3
    refine ⟨kV kvs[j].1, ?_, key_rel e2⟩
    rw [← hk, List.getElem?_map, List.getElem?_eq_getElem hj]
    rfl
  have hS : StrsAre acc.toList ts := by
    have a1 := strsAre_map acc.toList fun v hv => by
      obtain ⟨i, hi, rfl⟩ := List.getElem_of_mem hv
      obtain ⟨x, t, _, q⟩ := vals_txt hV i _ (List.getElem?_eq_getElem hi)
      exact ⟨x, t, q⟩
    have a2 : acc.toList.map strOf = ts := by
      refine List.ext_getElem (by rw [List.length_map]; have := hV.length; rw [List.length_map] at this; exact this.symm) fun i p q' => ?_
      have hi : i < acc.toList.length := by simpa using p
      obtain ⟨x, t, e, q⟩ := vals_txt hV i _ (List.getElem?_eq_getElem hi)
      rw [List.getElem_map, q]
      rw [List.getElem?_eq_getElem q'] at e
      exact (Option.some.inj e).symm
    rw [a2] at a1
    exact a1
  have := sort_tail (d' := s.drawn) (t := tk) I hS (by rw [al, ← hl]; exact hz) hkeep le q
  exact this
end
end L2
namespace L2
open PySem PySem.Spec PyProof.Rows
/-! ### d.setdefault(k, x) -/
def tDSet (td ty tx : TE) : TE := fun σ H Q => td σ H fun x H1 => ∃ a, x = .ref a ∧ IsD H1 a ∧ ty σ H1 fun y H2 => tx σ H2 fun z H3 => ∃ kvs k, H3 a = some (.dK kvs) ∧ y = kV k ∧ kvs.length < sizeLine ∧
  (∀ v, valV kvs k = some v → Q v H3) ∧ (valV kvs k = none → Q z (upd H3 a (.dK (putK kvs k z))))
theorem d_setdef {X : Cx} {pins : List (Addr × Obj)} {σ : St} {H : Hp} {s : Shared} {a : Addr} {kvs : List (Key × V)} {k : Key} {x : V} {u r : Value} {A : Around} {E : Value → Shared → Prop} {Q : VK} (I : Inv X pins σ H s) (e : H a = some (.dK kvs)) (ry : RelV (kV k) u) (rx : RelV x r) (hz : kvs.length < sizeLine)
    (h1 : ∀ v, valV kvs k = some v → Q v H) (h2 : valV kvs k = none → Q x (upd H a (.dK (putK kvs k x)))) : wpAny (model X.prog X.w) A (call (.builtin "dict.setdefault") [.ref a, u, r]) (EP X pins σ Q) E s := by
  obtain ⟨z, hd, vs, rel, dd⟩ := dk_of I.hok e
  refine call_meetsIn PySem.F.slot_dict_setdefault dd.typeIs PySem.F.entry_dict_setdefault (PySem.F.args_dict_setdefault_3 _ _ _) (kt_meets_setdefault (mixKind X.prog X.w) a (kV_is ry) hd r) ⟨vs, dd, by rw [← rel.length]; exact z, fun v' hv => ?_, fun hn h' dd' hs => ?_⟩
  · cases l : valV kvs k with
    | none =>
      have q : valueAt vs k = none := RelO.none_of (by rw [← l]; exact rel.val k)
      rw [q] at hv; cases hv
    | some v =>
      obtain ⟨w', hw, rw'⟩ := RelO.some_of (v := v) (o := valueAt vs k) (by rw [← l]; exact rel.val k)
      rw [hw] at hv
      cases hv
      exact ⟨v, H, I.tok _, rw', h1 v l⟩
  · cases l : valV kvs k with
    | some v =>
      obtain ⟨w', hw, rw'⟩ := RelO.some_of (v := v) (o := valueAt vs k) (by rw [← l]; exact rel.val k)
      rw [hn] at hw; cases hw
    | none =>
      have hl : (putK kvs k x).length ≤ sizeLine := by have := length_putK kvs k x; omega
      have he : ∃ q, h'.get? a = some q := let ⟨q, _, _, hq, _⟩ := dd'; ⟨q, hq⟩
      exact ⟨x, _, d_write I (by rw [e]; exact True.intro) hs he (dk_new hl hd (rel.put k rx) dd'), rx, h2 l⟩
theorem pe_dset {X : Cx} {o e f : Expr} {apos cpos : Pos} {td ty tx : TE} (ho : PE X o td) (he : PE X e ty) (hf : PE X f tx) (m : M2 X o "setdefault" apos e f cpos) : PE X (.Call (.Attribute o "setdefault" apos) [e, f] [] cpos) (tDSet td ty tx) := by
  intro pins s σ H Q I h
  refine wpAny_Call_method m.base m.few m.line PySem.F.plainAttrs_dict PySem.F.slot_dict_setdefault PySem.F.type_dict_setdefault (thn (ho pins s σ H _ I h) fun u s1 ⟨x, H1, I1, rx, a, ex, d, q1⟩ => ?_)
  subst ex
  obtain rfl : u = Value.ref a := rx
  obtain ⟨t1, t2, _⟩ := isD_at I1 d
  refine ⟨t1, t2, ?_⟩
  rw [m.trees]
  refine Calls.callWith_builtin rfl (Calls.evalArgs_plain (Calls.spliced_cons (thn (he pins s1 σ H1 _ I1 q1) fun iv s2 ⟨y, H2, I2, ry, q2⟩ => Calls.spliced_cons (thn (hf pins s2 σ H2 _ I2 q2) fun fv s3 ⟨z, H3, I3, rz, kvs, k, ea, ey, hz, q3, q4⟩ => Calls.spliced_nil ?_))))
  subst ey
  exact d_setdef I3 ea ry rz hz q3 q4
end L2
namespace PySem
namespace F
end F

end PySem
namespace PySem
section
variable {prog : Program} {w : World} {A : Around} {E : Value → Shared → Prop} {s : Shared}
def Heap.IsTRev (h : Heap) (a l : Addr) (i : Int) : Prop := ∃ o, h.get? a = some o ∧ o.cls = .type "reversed" ∧ o.data = .fields #[.ref l, rawInt i]
theorem Heap.IsTRev.typeIs {a l : Addr} {i : Int} (x : s.heap.IsTRev a l i) : s.TypeIs (.ref a) "reversed" := let ⟨o, ho, hc, _⟩ := x; ⟨o, ho, hc⟩
theorem Heap.IsTRev.at {h h' : Heap} {a l : Addr} {i : Int} (x : h.IsTRev a l i) (e : ∀ o, h.get? a = some o → h'.get? a = some o) : h'.IsTRev a l i := let ⟨o, ho, r⟩ := x; ⟨o, e _ ho, r⟩
end
section
variable {prog : Program} {w : World} {A : Around} {E : Value → Shared → Prop} {s : Shared}
end
end PySem
namespace L2
open PySem PySem.Spec PyProof.Rows
section
variable {prog : Program} {w : World} {A : Around} {E : Value → Shared → Prop} {Q : Value → Shared → Prop} {s : Shared} {it p : Addr} {items : Array Value}
end
end L2
namespace Mine
open PySem L2
def gI (a b : Int) : Int := (Nat.gcd a.toNat b.toNat : Nat)
def low1 (a b : Int) : Int := a / gI a b
def low2 (a b : Int) : Int := b / gI a b
/-! the shares and the tails of a steepness p/q -/
def shN (p q : Int) (n : Nat) : Int := (q - p) * p ^ n
def shD (p q : Int) (n : Nat) : Int := (q + p) * q ^ n
def tlN (p q : Int) (n : Nat) : Int := q * p ^ n
/-! ### steepnesses and the promises -/
structure Steep (p q : Int) : Prop where
  p1 : 1 ≤ p
  pq : p < q
  q9 : q ≤ 9
def TupAt (H : Hp) (p : Addr) (a b : Int) : Prop := H p = some (.tup [.int a, .int b])
/-- at least 0 and below 2^72 -/
def B72 (a : Int) : Prop := 0 ≤ a ∧ a < 2 ^ 180
theorem B72.below {a : Int} (h : B72 a) : Below a := ⟨by have := h.1; omega, by have := h.2; omega⟩
theorem TupAt.same {H H' : Hp} {p : Addr} {a b : Int} (h : TupAt H p a b) (s : Same H H') : TupAt H' p a b := s _ _ h
theorem tup_out {H H' : Hp} {d l p : Addr} {xs : List V} (D : Deal H d l) (o : Out d l H H') (h : H p = some (.tup xs)) : H' p = some (.tup xs) := by
  obtain ⟨sd, n, ls, D⟩ := D
  exact o _ _ h (ne_of h D.dc (by intro z; cases z)) (ne_of h D.lc (by intro z; cases z))
def spLaw (K : PySem.W.Frag) : Sp := fun vs H Q _ => ∃ (a : Addr) (ns : List Int), vs = [.ref a] ∧ SqL K H a (ns.map V.int) ∧ ns.length ≤ 63 ∧ ∀ H', Q (.bl true) H'

/-! ### two lists, item by item -/
def cutI (n lo hi : Int) : Int := if hi < (if lo > n then lo else n) then hi else (if lo > n then lo else n)
def Two {α : Type} (R : V → α → Prop) : List V → List α → Prop
  | [], [] => True
  | v :: vs, a :: as => R v a ∧ Two R vs as
  | _, _ => False
theorem Two.mono {α : Type} {R R' : V → α → Prop} (h : ∀ v a, R v a → R' v a) : ∀ {vs : List V} {as : List α}, Two R vs as → Two R' vs as
  | [], [], _ => trivial
  | _ :: _, _ :: _, ⟨e, r⟩ => ⟨h _ _ e, Two.mono h r⟩
  | [], _ :: _, z => z.elim
  | _ :: _, [], z => z.elim
theorem Two.append {α : Type} {R : V → α → Prop} : ∀ {vs ws : List V} {as bs : List α}, Two R vs as → Two R ws bs → Two R (vs ++ ws) (as ++ bs)
  | [], _, [], _, _, r => r
  | _ :: _, _, _ :: _, _, ⟨e, r⟩, r2 => ⟨e, Two.append r r2⟩
  | [], _, _ :: _, _, z, _ => z.elim
  | _ :: _, _, [], _, z, _ => z.elim
theorem Two.length {α : Type} {R : V → α → Prop} : ∀ {vs : List V} {as : List α}, Two R vs as → vs.length = as.length
  | [], [], _ => rfl
  | _ :: _, _ :: _, ⟨_, r⟩ => by simp [Two.length r]
  | [], _ :: _, z => z.elim
  | _ :: _, [], z => z.elim
def TS (H H' : Hp) : Prop := ∀ a xs, H a = some (.tup xs) → H' a = some (.tup xs)
theorem TS.of {H H' : Hp} (s : Same H H') : TS H H' := fun _ _ e => s _ _ e
theorem TS.trans {H H1 H2 : Hp} (a : TS H H1) (b : TS H1 H2) : TS H H2 := fun c o h => b c o (a c o h)
theorem TS.lst {H : Hp} {l : Addr} {xs ys : List V} (h : H l = some (.lst xs)) : TS H (upd H l (.lst ys)) := fun a o e => by
  rw [upd_ne (ne_of e h (by intro z; cases z))]; exact e
theorem TS.out {H H' : Hp} {d l : Addr} (D : Deal H d l) (o : Out d l H H') : TS H H' := fun p xs h => tup_out D o h
theorem same_lst {H H1 : Hp} {l : Addr} {ys : List V} (s : Same H H1) (h : H l = none) : Same H (upd H1 l (.lst ys)) := fun b o e => by
  rw [upd_ne (ne_of_none e h)]; exact s b o e
theorem take_snoc {α : Type} {l : List α} {i : Nat} {x : α} (h : l[i]? = some x) : l.take (i + 1) = l.take i ++ [x] := by
  rw [List.take_succ, h]
  rfl
/-! ### tables: rung, top, bottom -/
def Ent (H : Hp) (v : V) (e : Int × Int × Int) : Prop := ∃ p q, v = .ref p ∧ H p = some (.tup [.int e.1, .ref q]) ∧ TupAt H q e.2.1 e.2.2
theorem Ent.ts {H H' : Hp} {v : V} {e : Int × Int × Int} (t : TS H H') (h : Ent H v e) : Ent H' v e := let ⟨p, q, a, b, c⟩ := h; ⟨p, q, a, t _ _ b, t _ _ c⟩
theorem tab_ts {H H' : Hp} {vs : List V} {es : List (Int × Int × Int)} (t : TS H H') (h : Two (Ent H) vs es) : Two (Ent H') vs es := h.mono fun _ _ z => z.ts t
structure Small (e : Int × Int × Int) : Prop where
  a : Below e.1
  b : Below e.2.1
  c : Below e.2.2
/-! ### a ladder's table -/
def eN (p q lo hi n y : Int) : Int := if y = lo ∨ y = hi then tlN p q (y - n).natAbs else shN p q (y - n).natAbs
def eD (p q n y : Int) : Int := shD p q (y - n).natAbs
def ent (p q lo hi n y : Int) : Int × Int × Int := (y, low1 (eN p q lo hi n y) (eD p q n y), low2 (eN p q lo hi n y) (eD p q n y))
def tableI (p q lo hi n : Int) : List (Int × Int × Int) := if lo = hi then [(lo, 1, 1)] else (rangeI lo (hi + 1 - lo).toNat).map (ent p q lo hi n)
def dotI (xs ys : List Int) : Int := (List.zipWith (· * ·) xs ys).sum
/-! ### the promises -/
def IntsAt (H : Hp) (a : Addr) (ns : List Int) : Prop := H a = some (.tup (ns.map V.int))
def RowAt (H : Hp) (r : Addr) (x : Str) (w st : Addr) (lo hi : Int) : Prop := H r = some (.tup [.str "ladder", .str x, .ref w, .ref st, .int lo, .int hi])
structure Wts (ws cs : List Int) : Prop where
  len : ws.length = cs.length
  few : ws.length ≤ 3
  wt : ∀ x ∈ ws, 0 ≤ x ∧ x ≤ 3
structure Ends (lo hi : Int) : Prop where
  a : 0 ≤ lo
  b : lo ≤ hi
  c : hi ≤ 9
theorem str_at {z : Str} {r : Int} (h0 : 0 ≤ r) (h1 : r < (z.length : Int)) : ∃ c, atI z.cps.toList r = some c := by
  have hk : r.toNat < z.cps.toList.length := by
    rw [Array.length_toList]
    exact (Int.toNat_lt h0).mpr h1
  have e2 : ((r.toNat : Nat) : Int) = r := Int.toNat_of_nonneg h0
  have q : atI z.cps.toList ((r.toNat : Nat) : Int) = some z.cps.toList[r.toNat] := atI_nat (List.getElem?_eq_getElem hk)
  rw [e2] at q
  exact ⟨_, q⟩
theorem ones_sum : ∀ {zs : List Str}, (∀ z ∈ zs, z.length = 1) → (zs.map (·.length)).sum = zs.length
  | [], _ => rfl
  | z :: r, h => by
    have h1 := h z List.mem_cons_self
    have h2 := ones_sum fun y hy => h y (List.mem_cons_of_mem z hy)
    simp only [List.map_cons, List.sum_cons, List.length_cons, h1, h2]
    omega
theorem glued_fold (sep : Str) : ∀ (ys : List Str) (a : Array Nat), (ys.foldl (fun acc p => acc ++ sep.cps ++ p.cps) a).size = a.size + (ys.map (·.length)).sum + ys.length * sep.length
  | [], a => by simp
  | y :: r, a => by
    rw [List.foldl_cons, glued_fold sep r]
    simp only [Array.size_append, List.map_cons, List.sum_cons, List.length_cons, Nat.add_mul, Nat.one_mul]
    have e1 : sep.cps.size = sep.length := rfl
    have e2 : y.cps.size = y.length := rfl
    omega
theorem join_len (sep : Str) (ys : List Str) : (Txt.join sep ys).length ≤ (ys.map (·.length)).sum + ys.length * sep.length := by
  cases ys with
  | nil => exact Nat.zero_le _
  | cons y r =>
    show (List.foldl (fun acc p => acc ++ sep.cps ++ p.cps) y.cps r).size ≤ _
    rw [glued_fold]
    simp only [List.map_cons, List.sum_cons, List.length_cons, Nat.add_mul, Nat.one_mul]
    have e2 : y.cps.size = y.length := rfl
    omega
def taken : List Str := ["kinds", "ladder", "flat", "choose", "first", "let", "tell", "when", "else", "times", "end", "of"]
theorem flat_strs : ∀ xs : List Str, (xs.map V.str).all flatV = true
  | [] => rfl
  | _ :: r => flat_strs r
/-- a deal and a list of ours -/
structure DealL (H : Hp) (d l ls : Addr) (ts : List V) : Prop where
  deal : Deal H d l
  ne : ls ≠ l
  lst : H ls = some (.lst ts)
theorem DealL.new {H : Hp} {d l ls : Addr} (D : Deal H d l) (h : H ls = none) : DealL (upd H ls (.lst [])) d l ls [] := by
  obtain ⟨sd, n, l', q⟩ := id D
  exact ⟨D.same (same_new h _), (ne_of_none q.lc h).symm, upd_same⟩
theorem DealL.out {H H' : Hp} {d l ls : Addr} {ts : List V} (S : DealL H d l ls ts) (D : Deal H' d l) (o : Out d l H H') : DealL H' d l ls ts := by
  refine ⟨D, S.ne, ?_⟩
  obtain ⟨sd, n, l', q⟩ := S.deal
  exact o _ _ S.lst (ne_of S.lst q.dc (by intro z; cases z)) S.ne
theorem DealL.same {H H' : Hp} {d l ls : Addr} {ts : List V} (S : DealL H d l ls ts) (s : Same H H') : DealL H' d l ls ts := ⟨S.deal.same s, S.ne, s _ _ S.lst⟩
theorem DealL.app {H : Hp} {d l ls : Addr} {ts : List V} (S : DealL H d l ls ts) (us : List V) : DealL (upd H ls (.lst us)) d l ls us := by
  refine ⟨?_, S.ne, upd_same⟩
  obtain ⟨sd, n, l', q⟩ := S.deal
  exact ⟨sd, n, l', ⟨by rw [upd_ne (ne_of q.dc S.lst (by intro z; cases z))]; exact q.dc, by rw [upd_ne S.ne.symm]; exact q.lc, q.s0, q.s1, q.n0, q.l0⟩⟩
/-- what is asked: a row, a crowd, a number, a table -/
def AskAt (H : Hp) (t rw c du : Addr) (x : Str) (w st : Addr) (p q lo hi : Int) (ws cs : List Int) (dv : List V) : Prop :=
  H t = some (.tup [.ref rw, .ref c, .int (cutI (dotI ws cs) lo hi), .ref du]) ∧ RowAt H rw x w st lo hi ∧ IntsAt H w ws ∧ TupAt H st p q ∧ IntsAt H c cs ∧ H du = some (.tup dv) ∧
    Two (Ent H) dv (tableI p q lo hi (cutI (dotI ws cs) lo hi)) ∧ Steep p q ∧ Ends lo hi ∧ Wts ws cs
def Ask (H : Hp) (v : V) : Prop := ∃ t rw c du x w st p q lo hi ws cs dv, v = .ref t ∧ AskAt H t rw c du x w st p q lo hi ws cs dv
theorem Ask.ts {H H' : Hp} {v : V} (s : TS H H') (h : Ask H v) : Ask H' v := by
  obtain ⟨t, rw, c, du, x, w, st, p, q, lo, hi, ws, cs, dv, e, a1, a2, a3, a4, a5, a6, a7, a8⟩ := h
  exact ⟨t, rw, c, du, x, w, st, p, q, lo, hi, ws, cs, dv, e, s _ _ a1, s _ _ a2, s _ _ a3, s _ _ a4, s _ _ a5, s _ _ a6, tab_ts s a7, a8⟩
structure SomeA (H : Hp) (d l ls : Addr) (ts : List V) : Prop where
  b : DealL H d l ls ts
  asks : ∀ v ∈ ts, Ask H v
theorem SomeA.out {H H' : Hp} {d l ls : Addr} {ts : List V} (S : SomeA H d l ls ts) (D : Deal H' d l) (o : Out d l H H') : SomeA H' d l ls ts := ⟨S.b.out D o, fun v hv => (S.asks v hv).ts (TS.out S.b.deal o)⟩
theorem SomeA.same {H H' : Hp} {d l ls : Addr} {ts : List V} (S : SomeA H d l ls ts) (s : Same H H') : SomeA H' d l ls ts := ⟨S.b.same s, fun v hv => (S.asks v hv).ts (.of s)⟩
/-- the things of a question, without its own tuple -/
def Parts (H : Hp) (rw c du : Addr) (n : Int) : Prop := ∃ x w st p q lo hi ws cs dv, n = cutI (dotI ws cs) lo hi ∧ RowAt H rw x w st lo hi ∧ IntsAt H w ws ∧ TupAt H st p q ∧ IntsAt H c cs ∧ H du = some (.tup dv) ∧
    Two (Ent H) dv (tableI p q lo hi (cutI (dotI ws cs) lo hi)) ∧ Steep p q ∧ Ends lo hi ∧ Wts ws cs
theorem SomeA.app {H : Hp} {d l ls p rw c du : Addr} {n : Int} {ts : List V} (S : SomeA H d l ls ts) (hp : H p = none) (o : Parts H rw c du n) :
    SomeA (upd (upd H p (.tup [.ref rw, .ref c, .int n, .ref du])) ls (.lst (ts ++ [.ref p]))) d l ls (ts ++ [.ref p]) := by
  have S1 := S.same (same_new hp (.tup [.ref rw, .ref c, .int n, .ref du]))
  have hp1 : upd H p (.tup [.ref rw, .ref c, .int n, .ref du]) p = some (.tup [.ref rw, .ref c, .int n, .ref du]) := upd_same
  have s := same_new hp (.tup [.ref rw, .ref c, .int n, .ref du])
  generalize upd H p (.tup [.ref rw, .ref c, .int n, .ref du]) = H1 at S1 hp1 s ⊢
  have tl : TS H1 (upd H1 ls (.lst (ts ++ [.ref p]))) := TS.lst S1.b.lst
  refine ⟨S1.b.app _, fun v hv => ?_⟩
  rcases List.mem_append.mp hv with z | z
  · exact (S1.asks v z).ts tl
  · have e : v = .ref p := by simpa using z
    obtain ⟨x, w, st, p', q, lo, hi, ws, cs, dv, rfl, a2, a3, a4, a5, a6, a7, a8⟩ := o
    have ss := (TS.of s).trans tl
    exact ⟨p, rw, c, du, x, w, st, p', q, lo, hi, ws, cs, dv, e, tl _ _ hp1, ss _ _ a2, ss _ _ a3, ss _ _ a4, ss _ _ a5, ss _ _ a6, tab_ts ss a7, a8⟩
end Mine
namespace Mine
open PySem L2
/-! ### terms -/
inductive Tm where
  | num (p : Addr) (n : Int)
  | nam (p : Addr) (x : Str)
  | op (p : Addr) (s : Str) (a b : Tm)
def Tm.p : Tm → Addr
  | .num p _ => p
  | .nam p _ => p
  | .op p _ _ _ => p
def Tm.names : Tm → List Str
  | .num _ _ => []
  | .nam _ x => [x]
  | .op _ _ a b => a.names ++ b.names
def Tm.size : Tm → Nat
  | .op _ _ a b => 1 + a.size + b.size
  | _ => 1
def sgns : List Str := ["+", "-", "*", "<", "="]
def TmH (H : Hp) : Tm → Prop
  | .num p n => H p = some (.tup [.str "num", .int n])
  | .nam p x => H p = some (.tup [.str "name", .str x])
  | .op p s a b => H p = some (.tup [.str "op", .str s, .ref a.p, .ref b.p]) ∧ TmH H a ∧ TmH H b
theorem TmH.ts {H H' : Hp} (t : TS H H') : ∀ {a : Tm}, TmH H a → TmH H' a
  | .num _ _, h => t _ _ h
  | .nam _ _, h => t _ _ h
  | .op _ _ _ _, ⟨h, ha, hb⟩ => ⟨t _ _ h, TmH.ts t ha, TmH.ts t hb⟩
def Tm.w : Tm → Str
  | .num _ _ => "num"
  | .nam _ _ => "name"
  | .op _ _ _ _ => "op"
def Tm.rest : Tm → List V
  | .num _ n => [.int n]
  | .nam _ x => [.str x]
  | .op _ s a b => [.str s, .ref a.p, .ref b.p]
theorem TmH.at {H : Hp} : ∀ {t : Tm}, TmH H t → H t.p = some (.tup (.str t.w :: t.rest))
  | .num _ _, h => h
  | .nam _ _, h => h
  | .op _ _ _ _, h => h.1
theorem Tm.size_pos : ∀ t : Tm, 1 ≤ t.size
  | .num _ _ => Nat.le_refl _
  | .nam _ _ => Nat.le_refl _
  | .op _ _ _ _ => by unfold Tm.size; omega
/-- all parts, a sign ahead of its two -/
def Tm.pre : Tm → List Tm
  | .num p n => [.num p n]
  | .nam p x => [.nam p x]
  | .op p s a b => .op p s a b :: (a.pre ++ b.pre)
theorem Tm.pre_len : ∀ t : Tm, t.pre.length = t.size
  | .num _ _ => rfl
  | .nam _ _ => rfl
  | .op _ _ a b => by simp only [Tm.pre, Tm.size, List.length_cons, List.length_append, Tm.pre_len a, Tm.pre_len b]; omega
theorem TmH.pre {H : Hp} : ∀ {t : Tm}, TmH H t → ∀ u ∈ t.pre, TmH H u
  | .num _ _, h, u, hu => by rw [List.mem_singleton.mp hu]; exact h
  | .nam _ _, h, u, hu => by rw [List.mem_singleton.mp hu]; exact h
  | .op _ _ _ _, h, u, hu => by
    rcases List.mem_cons.mp hu with e | e
    · rw [e]; exact h
    · rcases List.mem_append.mp e with e | e
      · exact TmH.pre h.2.1 u e
      · exact TmH.pre h.2.2 u e
/-! ### rows -/
inductive Rw where
  | thr (p : Addr) (w x : Str) (vs : List V)
  | lt (p : Addr) (x : Str) (t : Tm)
  | tell (p : Addr) (t : Tm)
  | when (p pa pb : Addr) (t : Tm) (a b : List Rw)
  | times (p pb : Addr) (n : Int) (b : List Rw)
def Rw.p : Rw → Addr
  | .thr p _ _ _ => p
  | .lt p _ _ => p
  | .tell p _ => p
  | .when p _ _ _ _ _ => p
  | .times p _ _ _ => p
def thrW : List Str := ["ladder", "flat", "choose", "first"]
/-- what a throw's row holds -/
def ThrOk (_ : Hp) (w : Str) (_ : List V) : Prop := w ∈ thrW
theorem ThrOk.ts {H H' : Hp} (_ : TS H H') {w : Str} {vs : List V} (h : ThrOk H w vs) : ThrOk H' w vs := h
theorem ThrOk.w {H : Hp} {w : Str} {vs : List V} (h : ThrOk H w vs) : w ∈ thrW := h
mutual
def RwH (H : Hp) : Rw → Prop
  | .thr p w x vs => H p = some (.tup (.str w :: .str x :: vs)) ∧ ThrOk H w vs
  | .lt p x t => H p = some (.tup [.str "let", .str x, .ref t.p]) ∧ TmH H t
  | .tell p t => H p = some (.tup [.str "tell", .ref t.p]) ∧ TmH H t
  | .when p pa pb t a b => H p = some (.tup [.str "when", .ref t.p, .ref pa, .ref pb]) ∧ TmH H t ∧ H pa = some (.tup (a.map fun r => V.ref r.p)) ∧ H pb = some (.tup (b.map fun r => V.ref r.p)) ∧ RwsH H a ∧ RwsH H b
  | .times p pb n b => H p = some (.tup [.str "times", .int n, .ref pb]) ∧ H pb = some (.tup (b.map fun r => V.ref r.p)) ∧ RwsH H b
def RwsH (H : Hp) : List Rw → Prop
  | [] => True
  | r :: rs => RwH H r ∧ RwsH H rs
end
mutual
theorem RwH.ts {H H' : Hp} (t : TS H H') : ∀ (r : Rw), RwH H r → RwH H' r
  | .thr _ _ _ _, ⟨h, k⟩ => ⟨t _ _ h, k.ts t⟩
  | .lt _ _ _, ⟨h, h2⟩ => ⟨t _ _ h, h2.ts t⟩
  | .tell _ _, ⟨h, h2⟩ => ⟨t _ _ h, h2.ts t⟩
  | .when _ _ _ _ a b, ⟨h, h2, h4, h5, h6, h7⟩ => ⟨t _ _ h, h2.ts t, t _ _ h4, t _ _ h5, RwsH.ts t a h6, RwsH.ts t b h7⟩
  | .times _ _ _ b, ⟨h, h2, h3⟩ => ⟨t _ _ h, t _ _ h2, RwsH.ts t b h3⟩
theorem RwsH.ts {H H' : Hp} (t : TS H H') : ∀ (rs : List Rw), RwsH H rs → RwsH H' rs
  | [], _ => trivial
  | r :: rs, ⟨h, k⟩ => ⟨RwH.ts t r h, RwsH.ts t rs k⟩
end
theorem RwsH.app {H : Hp} : ∀ {rs qs : List Rw}, RwsH H rs → RwsH H qs → RwsH H (rs ++ qs)
  | [], _, _, h => h
  | _ :: _, _, ⟨h, k⟩, h2 => ⟨h, RwsH.app k h2⟩
theorem RwsH.mem {H : Hp} : ∀ {rs : List Rw}, RwsH H rs → ∀ r ∈ rs, RwH H r
  | [], _, _, h => absurd h List.not_mem_nil
  | r :: rs, ⟨h, k⟩, x, hx => by
    rcases List.mem_cons.mp hx with e | e
    · rw [e]; exact h
    · exact RwsH.mem k x e
def Rw.w : Rw → Str
  | .thr _ w _ _ => w
  | .lt _ _ _ => "let"
  | .tell _ _ => "tell"
  | .when _ _ _ _ _ _ => "when"
  | .times _ _ _ _ => "times"
def Rw.rest : Rw → List V
  | .thr _ _ x vs => .str x :: vs
  | .lt _ x t => [.str x, .ref t.p]
  | .tell _ t => [.ref t.p]
  | .when _ pa pb t _ _ => [.ref t.p, .ref pa, .ref pb]
  | .times _ pb n _ => [.int n, .ref pb]
theorem RwH.at {H : Hp} : ∀ {r : Rw}, RwH H r → H r.p = some (.tup (.str r.w :: r.rest))
  | .thr _ _ _ _, h => h.1
  | .lt _ _ _, h => h.1
  | .tell _ _, h => h.1
  | .when _ _ _ _ _ _, h => h.1
  | .times _ _ _ _, h => h.1
mutual
def Rw.cnt : Rw → Nat
  | .when _ _ _ _ a b => 1 + (cntL a + cntL b)
  | .times _ _ _ b => 1 + cntL b
  | .thr _ _ _ _ => 1
  | .lt _ _ _ => 1
  | .tell _ _ => 1
def cntL : List Rw → Nat
  | [] => 0
  | r :: rs => r.cnt + cntL rs
end
theorem cntL_app : ∀ (rs qs : List Rw), cntL (rs ++ qs) = cntL rs + cntL qs
  | [], qs => by simp [cntL]
  | r :: rs, qs => by simp only [List.cons_append, cntL, cntL_app rs qs]; omega
theorem Rw.cnt_pos : ∀ r : Rw, 1 ≤ r.cnt
  | .thr _ _ _ _ => Nat.le_refl _
  | .lt _ _ _ => Nat.le_refl _
  | .tell _ _ => Nat.le_refl _
  | .when _ _ _ _ _ _ => by unfold Rw.cnt; omega
  | .times _ _ _ _ => by unfold Rw.cnt; omega
theorem len_cnt : ∀ rs : List Rw, rs.length ≤ cntL rs
  | [] => Nat.zero_le _
  | r :: rs => by have := len_cnt rs; have := r.cnt_pos; simp only [List.length_cons, cntL]; omega
/-! the rows within -/
mutual
def Rw.flat : Rw → List Rw
  | .when p pa pb t a b => .when p pa pb t a b :: (flatL a ++ flatL b)
  | .times p pb n b => .times p pb n b :: flatL b
  | .thr p w x vs => [.thr p w x vs]
  | .lt p x t => [.lt p x t]
  | .tell p t => [.tell p t]
def flatL : List Rw → List Rw
  | [] => []
  | r :: rs => r.flat ++ flatL rs
end
def Rw.kids : Rw → List Rw
  | .when _ _ _ _ a b => a ++ b
  | .times _ _ _ b => b
  | .thr _ _ _ _ => []
  | .lt _ _ _ => []
  | .tell _ _ => []
theorem flatL_app : ∀ (rs qs : List Rw), flatL (rs ++ qs) = flatL rs ++ flatL qs
  | [], qs => by simp [flatL]
  | r :: rs, qs => by simp only [List.cons_append, flatL, flatL_app rs qs, List.append_assoc]
theorem flat_eq : ∀ r : Rw, r.flat = r :: flatL r.kids
  | .when _ _ _ _ a b => by simp only [Rw.flat, Rw.kids, flatL_app]
  | .times _ _ _ b => by simp only [Rw.flat, Rw.kids]
  | .thr _ _ _ _ => by simp only [Rw.flat, Rw.kids, flatL]
  | .lt _ _ _ => by simp only [Rw.flat, Rw.kids, flatL]
  | .tell _ _ => by simp only [Rw.flat, Rw.kids, flatL]
theorem cnt_eq : ∀ r : Rw, r.cnt = 1 + cntL r.kids
  | .when _ _ _ _ a b => by simp only [Rw.cnt, Rw.kids, cntL_app]
  | .times _ _ _ b => by simp only [Rw.cnt, Rw.kids]
  | .thr _ _ _ _ => by simp only [Rw.cnt, Rw.kids, cntL]
  | .lt _ _ _ => by simp only [Rw.cnt, Rw.kids, cntL]
  | .tell _ _ => by simp only [Rw.cnt, Rw.kids, cntL]
theorem RwH.kids {H : Hp} : ∀ {r : Rw}, RwH H r → RwsH H r.kids
  | .when _ _ _ _ _ _, h => RwsH.app h.2.2.2.2.1 h.2.2.2.2.2
  | .times _ _ _ _, h => h.2.2
  | .thr _ _ _ _, _ => trivial
  | .lt _ _ _, _ => trivial
  | .tell _ _, _ => trivial
mutual
theorem flat_len : ∀ r : Rw, r.flat.length = r.cnt
  | .when _ _ _ _ a b => by simp only [Rw.flat, Rw.cnt, List.length_cons, List.length_append, flatL_len a, flatL_len b]; omega
  | .times _ _ _ b => by simp only [Rw.flat, Rw.cnt, List.length_cons, flatL_len b]; omega
  | .thr _ _ _ _ => by simp only [Rw.flat, Rw.cnt, List.length_cons, List.length_nil]
  | .lt _ _ _ => by simp only [Rw.flat, Rw.cnt, List.length_cons, List.length_nil]
  | .tell _ _ => by simp only [Rw.flat, Rw.cnt, List.length_cons, List.length_nil]
theorem flatL_len : ∀ rs : List Rw, (flatL rs).length = cntL rs
  | [] => rfl
  | r :: rs => by simp only [flatL, cntL, List.length_append, flat_len r, flatL_len rs]
end
mutual
theorem RwH.flat {H : Hp} : ∀ (r : Rw), RwH H r → RwsH H r.flat
  | .when p pa pb t a b, h => by
    simp only [Rw.flat]
    exact ⟨h, RwsH.app (RwsH.flat a h.2.2.2.2.1) (RwsH.flat b h.2.2.2.2.2)⟩
  | .times p pb n b, h => by
    simp only [Rw.flat]
    exact ⟨h, RwsH.flat b h.2.2⟩
  | .thr _ _ _ _, h => by simp only [Rw.flat]; exact ⟨h, trivial⟩
  | .lt _ _ _, h => by simp only [Rw.flat]; exact ⟨h, trivial⟩
  | .tell _ _, h => by simp only [Rw.flat]; exact ⟨h, trivial⟩
theorem RwsH.flat {H : Hp} : ∀ (rs : List Rw), RwsH H rs → RwsH H (flatL rs)
  | [], _ => trivial
  | r :: rs, ⟨h, k⟩ => by
    simp only [flatL]
    exact RwsH.app (RwH.flat r h) (RwsH.flat rs k)
end
/-! the steps -/
abbrev Stp := Str × Rw
def inner : Rw → List Stp
  | .when p pa pb t a b => a.map (fun r => (("row" : Str), r)) ++ [(("else" : Str), Rw.when p pa pb t a b)] ++ b.map (fun r => (("row" : Str), r)) ++ [(("end" : Str), Rw.when p pa pb t a b)]
  | .times p pb n b => b.map (fun r => (("row" : Str), r)) ++ [(("end" : Str), Rw.times p pb n b)]
  | .thr _ _ _ _ => []
  | .lt _ _ _ => []
  | .tell _ _ => []
mutual
def stps : Rw → List Stp
  | .when p pa pb t a b => (("row" : Str), Rw.when p pa pb t a b) :: (stpsL a ++ [(("else" : Str), Rw.when p pa pb t a b)] ++ stpsL b ++ [(("end" : Str), Rw.when p pa pb t a b)])
  | .times p pb n b => (("row" : Str), Rw.times p pb n b) :: (stpsL b ++ [(("end" : Str), Rw.times p pb n b)])
  | .thr p w x vs => [("row", .thr p w x vs)]
  | .lt p x t => [("row", .lt p x t)]
  | .tell p t => [("row", .tell p t)]
def stpsL : List Rw → List Stp
  | [] => []
  | r :: rs => stps r ++ stpsL rs
end
def expd (s : Stp) : List Stp := if s.1 = "row" then stps s.2 else [s]
theorem rowNe1 : ¬ (("else" : Str) = "row") := by decide +kernel
theorem rowNe2 : ¬ (("end" : Str) = "row") := by decide +kernel
theorem expd_rows : ∀ rs : List Rw, (rs.map (fun r => (("row" : Str), r))).flatMap expd = stpsL rs
  | [] => rfl
  | r :: rs => by simp only [List.map_cons, List.flatMap_cons, expd_rows rs, stpsL]; rfl
theorem stps_eq : ∀ r : Rw, stps r = (("row" : Str), r) :: (inner r).flatMap expd
  | .when p pa pb t a b => by
    simp only [stps, inner, List.flatMap_append, expd_rows, List.flatMap_cons, List.flatMap_nil, List.append_nil]
    simp only [expd, if_neg rowNe1, if_neg rowNe2]
  | .times p pb n b => by
    simp only [stps, inner, List.flatMap_append, expd_rows, List.flatMap_cons, List.flatMap_nil, List.append_nil]
    simp only [expd, if_neg rowNe2]
  | .thr _ _ _ _ => by simp only [stps, inner, List.flatMap_nil]
  | .lt _ _ _ => by simp only [stps, inner, List.flatMap_nil]
  | .tell _ _ => by simp only [stps, inner, List.flatMap_nil]
mutual
theorem stps_len : ∀ r : Rw, (stps r).length ≤ 3 * r.cnt
  | .when _ _ _ _ a b => by have := stpsL_len a; have := stpsL_len b; simp only [stps, Rw.cnt, List.length_cons, List.length_append, List.length_nil]; omega
  | .times _ _ _ b => by have := stpsL_len b; simp only [stps, Rw.cnt, List.length_cons, List.length_append, List.length_nil]; omega
  | .thr _ _ _ _ => by simp only [stps, Rw.cnt, List.length_cons, List.length_nil]; omega
  | .lt _ _ _ => by simp only [stps, Rw.cnt, List.length_cons, List.length_nil]; omega
  | .tell _ _ => by simp only [stps, Rw.cnt, List.length_cons, List.length_nil]; omega
theorem stpsL_len : ∀ rs : List Rw, (stpsL rs).length ≤ 3 * cntL rs
  | [] => Nat.le_refl _
  | r :: rs => by have := stps_len r; have := stpsL_len rs; simp only [stpsL, cntL, List.length_append]; omega
end
mutual
theorem stps_rows : ∀ r : Rw, ((stps r).filter fun s : Stp => decide (s.1 = "row")).map (·.2) = r.flat
  | .when p pa pb t a b => by
    simp only [stps, Rw.flat, List.filter_cons, List.filter_append, List.map_append, List.filter_nil, decide_eq_false rowNe1, decide_eq_false rowNe2, decide_true, if_true, List.map_cons, List.map_nil, List.append_nil, Bool.false_eq_true, if_false, stpsL_rows a, stpsL_rows b]
  | .times p pb n b => by
    simp only [stps, Rw.flat, List.filter_cons, List.filter_append, List.map_append, List.filter_nil, decide_eq_false rowNe2, decide_true, if_true, List.map_cons, List.map_nil, List.append_nil, Bool.false_eq_true, if_false, stpsL_rows b]
  | .thr _ _ _ _ => by simp [stps, Rw.flat]
  | .lt _ _ _ => by simp [stps, Rw.flat]
  | .tell _ _ => by simp [stps, Rw.flat]
theorem stpsL_rows : ∀ rs : List Rw, ((stpsL rs).filter fun s : Stp => decide (s.1 = "row")).map (·.2) = flatL rs
  | [] => rfl
  | r :: rs => by simp only [stpsL, flatL, List.filter_append, List.map_append, stps_rows r, stpsL_rows rs]
end
end Mine
namespace Mine
open PySem L2
/-! ### frames -/
theorem out_fresh {H H2 : Hp} {d l a : Addr} (D2 : Deal H2 d l) (o : Out d l H H2) (h : H2 a = none) : H a = none := by
  cases q : H a with
  | none => rfl
  | some u =>
    exfalso
    obtain ⟨sd, n, ls, z⟩ := D2
    by_cases h1 : a = d
    · rw [h1, z.dc] at h; cases h
    · by_cases h2 : a = l
      · rw [h2, z.lc] at h; cases h
      · rw [o a u q h1 h2] at h; cases h
theorem deal_new {H : Hp} {d l r : Addr} (D : Deal H d l) (h : H r = none) : r ≠ d ∧ r ≠ l := by
  obtain ⟨sd, n, ls, z⟩ := D
  exact ⟨(ne_of_none z.dc h).symm, (ne_of_none z.lc h).symm⟩
theorem deal_lst {H : Hp} {d l p : Addr} {xs ys : List V} (D : Deal H d l) (h : H p = some (.lst xs)) (n : p ≠ l) : Deal (upd H p (.lst ys)) d l := by
  obtain ⟨sd, k, ls, z⟩ := D
  exact ⟨sd, k, ls, ⟨by rw [upd_ne (ne_of z.dc h (by intro z; cases z))]; exact z.dc, by rw [upd_ne n.symm]; exact z.lc, z.s0, z.s1, z.n0, z.l0⟩⟩
theorem deal_keep {H H' : Hp} {d l p : Addr} {xs : List V} (D : Deal H d l) (h : H p = some (.lst xs)) (n : p ≠ l) (o : Out d l H H') : H' p = some (.lst xs) := by
  obtain ⟨sd, k, ls, z⟩ := D
  exact o _ _ h (ne_of h z.dc (by intro z; cases z)) n
theorem out_lst {H H2 : Hp} {d l lf : Addr} {o : HO} (h : Out d l H H2) (hf : H lf = none) : Out d l H (upd H2 lf o) := fun b u e h1 h2 => by
  rw [upd_ne (ne_of_none e hf)]
  exact h b u e h1 h2
def Off (S : List Addr) (H H' : Hp) : Prop := ∀ b o, H b = some o → b ∉ S → H' b = some o
theorem Off.refl {S : List Addr} (H : Hp) : Off S H H := fun _ _ e _ => e
theorem Off.trans {S : List Addr} {H H1 H2 : Hp} (a : Off S H H1) (b : Off S H1 H2) : Off S H H2 := fun c o e h => b c o (a c o e h) h
theorem Off.of {S : List Addr} {H H' : Hp} (s : Same H H') : Off S H H' := fun c o e _ => s c o e
theorem Off.out {d l sc : Addr} {H H' : Hp} (o : Out d l H H') : Off [d, l, sc] H H' := fun b u e n => o b u e (fun z => n (by rw [z]; exact List.mem_cons_self)) (fun z => n (by rw [z]; exact List.mem_cons_of_mem _ List.mem_cons_self))
theorem Off.new {S : List Addr} {H H1 : Hp} {p : Addr} {o : HO} (a : Off S H H1) (h : H p = none) : Off S H (upd H1 p o) := fun b u e n => by
  rw [upd_ne (ne_of_none e h)]
  exact a b u e n
theorem Off.fresh {S : List Addr} {H H1 : Hp} {p : Addr} (a : Off S H H1) (hS : ∀ b ∈ S, ∃ o, H1 b = some o) (h : H1 p = none) : H p = none := by
  cases q : H p with
  | none => rfl
  | some u =>
    exfalso
    by_cases m : p ∈ S
    · obtain ⟨o, e⟩ := hS p m
      rw [e] at h; cases h
    · rw [a p u q m] at h; cases h
/-! ### the world -/
theorem putK_len {κ : Type} [DecidableEq κ] {m : List (κ × V)} {k : κ} {x : V} (v : V) (h : valV m k = some x) : (putK m k v).length = m.length := by
  unfold putK
  rw [valV_any, h, if_pos (by rfl), List.length_map]
structure Wk (kvs : List (Key × V)) (nl : Addr) : Prop where
  len : kvs.length ≤ 7
  nm : valV kvs (Sum.inr "names" : Key) = some (.ref nl)
  kd : ∃ n : Int, valV kvs (Sum.inr "kinds" : Key) = some (.int n) ∧ 0 ≤ n ∧ n ≤ 3
  wd : valV kvs (Sum.inr "wide" : Key) = some (.int 4)
  lf : ∃ n : Int, valV kvs (Sum.inr "left" : Key) = some (.int n)
  rm : ∃ n : Int, valV kvs (Sum.inr "room" : Key) = some (.int n)
  qt : ∃ b : Bool, valV kvs (Sum.inr "quiet" : Key) = some (.bl b)
  fr : ∃ n : Int, valV kvs (Sum.inr "far" : Key) = some (.int n)
theorem Wk.put_left {kvs : List (Key × V)} {nl : Addr} (h : Wk kvs nl) (u : Int) : Wk (putK kvs (Sum.inr "left" : Key) (.int u)) nl := by
  obtain ⟨_, h0⟩ := h.lf
  exact ⟨by rw [putK_len _ h0]; exact h.len, by rw [valV_put, if_neg (by decide +kernel)]; exact h.nm, let ⟨n, e, r⟩ := h.kd; ⟨n, by rw [valV_put, if_neg (by decide +kernel)]; exact e, r⟩, by rw [valV_put, if_neg (by decide +kernel)]; exact h.wd, ⟨u, by rw [valV_put, if_pos rfl]⟩, let ⟨n, e⟩ := h.rm; ⟨n, by rw [valV_put, if_neg (by decide +kernel)]; exact e⟩, let ⟨n, e⟩ := h.qt; ⟨n, by rw [valV_put, if_neg (by decide +kernel)]; exact e⟩, let ⟨n, e⟩ := h.fr; ⟨n, by rw [valV_put, if_neg (by decide +kernel)]; exact e⟩⟩
theorem Wk.put_room {kvs : List (Key × V)} {nl : Addr} (h : Wk kvs nl) (u : Int) : Wk (putK kvs (Sum.inr "room" : Key) (.int u)) nl := by
  obtain ⟨_, h0⟩ := h.rm
  exact ⟨by rw [putK_len _ h0]; exact h.len, by rw [valV_put, if_neg (by decide +kernel)]; exact h.nm, let ⟨n, e, r⟩ := h.kd; ⟨n, by rw [valV_put, if_neg (by decide +kernel)]; exact e, r⟩, by rw [valV_put, if_neg (by decide +kernel)]; exact h.wd, let ⟨n, e⟩ := h.lf; ⟨n, by rw [valV_put, if_neg (by decide +kernel)]; exact e⟩, ⟨u, by rw [valV_put, if_pos rfl]⟩, let ⟨n, e⟩ := h.qt; ⟨n, by rw [valV_put, if_neg (by decide +kernel)]; exact e⟩, let ⟨n, e⟩ := h.fr; ⟨n, by rw [valV_put, if_neg (by decide +kernel)]; exact e⟩⟩
theorem Wk.put_quiet {kvs : List (Key × V)} {nl : Addr} (h : Wk kvs nl) (u : Bool) : Wk (putK kvs (Sum.inr "quiet" : Key) (.bl u)) nl := by
  obtain ⟨_, h0⟩ := h.qt
  exact ⟨by rw [putK_len _ h0]; exact h.len, by rw [valV_put, if_neg (by decide +kernel)]; exact h.nm, let ⟨n, e, r⟩ := h.kd; ⟨n, by rw [valV_put, if_neg (by decide +kernel)]; exact e, r⟩, by rw [valV_put, if_neg (by decide +kernel)]; exact h.wd, let ⟨n, e⟩ := h.lf; ⟨n, by rw [valV_put, if_neg (by decide +kernel)]; exact e⟩, let ⟨n, e⟩ := h.rm; ⟨n, by rw [valV_put, if_neg (by decide +kernel)]; exact e⟩, ⟨u, by rw [valV_put, if_pos rfl]⟩, let ⟨n, e⟩ := h.fr; ⟨n, by rw [valV_put, if_neg (by decide +kernel)]; exact e⟩⟩
structure Wd (H : Hp) (d l sc nl : Addr) (xs : List Str) : Prop where
  deal : Deal H d l
  scn : ∃ kvs, H sc = some (.dK kvs) ∧ Wk kvs nl
  nms : H nl = some (.lst (xs.map V.str))
  ne1 : sc ≠ d
  ne2 : nl ≠ l
  x1 : 1 ≤ xs.length
  x2 : xs.length ≤ 12
section
variable {H H' : Hp} {d l sc nl : Addr} {xs : List Str}
theorem Wd.sl (W : Wd H d l sc nl xs) : sc ≠ l := by
  obtain ⟨kvs, e, _⟩ := W.scn
  obtain ⟨sd, k, ls, z⟩ := W.deal
  exact ne_of e z.lc (by intro z; cases z)
theorem Wd.out (W : Wd H d l sc nl xs) (D : Deal H' d l) (o : Out d l H H') : Wd H' d l sc nl xs :=
  ⟨D, let ⟨kvs, e, w⟩ := W.scn; ⟨kvs, o _ _ e W.ne1 W.sl, w⟩, deal_keep W.deal W.nms W.ne2 o, W.ne1, W.ne2, W.x1, W.x2⟩
theorem Wd.same (W : Wd H d l sc nl xs) (s : Same H H') : Wd H' d l sc nl xs :=
  ⟨W.deal.same s, let ⟨kvs, e, w⟩ := W.scn; ⟨kvs, s _ _ e, w⟩, s _ _ W.nms, W.ne1, W.ne2, W.x1, W.x2⟩
theorem Wd.put (W : Wd H d l sc nl xs) {kvs : List (Key × V)} (w : Wk kvs nl) : Wd (upd H sc (.dK kvs)) d l sc nl xs := by
  obtain ⟨kvs0, e, _⟩ := W.scn
  obtain ⟨sd, k, ls, z⟩ := id W.deal
  have n1 := W.ne1
  have n2 := W.sl
  refine ⟨⟨sd, k, ls, ⟨by rw [upd_ne n1.symm]; exact z.dc, by rw [upd_ne n2.symm]; exact z.lc, z.s0, z.s1, z.n0, z.l0⟩⟩, ⟨kvs, upd_same, w⟩, ?_, n1, W.ne2, W.x1, W.x2⟩
  rw [upd_ne (ne_of W.nms e (by intro z; cases z))]
  exact W.nms
theorem Wd.off (_ : Wd H d l sc nl xs) (kvs : List (Key × V)) : Off [d, l, sc] H (upd H sc (.dK kvs)) := fun b u e n => by
  rw [upd_ne fun z => n (by rw [z]; simp)]
  exact e
theorem Wd.put_left (W : Wd H d l sc nl xs) (u : Int) : ∃ kvs, DPut H sc (.str "left") (.int u) (upd H sc (.dK kvs)) ∧ Wd (upd H sc (.dK kvs)) d l sc nl xs ∧ Off [d, l, sc] H (upd H sc (.dK kvs)) := by
  obtain ⟨kvs, e, w⟩ := W.scn
  exact ⟨_, DPut.k (k := Sum.inr "left") e (small1000 (by have := w.len; omega)), W.put (w.put_left u), W.off _⟩
theorem Wd.put_room (W : Wd H d l sc nl xs) (u : Int) : ∃ kvs, DPut H sc (.str "room") (.int u) (upd H sc (.dK kvs)) ∧ Wd (upd H sc (.dK kvs)) d l sc nl xs ∧ Off [d, l, sc] H (upd H sc (.dK kvs)) := by
  obtain ⟨kvs, e, w⟩ := W.scn
  exact ⟨_, DPut.k (k := Sum.inr "room") e (small1000 (by have := w.len; omega)), W.put (w.put_room u), W.off _⟩
theorem Wd.put_quiet (W : Wd H d l sc nl xs) (u : Bool) : ∃ kvs, DPut H sc (.str "quiet") (.bl u) (upd H sc (.dK kvs)) ∧ Wd (upd H sc (.dK kvs)) d l sc nl xs ∧ Off [d, l, sc] H (upd H sc (.dK kvs)) := by
  obtain ⟨kvs, e, w⟩ := W.scn
  exact ⟨_, DPut.k (k := Sum.inr "quiet") e (small1000 (by have := w.len; omega)), W.put (w.put_quiet u), W.off _⟩
theorem Wd.get_names (W : Wd H d l sc nl xs) : DGet H sc (.str "names") (some (.ref nl)) := by
  obtain ⟨kvs, e, w⟩ := W.scn
  rw [← w.nm]
  exact DGet.k (k := Sum.inr "names") e
theorem Wd.get_left (W : Wd H d l sc nl xs) : ∃ v : Int, DGet H sc (.str "left") (some (.int v)) := by
  obtain ⟨kvs, e, w⟩ := W.scn
  obtain ⟨v, h⟩ := w.lf
  refine ⟨v, ?_⟩
  rw [← h]
  exact DGet.k (k := Sum.inr "left") e
theorem Wd.get_room (W : Wd H d l sc nl xs) : ∃ v : Int, DGet H sc (.str "room") (some (.int v)) := by
  obtain ⟨kvs, e, w⟩ := W.scn
  obtain ⟨v, h⟩ := w.rm
  refine ⟨v, ?_⟩
  rw [← h]
  exact DGet.k (k := Sum.inr "room") e
theorem Wd.get_quiet (W : Wd H d l sc nl xs) : ∃ v : Bool, DGet H sc (.str "quiet") (some (.bl v)) := by
  obtain ⟨kvs, e, w⟩ := W.scn
  obtain ⟨v, h⟩ := w.qt
  refine ⟨v, ?_⟩
  rw [← h]
  exact DGet.k (k := Sum.inr "quiet") e
theorem Wd.get_far (W : Wd H d l sc nl xs) : ∃ v : Int, DGet H sc (.str "far") (some (.int v)) := by
  obtain ⟨kvs, e, w⟩ := W.scn
  obtain ⟨v, h⟩ := w.fr
  refine ⟨v, ?_⟩
  rw [← h]
  exact DGet.k (k := Sum.inr "far") e
theorem Wd.ts (W : Wd H d l sc nl xs) (o : Off [d, l, sc] H H') : TS H H' := fun p ys h => by
  obtain ⟨kvs, e, _⟩ := W.scn
  obtain ⟨sd, k, ls, z⟩ := W.deal
  refine o _ _ h fun m => ?_
  simp only [List.mem_cons, List.not_mem_nil, or_false] at m
  rcases m with m | m | m
  · rw [m, z.dc] at h; cases h
  · rw [m, z.lc] at h; cases h
  · rw [m, e] at h; cases h
theorem Wd.keep (W : Wd H d l sc nl xs) {p : Addr} {ys : List V} (h : H p = some (.lst ys)) (n : p ≠ l) (o : Off [d, l, sc] H H') : H' p = some (.lst ys) := by
  obtain ⟨kvs, e, _⟩ := W.scn
  obtain ⟨sd, k, ls, z⟩ := W.deal
  refine o _ _ h fun m => ?_
  simp only [List.mem_cons, List.not_mem_nil, or_false] at m
  rcases m with m | m | m
  · rw [m, z.dc] at h; cases h
  · exact n m
  · rw [m, e] at h; cases h
theorem Wd.lst (W : Wd H d l sc nl xs) {p : Addr} {ys zs : List V} (h : H p = some (.lst ys)) (n : p ≠ l) (n2 : p ≠ nl) : Wd (upd H p (.lst zs)) d l sc nl xs := by
  obtain ⟨kvs, e, w⟩ := W.scn
  exact ⟨deal_lst W.deal h n, ⟨kvs, by rw [upd_ne (ne_of e h (by intro z; cases z))]; exact e, w⟩, by rw [upd_ne n2.symm]; exact W.nms, W.ne1, W.ne2, W.x1, W.x2⟩
theorem Wd.all (W : Wd H d l sc nl xs) : ∀ b ∈ [d, l, sc], ∃ o, H b = some o := by
  obtain ⟨kvs, e, _⟩ := W.scn
  obtain ⟨sd, k, ls, z⟩ := W.deal
  intro b m
  simp only [List.mem_cons, List.not_mem_nil, or_false] at m
  rcases m with m | m | m
  · exact ⟨_, by rw [m]; exact z.dc⟩
  · exact ⟨_, by rw [m]; exact z.lc⟩
  · exact ⟨_, by rw [m]; exact e⟩
end
/-! ### what a row says -/
def refs (rs : List Rw) : List V := rs.map fun r => V.ref r.p
def Tm.nm : Tm → Option Str
  | .nam _ x => some x
  | _ => none
theorem Tm.pre_names : ∀ t : Tm, t.pre.filterMap Tm.nm = t.names
  | .num _ _ => rfl
  | .nam _ _ => rfl
  | .op p s a b => by
    show List.filterMap Tm.nm (Tm.op p s a b :: (a.pre ++ b.pre)) = a.names ++ b.names
    rw [List.filterMap_cons_none (by rfl), List.filterMap_append, Tm.pre_names a, Tm.pre_names b]
theorem Tm.names_len : ∀ t : Tm, t.names.length ≤ t.size
  | .num _ _ => Nat.zero_le _
  | .nam _ _ => Nat.le_refl _
  | .op _ _ a b => by have := Tm.names_len a; have := Tm.names_len b; simp only [Tm.names, Tm.size, List.length_append]; omega
def Rw.sets : Rw → Option Str
  | .thr _ _ x _ => some x
  | .lt _ x _ => some x
  | .tell _ _ => none
  | .when _ _ _ _ _ _ => none
  | .times _ _ _ _ => none
def Rw.tm : Rw → List Tm
  | .thr _ _ _ _ => []
  | .lt _ _ t => [t]
  | .tell _ t => [t]
  | .when _ _ _ t _ _ => [t]
  | .times _ _ _ _ => []
def Rw.asked : Rw → List Str
  | .thr _ _ _ _ => []
  | .lt _ _ t => t.names
  | .tell _ t => t.names
  | .when _ _ _ t _ _ => t.names
  | .times _ _ _ _ => []
/-- what tells and whens ask -/
def Rw.told : Rw → List Str
  | .thr _ _ _ _ => []
  | .lt _ _ _ => []
  | .tell _ t => t.names
  | .when _ _ _ t _ _ => t.names
  | .times _ _ _ _ => []
/-- what a let of x asks -/
def Rw.lets (x : Str) : Rw → List Str
  | .thr _ _ _ _ => []
  | .lt _ y t => if y = x then t.names else []
  | .tell _ _ => []
  | .when _ _ _ _ _ _ => []
  | .times _ _ _ _ => []
def OkR (xs : List Str) (r : Rw) : Prop := ∀ t ∈ r.tm, t.size ≤ 7 ∧ ∀ y ∈ t.names, y ∈ xs
def OkL (xs : List Str) (rs : List Rw) : Prop := ∀ r ∈ flatL rs, OkR xs r
mutual
def dep : Rw → Nat
  | .thr _ _ _ _ => 0
  | .lt _ _ _ => 0
  | .tell _ _ => 0
  | .when _ _ _ _ a b => 1 + max (depL a) (depL b)
  | .times _ _ _ b => 1 + depL b
def depL : List Rw → Nat
  | [] => 0
  | r :: rs => max (dep r) (depL rs)
end
theorem depL_app : ∀ (rs qs : List Rw), depL (rs ++ qs) = max (depL rs) (depL qs)
  | [], qs => by simp [depL]
  | r :: rs, qs => by simp only [List.cons_append, depL, depL_app rs qs]; omega
theorem dep_mem : ∀ {rs : List Rw} {r : Rw}, r ∈ rs → dep r ≤ depL rs
  | [], _, h => absurd h List.not_mem_nil
  | q :: rs, r, h => by
    simp only [depL]
    rcases List.mem_cons.mp h with e | e
    · rw [e]; omega
    · have := dep_mem e; omega
theorem OkL.app {xs : List Str} {rs qs : List Rw} (a : OkL xs rs) (b : OkL xs qs) : OkL xs (rs ++ qs) := fun r h => by
  rw [flatL_app] at h
  rcases List.mem_append.mp h with e | e
  · exact a r e
  · exact b r e
theorem OkL.nil {xs : List Str} : OkL xs [] := fun r h => absurd h List.not_mem_nil
theorem OkL.one {xs : List Str} {r : Rw} (a : OkR xs r) (b : OkL xs r.kids) : OkL xs [r] := fun q h => by
  have e : flatL [r] = r.flat ++ [] := rfl
  rw [e, List.append_nil, flat_eq] at h
  rcases List.mem_cons.mp h with e | e
  · rw [e]; exact a
  · exact b q e
/-! how many rows there may be: m levels are left -/
def cb : Nat → Nat
  | 0 => 5
  | 1 => 35
  | 2 => 215
  | _ => 1295
def pb : Nat → Nat
  | 0 => 1
  | m + 1 => 1 + 2 * cb m
/-! ### promises -/
/-- plain letters -/
def Lt (x : Str) : Prop := ∀ c ∈ x.cps.toList, c < 200
def spNames : Sp := fun vs H Q _ => ∃ (d l : Addr) (m : Int), vs = [.ref d, .int m] ∧ Deal H d l ∧ 0 ≤ m ∧ m ≤ 12 ∧
  ∀ (r : Addr) (xs : List Str) (H' : Hp), Deal H' d l → Out d l H H' → H r = none → H' r = some (.lst (xs.map V.str)) → (xs.length : Int) = m → (∀ x ∈ xs, Lt x) → Q (.ref r) H'
def spSumS : Sp := fun vs H Q _ => ∃ (d l : Addr) (m : Int), vs = [.ref d, .int m] ∧ Deal H d l ∧ 0 ≤ m ∧ m ≤ 3 ∧ ∀ (p : Addr) (ws : List V) (H' : Hp), Deal H' d l → Out d l H H' → H' p = some (.tup ws) → Q (.ref p) H'
def spStp : Sp := fun vs H Q _ => ∃ (d l : Addr) (b : Bool), vs = [.ref d, .bl b] ∧ Deal H d l ∧
  ∀ (p : Addr) (H' : Hp), Deal H' d l → Out d l H H' → Q (.ref p) H'
def WkT (kvs : List (Key × V)) : Prop := valV kvs (Sum.inr "wide" : Key) = some (.int 4) ∧ ∃ n : Int, valV kvs (Sum.inr "kinds" : Key) = some (.int n) ∧ 0 ≤ n ∧ n ≤ 3
def spThrow : Sp := fun vs H Q _ => ∃ (d l sc : Addr) (kvs : List (Key × V)) (x : Str), vs = [.ref d, .ref sc, .str x] ∧ Deal H d l ∧ H sc = some (.dK kvs) ∧ WkT kvs ∧ sc ≠ d ∧
  ∀ (p : Addr) (w : Str) (ws : List V) (H' : Hp), Deal H' d l → Out d l H H' → H' p = some (.tup (.str w :: .str x :: ws)) → ThrOk H' w ws → Q (.ref p) H'
def spTmR (n : Nat) : Sp := fun vs H Q _ => ∃ (d l kn : Addr) (ks : List Str) (room : Int), vs = [.ref d, .ref kn, .int room] ∧ Deal H d l ∧ H kn = some (.lst (ks.map V.str)) ∧ kn ≠ l ∧ ks.length ≤ 10000 ∧ 1 ≤ room ∧ room ≤ 64 ∧ room ≤ n ∧
  ∀ (t : Tm) (H' : Hp), Deal H' d l → Out d l H H' → TmH H' t → (∀ x ∈ t.names, x ∈ ks) → (t.size : Int) ≤ room → Q (.ref t.p) H'
def spTm : Nat → Sp
  | 0 => fun _ _ _ _ => False
  | n + 1 => spTmR (n + 1)
def spRowR (m : Nat) : Sp := fun vs H Q _ => ∃ (d l sc nl kn : Addr) (xs ks : List Str) (deep often : Int), vs = [.ref d, .ref sc, .ref kn, .int deep, .int often] ∧ Wd H d l sc nl xs ∧ H kn = some (.lst (ks.map V.str)) ∧ kn ≠ l ∧ (∀ y ∈ ks, y ∈ xs) ∧ ks.length + pb m ≤ 5000 ∧ m ≤ 3 ∧ deep = (m : Int) ∧
  ∀ (p kn' : Addr) (r : Rw) (k2 : List Str) (H' : Hp), Wd H' d l sc nl xs → Off [d, l, sc] H H' → H' p = some (.tup [.ref r.p, .ref kn']) → RwH H' r → r.cnt ≤ pb m → dep r ≤ m → OkL xs [r] → (kn' = kn ∨ H kn' = none) → kn' ≠ l → H' kn' = some (.lst (k2.map V.str)) → (∀ y ∈ k2, y ∈ xs) → k2.length ≤ ks.length + pb m → Q (.ref p) H'
def spRows (m : Nat) : Sp := fun vs H Q _ => ∃ (d l sc nl kn : Addr) (xs ks : List Str) (deep tells often : Int), vs = [.ref d, .ref sc, .ref kn, .int deep, .int tells, .int often] ∧ Wd H d l sc nl xs ∧ H kn = some (.lst (ks.map V.str)) ∧ kn ≠ l ∧ (∀ y ∈ ks, y ∈ xs) ∧ ks.length + cb m ≤ 5000 ∧ 0 ≤ tells ∧ tells ≤ 2 ∧ m ≤ 3 ∧ deep = (m : Int) ∧
  ∀ (p pr kn' : Addr) (rs : List Rw) (k2 : List Str) (H' : Hp), Wd H' d l sc nl xs → Off [d, l, sc] H H' → H' p = some (.tup [.ref pr, .ref kn']) → H' pr = some (.tup (refs rs)) → RwsH H' rs → cntL rs ≤ cb m → depL rs ≤ m → OkL xs rs → (kn' = kn ∨ H kn' = none) → kn' ≠ l → H' kn' = some (.lst (k2.map V.str)) → (∀ y ∈ k2, y ∈ xs) → k2.length ≤ ks.length + cb m → Q (.ref p) H'
def spRowsP : Nat → Sp
  | 0 => fun _ _ _ _ => False
  | m + 1 => spRows m
structure PrgH (H : Hp) (p : Addr) (xs : List Str) (rs : List Rw) : Prop where
  ex : ∃ v pr, H p = some (.tup [v, .ref pr]) ∧ H pr = some (.tup (refs rs))
  rows : RwsH H rs
  cnt : cntL rs ≤ 1300
  dp : depL rs ≤ 3
  ok : OkL xs rs
  xl : xs.length ≤ 12
  so : ∀ x ∈ xs, Lt x
theorem PrgH.ts {H H' : Hp} {p : Addr} {xs : List Str} {rs : List Rw} (t : TS H H') (P : PrgH H p xs rs) : PrgH H' p xs rs :=
  ⟨let ⟨v, pr, a, c⟩ := P.ex; ⟨v, pr, t _ _ a, t _ _ c⟩, RwsH.ts t rs P.rows, P.cnt, P.dp, P.ok, P.xl, P.so⟩
def spPrg : Sp := fun vs H Q _ => ∃ (d l : Addr), vs = [.ref d, .int 3, .int 4, .int 4] ∧ Deal H d l ∧
  ∀ (p : Addr) (xs : List Str) (rs : List Rw) (H' : Hp), Deal H' d l → Out d l H H' → PrgH H' p xs rs → Q (.ref p) H'
def spChn : Sp := fun vs H Q _ => ∃ (d l : Addr), vs = [.ref d] ∧ Deal H d l ∧
  ∀ (p : Addr) (xs : List Str) (rs : List Rw) (H' : Hp), Deal H' d l → Out d l H H' → PrgH H' p xs rs → Q (.ref p) H'
/-! the program's own defs -/
def spParts : Sp := fun vs H Q _ => ∃ t : Tm, vs = [.ref t.p] ∧ TmH H t ∧ t.size ≤ 900 ∧ ∀ (r : Addr) (H' : Hp), Same H H' → H r = none → H' r = some (.lst (t.pre.map fun u => V.ref u.p)) → Q (.ref r) H'
def spNamesIn : Sp := fun vs H Q _ => ∃ t : Tm, vs = [.ref t.p] ∧ TmH H t ∧ t.size ≤ 900 ∧ ∀ (r : Addr) (H' : Hp), Same H H' → H' r = some (.lst (t.names.map V.str)) → Q (.ref r) H'
def spSetsN : Sp := fun vs H Q _ => ∃ r : Rw, vs = [.ref r.p] ∧ RwH H r ∧ Q (.bl r.sets.isSome) H
def spAsked : Sp := fun vs H Q _ => ∃ (r : Rw) (xs : List Str), vs = [.ref r.p] ∧ RwH H r ∧ OkR xs r ∧ ∀ (q : Addr) (H' : Hp), Same H H' → H' q = some (.lst (r.asked.map V.str)) → Q (.ref q) H'
def Stp2 (H : Hp) (z : V) (s : Stp) : Prop := ∃ q, z = .ref q ∧ H q = some (.tup [.str s.1, .ref s.2.p])
def Stp3 (H : Hp) (z : V) (s : Stp) : Prop := ∃ q n, z = .ref q ∧ H q = some (.tup [.str s.1, .ref s.2.p, .int n])
theorem Stp2.ts {H H' : Hp} (t : TS H H') {z : V} {s : Stp} (h : Stp2 H z s) : Stp2 H' z s := let ⟨q, e, k⟩ := h; ⟨q, e, t _ _ k⟩
theorem Stp3.ts {H H' : Hp} (t : TS H H') {z : V} {s : Stp} (h : Stp3 H z s) : Stp3 H' z s := let ⟨q, n, e, k⟩ := h; ⟨q, n, e, t _ _ k⟩
def spAsS : Sp := fun vs H Q _ => ∃ (p : Addr) (rs : List Rw), vs = [.ref p] ∧ H p = some (.tup (refs rs)) ∧ rs.length ≤ 4000 ∧
  ∀ (r : Addr) (zs : List V) (H' : Hp), Same H H' → H' r = some (.lst zs) → Two (Stp2 H') zs (rs.map fun r => (("row" : Str), r)) → Q (.ref r) H'
def spInner : Sp := fun vs H Q _ => ∃ (r : Rw), vs = [.ref r.p] ∧ RwH H r ∧ r.cnt ≤ 4000 ∧
  ∀ (q : Addr) (zs : List V) (H' : Hp), Same H H' → H' q = some (.lst zs) → Two (Stp2 H') zs (inner r) → Q (.ref q) H'
def spSteps : Sp := fun vs H Q _ => ∃ (p : Addr) (rs : List Rw), vs = [.ref p] ∧ H p = some (.tup (refs rs)) ∧ RwsH H rs ∧ cntL rs ≤ 4000 ∧
  ∀ (r : Addr) (zs : List V) (H' : Hp), Same H H' → H r = none → H' r = some (.lst zs) → Two (Stp3 H') zs (stpsL rs) → Q (.ref r) H'
def spRowsIn : Sp := fun vs H Q _ => ∃ (p : Addr) (xs : List Str) (rs : List Rw), vs = [.ref p] ∧ PrgH H p xs rs ∧
  ∀ (r : Addr) (H' : Hp), Same H H' → H r = none → H' r = some (.lst (refs (flatL rs))) → Q (.ref r) H'
/-! ### which names are needed -/
inductive Need (fl : List Rw) : Str → Prop where
  | base {r : Rw} {x : Str} (h : r ∈ fl) (m : x ∈ r.told) : Need fl x
  | step {p : Addr} {y x : Str} {t : Tm} (h : Rw.lt p y t ∈ fl) (n : Need fl y) (m : x ∈ t.names) : Need fl x
/-- the names of the lets, each with a list of what they ask -/
def BhV (H : Hp) (kvs : List (Key × V)) (fl : List Rw) (x : Str) : Prop := (valV kvs (Sum.inr x : Key) = none ∧ fl.flatMap (Rw.lets x) = []) ∨ ∃ l, valV kvs (Sum.inr x : Key) = some (.ref l) ∧ H l = some (.lst ((fl.flatMap (Rw.lets x)).map V.str))
def Bh (H : Hp) (d : Addr) (fl : List Rw) : Prop := ∃ kvs, H d = some (.dK kvs) ∧ ∀ x, BhV H kvs fl x
theorem Bh.same {H H' : Hp} (s : Same H H') {d : Addr} {fl : List Rw} (h : Bh H d fl) : Bh H' d fl := by
  obtain ⟨kvs, e, a⟩ := h
  refine ⟨kvs, s _ _ e, fun x => ?_⟩
  rcases a x with h | ⟨l, h1, h2⟩
  · exact .inl h
  · exact .inr ⟨l, h1, s _ _ h2⟩
def spNB : Sp := fun vs H Q _ => ∃ (lr : Addr) (xs : List Str) (fl : List Rw), vs = [.ref lr] ∧ H lr = some (.lst (refs fl)) ∧ RwsH H fl ∧ (∀ r ∈ fl, OkR xs r) ∧ fl.length ≤ 1300 ∧
  ∀ (d : Addr) (H' : Hp), Same H H' → H d = none → Bh H' d fl → Q (.ref d) H'
structure NdS (rs : List Rw) (ss : List Str) : Prop where
  nd : ss.Nodup
  st : PyProof.Rows.sortedS ss = true
  mem : ∀ x, x ∈ ss ↔ Need (flatL rs) x
theorem NdS.eq {rs : List Rw} {ss ts : List Str} (a : NdS rs ss) (b : NdS rs ts) : ss = ts := sorted_same a.nd b.nd (fun x => (a.mem x).trans (b.mem x).symm) a.st b.st
def spNeeded : Sp := fun vs H Q _ => ∃ (p : Addr) (xs : List Str) (rs : List Rw), vs = [.ref p] ∧ PrgH H p xs rs ∧
  ∀ (r : Addr) (ss : List Str) (H' : Hp), Same H H' → H' r = some (.tup (ss.map V.str)) → NdS rs ss → Q (.ref r) H'
def idl (ss : List Str) (r : Rw) : Bool := match r.sets with
  | some x => !decide (x ∈ ss)
  | none => false
def spIsI : Sp := fun vs H Q _ => ∃ (r : Rw) (np : Addr) (ss : List Str), vs = [.ref r.p, .ref np] ∧ RwH H r ∧ H np = some (.tup (ss.map V.str)) ∧ Q (.bl (idl ss r)) H
def idA (fl : List Rw) (ss : List Str) (i : Nat) : Bool := match fl[i]? with
  | some r => idl ss r
  | none => false
def nums (fl : List Rw) (ss : List Str) (n : Nat) : List Int := ((List.range n).filter (idA fl ss)).map fun i : Nat => (i : Int)
def spIdle : Sp := fun vs H Q _ => ∃ (p : Addr) (xs : List Str) (rs : List Rw), vs = [.ref p] ∧ PrgH H p xs rs ∧
  ∀ (r : Addr) (ss : List Str) (H' : Hp), Same H H' → H' r = some (.tup ((nums (flatL rs) ss (flatL rs).length).map V.int)) → NdS rs ss → Q (.ref r) H'
/-! the law's own -/
def spLstR (n : Nat) : Sp := fun vs H Q _ => ∃ (p : Addr) (rs : List Rw), vs = [.ref p] ∧ H p = some (.tup (refs rs)) ∧ RwsH H rs ∧ cntL rs ≤ 4000 ∧ depL rs < n ∧
  ∀ (r : Addr) (H' : Hp), Same H H' → H r = none → H' r = some (.lst (refs (flatL rs))) → Q (.ref r) H'
def spLst : Nat → Sp
  | 0 => fun _ _ _ _ => False
  | n + 1 => spLstR (n + 1)
def spNinR (n : Nat) : Sp := fun vs H Q _ => ∃ t : Tm, vs = [.ref t.p] ∧ TmH H t ∧ t.size ≤ 7 ∧ t.size ≤ n ∧
  ∀ (r : Addr) (H' : Hp), Same H H' → H' r = some (.lst (t.names.map V.str)) → Q (.ref r) H'
def spNin : Nat → Sp
  | 0 => fun _ _ _ _ => False
  | n + 1 => spNinR (n + 1)
def spLNd : Sp := fun vs H Q _ => ∃ (p : Addr) (xs : List Str) (rs : List Rw), vs = [.ref p] ∧ PrgH H p xs rs ∧
  ∀ (r : Addr) (ss : List Str) (H' : Hp), Same H H' → H' r = some (.lst (ss.map V.str)) → NdS rs ss → Q (.ref r) H'
def spLId : Sp := fun vs H Q _ => ∃ (r : Rw) (np : Addr) (ss : List Str), vs = [.ref r.p, .ref np] ∧ RwH H r ∧ H np = some (.lst (ss.map V.str)) ∧ ∀ H', Same H H' → Q (.bl (idl ss r)) H'
def spRgt : Sp := fun vs H Q _ => ∃ (p : Addr) (xs : List Str) (rs : List Rw), vs = [.ref p] ∧ PrgH H p xs rs ∧ ∀ H', Same H H' → Q (.bl true) H'
end Mine
namespace Mine
open PySem L2
theorem big4 {n : Nat} (h : n ≤ 9000000) : n < sizeLine := by rw [sizeLine_eq]; omega
theorem flat_ge : ∀ l : List Tm, l.length ≤ (l.flatMap Tm.pre).length
  | [] => Nat.le_refl _
  | t :: r => by have := flat_ge r; have := t.size_pos; rw [List.length_cons, List.flatMap_cons, List.length_append, Tm.pre_len]; omega
theorem wNum : ¬ (V.str "num" = V.str "op") := by decide +kernel
theorem wNam : ¬ (V.str "name" = V.str "op") := by decide +kernel
theorem wOM : ¬ (V.str "op" = V.str "name") := by decide +kernel
theorem wTW : ¬ (V.str "times" = V.str "when") := by decide +kernel
theorem wLW : ¬ (V.str "let" = V.str "when") := by decide +kernel
theorem wLT : ¬ (V.str "let" = V.str "times") := by decide +kernel
theorem wEW : ¬ (V.str "tell" = V.str "when") := by decide +kernel
theorem wET : ¬ (V.str "tell" = V.str "times") := by decide +kernel
theorem thrNe1 {w : Str} (h : w ∈ thrW) : ¬ (V.str w = V.str "when") := fun z => by
  have e : w = "when" := by injection z
  rw [e] at h
  exact absurd h (by decide +kernel)
theorem thrNe2 {w : Str} (h : w ∈ thrW) : ¬ (V.str w = V.str "times") := fun z => by
  have e : w = "times" := by injection z
  rw [e] at h
  exact absurd h (by decide +kernel)
theorem at0 {v : V} {r : List V} : atI (v :: r) 0 = some v := by
  unfold atI ixN
  rw [if_pos (Int.le_refl 0), if_pos (by rw [List.length_cons]; omega)]
  rfl
theorem refs_len (rs : List Rw) : (refs rs).length = rs.length := List.length_map _
theorem refs_at {rs : List Rw} {i : Nat} {v : V} (h : (refs rs)[i]? = some v) : ∃ r, v = .ref r.p ∧ rs[i]? = some r := by
  unfold refs at h
  rw [List.getElem?_map] at h
  cases e : rs[i]? with
  | none => rw [e] at h; cases h
  | some r => rw [e] at h; exact ⟨r, (Option.some.inj h).symm, rfl⟩
theorem refs_app (rs qs : List Rw) : refs (rs ++ qs) = refs rs ++ refs qs := List.map_append ..
theorem twoAt {α : Type} {R : V → α → Prop} : ∀ {vs : List V} {as : List α} {i : Nat} {v : V}, Two R vs as → vs[i]? = some v → ∃ a, as[i]? = some a ∧ R v a
  | [], [], i, v, _, h => by cases h
  | v :: vs, a :: as, 0, _, ⟨e, _⟩, h => by cases h; exact ⟨a, rfl, e⟩
  | v :: vs, a :: as, i + 1, x, ⟨_, r⟩, h => by
    obtain ⟨b, h1, h2⟩ := twoAt (i := i) (v := x) r (by simpa using h)
    exact ⟨b, by simpa using h1, h2⟩
  | [], _ :: _, _, _, z, _ => z.elim
  | _ :: _, [], _, _, z, _ => z.elim
theorem two_rev {α : Type} {R : V → α → Prop} : ∀ {vs : List V} {as : List α}, Two R vs as → Two R vs.reverse as.reverse
  | [], [], _ => trivial
  | v :: vs, a :: as, ⟨e, r⟩ => by
    rw [List.reverse_cons, List.reverse_cons]
    exact Two.append (two_rev r) ⟨e, trivial⟩
  | [], _ :: _, z => z.elim
  | _ :: _, [], z => z.elim
theorem two_snoc {α : Type} {R : V → α → Prop} : ∀ {as : List α} {vs : List V} {a : α}, Two R vs (as ++ [a]) → ∃ us v, vs = us ++ [v] ∧ Two R us as ∧ R v a
  | [], [v], a, ⟨e, _⟩ => ⟨[], v, rfl, trivial, e⟩
  | [], _ :: _ :: _, _, ⟨_, z⟩ => z.elim
  | [], [], _, z => z.elim
  | b :: bs, [], _, z => z.elim
  | b :: bs, v :: vs, a, ⟨e, r⟩ => by
    obtain ⟨us, u, h1, h2, h3⟩ := two_snoc (as := bs) r
    exact ⟨v :: us, u, by rw [h1]; rfl, ⟨e, h2⟩, h3⟩
theorem stps_pos (r : Rw) : 1 ≤ (stps r).length := by rw [stps_eq]; simp
theorem exp_pos (s : Stp) : 1 ≤ (expd s).length := by
  unfold expd
  split
  · exact stps_pos _
  · simp
theorem exp_ge : ∀ l : List Stp, l.length ≤ (l.flatMap expd).length
  | [] => Nat.le_refl _
  | t :: r => by have := exp_ge r; have := exp_pos t; rw [List.length_cons, List.flatMap_cons, List.length_append]; omega
theorem cnt_mem : ∀ {rs : List Rw} {r : Rw}, r ∈ rs → r.cnt ≤ cntL rs
  | [], _, h => absurd h List.not_mem_nil
  | q :: rs, r, h => by
    simp only [cntL]
    rcases List.mem_cons.mp h with e | e
    · rw [e]; omega
    · have := cnt_mem e; omega
theorem inner_mem : ∀ {r : Rw} {s : Stp}, s ∈ inner r → s.2 = r ∨ s.2 ∈ r.kids
  | .when p pa pb t a b, s, h => by
    simp only [inner, List.mem_append, List.mem_map, List.mem_singleton] at h
    rcases h with ((⟨x, hx, e⟩ | e) | ⟨x, hx, e⟩) | e
    · right; rw [← e]; exact List.mem_append_left _ hx
    · left; rw [e]
    · right; rw [← e]; exact List.mem_append_right _ hx
    · left; rw [e]
  | .times p pb n b, s, h => by
    simp only [inner, List.mem_append, List.mem_map, List.mem_singleton] at h
    rcases h with ⟨x, hx, e⟩ | e
    · right; rw [← e]; exact hx
    · left; rw [e]
  | .thr _ _ _ _, _, h => absurd h List.not_mem_nil
  | .lt _ _ _, _, h => absurd h List.not_mem_nil
  | .tell _ _, _, h => absurd h List.not_mem_nil
theorem inner_ok {H : Hp} {r : Rw} (h : RwH H r) (hc : r.cnt ≤ 4000) {s : Stp} (m : s ∈ inner r) : RwH H s.2 ∧ s.2.cnt ≤ 4000 := by
  rcases inner_mem m with e | e
  · rw [e]; exact ⟨h, hc⟩
  · have := cnt_mem e
    have := cnt_eq r
    exact ⟨h.kids.mem _ e, by omega⟩
theorem inV_strs (w : Str) (xs : List Str) : inV (.str w) (xs.map V.str) = decide (w ∈ xs) := by
  unfold inV
  rw [List.any_map]
  induction xs with
  | nil => rfl
  | cons x r ih =>
    rw [List.any_cons, ih]
    have e : (eqV (V.str x) (V.str w)) = decide (x = w) := rfl
    show (eqV (V.str x) (V.str w) || _) = _
    rw [e]
    by_cases c : x = w
    · simp [c]
    · have c2 : ¬ w = x := fun z => c z.symm
      simp [c, c2]
theorem flat_texts (xs : List Str) : (xs.map V.str).all flatV = true := flat_strs xs
theorem strs_at {xs : List Str} {i : Nat} {v : V} (h : (xs.map V.str)[i]? = some v) : ∃ x, v = .str x ∧ xs[i]? = some x := by
  rw [List.getElem?_map] at h
  cases e : xs[i]? with
  | none => rw [e] at h; cases h
  | some r => rw [e] at h; exact ⟨r, (Option.some.inj h).symm, rfl⟩
/-! places in short displays -/
theorem three_at {r x y z : Int} (h0 : 0 ≤ r) (h1 : r < 3) : ∃ w, atI [V.int x, V.int y, V.int z] r = some (.int w) ∧ (w = x ∨ w = y ∨ w = z) := by
  have : r = 0 ∨ r = 1 ∨ r = 2 := by omega
  rcases this with rfl | rfl | rfl
  · exact ⟨x, rfl, .inl rfl⟩
  · exact ⟨y, rfl, .inr (.inl rfl)⟩
  · exact ⟨z, rfl, .inr (.inr rfl)⟩
theorem sgn_at {r : Int} (h0 : 0 ≤ r) (h1 : r < 5) : ∃ c, atI ("+-*<=" : Str).cps.toList r = some c ∧ (⟨#[c]⟩ : Str) ∈ sgns := by
  have : r = 0 ∨ r = 1 ∨ r = 2 ∨ r = 3 ∨ r = 4 := by omega
  rcases this with rfl | rfl | rfl | rfl | rfl
  · exact ⟨43, rfl, by decide +kernel⟩
  · exact ⟨45, rfl, by decide +kernel⟩
  · exact ⟨42, rfl, by decide +kernel⟩
  · exact ⟨60, rfl, by decide +kernel⟩
  · exact ⟨61, rfl, by decide +kernel⟩
theorem at_nat {α : Type} {xs : List α} {r : Int} (h0 : 0 ≤ r) (h1 : r < (xs.length : Int)) : ∃ v, xs[r.toNat]? = some v ∧ atI xs r = some v := by
  have hk : r.toNat < xs.length := by omega
  refine ⟨_, List.getElem?_eq_getElem hk, ?_⟩
  have q := atI_nat (List.getElem?_eq_getElem hk)
  rw [Int.toNat_of_nonneg h0] at q
  exact q
theorem cut_texts (xs : List Str) (lo hi : Option Int) : ∃ ys : List Str, cutV (xs.map V.str) lo hi = ys.map V.str ∧ ys.length ≤ xs.length ∧ (∀ y ∈ ys, y ∈ xs) := by
  refine ⟨(xs.drop (HT.sIx xs.length 0 lo)).take (HT.sIx xs.length xs.length hi - HT.sIx xs.length 0 lo), ?_, ?_, fun y hy => ?_⟩
  · unfold cutV
    rw [List.length_map, List.map_take, List.map_drop]
  · rw [List.length_take, List.length_drop]; omega
  · exact List.mem_of_mem_drop (List.mem_of_mem_take hy)
theorem out_off {H H1 H2 : Hp} {d l sc : Addr} (o : Out d l H H1) (n : H sc = none) (o2 : Off [d, l, sc] H1 H2) : Out d l H H2 := fun b u e h1 h2 => by
  refine o2 b u (o b u e h1 h2) fun m => ?_
  simp only [List.mem_cons, List.not_mem_nil, or_false] at m
  rcases m with m | m | m
  · exact h1 m
  · exact h2 m
  · rw [m, n] at e; cases e
/-! the lists of rows -/
theorem wMN : ¬ (V.str "num" = V.str "name") := by decide +kernel
theorem wTL : ¬ (V.str "tell" = V.str "let") := by decide +kernel
theorem wWL : ¬ (V.str "when" = V.str "let") := by decide +kernel
theorem wML : ¬ (V.str "times" = V.str "let") := by decide +kernel
theorem thrNe3 {w : Str} (h : w ∈ thrW) : ¬ (V.str w = V.str "let") := fun z => by
  have e : w = "let" := by injection z
  rw [e] at h
  exact absurd h (by decide +kernel)
theorem thrNot {w : Str} (h : w ∈ thrW) : ¬ (inV (V.str w) [.str "tell", .str "when"] = true) := by
  rw [show ([V.str "tell", V.str "when"] : List V) = (["tell", "when"] : List Str).map V.str from rfl, inV_strs]
  simp only [thrW, List.mem_cons, List.not_mem_nil, or_false] at h
  rcases h with rfl | rfl | rfl | rfl <;> decide +kernel
theorem big16 {n : Nat} (h : n < 16777216) : n < sizeLine := by rw [sizeLine_eq]; exact h
theorem cb_eq {m : Nat} (hm : m ≤ 3) : cb m = 3 * pb m + 2 := by
  have : m = 0 ∨ m = 1 ∨ m = 2 ∨ m = 3 := by omega
  rcases this with rfl | rfl | rfl | rfl <;> rfl
theorem cb_le (m : Nat) : cb m ≤ 1295 := by
  unfold cb
  split <;> decide
theorem pb_pos (m : Nat) : 1 ≤ pb m := by cases m <;> simp [pb]
theorem five_at {r : Int} (h0 : 0 ≤ r) (h1 : r < 5) : ∃ w, atI [V.int 0, V.int 1, V.int 1, V.int 2, V.int 3] r = some (.int w) := by
  have : r = 0 ∨ r = 1 ∨ r = 2 ∨ r = 3 ∨ r = 4 := by omega
  rcases this with rfl | rfl | rfl | rfl | rfl <;> exact ⟨_, rfl⟩
theorem two_atI {r x y : Int} (h0 : 0 ≤ r) (h1 : r < 2) : ∃ w, atI [V.int x, V.int y] r = some (.int w) ∧ (w = x ∨ w = y) := by
  have : r = 0 ∨ r = 1 := by omega
  rcases this with rfl | rfl
  · exact ⟨x, rfl, .inl rfl⟩
  · exact ⟨y, rfl, .inr rfl⟩
theorem OkR.asked {xs : List Str} {r : Rw} (h : OkR xs r) : r.asked.length ≤ 7 ∧ ∀ y ∈ r.asked, y ∈ xs := by
  cases r with
  | lt p x t => have := h t (List.mem_singleton.mpr rfl); have := t.names_len; exact ⟨by show t.names.length ≤ 7; omega, (h t (List.mem_singleton.mpr rfl)).2⟩
  | tell p t => have := h t (List.mem_singleton.mpr rfl); have := t.names_len; exact ⟨by show t.names.length ≤ 7; omega, (h t (List.mem_singleton.mpr rfl)).2⟩
  | when p pa pb t a b => have := h t (List.mem_singleton.mpr rfl); have := t.names_len; exact ⟨by show t.names.length ≤ 7; omega, (h t (List.mem_singleton.mpr rfl)).2⟩
  | times p pb n b => exact ⟨Nat.zero_le _, fun y hy => absurd hy List.not_mem_nil⟩
  | thr p w x vs => exact ⟨Nat.zero_le _, fun y hy => absurd hy List.not_mem_nil⟩
theorem told_sub (r : Rw) : ∀ x ∈ r.told, x ∈ r.asked := by
  cases r <;> intro x h <;> first | exact h | exact absurd h List.not_mem_nil
theorem told_len (r : Rw) : r.told.length ≤ r.asked.length := by
  cases r <;> first | exact Nat.le_refl _ | exact Nat.zero_le _
theorem lets_len (x : Str) (r : Rw) : (r.lets x).length ≤ r.asked.length := by
  cases r with
  | lt p z t => simp only [Rw.lets, Rw.asked]; split; exact Nat.le_refl _; exact Nat.zero_le _
  | _ => exact Nat.zero_le _
theorem fm_len {α : Type} {f : Rw → List α} {c : Nat} : ∀ {fl : List Rw}, (∀ r ∈ fl, (f r).length ≤ c) → (fl.flatMap f).length ≤ c * fl.length
  | [], _ => Nat.zero_le _
  | r :: rs, h => by
    have := fm_len (f := f) (c := c) (fl := rs) fun q hq => h q (List.mem_cons_of_mem _ hq)
    have := h r List.mem_cons_self
    rw [List.flatMap_cons, List.length_append, List.length_cons, Nat.mul_succ]
    omega
theorem fm_take {α : Type} {f : Rw → List α} {fl : List Rw} {i : Nat} {r : Rw} (h : fl[i]? = some r) : (fl.take (i + 1)).flatMap f = (fl.take i).flatMap f ++ f r := by
  rw [take_snoc h, List.flatMap_append]
  simp
theorem told_lens {xs : List Str} {fl : List Rw} (ok : ∀ r ∈ fl, OkR xs r) : (fl.flatMap Rw.told).length ≤ 7 * fl.length := fm_len fun r h => Nat.le_trans (told_len r) (ok r h).asked.1
theorem lets_lens {xs : List Str} {fl : List Rw} (ok : ∀ r ∈ fl, OkR xs r) (x : Str) : (fl.flatMap (Rw.lets x)).length ≤ 7 * fl.length := fm_len fun r h => Nat.le_trans (lets_len x r) (ok r h).asked.1
theorem need_mem {xs : List Str} {fl : List Rw} (ok : ∀ r ∈ fl, OkR xs r) {x : Str} (h : Need fl x) : x ∈ xs := by
  cases h with
  | base h m => exact (ok _ h).asked.2 _ (told_sub _ _ m)
  | step h n m => exact (ok _ h).asked.2 _ m
theorem lets_need {fl : List Rw} {y x : Str} (n : Need fl y) (h : x ∈ fl.flatMap (Rw.lets y)) : Need fl x := by
  obtain ⟨r, hr, hx⟩ := List.mem_flatMap.mp h
  cases r with
  | lt p z t =>
    simp only [Rw.lets] at hx
    split at hx
    · rename_i e; subst e; exact .step hr n hx
    · exact absurd hx List.not_mem_nil
  | _ => exact absurd hx List.not_mem_nil
theorem told_need {fl : List Rw} {x : Str} (h : x ∈ fl.flatMap Rw.told) : Need fl x := let ⟨_, hr, hx⟩ := List.mem_flatMap.mp h; .base hr hx
/-! the worklist -/
structure WL (fl : List Rw) (fs ws : List Str) : Prop where
  need : ∀ x, x ∈ fs ∨ x ∈ ws → Need fl x
  base : ∀ x ∈ fl.flatMap Rw.told, x ∈ fs ∨ x ∈ ws
  more : ∀ y ∈ fs, ∀ x ∈ fl.flatMap (Rw.lets y), x ∈ fs ∨ x ∈ ws
  nd : fs.Nodup
theorem WL.init (fl : List Rw) : WL fl [] (fl.flatMap Rw.told) := ⟨fun x h => by
  rcases h with h | h
  · exact absurd h List.not_mem_nil
  · exact told_need h, fun x h => .inr h, fun y h => absurd h List.not_mem_nil, List.nodup_nil⟩
theorem WL.skip {fl : List Rw} {fs ws : List Str} {x : Str} (h : WL fl fs (ws ++ [x])) (m : x ∈ fs) : WL fl fs ws := by
  have key : ∀ y, (y ∈ fs ∨ y ∈ ws ++ [x]) → y ∈ fs ∨ y ∈ ws := fun y hy => by
    rcases hy with e | e
    · exact .inl e
    · rcases List.mem_append.mp e with e | e
      · exact .inr e
      · rw [List.mem_singleton.mp e]; exact .inl m
  exact ⟨fun y hy => h.need y (by rcases hy with e | e; exact .inl e; exact .inr (List.mem_append_left _ e)), fun y hy => key y (h.base y hy), fun z hz y hy => key y (h.more z hz y hy), h.nd⟩
theorem WL.take {fl : List Rw} {fs ws : List Str} {x : Str} (h : WL fl fs (ws ++ [x])) (m : x ∉ fs) : WL fl (fs ++ [x]) (ws ++ fl.flatMap (Rw.lets x)) := by
  have nx : Need fl x := h.need x (.inr (by simp))
  have key : ∀ y, (y ∈ fs ∨ y ∈ ws ++ [x]) → y ∈ fs ++ [x] ∨ y ∈ ws ++ fl.flatMap (Rw.lets x) := fun y hy => by
    rcases hy with e | e
    · exact .inl (List.mem_append_left _ e)
    · rcases List.mem_append.mp e with e | e
      · exact .inr (List.mem_append_left _ e)
      · exact .inl (List.mem_append_right _ e)
  refine ⟨fun y hy => ?_, fun y hy => key y (h.base y hy), fun z hz y hy => ?_, ?_⟩
  · rcases hy with e | e
    · rcases List.mem_append.mp e with e | e
      · exact h.need y (.inl e)
      · rw [List.mem_singleton.mp e]; exact nx
    · rcases List.mem_append.mp e with e | e
      · exact h.need y (.inr (List.mem_append_left _ e))
      · exact lets_need nx e
  · rcases List.mem_append.mp hz with e | e
    · exact key y (h.more z e y hy)
    · rw [List.mem_singleton.mp e] at hy; exact .inr (List.mem_append_right _ hy)
  · rw [List.nodup_append]
    refine ⟨h.nd, by simp, fun a ha b hb e => m ?_⟩
    rw [← List.mem_singleton.mp hb, ← e]; exact ha
theorem WL.done {fl : List Rw} {fs : List Str} (h : WL fl fs []) (x : Str) : x ∈ fs ↔ Need fl x := by
  refine ⟨fun m => h.need x (.inl m), fun n => ?_⟩
  have key : ∀ y, (y ∈ fs ∨ y ∈ ([] : List Str)) → y ∈ fs := fun y hy => by
    rcases hy with e | e
    · exact e
    · exact absurd e List.not_mem_nil
  induction n with
  | base h1 m => exact key _ (h.base _ (List.mem_flatMap.mpr ⟨_, h1, m⟩))
  | step h1 _ m ih => exact key _ (h.more _ ih _ (List.mem_flatMap.mpr ⟨_, h1, by simp only [Rw.lets]; rw [if_pos trivial]; exact m⟩))
/-- what the names not yet found would bring -/
def pot (fl : List Rw) (xs fs : List Str) : Nat := ((xs.filter fun x => !decide (x ∈ fs)).map fun x => (fl.flatMap (Rw.lets x)).length).sum
theorem pot_mono (fl : List Rw) (fs : List Str) (x : Str) : ∀ xs : List Str, pot fl xs (fs ++ [x]) ≤ pot fl xs fs
  | [] => Nat.le_refl _
  | z :: r => by
    have ih := pot_mono fl fs x r
    unfold pot at ih ⊢
    by_cases c : z ∈ fs
    · rw [List.filter_cons_of_neg (by simp [c]), List.filter_cons_of_neg (by simp [c])]; exact ih
    · by_cases d : z = x
      · rw [List.filter_cons_of_neg (by simp [d]), List.filter_cons_of_pos (by simp [c])]
        rw [List.map_cons, List.sum_cons]; omega
      · rw [List.filter_cons_of_pos (by simp [c, d]), List.filter_cons_of_pos (by simp [c])]
        rw [List.map_cons, List.sum_cons, List.map_cons, List.sum_cons]; omega
theorem pot_step (fl : List Rw) {fs : List Str} {x : Str} (hf : x ∉ fs) : ∀ {xs : List Str}, x ∈ xs → pot fl xs (fs ++ [x]) + (fl.flatMap (Rw.lets x)).length ≤ pot fl xs fs
  | [], h => absurd h List.not_mem_nil
  | z :: r, h => by
    have mo := pot_mono fl fs x r
    by_cases d : z = x
    · unfold pot at mo ⊢
      rw [List.filter_cons_of_neg (by simp [d]), List.filter_cons_of_pos (by simp [d, hf])]
      rw [List.map_cons, List.sum_cons, d]; omega
    · have ih := pot_step fl hf (xs := r) (by rcases List.mem_cons.mp h with e | e; exact absurd e.symm d; exact e)
      unfold pot at ih ⊢
      by_cases c : z ∈ fs
      · rw [List.filter_cons_of_neg (by simp [c]), List.filter_cons_of_neg (by simp [c])]; exact ih
      · rw [List.filter_cons_of_pos (by simp [c, d]), List.filter_cons_of_pos (by simp [c])]
        rw [List.map_cons, List.sum_cons, List.map_cons, List.sum_cons]; omega
theorem pot_le {ys : List Str} {fl : List Rw} (ok : ∀ r ∈ fl, OkR ys r) (fs : List Str) : ∀ xs : List Str, pot fl xs fs ≤ xs.length * (7 * fl.length)
  | [] => Nat.zero_le _
  | z :: r => by
    have ih := pot_le ok fs r
    have := lets_lens ok z
    unfold pot at ih ⊢
    rw [List.length_cons, Nat.succ_mul]
    by_cases c : z ∈ fs
    · rw [List.filter_cons_of_neg (by simp [c])]; omega
    · rw [List.filter_cons_of_pos (by simp [c]), List.map_cons, List.sum_cons]; omega
/-! the rounds -/
def st1 (F : List Str) (r : Rw) : List Str := match r with
  | .lt _ y t => if y ∈ F then F ++ t.names.filter (fun x => !decide (x ∈ F)) else F
  | .thr _ _ _ _ => F
  | .tell _ _ => F
  | .when _ _ _ _ _ _ => F
  | .times _ _ _ _ => F
def rnd (fl : List Rw) (F : List Str) : List Str := fl.foldl st1 F
def rnds (fl : List Rw) : Nat → List Str
  | 0 => fl.flatMap Rw.told
  | n + 1 => rnd fl (rnds fl n)
theorem st1_sub (F : List Str) (r : Rw) : ∀ x ∈ F, x ∈ st1 F r := by
  intro x h
  cases r with
  | lt p y t => simp only [st1]; split; exact List.mem_append_left _ h; exact h
  | _ => exact h
theorem rnd_sub : ∀ (fl : List Rw) (F : List Str), ∀ x ∈ F, x ∈ rnd fl F
  | [], _, _, h => h
  | r :: rs, F, x, h => rnd_sub rs (st1 F r) x (st1_sub F r x h)
theorem st1_need {fl : List Rw} {F : List Str} {r : Rw} (hr : r ∈ fl) (h : ∀ x ∈ F, Need fl x) : ∀ x ∈ st1 F r, Need fl x := by
  intro x hx
  cases r with
  | lt p y t =>
    simp only [st1] at hx
    split at hx
    · rename_i hy
      rcases List.mem_append.mp hx with e | e
      · exact h x e
      · exact .step hr (h y hy) (List.mem_filter.mp e).1
    · exact h x hx
  | _ => exact h x hx
theorem rnd_need {fl : List Rw} : ∀ (rs : List Rw) (F : List Str), (∀ r ∈ rs, r ∈ fl) → (∀ x ∈ F, Need fl x) → ∀ x ∈ rnd rs F, Need fl x
  | [], _, _, h => h
  | r :: rs, F, hs, h => rnd_need rs (st1 F r) (fun q hq => hs q (List.mem_cons_of_mem _ hq)) (st1_need (hs r List.mem_cons_self) h)
theorem rnds_need (fl : List Rw) : ∀ n, ∀ x ∈ rnds fl n, Need fl x
  | 0 => fun _ h => told_need h
  | n + 1 => rnd_need fl (rnds fl n) (fun _ h => h) (rnds_need fl n)
/-- a let whose name was found when it was gone over has all its names found -/
def Sat (F : List Str) (r : Rw) : Prop := ∀ p y t, r = .lt p y t → y ∈ F → ∀ x ∈ t.names, x ∈ F
def act (fl : List Rw) (F : List Str) : Nat := fl.countP fun r => match r with
  | .lt _ y _ => decide (y ∈ F)
  | _ => false
theorem st1_sat {F : List Str} {p : Addr} {y : Str} {t : Tm} (h : y ∈ F) : ∀ x ∈ t.names, x ∈ st1 F (.lt p y t) := by
  intro x hx
  simp only [st1]
  rw [if_pos h]
  by_cases c : x ∈ F
  · exact List.mem_append_left _ c
  · exact List.mem_append_right _ (List.mem_filter.mpr ⟨hx, by simp [c]⟩)
theorem rnd_sat : ∀ (fl : List Rw) (F : List Str) {p : Addr} {y : Str} {t : Tm}, Rw.lt p y t ∈ fl → y ∈ F → ∀ x ∈ t.names, x ∈ rnd fl F
  | [], _, _, _, _, h, _ => absurd h List.not_mem_nil
  | r :: rs, F, p, y, t, h, hy => fun x hx => by
    rcases List.mem_cons.mp h with e | e
    · subst e
      exact rnd_sub rs _ x (st1_sat hy x hx)
    · exact rnd_sat rs (st1 F r) e (st1_sub F r y hy) x hx
theorem act_mono {F G : List Str} (h : ∀ x ∈ F, x ∈ G) : ∀ fl : List Rw, act fl F ≤ act fl G
  | fl => List.countP_mono_left fun r _ hr => by
    cases r with
    | lt p y t => exact decide_eq_true (h y (of_decide_eq_true hr))
    | _ => exact hr
theorem act_lt {F G : List Str} (h : ∀ x ∈ F, x ∈ G) {p : Addr} {y : Str} {t : Tm} (h1 : y ∉ F) (h2 : y ∈ G) : ∀ {fl : List Rw}, Rw.lt p y t ∈ fl → act fl F + 1 ≤ act fl G
  | [], m => absurd m List.not_mem_nil
  | r :: rs, m => by
    have mo := act_mono h rs
    rcases List.mem_cons.mp m with e | e
    · subst e
      unfold act at mo ⊢
      rw [List.countP_cons_of_neg (by simp [h1]), List.countP_cons_of_pos (by simp [h2])]
      omega
    · have ih := act_lt h h1 h2 e
      have c1 := act_mono h [r]
      unfold act at ih c1 ⊢
      rw [List.countP_cons, List.countP_cons]
      rw [List.countP_cons, List.countP_cons, List.countP_nil, List.countP_nil] at c1
      omega
theorem act_le (fl : List Rw) (F : List Str) : act fl F ≤ fl.length := List.countP_le_length
def Clo (fl : List Rw) (F : List Str) : Prop := ∀ r ∈ fl, Sat F r
theorem not_clo {fl : List Rw} {F : List Str} (h : ¬ Clo fl F) : ∃ p y t, Rw.lt p y t ∈ fl ∧ y ∈ F ∧ ∃ x ∈ t.names, x ∉ F := by
  apply Classical.byContradiction
  intro k
  refine h fun r hr p y t e hy x hx => Classical.byContradiction fun c => k ⟨p, y, t, by rw [← e]; exact hr, hy, x, hx, c⟩
theorem clo_rnd {fl : List Rw} {F : List Str} (c : Clo fl F) : ∀ (rs : List Rw), (∀ r ∈ rs, r ∈ fl) → rnd rs F = F
  | [], _ => rfl
  | r :: rs, hs => by
    have e : st1 F r = F := by
      cases r with
      | lt p y t =>
        simp only [st1]
        split
        · rename_i hy
          have : t.names.filter (fun x => !decide (x ∈ F)) = [] := List.filter_eq_nil_iff.mpr fun x hx => by
            have := c _ (hs _ List.mem_cons_self) p y t rfl hy x hx
            simp [this]
          rw [this, List.append_nil]
        · rfl
      | _ => rfl
    show rnd rs (st1 F r) = F
    rw [e]
    exact clo_rnd c rs fun q hq => hs q (List.mem_cons_of_mem _ hq)
theorem rnds_act (fl : List Rw) : ∀ n, ¬ Clo fl (rnds fl n) → n + 1 ≤ act fl (rnds fl n)
  | 0, h => by
    obtain ⟨p, y, t, m, hy, _⟩ := not_clo h
    have := act_lt (F := []) (G := rnds fl 0) (fun x hx => absurd hx List.not_mem_nil) List.not_mem_nil hy m
    omega
  | n + 1, h => by
    have h0 : ¬ Clo fl (rnds fl n) := fun c => h (by
      show Clo fl (rnd fl (rnds fl n))
      rw [clo_rnd c fl fun _ z => z]
      exact c)
    have ih := rnds_act fl n h0
    obtain ⟨p, y, t, m, hy, x, hx, hn⟩ := not_clo h
    have := act_lt (F := rnds fl n) (G := rnds fl (n + 1)) (rnd_sub fl _) (fun z => hn (rnd_sat fl _ m z x hx)) hy m
    omega
theorem rnds_done (fl : List Rw) (x : Str) : x ∈ rnds fl fl.length ↔ Need fl x := by
  refine ⟨rnds_need fl _ x, fun n => ?_⟩
  have c : Clo fl (rnds fl fl.length) := Classical.byContradiction fun k => by
    have := rnds_act fl _ k
    have := act_le fl (rnds fl fl.length)
    omega
  have sub : ∀ n, ∀ x ∈ fl.flatMap Rw.told, x ∈ rnds fl n := fun n => by
    induction n with
    | zero => exact fun _ h => h
    | succ n ih => exact fun x h => rnd_sub fl _ x (ih x h)
  induction n with
  | base h1 m => exact sub _ _ (List.mem_flatMap.mpr ⟨_, h1, m⟩)
  | step h1 _ m ih => exact c _ h1 _ _ _ rfl ih _ m
theorem st1_len {xs : List Str} {F : List Str} {r : Rw} (ok : OkR xs r) : (st1 F r).length ≤ F.length + 7 := by
  cases r with
  | lt p y t =>
    have h := ok.asked.1
    have h : t.names.length ≤ 7 := h
    have := List.length_filter_le (fun x => !decide (x ∈ F)) t.names
    simp only [st1]
    split
    · rw [List.length_append]; omega
    · omega
  | _ => exact Nat.le_add_right _ _
theorem rnd_len {xs : List Str} : ∀ (fl : List Rw) (F : List Str), (∀ r ∈ fl, OkR xs r) → (rnd fl F).length ≤ F.length + 7 * fl.length
  | [], _, _ => Nat.le_refl _
  | r :: rs, F, ok => by
    have := rnd_len rs (st1 F r) fun q hq => ok q (List.mem_cons_of_mem _ hq)
    have := st1_len (F := F) (ok r List.mem_cons_self)
    show (rnd rs (st1 F r)).length ≤ _
    rw [List.length_cons]
    omega
theorem rnds_len {xs : List Str} {fl : List Rw} (ok : ∀ r ∈ fl, OkR xs r) : ∀ n, (rnds fl n).length ≤ (n + 1) * (7 * fl.length)
  | 0 => by have := told_lens ok; show (fl.flatMap Rw.told).length ≤ _; omega
  | n + 1 => by
    have := rnds_len ok n
    have := rnd_len fl (rnds fl n) ok
    rw [Nat.succ_mul]
    show (rnd fl (rnds fl n)).length ≤ _
    omega
/-! unlike texts of few -/
theorem few_len {α : Type} [DecidableEq α] : ∀ {ds xs : List α}, ds.Nodup → (∀ x ∈ ds, x ∈ xs) → ds.length ≤ xs.length
  | [], _, _, _ => Nat.zero_le _
  | d :: ds, xs, nd, h => by
    have hd := h d List.mem_cons_self
    have nd' := List.nodup_cons.mp nd
    have := few_len (ds := ds) (xs := xs.erase d) nd'.2 fun x hx => (List.mem_erase_of_ne (fun e => nd'.1 (by rw [← e]; exact hx))).mpr (h x (List.mem_cons_of_mem _ hx))
    have := List.length_erase_of_mem hd
    have := List.length_pos_of_mem hd
    rw [List.length_cons]
    omega
theorem nums_succ (fl : List Rw) (ss : List Str) (n : Nat) : nums fl ss (n + 1) = nums fl ss n ++ (if idA fl ss n then [(n : Int)] else []) := by
  unfold nums
  rw [List.range_succ, List.filter_append, List.map_append]
  congr 1
  by_cases c : idA fl ss n = true
  · rw [List.filter_cons_of_pos c, if_pos c]; rfl
  · rw [List.filter_cons_of_neg c, if_neg c]; rfl
theorem nums_len (fl : List Rw) (ss : List Str) (n : Nat) : (nums fl ss n).length ≤ n := by
  unfold nums
  rw [List.length_map]
  exact Nat.le_trans (List.length_filter_le _ _) (by rw [List.length_range]; exact Nat.le_refl _)
theorem sets_thr {H : Hp} {r : Rw} (h : RwH H r) : (decide (r.w ∈ thrW) || decide (r.w = "let")) = r.sets.isSome := by
  cases r with
  | thr p w x vs => rw [show (Rw.thr p w x vs).w = w from rfl, decide_eq_true (show w ∈ thrW from h.2)]; rfl
  | lt p x t => show (decide ((Rw.lt p x t).w ∈ thrW) || decide (("let" : Str) = "let")) = true; simp
  | tell p t => show (decide (("tell" : Str) ∈ thrW) || decide (("tell" : Str) = "let")) = false; decide +kernel
  | when p pa pb t a b => show (decide (("when" : Str) ∈ thrW) || decide (("when" : Str) = "let")) = false; decide +kernel
  | times p pb n b => show (decide (("times" : Str) ∈ thrW) || decide (("times" : Str) = "let")) = false; decide +kernel
end Mine
namespace Mine
open PySem L2
theorem is_let {H : Hp} {r : Rw} (h : RwH H r) (c : r.w = "let") : ∃ p x t, r = .lt p x t := by
  cases r with
  | lt p x t => exact ⟨p, x, t, rfl⟩
  | thr p w x vs =>
    have hw : w ∈ thrW := h.2
    have c : w = "let" := c
    rw [c] at hw
    exact absurd hw (by decide +kernel)
  | tell p t => exact absurd (show ("tell" : Str) = "let" from c) (by decide +kernel)
  | when p pa pb t a b => exact absurd (show ("when" : Str) = "let" from c) (by decide +kernel)
  | times p pb n b => exact absurd (show ("times" : Str) = "let" from c) (by decide +kernel)
theorem lets_nil {r : Rw} (c : ¬ r.w = "let") (x : Str) : r.lets x = [] := by
  cases r with
  | lt p y t => exact absurd rfl c
  | _ => rfl
theorem told_in {H : Hp} {r : Rw} (h : RwH H r) (c : r.w ∈ (["tell", "when"] : List Str)) : r.told = r.asked := by
  cases r with
  | lt p y t => exact absurd (show ("let" : Str) ∈ (["tell", "when"] : List Str) from c) (by decide +kernel)
  | thr p w x vs => rfl
  | tell p t => rfl
  | when p pa pb t a b => rfl
  | times p pb n b => rfl
theorem told_out {r : Rw} (c : ¬ r.w ∈ (["tell", "when"] : List Str)) : r.told = [] := by
  cases r with
  | tell p t => exact absurd (show ("tell" : Str) ∈ (["tell", "when"] : List Str) from List.mem_cons_self) c
  | when p pa pb t a b => exact absurd (show ("when" : Str) ∈ (["tell", "when"] : List Str) from List.mem_cons_of_mem _ List.mem_cons_self) c
  | _ => rfl
theorem one_in {H : Hp} {r : Rw} (h : RwH H r) (c : r.w ∈ (["tell", "when"] : List Str)) : ∃ (t : Tm) (vs : List V), H r.p = some (.tup (.str r.w :: .ref t.p :: vs)) ∧ TmH H t ∧ r.tm = [t] ∧ r.told = t.names := by
  cases r with
  | lt p y t => exact absurd (show ("let" : Str) ∈ (["tell", "when"] : List Str) from c) (by decide +kernel)
  | thr p w x vs =>
    have hw : w ∈ thrW := h.2
    have c : w ∈ (["tell", "when"] : List Str) := c
    simp only [List.mem_cons, List.not_mem_nil, or_false] at c
    rcases c with e | e <;> (rw [e] at hw; exact absurd hw (by decide +kernel))
  | tell p t => exact ⟨t, _, h.1, h.2, rfl, rfl⟩
  | when p pa pb t a b => exact ⟨t, _, h.1, h.2.1, rfl, rfl⟩
  | times p pb n b => exact absurd (show ("times" : Str) ∈ (["tell", "when"] : List Str) from c) (by decide +kernel)
/-! the dict of names behind, as it grows -/
structure BI (H G : Hp) (d : Addr) (kvs : List (Key × V)) (fl : List Rw) (n : Nat) : Prop where
  sm : Same H G
  nd : H d = none
  dc : G d = some (.dK kvs)
  ln : kvs.length ≤ n
  vl : ∀ x : Str, (valV kvs (Sum.inr x : Key) = none ∧ fl.flatMap (Rw.lets x) = []) ∨ ∃ l, valV kvs (Sum.inr x : Key) = some (.ref l) ∧ G l = some (.lst ((fl.flatMap (Rw.lets x)).map V.str)) ∧ H l = none
  inj : ∀ (x y : Str) (l : Addr), valV kvs (Sum.inr x : Key) = some (.ref l) → valV kvs (Sum.inr y : Key) = some (.ref l) → x = y
theorem BI.same {H G G' : Hp} {d : Addr} {kvs : List (Key × V)} {fl : List Rw} {n : Nat} (b : BI H G d kvs fl n) (s : Same G G') : BI H G' d kvs fl n :=
  ⟨b.sm.trans s, b.nd, s _ _ b.dc, b.ln, fun x => by
    rcases b.vl x with h | ⟨l, h1, h2, h3⟩
    · exact .inl h
    · exact .inr ⟨l, h1, s _ _ h2, h3⟩, b.inj⟩
theorem BI.bh {H G : Hp} {d : Addr} {kvs : List (Key × V)} {fl : List Rw} {n : Nat} (b : BI H G d kvs fl n) : Bh G d fl := ⟨kvs, b.dc, fun x => by
  rcases b.vl x with h | ⟨l, h1, h2, _⟩
  · exact .inl h
  · exact .inr ⟨l, h1, h2⟩⟩
theorem fm_snoc {α : Type} (f : Rw → List α) (fl : List Rw) (r : Rw) : (fl ++ [r]).flatMap f = fl.flatMap f ++ f r := by
  rw [List.flatMap_append]; simp
theorem BI.skip {H G : Hp} {d : Addr} {kvs : List (Key × V)} {fl : List Rw} {n : Nat} {r : Rw} (b : BI H G d kvs fl n) (h : ∀ x, r.lets x = []) : BI H G d kvs (fl ++ [r]) (n + 1) :=
  ⟨b.sm, b.nd, b.dc, Nat.le_succ_of_le b.ln, fun x => by rw [fm_snoc, h x, List.append_nil]; exact b.vl x, b.inj⟩
theorem BI.more {H G : Hp} {d l : Addr} {kvs : List (Key × V)} {fl : List Rw} {p : Addr} {x : Str} {t : Tm} {n : Nat} (b : BI H G d kvs fl n) (e : valV kvs (Sum.inr x : Key) = some (.ref l)) :
    BI H (upd G l (.lst ((fl.flatMap (Rw.lets x)).map V.str ++ t.names.map V.str))) d kvs (fl ++ [.lt p x t]) n := by
  have hx : G l = some (.lst ((fl.flatMap (Rw.lets x)).map V.str)) ∧ H l = none := by
    rcases b.vl x with ⟨h, _⟩ | ⟨l', h1, h2, h3⟩
    · rw [h] at e; cases e
    · rw [h1] at e; cases e; exact ⟨h2, h3⟩
  refine ⟨same_lst b.sm hx.2, b.nd, ?_, b.ln, fun y => ?_, b.inj⟩
  · rw [upd_ne (ne_of b.dc hx.1 (by intro z; cases z))]; exact b.dc
  · rw [fm_snoc]
    by_cases c : y = x
    · subst c
      refine .inr ⟨l, e, ?_, hx.2⟩
      rw [upd_same, show (Rw.lt p y t).lets y = t.names from if_pos rfl, List.map_append]
    · rw [show (Rw.lt p x t).lets y = [] from if_neg (fun z => c z.symm), List.append_nil]
      rcases b.vl y with h | ⟨l', h1, h2, h3⟩
      · exact .inl h
      · refine .inr ⟨l', h1, ?_, h3⟩
        rw [upd_ne (fun z => c (b.inj y x l (by rw [← z]; exact h1) e))]
        exact h2
theorem BI.new {H G : Hp} {d l : Addr} {kvs : List (Key × V)} {fl : List Rw} {x : Str} {n : Nat} (b : BI H G d kvs fl n) (hl : G l = none) (e : valV kvs (Sum.inr x : Key) = none) :
    BI H (upd (upd G l (.lst [])) d (.dK (putK kvs (Sum.inr x : Key) (.ref l)))) d (putK kvs (Sum.inr x : Key) (.ref l)) fl (n + 1) := by
  have n0 : H l = none := b.sm.free hl
  have ne : d ≠ l := ne_of_none b.dc hl
  refine ⟨fun a o h => ?_, b.nd, upd_same, ?_, fun y => ?_, fun y z l' h1 h2 => ?_⟩
  · rw [upd_ne (ne_of_none h b.nd), upd_ne (ne_of_none h n0)]
    exact b.sm _ _ h
  · have := length_putK kvs (Sum.inr x : Key) (.ref l)
    have := b.ln
    omega
  · rw [valV_put]
    by_cases c : y = x
    · subst c
      have ev : fl.flatMap (Rw.lets y) = [] := by
        rcases b.vl y with ⟨_, h⟩ | ⟨l', h1, _⟩
        · exact h
        · rw [h1] at e; cases e
      refine .inr ⟨l, if_pos rfl, ?_, n0⟩
      rw [upd_ne ne.symm, upd_same, ev]
      rfl
    · rw [if_neg (fun z => c (Sum.inr.inj z))]
      rcases b.vl y with h | ⟨l', h1, h2, h3⟩
      · exact .inl h
      · refine .inr ⟨l', h1, ?_, h3⟩
        rw [upd_ne (ne_of h2 b.dc (by intro z; cases z)), upd_ne (ne_of_none h2 hl)]
        exact h2
  · have fr : ∀ w, valV kvs (Sum.inr w : Key) = some (.ref l) → False := fun w h => by
      rcases b.vl w with ⟨h1, _⟩ | ⟨l2, h1, h2, _⟩
      · rw [h1] at h; cases h
      · rw [h1] at h; cases h; rw [h2] at hl; cases hl
    rw [valV_put] at h1 h2
    by_cases c : y = x
    · by_cases c2 : z = x
      · rw [c, c2]
      · rw [if_pos (by rw [c])] at h1
        rw [if_neg (fun q => c2 (Sum.inr.inj q))] at h2
        cases h1
        exact (fr z h2).elim
    · rw [if_neg (fun q => c (Sum.inr.inj q))] at h1
      by_cases c2 : z = x
      · rw [if_pos (by rw [c2])] at h2
        cases h2
        exact (fr y h1).elim
      · rw [if_neg (fun q => c2 (Sum.inr.inj q))] at h2
        exact b.inj y z l' h1 h2
/-! found: each name with True -/
def fdK (fs : List Str) : List (Key × V) := fs.map fun x => ((Sum.inr x : Key), V.bl true)
theorem fd_val (x : Str) : ∀ fs : List Str, valV (fdK fs) (Sum.inr x : Key) = if x ∈ fs then some (.bl true) else none
  | [] => rfl
  | y :: r => by
    show valV (((Sum.inr y : Key), V.bl true) :: fdK r) (Sum.inr x : Key) = _
    by_cases c : y = x
    · rw [valV_pos (by rw [c]), if_pos (by rw [c]; exact List.mem_cons_self)]
    · rw [valV_neg (fun z => c (Sum.inr.inj z)), fd_val x r]
      have : x ∈ y :: r ↔ x ∈ r := by rw [List.mem_cons]; exact ⟨fun h => by rcases h with e | e; exact absurd e.symm c; exact e, .inr⟩
      simp only [this]
theorem fd_put {fs : List Str} {x : Str} (h : x ∉ fs) : putK (fdK fs) (Sum.inr x : Key) (.bl true) = fdK (fs ++ [x]) := by
  rw [putK_new _ (by rw [fd_val, if_neg h])]
  unfold fdK
  rw [List.map_append]
  rfl
theorem fd_keys (fs : List Str) : (fdK fs).map (fun e => kV e.1) = fs.map V.str := by
  unfold fdK
  rw [List.map_map]
  rfl
theorem fd_len (fs : List Str) : (fdK fs).length = fs.length := List.length_map _
theorem BI.up {H G : Hp} {d : Addr} {kvs : List (Key × V)} {fl : List Rw} {n m : Nat} (b : BI H G d kvs fl n) (h : n ≤ m) : BI H G d kvs fl m := ⟨b.sm, b.nd, b.dc, Nat.le_trans b.ln h, b.vl, b.inj⟩
theorem bh_line {xs : List Str} {fl : List Rw} {i : Nat} {x : Str} {t : Tm} {p : Addr} (ok : ∀ r ∈ fl, OkR xs r) (hn : fl.length ≤ 1300) (h : OkR xs (.lt p x t)) : (((fl.take i).flatMap (Rw.lets x)).map V.str).length + (t.names.map V.str).length ≤ sizeLine := by
  have h1 := lets_lens (fl := fl.take i) (fun r hr => ok r (List.mem_of_mem_take hr)) x
  have h2 := h.asked.1
  have h2 : t.names.length ≤ 7 := h2
  rw [List.length_take] at h1
  rw [List.length_map, List.length_map]
  exact Nat.le_of_lt (big16 (by omega))
theorem isD_k {H : Hp} {a : Addr} {kvs : List (Key × V)} (e : H a = some (.dK kvs)) : IsD H a := .inl ⟨_, .inl e⟩
theorem idl_sets {ss : List Str} {r : Rw} {x : Str} (h : r.sets = some x) : idl ss r = !decide (x ∈ ss) := by unfold idl; rw [h]
theorem idl_none {ss : List Str} {r : Rw} (h : r.sets = none) : idl ss r = false := by unfold idl; rw [h]
theorem sets_at {H : Hp} {r : Rw} {x : Str} (h : RwH H r) (e : r.sets = some x) : ∃ vs, H r.p = some (.tup (.str r.w :: .str x :: vs)) := by
  cases r with
  | thr p w y vs => cases e; exact ⟨_, h.1⟩
  | lt p y t => cases e; exact ⟨_, h.1⟩
  | tell p t => cases e
  | when p pa pb t a b => cases e
  | times p pb n b => cases e
theorem notin_strs (x : Str) (ss : List Str) : (!inV (V.str x) (ss.map V.str)) = !decide (x ∈ ss) := by rw [inV_strs]
theorem at1 {v u : V} {r : List V} : atI (v :: u :: r) 1 = some u := by
  unfold atI ixN
  rw [if_pos (by decide), if_pos (by rw [List.length_cons, List.length_cons]; omega)]
  rfl
theorem PrgH.okf {H : Hp} {p : Addr} {xs : List Str} {rs : List Rw} (P : PrgH H p xs rs) : ∀ r ∈ flatL rs, OkR xs r := P.ok
theorem PrgH.fl {H : Hp} {p : Addr} {xs : List Str} {rs : List Rw} (P : PrgH H p xs rs) : (flatL rs).length ≤ 1300 := by rw [flatL_len]; exact P.cnt
end Mine
namespace Mine
open PySem L2
/-! the words that are made differ in their last letter -/
def lc (s : Str) : Nat := s.cps.toList.getLast?.getD 0
theorem lc_snoc (a : Str) (c : Nat) : lc (a ++ (⟨#[c]⟩ : Str)) = c := by
  show (((a.cps ++ #[c]).toList).getLast?).getD 0 = c
  rw [Array.toList_append]
  simp
theorem letter_at {s : Nat} (h : s < 26) : atI ("abcdefghijklmnopqrstuvwxyz" : Str).cps.toList ((s : Int) % 26) = some (97 + s) := by
  have e : ((s : Int) % 26) = (s : Int) := Int.emod_eq_of_lt (by omega) (by omega)
  rw [e]
  have : ∀ n : Fin 26, atI ("abcdefghijklmnopqrstuvwxyz" : Str).cps.toList ((n.val : Nat) : Int) = some (97 + n.val) := by decide +kernel
  exact this ⟨s, h⟩
theorem letter_a {s : Nat} (h : s < 26) : atI ("abcdefghijklmnopqrstuvwxyz" : Str).cps.toList ((s : Int) / 26 % 26) = some 97 := by
  have e : ((s : Int) / 26 % 26) = 0 := by omega
  rw [e]
  decide +kernel
def mw (L : List Str) (s : Nat) : Nat := if s = 0 then 24 else L.countP fun w => decide (97 + s ≤ lc w + 1)
theorem mw_one {L : List Str} (h : L.length ≤ 23) (s : Nat) (hs : s ≠ 0) : mw L s ≤ 23 := by
  unfold mw
  rw [if_neg hs]
  exact Nat.le_trans List.countP_le_length h
theorem mw_step {L : List Str} (hL : L.length ≤ 23) {s : Nat} {w : Str} (hw : w ∈ L) (hs : s = 0 ∨ lc w + 1 = 97 + s) : mw L (s + 1) + 1 ≤ mw L s := by
  rcases hs with e | e
  · subst e
    have := mw_one hL 1 (by decide)
    show mw L 1 + 1 ≤ 24
    omega
  · unfold mw
    rw [if_neg (by omega)]
    by_cases c : s = 0
    · rw [if_pos c]
      have := List.countP_le_length (p := fun w => decide (97 + (s + 1) ≤ lc w + 1)) (l := L)
      omega
    · rw [if_neg c]
      clear hL c
      induction L with
      | nil => exact absurd hw List.not_mem_nil
      | cons z r ih =>
        have mo : List.countP (fun w => decide (97 + (s + 1) ≤ lc w + 1)) r ≤ List.countP (fun w => decide (97 + s ≤ lc w + 1)) r := List.countP_mono_left fun x _ hx => decide_eq_true (by have := of_decide_eq_true hx; omega)
        rw [List.countP_cons, List.countP_cons]
        by_cases d : w = z
        · subst d
          rw [if_neg (by simp; omega), if_pos (by simp; omega)]
          omega
        · have := ih (by rcases List.mem_cons.mp hw with q | q; exact absurd q d; exact q)
          by_cases c1 : 97 + (s + 1) ≤ lc z + 1
          · rw [if_pos (by simpa using c1), if_pos (by simp; omega)]; omega
          · rw [if_neg (by simpa using c1)]; split <;> omega
/-! lists of texts and of ints, compared -/
theorem repL_strs {K : PySem.W.Frag} {H : Hp} : ∀ ns : List Str, RepL K H (ns.map PyData.str) (ns.map V.str)
  | [] => rfl
  | n :: r => ⟨_, _, rfl, rfl, repL_strs r⟩
theorem lay_strs : ∀ {ns : List Str}, (∀ x ∈ ns, PyData.strOk x = true) → PyData.canLayAll0 (ns.map PyData.str) = true
  | [], _ => rfl
  | n :: r, h => by
    have h1 := h n List.mem_cons_self
    have h2 := lay_strs (ns := r) fun x hx => h x (List.mem_cons_of_mem _ hx)
    simp [PyData.canLayAll0, PyData.canLay0, h1, h2]
theorem depth_strs : ∀ ns : List Str, PyData.depthAll (ns.map PyData.str) = 0
  | [] => rfl
  | _ :: r => by simp [PyData.depthAll, PyData.depth, depth_strs r]
theorem shapedL_strs {ns : List Str} (h : ∀ x ∈ ns, PyData.strOk x = true) : SeqAt.shaped (.list (ns.map PyData.str)) = true := by
  simp [SeqAt.shaped, PyData.canLay0, PyData.depth, lay_strs h, depth_strs]
theorem shapedL_ints (ns : List Int) : SeqAt.shaped (.list (ns.map PyData.int)) = true := by
  simp [SeqAt.shaped, PyData.canLay0, PyData.depth, lay_ints, depth_ints]
theorem nomixL_ints (ns : List Int) : SeqAt.noMix (.list (ns.map PyData.int)) (.list (ns.map PyData.int)) = true := by
  simp [SeqAt.noMix, nomix_ints]
theorem nomix_strs : ∀ ns ms : List Str, SeqAt.noMixAll (ns.map PyData.str) (ms.map PyData.str) = true
  | [], [] => rfl
  | [], _ :: _ => rfl
  | _ :: _, [] => rfl
  | _ :: r, _ :: t => by simp [SeqAt.noMixAll, SeqAt.noMix, nomix_strs r t]
theorem nomixL_strs (ns : List Str) : SeqAt.noMix (.list (ns.map PyData.str)) (.list (ns.map PyData.str)) = true := by
  simp [SeqAt.noMix, nomix_strs]
theorem sameL_ints (ns : List Int) : PySem.Spec.same (.list (ns.map PyData.int)) (.list (ns.map PyData.int)) = true := by
  rw [show PySem.Spec.same (.list (ns.map PyData.int)) (.list (ns.map PyData.int)) = PySem.Spec.sameAll (ns.map PyData.int) (ns.map PyData.int) from by simp only [PySem.Spec.same], same_ints]
  exact decide_eq_true rfl
theorem same_strs : ∀ ns : List Str, PySem.Spec.sameAll (ns.map PyData.str) (ns.map PyData.str) = true
  | [] => by simp [PySem.Spec.sameAll]
  | a :: r => by simp only [List.map_cons, PySem.Spec.sameAll, PySem.Spec.same, same_strs r]; simp
theorem sameL_strs (ns : List Str) : PySem.Spec.same (.list (ns.map PyData.str)) (.list (ns.map PyData.str)) = true := by
  rw [show PySem.Spec.same (.list (ns.map PyData.str)) (.list (ns.map PyData.str)) = PySem.Spec.sameAll (ns.map PyData.str) (ns.map PyData.str) from by simp only [PySem.Spec.same], same_strs]
/-! rows within a row -/
def Rw.inn : Rw → List (Addr × List Rw)
  | .when _ pa pb _ a b => [(pa, a), (pb, b)]
  | .times _ pb _ b => [(pb, b)]
  | .thr _ _ _ _ => []
  | .lt _ _ _ => []
  | .tell _ _ => []
theorem inn_flat (r : Rw) : flatL r.kids = r.inn.flatMap fun e => flatL e.2 := by
  cases r <;> simp [Rw.kids, Rw.inn, flatL_app, flatL]
theorem inn_in {H : Hp} {r : Rw} (h : RwH H r) (c : r.w ∈ (["when", "times"] : List Str)) : ∃ v, H r.p = some (.tup (.str r.w :: v :: r.inn.map fun e => V.ref e.1)) ∧ ∀ e ∈ r.inn, H e.1 = some (.tup (refs e.2)) ∧ RwsH H e.2 ∧ cntL e.2 ≤ r.cnt ∧ depL e.2 + 1 ≤ dep r := by
  cases r with
  | when p pa pb t a b =>
    refine ⟨_, h.1, fun e he => ?_⟩
    simp only [Rw.inn, List.mem_cons, List.not_mem_nil, or_false] at he
    rcases he with rfl | rfl
    · exact ⟨h.2.2.1, h.2.2.2.2.1, by simp only [Rw.cnt]; omega, by simp only [dep]; omega⟩
    · exact ⟨h.2.2.2.1, h.2.2.2.2.2, by simp only [Rw.cnt]; omega, by simp only [dep]; omega⟩
  | times p pb n b =>
    refine ⟨_, h.1, fun e he => ?_⟩
    simp only [Rw.inn, List.mem_cons, List.not_mem_nil, or_false] at he
    rcases he with rfl
    exact ⟨h.2.1, h.2.2, by simp only [Rw.cnt]; omega, by simp only [dep]; omega⟩
  | thr p w x vs =>
    have hw : w ∈ thrW := h.2
    have c : w ∈ (["when", "times"] : List Str) := c
    simp only [List.mem_cons, List.not_mem_nil, or_false] at c
    rcases c with e | e <;> (rw [e] at hw; exact absurd hw (by decide +kernel))
  | lt p y t => exact absurd (show ("let" : Str) ∈ (["when", "times"] : List Str) from c) (by decide +kernel)
  | tell p t => exact absurd (show ("tell" : Str) ∈ (["when", "times"] : List Str) from c) (by decide +kernel)
theorem inn_out {r : Rw} (c : ¬ r.w ∈ (["when", "times"] : List Str)) : r.kids = [] := by
  cases r with
  | when p pa pb t a b => exact absurd (show ("when" : Str) ∈ (["when", "times"] : List Str) from List.mem_cons_self) c
  | times p pb n b => exact absurd (show ("times" : Str) ∈ (["when", "times"] : List Str) from List.mem_cons_of_mem _ List.mem_cons_self) c
  | _ => rfl
theorem cut_two (a b : V) (r : List V) : cutV (a :: b :: r) (some 2) none = r := by
  unfold cutV
  rw [show HT.sIx (a :: b :: r).length 0 (some 2) = 2 from by rw [show (2 : Int) = ((2 : Nat) : Int) from rfl, HT.sIx_nat, List.length_cons, List.length_cons]; omega, show HT.sIx (a :: b :: r).length (a :: b :: r).length none = (a :: b :: r).length from rfl]
  show List.take ((a :: b :: r).length - 2) r = r
  rw [List.take_of_length_le (by simp)]
theorem cut_two_ne (a b : V) (r : List V) : ¬ (HT.sIx (a :: b :: r).length 0 (some 2) = 0 ∧ HT.sIx (a :: b :: r).length (a :: b :: r).length none = (a :: b :: r).length) := by
  rw [show HT.sIx (a :: b :: r).length 0 (some 2) = 2 from by rw [show (2 : Int) = ((2 : Nat) : Int) from rfl, HT.sIx_nat, List.length_cons, List.length_cons]; omega]
  exact fun z => absurd z.1 (by decide)
theorem setW_in {H : Hp} {r : Rw} (h : RwH H r) : decide (r.w ∈ (["ladder", "flat", "choose", "first", "let"] : List Str)) = r.sets.isSome := by
  cases r with
  | thr p w x vs =>
    have hw : w ∈ thrW := h.2
    refine decide_eq_true (show w ∈ (["ladder", "flat", "choose", "first", "let"] : List Str) from ?_)
    unfold thrW at hw
    simp only [List.mem_cons, List.not_mem_nil, or_false] at hw ⊢
    rcases hw with e | e | e | e <;> simp [e]
  | lt p x t => show decide (("let" : Str) ∈ (["ladder", "flat", "choose", "first", "let"] : List Str)) = true; decide +kernel
  | tell p t => show decide (("tell" : Str) ∈ (["ladder", "flat", "choose", "first", "let"] : List Str)) = false; decide +kernel
  | when p pa pb t a b => show decide (("when" : Str) ∈ (["ladder", "flat", "choose", "first", "let"] : List Str)) = false; decide +kernel
  | times p pb n b => show decide (("times" : Str) ∈ (["ladder", "flat", "choose", "first", "let"] : List Str)) = false; decide +kernel
theorem flat_take {rs : List Rw} {i : Nat} {r : Rw} (h : rs[i]? = some r) : flatL (rs.take (i + 1)) = flatL (rs.take i) ++ (r :: flatL r.kids) := by
  rw [take_snoc h, flatL_app]
  show _ ++ (r.flat ++ []) = _
  rw [List.append_nil, flat_eq]
theorem cnt_take {rs : List Rw} (i : Nat) : cntL (rs.take i) ≤ cntL rs := by
  have := cntL_app (rs.take i) (rs.drop i)
  rw [List.take_append_drop] at this
  omega
theorem rnd_take {fl : List Rw} {i : Nat} {r : Rw} (h : fl[i]? = some r) (F : List Str) : rnd (fl.take (i + 1)) F = st1 (rnd (fl.take i) F) r := by
  rw [take_snoc h]
  unfold rnd
  rw [List.foldl_append]
  rfl
theorem any_rep (n : Nat) : (List.replicate n false).any id = false := by
  induction n with
  | zero => rfl
  | succ n ih => rw [List.replicate_succ, List.any_cons, ih]; rfl
/-! the world of a program -/
def worldK (nl : Addr) (kd : Int) : List (Key × V) := [(Sum.inr "names", .ref nl), (Sum.inr "kinds", .int kd), (Sum.inr "wide", .int 4), (Sum.inr "left", .int 4), (Sum.inr "room", .int 12), (Sum.inr "quiet", .bl false), (Sum.inr "far", .int 4)]
theorem world_ok (nl : Addr) {kd : Int} (h0 : 0 ≤ kd) (h1 : kd ≤ 3) : Wk (mergeK [] (worldK nl kd)) nl := by
  unfold mergeK worldK
  simp only [List.foldl_cons, List.foldl_nil]
  refine ⟨?_, by rw [valV_put, if_neg (by decide +kernel), valV_put, if_neg (by decide +kernel), valV_put, if_neg (by decide +kernel), valV_put, if_neg (by decide +kernel), valV_put, if_neg (by decide +kernel), valV_put, if_neg (by decide +kernel), valV_put, if_pos rfl], ⟨kd, by rw [valV_put, if_neg (by decide +kernel), valV_put, if_neg (by decide +kernel), valV_put, if_neg (by decide +kernel), valV_put, if_neg (by decide +kernel), valV_put, if_neg (by decide +kernel), valV_put, if_pos rfl], h0, h1⟩, by rw [valV_put, if_neg (by decide +kernel), valV_put, if_neg (by decide +kernel), valV_put, if_neg (by decide +kernel), valV_put, if_neg (by decide +kernel), valV_put, if_pos rfl], ⟨4, by rw [valV_put, if_neg (by decide +kernel), valV_put, if_neg (by decide +kernel), valV_put, if_neg (by decide +kernel), valV_put, if_pos rfl]⟩, ⟨12, by rw [valV_put, if_neg (by decide +kernel), valV_put, if_neg (by decide +kernel), valV_put, if_pos rfl]⟩, ⟨false, by rw [valV_put, if_neg (by decide +kernel), valV_put, if_pos rfl]⟩, ⟨4, by rw [valV_put, if_pos rfl]⟩⟩
  have l1 := length_putK ([] : List (Key × V)) (Sum.inr "names" : Key) (.ref nl)
  have l2 := length_putK (putK ([] : List (Key × V)) (Sum.inr "names" : Key) (.ref nl)) (Sum.inr "kinds" : Key) (.int kd)
  generalize putK (putK ([] : List (Key × V)) (Sum.inr "names" : Key) (.ref nl)) (Sum.inr "kinds" : Key) (.int kd) = z2 at l2 ⊢
  have l3 := length_putK z2 (Sum.inr "wide" : Key) (.int 4)
  generalize putK z2 (Sum.inr "wide" : Key) (.int 4) = z3 at l3 ⊢
  have l4 := length_putK z3 (Sum.inr "left" : Key) (.int 4)
  generalize putK z3 (Sum.inr "left" : Key) (.int 4) = z4 at l4 ⊢
  have l5 := length_putK z4 (Sum.inr "room" : Key) (.int 12)
  generalize putK z4 (Sum.inr "room" : Key) (.int 12) = z5 at l5 ⊢
  have l6 := length_putK z5 (Sum.inr "quiet" : Key) (.bl false)
  generalize putK z5 (Sum.inr "quiet" : Key) (.bl false) = z6 at l6 ⊢
  have l7 := length_putK z6 (Sum.inr "far" : Key) (.int 4)
  rw [List.length_nil] at l1
  omega
theorem two_ok : WkT (mergeK [] [((Sum.inr "kinds" : Key), V.int 1), ((Sum.inr "wide" : Key), V.int 4)]) := by
  unfold mergeK
  simp only [List.foldl_cons, List.foldl_nil]
  exact ⟨by rw [valV_put, if_pos rfl], 1, by rw [valV_put, if_neg (by decide +kernel), valV_put, if_pos rfl], by decide, by decide⟩
theorem cut3 {xs : List Str} (h : xs.length = 7) : ∃ (y : Str) (ys : List Str), cutV (xs.map V.str) (some 3) none = (y :: ys).map V.str ∧ ys.length = 3 ∧ atI (xs.map V.str) 3 = some (.str y) := by
  match xs, h with
  | [a, b, c, d, e, f, g], _ => exact ⟨d, [e, f, g], rfl, rfl, rfl⟩
theorem strs_in {xs : List Str} {i : Int} (h0 : 0 ≤ i) (h1 : i < (xs.length : Int)) : ∃ x, atI (xs.map V.str) i = some (.str x) ∧ x ∈ xs := by
  obtain ⟨v, hv, ha⟩ := at_nat (xs := xs.map V.str) h0 (by rw [List.length_map]; exact h1)
  obtain ⟨x, rfl, hx⟩ := strs_at hv
  exact ⟨x, ha, List.mem_of_getElem? hx⟩
/-! plain letters -/
theorem Lt.ok {x : Str} (h : Lt x) : PyData.strOk x = true := by
  show x.cps.all (· < 0x110000) = true
  rw [← Array.all_toList, List.all_eq_true]
  intro c hc
  have := h c hc
  exact decide_eq_true (by omega)
theorem Lt.app {x y : Str} (a : Lt x) (b : Lt y) : Lt (x ++ y) := fun c hc => by
  have hc : c ∈ (x.cps ++ y.cps).toList := hc
  rw [Array.toList_append] at hc
  rcases List.mem_append.mp hc with e | e
  · exact a c e
  · exact b c e
theorem Lt.one {c : Nat} (h : c < 200) : Lt ⟨#[c]⟩ := fun d hd => by
  have : d = c := by simpa using hd
  omega
theorem letter_lt {r : Int} {c : Nat} (h : atI ("abcdefghijklmnopqrstuvwxyz" : Str).cps.toList r = some c) : c < 200 := by
  unfold atI at h
  obtain ⟨j, _, hj⟩ := Option.bind_eq_some_iff.mp h
  have m := List.mem_of_getElem? hj
  have : ∀ c ∈ ("abcdefghijklmnopqrstuvwxyz" : Str).cps.toList, c < 200 := by decide +kernel
  exact this c m
theorem glued_lt : ∀ {ys : List Str} {a : Array Nat}, (∀ c ∈ a.toList, c < 200) → (∀ y ∈ ys, Lt y) → ∀ c ∈ (ys.foldl (fun acc p => acc ++ ("" : Str).cps ++ p.cps) a).toList, c < 200
  | [], a, h, _ => h
  | y :: r, a, h, k => by
    rw [List.foldl_cons]
    refine glued_lt (fun c hc => ?_) fun z hz => k z (List.mem_cons_of_mem _ hz)
    rw [Array.toList_append, Array.toList_append] at hc
    rcases List.mem_append.mp hc with e | e
    · rcases List.mem_append.mp e with e | e
      · exact h c e
      · exact absurd e (by show ¬ c ∈ ([] : List Nat); exact List.not_mem_nil)
    · exact k y List.mem_cons_self c e
theorem join_lt {zs : List Str} (h : ∀ z ∈ zs, Lt z) : Lt (Txt.join "" zs) := by
  cases zs with
  | nil => exact fun c hc => absurd hc (by show ¬ c ∈ ([] : List Nat); exact List.not_mem_nil)
  | cons y r => exact glued_lt (h y List.mem_cons_self) fun z hz => h z (List.mem_cons_of_mem _ hz)
theorem slice_lt {x : Str} (h : Lt x) (lo hi : Option Int) : Lt (Txt.slice x lo hi) := by
  unfold Txt.slice
  split
  · exact h
  · intro c hc
    have hc : c ∈ List.filterMap (fun i => x.cps[i]?) (Builtin.Str.strSliceIndices lo hi 1 x.length) := by simpa using hc
    obtain ⟨i, _, e⟩ := List.mem_filterMap.mp hc
    exact h c (by
      have := Array.getElem?_toList (xs := x.cps) (i := i)
      rw [e] at this
      exact List.mem_of_getElem? this)
theorem NdS.so {rs : List Rw} {ss xs : List Str} (a : NdS rs ss) (ok : OkL xs rs) (so : ∀ x ∈ xs, Lt x) : ∀ x ∈ ss, PyData.strOk x = true := fun x hx => (so x (need_mem ok ((a.mem x).mp hx))).ok
end Mine
namespace Mine
open PySem L2
def top (i : Nat) : Stmt := PySem.Challenge.pw_pairedthrows_k36_needed_and_idle.main.body.getD i (.Pass ⟨0, 0, 0, 0⟩)
abbrev sPrt : Stmt := top 2
abbrev sNmI : Stmt := top 3
abbrev sSeN : Stmt := top 4
abbrev sAsk : Stmt := top 5
abbrev sAsS : Stmt := top 6
abbrev sInn : Stmt := top 7
abbrev sSts : Stmt := top 8
abbrev sRwI : Stmt := top 10
abbrev sNmB : Stmt := top 12
abbrev sNed : Stmt := top 13
abbrev sIsI : Stmt := top 14
abbrev sIdl : Stmt := top 15
abbrev sDeal : Stmt := top 17
abbrev sDraw : Stmt := top 18
abbrev sNms : Stmt := top 19
abbrev sStp : Stmt := top 20
abbrev sSum : Stmt := top 21
abbrev sThw : Stmt := top 22
abbrev sTrm : Stmt := top 23
abbrev sRow : Stmt := top 24
abbrev sRws : Stmt := top 25
abbrev sPrg : Stmt := top 26
abbrev sLst : Stmt := top 27
abbrev sNin : Stmt := top 28
abbrev sLNd : Stmt := top 29
abbrev sLId : Stmt := top 30
abbrev sRgt : Stmt := top 31
abbrev sChn : Stmt := top 32
abbrev sLaw : Stmt := top 33
section
variable {P : Program} {w : World} {K : PySem.W.Frag} {mg : Str → Option Value} {base : Heap}
theorem scDraw : FnScope ["_law_deal_here", "_law_many", "_law_number", "_law_one", "_law_other"] ["_law_deal_here", "_law_many"] (defScope sDraw) := ⟨rfl, rfl, rfl, by decide +kernel, rfl, by decide +kernel, by decide +kernel⟩
theorem ok_draw {f : Addr} {fd : FuncData} (F : Fun K "_law_draw" "_law_draw" sDraw f fd) (ml : mg "len" = none) : FnOk P w K mg base CX0 1 f fd ["_law_deal_here", "_law_many"] spDraw := by
  refine F.ok scDraw (fun vs H Q E h => ?_) (fun cdv A outer s H vs Q E hr h => ?_)
  · obtain ⟨d, l, m, rfl, _⟩ := h
    rfl
  obtain ⟨d, l, m, rfl, ⟨sd, n, ls, D⟩, hm0, hm1, k⟩ := h
  have hu := hu_of hr
  refine ⟨_, pss_cons (ps_while PassesOwn.never (pw_and (pt_cmpR op_eq (pe_dget hu (pv 0) pe_str (fun _ _ => rfl)) pe_int (nomark _)) (pw_and1 (pt_cmpR op_gt (pe_callB call_len_seq (by rfl) ml PySem.boot_len (pa_cons (pe_dget hu (pv 0) pe_str (fun _ _ => rfl)) pa_nil)) pe_int (nomark _)))).pt
      (pss_one (ps_dput hu (pv 0) pe_str (pe_bm0 PySem.F.plainAttrs_list PySem.F.slot_list_pop PySem.F.type_list_pop mt_pop (pe_dget hu (pv 0) pe_str (fun _ _ => rfl))) rfl)))
    (pss_cons (ps_set (i := 2) scDraw.nd rfl (Or.inl rfl) (pe_dget hu (pv 0) pe_str (fun _ _ => rfl)))
    (pss_cons (ps_if (pt_cmpR op_gt (pv 2) pe_int (nomark _))
      (pss_cons (ps_dput hu (pv 0) pe_str (pe_op op_fdivB (pv 2) (pv 1)) rfl) (pss_one (ps_ret (pe_op op_mod (pv 2) (pv 1))))) pss_nil)
    (pss_cons (ps_set (i := 3) scDraw.nd rfl (Or.inl rfl) (pe_op op_mod (pe_op op_add (pe_op op_mul (pe_dget hu (pv 0) pe_str (fun _ _ => rfl)) pe_int) pe_int) pe_int))
    (pss_cons (ps_dput hu (pv 0) pe_str (pe_op op_mod (pe_op op_add (pe_op op_mul (pv 3) pe_int) pe_int) pe_int) rfl)
    (pss_cons (ps_set (i := 4) scDraw.nd rfl (Or.inl rfl) (pe_op op_mod (pe_op op_mul (pe_dget hu (pv 0) pe_str (fun _ _ => rfl)) (pe_dget hu (pv 0) pe_str (fun _ _ => rfl))) pe_int))
    (pss_one (ps_ret (pe_op op_mod (pe_op op_add (pe_op op_mul (pe_op op_mod (pe_op op_mul (pv 3) (pv 3)) pe_int) pe_int) (pv 4)) (pv 1))))))))), ?_⟩
  -- the while: numbers are taken until one is above 0, or none is left
  refine ⟨fun j σ H1 => ∃ n' ls', σ = [some (.ref d), some (.int m), none, none, none] ∧ DealAt H1 d l sd n' ls' ∧ j = ls'.length ∧ Out d l H H1, ⟨_, n, ls, rfl, D, rfl, Out.refl H⟩, ?_⟩
  rintro j σ H1 ⟨n', ls', rfl, D1, rfl, o1⟩
  refine ⟨_, rfl, d, _, rfl, D1.gn, rfl, _, rfl, ?_⟩
  refine ite2 (fun c => ?a) (fun c => iteF ?b)
  case' a => refine ⟨_, rfl, d, _, rfl, D1.gl, l, _, rfl, .inl (SqL.of D1.lc), _, _, rfl, rfl, _, rfl, ?_⟩
  case' a => refine ite2 (fun c2 => ?loop) (fun c2 => ?b2)
  case loop =>
      -- one is popped
      have hl : 0 < ls'.length := by
        have := of_decide_eq_true c2
        simpa using this
      obtain ⟨z, hz⟩ : ∃ z, ls'[ls'.length - 1]? = some z := ⟨ls'[ls'.length - 1], by simp⟩
      have hz2 : (ls'.map V.int)[(ls'.map V.int).length - 1]? = some (.int z) := by rw [List.length_map, List.getElem?_map, hz]; rfl
      have z0 : 0 ≤ z := D1.l0 z (List.mem_of_getElem? hz)
      have D2 : DealAt (upd H1 l (.lst (ls'.dropLast.map V.int))) d l sd n' ls'.dropLast := D1.left fun x hx => D1.l0 x (List.dropLast_subset _ hx)
      refine ⟨fun σ' H' => σ' = [some (.ref d), some (.int m), none, none, none] ∧ DealAt H' d l sd z ls'.dropLast ∧ Out d l H H', fun σ' H' q => ⟨_, by rw [List.length_dropLast]; omega, z, ls'.dropLast, q.1, q.2.1, rfl, q.2.2⟩, ?_⟩
      refine ⟨_, rfl, d, _, rfl, D1.gl, .inl ⟨rfl, _, SqL.of D1.lc⟩, l, _, _, rfl, rfl, D1.lc, hz2, ?_⟩
      have e : ∀ (o : List V), (ls'.map V.int).dropLast = o → upd H1 l (.lst (ls'.map V.int).dropLast) = upd H1 l (.lst o) := fun o e => by rw [e]
      rw [e _ List.map_dropLast.symm]
      refine ⟨_, rfl, d, _, rfl, D2.pn z, rfl, D2.number z0, o1.trans (Out.upd_l.trans Out.upd_d)⟩
  all_goals
    refine ⟨_, rfl, d, _, rfl, D1.gn, ?_⟩
    refine ⟨_, rfl, _, _, rfl, rfl, _, rfl, ?_⟩
    refine ite2 (fun c3 => ?_) (fun c3 => ?_)
    · have hp : 0 < n' := of_decide_eq_true c3
      refine ⟨_, rfl, _, rfl, _, _, rfl, rfl, ⟨hm0, by omega⟩, _, rfl, d, _, rfl, D1.pn (n' / m), ?_⟩
      refine ⟨_, rfl, _, rfl, _, _, rfl, rfl, hm0, ?_⟩
      exact k _ _ (Int.emod_nonneg _ (by omega)) (Int.emod_lt_of_pos _ hm0) ⟨_, _, _, D1.number (Int.ediv_nonneg (by omega) (by omega))⟩ (o1.trans Out.upd_d)
    · -- a number by the seed
      have q1 : (0 : Int) < 2147483647 := by decide
      refine ⟨_, rfl, d, _, rfl, D1.gs, _, _, rfl, rfl, .inr ⟨by decide, by decide⟩, _, _, rfl, rfl, _, _, rfl, rfl, q1, ?_⟩
      have q2 : (0 : Int) < 2147483399 := by decide
      refine ⟨_, rfl, _, _, rfl, rfl, .inr ⟨by decide, by decide⟩, _, _, rfl, rfl, _, _, rfl, rfl, q2, _, rfl, d, _, rfl, D1.ps _, ?_⟩
      have D2 := D1.seed (v := ((sd * 48271 + 7919) % 2147483647 * 40692 + 104729) % 2147483399) (by omega) (by omega)
      have q3 : (0 : Int) < 2147483563 := by decide
      have q4 : (0 : Int) < 2147483629 := by decide
      refine ⟨_, rfl, d, _, rfl, D2.gs, _, rfl, d, _, rfl, D2.gs, _, _, rfl, rfl, .inr ⟨by omega, by omega⟩, _, _, rfl, rfl, q3, ?_⟩
      refine ⟨_, rfl, _, rfl, _, _, rfl, rfl, .inr ⟨by omega, by omega⟩, _, _, rfl, rfl, q4, _, _, rfl, rfl, .inr ⟨by decide, by decide⟩, _, rfl, _, _, rfl, rfl, _, rfl, _, _, rfl, rfl, hm0, ?_⟩
      exact k _ _ (Int.emod_nonneg _ (by omega)) (Int.emod_lt_of_pos _ hm0) ⟨_, _, _, D2⟩ (o1.trans Out.upd_d)
end
end Mine
namespace Mine
open PySem L2
theorem merge_deal (x n : Int) (l : Addr) : mergeK [] (dealK x n l) = dealK x n l := by
  unfold mergeK dealK
  simp only [List.foldl_cons, List.foldl_nil]
  have e1 : putK ([] : List (Key × V)) (Sum.inr ("seed" : Str)) (V.int x) = [(Sum.inr ("seed" : Str), V.int x)] := rfl
  have e2 : putK [(Sum.inr ("seed" : Str), V.int x)] (Sum.inr ("number" : Str) : Key) (V.int n) = [(Sum.inr ("seed" : Str), V.int x), (Sum.inr ("number" : Str), V.int n)] := putK_new _ (by rw [valV_neg ksn, valV_nil])
  have e3 : putK [(Sum.inr ("seed" : Str), V.int x), (Sum.inr ("number" : Str), V.int n)] (Sum.inr ("left" : Str) : Key) (V.ref l) = [(Sum.inr ("seed" : Str), V.int x), (Sum.inr ("number" : Str), V.int n)] ++ [(Sum.inr ("left" : Str), V.ref l)] := putK_new _ (by rw [valV_neg ksl, valV_neg knl, valV_nil])
  rw [e1, e2, e3]
  rfl
theorem ndCell : (["_law_cell"] : List Str).Nodup := by decide +kernel
theorem cut_ints (ns : List Int) (lo hi : Option Int) : ∃ ms : List Int, cutV (ns.map V.int) lo hi = ms.map V.int ∧ ms.length ≤ ns.length := by
  refine ⟨(ns.drop (HT.sIx ns.length 0 lo)).take (HT.sIx ns.length ns.length hi - HT.sIx ns.length 0 lo), ?_, ?_⟩
  · unfold cutV
    rw [List.length_map, List.map_take, List.map_drop]
  · rw [List.length_take, List.length_drop]; omega
section
variable {P : Program} {w : World} {K : PySem.W.Frag} {mg : Str → Option Value} {base : Heap}
theorem scDeal : FnScope ["_law_script", "_law_base", "_law_cells", "_law_number", "_law_cell"] ["_law_script", "_law_base"] (defScope sDeal) := ⟨rfl, rfl, rfl, by decide +kernel, rfl, by decide +kernel, by decide +kernel⟩
theorem ok_deal {f : Addr} {fd : FuncData} (F : Fun K "_law_deal" "_law_deal" sDeal f fd) (mm : mg "max" = none) (mr : mg "reversed" = none) (ml : mg "list" = none) : FnOk P w K mg base CX0 1 f fd ["_law_script", "_law_base"] (spDeal K) := by
  refine F.ok scDeal (fun vs H Q E h => ?_) (fun cdv A outer s H vs Q E hr h => ?_)
  · obtain ⟨a, ns, b, rfl, _⟩ := h
    rfl
  obtain ⟨a, ns, b, rfl, hS, hlen, hb0, hb1, k⟩ := h
  refine ⟨_, pss_cons (ps_setC ["_law_cell"] [none] (i := 2) scDeal.nd rfl (Or.inl rfl) (pi_list (pe_slice sl_list (pv 0) (po_some (pv 1)) (po_some pe_int)))
      (fun _ _ _ _ => pg_name (i := 0) ndCell rfl (Or.inl rfl)) (fun _ _ _ _ => pf_nil) (fun _ _ _ _ => pe_callB (call_max2 rfl) (by rfl) mm PyProof.Rows.boot_max (pa_cons (pv 0) (pa_cons (pe_op op_sub pe_int (pv 0)) pa_nil))))
    (pss_cons (ps_set (i := 3) scDeal.nd rfl (Or.inl rfl) (pe_op op_add pe_int (pv 1)))
    (pss_cons (ps_for PassesOwn.never rfl (pi_list (pv 2)) (pg_name (i := 4) scDeal.nd rfl (Or.inl rfl))
      (pss_one (ps_set (i := 3) scDeal.nd rfl (Or.inl rfl) (pe_op op_mod (pe_op op_add (pe_op op_mul (pv 3) pe_int) (pe_op op_mod (pv 4) pe_int)) pe_int))))
    (pss_one (ps_ret (pe_disp (pps_cons pe_str (pv 3) (pps_cons pe_str pe_int (pps_cons pe_str (pe_listrev (pe_comp ["_law_cell"] [none] (pi_list (pv 2))
      (fun _ _ _ _ => pg_name (i := 0) ndCell rfl (Or.inl rfl)) (fun _ _ _ _ => pf_one (pt_cmpR op_ge (pv 0) (pe_op op_pow pe_int pe_int) (nomark _))) (fun _ _ _ _ => pv 0)) (by rfl) ml (by rfl) mr) pps_nil))) rfl rfl (by decide) (by decide)))))), ?_⟩
  -- cells: the greatness of each
  refine ⟨_, rfl, _, rfl, _, rfl, _, rfl, a, _, rfl, hS, fun p1 np1 => ?_⟩
  obtain ⟨ms, em, hms⟩ := cut_ints ns (some b) (some 63)
  have g1 : Same H (upd H p1 (.lst (cutV (ns.map V.int) (some b) (some 63)))) := same_new np1 _
  have hp1 : SqL K (upd H p1 (.lst (cutV (ns.map V.int) (some b) (some 63)))) p1 (ms.map V.int) := by rw [em]; exact SqL.of upd_same
  generalize upd H p1 (.lst (cutV (ns.map V.int) (some b) (some 63))) = H1 at g1 hp1 ⊢
  refine ⟨p1, rfl, ⟨_, hp1⟩, comp_list (xs := ms.map V.int) (fun i ys σ H2 => H2 = H1 ∧ (∃ v, σ = [v]) ∧ ∃ cs : List Int, ys = cs.map V.int ∧ cs.length = i ∧ ∀ x ∈ cs, 0 ≤ x)
    (by rw [List.length_map]; exact small1000 (by omega)) ⟨rfl, ⟨_, rfl⟩, [], rfl, rfl, fun _ z => nomatch z⟩ (fun i ys σ H2 ⟨_, _, cs, e1, e2, _⟩ => by rw [e1, List.length_map]; omega) (fun i ys σ H2 _ ⟨e, _⟩ => by rw [e]; exact hp1) ?_ ?_⟩
  · rintro i x ys σ H2 hx ⟨rfl, ⟨v, rfl⟩, cs, rfl, rfl, h0⟩
    obtain ⟨z, rfl, _⟩ := ints_at hx
    refine ⟨_, rfl, _, rfl, _, _, rfl, rfl, _, _, rfl, rfl, ⟨_, rfl⟩, cs ++ [if 0 - z > z then 0 - z else z], by rw [List.map_append]; rfl, by rw [List.length_append]; rfl, fun x hx => ?_⟩
    rcases List.mem_append.mp hx with q | q
    · exact h0 x q
    · have e : x = if 0 - z > z then 0 - z else z := by simpa using q
      rw [e]; split <;> omega
  rintro ys σ H2 ⟨rfl, _, cs, rfl, hcs, h0⟩ p2 np2
  have hm63 : cs.length ≤ 63 := by rw [List.length_map] at hcs; omega
  have g2 : Same H2 (upd H2 p2 (.lst (cs.map V.int))) := same_new np2 _
  have hp2 : SqL K (upd H2 p2 (.lst (cs.map V.int))) p2 (cs.map V.int) := SqL.of upd_same
  generalize upd H2 p2 (.lst (cs.map V.int)) = H3 at g2 hp2 ⊢
  -- number = 7919 + base
  refine ⟨_, rfl, _, _, rfl, rfl, ?_⟩
  -- for cell in cells
  refine ⟨_, rfl, p2, rfl, ⟨_, hp2⟩, for_list (K := K) (a := p2) (xs := cs.map V.int) (fun i σ H4 => H4 = H3 ∧ ∃ (x : Int) (v : Option V), σ = [some (.ref a), some (.int b), some (.ref p2), some (.int x), v] ∧ 0 ≤ x ∧ x < 2147483647)
    ⟨rfl, 7919 + b, none, rfl, by omega, by omega⟩ (fun i σ H4 _ ⟨e, _⟩ => by rw [e]; exact hp2) ?_ ?_⟩
  · rintro i y σ H4 hi ⟨rfl, x, v, rfl, x0, x1⟩
    obtain ⟨z, rfl, _⟩ := ints_at hi
    have q1 : (0 : Int) < 2147483629 := by decide
    have q2 : (0 : Int) < 2147483647 := by decide
    refine ⟨_, rfl, _, _, rfl, rfl, .inr ⟨by decide, by decide⟩, _, rfl, _, _, rfl, rfl, q1, _, _, rfl, rfl, _, _, rfl, rfl, q2, rfl, _, _, rfl, ?_, ?_⟩
    · exact Int.emod_nonneg _ (by decide)
    · exact Int.emod_lt_of_pos _ q2
  rintro σ H4 ⟨rfl, x, v, rfl, x0, x1⟩
  -- the dict
  intro d nd
  have g4 : Same H4 (upd H4 d (.dK [])) := same_new nd _
  have hd4 : upd H4 d (.dK []) d = some (.dK []) := upd_same
  have hp4 := g4.seq hp2
  refine ⟨_, rfl, _, rfl, p2, rfl, ⟨_, hp4⟩, ?_⟩
  generalize upd H4 d (.dK []) = H5 at g4 hd4 hp4 ⊢
  refine comp_list (xs := cs.map V.int) (fun i ys σ H6 => H6 = H5 ∧ (∃ v, σ = [v]) ∧ ∃ ls : List Int, ys = ls.map V.int ∧ ls.length ≤ i ∧ ∀ x ∈ ls, 0 ≤ x)
    (by rw [List.length_map]; exact small1000 (by omega)) ⟨rfl, ⟨_, rfl⟩, [], rfl, Nat.le_refl _, fun _ z => nomatch z⟩ (fun i ys σ H2 ⟨_, _, cs, e1, e2, _⟩ => by rw [e1, List.length_map]; omega) (fun i ys σ H2 _ ⟨e, _⟩ => by rw [e]; exact hp4) ?_ ?_
  · rintro i y ys σ H6 hy ⟨rfl, ⟨v', rfl⟩, ls, rfl, hl, l0⟩
    obtain ⟨z, rfl, hz⟩ := ints_at hy
    have z0 : 0 ≤ z := h0 z (List.mem_of_getElem? hz)
    refine ⟨_, rfl, _, _, rfl, rfl, ⟨by decide, by decide, by decide⟩, _, _, rfl, rfl, _, rfl, ?_⟩
    refine ite2 (fun c => ?_) (fun c => ?_)
    · refine ⟨_, rfl, rfl, ⟨_, rfl⟩, ls ++ [z], by rw [List.map_append]; rfl, by rw [List.length_append]; show ls.length + 1 ≤ i + 1; omega, fun x hx => ?_⟩
      rcases List.mem_append.mp hx with q | q
      · exact l0 x q
      · have e : x = z := by simpa using q
        rw [e]; exact z0
    · exact ⟨rfl, ⟨_, rfl⟩, ls, rfl, Nat.le_succ_of_le hl, l0⟩
  rintro ys σ H6 ⟨rfl, _, ls, rfl, hl, l0⟩ p3 np3
  have g5 : Same H6 (upd H6 p3 (.lst (ls.map V.int))) := same_new np3 _
  refine ⟨p3, _, rfl, SqL.of upd_same, fun l nl => ?_⟩
  generalize upd H6 p3 (.lst (ls.map V.int)) = H7 at g5 nl ⊢
  have g6 : Same H7 (upd H7 l (.lst (ls.map V.int).reverse)) := same_new nl _
  have hd7 : H7 d = some (.dK []) := g5 _ _ hd4
  refine ⟨g6 _ _ hd7, dealK x 0 l, rfl, by show 3 ≤ 15; decide, ?_⟩
  have em : mergeK [] (dealK x 0 l) = dealK x 0 l := merge_deal _ _ _
  have neld : l ≠ d := fun z => by rw [z] at nl; rw [nl] at hd7; cases hd7
  refine k d l _ ?_ ?_ ⟨x, 0, ls.reverse, ⟨by rw [em]; exact upd_same, by rw [upd_ne neld, upd_same, List.map_reverse], x0, x1, Int.le_refl 0, fun y hy => l0 y (by simpa using hy)⟩⟩ ?_
  · exact (g1.trans g2).free nd
  · exact (g1.trans (g2.trans (g4.trans g5))).free nl
  · intro c o e
    rw [upd_ne (ne_of_none e ((g1.trans g2).free nd))]
    exact (g1.trans (g2.trans (g4.trans (g5.trans g6)))) c o e
end
end Mine
namespace Mine
open PySem L2
section
variable {P : Program} {w : World} {K : PySem.W.Frag} {mg : Str → Option Value} {base : Heap}
theorem scPrt : FnScope ["term", "parts", "waiting", "part"] ["term"] (defScope sPrt) := ⟨rfl, rfl, rfl, by decide +kernel, rfl, by decide +kernel, by decide +kernel⟩
theorem ok_Prt {f : Addr} {fd : FuncData} (F : Fun K "parts_of" "parts_of" sPrt f fd)
     :
    FnOk P w K mg base CX0 (1) f fd ["term"] spParts := by
  refine F.ok scPrt (fun vs H Q E h => ?_) (fun cdv A outer s H vs Q E hr h => ?_)
  · obtain ⟨t, rfl, _⟩ := h
    rfl
  obtain ⟨t, rfl, ht, hz, k⟩ := h
  have hu := hu_of hr
  refine ⟨_, (pss_cons (ps_set (i := 1) scPrt.nd rfl (Or.inl rfl) (pe_lst pa_nil))
    (pss_cons (ps_set (i := 2) scPrt.nd rfl (Or.inl rfl) (pe_lst (pa_cons (pv 0) pa_nil)))
    (pss_cons (ps_while PassesOwn.never (pt_truth (pv 2) (fun _ => rfl))
    (pss_cons (ps_set (i := 3) scPrt.nd rfl (Or.inl rfl) (pe_bm0 PySem.F.plainAttrs_list PySem.F.slot_list_pop PySem.F.type_list_pop mt_pop (pv 2)))
    (pss_cons (ps_expr (pe_bm PySem.F.plainAttrs_list PySem.F.slot_list_append PySem.F.type_list_append mt_append (pv 1) (pa_cons (pv 3) pa_nil)))
    (pss_one (ps_if (pt_cmpR op_eq (pe_ix ix_tup (pv 3) pe_int (fun _ _ => rfl)) pe_str (nomark _)) (pss_one (ps_expr (pe_bm PySem.F.plainAttrs_list PySem.F.slot_list_extend PySem.F.type_list_extend mt_extend (pv 2) (pa_cons (pe_lst (pa_cons (pe_ix ix_tup (pv 3) pe_int (fun _ _ => rfl)) (pa_cons (pe_ix ix_tup (pv 3) pe_int (fun _ _ => rfl)) pa_nil))) pa_nil)))) pss_nil)))))
    (pss_one (ps_ret (pv 1)))))), ?_⟩
  refine ⟨Nat.zero_le _, fun l1 hl1 => ?_⟩
  have s1 := same_new hl1 (.lst [])
  have h1 : upd H l1 (.lst []) l1 = some (.lst []) := upd_same
  generalize upd H l1 (.lst []) = H1 at s1 h1 ⊢
  refine ⟨_, rfl, by show 1 ≤ sizeLine; decide, fun l2 hl2 => ?_⟩
  have n2 := s1.free hl2
  have ne : l2 ≠ l1 := (ne_of_none h1 hl2).symm
  have s2 := s1.trans (same_new hl2 (.lst [.ref t.p]))
  have h12 : upd H1 l2 (.lst [.ref t.p]) l1 = some (.lst []) := by rw [upd_ne ne.symm]; exact h1
  have h2 : upd H1 l2 (.lst [.ref t.p]) l2 = some (.lst [.ref t.p]) := upd_same
  generalize upd H1 l2 (.lst [.ref t.p]) = H2 at s2 h12 h2 ⊢
  refine ⟨fun m σ G => ∃ (ps stk : List Tm) (v3 : Option V), σ = [some (.ref t.p), some (.ref l1), some (.ref l2), v3] ∧ Same H G ∧ G l1 = some (.lst (ps.map fun u => V.ref u.p)) ∧ G l2 = some (.lst (stk.reverse.map fun u => V.ref u.p)) ∧ ps ++ stk.flatMap Tm.pre = t.pre ∧ (∀ u ∈ stk, TmH H u) ∧ m = (stk.flatMap Tm.pre).length,
    ⟨_, [], [t], none, rfl, s2, h12, h2, by simp, fun u hu => by rw [List.mem_singleton.mp hu]; exact ht, rfl⟩, ?_⟩
  rintro m σ G ⟨ps, stk, v3, rfl, s3, g1, g2, eq, hs, rfl⟩
  refine ⟨_, rfl, _, .inl ⟨_, SqL.of g2, rfl⟩, ?_⟩
  have lt := congrArg List.length eq
  rw [List.length_append, Tm.pre_len] at lt
  have ls : stk.length ≤ (stk.flatMap Tm.pre).length := flat_ge stk
  cases stk with
  | nil =>
    refine iteN (by simp) ?_
    rw [List.flatMap_nil, List.append_nil] at eq
    exact ⟨_, rfl, k l1 G s3 hl1 (by rw [← eq]; exact g1)⟩
  | cons u rest =>
    refine iteP (by simp) ?_
    have hu := hs u List.mem_cons_self
    have up := u.size_pos
    rw [List.flatMap_cons, List.length_append, Tm.pre_len] at lt
    rw [List.length_cons, List.flatMap_cons, List.length_append, Tm.pre_len] at ls
    refine ⟨fun σ' G' => ∃ (ps' stk' : List Tm) (v3 : Option V), σ' = [some (.ref t.p), some (.ref l1), some (.ref l2), v3] ∧ Same H G' ∧ G' l1 = some (.lst (ps'.map fun u => V.ref u.p)) ∧ G' l2 = some (.lst (stk'.reverse.map fun u => V.ref u.p)) ∧ ps' ++ stk'.flatMap Tm.pre = t.pre ∧ (∀ u ∈ stk', TmH H u) ∧ (stk'.flatMap Tm.pre).length + 1 = ((u :: rest).flatMap Tm.pre).length,
      fun σ' G' ⟨ps', stk', v3', e1, e2, e3, e4, e5, e6, e7⟩ => ⟨_, by omega, ps', stk', v3', e1, e2, e3, e4, e5, e6, rfl⟩, ?_⟩
    have er : (u :: rest).reverse.map (fun u => V.ref u.p) = rest.reverse.map (fun u => V.ref u.p) ++ [V.ref u.p] := by rw [List.reverse_cons, List.map_append]; rfl
    rw [er] at g2
    refine ⟨_, rfl, .inl ⟨rfl, _, SqL.of g2⟩, l2, _, V.ref u.p, rfl, rfl, g2, by simp, ?_⟩
    rw [List.dropLast_concat]
    have s4 := same_lst (ys := rest.reverse.map fun u => V.ref u.p) s3 n2
    have g3 : upd G l2 (.lst (rest.reverse.map fun u => V.ref u.p)) l2 = some (.lst (rest.reverse.map fun u => V.ref u.p)) := upd_same
    have g4 : upd G l2 (.lst (rest.reverse.map fun u => V.ref u.p)) l1 = some (.lst (ps.map fun u => V.ref u.p)) := by rw [upd_ne ne.symm]; exact g1
    generalize upd G l2 (.lst (rest.reverse.map fun u => V.ref u.p)) = G1 at s4 g3 g4 ⊢
    refine ⟨_, rfl, .inl ⟨rfl, _, SqL.of g4⟩, _, rfl, l1, _, _, rfl, rfl, g4, small1000 (by rw [List.length_map]; omega), ?_⟩
    have s5 := same_lst (ys := (ps ++ [u]).map fun u => V.ref u.p) s4 hl1
    have ea : (ps.map fun u => V.ref u.p) ++ [V.ref u.p] = (ps ++ [u]).map fun u => V.ref u.p := by rw [List.map_append]; rfl
    rw [ea]
    have g5 : upd G1 l1 (.lst ((ps ++ [u]).map fun u => V.ref u.p)) l1 = some (.lst ((ps ++ [u]).map fun u => V.ref u.p)) := upd_same
    have g6 : upd G1 l1 (.lst ((ps ++ [u]).map fun u => V.ref u.p)) l2 = some (.lst (rest.reverse.map fun u => V.ref u.p)) := by rw [upd_ne ne]; exact g3
    generalize upd G1 l1 (.lst ((ps ++ [u]).map fun u => V.ref u.p)) = G2 at s5 g5 g6 ⊢
    have hu5 := hu.ts (.of s5)
    refine ⟨_, rfl, u.p, _, _, .str u.w, rfl, rfl, SqT.of hu5.at, at0, rfl, _, rfl, ?_⟩
    cases u with
    | op p s a b =>
      refine iteP (decide_eq_true rfl) ?_
      refine ⟨_, rfl, .inl ⟨rfl, _, SqL.of g6⟩, _, rfl, p, _, _, .ref b.p, rfl, rfl, SqT.of hu5.1, rfl, _, rfl, p, _, _, .ref a.p, rfl, rfl, SqT.of hu5.1, rfl, by show 2 ≤ sizeLine; decide, fun l3 hl3 => ?_⟩
      have s6 := s5.trans (same_new hl3 (.lst [.ref b.p, .ref a.p]))
      have n31 : l1 ≠ l3 := ne_of_none g5 hl3
      have n32 : l2 ≠ l3 := ne_of_none g6 hl3
      have g7 : upd G2 l3 (.lst [.ref b.p, .ref a.p]) l3 = some (.lst [.ref b.p, .ref a.p]) := upd_same
      have g8 : upd G2 l3 (.lst [.ref b.p, .ref a.p]) l1 = _ := (upd_ne n31).trans g5
      have g9 : upd G2 l3 (.lst [.ref b.p, .ref a.p]) l2 = _ := (upd_ne n32).trans g6
      generalize upd G2 l3 (.lst [.ref b.p, .ref a.p]) = G3 at s6 g7 g8 g9 ⊢
      refine ⟨l2, l3, _, _, rfl, rfl, g9, g7, by rw [List.length_map, List.length_reverse]; have := small1000 (n := 1000) (Nat.le_refl _); show rest.length + 2 ≤ _; omega, ?_⟩
      have ez : (rest.reverse.map fun u => V.ref u.p) ++ [.ref b.p, .ref a.p] = (a :: b :: rest).reverse.map fun u => V.ref u.p := by simp
      rw [ez]
      refine ⟨ps ++ [.op p s a b], a :: b :: rest, _, rfl, same_lst s6 n2, (upd_ne ne.symm).trans g8, upd_same, ?_, fun x hx => ?_, ?_⟩
      · rw [← eq]
        simp [Tm.pre]
      · rcases List.mem_cons.mp hx with e | e
        · rw [e]; exact hu.2.1
        · rcases List.mem_cons.mp e with e | e
          · rw [e]; exact hu.2.2
          · exact hs x (List.mem_cons_of_mem _ e)
      · simp [Tm.pre] <;> omega
    | num p n =>
      refine iteN (fun z => wNum (of_decide_eq_true z)) ?_
      refine ⟨ps ++ [.num p n], rest, _, rfl, s5, g5, g6, ?_, fun x hx => hs x (List.mem_cons_of_mem _ hx), ?_⟩
      · rw [← eq]
        simp [Tm.pre]
      · simp [Tm.pre] <;> omega
    | nam p n =>
      refine iteN (fun z => wNam (of_decide_eq_true z)) ?_
      refine ⟨ps ++ [.nam p n], rest, _, rfl, s5, g5, g6, ?_, fun x hx => hs x (List.mem_cons_of_mem _ hx), ?_⟩
      · rw [← eq]
        simp [Tm.pre]
      · simp [Tm.pre] <;> omega
theorem nd_NmI1 : (["part"] : List Str).Nodup := by decide +kernel
theorem scNmI : FnScope ["term"] ["term"] (defScope sNmI) := ⟨rfl, rfl, rfl, by decide +kernel, rfl, by decide +kernel, by decide +kernel⟩
theorem ok_NmI {f : Addr} {fd : FuncData} (F : Fun K "names_in" "names_in" sNmI f fd)
    {f_Prt : Addr} {d_Prt : FuncData} (G_Prt : FnOk P w K mg base CX0 (1) f_Prt d_Prt ["term"] spParts) (b_Prt : Binds K d_Prt ["term"] []) (k_Prt : PySem.W.keepIn K (.ref f_Prt) = true) (m_Prt : mg "parts_of" = some (.ref f_Prt))
     :
    FnOk P w K mg base CX0 (2) f fd ["term"] spNamesIn := by
  refine F.ok scNmI (fun vs H Q E h => ?_) (fun cdv A outer s H vs Q E hr h => ?_)
  · obtain ⟨t, rfl, _⟩ := h
    rfl
  obtain ⟨t, rfl, ht, hz, k⟩ := h
  have hu := hu_of hr
  have hr1 : Room 1 _ := hr.mono (by decide)
  refine ⟨_, (pss_one (ps_ret (pe_comp ["part"] [none] (pi_list (pe_call G_Prt hr1 (by rfl) m_Prt k_Prt b_Prt .nil pass0 (pa_cons (pv 0) pa_nil))) (fun _ _ _ _ => (pg_name (i := 0) (nd_NmI1) rfl (Or.inl rfl))) (fun _ _ _ _ => (pf_one (pt_cmpR op_eq (pe_ix (ixtK K) (pv 0) pe_int (fun _ _ => rfl)) pe_str (nomark _)))) (fun _ _ _ _ => (pe_ix (ixtK K) (pv 0) pe_int (fun _ _ => rfl)))))), ?_⟩
  refine ⟨_, rfl, t, rfl, ht, hz, fun r H1 s1 _ h1 => ⟨r, rfl, ⟨_, SqL.of h1⟩, ?_⟩⟩
  have pl := Tm.pre_len t
  refine comp_list (K := K) (a := r) (xs := t.pre.map fun u => V.ref u.p) (fun i ys σ G => G = H1 ∧ (∃ v, σ = [v]) ∧ ys = ((t.pre.take i).filterMap Tm.nm).map V.str)
    (big4 (by rw [List.length_map]; omega)) ⟨rfl, ⟨_, rfl⟩, rfl⟩ (fun i ys σ G ⟨_, _, e⟩ => by
      rw [e, List.length_map]
      exact Nat.le_trans (List.length_filterMap_le _ _) (by rw [List.length_take]; omega)) (by rintro i ys σ G _ ⟨e, _⟩; rw [e]; exact SqL.of h1) ?_ ?_
  · rintro i v ys σ G hv ⟨rfl, ⟨v', rfl⟩, rfl⟩
    obtain ⟨u, hu, rfl⟩ : ∃ u, t.pre[i]? = some u ∧ v = V.ref u.p := by
      rw [List.getElem?_map] at hv
      cases e : t.pre[i]? with
      | none => rw [e] at hv; cases hv
      | some u => rw [e] at hv; exact ⟨u, rfl, (Option.some.inj hv).symm⟩
    have hU := (TmH.pre ht u (List.mem_of_getElem? hu)).ts (.of s1)
    refine ⟨_, rfl, u.p, _, _, .str u.w, rfl, rfl, SqT.of hU.at, at0, rfl, _, rfl, ?_⟩
    rw [take_snoc hu, List.filterMap_append, List.map_append]
    cases u with
    | nam p x => exact iteP (decide_eq_true rfl) ⟨_, rfl, p, _, _, .str x, rfl, rfl, SqT.of hU, rfl, rfl, ⟨_, rfl⟩, rfl⟩
    | num p n => exact iteN (fun z => wMN (of_decide_eq_true z)) ⟨rfl, ⟨_, rfl⟩, by rw [List.filterMap_cons_none (by rfl)]; simp⟩
    | op p s a b => exact iteN (fun z => wOM (of_decide_eq_true z)) ⟨rfl, ⟨_, rfl⟩, by rw [List.filterMap_cons_none (by rfl)]; simp⟩
  · rintro ys σ G ⟨rfl, _, rfl⟩ l hl
    rw [List.length_map, List.take_length, Tm.pre_names]
    exact k l _ (s1.trans (same_new hl _)) upd_same
theorem scSeN : FnScope ["row"] ["row"] (defScope sSeN) := ⟨rfl, rfl, rfl, by decide +kernel, rfl, by decide +kernel, by decide +kernel⟩
theorem ok_SeN {f : Addr} {fd : FuncData} (F : Fun K "sets_name" "sets_name" sSeN f fd)
    {cT : Addr} (m_THROWS : mg "THROWS" = some (.ref cT)) (hT : ∀ H, SqT K H cT (thrW.map V.str))
     :
    FnOk P w K mg base CX0 (1) f fd ["row"] spSetsN := by
  refine F.ok scSeN (fun vs H Q E h => ?_) (fun cdv A outer s H vs Q E hr h => ?_)
  · obtain ⟨r, rfl, _⟩ := h
    rfl
  obtain ⟨r, rfl, hr0, k⟩ := h
  have hu := hu_of hr
  refine ⟨_, (pss_one (ps_ret (pe_or (pe_cmpR op_in_seq (pe_ix ix_tup (pv 0) pe_int (fun _ _ => rfl)) (pe_glob (v := .ref cT) (by rfl) m_THROWS rfl) rfl) (pe_one (pe_cmpR op_eq (pe_ix ix_tup (pv 0) pe_int (fun _ _ => rfl)) pe_str (nomark _)))))), ?_⟩
  rw [← sets_thr hr0] at k
  refine ⟨_, rfl, r.p, _, _, .str r.w, rfl, rfl, SqT.of hr0.at, at0, cT, _, rfl, .inr (hT _), rfl, flat_texts _, _, rfl, ?_⟩
  have ei : inV (V.str r.w) (thrW.map V.str) = decide (r.w ∈ thrW) := inV_strs _ _
  by_cases c : r.w ∈ thrW
  · refine iteP (ei.trans (decide_eq_true c)) ?_
    rw [decide_eq_true c] at k
    exact k
  · refine iteN (fun z => c (of_decide_eq_true (ei.symm.trans z))) ?_
    rw [decide_eq_false c, Bool.false_or] at k
    refine ⟨_, rfl, r.p, _, _, .str r.w, rfl, rfl, SqT.of hr0.at, at0, rfl, ?_⟩
    rw [show decide (V.str r.w = V.str "let") = decide (r.w = "let") from by simp]
    exact k
end
end Mine
namespace Mine
open PySem L2
section
variable {P : Program} {w : World} {K : PySem.W.Frag} {mg : Str → Option Value} {base : Heap}
theorem scAsk : FnScope ["row"] ["row"] (defScope sAsk) := ⟨rfl, rfl, rfl, by decide +kernel, rfl, by decide +kernel, by decide +kernel⟩
theorem ok_Ask {f : Addr} {fd : FuncData} (F : Fun K "names_asked" "names_asked" sAsk f fd)
    {f_NmI : Addr} {d_NmI : FuncData} (G_NmI : FnOk P w K mg base CX0 (2) f_NmI d_NmI ["term"] spNamesIn) (b_NmI : Binds K d_NmI ["term"] []) (k_NmI : PySem.W.keepIn K (.ref f_NmI) = true) (m_NmI : mg "names_in" = some (.ref f_NmI))
     :
    FnOk P w K mg base CX0 (3) f fd ["row"] spAsked := by
  refine F.ok scAsk (fun vs H Q E h => ?_) (fun cdv A outer s H vs Q E hr h => ?_)
  · obtain ⟨r, xs, rfl, _⟩ := h
    rfl
  obtain ⟨r, xs, rfl, hr0, ok, k⟩ := h
  have hu := hu_of hr
  have hr1 : Room 1 _ := hr.mono (by decide)
  have hr2 : Room 2 _ := hr.mono (by decide)
  refine ⟨_, (pss_cons (ps_if (pt_cmpR op_eq (pe_ix ix_tup (pv 0) pe_int (fun _ _ => rfl)) pe_str (nomark _)) (pss_one (ps_ret (pe_call G_NmI hr2 (by rfl) m_NmI k_NmI b_NmI .nil pass0 (pa_cons (pe_ix ix_tup (pv 0) pe_int (fun _ _ => rfl)) pa_nil)))) pss_nil)
    (pss_cons (ps_if (pt_cmpR op_in_seq (pe_ix ix_tup (pv 0) pe_int (fun _ _ => rfl)) (pe_tup (pa_cons pe_str (pa_cons pe_str pa_nil))) rfl) (pss_one (ps_ret (pe_call G_NmI hr2 (by rfl) m_NmI k_NmI b_NmI .nil pass0 (pa_cons (pe_ix ix_tup (pv 0) pe_int (fun _ _ => rfl)) pa_nil)))) pss_nil)
    (pss_one (ps_ret (pe_lst pa_nil))))), ?_⟩
  refine ⟨_, rfl, r.p, _, _, .str r.w, rfl, rfl, SqT.of hr0.at, at0, rfl, _, rfl, ?_⟩
  generalize hP : r.p = P
  cases r with
  | lt p x t =>
    obtain rfl : p = P := hP
    refine iteP (decide_eq_true rfl) ?_
    refine ⟨_, rfl, p, _, _, .ref t.p, rfl, rfl, SqT.of hr0.1, rfl, t, rfl, hr0.2, by have := (ok t (List.mem_singleton.mpr rfl)).1; omega, fun q H' s h => k q H' s h⟩
  | tell p t =>
    obtain rfl : p = P := hP
    refine iteN (fun z => wTL (of_decide_eq_true z)) ?_
    refine ⟨_, rfl, p, _, _, .str "tell", rfl, rfl, SqT.of hr0.1, rfl, by show 2 ≤ sizeLine; decide, fun t2 ht2 => ?_⟩
    have s1 := same_new ht2 (.tup [.str "tell", .str "when"])
    refine ⟨t2, [.str "tell", .str "when"], rfl, .inr (SqT.of upd_same), rfl, by decide, _, rfl, ?_⟩
    refine iteP (by decide +kernel) ?_
    exact ⟨_, rfl, p, _, _, .ref t.p, rfl, rfl, SqT.of (s1 _ _ hr0.1), rfl, t, rfl, hr0.2.ts (.of s1), by have := (ok t (List.mem_singleton.mpr rfl)).1; omega, fun q H' s h => k q H' (s1.trans s) h⟩
  | when p pa pb t a b =>
    obtain rfl : p = P := hP
    refine iteN (fun z => wWL (of_decide_eq_true z)) ?_
    refine ⟨_, rfl, p, _, _, .str "when", rfl, rfl, SqT.of hr0.1, rfl, by show 2 ≤ sizeLine; decide, fun t2 ht2 => ?_⟩
    have s1 := same_new ht2 (.tup [.str "tell", .str "when"])
    refine ⟨t2, [.str "tell", .str "when"], rfl, .inr (SqT.of upd_same), rfl, by decide, _, rfl, ?_⟩
    refine iteP (by decide +kernel) ?_
    exact ⟨_, rfl, p, _, _, .ref t.p, rfl, rfl, SqT.of (s1 _ _ hr0.1), rfl, t, rfl, hr0.2.1.ts (.of s1), by have := (ok t (List.mem_singleton.mpr rfl)).1; omega, fun q H' s h => k q H' (s1.trans s) h⟩
  | times p pb n b =>
    obtain rfl : p = P := hP
    refine iteN (fun z => wML (of_decide_eq_true z)) ?_
    refine ⟨_, rfl, p, _, _, .str "times", rfl, rfl, SqT.of hr0.1, rfl, by show 2 ≤ sizeLine; decide, fun t2 ht2 => ?_⟩
    have s1 := same_new ht2 (.tup [.str "tell", .str "when"])
    refine ⟨t2, [.str "tell", .str "when"], rfl, .inr (SqT.of upd_same), rfl, by decide, _, rfl, ?_⟩
    refine iteN (by decide +kernel) ?_
    exact ⟨Nat.zero_le _, fun l hl => k l _ (s1.trans (same_new hl _)) upd_same⟩
  | thr p w x vs =>
    obtain rfl : p = P := hP
    have hw := hr0.2.w
    refine iteN (fun z => thrNe3 hw (of_decide_eq_true z)) ?_
    refine ⟨_, rfl, p, _, _, .str w, rfl, rfl, SqT.of hr0.1, at0, by show 2 ≤ sizeLine; decide, fun t2 ht2 => ?_⟩
    have s1 := same_new ht2 (.tup [.str "tell", .str "when"])
    refine ⟨t2, [.str "tell", .str "when"], rfl, .inr (SqT.of upd_same), rfl, by decide, _, rfl, ?_⟩
    refine iteN (thrNot hw) ?_
    exact ⟨Nat.zero_le _, fun l hl => k l _ (s1.trans (same_new hl _)) upd_same⟩
theorem nd_AsS1 : (["row"] : List Str).Nodup := by decide +kernel
theorem scAsS : FnScope ["rows"] ["rows"] (defScope sAsS) := ⟨rfl, rfl, rfl, by decide +kernel, rfl, by decide +kernel, by decide +kernel⟩
theorem ok_AsS {f : Addr} {fd : FuncData} (F : Fun K "as_steps" "as_steps" sAsS f fd)
     :
    FnOk P w K mg base CX0 (1) f fd ["rows"] spAsS := by
  refine F.ok scAsS (fun vs H Q E h => ?_) (fun cdv A outer s H vs Q E hr h => ?_)
  · obtain ⟨p, rs, rfl, _⟩ := h
    rfl
  obtain ⟨p, rs, rfl, hp, hl, k⟩ := h
  have hu := hu_of hr
  refine ⟨_, (pss_one (ps_ret (pe_comp ["row"] [none] (pi_tup (pv 0)) (fun _ _ _ _ => (pg_name (i := 0) (nd_AsS1) rfl (Or.inl rfl))) (fun _ _ _ _ => pf_nil) (fun _ _ _ _ => (pe_tup (pa_cons pe_str (pa_cons (pv 0) pa_nil))))))), ?_⟩
  refine ⟨_, rfl, p, rfl, ⟨_, SqT.of hp⟩, comp_tup (K := K) (a := p) (xs := refs rs) (fun i zs σ G => Same H G ∧ (∃ v, σ = [v]) ∧ Two (Stp2 G) zs ((rs.take i).map fun r => (("row" : Str), r)))
    (by rw [refs_len]; exact big4 (by omega)) ⟨Same.refl _, ⟨_, rfl⟩, trivial⟩ (by rintro i zs σ G ⟨_, _, e⟩; rw [e.length, List.length_map, List.length_take]; omega) (by rintro i zs σ G _ ⟨e, _⟩; exact SqT.of (e _ _ hp)) ?_ ?_⟩
  · rintro i v zs σ G hv ⟨s1, ⟨v', rfl⟩, tw⟩
    obtain ⟨r, rfl, hr'⟩ := refs_at hv
    refine ⟨_, rfl, by show 2 ≤ sizeLine; decide, fun t ht => ⟨s1.trans (same_new ht _), ⟨_, rfl⟩, ?_⟩⟩
    rw [take_snoc hr', List.map_append]
    exact Two.append (tw.mono fun _ _ z => Stp2.ts (.of (same_new ht _)) z) ⟨⟨t, rfl, upd_same⟩, trivial⟩
  · rintro zs σ G ⟨s1, _, tw⟩ l hl'
    rw [refs_len, List.take_length] at tw
    exact k l zs _ (s1.trans (same_new hl' _)) upd_same (tw.mono fun _ _ z => Stp2.ts (.of (same_new hl' _)) z)
theorem scInn : FnScope ["row"] ["row"] (defScope sInn) := ⟨rfl, rfl, rfl, by decide +kernel, rfl, by decide +kernel, by decide +kernel⟩
theorem ok_Inn {f : Addr} {fd : FuncData} (F : Fun K "inner_steps" "inner_steps" sInn f fd)
    {f_AsS : Addr} {d_AsS : FuncData} (G_AsS : FnOk P w K mg base CX0 (1) f_AsS d_AsS ["rows"] spAsS) (b_AsS : Binds K d_AsS ["rows"] []) (k_AsS : PySem.W.keepIn K (.ref f_AsS) = true) (m_AsS : mg "as_steps" = some (.ref f_AsS))
     :
    FnOk P w K mg base CX0 (2) f fd ["row"] spInner := by
  refine F.ok scInn (fun vs H Q E h => ?_) (fun cdv A outer s H vs Q E hr h => ?_)
  · obtain ⟨r, rfl, _⟩ := h
    rfl
  obtain ⟨r, rfl, hr0, hc, k⟩ := h
  have hu := hu_of hr
  have hr1 : Room 1 _ := hr.mono (by decide)
  refine ⟨_, (pss_cons (ps_if (pt_cmpR op_eq (pe_ix ix_tup (pv 0) pe_int (fun _ _ => rfl)) pe_str (nomark _)) (pss_one (ps_ret (pe_op op_cat (pe_op op_cat (pe_op op_cat (pe_call G_AsS hr1 (by rfl) m_AsS k_AsS b_AsS .nil pass0 (pa_cons (pe_ix ix_tup (pv 0) pe_int (fun _ _ => rfl)) pa_nil)) (pe_lst (pa_cons (pe_tup (pa_cons pe_str (pa_cons (pv 0) pa_nil))) pa_nil))) (pe_call G_AsS hr1 (by rfl) m_AsS k_AsS b_AsS .nil pass0 (pa_cons (pe_ix ix_tup (pv 0) pe_int (fun _ _ => rfl)) pa_nil))) (pe_lst (pa_cons (pe_tup (pa_cons pe_str (pa_cons (pv 0) pa_nil))) pa_nil))))) pss_nil)
    (pss_cons (ps_if (pt_cmpR op_eq (pe_ix ix_tup (pv 0) pe_int (fun _ _ => rfl)) pe_str (nomark _)) (pss_one (ps_ret (pe_op op_cat (pe_call G_AsS hr1 (by rfl) m_AsS k_AsS b_AsS .nil pass0 (pa_cons (pe_ix ix_tup (pv 0) pe_int (fun _ _ => rfl)) pa_nil)) (pe_lst (pa_cons (pe_tup (pa_cons pe_str (pa_cons (pv 0) pa_nil))) pa_nil))))) pss_nil)
    (pss_one (ps_ret (pe_lst pa_nil))))), ?_⟩
  refine ⟨_, rfl, r.p, _, _, .str r.w, rfl, rfl, SqT.of hr0.at, at0, rfl, _, rfl, ?_⟩
  have ln := len_cnt r.kids
  have ck := cnt_eq r
  generalize hP : r.p = P
  cases r with
  | when p pa pb t a b =>
    obtain rfl : p = P := hP
    refine iteP (decide_eq_true rfl) ?_
    have la : a.length + b.length ≤ 4000 := by simp only [Rw.kids, List.length_append] at ln ck; omega
    obtain ⟨hp, _, ha, hb, ra, rb⟩ := id hr0
    refine ⟨_, rfl, p, _, _, .ref pa, rfl, rfl, SqT.of hp, rfl, pa, a, rfl, ha, by omega, fun r1 z1 H1 s1 h1 t1 => ?_⟩
    refine ⟨_, rfl, by show 2 ≤ sizeLine; decide, fun t2 ht2 => ⟨by show 1 ≤ sizeLine; decide, fun l2 hl2 => ?_⟩⟩
    have s2 := (same_new ht2 (.tup [.str "else", .ref p])).trans (same_new hl2 (.lst [.ref t2]))
    have h2 : upd (upd H1 t2 (.tup [.str "else", .ref p])) l2 (.lst [.ref t2]) l2 = some (.lst [.ref t2]) := upd_same
    have e2 : Stp2 (upd (upd H1 t2 (.tup [.str "else", .ref p])) l2 (.lst [.ref t2])) (.ref t2) (("else" : Str), Rw.when p pa pb t a b) := ⟨t2, rfl, (same_new hl2 _) _ _ upd_same⟩
    generalize upd (upd H1 t2 (.tup [.str "else", .ref p])) l2 (.lst [.ref t2]) = H2 at s2 h2 e2 ⊢
    have l1 := t1.length
    rw [List.length_map] at l1
    refine ⟨r1, l2, _, _, rfl, rfl, s2 _ _ h1, h2, Nat.le_of_lt (big4 (by rw [l1]; show a.length + 1 ≤ 9000000; omega)), fun l3 hl3 => ?_⟩
    have s3 := s2.trans (same_new hl3 (.lst (z1 ++ [.ref t2])))
    have h3 : upd H2 l3 (.lst (z1 ++ [.ref t2])) l3 = some (.lst (z1 ++ [.ref t2])) := upd_same
    have t3 : Two (Stp2 (upd H2 l3 (.lst (z1 ++ [.ref t2])))) (z1 ++ [.ref t2]) (a.map (fun r => (("row" : Str), r)) ++ [(("else" : Str), Rw.when p pa pb t a b)]) := Two.append (t1.mono fun _ _ z => Stp2.ts (.of s3) z) ⟨e2.ts (.of (same_new hl3 _)), trivial⟩
    generalize upd H2 l3 (.lst (z1 ++ [.ref t2])) = H3 at s3 h3 t3 ⊢
    have g3 := s1.trans s3
    refine ⟨_, rfl, p, _, _, .ref pb, rfl, rfl, SqT.of (g3 _ _ hp), rfl, pb, b, rfl, g3 _ _ hb, by omega, fun r4 z4 H4 s4 h4 t4 => ?_⟩
    have l4 := t4.length
    rw [List.length_map] at l4
    refine ⟨l3, r4, _, _, rfl, rfl, s4 _ _ h3, h4, Nat.le_of_lt (big4 (by simp only [List.length_append, List.length_cons, List.length_nil, l1, l4]; omega)), fun l5 hl5 => ?_⟩
    have s5 := s4.trans (same_new hl5 (.lst (z1 ++ [.ref t2] ++ z4)))
    have h5 : upd H4 l5 (.lst (z1 ++ [.ref t2] ++ z4)) l5 = some (.lst (z1 ++ [.ref t2] ++ z4)) := upd_same
    have t5 := Two.append (t3.mono fun _ _ z => Stp2.ts (.of s5) z) (t4.mono fun _ _ z => Stp2.ts (.of (same_new hl5 (.lst (z1 ++ [.ref t2] ++ z4)))) z)
    generalize upd H4 l5 (.lst (z1 ++ [.ref t2] ++ z4)) = H5 at s5 h5 t5 ⊢
    refine ⟨_, rfl, by show 2 ≤ sizeLine; decide, fun t6 ht6 => ⟨by show 1 ≤ sizeLine; decide, fun l6 hl6 => ?_⟩⟩
    have s6 := (same_new ht6 (.tup [.str "end", .ref p])).trans (same_new hl6 (.lst [.ref t6]))
    have h6 : upd (upd H5 t6 (.tup [.str "end", .ref p])) l6 (.lst [.ref t6]) l6 = some (.lst [.ref t6]) := upd_same
    have e6 : Stp2 (upd (upd H5 t6 (.tup [.str "end", .ref p])) l6 (.lst [.ref t6])) (.ref t6) (("end" : Str), Rw.when p pa pb t a b) := ⟨t6, rfl, (same_new hl6 _) _ _ upd_same⟩
    generalize upd (upd H5 t6 (.tup [.str "end", .ref p])) l6 (.lst [.ref t6]) = H6 at s6 h6 e6 ⊢
    refine ⟨l5, l6, _, _, rfl, rfl, s6 _ _ h5, h6, Nat.le_of_lt (big4 (by simp only [List.length_append, List.length_cons, List.length_nil]; omega)), fun l7 hl7 => ?_⟩
    refine k l7 _ _ (g3.trans (s5.trans (s6.trans (same_new hl7 _)))) upd_same ?_
    exact Two.append (t5.mono fun _ _ z => Stp2.ts (.of (s6.trans (same_new hl7 _))) z) ⟨e6.ts (.of (same_new hl7 _)), trivial⟩
  | times p pb n b =>
    obtain rfl : p = P := hP
    refine iteN (fun z => wTW (of_decide_eq_true z)) ?_
    refine ⟨_, rfl, p, _, _, .str "times", rfl, rfl, SqT.of hr0.at, at0, rfl, _, rfl, ?_⟩
    refine iteP (decide_eq_true rfl) ?_
    have la : b.length ≤ 4000 := by simp only [Rw.kids] at ln ck; omega
    obtain ⟨hp, hb, rb⟩ := id hr0
    refine ⟨_, rfl, p, _, _, .ref pb, rfl, rfl, SqT.of hp, rfl, pb, b, rfl, hb, by omega, fun r1 z1 H1 s1 h1 t1 => ?_⟩
    refine ⟨_, rfl, by show 2 ≤ sizeLine; decide, fun t2 ht2 => ⟨by show 1 ≤ sizeLine; decide, fun l2 hl2 => ?_⟩⟩
    have s2 := (same_new ht2 (.tup [.str "end", .ref p])).trans (same_new hl2 (.lst [.ref t2]))
    have h2 : upd (upd H1 t2 (.tup [.str "end", .ref p])) l2 (.lst [.ref t2]) l2 = some (.lst [.ref t2]) := upd_same
    have e2 : Stp2 (upd (upd H1 t2 (.tup [.str "end", .ref p])) l2 (.lst [.ref t2])) (.ref t2) (("end" : Str), Rw.times p pb n b) := ⟨t2, rfl, (same_new hl2 _) _ _ upd_same⟩
    generalize upd (upd H1 t2 (.tup [.str "end", .ref p])) l2 (.lst [.ref t2]) = H2 at s2 h2 e2 ⊢
    have l1 := t1.length
    rw [List.length_map] at l1
    refine ⟨r1, l2, _, _, rfl, rfl, s2 _ _ h1, h2, Nat.le_of_lt (big4 (by rw [l1]; show b.length + 1 ≤ 9000000; omega)), fun l3 hl3 => ?_⟩
    refine k l3 _ _ (s1.trans (s2.trans (same_new hl3 _))) upd_same ?_
    exact Two.append (t1.mono fun _ _ z => Stp2.ts (.of (s2.trans (same_new hl3 _))) z) ⟨e2.ts (.of (same_new hl3 _)), trivial⟩
  | thr p w x vs =>
    obtain rfl : p = P := hP
    have hw := hr0.2.w
    refine iteN (fun z => thrNe1 hw (of_decide_eq_true z)) ?_
    refine ⟨_, rfl, p, _, _, .str w, rfl, rfl, SqT.of hr0.at, at0, rfl, _, rfl, ?_⟩
    refine iteN (fun z => thrNe2 hw (of_decide_eq_true z)) ?_
    exact ⟨Nat.zero_le _, fun l hl => k l [] _ (same_new hl _) upd_same trivial⟩
  | lt p x t =>
    obtain rfl : p = P := hP
    refine iteN (fun z => wLW (of_decide_eq_true z)) ?_
    refine ⟨_, rfl, p, _, _, .str "let", rfl, rfl, SqT.of hr0.at, at0, rfl, _, rfl, ?_⟩
    refine iteN (fun z => wLT (of_decide_eq_true z)) ?_
    exact ⟨Nat.zero_le _, fun l hl => k l [] _ (same_new hl _) upd_same trivial⟩
  | tell p t =>
    obtain rfl : p = P := hP
    refine iteN (fun z => wEW (of_decide_eq_true z)) ?_
    refine ⟨_, rfl, p, _, _, .str "tell", rfl, rfl, SqT.of hr0.at, at0, rfl, _, rfl, ?_⟩
    refine iteN (fun z => wET (of_decide_eq_true z)) ?_
    exact ⟨Nat.zero_le _, fun l hl => k l [] _ (same_new hl _) upd_same trivial⟩
end
end Mine
namespace Mine
open PySem L2
section
variable {P : Program} {w : World} {K : PySem.W.Frag} {mg : Str → Option Value} {base : Heap}
theorem nd_Sts1 : (["step"] : List Str).Nodup := by decide +kernel
theorem nd_Sts2 : (["inner", "count"] : List Str).Nodup := by decide +kernel
theorem scSts : FnScope ["rows", "steps", "count", "waiting", "step", "row"] ["rows"] (defScope sSts) := ⟨rfl, rfl, rfl, by decide +kernel, rfl, by decide +kernel, by decide +kernel⟩
theorem ok_Sts {f : Addr} {fd : FuncData} (F : Fun K "steps_of" "steps_of" sSts f fd)
    {f_AsS : Addr} {d_AsS : FuncData} (G_AsS : FnOk P w K mg base CX0 (1) f_AsS d_AsS ["rows"] spAsS) (b_AsS : Binds K d_AsS ["rows"] []) (k_AsS : PySem.W.keepIn K (.ref f_AsS) = true) (m_AsS : mg "as_steps" = some (.ref f_AsS))
    {f_Inn : Addr} {d_Inn : FuncData} (G_Inn : FnOk P w K mg base CX0 (2) f_Inn d_Inn ["row"] spInner) (b_Inn : Binds K d_Inn ["row"] []) (k_Inn : PySem.W.keepIn K (.ref f_Inn) = true) (m_Inn : mg "inner_steps" = some (.ref f_Inn))
    (m_reversed : mg "reversed" = none) :
    FnOk P w K mg base CX0 (3) f fd ["rows"] spSteps := by
  refine F.ok scSts (fun vs H Q E h => ?_) (fun cdv A outer s H vs Q E hr h => ?_)
  · obtain ⟨p, rs, rfl, _⟩ := h
    rfl
  obtain ⟨p, rs, rfl, hp, hR, hc, k⟩ := h
  have hu := hu_of hr
  have hr1 : Room 1 _ := hr.mono (by decide)
  have hr2 : Room 2 _ := hr.mono (by decide)
  refine ⟨_, (pss_cons (ps_set (i := 1) scSts.nd rfl (Or.inl rfl) (pe_lst pa_nil))
    (pss_cons (ps_set (i := 2) scSts.nd rfl (Or.inr rfl) pe_int)
    (pss_cons (ps_setC ["step"] [none] (i := 3) scSts.nd rfl (Or.inl rfl) (pi_rev (pe_call G_AsS hr1 (by rfl) m_AsS k_AsS b_AsS .nil pass0 (pa_cons (pv 0) pa_nil)) (by rfl) m_reversed) (fun _ _ _ _ => (pg_name (i := 0) (nd_Sts1) rfl (Or.inl rfl))) (fun _ _ _ _ => pf_nil) (fun _ _ _ _ => (pe_tup (pa_cons (pe_ix (ixtK K) (pv 0) pe_int (fun _ _ => rfl)) (pa_cons (pe_ix (ixtK K) (pv 0) pe_int (fun _ _ => rfl)) (pa_cons (pe_un un_neg pe_int) pa_nil))))))
    (pss_cons (ps_while PassesOwn.never (pt_truth (pv 3) (fun _ => rfl))
    (pss_cons (ps_set (i := 4) scSts.nd rfl (Or.inl rfl) (pe_bm0 PySem.F.plainAttrs_list PySem.F.slot_list_pop PySem.F.type_list_pop mt_pop (pv 3)))
    (pss_one (ps_if (pt_cmpR op_eq (pe_ix ix_tup (pv 4) pe_int (fun _ _ => rfl)) pe_str (nomark _)) (pss_cons (ps_set (i := 5) scSts.nd rfl (Or.inl rfl) (pe_ix ix_tup (pv 4) pe_int (fun _ _ => rfl)))
    (pss_cons (ps_expr (pe_bm PySem.F.plainAttrs_list PySem.F.slot_list_append PySem.F.type_list_append mt_append (pv 1) (pa_cons (pe_tup (pa_cons pe_str (pa_cons (pv 5) (pa_cons (pv 2) pa_nil)))) pa_nil)))
    (pss_cons (ps_expr (pe_bm PySem.F.plainAttrs_list PySem.F.slot_list_extend PySem.F.type_list_extend mt_extend (pv 3) (pa_cons (pe_comp ["inner", "count"] [none, some 2] (pi_rev (pe_call G_Inn hr2 (by rfl) m_Inn k_Inn b_Inn .nil pass0 (pa_cons (pv 5) pa_nil)) (by rfl) m_reversed) (fun _ _ _ _ => (pg_name (i := 0) (nd_Sts2) rfl (Or.inl rfl))) (fun _ _ _ _ => pf_nil) (fun _ _ _ _ => (pe_tup (pa_cons (pe_ix (ixtK K) (pv 0) pe_int (fun _ _ => rfl)) (pa_cons (pe_ix (ixtK K) (pv 0) pe_int (fun _ _ => rfl)) (pa_cons (pv 1) pa_nil)))))) pa_nil)))
    (pss_one (ps_aug (i := 2) scSts.nd rfl (Or.inr rfl) pe_int ip_add))))) (pss_one (ps_expr (pe_bm PySem.F.plainAttrs_list PySem.F.slot_list_append PySem.F.type_list_append mt_append (pv 1) (pa_cons (pv 4) pa_nil))))))))
    (pss_one (ps_ret (pv 1))))))), ?_⟩
  have rl := len_cnt rs
  have tl := stpsL_len rs
  refine ⟨Nat.zero_le _, fun l1 hl1 => ?_⟩
  have s1 := same_new hl1 (.lst [])
  have h1 : upd H l1 (.lst []) l1 = some (.lst []) := upd_same
  generalize upd H l1 (.lst []) = H1 at s1 h1 ⊢
  refine ⟨_, rfl, p, rs, rfl, s1 _ _ hp, by omega, fun r z H2 s2 h2 t2 => ⟨r, _, rfl, SqL.of h2, ?_⟩⟩
  have zl := t2.length
  rw [List.length_map] at zl
  have t2r := two_rev t2
  refine comp_rev (K := K) (a := r) (xs := z) (fun i ys σ G => Same H2 G ∧ (∃ v, σ = [v]) ∧ Two (Stp3 G) ys (((rs.map fun r => (("row" : Str), r)).reverse).take i))
    (big4 (by omega)) ⟨Same.refl _, ⟨_, rfl⟩, trivial⟩ (by rintro i ys σ G ⟨_, _, e⟩; rw [e.length, List.length_take]; omega) (by rintro i ys σ G _ ⟨e, _⟩; exact SqL.of (e _ _ h2)) ?_ ?_
  · rintro i v ys σ G hv ⟨s3, ⟨v', rfl⟩, tw⟩
    obtain ⟨s, hs, q, rfl, hq⟩ := twoAt t2r hv
    refine ⟨_, rfl, q, _, _, .str s.1, rfl, rfl, SqT.of (s3 _ _ hq), rfl, _, rfl, q, _, _, .ref s.2.p, rfl, rfl, SqT.of (s3 _ _ hq), rfl, _, rfl, by show 3 ≤ sizeLine; decide, fun t ht => ⟨s3.trans (same_new ht _), ⟨_, rfl⟩, ?_⟩⟩
    rw [take_snoc hs]
    exact Two.append (tw.mono fun _ _ z => Stp3.ts (.of (same_new ht _)) z) ⟨⟨t, _, rfl, upd_same⟩, trivial⟩
  rintro ys σ G ⟨s3, _, tw⟩ lw hlw
  have el : z.length = ((rs.map fun r => (("row" : Str), r)).reverse).length := by rw [List.length_reverse, List.length_map]; exact zl
  rw [el, List.take_length] at tw
  have s4 := s1.trans (s2.trans (s3.trans (same_new hlw (.lst ys))))
  have h4 : upd G lw (.lst ys) lw = some (.lst ys) := upd_same
  have ne : lw ≠ l1 := (ne_of_none ((s2.trans s3) _ _ h1) hlw).symm
  have g1 : upd G lw (.lst ys) l1 = some (.lst []) := (upd_ne ne.symm).trans ((s2.trans s3) _ _ h1)
  have nw : H lw = none := (s1.trans (s2.trans s3)).free hlw
  replace tw := tw.mono fun _ _ z => Stp3.ts (.of (same_new hlw (.lst ys))) z
  generalize upd G lw (.lst ys) = H4 at s4 h4 g1 tw ⊢
  refine ⟨fun m σ G => ∃ (em stk : List Stp) (ez wz : List V) (n : Int) (v4 v5 : Option V), σ = [some (.ref p), some (.ref l1), some (.int n), some (.ref lw), v4, v5] ∧ Same H G ∧ G l1 = some (.lst ez) ∧ Two (Stp3 G) ez em ∧ G lw = some (.lst wz) ∧ Two (Stp3 G) wz stk.reverse ∧ em ++ stk.flatMap expd = stpsL rs ∧ (∀ s ∈ stk, RwH H s.2 ∧ s.2.cnt ≤ 4000) ∧ m = (stk.flatMap expd).length,
    ⟨_, [], rs.map fun r => (("row" : Str), r), [], ys, 0, none, none, rfl, s4, g1, trivial, h4, tw, expd_rows rs, fun s hs => by
      obtain ⟨r0, m0, e0⟩ := List.mem_map.mp hs
      rw [← e0]
      have := cnt_mem m0
      exact ⟨hR.mem _ m0, by show r0.cnt ≤ 4000; omega⟩, rfl⟩, ?_⟩
  clear tw h4 g1
  rintro m σ G ⟨em, stk, ez, wz, n, v4, v5, rfl, s5, g1, t5, g2, t6, eq, hs, rfl⟩
  refine ⟨_, rfl, _, .inl ⟨_, SqL.of g2, rfl⟩, ?_⟩
  have lt := congrArg List.length eq
  rw [List.length_append] at lt
  have ls := exp_ge stk
  have l5 := t5.length
  have l6 := t6.length
  rw [List.length_reverse] at l6
  cases stk with
  | nil =>
    obtain rfl : wz = [] := List.length_eq_zero_iff.mp l6
    refine iteN (by simp) ?_
    rw [List.flatMap_nil, List.append_nil] at eq
    rw [eq] at t5
    exact ⟨_, rfl, k l1 ez G s5 hl1 g1 t5⟩
  | cons s rest =>
    rw [List.reverse_cons] at t6
    obtain ⟨us, u, rfl, t7, q, n0, rfl, hq⟩ := two_snoc t6
    refine iteP (by simp) ?_
    have hS := hs s List.mem_cons_self
    have sp := exp_pos s
    rw [List.flatMap_cons, List.length_append] at lt ls
    rw [List.length_cons] at ls l6
    rw [List.length_append, List.length_cons, List.length_nil] at l6
    refine ⟨fun σ' G' => ∃ (em' stk' : List Stp) (ez' wz' : List V) (n : Int) (v4 v5 : Option V), σ' = [some (.ref p), some (.ref l1), some (.int n), some (.ref lw), v4, v5] ∧ Same H G' ∧ G' l1 = some (.lst ez') ∧ Two (Stp3 G') ez' em' ∧ G' lw = some (.lst wz') ∧ Two (Stp3 G') wz' stk'.reverse ∧ em' ++ stk'.flatMap expd = stpsL rs ∧ (∀ s ∈ stk', RwH H s.2 ∧ s.2.cnt ≤ 4000) ∧ (stk'.flatMap expd).length + 1 = ((s :: rest).flatMap expd).length,
      fun σ' G' ⟨em', stk', ez', wz', n', v4', v5', e1, e2, e3, e4, e5, e6, e7, e8, e9⟩ => ⟨_, by omega, em', stk', ez', wz', n', v4', v5', e1, e2, e3, e4, e5, e6, e7, e8, rfl⟩, ?_⟩
    refine ⟨_, rfl, .inl ⟨rfl, _, SqL.of g2⟩, lw, _, V.ref q, rfl, rfl, g2, by simp, ?_⟩
    rw [List.dropLast_concat]
    have ts6 := TS.lst (ys := us) g2
    have s6 := same_lst (ys := us) s5 nw
    have g3 : upd G lw (.lst us) lw = some (.lst us) := upd_same
    have g4 : upd G lw (.lst us) l1 = some (.lst ez) := (upd_ne ne.symm).trans g1
    have hq6 := ts6 _ _ hq
    replace t5 := t5.mono fun _ _ z => Stp3.ts ts6 z
    replace t7 := t7.mono fun _ _ z => Stp3.ts ts6 z
    generalize upd G lw (.lst us) = G1 at s6 g3 g4 hq6 t5 t7 ⊢
    refine ⟨_, rfl, q, _, _, .str s.1, rfl, rfl, SqT.of hq6, rfl, rfl, _, rfl, ?_⟩
    by_cases c : s.1 = "row"
    · refine iteP (by rw [c]; exact decide_eq_true rfl) ?_
      obtain ⟨s1', r0⟩ := s
      have c : s1' = "row" := c
      subst c
      have ex : expd (("row" : Str), r0) = (("row" : Str), r0) :: (inner r0).flatMap expd := (show expd (("row" : Str), r0) = stps r0 from if_pos rfl).trans (stps_eq r0)
      refine ⟨_, rfl, q, _, _, .ref r0.p, rfl, rfl, SqT.of hq6, rfl, ?_⟩
      refine ⟨_, rfl, .inl ⟨rfl, _, SqL.of g4⟩, _, rfl, _, rfl, by show 3 ≤ sizeLine; decide, fun t ht => ?_⟩
      have s7 := s6.trans (same_new ht (.tup [.str "row", .ref r0.p, .int n]))
      have nt1 : l1 ≠ t := ne_of_none g4 ht
      have nt2 : lw ≠ t := ne_of_none g3 ht
      have g5 : upd G1 t (.tup [.str "row", .ref r0.p, .int n]) l1 = _ := (upd_ne nt1).trans g4
      have g6 : upd G1 t (.tup [.str "row", .ref r0.p, .int n]) lw = _ := (upd_ne nt2).trans g3
      have et : Stp3 (upd G1 t (.tup [.str "row", .ref r0.p, .int n])) (.ref t) (("row" : Str), r0) := ⟨t, n, rfl, upd_same⟩
      replace t5 := t5.mono fun _ _ z => Stp3.ts (.of (same_new ht (.tup [.str "row", .ref r0.p, .int n]))) z
      replace t7 := t7.mono fun _ _ z => Stp3.ts (.of (same_new ht (.tup [.str "row", .ref r0.p, .int n]))) z
      generalize upd G1 t (.tup [.str "row", .ref r0.p, .int n]) = G2 at s7 g5 g6 et t5 t7 ⊢
      refine ⟨l1, _, _, rfl, rfl, g5, big4 (by omega), ?_⟩
      have ts8 := TS.lst (ys := ez ++ [.ref t]) g5
      have s8 := same_lst (ys := ez ++ [.ref t]) s7 hl1
      have g7 : upd G2 l1 (.lst (ez ++ [.ref t])) l1 = some (.lst (ez ++ [.ref t])) := upd_same
      have g8 : upd G2 l1 (.lst (ez ++ [.ref t])) lw = some (.lst us) := (upd_ne ne).trans g6
      have t8 := Two.append (t5.mono fun _ _ z => Stp3.ts ts8 z) (show Two (Stp3 (upd G2 l1 (.lst (ez ++ [.ref t])))) [.ref t] [(("row" : Str), r0)] from ⟨et.ts ts8, trivial⟩)
      replace t7 := t7.mono fun _ _ z => Stp3.ts ts8 z
      generalize upd G2 l1 (.lst (ez ++ [.ref t])) = G3 at s8 g7 g8 t8 t7 ⊢
      refine ⟨_, rfl, .inl ⟨rfl, _, SqL.of g8⟩, _, rfl, r0, rfl, RwH.ts (.of s8) r0 hS.1, hS.2, fun qi zi H9 s9 h9 t9 => ⟨qi, _, rfl, SqL.of h9, ?_⟩⟩
      have t9r := two_rev t9
      have zl9 := t9.length
      have li := exp_ge (inner r0)
      rw [ex, List.length_cons] at lt ls sp
      refine comp_rev (K := K) (a := qi) (xs := zi) (fun i ys σ G => Same H9 G ∧ (∃ v, σ = [v, some (.int n)]) ∧ Two (Stp3 G) ys ((inner r0).reverse.take i))
        (big4 (by omega)) ⟨Same.refl _, ⟨_, rfl⟩, trivial⟩ (by rintro i ys σ G ⟨_, _, e⟩; rw [e.length, List.length_take]; omega) (by rintro i ys σ G _ ⟨e, _⟩; exact SqL.of (e _ _ h9)) ?_ ?_
      · rintro i v ys σ G hv ⟨s3, ⟨v', rfl⟩, tw⟩
        obtain ⟨s, hs, q, rfl, hq⟩ := twoAt t9r hv
        refine ⟨_, rfl, q, _, _, .str s.1, rfl, rfl, SqT.of (s3 _ _ hq), rfl, _, rfl, q, _, _, .ref s.2.p, rfl, rfl, SqT.of (s3 _ _ hq), rfl, _, rfl, by show 3 ≤ sizeLine; decide, fun t ht => ⟨s3.trans (same_new ht _), ⟨_, rfl⟩, ?_⟩⟩
        rw [take_snoc hs]
        exact Two.append (tw.mono fun _ _ z => Stp3.ts (.of (same_new ht _)) z) ⟨⟨t, _, rfl, upd_same⟩, trivial⟩
      rintro ys σ G5 ⟨s10, _, tw⟩ l10 hl10
      have el : zi.length = (inner r0).reverse.length := by rw [List.length_reverse]; exact zl9
      rw [el, List.take_length] at tw
      have s11 := s9.trans (s10.trans (same_new hl10 (.lst ys)))
      have h11 : upd G5 l10 (.lst ys) l10 = some (.lst ys) := upd_same
      have n10 : lw ≠ l10 := ne_of_none ((s9.trans s10) _ _ g8) hl10
      replace tw := tw.mono fun _ _ z => Stp3.ts (.of (same_new hl10 (.lst ys))) z
      generalize upd G5 l10 (.lst ys) = G6 at s11 h11 tw ⊢
      have yl := tw.length
      rw [List.length_reverse] at yl
      refine ⟨lw, l10, _, _, rfl, rfl, s11 _ _ g8, h11, Nat.le_of_lt (big4 (by omega)), ?_⟩
      have ts12 := (TS.of s11).trans (TS.lst (ys := us ++ ys) (s11 _ _ g8))
      refine ⟨_, rfl, _, _, rfl, rfl, em ++ [(("row" : Str), r0)], inner r0 ++ rest, _, _, _, _, _, rfl, same_lst (s8.trans s11) nw, (upd_ne ne.symm).trans (s11 _ _ g7), t8.mono fun _ _ z => Stp3.ts ts12 z, upd_same, ?_, ?_, fun s hs' => ?_, ?_⟩
      · rw [List.reverse_append]
        exact Two.append (t7.mono fun _ _ z => Stp3.ts ts12 z) (tw.mono fun _ _ z => Stp3.ts (TS.lst (s11 _ _ g8)) z)
      · rw [← eq, List.flatMap_cons, ex, List.flatMap_append]
        simp
      · rcases List.mem_append.mp hs' with e | e
        · exact inner_ok hS.1 hS.2 e
        · exact hs s (List.mem_cons_of_mem _ e)
      · rw [List.flatMap_cons, ex, List.flatMap_append]
        simp <;> omega
    · refine iteN (fun z => c (by have z := of_decide_eq_true z; injection z)) ?_
      have ex : expd s = [s] := if_neg c
      refine ⟨_, rfl, .inl ⟨rfl, _, SqL.of g4⟩, _, rfl, l1, _, _, rfl, rfl, g4, big4 (by omega), ?_⟩
      have ts8 := TS.lst (ys := ez ++ [.ref q]) g4
      refine ⟨em ++ [s], rest, _, _, _, _, _, rfl, same_lst s6 hl1, upd_same, Two.append (t5.mono fun _ _ z => Stp3.ts ts8 z) ⟨⟨q, n0, rfl, ts8 _ _ hq6⟩, trivial⟩, (upd_ne ne).trans g3, t7.mono fun _ _ z => Stp3.ts ts8 z, ?_, fun s hs' => hs s (List.mem_cons_of_mem _ hs'), ?_⟩
      · rw [← eq, List.flatMap_cons, ex]
        simp
      · rw [List.flatMap_cons, ex]
        simp <;> omega
theorem nd_RwI1 : (["word", "row", "number"] : List Str).Nodup := by decide +kernel
theorem scRwI : FnScope ["program"] ["program"] (defScope sRwI) := ⟨rfl, rfl, rfl, by decide +kernel, rfl, by decide +kernel, by decide +kernel⟩
theorem ok_RwI {f : Addr} {fd : FuncData} (F : Fun K "rows_in" "rows_in" sRwI f fd)
    {f_Sts : Addr} {d_Sts : FuncData} (G_Sts : FnOk P w K mg base CX0 (3) f_Sts d_Sts ["rows"] spSteps) (b_Sts : Binds K d_Sts ["rows"] []) (k_Sts : PySem.W.keepIn K (.ref f_Sts) = true) (m_Sts : mg "steps_of" = some (.ref f_Sts))
     :
    FnOk P w K mg base CX0 (4) f fd ["program"] spRowsIn := by
  refine F.ok scRwI (fun vs H Q E h => ?_) (fun cdv A outer s H vs Q E hr h => ?_)
  · obtain ⟨p, xs, rs, rfl, _⟩ := h
    rfl
  obtain ⟨p, xs, rs, rfl, P0, k⟩ := h
  have hu := hu_of hr
  have hr1 : Room 1 _ := hr.mono (by decide)
  have hr3 : Room 3 _ := hr.mono (by decide)
  refine ⟨_, (pss_one (ps_ret (pe_comp ["word", "row", "number"] [none, none, none] (pi_list (pe_call G_Sts hr3 (by rfl) m_Sts k_Sts b_Sts .nil pass0 (pa_cons (pe_ix ix_tup (pv 0) pe_int (fun _ _ => rfl)) pa_nil))) (fun _ _ _ _ => (pgtK K (n := 3) rfl (pgs_cons (pg_name (i := 0) (nd_RwI1) rfl (Or.inl rfl)) (pgs_cons (pg_name (i := 1) (nd_RwI1) rfl (Or.inl rfl)) (pgs_cons (pg_name (i := 2) (nd_RwI1) rfl (Or.inl rfl)) pgs_nil))))) (fun _ _ _ _ => (pf_one (pt_cmpR op_eq (pv 0) pe_str (nomark _)))) (fun _ _ _ _ => (pv 1))))), ?_⟩
  obtain ⟨v0, pr, hp, hpr⟩ := P0.ex
  have tl := stpsL_len rs
  have c0 := P0.cnt
  refine ⟨_, rfl, p, _, _, .ref pr, rfl, rfl, SqT.of hp, rfl, pr, rs, rfl, hpr, P0.rows, Nat.le_trans P0.cnt (by decide), fun r zs H1 s1 _ h1 t1 => ⟨r, rfl, ⟨_, SqL.of h1⟩, ?_⟩⟩
  have zl := t1.length
  refine comp_list (K := K) (a := r) (xs := zs) (fun i ys σ G => G = H1 ∧ (∃ v1 v2 v3, σ = [v1, v2, v3]) ∧ ys = refs ((((stpsL rs).take i).filter fun s : Stp => decide (s.1 = "row")).map (·.2)))
    (big4 (by omega)) ⟨rfl, ⟨_, _, _, rfl⟩, rfl⟩ (fun i ys σ G ⟨_, _, e⟩ => by
      rw [e, refs_len, List.length_map]
      exact Nat.le_trans (List.length_filter_le _ _) (by rw [List.length_take]; omega)) (by rintro i ys σ G _ ⟨e, _⟩; rw [e]; exact SqL.of h1) ?_ ?_
  · rintro i v ys σ G hv ⟨rfl, ⟨v1, v2, v3, rfl⟩, rfl⟩
    obtain ⟨s, hs, q, n, rfl, hq⟩ := twoAt t1 hv
    refine ⟨q, _, rfl, SqT.of hq, rfl, _, _, rfl, _, _, rfl, _, _, rfl, rfl, ?_⟩
    refine ⟨_, rfl, rfl, _, rfl, ?_⟩
    rw [take_snoc hs, List.filter_append, List.map_append, refs_app]
    by_cases c : s.1 = "row"
    · refine iteP (by rw [c]; exact decide_eq_true rfl) ⟨_, rfl, rfl, ⟨_, _, _, rfl⟩, ?_⟩
      rw [List.filter_cons_of_pos (p := fun s : Stp => decide (s.1 = "row")) (decide_eq_true c)]
      rfl
    · refine iteN (fun z => c (by have z := of_decide_eq_true z; injection z)) ⟨rfl, ⟨_, _, _, rfl⟩, ?_⟩
      rw [List.filter_cons_of_neg (p := fun s : Stp => decide (s.1 = "row")) (by simpa using c)]
      simp [refs]
  · rintro ys σ G ⟨rfl, _, rfl⟩ l hl
    rw [zl, List.take_length, stpsL_rows]
    exact k l _ (s1.trans (same_new hl _)) (s1.free hl) upd_same
end
end Mine
namespace Mine
open PySem L2
section
variable {P : Program} {w : World} {K : PySem.W.Frag} {mg : Str → Option Value} {base : Heap}
theorem scNmB : FnScope ["rows", "behind", "row"] ["rows"] (defScope sNmB) := ⟨rfl, rfl, rfl, by decide +kernel, rfl, by decide +kernel, by decide +kernel⟩
theorem ok_NmB {f : Addr} {fd : FuncData} (F : Fun K "names_behind" "names_behind" sNmB f fd)
    {f_Ask : Addr} {d_Ask : FuncData} (G_Ask : FnOk P w K mg base CX0 (3) f_Ask d_Ask ["row"] spAsked) (b_Ask : Binds K d_Ask ["row"] []) (k_Ask : PySem.W.keepIn K (.ref f_Ask) = true) (m_Ask : mg "names_asked" = some (.ref f_Ask))
     :
    FnOk P w K mg base CX0 (4) f fd ["rows"] spNB := by
  refine F.ok scNmB (fun vs H Q E h => ?_) (fun cdv A outer s H vs Q E hr h => ?_)
  · obtain ⟨lr, xs, fl, rfl, _⟩ := h
    rfl
  obtain ⟨lr, xs, fl, rfl, hl, hR, ok, hn, k⟩ := h
  have hu := hu_of hr
  have hr1 : Room 1 _ := hr.mono (by decide)
  have hr3 : Room 3 _ := hr.mono (by decide)
  refine ⟨_, (pss_cons (ps_set (i := 1) scNmB.nd rfl (Or.inl rfl) pe_dnewK)
    (pss_cons (ps_for PassesOwn.never rfl (pi_list (pv 0)) (pg_name (i := 2) scNmB.nd rfl (Or.inl rfl))
    (pss_one (ps_if (pt_cmpR op_eq (pe_ix ix_tup (pv 2) pe_int (fun _ _ => rfl)) pe_str (nomark _)) (pss_one (ps_expr (pe_bm PySem.F.plainAttrs_list PySem.F.slot_list_extend PySem.F.type_list_extend mt_extend (pe_dset (pv 1) (pe_ix ix_tup (pv 2) pe_int (fun _ _ => rfl)) (pe_lst pa_nil) ⟨rfl, rfl, rfl, rfl⟩) (pa_cons (pe_call G_Ask hr3 (by rfl) m_Ask k_Ask b_Ask .nil pass0 (pa_cons (pv 2) pa_nil)) pa_nil)))) pss_nil)))
    (pss_one (ps_ret (pv 1))))), ?_⟩
  refine fun d hd => ?_
  have b0 : BI H (upd H d (.dK [])) d [] [] 0 := ⟨same_new hd _, hd, upd_same, Nat.le_refl _, fun x => .inl ⟨rfl, rfl⟩, fun x y l h => by cases h⟩
  generalize upd H d (.dK []) = H1 at b0 ⊢
  refine ⟨_, rfl, lr, rfl, ⟨_, SqL.of (b0.sm _ _ hl)⟩, for_listA (K := K) (a := lr) (xs := refs fl) (fun i σ G => ∃ (kvs : List (Key × V)) (v2 : Option V), σ = [some (.ref lr), some (.ref d), v2] ∧ BI H G d kvs (fl.take i) i)
    ⟨[], _, rfl, b0⟩ (by rintro i σ G _ ⟨_, _, _, e⟩; exact SqL.of (e.sm _ _ hl)) ?_ ?_⟩
  · rintro D' i v σ G hv ⟨kvs, v2, rfl, b1⟩
    obtain ⟨r, rfl, hr0⟩ := refs_at hv
    have mr := List.mem_of_getElem? hr0
    have hr1 := RwH.ts (.of b1.sm) r (hR.mem r mr)
    have bi := b1.ln
    have il := (List.getElem?_eq_some_iff.mp hr0).1
    refine ⟨_, rfl, r.p, _, _, .str r.w, rfl, rfl, SqT.of hr1.at, at0, rfl, _, rfl, ?_⟩
    by_cases c : r.w = "let"
    · refine iteP (by rw [c]; exact decide_eq_true rfl) ?_
      obtain ⟨p, x, t, rfl⟩ := is_let hr1 c
      have okr := ok _ mr
      refine ⟨_, rfl, d, rfl, isD_k b1.dc, _, rfl, p, _, _, .str x, rfl, rfl, SqT.of hr1.1, at1, Nat.zero_le _, fun l0 hl0 => ⟨kvs, Sum.inr x, (same_new hl0 _) _ _ b1.dc, rfl, big16 (by omega), fun v hv => ?_, fun hv => ?_⟩⟩
      · have b2 := b1.same (same_new hl0 (.lst []))
        have s2 := same_new hl0 (.lst [])
        generalize upd G l0 (.lst []) = G2 at b2 s2 ⊢
        obtain ⟨l, rfl, hl2⟩ : ∃ l, v = .ref l ∧ G2 l = some (.lst (((fl.take i).flatMap (Rw.lets x)).map V.str)) := by
          rcases b2.vl x with ⟨h, _⟩ | ⟨l, h1, h2, _⟩
          · rw [h] at hv; cases hv
          · rw [h1] at hv; cases hv; exact ⟨l, rfl, h2⟩
        refine ⟨.inl ⟨rfl, _, SqL.of hl2⟩, _, rfl, .lt p x t, xs, rfl, RwH.ts (.of s2) _ hr1, okr, fun q H3 s3 h3 => ?_⟩
        have b3 := b2.same s3
        refine ⟨l, q, _, _, rfl, rfl, s3 _ _ hl2, h3, bh_line (p := p) ok hn okr, kvs, _, rfl, ?_⟩
        rw [take_snoc hr0]
        exact (b3.more hv).up (Nat.le_succ _)
      · have b2 := b1.new hl0 hv
        have ts2 : TS G (upd (upd G l0 (.lst [])) d (.dK (putK kvs (Sum.inr x : Key) (.ref l0)))) := fun a ys h => by
          rw [upd_ne (ne_of h b1.dc (by intro z; cases z)), upd_ne (ne_of_none h hl0)]
          exact h
        have hv2 : valV (putK kvs (Sum.inr x : Key) (.ref l0)) (Sum.inr x : Key) = some (.ref l0) := by rw [valV_put, if_pos rfl]
        generalize upd (upd G l0 (.lst [])) d (.dK (putK kvs (Sum.inr x : Key) (.ref l0))) = G2 at b2 ts2 ⊢
        generalize putK kvs (Sum.inr x : Key) (.ref l0) = kvs2 at b2 hv2 ⊢
        have hl2 : G2 l0 = some (.lst (((fl.take i).flatMap (Rw.lets x)).map V.str)) := by
          rcases b2.vl x with ⟨h, _⟩ | ⟨l, h1, h2, _⟩
          · rw [h] at hv2; cases hv2
          · rw [h1] at hv2; cases hv2; exact h2
        refine ⟨.inl ⟨rfl, _, SqL.of hl2⟩, _, rfl, .lt p x t, xs, rfl, RwH.ts ts2 _ hr1, okr, fun q H3 s3 h3 => ?_⟩
        have b3 := (b2.same s3).more (p := p) (t := t) hv2
        exact ⟨l0, q, _, _, rfl, rfl, s3 _ _ hl2, h3, bh_line (p := p) ok hn okr, _, _, rfl, by rw [take_snoc hr0]; exact b3⟩
    · refine iteN (fun z => c (by have z := of_decide_eq_true z; injection z)) ?_
      refine ⟨kvs, _, rfl, ?_⟩
      rw [take_snoc hr0]
      exact b1.skip (lets_nil c)
  · rintro σ G ⟨kvs, v2, rfl, b1⟩
    rw [refs_len, List.take_length] at b1
    exact ⟨_, rfl, k d G b1.sm hd b1.bh⟩
theorem scIsI : FnScope ["row", "names"] ["row", "names"] (defScope sIsI) := ⟨rfl, rfl, rfl, by decide +kernel, rfl, by decide +kernel, by decide +kernel⟩
theorem ok_IsI {f : Addr} {fd : FuncData} (F : Fun K "is_idle" "is_idle" sIsI f fd)
    {f_SeN : Addr} {d_SeN : FuncData} (G_SeN : FnOk P w K mg base CX0 (1) f_SeN d_SeN ["row"] spSetsN) (b_SeN : Binds K d_SeN ["row"] []) (k_SeN : PySem.W.keepIn K (.ref f_SeN) = true) (m_SeN : mg "sets_name" = some (.ref f_SeN))
     :
    FnOk P w K mg base CX0 (2) f fd ["row", "names"] spIsI := by
  refine F.ok scIsI (fun vs H Q E h => ?_) (fun cdv A outer s H vs Q E hr h => ?_)
  · obtain ⟨r, np, ss, rfl, _⟩ := h
    rfl
  obtain ⟨r, np, ss, rfl, hr0, hn, k⟩ := h
  have hu := hu_of hr
  have hr1 : Room 1 _ := hr.mono (by decide)
  refine ⟨_, (pss_one (ps_ret (pe_and (pe_call G_SeN hr1 (by rfl) m_SeN k_SeN b_SeN .nil pass0 (pa_cons (pv 0) pa_nil)) (pe_one (pe_cmpR op_notIn_seq (pe_ix ix_tup (pv 0) pe_int (fun _ _ => rfl)) (pv 1) rfl))))), ?_⟩
  refine ⟨_, rfl, r, rfl, hr0, _, rfl, ?_⟩
  cases e : r.sets with
  | none =>
    rw [idl_none e] at k
    exact iteN (by decide) k
  | some x =>
    rw [idl_sets e] at k
    obtain ⟨vs, hv⟩ := sets_at hr0 e
    refine iteP rfl ?_
    refine ⟨_, rfl, r.p, _, _, .str x, rfl, rfl, SqT.of hv, at1, _, rfl, np, _, rfl, .inr (SqT.of hn), rfl, flat_texts _, ?_⟩
    rw [notin_strs]
    exact k
theorem nd_Idl1 : (["number", "row", "names"] : List Str).Nodup := by decide +kernel
theorem nd_Idl2 : (["number", "row", "names"] : List Str).Nodup := by decide +kernel
theorem scIdl : FnScope ["program", "names"] ["program"] (defScope sIdl) := ⟨rfl, rfl, rfl, by decide +kernel, rfl, by decide +kernel, by decide +kernel⟩
theorem ok_Idl {f : Addr} {fd : FuncData} (F : Fun K "idle" "idle" sIdl f fd)
    {f_Ned : Addr} {d_Ned : FuncData} (G_Ned : FnOk P w K mg base CX0 (5) f_Ned d_Ned ["program"] spNeeded) (b_Ned : Binds K d_Ned ["program"] []) (k_Ned : PySem.W.keepIn K (.ref f_Ned) = true) (m_Ned : mg "needed" = some (.ref f_Ned))
    {f_IsI : Addr} {d_IsI : FuncData} (G_IsI : FnOk P w K mg base CX0 (2) f_IsI d_IsI ["row", "names"] spIsI) (b_IsI : Binds K d_IsI ["row", "names"] []) (k_IsI : PySem.W.keepIn K (.ref f_IsI) = true) (m_IsI : mg "is_idle" = some (.ref f_IsI))
    {f_RwI : Addr} {d_RwI : FuncData} (G_RwI : FnOk P w K mg base CX0 (4) f_RwI d_RwI ["program"] spRowsIn) (b_RwI : Binds K d_RwI ["program"] []) (k_RwI : PySem.W.keepIn K (.ref f_RwI) = true) (m_RwI : mg "rows_in" = some (.ref f_RwI))
    (m_tuple : mg "tuple" = none) (m_enumerate : mg "enumerate" = none) :
    FnOk P w K mg base CX0 (6) f fd ["program"] spIdle := by
  refine F.ok scIdl (fun vs H Q E h => ?_) (fun cdv A outer s H vs Q E hr h => ?_)
  · obtain ⟨p, xs, rs, rfl, _⟩ := h
    rfl
  obtain ⟨p, xs, rs, rfl, P0, k⟩ := h
  have hu := hu_of hr
  have hr1 : Room 1 _ := hr.mono (by decide)
  have hr2 : Room 2 _ := hr.mono (by decide)
  have hr4 : Room 4 _ := hr.mono (by decide)
  have hr5 : Room 5 _ := hr.mono (by decide)
  refine ⟨_, (pss_cons (ps_set (i := 1) scIdl.nd rfl (Or.inr rfl) (pe_call G_Ned hr5 (by rfl) m_Ned k_Ned b_Ned .nil pass0 (pa_cons (pv 0) pa_nil)))
    (pss_one (ps_ret (pe_callTy call_tuple_of (by rfl) m_tuple PyProof.Rows.boot_tuple (pa_cons (pe_comp ["number", "row", "names"] [none, none, some 1] (pi_enum (by rfl) m_enumerate (pa_cons (pe_call G_RwI hr4 (by rfl) m_RwI k_RwI b_RwI .nil pass0 (pa_cons (pv 0) pa_nil)) pa_nil)) (fun _ _ _ _ => (pgtK K (n := 2) rfl (pgs_cons (pg_name (i := 0) (nd_Idl2) rfl (Or.inl rfl)) (pgs_cons (pg_name (i := 1) (nd_Idl2) rfl (Or.inl rfl)) pgs_nil)))) (fun _ _ _ _ => (pf_one (pt_val (pe_call G_IsI hr2 (by rfl) m_IsI k_IsI b_IsI .nil pass0 (pa_cons (pv 1) (pa_cons (pv 2) pa_nil)))))) (fun _ _ _ _ => (pv 0))) pa_nil))))), ?_⟩
  have f13 := P0.fl
  refine ⟨_, rfl, p, xs, rs, rfl, P0, fun r1 ss H1 s1 h1 nds => ?_⟩
  refine ⟨_, rfl, p, xs, rs, rfl, P0.ts (.of s1), fun r2 H2 s2 n2 h2 => ⟨r2, rfl, ⟨_, SqL.of h2⟩, ?_⟩⟩
  have rH := RwsH.ts (.of (s1.trans s2)) _ (RwsH.flat rs P0.rows)
  refine comp_enum (K := K) (a := r2) (xs := refs (flatL rs)) (fun i ys σ G => Same H2 G ∧ (∃ v1 v2, σ = [v1, v2, some (.ref r1)]) ∧ ys = (nums (flatL rs) ss i).map V.int)
    (big16 (by rw [refs_len]; omega)) ⟨Same.refl _, ⟨_, _, rfl⟩, rfl⟩ (by rintro i ys σ G ⟨_, _, e⟩; rw [e, List.length_map]; exact nums_len _ _ _) (by rintro i ys σ G _ ⟨e, _⟩; exact SqL.of (e _ _ h2)) ?_ ?_
  · rintro i v ys σ G t hv ⟨s3, ⟨v1, v2, rfl⟩, rfl⟩ ht
    obtain ⟨r, rfl, hr0⟩ := refs_at hv
    have s4 := same_new ht (.tup [.int i, .ref r.p])
    have h4 : upd G t (.tup [.int i, .ref r.p]) t = some (.tup [.int i, .ref r.p]) := upd_same
    generalize upd G t (.tup [.int i, .ref r.p]) = G4 at s4 h4 ⊢
    have gg := s3.trans s4
    refine ⟨t, _, rfl, SqT.of h4, rfl, _, _, rfl, _, _, rfl, rfl, ?_⟩
    refine ⟨_, rfl, _, rfl, r, r1, ss, rfl, RwH.ts (.of gg) r (rH.mem r (List.mem_of_getElem? hr0)), (s2.trans gg) _ _ h1, _, rfl, ?_⟩
    have ea : idA (flatL rs) ss i = idl ss r := by unfold idA; rw [hr0]
    rw [nums_succ, ea, List.map_append]
    by_cases c : idl ss r = true
    · refine iteP c ⟨_, rfl, gg, ⟨_, _, rfl⟩, ?_⟩
      rw [if_pos c]; rfl
    · refine iteN c ⟨gg, ⟨_, _, rfl⟩, ?_⟩
      rw [if_neg c]; simp
  · rintro ys σ G ⟨s3, _, rfl⟩ l hl
    rw [refs_len]
    exact ⟨l, _, rfl, .inl ⟨SqL.of upd_same, fun t ht => k t ss _ (s1.trans (s2.trans (s3.trans ((same_new hl _).trans (same_new ht _))))) upd_same nds⟩⟩
end
end Mine
namespace Mine
open PySem L2
section
variable {P : Program} {w : World} {K : PySem.W.Frag} {mg : Str → Option Value} {base : Heap}
theorem scNed : FnScope ["program", "rows", "behind", "found", "waiting", "row", "name"] ["program"] (defScope sNed) := ⟨rfl, rfl, rfl, by decide +kernel, rfl, by decide +kernel, by decide +kernel⟩
theorem ok_Ned {f : Addr} {fd : FuncData} (F : Fun K "needed" "needed" sNed f fd)
    {f_RwI : Addr} {d_RwI : FuncData} (G_RwI : FnOk P w K mg base CX0 (4) f_RwI d_RwI ["program"] spRowsIn) (b_RwI : Binds K d_RwI ["program"] []) (k_RwI : PySem.W.keepIn K (.ref f_RwI) = true) (m_RwI : mg "rows_in" = some (.ref f_RwI))
    {f_NmB : Addr} {d_NmB : FuncData} (G_NmB : FnOk P w K mg base CX0 (4) f_NmB d_NmB ["rows"] spNB) (b_NmB : Binds K d_NmB ["rows"] []) (k_NmB : PySem.W.keepIn K (.ref f_NmB) = true) (m_NmB : mg "names_behind" = some (.ref f_NmB))
    {f_Ask : Addr} {d_Ask : FuncData} (G_Ask : FnOk P w K mg base CX0 (3) f_Ask d_Ask ["row"] spAsked) (b_Ask : Binds K d_Ask ["row"] []) (k_Ask : PySem.W.keepIn K (.ref f_Ask) = true) (m_Ask : mg "names_asked" = some (.ref f_Ask))
    (m_tuple : mg "tuple" = none) (m_sorted : mg "sorted" = none) :
    FnOk P w K mg base CX0 (5) f fd ["program"] spNeeded := by
  refine F.ok scNed (fun vs H Q E h => ?_) (fun cdv A outer s H vs Q E hr h => ?_)
  · obtain ⟨p, xs, rs, rfl, _⟩ := h
    rfl
  obtain ⟨p, xs, rs, rfl, P0, k⟩ := h
  have hu := hu_of hr
  have hr1 : Room 1 _ := hr.mono (by decide)
  have hr3 : Room 3 _ := hr.mono (by decide)
  have hr4 : Room 4 _ := hr.mono (by decide)
  refine ⟨_, (pss_cons (ps_set (i := 1) scNed.nd rfl (Or.inl rfl) (pe_call G_RwI hr4 (by rfl) m_RwI k_RwI b_RwI .nil pass0 (pa_cons (pv 0) pa_nil)))
    (pss_cons (ps_set (i := 2) scNed.nd rfl (Or.inl rfl) (pe_call G_NmB hr4 (by rfl) m_NmB k_NmB b_NmB .nil pass0 (pa_cons (pv 1) pa_nil)))
    (pss_cons (ps_set (i := 3) scNed.nd rfl (Or.inl rfl) pe_dnewK)
    (pss_cons (ps_set (i := 4) scNed.nd rfl (Or.inl rfl) (pe_lst pa_nil))
    (pss_cons (ps_for PassesOwn.never rfl (pi_list (pv 1)) (pg_name (i := 5) scNed.nd rfl (Or.inl rfl))
    (pss_one (ps_if (pt_cmpR op_in_seq (pe_ix ix_tup (pv 5) pe_int (fun _ _ => rfl)) (pe_tup (pa_cons pe_str (pa_cons pe_str pa_nil))) rfl) (pss_one (ps_expr (pe_bm PySem.F.plainAttrs_list PySem.F.slot_list_extend PySem.F.type_list_extend mt_extend (pv 4) (pa_cons (pe_call G_Ask hr3 (by rfl) m_Ask k_Ask b_Ask .nil pass0 (pa_cons (pv 5) pa_nil)) pa_nil)))) pss_nil)))
    (pss_cons (ps_while PassesOwn.never (pt_truth (pv 4) (fun _ => rfl))
    (pss_cons (ps_set (i := 6) scNed.nd rfl (Or.inl rfl) (pe_bm0 PySem.F.plainAttrs_list PySem.F.slot_list_pop PySem.F.type_list_pop mt_pop (pv 4)))
    (pss_one (ps_if (pt_cmp (pc_dnotin hu (pv 6) (pv 3))) (pss_cons (ps_dput hu (pv 3) (pv 6) pe_bl rfl)
    (pss_one (ps_expr (pe_bm PySem.F.plainAttrs_list PySem.F.slot_list_extend PySem.F.type_list_extend mt_extend (pv 4) (pa_cons (pe_dget2 hu (pv 2) (pv 6) (pe_lst pa_nil) ⟨rfl, rfl, rfl, rfl⟩) pa_nil))))) pss_nil))))
    (pss_one (ps_ret (pe_callTy call_tuple_of (by rfl) m_tuple PyProof.Rows.boot_tuple (pa_cons (pe_callB (call_sortDS hr1) (by rfl) m_sorted PyProof.Rows.boot_sorted (pa_cons (pv 3) pa_nil)) pa_nil)))))))))), ?_⟩
  have f13 := P0.fl
  have okf := P0.okf
  refine ⟨_, rfl, p, xs, rs, rfl, P0, fun r1 H1 s1 n1 h1 => ?_⟩
  have rH := RwsH.ts (.of s1) _ (RwsH.flat rs P0.rows)
  generalize hfl : flatL rs = fl at f13 okf h1 rH
  refine ⟨_, rfl, r1, xs, fl, rfl, h1, rH, okf, f13, fun d2 H2 s2 n2 b2 => ?_⟩
  refine fun df hdf => ?_
  have s3 := same_new hdf (.dK [])
  have h3 : upd H2 df (.dK []) df = some (.dK (fdK [])) := upd_same
  generalize upd H2 df (.dK []) = H3 at s3 h3 ⊢
  refine ⟨Nat.zero_le _, fun lw hlw => ?_⟩
  have s4 := same_new hlw (.lst [])
  have h4 : upd H3 lw (.lst []) lw = some (.lst []) := upd_same
  generalize upd H3 lw (.lst []) = H4 at s4 h4 ⊢
  have n4 : H2 lw = none := s3.free hlw
  refine ⟨_, rfl, r1, rfl, ⟨_, SqL.of ((s2.trans (s3.trans s4)) _ _ h1)⟩, for_listA (K := K) (a := r1) (xs := refs fl) (fun i σ G => ∃ (v5 v6 : Option V), σ = [some (.ref p), some (.ref r1), some (.ref d2), some (.ref df), some (.ref lw), v5, v6] ∧ Same H3 G ∧ G lw = some (.lst (((fl.take i).flatMap Rw.told).map V.str)))
    ⟨_, _, rfl, s4, h4⟩ (by rintro i σ G _ ⟨_, _, _, e, _⟩; exact SqL.of ((s2.trans (s3.trans e)) _ _ h1)) ?_ ?_⟩
  · rintro D' i v σ G hv ⟨v5, v6, rfl, s5, h5⟩
    obtain ⟨r, rfl, hr0⟩ := refs_at hv
    have mr := List.mem_of_getElem? hr0
    have il := (List.getElem?_eq_some_iff.mp hr0).1
    have hr1 := RwH.ts (.of (s2.trans (s3.trans s5))) r (rH.mem r mr)
    have tl := told_lens (fl := fl.take i) (fun r hr => okf r (List.mem_of_mem_take hr))
    have al := (okf r mr).asked.1
    rw [List.length_take] at tl
    refine ⟨_, rfl, r.p, _, _, .str r.w, rfl, rfl, SqT.of hr1.at, at0, by show 2 ≤ sizeLine; decide, fun t2 ht2 => ?_⟩
    have s6 := same_new ht2 (.tup [.str "tell", .str "when"])
    refine ⟨t2, [.str "tell", .str "when"], rfl, .inr (SqT.of upd_same), rfl, by decide, _, rfl, ?_⟩
    generalize upd G t2 (.tup [.str "tell", .str "when"]) = G6 at s6 ⊢
    have ei : inV (V.str r.w) [.str "tell", .str "when"] = decide (r.w ∈ (["tell", "when"] : List Str)) := inV_strs _ ["tell", "when"]
    rw [fm_take hr0]
    by_cases c : r.w ∈ (["tell", "when"] : List Str)
    · refine iteP (ei.trans (decide_eq_true c)) ?_
      refine ⟨_, rfl, .inl ⟨rfl, _, SqL.of (s6 _ _ h5)⟩, _, rfl, r, xs, rfl, RwH.ts (.of s6) r hr1, okf r mr, fun q H7 s7 h7 => ?_⟩
      refine ⟨lw, q, _, _, rfl, rfl, (s6.trans s7) _ _ h5, h7, Nat.le_of_lt (big16 (by rw [List.length_map, List.length_map]; omega)), _, _, rfl, same_lst (s5.trans (s6.trans s7)) hlw, ?_⟩
      rw [upd_same, told_in hr1 c, List.map_append]
    · refine iteN (fun z => c (of_decide_eq_true (ei.symm.trans z))) ?_
      refine ⟨_, _, rfl, s5.trans s6, ?_⟩
      rw [told_out c, List.append_nil]
      exact s6 _ _ h5
  rintro σ G ⟨v5, v6, rfl, s5, h5⟩
  rw [refs_len, List.take_length] at h5
  have tl := told_lens okf
  have pl := pot_le okf [] xs
  have xl := P0.xl
  have pl2 : xs.length * (7 * fl.length) ≤ 12 * (7 * fl.length) := Nat.mul_le_mul_right _ xl
  have b5 : Same H2 G := s3.trans s5
  have h35 := s5 _ _ h3
  have ndl : lw ≠ df := (ne_of_none h3 hlw).symm
  refine ⟨fun m σ G => ∃ (fs ws : List Str) (v6 : Option V), σ = [some (.ref p), some (.ref r1), some (.ref d2), some (.ref df), some (.ref lw), v5, v6] ∧ Same H2 G ∧ G df = some (.dK (fdK fs)) ∧ G lw = some (.lst (ws.map V.str)) ∧ WL fl fs ws ∧ m = ws.length + pot fl xs fs ∧ m ≤ 500000,
    ⟨_, [], _, v6, rfl, b5, h35, h5, WL.init fl, rfl, by omega⟩, ?_⟩
  clear h5 h35 b5 s5 s4 h4
  rintro m σ G ⟨fs, ws, v6, rfl, s5, g1, g2, wl, rfl, mb⟩
  refine ⟨_, rfl, _, .inl ⟨_, SqL.of g2, rfl⟩, ?_⟩
  have fx : ∀ x ∈ fs, x ∈ xs := fun x hx => need_mem okf (wl.need x (.inl hx))
  have fsl := few_len wl.nd fx
  rcases List.eq_nil_or_concat ws with rfl | ⟨ws, x, rfl⟩
  · refine iteN (by simp) ?_
    refine ⟨_, rfl, df, _, fs, rfl, g1, fd_keys fs, by rw [fd_len]; omega, fun ts' pm st l hl => ⟨l, _, rfl, .inl ⟨SqL.of upd_same, fun t ht => ?_⟩⟩⟩
    refine k t ts' _ (s1.trans (s2.trans (s5.trans ((same_new hl _).trans (same_new ht _))))) upd_same ⟨pm.symm.nodup wl.nd, st, fun x => ?_⟩
    rw [pm.mem_iff, hfl]
    exact wl.done x
  · rw [List.concat_eq_append] at *
    refine iteP (by simp) ?_
    rw [List.map_append, List.map_cons, List.map_nil] at g2
    rw [List.length_append, List.length_cons, List.length_nil] at mb
    refine ⟨fun σ' G' => ∃ (fs' ws' : List Str) (v6 : Option V), σ' = [some (.ref p), some (.ref r1), some (.ref d2), some (.ref df), some (.ref lw), v5, v6] ∧ Same H2 G' ∧ G' df = some (.dK (fdK fs')) ∧ G' lw = some (.lst (ws'.map V.str)) ∧ WL fl fs' ws' ∧ ws'.length + pot fl xs fs' + 1 ≤ ws.length + 1 + pot fl xs fs,
      fun σ' G' ⟨fs', ws', v6', e1, e2, e3, e4, e5, e6⟩ => ⟨_, by rw [List.length_append, List.length_cons, List.length_nil]; omega, fs', ws', v6', e1, e2, e3, e4, e5, rfl, by omega⟩, ?_⟩
    refine ⟨_, rfl, .inl ⟨rfl, _, SqL.of g2⟩, lw, _, V.str x, rfl, rfl, g2, by simp, ?_⟩
    rw [List.dropLast_concat]
    have s6 := same_lst (ys := ws.map V.str) s5 n4
    have g3 : upd G lw (.lst (ws.map V.str)) lw = some (.lst (ws.map V.str)) := upd_same
    have g4 : upd G lw (.lst (ws.map V.str)) df = some (.dK (fdK fs)) := (upd_ne ndl.symm).trans g1
    generalize upd G lw (.lst (ws.map V.str)) = G1 at s6 g3 g4 ⊢
    refine ⟨_, rfl, _, rfl, df, _, rfl, DGet.k (k := Sum.inr x) g4, _, rfl, ?_⟩
    rw [fd_val]
    by_cases c : x ∈ fs
    · rw [if_pos c]
      refine iteN (by decide) ?_
      exact ⟨fs, ws, _, rfl, s6, g4, g3, wl.skip c, by omega⟩
    · rw [if_neg c]
      refine iteP (by decide) ?_
      have ps := pot_step fl c (need_mem okf (wl.need x (.inr (by simp))))
      have dp := DPut.k (k := (Sum.inr x : Key)) (v := V.bl true) g4 (small1000 (by rw [fd_len]; omega))
      rw [fd_put c] at dp
      refine ⟨_, rfl, _, rfl, df, _, rfl, dp, ?_⟩
      have s7 : Same H2 (upd G1 df (.dK (fdK (fs ++ [x])))) := fun a o e => (upd_ne (ne_of_none e hdf)).trans (s6 a o e)
      have g5 : upd G1 df (.dK (fdK (fs ++ [x]))) df = some (.dK (fdK (fs ++ [x]))) := upd_same
      have g6 : upd G1 df (.dK (fdK (fs ++ [x]))) lw = some (.lst (ws.map V.str)) := (upd_ne ndl).trans g3
      generalize upd G1 df (.dK (fdK (fs ++ [x]))) = G2 at s7 g5 g6 ⊢
      obtain ⟨kvs, hb, hv⟩ := b2.same s7
      refine ⟨_, rfl, .inl ⟨rfl, _, SqL.of g6⟩, _, rfl, d2, rfl, isD_k hb, _, rfl, Nat.zero_le _, fun l8 hl8 => ?_⟩
      have s8 := same_new hl8 (.lst [])
      have g8 : upd G2 l8 (.lst []) l8 = some (.lst []) := upd_same
      generalize upd G2 l8 (.lst []) = G3 at s8 g8 ⊢
      refine ⟨_, DGet.k (k := Sum.inr x) (s8 _ _ hb), ?_⟩
      have ll := lets_lens okf x
      obtain ⟨l9, e9, h9⟩ : ∃ l9, (valV kvs (Sum.inr x : Key)).getD (.ref l8) = .ref l9 ∧ G3 l9 = some (.lst ((fl.flatMap (Rw.lets x)).map V.str)) := by
        rcases hv x with ⟨e, e0⟩ | ⟨l, e, e0⟩
        · rw [e, e0]; exact ⟨l8, rfl, g8⟩
        · rw [e]; exact ⟨l, rfl, s8 _ _ e0⟩
      rw [e9]
      refine ⟨lw, l9, _, _, rfl, rfl, s8 _ _ g6, h9, Nat.le_of_lt (big16 (by rw [List.length_map, List.length_map]; omega)), fs ++ [x], ws ++ fl.flatMap (Rw.lets x), _, rfl, same_lst (s7.trans s8) n4, (upd_ne ndl.symm).trans (s8 _ _ g5), by rw [upd_same, List.map_append], wl.take c, by rw [List.length_append]; omega⟩
end
end Mine
namespace Mine
open PySem L2
section
variable {P : Program} {w : World} {K : PySem.W.Frag} {mg : Str → Option Value} {base : Heap}
theorem nd_Nms1 : (["_law_j", "_law_letters", "_law_deal_here"] : List Str).Nodup := by decide +kernel
theorem scNms : FnScope ["_law_deal_here", "_law_many", "_law_letters", "_law_words", "_law_found", "_law_k", "_law_size", "_law_word", "_law_spare"] ["_law_deal_here", "_law_many"] (defScope sNms) := ⟨rfl, rfl, rfl, by decide +kernel, rfl, by decide +kernel, by decide +kernel⟩
theorem ok_Nms {f : Addr} {fd : FuncData} (F : Fun K "_law_names" "_law_names" sNms f fd)
    {f_Draw : Addr} {d_Draw : FuncData} (G_Draw : FnOk P w K mg base CX0 (1) f_Draw d_Draw ["_law_deal_here", "_law_many"] spDraw) (b_Draw : Binds K d_Draw ["_law_deal_here", "_law_many"] []) (k_Draw : PySem.W.keepIn K (.ref f_Draw) = true) (m_Draw : mg "_law_draw" = some (.ref f_Draw))
    (m_range : mg "range" = none) :
    FnOk P w K mg base CX0 (2) f fd ["_law_deal_here", "_law_many"] spNames := by
  refine F.ok scNms (fun vs H Q E h => ?_) (fun cdv A outer s H vs Q E hr h => ?_)
  · obtain ⟨d, l, m, rfl, _⟩ := h
    rfl
  obtain ⟨d, l, m, rfl, D, m0, m9, k⟩ := h
  have hu := hu_of hr
  have hr1 : Room 1 _ := hr.mono (by decide)
  refine ⟨_, (@pss_cons _ _ _ _ _ (ps_set (i := 2) scNms.nd rfl (Or.inr rfl) pe_str)
    (@pss_cons _ _ _ _ _ (@ps_set _ _ 3 _ _ _ _ scNms.nd rfl (Or.inl rfl) (@pe_lst _ _ _ _ (@pa_cons _ _ _ _ _ pe_str (@pa_cons _ _ _ _ _ pe_str (@pa_cons _ _ _ _ _ pe_str (@pa_cons _ _ _ _ _ pe_str (@pa_cons _ _ _ _ _ pe_str (@pa_cons _ _ _ _ _ pe_str (@pa_cons _ _ _ _ _ pe_str (@pa_cons _ _ _ _ _ pe_str (@pa_cons _ _ _ _ _ pe_str (@pa_cons _ _ _ _ _ pe_str (@pa_cons _ _ _ _ _ pe_str (@pa_cons _ _ _ _ _ pe_str pa_nil rfl) rfl) rfl) rfl) rfl) rfl) rfl) rfl) rfl) rfl) rfl) rfl)) rfl (Or.inl rfl))
    (@pss_cons _ _ _ _ _ (ps_set (i := 4) scNms.nd rfl (Or.inl rfl) (pe_lst pa_nil))
    (@pss_cons _ _ _ _ _ (ps_for PassesOwn.never rfl (pi_range1 (by rfl) m_range (pa_cons (pv 1) pa_nil)) (pg_name (i := 5) scNms.nd rfl (Or.inl rfl))
    (pss_cons (ps_set (i := 6) scNms.nd rfl (Or.inl rfl) (pe_op op_add pe_int (pe_call G_Draw hr1 (by rfl) m_Draw k_Draw b_Draw .nil pass0 (pa_cons (pv 0) (pa_cons (pe_ix ix_list (pe_lst (pa_cons pe_int (pa_cons pe_int pa_nil))) (pe_call G_Draw hr1 (by rfl) m_Draw k_Draw b_Draw .nil pass0 (pa_cons (pv 0) (pa_cons pe_int pa_nil))) (fun _ _ => rfl)) pa_nil)))))
    (pss_cons (ps_set (i := 7) scNms.nd rfl (Or.inl rfl) (pe_bm PySem.F.plainAttrs_str PySem.F.slot_str_join PySem.F.type_str_join mt_join pe_str (pa_cons (pe_comp ["_law_j", "_law_letters", "_law_deal_here"] [none, some 2, some 0] (pi_range1 (by rfl) m_range (pa_cons (pv 6) pa_nil)) (fun _ _ _ _ => (pg_name (i := 0) (nd_Nms1) rfl (Or.inl rfl))) (fun _ _ _ _ => pf_nil) (fun _ _ _ _ => (pe_ix ix_str (pv 1) (pe_call G_Draw hr1 (by rfl) m_Draw k_Draw b_Draw .nil pass0 (pa_cons (pv 2) (pa_cons pe_int pa_nil))) (fun _ _ => rfl)))) pa_nil)))
    (pss_cons (ps_set (i := 8) scNms.nd rfl (Or.inl rfl) pe_int)
    (pss_cons (ps_while PassesOwn.never (pt_post (PW.pt (pw_or (pt_cmpR op_in_seq (pv 7) (pv 4) rfl) (pw_or1 (pt_cmpR op_in_seq (pv 7) (pv 3) rfl)))))
    (pss_cons (ps_set (i := 7) scNms.nd rfl (Or.inl rfl) (pe_op op_add_str (pe_op op_add_str (pe_slice sl_str (pv 7) po_none (po_some pe_int)) (pe_ix ix_str (pv 2) (pe_op op_mod (pe_op op_fdivB (pv 8) pe_int) pe_int) (fun _ _ => rfl))) (pe_ix ix_str (pv 2) (pe_op op_mod (pv 8) pe_int) (fun _ _ => rfl))))
    (pss_one (ps_set (i := 8) scNms.nd rfl (Or.inl rfl) (pe_op op_add (pv 8) pe_int)))))
    (pss_one (ps_expr (pe_bm PySem.F.plainAttrs_list PySem.F.slot_list_append PySem.F.type_list_append mt_append (pv 4) (pa_cons (pv 7) pa_nil)))))))))
    (@pss_one _ _ _ (ps_ret (pv 4))))))), ?_⟩
  refine ⟨by show 12 ≤ sizeLine; decide, fun lw hlw => ?_⟩
  have nwl := (deal_new D hlw).2
  have s1 := same_new hlw (.lst [.str "kinds", .str "ladder", .str "flat", .str "choose", .str "first", .str "let", .str "tell", .str "when", .str "else", .str "times", .str "end", .str "of"])
  have h1 : upd H lw (.lst [.str "kinds", .str "ladder", .str "flat", .str "choose", .str "first", .str "let", .str "tell", .str "when", .str "else", .str "times", .str "end", .str "of"]) lw = some (.lst (taken.map V.str)) := upd_same
  generalize upd H lw (.lst [.str "kinds", .str "ladder", .str "flat", .str "choose", .str "first", .str "let", .str "tell", .str "when", .str "else", .str "times", .str "end", .str "of"]) = H1 at s1 h1 ⊢
  have D1 := D.same s1
  refine ⟨Nat.zero_le _, fun lf hlf => ?_⟩
  have nf := s1.free hlf
  have nwf : lw ≠ lf := ne_of_none h1 hlf
  have L2 : DealL (upd H1 lf (.lst [])) d l lf [] := DealL.new D1 hlf
  have o2 : Out d l H (upd H1 lf (.lst [])) := Out.of (s1.trans (same_new hlf (.lst [])))
  have h2 := (same_new hlf (.lst [])) _ _ h1
  generalize upd H1 lf (.lst []) = H2 at L2 o2 h2 ⊢
  refine ⟨_, rfl, m, rfl, by omega, by omega, for_rangeA (n := m.toNat) (fun i σ G => ∃ (ws : List Str) (v5 v6 v7 v8 : Option V), σ = [some (.ref d), some (.int m), some (.str "abcdefghijklmnopqrstuvwxyz"), some (.ref lw), some (.ref lf), v5, v6, v7, v8] ∧ DealL G d l lf (ws.map V.str) ∧ G lw = some (.lst (taken.map V.str)) ∧ Out d l H G ∧ ws.length = i ∧ ∀ x ∈ ws, Lt x)
    ⟨[], _, _, _, _, rfl, L2, h2, o2, rfl, fun _ z => nomatch z⟩ ?_ ?_⟩
  · rintro D' i σ G hi ⟨ws, v5, v6, v7, v8, rfl, L3, h3, o3, hw, wlt⟩
    refine ⟨_, rfl, by show 2 ≤ sizeLine; decide, fun l0 hl0 => ?_⟩
    have nl := (deal_new L3.deal hl0).2
    have s4 := same_new hl0 (.lst [.int 2, .int 8])
    have h4 : upd G l0 (.lst [.int 2, .int 8]) l0 = some (.lst [.int 2, .int 8]) := upd_same
    generalize upd G l0 (.lst [.int 2, .int 8]) = H4 at s4 h4 ⊢
    have D4 := L3.deal.same s4
    refine ⟨_, rfl, d, l, 2, rfl, D4, by decide, by decide, fun x H5 x0 x1 D5 o5 => ?_⟩
    obtain ⟨w2, hw2, hc2⟩ := two_atI (x := 2) (y := 8) x0 x1
    refine ⟨l0, _, _, .int w2, rfl, rfl, SqL.of (deal_keep D4 h4 nl o5), hw2, d, l, w2, rfl, D5, by omega, by omega, fun y H6 y0 y1 D6 o6 => ⟨_, _, rfl, rfl, ?_⟩⟩
    have o46 := (Out.of (d := d) (l := l) s4).trans (o5.trans o6)
    have L6 : DealL H6 d l lf (ws.map V.str) := L3.out D6 o46
    have h6 := deal_keep L3.deal h3 nwl o46
    have o6' := o3.trans o46
    clear s4 h4 D4 D5 o5 o6 o46 hw2 L3 h3 o3
    refine ⟨rfl, _, rfl, 1 + y, rfl, by omega, by omega, ?_⟩
    refine comp_range (n := (1 + y).toNat) (fun i ys σ G => DealL G d l lf (ws.map V.str) ∧ G lw = some (.lst (taken.map V.str)) ∧ Out d l H G ∧ (∃ v, σ = [v, some (.str "abcdefghijklmnopqrstuvwxyz"), some (.ref d)]) ∧ ∃ zs : List Str, ys = zs.map V.str ∧ zs.length = i ∧ (∀ z ∈ zs, z.length = 1) ∧ ∀ z ∈ zs, Lt z) (small1000 (by omega)) ⟨L6, h6, o6', ⟨_, rfl⟩, [], rfl, rfl, (fun _ z => absurd z List.not_mem_nil), fun _ z => absurd z List.not_mem_nil⟩
      (by rintro i ys σ G ⟨_, _, _, _, zs, e, e2, _⟩; rw [e, List.length_map]; omega) ?_ ?_
    · rintro i ys σ G hi ⟨L7, h7, o7, ⟨v, rfl⟩, zs, rfl, hl, h1, zlt⟩
      refine ⟨_, rfl, _, rfl, d, l, 26, rfl, L7.deal, by decide, by decide, fun r H3 r0 r1 D3 o3 => ?_⟩
      obtain ⟨c, hc⟩ := str_at (z := "abcdefghijklmnopqrstuvwxyz") r0 r1
      refine ⟨_, r, c, rfl, rfl, by decide, hc, L7.out D3 o3, deal_keep L7.deal h7 nwl o3, o7.trans o3, ⟨_, rfl⟩, zs ++ [⟨#[c]⟩], by rw [List.map_append]; rfl, by rw [List.length_append, hl]; rfl, fun z hz => ?_, fun z hz => ?_⟩
      · rcases List.mem_append.mp hz with q | q
        · exact h1 z q
        · have e : z = ⟨#[c]⟩ := by simpa using q
          rw [e]; rfl
      · rcases List.mem_append.mp hz with q | q
        · exact zlt z q
        · have e : z = ⟨#[c]⟩ := by simpa using q
          rw [e]; exact Lt.one (letter_lt hc)
    rintro ys σ H7 ⟨L7, h7, o7, _, zs, rfl, hl, h1, zlt⟩ p hp
    have hsm := ones_sum h1
    refine ⟨_, p, zs, rfl, rfl, SqL.of upd_same, by rw [hsm]; show zs.length + zs.length * 0 ≤ _; omega, ?_⟩
    have hj := join_len "" zs
    rw [hsm] at hj
    have e0 : ("" : Str).length = 0 := rfl
    rw [e0] at hj
    have L8 := L7.same (same_new hp (.lst (zs.map V.str)))
    have h8 := (same_new hp (.lst (zs.map V.str))) _ _ h7
    have o8 := o7.trans (Out.of (d := d) (l := l) (same_new hp (.lst (zs.map V.str))))
    generalize upd H7 p (.lst (zs.map V.str)) = H8 at L8 h8 o8 ⊢
    have crl := join_lt zlt
    generalize Txt.join "" zs = cr at hj crl ⊢
    have c6 : cr.length ≤ 8 := by omega
    have hL : (ws ++ taken).length ≤ 23 := by rw [List.length_append, show taken.length = 12 from rfl]; omega
    refine ⟨fun m' σ' G' => G' = H8 ∧ ∃ (wd : Str) (s : Nat), σ' = [some (.ref d), some (.int m), some (.str "abcdefghijklmnopqrstuvwxyz"), some (.ref lw), some (.ref lf), some (.int (0 + (i : Int))), some (.int (1 + y)), some (.str wd), some (.int (s : Int))] ∧ wd.length ≤ 8 + 2 * s ∧ Lt wd ∧ (s = 0 ∨ lc wd + 1 = 97 + s) ∧ m' = mw (ws ++ taken) s ∧ s + mw (ws ++ taken) s ≤ 24,
      ⟨_, rfl, cr, 0, rfl, c6, crl, .inl rfl, rfl, Nat.le_refl _⟩, ?_⟩
    rintro m' σ' G' ⟨rfl, wd, s, rfl, hwd, wdl, hs, rfl, hm⟩
    refine ⟨fun b G1 => G1 = G' ∧ (b = true → wd ∈ ws ++ taken), ?_, ?_⟩
    · refine ⟨_, rfl, _, rfl, lf, _, rfl, .inl (SqL.of L8.lst), rfl, flat_texts _, _, rfl, ?_⟩
      have ei : inV (V.str wd) (ws.map V.str) = decide (wd ∈ ws) := inV_strs _ _
      by_cases c : wd ∈ ws
      · exact iteP (ei.trans (decide_eq_true c)) ⟨rfl, fun _ => List.mem_append_left _ c⟩
      · refine iteN (fun z => c (of_decide_eq_true (ei.symm.trans z))) ⟨_, rfl, _, rfl, lw, _, rfl, .inl (SqL.of h8), rfl, flat_texts _, _, rfl, rfl, fun z => ?_⟩
        exact List.mem_append_right _ (of_decide_eq_true ((inV_strs _ _).symm.trans z))
    rintro b G1 ⟨rfl, hb⟩
    cases b with
    | true =>
      refine iteP rfl ?_
      have mem := hb rfl
      have st := mw_step hL mem hs
      have s25 : s < 26 := by omega
      have q26 : (0 : Int) < 26 := by decide
      refine ⟨fun σ2 G2 => G2 = G1 ∧ ∃ (wd : Str), σ2 = [some (.ref d), some (.int m), some (.str "abcdefghijklmnopqrstuvwxyz"), some (.ref lw), some (.ref lf), some (.int (0 + (i : Int))), some (.int (1 + y)), some (.str wd), some (.int ((s : Int) + 1))] ∧ wd.length ≤ 8 + 2 * (s + 1) ∧ Lt wd ∧ lc wd + 1 = 97 + (s + 1), ?_, ?_⟩
      · rintro σ2 G2 ⟨rfl, wd2, rfl, a1, a3, a2⟩
        exact ⟨_, by omega, rfl, wd2, s + 1, rfl, a1, a3, .inr a2, rfl, by omega⟩
      have t1 := Txt.slice_le wd none (some 6)
      have z1 : (Txt.slice wd none (some 6)).length + (⟨#[97]⟩ : Str).length ≤ 9 + 2 * s := by show _ + 1 ≤ 9 + 2 * s; omega
      have z2 : (Txt.slice wd none (some 6) ++ (⟨#[97]⟩ : Str)).length ≤ 9 + 2 * s := by rw [strLen_append]; exact z1
      have z3 : (Txt.slice wd none (some 6) ++ (⟨#[97]⟩ : Str)).length + (⟨#[97 + s]⟩ : Str).length ≤ 8 + 2 * (s + 1) := by show _ + 1 ≤ 8 + 2 * (s + 1); omega
      refine ⟨_, rfl, 6, rfl, wd, rfl, Nat.le_of_lt (small1000 (by omega)), _, rfl, _, rfl, _, _, rfl, rfl, ⟨by decide, by decide⟩, _, _, rfl, rfl, q26, _, _, 97, rfl, rfl, by decide, letter_a s25, _, _, rfl, rfl, Nat.le_of_lt (small1000 (by omega)), _, rfl, _, rfl, _, _, rfl, rfl, q26, _, _, 97 + s, rfl, rfl, by decide, letter_at s25, _, _, rfl, rfl, Nat.le_of_lt (small1000 (by omega)), ?_⟩
      refine ⟨_, rfl, _, _, rfl, rfl, rfl, _, rfl, by rw [strLen_append]; exact z3, ((slice_lt wdl _ _).app (Lt.one (by decide))).app (Lt.one (by omega)), ?_⟩
      rw [lc_snoc]
      omega
    | false =>
      refine iteN (by simp) ?_
      refine ⟨_, rfl, .inl ⟨rfl, _, SqL.of L8.lst⟩, _, rfl, lf, _, _, rfl, rfl, L8.lst, small1000 (by rw [List.length_map]; omega), ws ++ [wd], _, _, _, _, rfl, ?_, (upd_ne nwf).trans h8, out_lst o8 nf, by rw [List.length_append, hw]; rfl, fun x hx => ?_⟩
      · rw [List.map_append]
        exact L8.app _
      · rcases List.mem_append.mp hx with e | e
        · exact wlt x e
        · rw [List.mem_singleton.mp e]; exact wdl
  · rintro σ G ⟨ws, v5, v6, v7, v8, rfl, L3, h3, o3, hw, wlt⟩
    exact ⟨_, rfl, k lf ws G L3.deal o3 nf L3.lst (by omega) wlt⟩
end
end Mine
namespace Mine
open PySem L2
section
variable {P : Program} {w : World} {K : PySem.W.Frag} {mg : Str → Option Value} {base : Heap}
theorem scStp : FnScope ["_law_deal_here", "_law_half", "_law_q", "_law_p", "_law_d"] ["_law_deal_here", "_law_half"] (defScope sStp) := ⟨rfl, rfl, rfl, by decide +kernel, rfl, by decide +kernel, by decide +kernel⟩
theorem ok_Stp {f : Addr} {fd : FuncData} (F : Fun K "_law_steep" "_law_steep" sStp f fd)
    {f_Draw : Addr} {d_Draw : FuncData} (G_Draw : FnOk P w K mg base CX0 (1) f_Draw d_Draw ["_law_deal_here", "_law_many"] spDraw) (b_Draw : Binds K d_Draw ["_law_deal_here", "_law_many"] []) (k_Draw : PySem.W.keepIn K (.ref f_Draw) = true) (m_Draw : mg "_law_draw" = some (.ref f_Draw))
    (m_int : mg "int" = none) :
    FnOk P w K mg base CX0 (2) f fd ["_law_deal_here", "_law_half"] spStp := by
  refine F.ok scStp (fun vs H Q E h => ?_) (fun cdv A outer s H vs Q E hr h => ?_)
  · obtain ⟨d, l, b, rfl, _⟩ := h
    rfl
  obtain ⟨d, l, b, rfl, D, k⟩ := h
  have hu := hu_of hr
  have hr1 : Room 1 _ := hr.mono (by decide)
  refine ⟨_, (@pss_cons _ _ _ _ _ (ps_set (i := 2) scStp.nd rfl (Or.inl rfl) (pe_op op_add pe_int (pe_call G_Draw hr1 (by rfl) m_Draw k_Draw b_Draw .nil pass0 (pa_cons (pv 0) (pa_cons pe_int pa_nil)))))
    (@pss_cons _ _ _ _ _ (ps_set (i := 3) scStp.nd rfl (Or.inl rfl) (pe_op op_add pe_int (pe_call G_Draw hr1 (by rfl) m_Draw k_Draw b_Draw .nil pass0 (pa_cons (pv 0) (pa_cons (pe_ix ix_list (pe_lst (pa_cons (pe_op op_sub (pv 2) pe_int) (pa_cons (pe_op op_fdivB (pv 2) pe_int) pa_nil))) (pe_callTy call_int1 (by rfl) m_int PyProof.Rows.boot_int (pa_cons (pv 1) pa_nil)) (fun _ _ => rfl)) pa_nil)))))
    (@pss_cons _ _ _ _ _ (ps_for PassesOwn.never rfl (pi_tup (@pe_tup _ _ _ _ _ (@pa_cons _ _ _ _ _ pe_int (@pa_cons _ _ _ _ _ pe_int (@pa_cons _ _ _ _ _ pe_int (@pa_cons _ _ _ _ _ pe_int pa_nil rfl) rfl) rfl) rfl))) (pg_name (i := 4) scStp.nd rfl (Or.inl rfl))
    (pss_one (ps_while PassesOwn.never (pt_post (PW.pt (pw_and (pt_cmpR op_eq (pe_op op_mod (pv 3) (pv 4)) pe_int (nomark _)) (pw_and1 (pt_cmpR op_eq (pe_op op_mod (pv 2) (pv 4)) pe_int (nomark _))))))
    (pss_cons (ps_set (i := 3) scStp.nd rfl (Or.inl rfl) (pe_op op_fdivB (pv 3) (pv 4)))
    (pss_one (ps_set (i := 2) scStp.nd rfl (Or.inl rfl) (pe_op op_fdivB (pv 2) (pv 4))))))))
    (@pss_one _ _ _ (ps_ret (pe_tup (pa_cons (pv 3) (pa_cons (pv 2) pa_nil)))))))), ?_⟩
  refine ⟨_, rfl, d, l, 8, rfl, D, by decide, by decide, fun y H1 y0 y1 D1 o1 => ⟨_, _, rfl, rfl, ?_⟩⟩
  refine ⟨_, rfl, _, rfl, _, _, rfl, rfl, _, rfl, _, _, rfl, rfl, ⟨by decide, by decide⟩, by show 2 ≤ sizeLine; decide, fun l0 hl0 => ?_⟩
  have nl := (deal_new D1 hl0).2
  have s2 := same_new hl0 (.lst [.int (2 + y - 1), .int ((2 + y) / 2)])
  have h2 : upd H1 l0 (.lst [.int (2 + y - 1), .int ((2 + y) / 2)]) l0 = some (.lst [.int (2 + y - 1), .int ((2 + y) / 2)]) := upd_same
  generalize upd H1 l0 (.lst [.int (2 + y - 1), .int ((2 + y) / 2)]) = H2 at s2 h2 ⊢
  have D2 := D1.same s2
  obtain ⟨w, hw, hc⟩ : ∃ w, atI [V.int (2 + y - 1), V.int ((2 + y) / 2)] (if b = true then 1 else 0) = some (.int w) ∧ 1 ≤ w ∧ w ≤ 100 := by
    cases b with
    | true => exact ⟨_, rfl, by omega, by omega⟩
    | false => exact ⟨_, rfl, by omega, by omega⟩
  refine ⟨_, rfl, .inr ⟨b, rfl, l0, _, _, .int w, rfl, rfl, SqL.of h2, hw, d, l, w, rfl, D2, by omega, by omega, fun z H3 z0 z1 D3 o3 => ⟨_, _, rfl, rfl, ?_⟩⟩⟩
  refine ⟨by show 4 ≤ sizeLine; decide, fun t4 ht4 => ?_⟩
  have s4 := same_new ht4 (.tup [.int 2, .int 3, .int 5, .int 7])
  have h4 : upd H3 t4 (.tup [.int 2, .int 3, .int 5, .int 7]) t4 = some (.tup ([2, 3, 5, 7].map V.int)) := upd_same
  have D4 := D3.same s4
  have o4 : Out d l H (upd H3 t4 (.tup [.int 2, .int 3, .int 5, .int 7])) := o1.trans ((Out.of s2).trans (o3.trans (Out.of s4)))
  generalize upd H3 t4 (.tup [.int 2, .int 3, .int 5, .int 7]) = H4 at s4 h4 D4 o4 ⊢
  refine ⟨t4, rfl, ⟨_, SqT.of h4⟩, for_tupA (K := K) (a := t4) (xs := [2, 3, 5, 7].map V.int) (fun i σ G => G = H4 ∧ ∃ (q p : Int) (v4 : Option V), σ = [some (.ref d), some (.bl b), some (.int q), some (.int p), v4] ∧ 1 ≤ q ∧ q ≤ 9)
    ⟨rfl, _, _, _, rfl, by omega, by omega⟩ (by rintro i σ G _ ⟨e, _⟩; rw [e]; exact SqT.of h4) ?_ ?_⟩
  · rintro D' i v σ G hv ⟨rfl, q, p, v4, rfl, q1, q9⟩
    obtain ⟨e, rfl, he⟩ := ints_at hv
    have e2 : 2 ≤ e ∧ e ≤ 7 := by
      have := List.mem_of_getElem? he
      simp only [List.mem_cons, List.not_mem_nil, or_false] at this
      omega
    have e0 : (0 : Int) < e := by omega
    refine ⟨fun m σ' G' => G' = G ∧ ∃ (q p : Int), σ' = [some (.ref d), some (.bl b), some (.int q), some (.int p), some (.int e)] ∧ 1 ≤ q ∧ q ≤ 9 ∧ m = q.toNat, ⟨_, rfl, q, p, rfl, q1, q9, rfl⟩, ?_⟩
    rintro m σ' G' ⟨rfl, q, p, rfl, q1, q9, rfl⟩
    refine ⟨fun b' G2 => G2 = G' ∧ (b' = true → q % e = 0), ?_, ?_⟩
    · refine ⟨_, rfl, _, rfl, _, _, rfl, rfl, e0, rfl, _, rfl, ?_⟩
      refine ite2 (fun _ => ⟨_, rfl, _, rfl, _, _, rfl, rfl, e0, rfl, _, rfl, rfl, fun z => ?_⟩) (fun _ => ⟨rfl, fun z => nomatch z⟩)
      have z := of_decide_eq_true z
      injection z
    rintro b' G2 ⟨rfl, hb⟩
    cases b' with
    | true =>
      refine iteP rfl ?_
      have h0 := hb rfl
      have hq : 1 ≤ q / e ∧ q / e < q := by
        have dv : e ∣ q := Int.dvd_of_emod_eq_zero h0
        refine ⟨?_, Int.ediv_lt_self_of_pos_of_ne_one (by omega) (by omega)⟩
        exact Int.le_ediv_of_mul_le e0 (by rw [Int.one_mul]; exact Int.le_of_dvd (by omega) dv)
      refine ⟨fun σ2 G3 => G3 = G2 ∧ ∃ p : Int, σ2 = [some (.ref d), some (.bl b), some (.int (q / e)), some (.int p), some (.int e)], ?_, ?_⟩
      · rintro σ2 G3 ⟨rfl, p2, rfl⟩
        exact ⟨_, by omega, rfl, _, _, rfl, by omega, by omega, rfl⟩
      · exact ⟨_, rfl, _, rfl, _, _, rfl, rfl, ⟨e0, by omega⟩, _, rfl, _, rfl, _, _, rfl, rfl, ⟨e0, by omega⟩, rfl, _, rfl⟩
    | false => exact iteN (by simp) ⟨rfl, _, _, _, rfl, q1, q9⟩
  · rintro σ G ⟨rfl, q, p, v4, rfl, q1, q9⟩
    exact ⟨_, rfl, _, rfl, by show 2 ≤ sizeLine; decide, fun t ht => k t _ (D4.same (same_new ht _)) (o4.trans (.of (same_new ht _)))⟩
theorem nd_Sum1 : (["_law_k", "_law_deal_here"] : List Str).Nodup := by decide +kernel
theorem nd_Sum2 : (["_law_k", "_law_deal_here"] : List Str).Nodup := by decide +kernel
theorem scSum : FnScope ["_law_deal_here", "_law_many"] ["_law_deal_here", "_law_many"] (defScope sSum) := ⟨rfl, rfl, rfl, by decide +kernel, rfl, by decide +kernel, by decide +kernel⟩
theorem ok_Sum {f : Addr} {fd : FuncData} (F : Fun K "_law_sum" "_law_sum" sSum f fd)
    {f_Draw : Addr} {d_Draw : FuncData} (G_Draw : FnOk P w K mg base CX0 (1) f_Draw d_Draw ["_law_deal_here", "_law_many"] spDraw) (b_Draw : Binds K d_Draw ["_law_deal_here", "_law_many"] []) (k_Draw : PySem.W.keepIn K (.ref f_Draw) = true) (m_Draw : mg "_law_draw" = some (.ref f_Draw))
    (m_tuple : mg "tuple" = none) (m_range : mg "range" = none) :
    FnOk P w K mg base CX0 (2) f fd ["_law_deal_here", "_law_many"] spSumS := by
  refine F.ok scSum (fun vs H Q E h => ?_) (fun cdv A outer s H vs Q E hr h => ?_)
  · obtain ⟨d, l, m, rfl, _⟩ := h
    rfl
  obtain ⟨d, l, m, rfl, D, m0, m3, k⟩ := h
  have hu := hu_of hr
  have hr1 : Room 1 _ := hr.mono (by decide)
  refine ⟨_, (@pss_one _ _ _ (ps_ret (pe_callTy call_tuple_of (by rfl) m_tuple PyProof.Rows.boot_tuple (pa_cons (pe_comp ["_law_k", "_law_deal_here"] [none, some 0] (pi_range1 (by rfl) m_range (pa_cons (pv 1) pa_nil)) (fun _ _ _ _ => (pg_name (i := 0) (nd_Sum2) rfl (Or.inl rfl))) (fun _ _ _ _ => pf_nil) (fun _ _ _ _ => (pe_ix (ixlK K) (@pe_lst _ _ _ _ (@pa_cons _ _ _ _ _ pe_int (@pa_cons _ _ _ _ _ pe_int (@pa_cons _ _ _ _ _ pe_int (@pa_cons _ _ _ _ _ pe_int (@pa_cons _ _ _ _ _ pe_int pa_nil rfl) rfl) rfl) rfl) rfl)) (pe_call G_Draw hr1 (by rfl) m_Draw k_Draw b_Draw .nil pass0 (pa_cons (pv 1) (pa_cons pe_int pa_nil))) (fun _ _ => rfl)))) pa_nil)))), ?_⟩
  refine ⟨_, rfl, m, rfl, by omega, by omega, comp_range (n := m.toNat) (fun i ys σ G => Deal G d l ∧ Out d l H G ∧ (∃ v, σ = [v, some (.ref d)]) ∧ ys.length = i) (small1000 (by omega)) ⟨D, Out.refl _, ⟨_, rfl⟩, rfl⟩ (by rintro i ys σ G ⟨_, _, _, e⟩; omega) ?_ ?_⟩
  · rintro i ys σ G hi ⟨D1, o1, ⟨v, rfl⟩, hl⟩
    refine ⟨by show 5 ≤ sizeLine; decide, fun l0 hl0 => ?_⟩
    have nl := (deal_new D1 hl0).2
    have s2 := same_new hl0 (.lst [.int 0, .int 1, .int 1, .int 2, .int 3])
    have h2 : upd G l0 (.lst [.int 0, .int 1, .int 1, .int 2, .int 3]) l0 = some (.lst [.int 0, .int 1, .int 1, .int 2, .int 3]) := upd_same
    generalize upd G l0 (.lst [.int 0, .int 1, .int 1, .int 2, .int 3]) = H2 at s2 h2 ⊢
    refine ⟨_, rfl, d, l, 5, rfl, D1.same s2, by decide, by decide, fun x H3 x0 x1 D3 o3 => ?_⟩
    obtain ⟨w, hw⟩ := five_at x0 x1
    refine ⟨l0, _, _, .int w, rfl, rfl, SqL.of (deal_keep (D1.same s2) h2 nl o3), hw, D3, o1.trans ((Out.of s2).trans o3), ⟨_, rfl⟩, ?_⟩
    rw [List.length_append, hl]
    rfl
  · rintro ys σ G ⟨D1, o1, _, hl⟩ lx hlx
    exact ⟨lx, ys, rfl, .inl ⟨SqL.of upd_same, fun t ht => k t ys _ ((D1.same (same_new hlx _)).same (same_new ht _)) (o1.trans (Out.of ((same_new hlx _).trans (same_new ht _)))) upd_same⟩⟩
end
end Mine
namespace Mine
open PySem L2
section
variable {P : Program} {w : World} {K : PySem.W.Frag} {mg : Str → Option Value} {base : Heap}
theorem nd_Thw1 : (["_law_k", "_law_deal_here", "_law_many"] : List Str).Nodup := by decide +kernel
theorem nd_Thw2 : (["_law_k", "_law_deal_here", "_law_many"] : List Str).Nodup := by decide +kernel
theorem scThw : FnScope ["_law_deal_here", "_law_world", "_law_x", "_law_form", "_law_low", "_law_high", "_law_many", "_law_sums", "_law_mark"] ["_law_deal_here", "_law_world", "_law_x"] (defScope sThw) := ⟨rfl, rfl, rfl, by decide +kernel, rfl, by decide +kernel, by decide +kernel⟩
theorem ok_Thw {f : Addr} {fd : FuncData} (F : Fun K "_law_throw" "_law_throw" sThw f fd)
    {f_Draw : Addr} {d_Draw : FuncData} (G_Draw : FnOk P w K mg base CX0 (1) f_Draw d_Draw ["_law_deal_here", "_law_many"] spDraw) (b_Draw : Binds K d_Draw ["_law_deal_here", "_law_many"] []) (k_Draw : PySem.W.keepIn K (.ref f_Draw) = true) (m_Draw : mg "_law_draw" = some (.ref f_Draw))
    {f_Stp : Addr} {d_Stp : FuncData} (G_Stp : FnOk P w K mg base CX0 (2) f_Stp d_Stp ["_law_deal_here", "_law_half"] spStp) (b_Stp : Binds K d_Stp ["_law_deal_here", "_law_half"] []) (k_Stp : PySem.W.keepIn K (.ref f_Stp) = true) (m_Stp : mg "_law_steep" = some (.ref f_Stp))
    {f_Sum : Addr} {d_Sum : FuncData} (G_Sum : FnOk P w K mg base CX0 (2) f_Sum d_Sum ["_law_deal_here", "_law_many"] spSumS) (b_Sum : Binds K d_Sum ["_law_deal_here", "_law_many"] []) (k_Sum : PySem.W.keepIn K (.ref f_Sum) = true) (m_Sum : mg "_law_sum" = some (.ref f_Sum))
    (m_tuple : mg "tuple" = none) (m_range : mg "range" = none) :
    FnOk P w K mg base CX0 (3) f fd ["_law_deal_here", "_law_world", "_law_x"] spThrow := by
  refine F.ok scThw (fun vs H Q E h => ?_) (fun cdv A outer s H vs Q E hr h => ?_)
  · obtain ⟨d, l, sc, kvs, x, rfl, _⟩ := h
    rfl
  obtain ⟨d, l, sc, kvs, x, rfl, D, hsc, wk, nsd, k⟩ := h
  have hu := hu_of hr
  have hr1 : Room 1 _ := hr.mono (by decide)
  have hr2 : Room 2 _ := hr.mono (by decide)
  refine ⟨_, (pss_cons (ps_set (i := 3) scThw.nd rfl (Or.inl rfl) (pe_call G_Draw hr1 (by rfl) m_Draw k_Draw b_Draw .nil pass0 (pa_cons (pv 0) (pa_cons pe_int pa_nil))))
    (pss_cons (ps_set (i := 4) scThw.nd rfl (Or.inl rfl) (pe_call G_Draw hr1 (by rfl) m_Draw k_Draw b_Draw .nil pass0 (pa_cons (pv 0) (pa_cons pe_int pa_nil))))
    (pss_cons (ps_set (i := 5) scThw.nd rfl (Or.inl rfl) (pe_op op_add (pv 4) (pe_call G_Draw hr1 (by rfl) m_Draw k_Draw b_Draw .nil pass0 (pa_cons (pv 0) (pa_cons (pe_op op_add (pe_dget hu (pv 1) pe_str (fun _ _ => rfl)) pe_int) pa_nil)))))
    (pss_cons (ps_set (i := 6) scThw.nd rfl (Or.inr rfl) (pe_dget hu (pv 1) pe_str (fun _ _ => rfl)))
    (pss_cons (ps_set (i := 7) scThw.nd rfl (Or.inl rfl) (pe_callTy call_tuple_of (by rfl) m_tuple PyProof.Rows.boot_tuple (pa_cons (pe_comp ["_law_k", "_law_deal_here", "_law_many"] [none, some 0, some 6] (pi_range1 (by rfl) m_range (pa_cons (pe_op op_add pe_int (pe_call G_Draw hr1 (by rfl) m_Draw k_Draw b_Draw .nil pass0 (pa_cons (pv 0) (pa_cons pe_int pa_nil)))) pa_nil)) (fun _ _ _ _ => (pg_name (i := 0) (nd_Thw2) rfl (Or.inl rfl))) (fun _ _ _ _ => pf_nil) (fun _ _ _ _ => (pe_call G_Sum hr2 (by rfl) m_Sum k_Sum b_Sum .nil pass0 (pa_cons (pv 1) (pa_cons (pv 2) pa_nil))))) pa_nil)))
    (pss_cons (ps_if (pt_cmpR op_lt (pv 3) pe_int (nomark _)) (pss_one (ps_ret (pe_tup (pa_cons pe_str (pa_cons (pv 2) (pa_cons (pe_ix ix_tup (pv 7) pe_int (fun _ _ => rfl)) (pa_cons (pe_call G_Stp hr2 (by rfl) m_Stp k_Stp b_Stp .nil pass0 (pa_cons (pv 0) (pa_cons pe_bl pa_nil))) (pa_cons (pv 4) (pa_cons (pv 5) pa_nil))))))))) pss_nil)
    (pss_cons (ps_if (pt_cmpR op_eq (pv 3) pe_int (nomark _)) (pss_one (ps_ret (pe_tup (pa_cons pe_str (pa_cons (pv 2) (pa_cons (pe_ix ix_tup (pv 7) pe_int (fun _ _ => rfl)) (pa_cons (pe_call G_Draw hr1 (by rfl) m_Draw k_Draw b_Draw .nil pass0 (pa_cons (pv 0) (pa_cons pe_int pa_nil))) (pa_cons (pv 4) (pa_cons (pv 5) pa_nil))))))))) pss_nil)
    (pss_cons (ps_if (pt_cmpR op_eq (pv 3) pe_int (nomark _)) (pss_one (ps_ret (pe_tup (pa_cons pe_str (pa_cons (pv 2) (pa_cons (pv 7) (pa_cons (pe_call G_Stp hr2 (by rfl) m_Stp k_Stp b_Stp .nil pass0 (pa_cons (pv 0) (pa_cons pe_bl pa_nil))) (pa_cons (pv 4) (pa_cons (pv 5) pa_nil))))))))) pss_nil)
    (pss_cons (ps_set (i := 8) scThw.nd rfl (Or.inl rfl) (pe_op op_add (pv 4) (pe_call G_Draw hr1 (by rfl) m_Draw k_Draw b_Draw .nil pass0 (pa_cons (pv 0) (pa_cons (pe_op op_add (pe_op op_sub (pv 5) (pv 4)) pe_int) pa_nil)))))
    (pss_one (ps_ret (pe_tup (pa_cons pe_str (pa_cons (pv 2) (pa_cons (pv 8) (pa_cons (pe_call G_Stp hr2 (by rfl) m_Stp k_Stp b_Stp .nil pass0 (pa_cons (pv 0) (pa_cons pe_bl pa_nil))) (pa_cons (pe_call G_Stp hr2 (by rfl) m_Stp k_Stp b_Stp .nil pass0 (pa_cons (pv 0) (pa_cons pe_bl pa_nil))) (pa_cons (pv 7) (pa_cons (pv 4) (pa_cons (pe_op op_add (pv 5) pe_int) pa_nil)))))))))))))))))))), ?_⟩
  obtain ⟨ww, kd, hkd, kd0, kd3⟩ := wk
  have nsl : sc ≠ l := by obtain ⟨sd, n, ls, z⟩ := D; exact ne_of hsc z.lc (by intro z; cases z)
  refine ⟨_, rfl, d, l, 5, rfl, D, by decide, by decide, fun fo H1 f0 f1 D1 o1 => ?_⟩
  refine ⟨_, rfl, d, l, 3, rfl, D1, by decide, by decide, fun lo H2 a0 a1 D2 o2 => ?_⟩
  have sc2 := (o1.trans o2) _ _ hsc nsd nsl
  have g1 : DGet H2 sc (.str "wide") (some (.int 4)) := by rw [← ww]; exact DGet.k (k := Sum.inr "wide") sc2
  refine ⟨_, rfl, _, rfl, _, rfl, sc, _, rfl, g1, _, _, rfl, rfl, d, l, 4 + 1, rfl, D2, by decide, by decide, fun u H3 b0 b1 D3 o3 => ⟨_, _, rfl, rfl, ?_⟩⟩
  have oA := o1.trans (o2.trans o3)
  have sc3 := oA _ _ hsc nsd nsl
  have g2 : DGet H3 sc (.str "kinds") (some (.int kd)) := by rw [← hkd]; exact DGet.k (k := Sum.inr "kinds") sc3
  generalize hhi : lo + u = hi
  refine ⟨_, rfl, sc, _, rfl, g2, ?_⟩
  refine ⟨_, rfl, d, l, 4, rfl, D3, by decide, by decide, fun n4 H4 e0 e1 D4 o4 => ⟨_, _, rfl, rfl, ?_⟩⟩
  have oB := oA.trans o4
  refine ⟨1 + n4, rfl, by omega, by omega, comp_range (n := (1 + n4).toNat) (fun i ys σ G => Deal G d l ∧ Out d l H G ∧ (∃ v, σ = [v, some (.ref d), some (.int kd)]) ∧ ys.length = i) (small1000 (by omega)) ⟨D4, oB, ⟨_, rfl⟩, rfl⟩ (by rintro i ys σ G ⟨_, _, _, e⟩; omega) ?_ ?_⟩
  · rintro i ys σ G hi ⟨D5, o5, ⟨v, rfl⟩, hl⟩
    refine ⟨_, rfl, _, rfl, d, l, kd, rfl, D5, kd0, kd3, fun p6 ws6 H6 D6 o6 h6 => ⟨D6, o5.trans o6, ⟨_, rfl⟩, ?_⟩⟩
    rw [List.length_append, hl]
    rfl
  rintro ys σ G ⟨D5, o5, _, hl⟩ lx hlx
  refine ⟨lx, ys, rfl, .inl ⟨SqL.of upd_same, fun t6 ht6 => ?_⟩⟩
  have s6 := (same_new hlx (.lst ys)).trans (same_new ht6 (.tup ys))
  have h6 : upd (upd G lx (.lst ys)) t6 (.tup ys) t6 = some (.tup ys) := upd_same
  have D6 := D5.same s6
  have o6 := o5.trans (Out.of (d := d) (l := l) s6)
  generalize upd (upd G lx (.lst ys)) t6 (.tup ys) = H6 at D6 o6 h6 ⊢
  obtain ⟨y0, yr, rfl⟩ : ∃ y0 yr, ys = y0 :: yr := by
    cases ys with
    | nil => rw [List.length_nil] at hl; omega
    | cons a b => exact ⟨a, b, rfl⟩
  refine ⟨_, rfl, _, _, rfl, rfl, _, rfl, ?_⟩
  by_cases c0 : fo < 2
  · refine iteP (decide_eq_true c0) ?_
    refine ⟨_, rfl, _, rfl, t6, _, _, y0, rfl, rfl, SqT.of h6, at0, _, rfl, d, l, false, rfl, D6, fun p7 H7 D7 o7 => ⟨_, rfl, _, rfl, by show 6 ≤ sizeLine; decide, fun p hp => ?_⟩⟩
    exact k p "ladder" _ _ (D7.same (same_new hp _)) (o6.trans (o7.trans (Out.of (same_new hp _)))) upd_same (by decide +kernel : ("ladder" : Str) ∈ thrW)
  refine iteN (by simpa using c0) ?_
  refine ⟨_, rfl, rfl, _, rfl, ?_⟩
  by_cases c1 : fo = 2
  · refine iteP (by rw [c1]; exact decide_eq_true rfl) ?_
    refine ⟨_, rfl, _, rfl, t6, _, _, y0, rfl, rfl, SqT.of h6, at0, _, rfl, d, l, 5, rfl, D6, by decide, by decide, fun y H7 _ _ D7 o7 => ⟨_, rfl, _, rfl, by show 6 ≤ sizeLine; decide, fun p hp => ?_⟩⟩
    exact k p "flat" _ _ (D7.same (same_new hp _)) (o6.trans (o7.trans (Out.of (same_new hp _)))) upd_same (by decide +kernel : ("flat" : Str) ∈ thrW)
  refine iteN (fun z => c1 (by have z := of_decide_eq_true z; injection z)) ?_
  refine ⟨_, rfl, rfl, _, rfl, ?_⟩
  by_cases c2 : fo = 3
  · refine iteP (by rw [c2]; exact decide_eq_true rfl) ?_
    refine ⟨_, rfl, _, rfl, _, rfl, d, l, false, rfl, D6, fun p7 H7 D7 o7 => ⟨_, rfl, _, rfl, by show 6 ≤ sizeLine; decide, fun p hp => ?_⟩⟩
    exact k p "choose" _ _ (D7.same (same_new hp _)) (o6.trans (o7.trans (Out.of (same_new hp _)))) upd_same (by decide +kernel : ("choose" : Str) ∈ thrW)
  refine iteN (fun z => c2 (by have z := of_decide_eq_true z; injection z)) ?_
  refine ⟨_, rfl, _, rfl, _, rfl, _, rfl, _, _, rfl, rfl, _, _, rfl, rfl, d, l, _, rfl, D6, by omega, by omega, fun mk H7 g0 g1 D7 o7 => ⟨_, _, rfl, rfl, ?_⟩⟩
  refine ⟨_, rfl, _, rfl, _, rfl, d, l, false, rfl, D7, fun p8 H8 D8 o8 => ⟨_, rfl, d, l, true, rfl, D8, fun p9 H9 D9 o9 => ⟨_, rfl, _, rfl, _, rfl, _, _, rfl, rfl, by show 8 ≤ sizeLine; decide, fun p hp => ?_⟩⟩⟩
  exact k p "first" _ _ (D9.same (same_new hp _)) (o6.trans (o7.trans (o8.trans (o9.trans (Out.of (same_new hp _)))))) upd_same (by decide +kernel : ("first" : Str) ∈ thrW)
end
end Mine
namespace Mine
open PySem L2
section
variable {P : Program} {w : World} {K : PySem.W.Frag} {mg : Str → Option Value} {base : Heap}
theorem scTrm : FnScope ["_law_deal_here", "_law_known", "_law_room", "_law_left", "_law_one"] ["_law_deal_here", "_law_known", "_law_room"] (defScope sTrm) := ⟨rfl, rfl, rfl, by decide +kernel, rfl, by decide +kernel, by decide +kernel⟩
theorem ok_Trm (n : Nat) {f : Addr} {fd : FuncData} (F : Fun K "_law_term" "_law_term" sTrm f fd)
    {f_Trm : Addr} {d_Trm : FuncData} (G_Trm : FnOk P w K mg base CX0 (n + 1) f_Trm d_Trm ["_law_deal_here", "_law_known", "_law_room"] (spTm n)) (b_Trm : Binds K d_Trm ["_law_deal_here", "_law_known", "_law_room"] []) (k_Trm : PySem.W.keepIn K (.ref f_Trm) = true) (m_Trm : mg "_law_term" = some (.ref f_Trm))
    {f_Draw : Addr} {d_Draw : FuncData} (G_Draw : FnOk P w K mg base CX0 (1) f_Draw d_Draw ["_law_deal_here", "_law_many"] spDraw) (b_Draw : Binds K d_Draw ["_law_deal_here", "_law_many"] []) (k_Draw : PySem.W.keepIn K (.ref f_Draw) = true) (m_Draw : mg "_law_draw" = some (.ref f_Draw))
    (m_len : mg "len" = none) :
    FnOk P w K mg base CX0 (n + 1 + 1) f fd ["_law_deal_here", "_law_known", "_law_room"] (spTm (n + 1)) := by
  refine F.ok scTrm (fun vs H Q E h => ?_) (fun cdv A outer s H vs Q E hr h => ?_)
  · obtain ⟨d, l, kn, ks, room, rfl, _⟩ := h
    rfl
  obtain ⟨d, l, kn, ks, room, rfl, D, hk, nk, lk, r1, r64, r2, k⟩ := h
  have hu := hu_of hr
  have hr1 : Room 1 _ := hr.mono (by omega)
  have hr_Trm : Room (n + 1) _ := hr.mono (by omega)
  refine ⟨_, (pss_cons (ps_if (pt_post (PW.pt (pw_or (pt_cmpR op_lt (pv 2) pe_int (nomark _)) (pw_or1 (pt_cmpR op_eq (pe_call G_Draw hr1 (by rfl) m_Draw k_Draw b_Draw .nil pass0 (pa_cons (pv 0) (pa_cons pe_int pa_nil))) pe_int (nomark _)))))) (pss_cons (ps_if (pt_post (PW.pt (pw_and (pt_cmpR op_gt (pe_callB call_len_seq (by rfl) m_len PySem.boot_len (pa_cons (pv 1) pa_nil)) pe_int (nomark _)) (pw_and1 (pt_cmpR op_gt (pe_call G_Draw hr1 (by rfl) m_Draw k_Draw b_Draw .nil pass0 (pa_cons (pv 0) (pa_cons pe_int pa_nil))) pe_int (nomark _)))))) (pss_one (ps_ret (pe_tup (pa_cons pe_str (pa_cons (pe_ix ix_list (pv 1) (pe_call G_Draw hr1 (by rfl) m_Draw k_Draw b_Draw .nil pass0 (pa_cons (pv 0) (pa_cons (pe_callB call_len_seq (by rfl) m_len PySem.boot_len (pa_cons (pv 1) pa_nil)) pa_nil))) (fun _ _ => rfl)) pa_nil))))) pss_nil)
    (pss_one (ps_ret (pe_tup (pa_cons pe_str (pa_cons (pe_call G_Draw hr1 (by rfl) m_Draw k_Draw b_Draw .nil pass0 (pa_cons (pv 0) (pa_cons (pe_ix ix_list (pe_lst (pa_cons pe_int (pa_cons pe_int (pa_cons pe_int pa_nil)))) (pe_call G_Draw hr1 (by rfl) m_Draw k_Draw b_Draw .nil pass0 (pa_cons (pv 0) (pa_cons pe_int pa_nil))) (fun _ _ => rfl)) pa_nil))) pa_nil)))))) pss_nil)
    (pss_cons (ps_set (i := 3) scTrm.nd rfl (Or.inl rfl) (pe_op op_add pe_int (pe_call G_Draw hr1 (by rfl) m_Draw k_Draw b_Draw .nil pass0 (pa_cons (pv 0) (pa_cons (pe_op op_sub (pv 2) pe_int) pa_nil)))))
    (pss_cons (ps_set (i := 4) scTrm.nd rfl (Or.inl rfl) (pe_call G_Trm hr_Trm (by rfl) m_Trm k_Trm b_Trm .nil pass0 (pa_cons (pv 0) (pa_cons (pv 1) (pa_cons (pv 3) pa_nil)))))
    (pss_one (ps_ret (pe_tup (pa_cons pe_str (pa_cons (pe_ix ix_str pe_str (pe_call G_Draw hr1 (by rfl) m_Draw k_Draw b_Draw .nil pass0 (pa_cons (pv 0) (pa_cons pe_int pa_nil))) (fun _ _ => rfl)) (pa_cons (pv 4) (pa_cons (pe_call G_Trm hr_Trm (by rfl) m_Trm k_Trm b_Trm .nil pass0 (pa_cons (pv 0) (pa_cons (pv 1) (pa_cons (pe_op op_sub (pe_op op_sub (pv 2) pe_int) (pv 3)) pa_nil)))) pa_nil)))))))))), ?_⟩
  refine ⟨fun b G => Deal G d l ∧ Out d l H G ∧ (b = false → 3 ≤ room), ?_, ?_⟩
  · refine ⟨_, rfl, _, _, rfl, rfl, _, rfl, ?_⟩
    by_cases c1 : room < 3
    · exact iteP (decide_eq_true c1) ⟨D, Out.refl _, fun z => nomatch z⟩
    · exact iteN (by simpa using c1) ⟨_, rfl, d, l, 3, rfl, D, by decide, by decide, fun x H1 x0 x1 D1 o1 => ⟨rfl, _, rfl, D1, o1, fun _ => by omega⟩⟩
  rintro b G ⟨D1, o1, hb⟩
  have hk1 := deal_keep D hk nk o1
  cases b with
  | false =>
    refine iteN (by simp) ?_
    have c1 := hb rfl
    cases n with
    | zero => exact absurd c1 (by omega)
    | succ n =>
    refine ⟨_, rfl, _, rfl, _, _, rfl, rfl, d, l, room - 2, rfl, D1, by omega, by omega, fun x H2 x0 x1 D2 o2 => ⟨_, _, rfl, rfl, ?_⟩⟩
    have hk2 := deal_keep D1 hk1 nk o2
    refine ⟨_, rfl, _, rfl, _, rfl, d, l, kn, ks, 1 + x, rfl, D2, hk2, nk, lk, by omega, by omega, by omega, fun t1 H3 D3 o3 h3 nm3 sz3 => ?_⟩
    have hk3 := deal_keep D2 hk2 nk o3
    refine ⟨_, rfl, d, l, 5, rfl, D3, by decide, by decide, fun y H4 y0 y1 D4 o4 => ?_⟩
    obtain ⟨c, hc, hs⟩ := sgn_at y0 y1
    have hk4 := deal_keep D3 hk3 nk o4
    refine ⟨_, y, c, rfl, rfl, by decide, hc, _, rfl, _, rfl, _, rfl, _, rfl, _, _, rfl, rfl, _, rfl, _, _, rfl, rfl, d, l, kn, ks, room - 1 - (1 + x), rfl, D4, hk4, nk, lk, by omega, by omega, by omega, fun t2 H5 D5 o5 h5 nm5 sz5 => ⟨by show 4 ≤ sizeLine; decide, fun p hp => ?_⟩⟩
    have s6 := same_new hp (.tup [.str "op", .str ⟨#[c]⟩, .ref t1.p, .ref t2.p])
    have t15 := (TS.out D3 o4).trans ((TS.out D4 o5).trans (.of s6))
    refine k (.op p ⟨#[c]⟩ t1 t2) _ (D5.same s6) (o1.trans (o2.trans (o3.trans (o4.trans (o5.trans (.of s6)))))) ⟨upd_same, h3.ts t15, h5.ts (.of s6)⟩ (fun z hz => ?_) ?_
    · rcases List.mem_append.mp hz with q | q
      · exact nm3 z q
      · exact nm5 z q
    · simp only [Tm.size]; omega
  | true =>
    refine iteP rfl ?_
    refine ⟨fun b G' => Deal G' d l ∧ Out d l H G' ∧ (b = true → 0 < ks.length), ?_, ?_⟩
    · refine ⟨_, rfl, kn, _, rfl, .inl (SqL.of hk1), _, _, rfl, rfl, _, rfl, ?_⟩
      by_cases c : (0 : Int) < ((ks.map V.str).length : Int)
      · refine iteP (decide_eq_true c) ⟨_, rfl, d, l, 4, rfl, D1, by decide, by decide, fun x H2 x0 x1 D2 o2 => ⟨_, _, rfl, rfl, _, rfl, D2, o1.trans o2, fun _ => by rw [List.length_map] at c; omega⟩⟩
      · exact iteN (by simpa using c) ⟨D1, o1, fun z => nomatch z⟩
    rintro b G2 ⟨D2, o2, hb2⟩
    have hk2 := deal_keep D hk nk o2
    cases b with
    | true =>
      have kp := hb2 rfl
      refine iteP rfl ?_
      refine ⟨_, rfl, _, rfl, _, rfl, kn, _, rfl, .inl (SqL.of hk2), d, l, _, rfl, D2, by rw [List.length_map]; omega, by rw [List.length_map]; omega, fun x H3 x0 x1 D3 o3 => ?_⟩
      obtain ⟨v, hv, ha⟩ := at_nat x0 x1
      obtain ⟨y, rfl, hy⟩ := strs_at hv
      refine ⟨kn, _, _, .str y, rfl, rfl, SqL.of (deal_keep D2 hk2 nk o3), ha, by show 2 ≤ sizeLine; decide, fun p hp => ?_⟩
      have s4 := same_new hp (.tup [.str "name", .str y])
      refine k (.nam p y) _ (D3.same s4) (o2.trans (o3.trans (.of s4))) upd_same (fun z hz => ?_) (by simp only [Tm.size]; omega)
      rw [List.mem_singleton.mp hz]
      exact List.mem_of_getElem? hy
    | false =>
      refine iteN (by simp) ?_
      refine ⟨_, rfl, by show 3 ≤ sizeLine; decide, fun l0 hl0 => ?_⟩
      have n0 := (deal_new D2 hl0).2
      have s3 := same_new hl0 (.lst [.int 4, .int 4, .int 1000])
      have h3 : upd G2 l0 (.lst [.int 4, .int 4, .int 1000]) l0 = some (.lst [.int 4, .int 4, .int 1000]) := upd_same
      generalize upd G2 l0 (.lst [.int 4, .int 4, .int 1000]) = H3 at s3 h3 ⊢
      refine ⟨_, rfl, d, l, 3, rfl, D2.same s3, by decide, by decide, fun x H4 x0 x1 D4 o4 => ?_⟩
      obtain ⟨w, hw, hc⟩ := three_at (x := 4) (y := 4) (z := 1000) x0 x1
      refine ⟨l0, _, _, .int w, rfl, rfl, SqL.of (deal_keep (D2.same s3) h3 n0 o4), hw, d, l, w, rfl, D4, by omega, by omega, fun y H5 y0 y1 D5 o5 => ⟨by show 2 ≤ sizeLine; decide, fun p hp => ?_⟩⟩
      have s6 := same_new hp (.tup [.str "num", .int y])
      exact k (.num p y) _ (D5.same s6) (o2.trans ((Out.of s3).trans (o4.trans (o5.trans (.of s6))))) upd_same (fun z hz => absurd hz List.not_mem_nil) (by simp only [Tm.size]; omega)
end
end Mine
namespace Mine
open PySem L2
section
variable {P : Program} {w : World} {K : PySem.W.Frag} {mg : Str → Option Value} {base : Heap}
theorem nd_Row1 : (["_law_y", "_law_others"] : List Str).Nodup := by decide +kernel
theorem nd_Row2 : (["_law_y", "_law_others"] : List Str).Nodup := by decide +kernel
theorem scRow : FnScope ["_law_deal_here", "_law_world", "_law_known", "_law_deep", "_law_often", "_law_form", "_law_x", "_law_many", "_law_quiet", "_law_term_here", "_law_one", "_law_ones", "_law_other", "_law_others", "_law_k", "_law_rows_here"] ["_law_deal_here", "_law_world", "_law_known", "_law_deep", "_law_often"] (defScope sRow) := ⟨rfl, rfl, rfl, by decide +kernel, rfl, by decide +kernel, by decide +kernel⟩
theorem ok_Row (m : Nat) {f : Addr} {fd : FuncData} (F : Fun K "_law_row" "_law_row" sRow f fd)
    {f_Draw : Addr} {d_Draw : FuncData} (G_Draw : FnOk P w K mg base CX0 (1) f_Draw d_Draw ["_law_deal_here", "_law_many"] spDraw) (b_Draw : Binds K d_Draw ["_law_deal_here", "_law_many"] []) (k_Draw : PySem.W.keepIn K (.ref f_Draw) = true) (m_Draw : mg "_law_draw" = some (.ref f_Draw))
    {f_Trm : Addr} {d_Trm : FuncData} (G_Trm : FnOk P w K mg base CX0 (8) f_Trm d_Trm ["_law_deal_here", "_law_known", "_law_room"] (spTm 7)) (b_Trm : Binds K d_Trm ["_law_deal_here", "_law_known", "_law_room"] []) (k_Trm : PySem.W.keepIn K (.ref f_Trm) = true) (m_Trm : mg "_law_term" = some (.ref f_Trm))
    {f_Rws : Addr} {d_Rws : FuncData} (G_Rws : FnOk P w K mg base CX0 (9 + 2 * m) f_Rws d_Rws ["_law_deal_here", "_law_world", "_law_known", "_law_deep", "_law_tells", "_law_often"] (spRowsP m)) (b_Rws : Binds K d_Rws ["_law_deal_here", "_law_world", "_law_known", "_law_deep", "_law_tells", "_law_often"] []) (k_Rws : PySem.W.keepIn K (.ref f_Rws) = true) (m_Rws : mg "_law_rows" = some (.ref f_Rws))
    {f_Thw : Addr} {d_Thw : FuncData} (G_Thw : FnOk P w K mg base CX0 (3) f_Thw d_Thw ["_law_deal_here", "_law_world", "_law_x"] spThrow) (b_Thw : Binds K d_Thw ["_law_deal_here", "_law_world", "_law_x"] []) (k_Thw : PySem.W.keepIn K (.ref f_Thw) = true) (m_Thw : mg "_law_throw" = some (.ref f_Thw))
    (m_int : mg "int" = none) (m_len : mg "len" = none) :
    FnOk P w K mg base CX0 (9 + 2 * m + 1) f fd ["_law_deal_here", "_law_world", "_law_known", "_law_deep", "_law_often"] (spRowR m) := by
  refine F.ok scRow (fun vs H Q E h => ?_) (fun cdv A outer s H vs Q E hr h => ?_)
  · obtain ⟨d, l, sc, nl, kn, xs, ks, deep, often, rfl, _⟩ := h
    rfl
  obtain ⟨d, l, sc, nl, kn, xs, ks, deep, often, rfl, W0, hk, nk, kx, lk, hm, hd, k⟩ := h
  have hu := hu_of hr
  have hr1 : Room 1 _ := hr.mono (by omega)
  have hr3 : Room 3 _ := hr.mono (by omega)
  have hr8 : Room 8 _ := hr.mono (by omega)
  have hr_Rws : Room (9 + 2 * m) _ := hr.mono (by omega)
  refine ⟨_, (pss_cons (ps_set (i := 5) scRow.nd rfl (Or.inl rfl) (pe_call G_Draw hr1 (by rfl) m_Draw k_Draw b_Draw .nil pass0 (pa_cons (pv 0) (pa_cons pe_int pa_nil))))
    (pss_cons (ps_set (i := 6) scRow.nd rfl (Or.inl rfl) (pe_ix ix_list (pe_dget hu (pv 1) pe_str (fun _ _ => rfl)) (pe_call G_Draw hr1 (by rfl) m_Draw k_Draw b_Draw .nil pass0 (pa_cons (pv 0) (pa_cons (pe_callB call_len_seq (by rfl) m_len PySem.boot_len (pa_cons (pe_dget hu (pv 1) pe_str (fun _ _ => rfl)) pa_nil)) pa_nil))) (fun _ _ => rfl)))
    (pss_cons (ps_set (i := 7) scRow.nd rfl (Or.inl rfl) (pe_op op_mul (pe_call G_Draw hr1 (by rfl) m_Draw k_Draw b_Draw .nil pass0 (pa_cons (pv 0) (pa_cons pe_int pa_nil))) (pe_callTy call_int1 (by rfl) m_int PyProof.Rows.boot_int (pa_cons (pe_not (pe_dget hu (pv 1) pe_str (fun _ _ => rfl))) pa_nil))))
    (pss_cons (ps_if (pt_post (PW.pt (pw_and (pt_cmpR op_lt (pv 5) pe_int (nomark _)) (pw_and1 (pt_cmpR op_ge (pe_dget hu (pv 1) pe_str (fun _ _ => rfl)) (pv 4) (nomark _)))))) (pss_cons (ps_dput hu (pv 1) pe_str (pe_op op_sub (pe_dget hu (pv 1) pe_str (fun _ _ => rfl)) (pv 4)) rfl)
    (pss_one (ps_ret (pe_tup (pa_cons (pe_call G_Thw hr3 (by rfl) m_Thw k_Thw b_Thw .nil pass0 (pa_cons (pv 0) (pa_cons (pv 1) (pa_cons (pv 6) pa_nil)))) (pa_cons (pe_op op_cat (pv 2) (pe_lst (pa_cons (pv 6) pa_nil))) pa_nil)))))) pss_nil)
    (pss_cons (ps_if (pt_post (PW.pt (pw_and (pt_cmpR op_eq (pv 5) pe_int (nomark _)) (pw_and (pt_cmpR op_gt (pv 3) pe_int (nomark _)) (pw_and1 (pt_cmpR op_ge (pe_dget hu (pv 1) pe_str (fun _ _ => rfl)) (pe_op op_mul pe_int (pv 7)) (nomark _))))))) (pss_cons (ps_set (i := 8) scRow.nd rfl (Or.inl rfl) (pe_dget hu (pv 1) pe_str (fun _ _ => rfl)))
    (pss_cons (ps_dput hu (pv 1) pe_str pe_bl rfl)
    (pss_cons (ps_dput hu (pv 1) pe_str (pe_op op_sub (pe_dget hu (pv 1) pe_str (fun _ _ => rfl)) (pe_op op_mul pe_int (pv 7))) rfl)
    (pss_cons (ps_set (i := 9) scRow.nd rfl (Or.inl rfl) (pe_call G_Trm hr8 (by rfl) m_Trm k_Trm b_Trm .nil pass0 (pa_cons (pv 0) (pa_cons (pv 2) (pa_cons pe_int pa_nil)))))
    (pss_cons (ps_asg (pe_call G_Rws hr_Rws (by rfl) m_Rws k_Rws b_Rws .nil pass0 (pa_cons (pv 0) (pa_cons (pv 1) (pa_cons (pv 2) (pa_cons (pe_op op_sub (pv 3) pe_int) (pa_cons (pv 7) (pa_cons (pv 4) pa_nil))))))) (pg_tup rfl (pgs_cons (pg_name (i := 10) scRow.nd rfl (Or.inl rfl)) (pgs_cons (pg_name (i := 11) scRow.nd rfl (Or.inl rfl)) pgs_nil))))
    (pss_cons (ps_asg (pe_call G_Rws hr_Rws (by rfl) m_Rws k_Rws b_Rws .nil pass0 (pa_cons (pv 0) (pa_cons (pv 1) (pa_cons (pv 2) (pa_cons (pe_op op_sub (pv 3) pe_int) (pa_cons (pv 7) (pa_cons (pv 4) pa_nil))))))) (pg_tup rfl (pgs_cons (pg_name (i := 12) scRow.nd rfl (Or.inl rfl)) (pgs_cons (pg_name (i := 13) scRow.nd rfl (Or.inr rfl)) pgs_nil))))
    (pss_cons (ps_dput hu (pv 1) pe_str (pv 8) rfl)
    (pss_one (ps_ret (pe_tup (pa_cons (pe_tup (pa_cons pe_str (pa_cons (pv 9) (pa_cons (pv 10) (pa_cons (pv 12) pa_nil))))) (pa_cons (pe_comp ["_law_y", "_law_others"] [none, some 13] (pi_list (pv 11)) (fun _ _ _ _ => (pg_name (i := 0) (nd_Row1) rfl (Or.inl rfl))) (fun _ _ _ _ => (pf_one (pt_cmpR (inK K) (pv 0) (pv 1) rfl))) (fun _ _ _ _ => (pv 0))) pa_nil)))))))))))) pss_nil)
    (pss_cons (ps_if (pt_post (PW.pt (pw_and (pt_cmpR op_eq (pv 5) pe_int (nomark _)) (pw_and (pt_cmpR op_gt (pv 3) pe_int (nomark _)) (pw_and1 (pt_cmpR op_ge (pe_dget hu (pv 1) pe_str (fun _ _ => rfl)) (pv 7) (nomark _))))))) (pss_cons (ps_set (i := 14) scRow.nd rfl (Or.inl rfl) (pe_op op_add pe_int (pe_call G_Draw hr1 (by rfl) m_Draw k_Draw b_Draw .nil pass0 (pa_cons (pv 0) (pa_cons (pe_ix ix_list (pe_lst (pa_cons pe_int (pa_cons pe_int pa_nil))) (pe_post (pe_callTy call_int1 (by rfl) m_int PyProof.Rows.boot_int (pa_cons (pe_and (pe_cmpR op_gt (pv 4) pe_int (nomark _)) (pe_one (pe_cmpR op_lt (pe_dget hu (pv 1) pe_str (fun _ _ => rfl)) pe_int (nomark _)))) pa_nil))) (fun _ _ => rfl)) pa_nil)))))
    (pss_cons (ps_dput hu (pv 1) pe_str (pe_op op_sub (pe_dget hu (pv 1) pe_str (fun _ _ => rfl)) (pv 7)) rfl)
    (pss_cons (ps_asg (pe_call G_Rws hr_Rws (by rfl) m_Rws k_Rws b_Rws .nil pass0 (pa_cons (pv 0) (pa_cons (pv 1) (pa_cons (pv 2) (pa_cons (pe_op op_sub (pv 3) pe_int) (pa_cons (pv 7) (pa_cons (pe_op op_mul (pv 4) (pv 14)) pa_nil))))))) (pg_tup rfl (pgs_cons (pg_name (i := 15) scRow.nd rfl (Or.inl rfl)) (pgs_cons (pg_name (i := 2) scRow.nd rfl (Or.inl rfl)) pgs_nil))))
    (pss_one (ps_ret (pe_tup (pa_cons (pe_tup (pa_cons pe_str (pa_cons (pv 14) (pa_cons (pv 15) pa_nil)))) (pa_cons (pv 2) pa_nil)))))))) pss_nil)
    (pss_one (ps_ret (pe_tup (pa_cons (pe_tup (pa_cons pe_str (pa_cons (pv 6) (pa_cons (pe_call G_Trm hr8 (by rfl) m_Trm k_Trm b_Trm .nil pass0 (pa_cons (pv 0) (pa_cons (pv 2) (pa_cons (pe_op op_add pe_int (pe_call G_Draw hr1 (by rfl) m_Draw k_Draw b_Draw .nil pass0 (pa_cons (pv 0) (pa_cons pe_int pa_nil)))) pa_nil)))) pa_nil)))) (pa_cons (pe_op op_cat (pv 2) (pe_lst (pa_cons (pv 6) pa_nil))) pa_nil))))))))))), ?_⟩
  have pp := pb_pos m
  refine ⟨_, rfl, d, l, 9, rfl, W0.deal, by decide, by decide, fun fo H1 f0 f1 D1 o1 => ?_⟩
  have W1 := W0.out D1 o1
  refine ⟨_, rfl, sc, _, rfl, W1.get_names, _, rfl, _, rfl, sc, _, rfl, W1.get_names, nl, _, rfl, .inl (SqL.of W1.nms), d, l, _, rfl, W1.deal, by rw [List.length_map]; have := W1.x1; omega, by rw [List.length_map]; have := W1.x2; omega, fun y H2 y0 y1 D2 o2 => ?_⟩
  obtain ⟨v, hv, ha⟩ := at_nat y0 y1
  obtain ⟨x, rfl, hx⟩ := strs_at hv
  have mx : x ∈ xs := List.mem_of_getElem? hx
  have W2 := W1.out D2 o2
  refine ⟨nl, _, _, .str x, rfl, rfl, SqL.of W2.nms, ha, ?_⟩
  clear hv ha hx y0 y1 f0 f1
  refine ⟨_, rfl, d, l, 2, rfl, W2.deal, by decide, by decide, fun mm H3 m0 m1 D3 o3 => ?_⟩
  have W3 := W2.out D3 o3
  obtain ⟨qb, gq⟩ := W3.get_quiet
  have oA : Off [d, l, sc] H H3 := (Off.out (sc := sc) o1).trans ((Off.out (sc := sc) o2).trans (Off.out (sc := sc) o3))
  have hk3 := W0.keep hk nk oA
  refine ⟨_, rfl, sc, _, rfl, gq, qb, rfl, .inr ⟨_, rfl, _, _, rfl, rfl, .inl ⟨by omega, by omega⟩, ?_⟩⟩
  have hM : 0 ≤ mm * (if (!qb) = true then 1 else 0) ∧ mm * (if (!qb) = true then 1 else 0) ≤ 1 := by cases qb <;> simp <;> omega
  dsimp only
  generalize mm * (if (!qb) = true then 1 else 0) = many at hM ⊢
  obtain ⟨a0, a1⟩ := hM
  clear gq W1 W2 D1 D2 D3 o1 o2 o3 m0 m1
  have mb : CMul 2 many := .inl ⟨by decide, by decide⟩
  refine ⟨fun b G => G = H3, ?_, ?_⟩
  · obtain ⟨lf, gl⟩ := W3.get_left
    exact ⟨_, rfl, _, _, rfl, rfl, _, rfl, ite2 (fun _ => ⟨_, rfl, sc, _, rfl, gl, _, rfl, _, _, rfl, rfl, _, rfl, rfl⟩) (fun _ => rfl)⟩
  rintro b G rfl
  cases b with
  | true =>
    refine iteP rfl ?_
    obtain ⟨lf, gl⟩ := W3.get_left
    obtain ⟨kv4, dp4, W4, o4⟩ := W3.put_left (lf - often)
    refine ⟨_, rfl, sc, _, rfl, gl, _, rfl, _, _, rfl, rfl, _, rfl, sc, _, rfl, dp4, ?_⟩
    have hk4 := W3.keep hk3 nk o4
    generalize upd G sc (.dK kv4) = H4 at W4 o4 hk4 ⊢
    obtain ⟨kvs, hsc, wk⟩ := W4.scn
    refine ⟨_, rfl, _, rfl, _, rfl, d, l, sc, kvs, x, rfl, W4.deal, hsc, ⟨wk.wd, wk.kd⟩, W4.ne1, fun pt w ws H5 D5 o5 h5 ok5 => ?_⟩
    have W5 := W4.out D5 o5
    have hk5 := deal_keep W4.deal hk4 nk o5
    have oB := oA.trans (o4.trans (Off.out (sc := sc) o5))
    refine ⟨_, rfl, _, rfl, by show 1 ≤ sizeLine; decide, fun l6 hl6 => ?_⟩
    have s6 := same_new hl6 (.lst [.str x])
    have h6 : upd H5 l6 (.lst [.str x]) l6 = some (.lst [.str x]) := upd_same
    generalize upd H5 l6 (.lst [.str x]) = H6 at s6 h6 ⊢
    refine ⟨kn, l6, _, _, rfl, rfl, s6 _ _ hk5, h6, Nat.le_of_lt (big4 (by rw [List.length_map]; show ks.length + 1 ≤ _; omega)), fun l7 hl7 => ⟨by show 2 ≤ sizeLine; decide, fun p hp => ?_⟩⟩
    have n7 : H l7 = none := oB.fresh W5.all (s6.free hl7)
    have n7l := (deal_new (W5.deal.same s6) hl7).2
    have s7 := s6.trans ((same_new hl7 (.lst (ks.map V.str ++ [.str x]))).trans (same_new hp (.tup [.ref pt, .ref l7])))
    refine k p l7 (.thr pt w x ws) (ks ++ [x]) _ (W5.same s7) (oB.trans (.of s7)) upd_same ⟨s7 _ _ h5, ok5⟩ pp (Nat.zero_le _) (OkL.one (fun t ht => absurd ht List.not_mem_nil) OkL.nil) (.inr n7) n7l ?_ (fun y hy => ?_) (by rw [List.length_append]; show ks.length + 1 ≤ _; omega)
    · rw [(same_new hp (.tup [.ref pt, .ref l7])) _ _ upd_same, List.map_append]; rfl
    · rcases List.mem_append.mp hy with e | e
      · exact kx y e
      · rw [List.mem_singleton.mp e]; exact mx
  | false =>
  refine iteN (by simp) ?_
  refine ⟨fun b G' => G' = G ∧ (b = true → 0 < deep), ?_, ?_⟩
  · obtain ⟨rm, gr⟩ := W3.get_room
    refine ⟨_, rfl, rfl, _, rfl, ite2 (fun _ => ⟨_, rfl, _, _, rfl, rfl, _, rfl, ?_⟩) (fun _ => ⟨rfl, fun z => nomatch z⟩)⟩
    by_cases c : 0 < deep
    · exact iteP (decide_eq_true c) ⟨_, rfl, sc, _, rfl, gr, _, rfl, _, _, rfl, rfl, mb, _, _, rfl, rfl, _, rfl, rfl, fun _ => c⟩
    · exact iteN (by simpa using c) ⟨rfl, fun z => nomatch z⟩
  rintro b G' ⟨rfl, hb⟩
  cases b with
  | true =>
    refine iteP rfl ?_
    have d0 := hb rfl
    cases m with
    | zero => exact absurd d0 (by omega)
    | succ m =>
    have cl := cb_le m
    simp only [pb] at lk
    obtain ⟨q4, g4⟩ := W3.get_quiet
    obtain ⟨kv4, dp4, W4, o4⟩ := W3.put_quiet true
    refine ⟨_, rfl, sc, _, rfl, g4, _, rfl, sc, _, rfl, dp4, ?_⟩
    have hk4 := W3.keep hk3 nk o4
    generalize upd G' sc (.dK kv4) = H4 at W4 o4 hk4 ⊢
    obtain ⟨rm, gr⟩ := W4.get_room
    obtain ⟨kv5, dp5, W5, o5⟩ := W4.put_room (rm - 2 * many)
    refine ⟨_, rfl, sc, _, rfl, gr, _, rfl, _, _, rfl, rfl, mb, _, _, rfl, rfl, _, rfl, sc, _, rfl, dp5, ?_⟩
    have hk5 := W4.keep hk4 nk o5
    generalize upd H4 sc (.dK kv5) = H5 at W5 o5 hk5 ⊢
    refine ⟨_, rfl, _, rfl, d, l, kn, ks, 5, rfl, W5.deal, hk5, nk, by omega, by decide, by decide, by decide, fun t H6 D6 o6 h6 nm6 sz6 => ?_⟩
    have W6 := W5.out D6 o6
    have hk6 := deal_keep W5.deal hk5 nk o6
    have oB := oA.trans (o4.trans (o5.trans (Off.out (sc := sc) o6)))
    refine ⟨_, rfl, _, rfl, _, rfl, _, rfl, _, _, rfl, rfl, _, rfl, _, rfl, d, l, sc, nl, kn, xs, ks, deep - 1, many, often, rfl, W6, hk6, nk, kx, by omega, by omega, by omega, by omega, by omega, fun p7 pr7 kn7 rs7 k7 H7 W7 o7 h7 hp7 hr7 c7 dd7 ok7 q7 n7 hk7 kx7 kl7 => ?_⟩
    refine ⟨p7, _, rfl, SqT.of h7, rfl, _, _, rfl, _, _, rfl, rfl, ?_⟩
    have hkk7 := W6.keep hk6 nk o7
    refine ⟨_, rfl, _, rfl, _, rfl, _, rfl, _, _, rfl, rfl, _, rfl, _, rfl, d, l, sc, nl, kn, xs, ks, deep - 1, many, often, rfl, W7, hkk7, nk, kx, by omega, by omega, by omega, by omega, by omega, fun p8 pr8 kn8 rs8 k8 H8 W8 o8 h8 hp8 hr8 c8 dd8 ok8 q8 n8 hk8 kx8 kl8 => ?_⟩
    refine ⟨p8, _, rfl, SqT.of h8, rfl, _, _, rfl, _, _, rfl, rfl, ?_⟩
    have ts78 := W7.ts o8
    have hk78 := W7.keep hk7 n7 o8
    obtain ⟨kv9, dp9, W9, o9⟩ := W8.put_quiet q4
    refine ⟨_, rfl, _, rfl, sc, _, rfl, dp9, ?_⟩
    have ts89 := W8.ts o9
    have hk79 := W8.keep hk78 n7 o9
    have hk89 := W8.keep hk8 n8 o9
    have oC := oB.trans (o7.trans (o8.trans o9))
    have tm9 := h6.ts (((W6.ts o7).trans ts78).trans ts89)
    have hp79 := (ts78.trans ts89) _ _ hp7
    have hp89 := ts89 _ _ hp8
    have hr79 := RwsH.ts (ts78.trans ts89) _ hr7
    have hr89 := RwsH.ts ts89 _ hr8
    clear hr7 hr8 hp7 hp8 h7 h8 dp9 o9 ts89 ts78
    generalize upd H8 sc (.dK kv9) = H9 at W9 hk79 hk89 oC tm9 hp79 hp89 hr79 hr89 ⊢
    refine ⟨_, rfl, _, rfl, _, rfl, by show 4 ≤ sizeLine; decide, fun q hq => ?_⟩
    have s10 := same_new hq (.tup [.str "when", .ref t.p, .ref pr7, .ref pr8])
    have h10 : upd H9 q (.tup [.str "when", .ref t.p, .ref pr7, .ref pr8]) q = some (.tup [.str "when", .ref t.p, .ref pr7, .ref pr8]) := upd_same
    generalize upd H9 q (.tup [.str "when", .ref t.p, .ref pr7, .ref pr8]) = H10 at s10 h10 ⊢
    refine ⟨_, rfl, kn7, rfl, ⟨_, SqL.of (s10 _ _ hk79)⟩, comp_list (K := K) (a := kn7) (xs := k7.map V.str) (fun i ys σ G => G = H10 ∧ (∃ v, σ = [v, some (.ref kn8)]) ∧ ys = ((k7.take i).filter fun x => decide (x ∈ k8)).map V.str)
      (big4 (by rw [List.length_map]; omega)) ⟨rfl, ⟨_, rfl⟩, rfl⟩ (fun i ys σ G ⟨_, _, e⟩ => by
        rw [e, List.length_map]
        exact Nat.le_trans (List.length_filter_le _ _) (by rw [List.length_take]; omega)) (by rintro i ys σ G _ ⟨e, _⟩; rw [e]; exact SqL.of (s10 _ _ hk79)) ?_ ?_⟩
    · rintro i v ys σ G hv ⟨rfl, ⟨v', rfl⟩, rfl⟩
      obtain ⟨x, rfl, hx⟩ := strs_at hv
      refine ⟨_, rfl, _, rfl, kn8, _, rfl, .inl (SqL.of (s10 _ _ hk89)), rfl, flat_texts _, _, rfl, ?_⟩
      have ei : inV (V.str x) (k8.map V.str) = decide (x ∈ k8) := inV_strs _ _
      rw [take_snoc hx, List.filter_append, List.map_append]
      by_cases c : x ∈ k8
      · refine iteP (ei.trans (decide_eq_true c)) ⟨_, rfl, rfl, ⟨_, rfl⟩, ?_⟩
        rw [List.filter_cons_of_pos (p := fun x => decide (x ∈ k8)) (decide_eq_true c)]
        rfl
      · refine iteN (fun z => c (of_decide_eq_true (ei.symm.trans z))) ⟨rfl, ⟨_, rfl⟩, ?_⟩
        rw [List.filter_cons_of_neg (p := fun x => decide (x ∈ k8)) (by simpa using c)]
        simp
    rintro ys σ G ⟨rfl, _, rfl⟩ l7 hl7
    rw [List.length_map, List.take_length]
    have fl := List.length_filter_le (fun x => decide (x ∈ k8)) k7
    have fm : ∀ y ∈ k7.filter (fun x => decide (x ∈ k8)), y ∈ xs := fun y hy => kx7 y (List.mem_filter.mp hy).1
    generalize k7.filter (fun x => decide (x ∈ k8)) = kz at fl fm ⊢
    have s11 := same_new hl7 (.lst (kz.map V.str))
    have h11 : upd G l7 (.lst (kz.map V.str)) l7 = some (.lst (kz.map V.str)) := upd_same
    have n11 : H l7 = none := oC.fresh W9.all (s10.free hl7)
    have n11l := (deal_new (W9.deal.same s10) hl7).2
    generalize upd G l7 (.lst (kz.map V.str)) = H11 at s11 h11 ⊢
    refine ⟨by show 2 ≤ sizeLine; decide, fun p hp => ?_⟩
    have s12 := s10.trans (s11.trans (same_new hp (.tup [.ref q, .ref l7])))
    have s13 := s11.trans (same_new hp (.tup [.ref q, .ref l7]))
    refine k p l7 (.when q pr7 pr8 t rs7 rs8) kz _ (W9.same s12) (oC.trans (.of s12)) upd_same ⟨s13 _ _ h10, tm9.ts (.of s12), s12 _ _ hp79, s12 _ _ hp89, RwsH.ts (.of s12) _ hr79, RwsH.ts (.of s12) _ hr89⟩ ?_ ?_ (OkL.one (fun t' ht => ?_) (OkL.app ok7 ok8)) (.inr n11) n11l ((same_new hp _) _ _ h11) fm ?_
    · simp only [Rw.cnt, pb]; omega
    · simp only [dep]; omega
    · rw [List.mem_singleton.mp ht]
      exact ⟨by omega, fun y hy => kx y (nm6 y hy)⟩
    · simp only [pb]; omega
  | false =>
  refine iteN (by simp) ?_
  refine ⟨fun b G => G = G' ∧ (b = true → 0 < deep), ?_, ?_⟩
  · obtain ⟨rm, gr⟩ := W3.get_room
    refine ⟨_, rfl, rfl, _, rfl, ite2 (fun _ => ⟨_, rfl, _, _, rfl, rfl, _, rfl, ?_⟩) (fun _ => ⟨rfl, fun z => nomatch z⟩)⟩
    by_cases c : 0 < deep
    · exact iteP (decide_eq_true c) ⟨_, rfl, sc, _, rfl, gr, _, rfl, _, _, rfl, rfl, _, rfl, rfl, fun _ => c⟩
    · exact iteN (by simpa using c) ⟨rfl, fun z => nomatch z⟩
  rintro b G ⟨rfl, hb⟩
  cases b with
  | true =>
    refine iteP rfl ?_
    have d0 := hb rfl
    cases m with
    | zero => exact absurd d0 (by omega)
    | succ m =>
    have cl := cb_le m
    simp only [pb] at lk
    obtain ⟨fr, gf⟩ := W3.get_far
    refine ⟨_, rfl, by show 2 ≤ sizeLine; decide, fun l0 hl0 => ?_⟩
    have n0 := (deal_new W3.deal hl0).2
    have s4 := same_new hl0 (.lst [.int 3, .int 1])
    have h4 : upd G l0 (.lst [.int 3, .int 1]) l0 = some (.lst [.int 3, .int 1]) := upd_same
    generalize upd G l0 (.lst [.int 3, .int 1]) = H4 at s4 h4 ⊢
    have W4 := W3.same s4
    obtain ⟨fr, gf⟩ := W4.get_far
    refine ⟨fun v G1 => G1 = H4 ∧ ∃ z : Int, v = .int z ∧ 0 ≤ z ∧ z < 2, ?_, ?_⟩
    · refine ⟨_, rfl, _, _, rfl, rfl, _, rfl, ite2 (fun _ => ⟨_, rfl, sc, _, rfl, gf, _, _, rfl, rfl, .inr ⟨_, rfl, rfl, _, rfl, ?_, ?_⟩⟩) (fun _ => .inr ⟨_, rfl, rfl, _, rfl, by decide, by decide⟩)⟩ <;> split <;> decide
    rintro v G1 ⟨rfl, z, rfl, z0, z1⟩
    obtain ⟨w2, hw2, hc2⟩ := two_atI (x := 3) (y := 1) z0 z1
    refine ⟨l0, _, _, .int w2, rfl, rfl, SqL.of h4, hw2, d, l, w2, rfl, W4.deal, by omega, by omega, fun tu H5 u0 u1 D5 o5 => ⟨_, _, rfl, rfl, ?_⟩⟩
    have W5 := W4.out D5 o5
    have hk5 := deal_keep W4.deal (s4 _ _ hk3) nk o5
    obtain ⟨rm, gr⟩ := W5.get_room
    obtain ⟨kv6, dp6, W6, o6⟩ := W5.put_room (rm - many)
    refine ⟨_, rfl, sc, _, rfl, gr, _, rfl, _, _, rfl, rfl, _, rfl, sc, _, rfl, dp6, ?_⟩
    have hk6 := W5.keep hk5 nk o6
    have oB := oA.trans ((Off.of (S := [d, l, sc]) s4).trans ((Off.out (sc := sc) o5).trans o6))
    generalize upd H5 sc (.dK kv6) = H6 at W6 o6 hk6 oB ⊢
    refine ⟨_, rfl, _, rfl, _, rfl, _, rfl, _, _, rfl, rfl, _, rfl, _, rfl, _, rfl, _, _, rfl, rfl, .inr ⟨by omega, by omega⟩, d, l, sc, nl, kn, xs, ks, deep - 1, many, _, rfl, W6, hk6, nk, kx, by omega, by omega, by omega, by omega, by omega, fun p7 pr7 kn7 rs7 k7 H7 W7 o7 h7 hp7 hr7 c7 dd7 ok7 q7 n7 hk7 kx7 kl7 => ?_⟩
    refine ⟨p7, _, rfl, SqT.of h7, rfl, _, _, rfl, _, _, rfl, rfl, ?_⟩
    have n9f : kn7 = kn ∨ H kn7 = none := by
      rcases q7 with e | e
      · exact .inl e
      · exact .inr (oB.fresh W6.all e)
    refine ⟨_, rfl, _, rfl, by show 3 ≤ sizeLine; decide, fun q hq => ?_⟩
    have s8 := same_new hq (.tup [.str "times", .int (1 + tu), .ref pr7])
    have h8 : upd H7 q (.tup [.str "times", .int (1 + tu), .ref pr7]) q = some (.tup [.str "times", .int (1 + tu), .ref pr7]) := upd_same
    generalize upd H7 q (.tup [.str "times", .int (1 + tu), .ref pr7]) = H8 at s8 h8 ⊢
    refine ⟨_, rfl, by show 2 ≤ sizeLine; decide, fun p hp => ?_⟩
    have s9 := s8.trans (same_new hp (.tup [.ref q, .ref kn7]))
    refine k p kn7 (.times q pr7 (1 + tu) rs7) k7 _ (W7.same s9) (oB.trans (o7.trans (.of s9))) upd_same ⟨(same_new hp _) _ _ h8, s9 _ _ hp7, RwsH.ts (.of s9) _ hr7⟩ ?_ ?_ (OkL.one (fun t' ht => absurd ht List.not_mem_nil) ok7) n9f n7 (s9 _ _ hk7) kx7 ?_
    · simp only [Rw.cnt, pb]; omega
    · simp only [dep]; omega
    · simp only [pb]; omega
  | false =>
  refine iteN (by simp) ?_
  refine ⟨_, rfl, _, rfl, _, rfl, _, rfl, d, l, 7, rfl, W3.deal, by decide, by decide, fun z H4 z0 z1 D4 o4 => ⟨_, _, rfl, rfl, ?_⟩⟩
  have W4 := W3.out D4 o4
  have hk4 := deal_keep W3.deal hk3 nk o4
  refine ⟨d, l, kn, ks, 1 + z, rfl, D4, hk4, nk, by omega, by omega, by omega, by show 1 + z ≤ 7; omega, fun t H5 D5 o5 h5 nm5 sz5 => ⟨by show 3 ≤ sizeLine; decide, fun q hq => ?_⟩⟩
  have W5 := W4.out D5 o5
  have hk5 := deal_keep D4 hk4 nk o5
  have oB := oA.trans ((Off.out (sc := sc) o4).trans (Off.out (sc := sc) o5))
  have sQ := same_new hq (.tup [.str "let", .str x, .ref t.p])
  have hQ : upd H5 q (.tup [.str "let", .str x, .ref t.p]) q = some (.tup [.str "let", .str x, .ref t.p]) := upd_same
  generalize upd H5 q (.tup [.str "let", .str x, .ref t.p]) = HQ at sQ hQ ⊢
  refine ⟨_, rfl, _, rfl, by show 1 ≤ sizeLine; decide, fun l6 hl6 => ?_⟩
  have s6 := same_new hl6 (.lst [.str x])
  have h6 : upd HQ l6 (.lst [.str x]) l6 = some (.lst [.str x]) := upd_same
  generalize upd HQ l6 (.lst [.str x]) = H6 at s6 h6 ⊢
  refine ⟨kn, l6, _, _, rfl, rfl, (sQ.trans s6) _ _ hk5, h6, Nat.le_of_lt (big4 (by rw [List.length_map]; show ks.length + 1 ≤ _; omega)), fun l7 hl7 => ⟨by show 2 ≤ sizeLine; decide, fun p hp => ?_⟩⟩
  have n7 : H l7 = none := oB.fresh W5.all ((sQ.trans s6).free hl7)
  have n7l := (deal_new (W5.deal.same (sQ.trans s6)) hl7).2
  have s7 := s6.trans ((same_new hl7 (.lst (ks.map V.str ++ [.str x]))).trans (same_new hp (.tup [.ref q, .ref l7])))
  refine k p l7 (.lt q x t) (ks ++ [x]) _ (W5.same (sQ.trans s7)) (oB.trans (.of (sQ.trans s7))) upd_same ⟨s7 _ _ hQ, h5.ts (.of (sQ.trans s7))⟩ pp (Nat.zero_le _) (OkL.one (fun t' ht => ?_) OkL.nil) (.inr n7) n7l ?_ (fun y hy => ?_) (by rw [List.length_append]; show ks.length + 1 ≤ _; omega)
  · rw [List.mem_singleton.mp ht]
    exact ⟨by omega, fun y hy => kx y (nm5 y hy)⟩
  · rw [(same_new hp (.tup [.ref q, .ref l7])) _ _ upd_same, List.map_append]; rfl
  · rcases List.mem_append.mp hy with e | e
    · exact kx y e
    · rw [List.mem_singleton.mp e]; exact mx
end
end Mine
namespace Mine
open PySem L2
section
variable {P : Program} {w : World} {K : PySem.W.Frag} {mg : Str → Option Value} {base : Heap}
theorem nd_Rws1 : (["_law_k", "_law_deal_here", "_law_known"] : List Str).Nodup := by decide +kernel
theorem scRws : FnScope ["_law_deal_here", "_law_world", "_law_known", "_law_deep", "_law_tells", "_law_often", "_law_rows_here", "_law_k", "_law_row_here"] ["_law_deal_here", "_law_world", "_law_known", "_law_deep", "_law_tells", "_law_often"] (defScope sRws) := ⟨rfl, rfl, rfl, by decide +kernel, rfl, by decide +kernel, by decide +kernel⟩
theorem ok_Rws (m : Nat) {f : Addr} {fd : FuncData} (F : Fun K "_law_rows" "_law_rows" sRws f fd)
    {f_Draw : Addr} {d_Draw : FuncData} (G_Draw : FnOk P w K mg base CX0 (1) f_Draw d_Draw ["_law_deal_here", "_law_many"] spDraw) (b_Draw : Binds K d_Draw ["_law_deal_here", "_law_many"] []) (k_Draw : PySem.W.keepIn K (.ref f_Draw) = true) (m_Draw : mg "_law_draw" = some (.ref f_Draw))
    {f_Row : Addr} {d_Row : FuncData} (G_Row : FnOk P w K mg base CX0 (10 + 2 * m) f_Row d_Row ["_law_deal_here", "_law_world", "_law_known", "_law_deep", "_law_often"] (spRowR m)) (b_Row : Binds K d_Row ["_law_deal_here", "_law_world", "_law_known", "_law_deep", "_law_often"] []) (k_Row : PySem.W.keepIn K (.ref f_Row) = true) (m_Row : mg "_law_row" = some (.ref f_Row))
    {f_Trm : Addr} {d_Trm : FuncData} (G_Trm : FnOk P w K mg base CX0 (8) f_Trm d_Trm ["_law_deal_here", "_law_known", "_law_room"] (spTm 7)) (b_Trm : Binds K d_Trm ["_law_deal_here", "_law_known", "_law_room"] []) (k_Trm : PySem.W.keepIn K (.ref f_Trm) = true) (m_Trm : mg "_law_term" = some (.ref f_Trm))
    (m_range : mg "range" = none) (m_tuple : mg "tuple" = none) :
    FnOk P w K mg base CX0 (10 + 2 * m + 1) f fd ["_law_deal_here", "_law_world", "_law_known", "_law_deep", "_law_tells", "_law_often"] (spRows m) := by
  refine F.ok scRws (fun vs H Q E h => ?_) (fun cdv A outer s H vs Q E hr h => ?_)
  · obtain ⟨d, l, sc, nl, kn, xs, ks, deep, tells, often, rfl, _⟩ := h
    rfl
  obtain ⟨d, l, sc, nl, kn, xs, ks, deep, tells, often, rfl, W0, hk, nk, kx, lk, t0, t2, hm, hd, k⟩ := h
  have hu := hu_of hr
  have hr1 : Room 1 _ := hr.mono (by omega)
  have hr8 : Room 8 _ := hr.mono (by omega)
  have hr_Row : Room (10 + 2 * m) _ := hr.mono (by omega)
  refine ⟨_, (pss_cons (ps_set (i := 6) scRws.nd rfl (Or.inl rfl) (pe_lst pa_nil))
    (pss_cons (ps_for PassesOwn.never rfl (pi_range1 (by rfl) m_range (pa_cons (pe_call G_Draw hr1 (by rfl) m_Draw k_Draw b_Draw .nil pass0 (pa_cons (pv 0) (pa_cons pe_int pa_nil))) pa_nil)) (pg_name (i := 7) scRws.nd rfl (Or.inl rfl))
    (pss_one (ps_if (pt_cmpR op_gt (pe_dget hu (pv 1) pe_str (fun _ _ => rfl)) pe_int (nomark _)) (pss_cons (ps_dput hu (pv 1) pe_str (pe_op op_sub (pe_dget hu (pv 1) pe_str (fun _ _ => rfl)) pe_int) rfl)
    (pss_cons (ps_asg (pe_call G_Row hr_Row (by rfl) m_Row k_Row b_Row .nil pass0 (pa_cons (pv 0) (pa_cons (pv 1) (pa_cons (pv 2) (pa_cons (pv 3) (pa_cons (pv 5) pa_nil)))))) (pg_tup rfl (pgs_cons (pg_name (i := 8) scRws.nd rfl (Or.inl rfl)) (pgs_cons (pg_name (i := 2) scRws.nd rfl (Or.inr rfl)) pgs_nil))))
    (pss_one (ps_expr (pe_bm PySem.F.plainAttrs_list PySem.F.slot_list_append PySem.F.type_list_append mt_append (pv 6) (pa_cons (pv 8) pa_nil)))))) pss_nil)))
    (pss_cons (ps_set (i := 6) scRws.nd rfl (Or.inl rfl) (pe_op op_cat (pv 6) (pe_comp ["_law_k", "_law_deal_here", "_law_known"] [none, some 0, some 2] (pi_range1 (by rfl) m_range (pa_cons (pv 4) pa_nil)) (fun _ _ _ _ => (pg_name (i := 0) (nd_Rws1) rfl (Or.inl rfl))) (fun _ _ _ _ => pf_nil) (fun _ _ _ _ => (pe_tup (pa_cons pe_str (pa_cons (pe_call G_Trm hr8 (by rfl) m_Trm k_Trm b_Trm .nil pass0 (pa_cons (pv 1) (pa_cons (pv 2) (pa_cons (pe_op op_add pe_int (pe_call G_Draw hr1 (by rfl) m_Draw k_Draw b_Draw .nil pass0 (pa_cons (pv 1) (pa_cons pe_int pa_nil)))) pa_nil)))) pa_nil)))))))
    (pss_one (ps_ret (pe_tup (pa_cons (pe_callTy call_tuple_of (by rfl) m_tuple PyProof.Rows.boot_tuple (pa_cons (pv 6) pa_nil)) (pa_cons (pv 2) pa_nil)))))))), ?_⟩
  have cl := cb_le m
  have ce := cb_eq hm
  have pp := pb_pos m
  refine ⟨Nat.zero_le _, fun lr hlr => ?_⟩
  have nlr := (deal_new W0.deal hlr).2
  have nln : lr ≠ nl := (ne_of_none W0.nms hlr).symm
  have nlk : kn ≠ lr := ne_of_none hk hlr
  have s1 := same_new hlr (.lst [])
  have h1 : upd H lr (.lst []) lr = some (.lst []) := upd_same
  generalize upd H lr (.lst []) = H1 at s1 h1 ⊢
  have W1 := W0.same s1
  refine ⟨_, rfl, d, l, 4, rfl, W1.deal, by decide, by decide, fun n H2 n0 n1 D2 o2 => ?_⟩
  have W2 := W1.out D2 o2
  have h2 := deal_keep W1.deal h1 nlr o2
  have hk2 := deal_keep W1.deal (s1 _ _ hk) nk o2
  have oA := (Off.of (S := [d, l, sc]) s1).trans (Off.out (sc := sc) o2)
  refine ⟨n, rfl, by omega, by omega, for_rangeA (n := n.toNat) (fun i σ G => ∃ (rs : List Rw) (knc : Addr) (kc : List Str) (v7 v8 : Option V), σ = [some (.ref d), some (.ref sc), some (.ref knc), some (.int deep), some (.int tells), some (.int often), some (.ref lr), v7, v8] ∧ Wd G d l sc nl xs ∧ Off [d, l, sc] H G ∧ G lr = some (.lst (refs rs)) ∧ RwsH G rs ∧ cntL rs ≤ i * pb m ∧ depL rs ≤ m ∧ OkL xs rs ∧ (knc = kn ∨ H knc = none) ∧ knc ≠ l ∧ knc ≠ lr ∧ G knc = some (.lst (kc.map V.str)) ∧ (∀ y ∈ kc, y ∈ xs) ∧ kc.length ≤ ks.length + i * pb m)
    ⟨[], kn, ks, none, none, rfl, W2, oA, h2, trivial, Nat.zero_le _, Nat.zero_le _, OkL.nil, .inl rfl, nk, nlk, hk2, kx, Nat.le_add_right _ _⟩ ?_ ?_⟩
  · rintro D' i σ G hi ⟨rs, knc, kc, v7, v8, rfl, W3, o3, g1, hR, hc, hdp, hok, hq, nkl, nkr, gk, kxc, kl⟩
    have i1 : i + 1 ≤ 3 := by omega
    have mul1 : (i + 1) * pb m ≤ 3 * pb m := Nat.mul_le_mul_right _ i1
    have mul2 : (i + 1) * pb m = i * pb m + pb m := Nat.succ_mul _ _
    have li := len_cnt rs
    obtain ⟨rm, gr⟩ := W3.get_room
    refine ⟨_, rfl, sc, _, rfl, gr, _, _, rfl, rfl, _, rfl, ite2 (fun _ => ?_) (fun _ => ⟨rs, knc, kc, _, _, rfl, W3, o3, g1, hR, by omega, hdp, hok, hq, nkl, nkr, gk, kxc, by omega⟩)⟩
    obtain ⟨kv4, dp4, W4, o4⟩ := W3.put_room (rm - 1)
    refine ⟨_, rfl, sc, _, rfl, gr, _, _, rfl, rfl, _, rfl, sc, _, rfl, dp4, ?_⟩
    have g4 := W3.keep g1 nlr o4
    have gk4 := W3.keep gk nkl o4
    have hR4 := RwsH.ts (W3.ts o4) rs hR
    generalize upd G sc (.dK kv4) = H4 at W4 o4 g4 gk4 hR4 ⊢
    refine ⟨_, rfl, _, rfl, _, rfl, _, rfl, _, rfl, d, l, sc, nl, knc, xs, kc, deep, often, rfl, W4, gk4, nkl, kxc, by omega, hm, hd, fun p8 kn8 r8 k8 H8 W8 o8 h8 hr8 c8 dd8 ok8 q8 n8 hk8 kx8 kl8 => ?_⟩
    refine ⟨p8, _, rfl, SqT.of h8, rfl, _, _, rfl, _, _, rfl, rfl, ?_⟩
    have g8 := W4.keep g4 nlr o8
    have hR8 := RwsH.ts (W4.ts o8) rs hR4
    have n8r : kn8 ≠ lr := by
      rcases q8 with e | e
      · rw [e]; exact nkr
      · exact (ne_of_none g4 e).symm
    have n8f : kn8 = kn ∨ H kn8 = none := by
      rcases q8 with e | e
      · rw [e]; exact hq
      · exact .inr ((o3.trans o4).fresh W4.all e)
    refine ⟨_, rfl, .inl ⟨rfl, _, SqL.of g8⟩, _, rfl, lr, _, _, rfl, rfl, g8, big4 (by rw [refs_len]; omega), ?_⟩
    have W10 := W8.lst (zs := refs rs ++ [.ref r8.p]) g8 nlr nln
    have tsN := TS.lst (ys := refs rs ++ [.ref r8.p]) g8
    have gR : upd H8 lr (.lst (refs rs ++ [.ref r8.p])) lr = some (.lst (refs (rs ++ [r8]))) := by rw [upd_same, refs_app]; rfl
    refine ⟨rs ++ [r8], kn8, k8, _, _, rfl, W10, (o3.trans (o4.trans o8)).new hlr, gR, RwsH.app (RwsH.ts tsN rs hR8) ⟨RwH.ts tsN r8 hr8, trivial⟩, ?_, ?_, OkL.app hok ok8, n8f, n8, n8r, (upd_ne n8r).trans hk8, kx8, by omega⟩
    · rw [cntL_app]; simp only [cntL]; omega
    · rw [depL_app]; simp only [depL]; omega
  rintro σ G ⟨rs, knc, kc, v7, v8, rfl, W3, o3, g1, hR, hc, hdp, hok, hq, nkl, nkr, gk, kxc, kl⟩
  have mul1 : n.toNat * pb m ≤ 3 * pb m := Nat.mul_le_mul_right _ (by omega)
  have li := len_cnt rs
  refine ⟨_, rfl, _, rfl, tells, rfl, by omega, by omega, comp_range (n := tells.toNat) (fun i ys σ G => Wd G d l sc nl xs ∧ Off [d, l, sc] H G ∧ (∃ v, σ = [v, some (.ref d), some (.ref knc)]) ∧ G lr = some (.lst (refs rs)) ∧ G knc = some (.lst (kc.map V.str)) ∧ RwsH G rs ∧ ∃ ts : List Rw, ys = refs ts ∧ ts.length = i ∧ RwsH G ts ∧ cntL ts = i ∧ depL ts = 0 ∧ OkL xs ts)
    (small1000 (by omega)) ⟨W3, o3, ⟨_, rfl⟩, g1, gk, hR, [], rfl, rfl, trivial, rfl, rfl, OkL.nil⟩ (by rintro i ys σ G ⟨_, _, _, _, _, _, ts, e, e2, _⟩; rw [e, refs_len]; omega) ?_ ?_⟩
  · rintro i ys σ G' hi ⟨W7, o7, ⟨v, rfl⟩, g7, gk7, hR7, ts, rfl, hl, hT, hcT, hdT, okT⟩
    refine ⟨_, rfl, _, rfl, _, rfl, d, l, 5, rfl, W7.deal, by decide, by decide, fun y H8 y0 y1 D8 o8 => ⟨_, _, rfl, rfl, ?_⟩⟩
    have W8 := W7.out D8 o8
    have gk8 := deal_keep W7.deal gk7 nkl o8
    refine ⟨d, l, knc, kc, 1 + y, rfl, D8, gk8, nkl, by omega, by omega, by omega, by show 1 + y ≤ 7; omega, fun t H9 D9 o9 h9 nm9 sz9 => ⟨by show 2 ≤ sizeLine; decide, fun p hp => ?_⟩⟩
    have s10 := same_new hp (.tup [.str "tell", .ref t.p])
    have o79 : Off [d, l, sc] G' (upd H9 p (.tup [.str "tell", .ref t.p])) := (Off.out (sc := sc) o8).trans ((Off.out (sc := sc) o9).trans (.of s10))
    have ts79 := W7.ts o79
    refine ⟨(W8.out D9 o9).same s10, o7.trans o79, ⟨_, rfl⟩, W7.keep g7 nlr o79, W7.keep gk7 nkl o79, RwsH.ts ts79 rs hR7, ts ++ [.tell p t], by rw [refs_app]; rfl, by rw [List.length_append, hl]; rfl, RwsH.app (qs := [.tell p t]) (RwsH.ts ts79 ts hT) ⟨⟨upd_same, h9.ts (.of s10)⟩, trivial⟩, ?_, ?_, OkL.app okT (OkL.one (fun t' ht => ?_) OkL.nil)⟩
    · rw [cntL_app, hcT]; simp only [cntL, Rw.cnt]
    · rw [depL_app, hdT]; simp only [depL, dep]; omega
    · rw [List.mem_singleton.mp ht]
      exact ⟨by omega, fun y hy => kxc y (nm9 y hy)⟩
  rintro ys σ G' ⟨W7, o7, _, g7, gk7, hR7, ts, rfl, hl, hT, hcT, hdT, okT⟩ lx hlx
  have s8 := same_new hlx (.lst (refs ts))
  have h8 : upd G' lx (.lst (refs ts)) lx = some (.lst (refs ts)) := upd_same
  generalize upd G' lx (.lst (refs ts)) = H8 at s8 h8 ⊢
  refine ⟨lr, lx, _, _, rfl, rfl, s8 _ _ g7, h8, Nat.le_of_lt (big4 (by rw [refs_len, refs_len]; omega)), fun lz hlz => ?_⟩
  rw [← refs_app]
  have s9 := s8.trans (same_new hlz (.lst (refs (rs ++ ts))))
  have h9 : upd H8 lz (.lst (refs (rs ++ ts))) lz = some (.lst (refs (rs ++ ts))) := upd_same
  generalize upd H8 lz (.lst (refs (rs ++ ts))) = H9 at s9 h9 ⊢
  refine ⟨_, rfl, lz, _, rfl, .inl ⟨SqL.of h9, fun t ht => ⟨_, rfl, by show 2 ≤ sizeLine; decide, fun p hp => ?_⟩⟩⟩
  have sF := s9.trans ((same_new ht (.tup (refs (rs ++ ts)))).trans (same_new hp (.tup [.ref t, .ref knc])))
  refine k p t knc (rs ++ ts) kc _ (W7.same sF) (o7.trans (.of sF)) upd_same ((same_new hp _) _ _ upd_same) (RwsH.app (RwsH.ts (.of sF) rs hR7) (RwsH.ts (.of sF) ts hT)) ?_ ?_ (OkL.app hok okT) hq nkl (sF _ _ gk7) kxc (by omega)
  · rw [cntL_app]; omega
  · rw [depL_app, hdT]; omega
end
end Mine
namespace Mine
open PySem L2
section
variable {P : Program} {w : World} {K : PySem.W.Frag} {mg : Str → Option Value} {base : Heap}
theorem scPrg : FnScope ["_law_deal_here", "_law_kinds", "_law_throws", "_law_wide", "_law_words", "_law_many", "_law_world", "_law_x", "_law_tells", "_law_rows_here", "_law_known", "_law_first_one"] ["_law_deal_here", "_law_kinds", "_law_throws", "_law_wide"] (defScope sPrg) := ⟨rfl, rfl, rfl, by decide +kernel, rfl, by decide +kernel, by decide +kernel⟩
theorem ok_Prg {f : Addr} {fd : FuncData} (F : Fun K "_law_program" "_law_program" sPrg f fd)
    {f_Nms : Addr} {d_Nms : FuncData} (G_Nms : FnOk P w K mg base CX0 (2) f_Nms d_Nms ["_law_deal_here", "_law_many"] spNames) (b_Nms : Binds K d_Nms ["_law_deal_here", "_law_many"] []) (k_Nms : PySem.W.keepIn K (.ref f_Nms) = true) (m_Nms : mg "_law_names" = some (.ref f_Nms))
    {f_Thw : Addr} {d_Thw : FuncData} (G_Thw : FnOk P w K mg base CX0 (3) f_Thw d_Thw ["_law_deal_here", "_law_world", "_law_x"] spThrow) (b_Thw : Binds K d_Thw ["_law_deal_here", "_law_world", "_law_x"] []) (k_Thw : PySem.W.keepIn K (.ref f_Thw) = true) (m_Thw : mg "_law_throw" = some (.ref f_Thw))
    {f_Rws : Addr} {d_Rws : FuncData} (G_Rws : FnOk P w K mg base CX0 (17) f_Rws d_Rws ["_law_deal_here", "_law_world", "_law_known", "_law_deep", "_law_tells", "_law_often"] (spRows 3)) (b_Rws : Binds K d_Rws ["_law_deal_here", "_law_world", "_law_known", "_law_deep", "_law_tells", "_law_often"] []) (k_Rws : PySem.W.keepIn K (.ref f_Rws) = true) (m_Rws : mg "_law_rows" = some (.ref f_Rws))
    {f_Draw : Addr} {d_Draw : FuncData} (G_Draw : FnOk P w K mg base CX0 (1) f_Draw d_Draw ["_law_deal_here", "_law_many"] spDraw) (b_Draw : Binds K d_Draw ["_law_deal_here", "_law_many"] []) (k_Draw : PySem.W.keepIn K (.ref f_Draw) = true) (m_Draw : mg "_law_draw" = some (.ref f_Draw))
    (m_tuple : mg "tuple" = none) :
    FnOk P w K mg base CX0 (18) f fd ["_law_deal_here", "_law_kinds", "_law_throws", "_law_wide"] spPrg := by
  refine F.ok scPrg (fun vs H Q E h => ?_) (fun cdv A outer s H vs Q E hr h => ?_)
  · obtain ⟨d, l, rfl, _⟩ := h
    rfl
  obtain ⟨d, l, rfl, D, k⟩ := h
  have hu := hu_of hr
  have hr1 : Room 1 _ := hr.mono (by decide)
  have hr2 : Room 2 _ := hr.mono (by decide)
  have hr3 : Room 3 _ := hr.mono (by decide)
  have hr17 : Room 17 _ := hr.mono (by decide)
  refine ⟨_, (pss_cons (ps_set (i := 4) scPrg.nd rfl (Or.inl rfl) (pe_call G_Nms hr2 (by rfl) m_Nms k_Nms b_Nms .nil pass0 (pa_cons (pv 0) (pa_cons pe_int pa_nil))))
    (pss_cons (ps_set (i := 5) scPrg.nd rfl (Or.inl rfl) (pe_op op_add pe_int (pe_call G_Draw hr1 (by rfl) m_Draw k_Draw b_Draw .nil pass0 (pa_cons (pv 0) (pa_cons (pv 1) pa_nil)))))
    (pss_cons (ps_set (i := 6) scPrg.nd rfl (Or.inl rfl) (pe_disp (pps_cons pe_str (pe_slice sl_list (pv 4) (po_some pe_int) po_none) (pps_cons pe_str (pv 5) (pps_cons pe_str (pv 3) (pps_cons pe_str (pv 2) (pps_cons pe_str pe_int (pps_cons pe_str pe_bl (pps_cons pe_str (pv 2) pps_nil))))))) rfl rfl (by decide) (by decide)))
    (pss_cons (ps_set (i := 7) scPrg.nd rfl (Or.inl rfl) (pe_ix ix_list (pv 4) pe_int (fun _ _ => rfl)))
    (pss_cons (ps_set (i := 8) scPrg.nd rfl (Or.inl rfl) (pe_op op_add pe_int (pe_call G_Draw hr1 (by rfl) m_Draw k_Draw b_Draw .nil pass0 (pa_cons (pv 0) (pa_cons pe_int pa_nil)))))
    (pss_cons (ps_dput hu (pv 6) pe_str (pe_op op_sub (pe_op op_sub (pe_dget hu (pv 6) pe_str (fun _ _ => rfl)) pe_int) (pv 8)) rfl)
    (pss_cons (ps_if (pt_cmpR op_eq (pe_call G_Draw hr1 (by rfl) m_Draw k_Draw b_Draw .nil pass0 (pa_cons (pv 0) (pa_cons pe_int pa_nil))) pe_int (nomark _)) (pss_cons (ps_asg (pe_call G_Rws hr17 (by rfl) m_Rws k_Rws b_Rws .nil pass0 (pa_cons (pv 0) (pa_cons (pv 6) (pa_cons (pe_lst (pa_cons (pv 7) pa_nil)) (pa_cons pe_int (pa_cons (pv 8) (pa_cons pe_int pa_nil))))))) (pg_tup rfl (pgs_cons (pg_name (i := 9) scPrg.nd rfl (Or.inl rfl)) (pgs_cons (pg_name (i := 10) scPrg.nd rfl (Or.inl rfl)) pgs_nil))))
    (pss_one (ps_ret (pe_tup (pa_cons (pe_callTy call_tuple_of (by rfl) m_tuple PyProof.Rows.boot_tuple (pa_cons (pe_slice sl_list (pv 4) po_none (po_some (pv 5))) pa_nil)) (pa_cons (pe_op op_catA (pe_tup (pa_cons (pe_tup (pa_cons pe_str (pa_cons (pv 7) (pa_cons (pe_tup (pa_cons pe_str (pa_cons (pe_call G_Draw hr1 (by rfl) m_Draw k_Draw b_Draw .nil pass0 (pa_cons (pv 0) (pa_cons pe_int pa_nil))) pa_nil))) pa_nil)))) pa_nil)) (pv 9)) pa_nil)))))) pss_nil)
    (pss_cons (ps_dput hu (pv 6) pe_str (pe_op op_sub (pe_dget hu (pv 6) pe_str (fun _ _ => rfl)) pe_int) rfl)
    (pss_cons (ps_set (i := 11) scPrg.nd rfl (Or.inl rfl) (pe_call G_Thw hr3 (by rfl) m_Thw k_Thw b_Thw .nil pass0 (pa_cons (pv 0) (pa_cons (pv 6) (pa_cons (pv 7) pa_nil)))))
    (pss_cons (ps_asg (pe_call G_Rws hr17 (by rfl) m_Rws k_Rws b_Rws .nil pass0 (pa_cons (pv 0) (pa_cons (pv 6) (pa_cons (pe_lst (pa_cons (pv 7) pa_nil)) (pa_cons pe_int (pa_cons (pv 8) (pa_cons pe_int pa_nil))))))) (pg_tup rfl (pgs_cons (pg_name (i := 9) scPrg.nd rfl (Or.inl rfl)) (pgs_cons (pg_name (i := 10) scPrg.nd rfl (Or.inl rfl)) pgs_nil))))
    (pss_one (ps_ret (pe_tup (pa_cons (pe_callTy call_tuple_of (by rfl) m_tuple PyProof.Rows.boot_tuple (pa_cons (pe_slice sl_list (pv 4) po_none (po_some (pv 5))) pa_nil)) (pa_cons (pe_op op_catA (pe_tup (pa_cons (pv 11) pa_nil)) (pv 9)) pa_nil))))))))))))))), ?_⟩
  refine ⟨_, rfl, d, l, 7, rfl, D, by decide, by decide, fun rk xw H1 D1 o1 fk hk1 lk1 so1 => ?_⟩
  have nrk := (deal_new D fk).2
  refine ⟨_, rfl, _, rfl, d, l, 3, rfl, D1, by decide, by decide, fun m1 H2 a0 a1 D2 o2 => ⟨_, _, rfl, rfl, ?_⟩⟩
  have rk2 := deal_keep D1 hk1 nrk o2
  obtain ⟨x, ys, ecut, ly, eat⟩ := cut3 (xs := xw) (by omega)
  have xin : ∀ y ∈ x :: ys, y ∈ xw := by
    obtain ⟨zs, e1, _, e3⟩ := cut_texts xw (some 3) none
    rw [ecut] at e1
    intro y hy
    have : V.str y ∈ (zs.map V.str) := by rw [← e1]; exact List.mem_map.mpr ⟨y, hy, rfl⟩
    obtain ⟨z, hz, e⟩ := List.mem_map.mp this
    injection e with e
    rw [← e]; exact e3 z hz
  have soX : ∀ y ∈ x :: ys, Lt y := fun y hy => so1 y (xin y hy)
  refine fun sc hsc => ?_
  have sc0 : H sc = none := out_fresh D2 (o1.trans o2) hsc
  have nsd := (deal_new D2 hsc).1
  have s3 := same_new hsc (.dK [])
  have h3 : upd H2 sc (.dK []) sc = some (.dK []) := upd_same
  generalize upd H2 sc (.dK []) = H3 at s3 h3 ⊢
  refine ⟨_, rfl, 3, rfl, rk, _, rfl, SqL.of (s3 _ _ rk2), fun nl hnl => ?_⟩
  rw [ecut]
  have nnl := (deal_new (D2.same s3) hnl).2
  have s4 := same_new hnl (.lst ((x :: ys).map V.str))
  have h4 : upd H3 nl (.lst ((x :: ys).map V.str)) nl = some (.lst ((x :: ys).map V.str)) := upd_same
  have h34 := s4 _ _ h3
  generalize upd H3 nl (.lst ((x :: ys).map V.str)) = H4 at s4 h4 h34 ⊢
  refine ⟨_, rfl, _, rfl, _, rfl, _, rfl, h34, worldK nl (1 + m1), rfl, by show 7 ≤ 15; decide, ?_⟩
  have wk := world_ok nl (kd := 1 + m1) (by omega) (by omega)
  generalize mergeK [] (worldK nl (1 + m1)) = kv5 at wk ⊢
  have n54 : nl ≠ sc := ne_of h4 h34 (by intro z; cases z)
  have D4 := (D2.same s3).same s4
  have o5 : Out d l H (upd H4 sc (.dK kv5)) := fun b u e n1 n2 => by
    rw [upd_ne (fun z => by rw [z, sc0] at e; cases e)]
    exact (s3.trans s4) _ _ ((o1.trans o2) b u e n1 n2)
  have W5 : Wd (upd H4 sc (.dK kv5)) d l sc nl (x :: ys) := by
    obtain ⟨sd, kk, ls, z⟩ := id D4
    refine ⟨⟨sd, kk, ls, ⟨by rw [upd_ne nsd.symm]; exact z.dc, by rw [upd_ne (ne_of z.lc h34 (by intro z; cases z))]; exact z.lc, z.s0, z.s1, z.n0, z.l0⟩⟩, ⟨kv5, upd_same, wk⟩, by rw [upd_ne n54]; exact h4, nsd, nnl, by simp, by rw [List.length_cons, ly]; decide⟩
  have rk4 := (s3.trans s4) _ _ rk2
  have rk5 : upd H4 sc (.dK kv5) rk = some (.lst (xw.map V.str)) := by rw [upd_ne (ne_of rk4 h34 (by intro z; cases z))]; exact rk4
  generalize upd H4 sc (.dK kv5) = H5 at o5 W5 rk5 ⊢
  refine ⟨_, rfl, rk, _, _, .str x, rfl, rfl, SqL.of rk5, eat, ?_⟩
  refine ⟨_, rfl, d, l, 2, rfl, W5.deal, by decide, by decide, fun tz H6 t0 t1 D6 o6 => ⟨_, _, rfl, rfl, ?_⟩⟩
  have W6 := W5.out D6 o6
  have rk6 := deal_keep W5.deal rk5 nrk o6
  obtain ⟨rm, gr⟩ := W6.get_room
  obtain ⟨kv7, dp7, W7, o7⟩ := W6.put_room (rm - 1 - (1 + tz))
  refine ⟨_, rfl, sc, _, rfl, gr, _, _, rfl, rfl, _, rfl, _, _, rfl, rfl, _, rfl, sc, _, rfl, dp7, ?_⟩
  have rk7 := W6.keep rk6 nrk o7
  have oo7 := out_off (o5.trans o6) sc0 o7
  generalize upd H6 sc (.dK kv7) = H7 at W7 rk7 oo7 ⊢
  refine ⟨_, rfl, d, l, 3, rfl, W7.deal, by decide, by decide, fun zz H8 _ _ D8 o8 => ⟨rfl, _, rfl, ?_⟩⟩
  have W8 := W7.out D8 o8
  have rk8 := deal_keep W7.deal rk7 nrk o8
  have oo8 := oo7.trans o8
  clear W7 rk7 oo7 o8 D8 W6 rk6 dp7 gr o7 W5 rk5 o5 D6 o6 rk4 D4 h34 h4 s4 s3 h3 wk ecut eat
  refine ite2 (fun _ => ?_) (fun _ => ?_)
  · have WX := W8
    have rkX := rk8
    have oX := oo8
    clear W8 rk8 oo8
    generalize H8 = HX at WX rkX oX ⊢
    refine ⟨_, rfl, _, rfl, _, rfl, by show 1 ≤ sizeLine; decide, fun kn hkn => ?_⟩
    have nkl := (deal_new WX.deal hkn).2
    have sY := same_new hkn (.lst [.str x])
    have hY : upd HX kn (.lst [.str x]) kn = some (.lst (([x] : List Str).map V.str)) := upd_same
    have WY := WX.same sY
    have rkY := sY _ _ rkX
    have oY := oX.trans (Out.of (d := d) (l := l) sY)
    generalize upd HX kn (.lst [.str x]) = HY at sY hY WY rkY oY ⊢
    refine ⟨_, rfl, d, l, sc, nl, kn, x :: ys, [x], 3, 1 + tz, 1, rfl, WY, hY, nkl, (fun y hy => by rw [List.mem_singleton.mp hy]; exact List.mem_cons_self), (by show 1 + 1295 ≤ 5000; decide), by omega, by omega, by decide, rfl, fun pA prA knA rsA kA HA WA oA hA hpA hrA cA dA okA qA nA hkA kxA klA => ?_⟩
    refine ⟨pA, _, rfl, SqT.of hA, rfl, _, _, rfl, _, _, rfl, rfl, ?_⟩
    have cA : cntL rsA ≤ 1295 := cA
    have rkA := WY.keep rkY nrk oA
    have tsA := WY.ts oA
    have oZ := out_off oY sc0 oA
    refine ⟨_, rfl, _, rfl, _, rfl, rk, _, rfl, SqL.of rkA, fun l6 hl6 => ⟨l6, _, rfl, .inl ⟨SqL.of upd_same, fun t7 ht7 => ?_⟩⟩⟩
    have s7 := (same_new hl6 (.lst (cutV (xw.map V.str) none (some (1 + m1))))).trans (same_new ht7 (.tup (cutV (xw.map V.str) none (some (1 + m1)))))
    generalize upd (upd HA l6 (.lst (cutV (xw.map V.str) none (some (1 + m1))))) t7 (.tup (cutV (xw.map V.str) none (some (1 + m1)))) = H7 at s7 ⊢
    have D7 := WA.deal.same s7
    have o7 := oZ.trans (Out.of (d := d) (l := l) s7)
    refine ⟨_, rfl, _, rfl, d, l, 4, rfl, D7, by decide, by decide, fun nm H9 b0 b1 D9 o9 => ⟨by show 2 ≤ sizeLine; decide, fun q1 hq1 => ⟨by show 3 ≤ sizeLine; decide, fun q2 hq2 => ⟨by show 1 ≤ sizeLine; decide, fun q3 hq3 => ?_⟩⟩⟩⟩
    have sA1 := same_new hq1 (.tup [.str "num", .int nm])
    have gA1 : upd H9 q1 (.tup [.str "num", .int nm]) q1 = some (.tup [.str "num", .int nm]) := upd_same
    generalize upd H9 q1 (.tup [.str "num", .int nm]) = HB1 at sA1 gA1 hq2 hq3 ⊢
    have sA2 := same_new hq2 (.tup [.str "let", .str x, .ref q1])
    have gA2 : upd HB1 q2 (.tup [.str "let", .str x, .ref q1]) q2 = some (.tup [.str "let", .str x, .ref q1]) := upd_same
    generalize upd HB1 q2 (.tup [.str "let", .str x, .ref q1]) = HB2 at sA2 gA2 hq3 ⊢
    have sA3 := same_new hq3 (.tup [.ref q2])
    have gA3 : upd HB2 q3 (.tup [.ref q2]) q3 = some (.tup [.ref q2]) := upd_same
    generalize upd HB2 q3 (.tup [.ref q2]) = HB3 at sA3 gA3 ⊢
    have sB := sA1.trans (sA2.trans sA3)
    have tB : TS HA HB3 := (TS.of s7).trans ((TS.out D7 o9).trans (.of sB))
    refine ⟨_, rfl, q3, prA, [.ref q2], refs rsA, rfl, rfl, gA3, tB _ _ hpA, Nat.le_of_lt (big4 (by rw [refs_len]; have := len_cnt rsA; show 1 + rsA.length ≤ _; omega)), fun rz HC sC hC => ⟨by show 2 ≤ sizeLine; decide, fun p hp => ?_⟩⟩
    have sD := sC.trans (same_new hp (.tup [.ref t7, .ref rz]))
    refine k p (x :: ys) (.lt q2 x (.num q1 nm) :: rsA) _ ((D9.same sB).same sD) (o7.trans (o9.trans (.of (sB.trans sD)))) ⟨⟨_, rz, upd_same, (same_new hp _) _ _ hC⟩, ⟨⟨(sA3.trans sD) _ _ gA2, (sA2.trans (sA3.trans sD)) _ _ gA1⟩, RwsH.ts (tB.trans (.of sD)) _ hrA⟩, ?_, ?_, OkL.app (rs := [.lt q2 x (.num q1 nm)]) (OkL.one (fun t ht => ?_) OkL.nil) okA, by rw [List.length_cons, ly]; decide, soX⟩
    · show 1 + cntL rsA ≤ 1300
      omega
    · show max 0 (depL rsA) ≤ 3
      omega
    · rw [List.mem_singleton.mp ht]
      exact ⟨by show 1 ≤ 7; decide, fun y hy => absurd hy List.not_mem_nil⟩
  · obtain ⟨lf, gl⟩ := W8.get_left
    obtain ⟨kv9, dp9, W9, o9⟩ := W8.put_left (lf - 1)
    refine ⟨_, rfl, sc, _, rfl, gl, _, _, rfl, rfl, _, rfl, sc, _, rfl, dp9, ?_⟩
    have rk9 := W8.keep rk8 nrk o9
    have oo9 := out_off oo8 sc0 o9
    generalize upd H8 sc (.dK kv9) = H9 at W9 rk9 oo9 ⊢
    obtain ⟨kvs, hscv, wk9⟩ := W9.scn
    refine ⟨_, rfl, _, rfl, _, rfl, d, l, sc, kvs, x, rfl, W9.deal, hscv, ⟨wk9.wd, wk9.kd⟩, W9.ne1, fun pt w ws HX DX oX1 hX okX => ?_⟩
    have WX := W9.out DX oX1
    have rkX := deal_keep W9.deal rk9 nrk oX1
    have oX := oo9.trans oX1
    clear W9 rk9 oo9 W8 rk8 oo8 o9 dp9 gl hscv
    refine ⟨_, rfl, _, rfl, _, rfl, by show 1 ≤ sizeLine; decide, fun kn hkn => ?_⟩
    have nkl := (deal_new WX.deal hkn).2
    have sY := same_new hkn (.lst [.str x])
    have hY : upd HX kn (.lst [.str x]) kn = some (.lst (([x] : List Str).map V.str)) := upd_same
    have WY := WX.same sY
    have rkY := sY _ _ rkX
    have oY := oX.trans (Out.of (d := d) (l := l) sY)
    generalize upd HX kn (.lst [.str x]) = HY at sY hY WY rkY oY ⊢
    refine ⟨_, rfl, d, l, sc, nl, kn, x :: ys, [x], 3, 1 + tz, 1, rfl, WY, hY, nkl, (fun y hy => by rw [List.mem_singleton.mp hy]; exact List.mem_cons_self), (by show 1 + 1295 ≤ 5000; decide), by omega, by omega, by decide, rfl, fun pA prA knA rsA kA HA WA oA hA hpA hrA cA dA okA qA nA hkA kxA klA => ?_⟩
    refine ⟨pA, _, rfl, SqT.of hA, rfl, _, _, rfl, _, _, rfl, rfl, ?_⟩
    have cA : cntL rsA ≤ 1295 := cA
    have rkA := WY.keep rkY nrk oA
    have tsA := WY.ts oA
    have oZ := out_off oY sc0 oA
    refine ⟨_, rfl, _, rfl, _, rfl, rk, _, rfl, SqL.of rkA, fun l6 hl6 => ⟨l6, _, rfl, .inl ⟨SqL.of upd_same, fun t7 ht7 => ?_⟩⟩⟩
    have s7 := (same_new hl6 (.lst (cutV (xw.map V.str) none (some (1 + m1))))).trans (same_new ht7 (.tup (cutV (xw.map V.str) none (some (1 + m1)))))
    generalize upd (upd HA l6 (.lst (cutV (xw.map V.str) none (some (1 + m1))))) t7 (.tup (cutV (xw.map V.str) none (some (1 + m1)))) = H7 at s7 ⊢
    have D7 := WA.deal.same s7
    have o7 := oZ.trans (Out.of (d := d) (l := l) s7)
    refine ⟨_, rfl, by show 1 ≤ sizeLine; decide, fun q3 hq3 => ?_⟩
    have sA3 := same_new hq3 (.tup [.ref pt])
    have gA3 : upd H7 q3 (.tup [.ref pt]) q3 = some (.tup [.ref pt]) := upd_same
    generalize upd H7 q3 (.tup [.ref pt]) = HB3 at sA3 gA3 ⊢
    have tB : TS HA HB3 := (TS.of s7).trans (.of sA3)
    have tX : TS HX HB3 := (TS.of sY).trans (tsA.trans tB)
    refine ⟨_, rfl, q3, prA, [.ref pt], refs rsA, rfl, rfl, gA3, tB _ _ hpA, Nat.le_of_lt (big4 (by rw [refs_len]; have := len_cnt rsA; show 1 + rsA.length ≤ _; omega)), fun rz HC sC hC => ⟨by show 2 ≤ sizeLine; decide, fun p hp => ?_⟩⟩
    have sD := sC.trans (same_new hp (.tup [.ref t7, .ref rz]))
    refine k p (x :: ys) (.thr pt w x ws :: rsA) _ ((D7.same sA3).same sD) (o7.trans (.of (sA3.trans sD))) ⟨⟨_, rz, upd_same, (same_new hp _) _ _ hC⟩, ⟨⟨(tX.trans (.of sD)) _ _ hX, okX⟩, RwsH.ts (tB.trans (.of sD)) _ hrA⟩, ?_, ?_, OkL.app (rs := [.thr pt w x ws]) (OkL.one (fun t ht => absurd ht List.not_mem_nil) OkL.nil) okA, by rw [List.length_cons, ly]; decide, soX⟩
    · show 1 + cntL rsA ≤ 1300
      omega
    · show max 0 (depL rsA) ≤ 3
      omega
end
end Mine
namespace Mine
open PySem L2
section
variable {P : Program} {w : World} {K : PySem.W.Frag} {mg : Str → Option Value} {base : Heap}
theorem scLst : FnScope ["_law_rows_here", "_law_found", "_law_row_here", "_law_inner"] ["_law_rows_here"] (defScope sLst) := ⟨rfl, rfl, rfl, by decide +kernel, rfl, by decide +kernel, by decide +kernel⟩
theorem ok_Lst (n : Nat) {f : Addr} {fd : FuncData} (F : Fun K "_law_listed" "_law_listed" sLst f fd)
    {f_Lst : Addr} {d_Lst : FuncData} (G_Lst : FnOk P w K mg base CX0 (n + 1) f_Lst d_Lst ["_law_rows_here"] (spLst n)) (b_Lst : Binds K d_Lst ["_law_rows_here"] []) (k_Lst : PySem.W.keepIn K (.ref f_Lst) = true) (m_Lst : mg "_law_listed" = some (.ref f_Lst))
     :
    FnOk P w K mg base CX0 (n + 1 + 1) f fd ["_law_rows_here"] (spLst (n + 1)) := by
  refine F.ok scLst (fun vs H Q E h => ?_) (fun cdv A outer s H vs Q E hr h => ?_)
  · obtain ⟨p, rs, rfl, _⟩ := h
    rfl
  obtain ⟨p, rs, rfl, hp, hR, hc, hdp, k⟩ := h
  have hu := hu_of hr
  have hr1 : Room 1 _ := hr.mono (by omega)
  have hr_Lst : Room (n + 1) _ := hr.mono (by omega)
  refine ⟨_, (pss_cons (ps_set (i := 1) scLst.nd rfl (Or.inl rfl) (pe_lst pa_nil))
    (pss_cons (ps_for PassesOwn.never rfl (pi_tup (pv 0)) (pg_name (i := 2) scLst.nd rfl (Or.inl rfl))
    (pss_cons (ps_expr (pe_bm PySem.F.plainAttrs_list PySem.F.slot_list_append PySem.F.type_list_append mt_append (pv 1) (pa_cons (pv 2) pa_nil)))
    (pss_one (ps_if (pt_cmpR op_in_seq (pe_ix ix_tup (pv 2) pe_int (fun _ _ => rfl)) (pe_tup (pa_cons pe_str (pa_cons pe_str pa_nil))) rfl) (pss_one (ps_for PassesOwn.never rfl (pi_tup (pe_slice sl_tup (pv 2) (po_some pe_int) po_none)) (pg_name (i := 3) scLst.nd rfl (Or.inl rfl))
    (pss_one (ps_expr (pe_bm PySem.F.plainAttrs_list PySem.F.slot_list_extend PySem.F.type_list_extend mt_extend (pv 1) (pa_cons (pe_call G_Lst hr_Lst (by rfl) m_Lst k_Lst b_Lst .nil pass0 (pa_cons (pv 3) pa_nil)) pa_nil)))))) pss_nil))))
    (pss_one (ps_ret (pv 1))))), ?_⟩
  refine ⟨Nat.zero_le _, fun lf hlf => ?_⟩
  have s1 := same_new hlf (.lst [])
  have h1 : upd H lf (.lst []) lf = some (.lst []) := upd_same
  generalize upd H lf (.lst []) = H1 at s1 h1 ⊢
  refine ⟨_, rfl, p, rfl, ⟨_, SqT.of (s1 _ _ hp)⟩, for_tupA (K := K) (a := p) (xs := refs rs) (fun i σ G => ∃ (v2 v3 : Option V), σ = [some (.ref p), some (.ref lf), v2, v3] ∧ Same H G ∧ G lf = some (.lst (refs (flatL (rs.take i)))))
    ⟨_, _, rfl, s1, h1⟩ (by rintro i σ G _ ⟨_, _, _, e, _⟩; exact SqT.of (e _ _ hp)) ?_ ?_⟩
  · rintro D' i v σ G hv ⟨v2, v3, rfl, s2, g2⟩
    obtain ⟨r, rfl, hr0⟩ := refs_at hv
    have mr := List.mem_of_getElem? hr0
    have ct := cnt_take (rs := rs) i
    have c1 := cnt_take (rs := rs) (i + 1)
    rw [← flatL_len, flat_take hr0, List.length_append, List.length_cons] at c1
    have fl := flatL_len (rs.take i)
    refine ⟨_, rfl, .inl ⟨rfl, _, SqL.of g2⟩, _, rfl, lf, _, _, rfl, rfl, g2, big4 (by rw [refs_len]; omega), ?_⟩
    have s3 := same_lst (ys := refs (flatL (rs.take i)) ++ [.ref r.p]) s2 hlf
    have g3 : upd G lf (.lst (refs (flatL (rs.take i)) ++ [.ref r.p])) lf = some (.lst (refs (flatL (rs.take i) ++ [r]))) := by rw [upd_same, refs_app]; rfl
    generalize upd G lf (.lst (refs (flatL (rs.take i)) ++ [.ref r.p])) = G3 at s3 g3 ⊢
    have hr1 := RwH.ts (.of s3) r (hR.mem r mr)
    refine ⟨_, rfl, r.p, _, _, .str r.w, rfl, rfl, SqT.of hr1.at, at0, by show 2 ≤ sizeLine; decide, fun t4 ht4 => ?_⟩
    have s4 := s3.trans (same_new ht4 (.tup [.str "when", .str "times"]))
    have g4 := (same_new ht4 (.tup [.str "when", .str "times"])) _ _ g3
    refine ⟨t4, [.str "when", .str "times"], rfl, .inr (SqT.of upd_same), rfl, by decide, _, rfl, ?_⟩
    generalize upd G3 t4 (.tup [.str "when", .str "times"]) = G4 at s4 g4 ⊢
    have hr4 := RwH.ts (.of s4) r (hR.mem r mr)
    have ei : inV (V.str r.w) [.str "when", .str "times"] = decide (r.w ∈ (["when", "times"] : List Str)) := inV_strs _ ["when", "times"]
    rw [flat_take hr0]
    by_cases c : r.w ∈ (["when", "times"] : List Str)
    · refine iteP (ei.trans (decide_eq_true c)) ?_
      obtain ⟨v0, hrow, inn⟩ := inn_in hr4 c
      have dr := dep_mem mr
      have cr := cnt_mem mr
      refine ⟨_, rfl, 2, rfl, r.p, _, rfl, SqT.of hrow, cut_two_ne _ _ _, fun t5 ht5 => ?_⟩
      rw [cut_two]
      have s5 := s4.trans (same_new ht5 (.tup (r.inn.map fun e => V.ref e.1)))
      have h5 : upd G4 t5 (.tup (r.inn.map fun e => V.ref e.1)) t5 = some (.tup (r.inn.map fun e => V.ref e.1)) := upd_same
      have g5 := (same_new ht5 (.tup (r.inn.map fun e => V.ref e.1))) _ _ g4
      have t45 := TS.of (same_new ht5 (.tup (r.inn.map fun e => V.ref e.1)))
      have n5 : lf ≠ t5 := ne_of_none g4 ht5
      generalize upd G4 t5 (.tup (r.inn.map fun e => V.ref e.1)) = G5 at s5 h5 g5 t45 ⊢
      refine ⟨t5, rfl, ⟨_, SqT.of h5⟩, for_tupA (K := K) (a := t5) (xs := r.inn.map fun e => V.ref e.1) (fun j σ G => ∃ (v3 : Option V), σ = [some (.ref p), some (.ref lf), some (.ref r.p), v3] ∧ Same H G ∧ TS G5 G ∧ G lf = some (.lst (refs (flatL (rs.take i) ++ [r] ++ (r.inn.take j).flatMap fun e => flatL e.2))))
        ⟨_, rfl, s5, fun _ _ e => e, by rw [g5]; simp⟩ (by rintro j σ G _ ⟨_, _, _, e, _⟩; exact SqT.of (e _ _ h5)) ?_ ?_⟩
      · rintro D2 j v σ G6 hv ⟨v3, rfl, s6, t6, g6⟩
        obtain ⟨e, rfl, he⟩ : ∃ e, v = V.ref e.1 ∧ r.inn[j]? = some e := by
          rw [List.getElem?_map] at hv
          cases q : r.inn[j]? with
          | none => rw [q] at hv; cases hv
          | some e => rw [q] at hv; exact ⟨e, (Option.some.inj hv).symm, rfl⟩
        obtain ⟨i1, i2, i3, i4⟩ := inn e (List.mem_of_getElem? he)
        have fe : (r.inn.take (j + 1)).flatMap (fun e => flatL e.2) = (r.inn.take j).flatMap (fun e => flatL e.2) ++ flatL e.2 := by
          rw [take_snoc he, List.flatMap_append]
          simp
        have tt := t45.trans t6
        cases n with
        | zero => exact absurd hdp (by omega)
        | succ n =>
        refine ⟨_, rfl, .inl ⟨rfl, _, SqL.of g6⟩, _, rfl, e.1, e.2, rfl, tt _ _ i1, RwsH.ts tt _ i2, by omega, by omega, fun r7 H7 s7 n7 h7 => ?_⟩
        refine ⟨lf, r7, _, _, rfl, rfl, s7 _ _ g6, h7, Nat.le_of_lt (big4 ?_), _, rfl, same_lst (s6.trans s7) hlf, t6.trans ((TS.of s7).trans (TS.lst (s7 _ _ g6))), ?_⟩
        · have z := inn_flat r
          have z2 := congrArg List.length z
          have z3 : ((r.inn.take j).flatMap fun e => flatL e.2).length ≤ (r.inn.flatMap fun e => flatL e.2).length := by
            have q : r.inn = r.inn.take j ++ r.inn.drop j := (List.take_append_drop _ _).symm
            have q2 := congrArg (fun l => (l.flatMap fun e => flatL e.2).length) q
            simp only [List.flatMap_append, List.length_append] at q2
            omega
          have z4 := flatL_len e.2
          simp only [refs_len, List.length_append, List.length_cons, List.length_nil]
          omega
        · rw [upd_same, ← refs_app, fe, List.append_assoc _ _ (flatL e.2)]
      · rintro σ G6 ⟨v3, rfl, s6, t6, g6⟩
        rw [List.length_map, List.take_length] at g6
        refine ⟨_, _, rfl, s6, ?_⟩
        rw [g6, ← inn_flat, List.append_assoc]
        rfl
    · refine iteN (fun z => c (of_decide_eq_true (ei.symm.trans z))) ?_
      refine ⟨_, _, rfl, s4, ?_⟩
      rw [inn_out c]
      exact g4
  · rintro σ G ⟨v2, v3, rfl, s2, g2⟩
    rw [refs_len, List.take_length] at g2
    exact ⟨_, rfl, k lf G s2 hlf g2⟩
theorem scNin : FnScope ["_law_term_here"] ["_law_term_here"] (defScope sNin) := ⟨rfl, rfl, rfl, by decide +kernel, rfl, by decide +kernel, by decide +kernel⟩
theorem ok_Nin (n : Nat) {f : Addr} {fd : FuncData} (F : Fun K "_law_names_in" "_law_names_in" sNin f fd)
    {f_Nin : Addr} {d_Nin : FuncData} (G_Nin : FnOk P w K mg base CX0 (n + 1) f_Nin d_Nin ["_law_term_here"] (spNin n)) (b_Nin : Binds K d_Nin ["_law_term_here"] []) (k_Nin : PySem.W.keepIn K (.ref f_Nin) = true) (m_Nin : mg "_law_names_in" = some (.ref f_Nin))
     :
    FnOk P w K mg base CX0 (n + 1 + 1) f fd ["_law_term_here"] (spNin (n + 1)) := by
  refine F.ok scNin (fun vs H Q E h => ?_) (fun cdv A outer s H vs Q E hr h => ?_)
  · obtain ⟨t, rfl, _⟩ := h
    rfl
  obtain ⟨t, rfl, ht, h7, hn, k⟩ := h
  have hu := hu_of hr
  have hr1 : Room 1 _ := hr.mono (by omega)
  have hr_Nin : Room (n + 1) _ := hr.mono (by omega)
  refine ⟨_, (pss_cons (ps_if (pt_cmpR op_eq (pe_ix ix_tup (pv 0) pe_int (fun _ _ => rfl)) pe_str (nomark _)) (pss_one (ps_ret (pe_lst (pa_cons (pe_ix ix_tup (pv 0) pe_int (fun _ _ => rfl)) pa_nil)))) pss_nil)
    (pss_cons (ps_if (pt_cmpR op_eq (pe_ix ix_tup (pv 0) pe_int (fun _ _ => rfl)) pe_str (nomark _)) (pss_one (ps_ret (pe_op op_cat (pe_call G_Nin hr_Nin (by rfl) m_Nin k_Nin b_Nin .nil pass0 (pa_cons (pe_ix ix_tup (pv 0) pe_int (fun _ _ => rfl)) pa_nil)) (pe_call G_Nin hr_Nin (by rfl) m_Nin k_Nin b_Nin .nil pass0 (pa_cons (pe_ix ix_tup (pv 0) pe_int (fun _ _ => rfl)) pa_nil))))) pss_nil)
    (pss_one (ps_ret (pe_lst pa_nil))))), ?_⟩
  refine ⟨_, rfl, t.p, _, _, .str t.w, rfl, rfl, SqT.of ht.at, at0, rfl, _, rfl, ?_⟩
  generalize hP : t.p = P
  cases t with
  | nam p x =>
    obtain rfl : p = P := hP
    refine iteP (decide_eq_true rfl) ?_
    exact ⟨_, rfl, p, _, _, .str x, rfl, rfl, SqT.of ht, rfl, by show 1 ≤ sizeLine; decide, fun l hl => k l _ (same_new hl _) upd_same⟩
  | num p m =>
    obtain rfl : p = P := hP
    refine iteN (fun z => wMN (of_decide_eq_true z)) ?_
    refine ⟨_, rfl, p, _, _, .str "num", rfl, rfl, SqT.of ht, rfl, rfl, _, rfl, ?_⟩
    refine iteN (fun z => wNum (of_decide_eq_true z)) ?_
    exact ⟨Nat.zero_le _, fun l hl => k l _ (same_new hl _) upd_same⟩
  | op p s a b =>
    obtain rfl : p = P := hP
    refine iteN (fun z => wOM (of_decide_eq_true z)) ?_
    refine ⟨_, rfl, p, _, _, .str "op", rfl, rfl, SqT.of ht.1, rfl, rfl, _, rfl, ?_⟩
    refine iteP (decide_eq_true rfl) ?_
    have a1 := a.size_pos
    have b1 := b.size_pos
    have an := a.names_len
    have bn := b.names_len
    simp only [Tm.size] at h7 hn
    cases n with
    | zero => exact absurd hn (by omega)
    | succ n =>
    refine ⟨_, rfl, p, _, _, .ref a.p, rfl, rfl, SqT.of ht.1, rfl, a, rfl, ht.2.1, by omega, by omega, fun r1 H1 s1 h1 => ?_⟩
    refine ⟨_, rfl, p, _, _, .ref b.p, rfl, rfl, SqT.of (s1 _ _ ht.1), rfl, b, rfl, ht.2.2.ts (.of s1), by omega, by omega, fun r2 H2 s2 h2 => ?_⟩
    refine ⟨r1, r2, _, _, rfl, rfl, s2 _ _ h1, h2, Nat.le_of_lt (big4 (by rw [List.length_map, List.length_map]; omega)), fun l hl => k l _ (s1.trans (s2.trans (same_new hl _))) ?_⟩
    rw [upd_same, ← List.map_append]
    rfl
end
end Mine
namespace Mine
open PySem L2
section
variable {P : Program} {w : World} {K : PySem.W.Frag} {mg : Str → Option Value} {base : Heap}
theorem nd_LNd1 : (["_law_y", "_law_found"] : List Str).Nodup := by decide +kernel
theorem scLNd : FnScope ["_law_program_here", "_law_rows_here", "_law_found", "_law_row_here", "_law_turn"] ["_law_program_here"] (defScope sLNd) := ⟨rfl, rfl, rfl, by decide +kernel, rfl, by decide +kernel, by decide +kernel⟩
theorem ok_LNd {f : Addr} {fd : FuncData} (F : Fun K "_law_needed" "_law_needed" sLNd f fd)
    {f_Lst : Addr} {d_Lst : FuncData} (G_Lst : FnOk P w K mg base CX0 (5) f_Lst d_Lst ["_law_rows_here"] (spLst 4)) (b_Lst : Binds K d_Lst ["_law_rows_here"] []) (k_Lst : PySem.W.keepIn K (.ref f_Lst) = true) (m_Lst : mg "_law_listed" = some (.ref f_Lst))
    {f_Nin : Addr} {d_Nin : FuncData} (G_Nin : FnOk P w K mg base CX0 (8) f_Nin d_Nin ["_law_term_here"] (spNin 7)) (b_Nin : Binds K d_Nin ["_law_term_here"] []) (k_Nin : PySem.W.keepIn K (.ref f_Nin) = true) (m_Nin : mg "_law_names_in" = some (.ref f_Nin))
    (m_range : mg "range" = none) (m_sorted : mg "sorted" = none) (m_len : mg "len" = none) (m_set : mg "set" = none) :
    FnOk P w K mg base CX0 (9) f fd ["_law_program_here"] spLNd := by
  refine F.ok scLNd (fun vs H Q E h => ?_) (fun cdv A outer s H vs Q E hr h => ?_)
  · obtain ⟨p, xs, rs, rfl, _⟩ := h
    rfl
  obtain ⟨p, xs, rs, rfl, P0, k⟩ := h
  have hu := hu_of hr
  have hr1 : Room 1 _ := hr.mono (by decide)
  have hr5 : Room 5 _ := hr.mono (by decide)
  have hr8 : Room 8 _ := hr.mono (by decide)
  refine ⟨_, (pss_cons (ps_set (i := 1) scLNd.nd rfl (Or.inl rfl) (pe_call G_Lst hr5 (by rfl) m_Lst k_Lst b_Lst .nil pass0 (pa_cons (pe_ix ix_tup (pv 0) pe_int (fun _ _ => rfl)) pa_nil)))
    (pss_cons (ps_set (i := 2) scLNd.nd rfl (Or.inr rfl) (pe_lst pa_nil))
    (pss_cons (ps_for PassesOwn.never rfl (pi_list (pv 1)) (pg_name (i := 3) scLNd.nd rfl (Or.inl rfl))
    (pss_one (ps_if (pt_cmpR op_in_seq (pe_ix ix_tup (pv 3) pe_int (fun _ _ => rfl)) (pe_tup (pa_cons pe_str (pa_cons pe_str pa_nil))) rfl) (pss_one (ps_set (i := 2) scLNd.nd rfl (Or.inr rfl) (pe_op op_cat (pv 2) (pe_call G_Nin hr8 (by rfl) m_Nin k_Nin b_Nin .nil pass0 (pa_cons (pe_ix ix_tup (pv 3) pe_int (fun _ _ => rfl)) pa_nil))))) pss_nil)))
    (pss_cons (ps_for PassesOwn.never rfl (pi_range1 (by rfl) m_range (pa_cons (pe_callB call_len_seq (by rfl) m_len PySem.boot_len (pa_cons (pv 1) pa_nil)) pa_nil)) (pg_name (i := 4) scLNd.nd rfl (Or.inl rfl))
    (pss_one (ps_for PassesOwn.never rfl (pi_list (pv 1)) (pg_name (i := 3) scLNd.nd rfl (Or.inl rfl))
    (pss_one (ps_if (pt_post (PW.pt (pw_and (pt_cmpR op_eq (pe_ix ix_tup (pv 3) pe_int (fun _ _ => rfl)) pe_str (nomark _)) (pw_and1 (pt_cmpR op_in_seq (pe_ix ix_tup (pv 3) pe_int (fun _ _ => rfl)) (pv 2) rfl))))) (pss_one (ps_set (i := 2) scLNd.nd rfl (Or.inr rfl) (pe_op op_cat (pv 2) (pe_comp ["_law_y", "_law_found"] [none, some 2] (pi_list (pe_call G_Nin hr8 (by rfl) m_Nin k_Nin b_Nin .nil pass0 (pa_cons (pe_ix ix_tup (pv 3) pe_int (fun _ _ => rfl)) pa_nil))) (fun _ _ _ _ => (pg_name (i := 0) (nd_LNd1) rfl (Or.inl rfl))) (fun _ _ _ _ => (pf_one (pt_cmpR (ninK K) (pv 0) (pv 1) rfl))) (fun _ _ _ _ => (pv 0)))))) pss_nil)))))
    (pss_one (ps_ret (pe_callB (call_sortSet P w hr1) (by rfl) m_sorted PyProof.Rows.boot_sorted (pa_cons (pe_callTy (call_setX P w hr1) (by rfl) m_set PyProof.Rows.boot_set (pa_cons (pv 2) pa_nil)) pa_nil)))))))), ?_⟩
  have f13 := P0.fl
  have okf := P0.okf
  have fll := flatL_len rs
  have c0 := P0.cnt
  have hdp := P0.dp
  obtain ⟨v0, pr, hp, hpr⟩ := P0.ex
  refine ⟨_, rfl, p, _, _, .ref pr, rfl, rfl, SqT.of hp, rfl, pr, rs, rfl, hpr, P0.rows, by omega, Nat.lt_succ_of_le hdp, fun r1 H1 s1 n1 h1 => ?_⟩
  have rH := RwsH.ts (.of s1) _ (RwsH.flat rs P0.rows)
  have k' : ∀ (r : Addr) (ss : List Str) (H' : Hp), Same H H' → H' r = some (.lst (ss.map V.str)) → ss.Nodup → PyProof.Rows.sortedS ss = true → (∀ x, x ∈ ss ↔ Need (flatL rs) x) → Q (.ref r) H' := fun r ss H' a b c d e => k r ss H' a b ⟨c, d, e⟩
  clear k
  generalize flatL rs = fl at f13 okf h1 rH k'
  refine ⟨Nat.zero_le _, fun lf hlf => ?_⟩
  have s2 := same_new hlf (.lst [])
  have h2 : upd H1 lf (.lst []) lf = some (.lst []) := upd_same
  generalize upd H1 lf (.lst []) = H2 at s2 h2 ⊢
  refine ⟨_, rfl, r1, rfl, ⟨_, SqL.of (s2 _ _ h1)⟩, for_listA (K := K) (a := r1) (xs := refs fl) (fun i σ G => ∃ (lf : Addr) (v3 v4 : Option V), σ = [some (.ref p), some (.ref r1), some (.ref lf), v3, v4] ∧ Same H1 G ∧ G lf = some (.lst (((fl.take i).flatMap Rw.told).map V.str)))
    ⟨lf, _, _, rfl, s2, h2⟩ (by rintro i σ G _ ⟨_, _, _, _, e, _⟩; exact SqL.of (e _ _ h1)) ?_ ?_⟩
  · rintro D' i v σ G hv ⟨lf, v3, v4, rfl, s5, h5⟩
    obtain ⟨r, rfl, hr0⟩ := refs_at hv
    have mr := List.mem_of_getElem? hr0
    have il := (List.getElem?_eq_some_iff.mp hr0).1
    have hr1 := RwH.ts (.of s5) r (rH.mem r mr)
    have tl := told_lens (fl := fl.take i) (fun r hr => okf r (List.mem_of_mem_take hr))
    rw [List.length_take] at tl
    refine ⟨_, rfl, r.p, _, _, .str r.w, rfl, rfl, SqT.of hr1.at, at0, by show 2 ≤ sizeLine; decide, fun t2 ht2 => ?_⟩
    have s6 := same_new ht2 (.tup [.str "tell", .str "when"])
    refine ⟨t2, [.str "tell", .str "when"], rfl, .inr (SqT.of upd_same), rfl, by decide, _, rfl, ?_⟩
    generalize upd G t2 (.tup [.str "tell", .str "when"]) = G6 at s6 ⊢
    have ei : inV (V.str r.w) [.str "tell", .str "when"] = decide (r.w ∈ (["tell", "when"] : List Str)) := inV_strs _ ["tell", "when"]
    rw [fm_take hr0]
    by_cases c : r.w ∈ (["tell", "when"] : List Str)
    · refine iteP (ei.trans (decide_eq_true c)) ?_
      obtain ⟨t, vs, hrow, htm, etm, etl⟩ := one_in (RwH.ts (.of s6) r hr1) c
      have okt := okf r mr t (by rw [etm]; exact List.mem_singleton.mpr rfl)
      have nl := t.names_len
      refine ⟨_, rfl, _, rfl, r.p, _, _, .ref t.p, rfl, rfl, SqT.of hrow, at1, t, rfl, htm, okt.1, okt.1, fun q H7 s7 h7 => ?_⟩
      refine ⟨lf, q, _, _, rfl, rfl, (s6.trans s7) _ _ h5, h7, Nat.le_of_lt (big16 (by rw [List.length_map, List.length_map]; omega)), fun l8 hl8 => ⟨l8, _, _, rfl, s5.trans (s6.trans (s7.trans (same_new hl8 _))), ?_⟩⟩
      rw [upd_same, etl, List.map_append]
    · refine iteN (fun z => c (of_decide_eq_true (ei.symm.trans z))) ?_
      refine ⟨lf, _, _, rfl, s5.trans s6, ?_⟩
      rw [told_out c, List.append_nil]
      exact s6 _ _ h5
  rintro σ G ⟨lf, v3, v4, rfl, s5, h5⟩
  rw [refs_len, List.take_length] at h5
  refine ⟨_, rfl, r1, _, rfl, .inl (SqL.of (s5 _ _ h1)), _, rfl, by omega, by rw [refs_len]; omega, for_rangeA (n := (refs fl).length) (fun i σ G => ∃ (lf : Addr) (v3 v4 : Option V), σ = [some (.ref p), some (.ref r1), some (.ref lf), v3, v4] ∧ Same H1 G ∧ G lf = some (.lst ((rnds fl i).map V.str)))
    ⟨lf, _, _, rfl, s5, h5⟩ ?_ ?_⟩
  · rintro D' i σ G' hi ⟨lf, v3, v4, rfl, s6, h6⟩
    rw [refs_len] at hi
    have rl := rnds_len okf i
    have rl2 : (i + 1) * (7 * fl.length) ≤ 1300 * (7 * fl.length) := Nat.mul_le_mul_right _ (by omega)
    refine ⟨_, rfl, r1, rfl, ⟨_, SqL.of (s6 _ _ h1)⟩, for_listA (K := K) (a := r1) (xs := refs fl) (fun j σ G => ∃ (lf : Addr) (v3 : Option V), σ = [some (.ref p), some (.ref r1), some (.ref lf), v3, some (.int (0 + (i : Int)))] ∧ Same H1 G ∧ G lf = some (.lst ((rnd (fl.take j) (rnds fl i)).map V.str)))
      ⟨lf, _, rfl, s6, h6⟩ (by rintro j σ G _ ⟨_, _, _, e, _⟩; exact SqL.of (e _ _ h1)) ?_ ?_⟩
    · rintro D2 j v σ G7 hv ⟨lf, v3, rfl, s7, h7⟩
      obtain ⟨r, rfl, hr0⟩ := refs_at hv
      have mr := List.mem_of_getElem? hr0
      have jl := (List.getElem?_eq_some_iff.mp hr0).1
      have hr1 := RwH.ts (.of s7) r (rH.mem r mr)
      have rl3 := rnd_len (fl.take j) (rnds fl i) fun r hr => okf r (List.mem_of_mem_take hr)
      rw [List.length_take] at rl3
      rw [rnd_take hr0]
      generalize rnd (fl.take j) (rnds fl i) = F at h7 rl3 ⊢
      refine ⟨fun b G' => G' = G7 ∧ (b = true → ∃ p x t, r = .lt p x t ∧ x ∈ F) ∧ (b = false → st1 F r = F), ?_, ?_⟩
      · refine ⟨_, rfl, r.p, _, _, .str r.w, rfl, rfl, SqT.of hr1.at, at0, rfl, _, rfl, ?_⟩
        by_cases c : r.w = "let"
        · refine iteP (by rw [c]; exact decide_eq_true rfl) ?_
          obtain ⟨p', x, t, rfl⟩ := is_let hr1 c
          refine ⟨_, rfl, p', _, _, .str x, rfl, rfl, SqT.of hr1.1, at1, _, rfl, lf, _, rfl, .inl (SqL.of h7), rfl, flat_texts _, _, rfl, rfl, fun z => ⟨p', x, t, rfl, of_decide_eq_true ((inV_strs _ _).symm.trans z)⟩, fun z => ?_⟩
          have z := of_decide_eq_false ((inV_strs _ _).symm.trans z)
          exact if_neg z
        · refine iteN (fun z => c (by have z := of_decide_eq_true z; injection z)) ⟨rfl, (fun z => absurd z (by decide)), fun _ => ?_⟩
          cases r with
          | lt p x t => exact absurd rfl c
          | _ => rfl
      rintro b G' ⟨rfl, hb1, hb2⟩
      cases b with
      | false =>
        refine iteN (by simp) ?_
        rw [hb2 rfl]
        exact ⟨lf, _, rfl, s7, h7⟩
      | true =>
        refine iteP rfl ?_
        obtain ⟨p', x, t, rfl, hx⟩ := hb1 rfl
        have okt := okf _ mr t (List.mem_singleton.mpr rfl)
        have nl := t.names_len
        rw [show st1 F (.lt p' x t) = F ++ t.names.filter (fun x => !decide (x ∈ F)) from if_pos hx]
        have nf := List.length_filter_le (fun x => !decide (x ∈ F)) t.names
        refine ⟨_, rfl, _, rfl, p', _, _, .ref t.p, rfl, rfl, SqT.of hr1.1, rfl, t, rfl, hr1.2, okt.1, okt.1, fun q H8 s8 h8 => ⟨q, rfl, ⟨_, SqL.of h8⟩, comp_list (K := K) (a := q) (xs := t.names.map V.str) (fun i ys σ G => G = H8 ∧ (∃ v, σ = [v, some (.ref lf)]) ∧ ys = ((t.names.take i).filter fun x => !decide (x ∈ F)).map V.str)
          (big4 (by rw [List.length_map]; omega)) ⟨rfl, ⟨_, rfl⟩, rfl⟩ (fun i ys σ G ⟨_, _, e⟩ => by
            rw [e, List.length_map]
            exact Nat.le_trans (List.length_filter_le _ _) (by rw [List.length_take]; omega)) (by rintro i ys σ G _ ⟨e, _⟩; rw [e]; exact SqL.of h8) ?_ ?_⟩⟩
        · rintro i v ys σ G hv ⟨rfl, ⟨v', rfl⟩, rfl⟩
          obtain ⟨y, rfl, hy⟩ := strs_at hv
          refine ⟨_, rfl, _, rfl, lf, _, rfl, .inl (SqL.of (s8 _ _ h7)), rfl, flat_texts _, _, rfl, ?_⟩
          rw [notin_strs, take_snoc hy, List.filter_append, List.map_append]
          by_cases c : (!decide (y ∈ F)) = true
          · refine iteP c ⟨_, rfl, rfl, ⟨_, rfl⟩, ?_⟩
            rw [List.filter_cons_of_pos (p := fun x => !decide (x ∈ F)) c]
            rfl
          · refine iteN c ⟨rfl, ⟨_, rfl⟩, ?_⟩
            rw [List.filter_cons_of_neg (p := fun x => !decide (x ∈ F)) c]
            simp
        rintro ys σ G9 ⟨rfl, _, rfl⟩ l9 hl9
        rw [List.length_map, List.take_length]
        generalize t.names.filter (fun x => !decide (x ∈ F)) = nz at nf ⊢
        have s9 := same_new hl9 (.lst (nz.map V.str))
        have h9 : upd G9 l9 (.lst (nz.map V.str)) l9 = some (.lst (nz.map V.str)) := upd_same
        generalize upd G9 l9 (.lst (nz.map V.str)) = H9 at s9 h9 ⊢
        refine ⟨lf, l9, _, _, rfl, rfl, (s8.trans s9) _ _ h7, h9, Nat.le_of_lt (big16 (by rw [List.length_map, List.length_map]; omega)), fun l10 hl10 => ⟨l10, _, rfl, s7.trans (s8.trans (s9.trans (same_new hl10 _))), ?_⟩⟩
        rw [upd_same, List.map_append]
    · rintro σ G7 ⟨lf, v3, rfl, s7, h7⟩
      rw [refs_len, List.take_length] at h7
      exact ⟨lf, _, _, rfl, s7, h7⟩
  · rintro σ G' ⟨lf, v3, v4, rfl, s6, h6⟩
    rw [refs_len] at h6
    have don := rnds_done fl
    generalize rnds fl fl.length = F at h6 don
    have fx : ∀ x ∈ F, x ∈ xs := fun x hx => need_mem okf ((don x).mp hx)
    have xl := P0.xl
    refine ⟨_, rfl, lf, F, rfl, SqL.of h6, fun ds nd sub => ?_, fun a ha => ⟨a, F, rfl, upd_same, fun ds nd mem => ?_, fun ts' nd mem st l hl => ?_⟩⟩
    · have := few_len (xs := tk xs) nd fun j hj => by
        obtain ⟨x, hx, e⟩ := List.mem_map.mp (sub j hj)
        exact List.mem_map.mpr ⟨x, fx x hx, e⟩
      rw [List.length_map] at this
      omega
    · have := few_len nd fun x hx => fx x ((mem x).mp hx)
      omega
    · exact k' l ts' _ (s1.trans (s6.trans ((same_new ha _).trans (same_new hl _)))) upd_same nd st fun x => (mem x).trans (don x)
end
end Mine
namespace Mine
open PySem L2
section
variable {P : Program} {w : World} {K : PySem.W.Frag} {mg : Str → Option Value} {base : Heap}
theorem scLId : FnScope ["_law_row_here", "_law_names_here"] ["_law_row_here", "_law_names_here"] (defScope sLId) := ⟨rfl, rfl, rfl, by decide +kernel, rfl, by decide +kernel, by decide +kernel⟩
theorem ok_LId {f : Addr} {fd : FuncData} (F : Fun K "_law_idle" "_law_idle" sLId f fd)
     :
    FnOk P w K mg base CX0 (1) f fd ["_law_row_here", "_law_names_here"] spLId := by
  refine F.ok scLId (fun vs H Q E h => ?_) (fun cdv A outer s H vs Q E hr h => ?_)
  · obtain ⟨r, np, ss, rfl, _⟩ := h
    rfl
  obtain ⟨r, np, ss, rfl, hr0, hn, k⟩ := h
  have hu := hu_of hr
  refine ⟨_, (@pss_one _ _ _ (ps_ret (pe_and (pe_cmpR op_in_seq (pe_ix ix_tup (pv 0) pe_int (fun _ _ => rfl)) (@pe_tup _ _ _ _ _ (@pa_cons _ _ _ _ _ pe_str (@pa_cons _ _ _ _ _ pe_str (@pa_cons _ _ _ _ _ pe_str (@pa_cons _ _ _ _ _ pe_str (@pa_cons _ _ _ _ _ pe_str pa_nil rfl) rfl) rfl) rfl) rfl)) rfl) (pe_one (pe_cmpR op_notIn_seq (pe_ix ix_tup (pv 0) pe_int (fun _ _ => rfl)) (pv 1) rfl))))), ?_⟩
  refine ⟨_, rfl, r.p, _, _, .str r.w, rfl, rfl, SqT.of hr0.at, at0, by show 5 ≤ sizeLine; decide, fun t2 ht2 => ?_⟩
  have s6 := same_new ht2 (.tup [.str "ladder", .str "flat", .str "choose", .str "first", .str "let"])
  refine ⟨t2, [.str "ladder", .str "flat", .str "choose", .str "first", .str "let"], rfl, .inr (SqT.of upd_same), rfl, by decide, _, rfl, ?_⟩
  generalize upd H t2 (.tup [.str "ladder", .str "flat", .str "choose", .str "first", .str "let"]) = G6 at s6 ⊢
  have ei : inV (V.str r.w) [.str "ladder", .str "flat", .str "choose", .str "first", .str "let"] = decide (r.w ∈ (["ladder", "flat", "choose", "first", "let"] : List Str)) := inV_strs _ ["ladder", "flat", "choose", "first", "let"]
  rw [setW_in hr0] at ei
  cases e : r.sets with
  | none =>
    rw [e] at ei
    rw [idl_none e] at k
    exact iteN (fun z => absurd (ei.symm.trans z) (by decide)) (k _ s6)
  | some x =>
    rw [e] at ei
    rw [idl_sets e] at k
    obtain ⟨vs, hv⟩ := sets_at hr0 e
    refine iteP ei ?_
    refine ⟨_, rfl, r.p, _, _, .str x, rfl, rfl, SqT.of (s6 _ _ hv), at1, _, rfl, np, _, rfl, .inl (SqL.of (s6 _ _ hn)), rfl, flat_texts _, ?_⟩
    rw [notin_strs]
    exact k _ s6
theorem nd_Rgt1 : (["_law_k", "_law_names_here", "_law_rows_here"] : List Str).Nodup := by decide +kernel
theorem nd_Rgt2 : (["_law_k"] : List Str).Nodup := by decide +kernel
theorem scRgt : FnScope ["_law_program_here", "_law_names_here", "_law_rows_here", "_law_numbers", "_law_found"] ["_law_program_here"] (defScope sRgt) := ⟨rfl, rfl, rfl, by decide +kernel, rfl, by decide +kernel, by decide +kernel⟩
theorem ok_Rgt {f : Addr} {fd : FuncData} (F : Fun K "_law_right" "_law_right" sRgt f fd)
    {f_LNd : Addr} {d_LNd : FuncData} (G_LNd : FnOk P w K mg base CX0 (9) f_LNd d_LNd ["_law_program_here"] spLNd) (b_LNd : Binds K d_LNd ["_law_program_here"] []) (k_LNd : PySem.W.keepIn K (.ref f_LNd) = true) (m_LNd : mg "_law_needed" = some (.ref f_LNd))
    {f_Lst : Addr} {d_Lst : FuncData} (G_Lst : FnOk P w K mg base CX0 (5) f_Lst d_Lst ["_law_rows_here"] (spLst 4)) (b_Lst : Binds K d_Lst ["_law_rows_here"] []) (k_Lst : PySem.W.keepIn K (.ref f_Lst) = true) (m_Lst : mg "_law_listed" = some (.ref f_Lst))
    {f_Idl : Addr} {d_Idl : FuncData} (G_Idl : FnOk P w K mg base CX0 (6) f_Idl d_Idl ["program"] spIdle) (b_Idl : Binds K d_Idl ["program"] []) (k_Idl : PySem.W.keepIn K (.ref f_Idl) = true) (m_Idl : mg "idle" = some (.ref f_Idl))
    {f_Ned : Addr} {d_Ned : FuncData} (G_Ned : FnOk P w K mg base CX0 (5) f_Ned d_Ned ["program"] spNeeded) (b_Ned : Binds K d_Ned ["program"] []) (k_Ned : PySem.W.keepIn K (.ref f_Ned) = true) (m_Ned : mg "needed" = some (.ref f_Ned))
    {f_LId : Addr} {d_LId : FuncData} (G_LId : FnOk P w K mg base CX0 (1) f_LId d_LId ["_law_row_here", "_law_names_here"] spLId) (b_LId : Binds K d_LId ["_law_row_here", "_law_names_here"] []) (k_LId : PySem.W.keepIn K (.ref f_LId) = true) (m_LId : mg "_law_idle" = some (.ref f_LId))
    (m_any : mg "any" = none) (m_isinstance : mg "isinstance" = none) (m_tuple : mg "tuple" = none) (m_range : mg "range" = none) (m_list : mg "list" = none) (m_len : mg "len" = none) (m_bool : mg "bool" = none) :
    FnOk P w K mg base CX0 (10) f fd ["_law_program_here"] spRgt := by
  refine F.ok scRgt (fun vs H Q E h => ?_) (fun cdv A outer s H vs Q E hr h => ?_)
  · obtain ⟨p, xs, rs, rfl, _⟩ := h
    rfl
  obtain ⟨p, xs, rs, rfl, P0, k⟩ := h
  have hu := hu_of hr
  have hr1 : Room 1 _ := hr.mono (by decide)
  have hr5 : Room 5 _ := hr.mono (by decide)
  have hr6 : Room 6 _ := hr.mono (by decide)
  have hr9 : Room 9 _ := hr.mono (by decide)
  refine ⟨_, (pss_cons (ps_set (i := 1) scRgt.nd rfl (Or.inr rfl) (pe_call G_LNd hr9 (by rfl) m_LNd k_LNd b_LNd .nil pass0 (pa_cons (pv 0) pa_nil)))
    (pss_cons (ps_set (i := 2) scRgt.nd rfl (Or.inr rfl) (pe_call G_Lst hr5 (by rfl) m_Lst k_Lst b_Lst .nil pass0 (pa_cons (pe_ix ix_tup (pv 0) pe_int (fun _ _ => rfl)) pa_nil)))
    (pss_cons (ps_setC ["_law_k", "_law_names_here", "_law_rows_here"] [none, some 1, some 2] (i := 3) scRgt.nd rfl (Or.inl rfl) (pi_range1 (by rfl) m_range (pa_cons (pe_callB call_len_seq (by rfl) m_len PySem.boot_len (pa_cons (pv 2) pa_nil)) pa_nil)) (fun _ _ _ _ => (pg_name (i := 0) (nd_Rgt1) rfl (Or.inl rfl))) (fun _ _ _ _ => (pf_one (pt_val (pe_call G_LId hr1 (by rfl) m_LId k_LId b_LId .nil pass0 (pa_cons (pe_ix (ixlK K) (pv 2) (pv 0) (fun _ _ => rfl)) (pa_cons (pv 1) pa_nil)))))) (fun _ _ _ _ => (pv 0)))
    (pss_cons (ps_set (i := 4) scRgt.nd rfl (Or.inl rfl) (pe_call G_Idl hr6 (by rfl) m_Idl k_Idl b_Idl .nil pass0 (pa_cons (pv 0) pa_nil)))
    (pss_cons (ps_if (PW.pt (pw_or (pt_not (pt_val (pe_callB call_isinst (by rfl) m_isinstance PyProof.Rows.boot_isinstance (pa_cons (pv 4) (pa_cons (pe_bltn (v := .ty "tuple") (by rfl) m_tuple PyProof.Rows.boot_tuple rfl) pa_nil))))) (pw_or (pt_val (pe_callB call_any (by rfl) m_any PyProof.Rows.boot_any (pa_cons (pe_comp ["_law_k"] [none] (pi_tup (pv 4)) (fun _ _ _ _ => (pg_name (i := 0) (nd_Rgt2) rfl (Or.inl rfl))) (fun _ _ _ _ => pf_nil) (fun _ _ _ _ => (pe_callB (isinstK K) (by rfl) m_isinstance PyProof.Rows.boot_isinstance (pa_cons (pv 0) (pa_cons (pe_bltn (v := .ty "bool") (by rfl) m_bool PyProof.Rows.boot_bool rfl) pa_nil))))) pa_nil))) (pw_or1 (pt_cmpR (op_neD hr1) (pe_callTy call_list_of (by rfl) m_list PyProof.Rows.boot_list (pa_cons (pv 4) pa_nil)) (pv 3) (nomark _)))))) pss_never pss_nil)
    (pss_cons (ps_set (i := 4) scRgt.nd rfl (Or.inl rfl) (pe_call G_Ned hr5 (by rfl) m_Ned k_Ned b_Ned .nil pass0 (pa_cons (pv 0) pa_nil)))
    (pss_one (ps_ret (pe_and (pe_callB call_isinst (by rfl) m_isinstance PyProof.Rows.boot_isinstance (pa_cons (pv 4) (pa_cons (pe_bltn (v := .ty "tuple") (by rfl) m_tuple PyProof.Rows.boot_tuple rfl) pa_nil))) (pe_one (pe_cmpR (op_eqD hr1) (pe_callTy call_list_of (by rfl) m_list PyProof.Rows.boot_list (pa_cons (pv 4) pa_nil)) (pv 1) (nomark _)))))))))))), ?_⟩
  have f13 := P0.fl
  have c0 := P0.cnt
  have hdp := P0.dp
  obtain ⟨v0, pr, hp, hpr⟩ := P0.ex
  refine ⟨_, rfl, p, xs, rs, rfl, P0, fun r1 ss H1 s1 h1 nds => ?_⟩
  refine ⟨_, rfl, p, _, _, .ref pr, rfl, rfl, SqT.of (s1 _ _ hp), rfl, pr, rs, rfl, s1 _ _ hpr, RwsH.ts (.of s1) rs P0.rows, by omega, Nat.lt_succ_of_le hdp, fun r2 H2 s2 n2 h2 => ?_⟩
  have rH := RwsH.ts (.of (s1.trans s2)) _ (RwsH.flat rs P0.rows)
  refine ⟨_, rfl, r2, _, rfl, .inl (SqL.of h2), _, rfl, by omega, by rw [refs_len]; omega, comp_range (n := (refs (flatL rs)).length) (fun i ys σ G => Same H2 G ∧ (∃ v, σ = [v, some (.ref r1), some (.ref r2)]) ∧ ys = (nums (flatL rs) ss i).map V.int)
    (big16 (by rw [refs_len]; omega)) ⟨Same.refl _, ⟨_, rfl⟩, rfl⟩ (by rintro i ys σ G ⟨_, _, e⟩; rw [e, List.length_map]; exact nums_len _ _ _) ?_ ?_⟩
  · rintro i ys σ G hi ⟨s3, ⟨v, rfl⟩, rfl⟩
    rw [refs_len] at hi
    obtain ⟨r, hr0⟩ : ∃ r, (flatL rs)[i]? = some r := ⟨_, List.getElem?_eq_getElem hi⟩
    have ha : atI (refs (flatL rs)) (0 + (i : Int)) = some (.ref r.p) := by
      rw [Int.zero_add]
      exact atI_nat (by unfold refs; rw [List.getElem?_map, hr0]; rfl)
    refine ⟨_, rfl, _, rfl, r2, _, _, .ref r.p, rfl, rfl, SqL.of (s3 _ _ h2), ha, _, rfl, r, r1, ss, rfl, RwH.ts (.of s3) r (rH.mem r (List.mem_of_getElem? hr0)), (s2.trans s3) _ _ h1, fun H4 s4 => ⟨_, rfl, ?_⟩⟩
    have ea : idA (flatL rs) ss i = idl ss r := by unfold idA; rw [hr0]
    rw [nums_succ, ea, List.map_append]
    by_cases c : idl ss r = true
    · refine iteP c ⟨_, rfl, s3.trans s4, ⟨_, rfl⟩, ?_⟩
      rw [if_pos c, Int.zero_add]; rfl
    · refine iteN c ⟨s3.trans s4, ⟨_, rfl⟩, ?_⟩
      rw [if_neg c]; simp
  rintro ys σ G ⟨s3, _, rfl⟩ l4 hl4
  rw [refs_len]
  have g13 := (s2.trans (s3.trans (same_new hl4 (.lst ((nums (flatL rs) ss (flatL rs).length).map V.int))))) _ _ h1
  have s4 := s1.trans (s2.trans (s3.trans (same_new hl4 (.lst ((nums (flatL rs) ss (flatL rs).length).map V.int)))))
  have h4 : upd G l4 (.lst ((nums (flatL rs) ss (flatL rs).length).map V.int)) l4 = some (.lst ((nums (flatL rs) ss (flatL rs).length).map V.int)) := upd_same
  generalize upd G l4 (.lst ((nums (flatL rs) ss (flatL rs).length).map V.int)) = H4 at s4 h4 g13 ⊢
  refine ⟨_, rfl, p, xs, rs, rfl, P0.ts (.of s4), fun r5 ss5 H5 s5 h5 nds5 => ?_⟩
  obtain rfl := nds5.eq nds
  have zl := nums_len (flatL rs) ss5 (flatL rs).length
  generalize nums (flatL rs) ss5 (flatL rs).length = zs at h4 h5 zl
  refine ⟨_, rfl, _, "tuple", _, true, rfl, .tup h5, rfl, _, rfl, ?_⟩
  refine iteN (by decide) ?_
  refine ⟨_, rfl, r5, rfl, ⟨_, SqT.of h5⟩, comp_tup (K := K) (a := r5) (xs := zs.map V.int) (fun i ys σ G => G = H5 ∧ (∃ v, σ = [v]) ∧ ys = List.replicate i (V.bl false))
    ?_ ⟨rfl, ⟨_, rfl⟩, rfl⟩ (by rintro i ys σ G ⟨_, _, e⟩; rw [e, List.length_replicate]; exact Nat.le_refl _) (by rintro i ys σ G _ ⟨e, _⟩; rw [e]; exact SqT.of h5) ?_ ?_⟩
  · exact big16 (by rw [List.length_map]; omega)
  · rintro i v ys σ G hv ⟨rfl, ⟨v', rfl⟩, rfl⟩
    obtain ⟨z, rfl, hz⟩ := ints_at hv
    refine ⟨_, rfl, _, "bool", _, false, rfl, .int _, rfl, rfl, ⟨_, rfl⟩, ?_⟩
    rw [List.replicate_succ']
  rintro ys σ G ⟨rfl, _, rfl⟩ l6 hl6
  have s6 := same_new hl6 (.lst (List.replicate (zs.map V.int).length (V.bl false)))
  refine ⟨l6, List.replicate (zs.map V.int).length false, rfl, SqL.of (by rw [upd_same, List.map_replicate]), _, rfl, ?_⟩
  generalize upd G l6 (.lst (List.replicate (zs.map V.int).length (V.bl false))) = G6 at s6 ⊢
  rw [any_rep]
  refine iteN (by decide) ?_
  refine ⟨_, rfl, r5, _, rfl, .inr (SqT.of (s6 _ _ h5)), fun l7 hl7 => ?_⟩
  have s7 := same_new hl7 (.lst (zs.map V.int))
  have h7 : upd G6 l7 (.lst (zs.map V.int)) l7 = some (.lst (zs.map V.int)) := upd_same
  generalize upd G6 l7 (.lst (zs.map V.int)) = G7 at s7 h7 ⊢
  refine ⟨_, rfl, .list (zs.map .int), .list (zs.map .int), ⟨l7, _, rfl, SqL.of h7, repL_ints zs⟩, ⟨l4, _, rfl, SqL.of ((s5.trans (s6.trans s7)) _ _ h4), repL_ints zs⟩, shapedL_ints zs, shapedL_ints zs, nomixL_ints zs, _, rfl, ?_⟩
  rw [sameL_ints]
  refine iteN (by decide) ?_
  have s57 := s4.trans (s5.trans (s6.trans s7))
  refine ⟨_, rfl, p, xs, rs, rfl, P0.ts (.of s57), fun r8 ss8 H8 s8 h8 nds8 => ?_⟩
  obtain rfl := nds8.eq nds
  refine ⟨_, rfl, _, "tuple", _, true, rfl, .tup h8, rfl, _, rfl, ?_⟩
  refine iteP rfl ?_
  refine ⟨_, rfl, r8, _, rfl, .inr (SqT.of h8), fun l9 hl9 => ?_⟩
  have s9 := same_new hl9 (.lst (ss8.map V.str))
  have h9 : upd H8 l9 (.lst (ss8.map V.str)) l9 = some (.lst (ss8.map V.str)) := upd_same
  generalize upd H8 l9 (.lst (ss8.map V.str)) = G9 at s9 h9 ⊢
  have so := nds.so P0.ok P0.so
  refine ⟨_, rfl, .list (ss8.map .str), .list (ss8.map .str), ⟨l9, _, rfl, SqL.of h9, repL_strs ss8⟩, ⟨r1, _, rfl, SqL.of ((s5.trans (s6.trans (s7.trans (s8.trans s9)))) _ _ g13), repL_strs ss8⟩, shapedL_strs so, shapedL_strs so, nomixL_strs ss8, ?_⟩
  rw [sameL_strs]
  exact k _ (s57.trans (s8.trans s9))
end
end Mine
namespace Mine
open PySem L2
section
variable {P : Program} {w : World} {K : PySem.W.Frag} {mg : Str → Option Value} {base : Heap}
theorem scChn : FnScope ["_law_deal_here", "_law_words", "_law_many", "_law_rows_here", "_law_k", "_law_told"] ["_law_deal_here"] (defScope sChn) := ⟨rfl, rfl, rfl, by decide +kernel, rfl, by decide +kernel, by decide +kernel⟩
theorem ok_Chn {f : Addr} {fd : FuncData} (F : Fun K "_law_chain" "_law_chain" sChn f fd)
    {f_Nms : Addr} {d_Nms : FuncData} (G_Nms : FnOk P w K mg base CX0 (2) f_Nms d_Nms ["_law_deal_here", "_law_many"] spNames) (b_Nms : Binds K d_Nms ["_law_deal_here", "_law_many"] []) (k_Nms : PySem.W.keepIn K (.ref f_Nms) = true) (m_Nms : mg "_law_names" = some (.ref f_Nms))
    {f_Draw : Addr} {d_Draw : FuncData} (G_Draw : FnOk P w K mg base CX0 (1) f_Draw d_Draw ["_law_deal_here", "_law_many"] spDraw) (b_Draw : Binds K d_Draw ["_law_deal_here", "_law_many"] []) (k_Draw : PySem.W.keepIn K (.ref f_Draw) = true) (m_Draw : mg "_law_draw" = some (.ref f_Draw))
    {f_Thw : Addr} {d_Thw : FuncData} (G_Thw : FnOk P w K mg base CX0 (3) f_Thw d_Thw ["_law_deal_here", "_law_world", "_law_x"] spThrow) (b_Thw : Binds K d_Thw ["_law_deal_here", "_law_world", "_law_x"] []) (k_Thw : PySem.W.keepIn K (.ref f_Thw) = true) (m_Thw : mg "_law_throw" = some (.ref f_Thw))
    (m_range : mg "range" = none) (m_tuple : mg "tuple" = none) (m_min : mg "min" = none) :
    FnOk P w K mg base CX0 (4) f fd ["_law_deal_here"] spChn := by
  refine F.ok scChn (fun vs H Q E h => ?_) (fun cdv A outer s H vs Q E hr h => ?_)
  · obtain ⟨d, l, rfl, _⟩ := h
    rfl
  obtain ⟨d, l, rfl, D, k⟩ := h
  have hu := hu_of hr
  have hr1 : Room 1 _ := hr.mono (by decide)
  have hr2 : Room 2 _ := hr.mono (by decide)
  have hr3 : Room 3 _ := hr.mono (by decide)
  refine ⟨_, (pss_cons (ps_set (i := 1) scChn.nd rfl (Or.inl rfl) (pe_call G_Nms hr2 (by rfl) m_Nms k_Nms b_Nms .nil pass0 (pa_cons (pv 0) (pa_cons pe_int pa_nil))))
    (pss_cons (ps_set (i := 2) scChn.nd rfl (Or.inl rfl) (pe_op op_add pe_int (pe_call G_Draw hr1 (by rfl) m_Draw k_Draw b_Draw .nil pass0 (pa_cons (pv 0) (pa_cons pe_int pa_nil)))))
    (pss_cons (ps_set (i := 3) scChn.nd rfl (Or.inl rfl) (pe_lst (pa_cons (pe_call G_Thw hr3 (by rfl) m_Thw k_Thw b_Thw .nil pass0 (pa_cons (pv 0) (pa_cons (pe_disp (pps_cons pe_str pe_int (pps_cons pe_str pe_int pps_nil)) rfl rfl (by decide) (by decide)) (pa_cons (pe_ix ix_list (pv 1) pe_int (fun _ _ => rfl)) pa_nil)))) pa_nil)))
    (pss_cons (ps_for PassesOwn.never rfl (pi_range1 (by rfl) m_range (pa_cons (pv 2) pa_nil)) (pg_name (i := 4) scChn.nd rfl (Or.inl rfl))
    (pss_one (ps_expr (pe_bm PySem.F.plainAttrs_list PySem.F.slot_list_append PySem.F.type_list_append mt_append (pv 3) (pa_cons (pe_tup (pa_cons pe_str (pa_cons (pe_ix ix_list (pv 1) (pe_op op_add pe_int (pv 4)) (fun _ _ => rfl)) (pa_cons (pe_tup (pa_cons pe_str (pa_cons pe_str (pa_cons (pe_tup (pa_cons pe_str (pa_cons (pe_ix ix_list (pv 1) (pe_op op_add pe_int (pv 4)) (fun _ _ => rfl)) pa_nil))) (pa_cons (pe_tup (pa_cons pe_str (pa_cons (pv 4) pa_nil))) pa_nil))))) pa_nil)))) pa_nil)))))
    (pss_cons (ps_set (i := 5) scChn.nd rfl (Or.inl rfl) (pe_op op_sub (pv 2) (pe_call G_Draw hr1 (by rfl) m_Draw k_Draw b_Draw .nil pass0 (pa_cons (pv 0) (pa_cons (pe_callB (call_min2 rfl) (by rfl) m_min PyProof.Rows.boot_min (pa_cons pe_int (pa_cons (pe_op op_add (pv 2) pe_int) pa_nil))) pa_nil)))))
    (pss_one (ps_ret (pe_tup (pa_cons (pe_callTy call_tuple_of (by rfl) m_tuple PyProof.Rows.boot_tuple (pa_cons (pe_slice sl_list (pv 1) po_none (po_some pe_int)) pa_nil)) (pa_cons (pe_op op_catA (pe_callTy call_tuple_of (by rfl) m_tuple PyProof.Rows.boot_tuple (pa_cons (pv 3) pa_nil)) (pe_tup (pa_cons (pe_tup (pa_cons pe_str (pa_cons (pe_tup (pa_cons pe_str (pa_cons (pe_ix ix_list (pv 1) (pe_op op_add pe_int (pv 5)) (fun _ _ => rfl)) pa_nil))) pa_nil))) pa_nil))) pa_nil)))))))))), ?_⟩
  refine ⟨_, rfl, d, l, 12, rfl, D, by decide, by decide, fun rk xw H1 D1 o1 fk hk1 lk1 so1 => ?_⟩
  have nrk := (deal_new D fk).2
  refine ⟨_, rfl, d, l, 10, rfl, D1, by decide, by decide, fun m1 H2 a0 a1 D2 o2 => ⟨_, _, rfl, rfl, ?_⟩⟩
  have rk2 := deal_keep D1 hk1 nrk o2
  have oo2 := o1.trans o2
  refine ⟨_, rfl, fun sc hsc => ?_⟩
  have nsd := (deal_new D2 hsc).1
  refine ⟨upd_same, [((Sum.inr "kinds" : Key), V.int 1), ((Sum.inr "wide" : Key), V.int 4)], rfl, by show 2 ≤ 15; decide, ?_⟩
  rw [upd_upd]
  have wk := two_ok
  generalize mergeK [] [((Sum.inr "kinds" : Key), V.int 1), ((Sum.inr "wide" : Key), V.int 4)] = kv at wk ⊢
  have s3 := same_new hsc (.dK kv)
  have h3 : upd H2 sc (.dK kv) sc = some (.dK kv) := upd_same
  generalize upd H2 sc (.dK kv) = H3 at s3 h3 ⊢
  obtain ⟨x1, e1, mx1⟩ := strs_in (xs := xw) (i := 1) (by decide) (by omega)
  refine ⟨_, rfl, rk, _, _, .str x1, rfl, rfl, SqL.of (s3 _ _ rk2), e1, d, l, sc, kv, x1, rfl, D2.same s3, h3, wk, nsd, fun pt w ws H4 D4 o4 h4 ok4 => ⟨by show 1 ≤ sizeLine; decide, fun lr hlr => ?_⟩⟩
  have oo4 := oo2.trans ((Out.of (d := d) (l := l) s3).trans o4)
  have nlr := (deal_new D4 hlr).2
  have flr : H lr = none := out_fresh D4 oo4 hlr
  have rk4 := deal_keep (D2.same s3) (s3 _ _ rk2) nrk o4
  have nkr : rk ≠ lr := ne_of_none rk4 hlr
  have s5 := same_new hlr (.lst [.ref pt])
  have h5 : upd H4 lr (.lst [.ref pt]) lr = some (.lst (refs [.thr pt w x1 ws])) := upd_same
  have h45 := s5 _ _ h4
  have rk5 := s5 _ _ rk4
  have D5 := D4.same s5
  have oo5 := oo4.trans (Out.of (d := d) (l := l) s5)
  generalize upd H4 lr (.lst [.ref pt]) = H5 at s5 h5 h45 rk5 D5 oo5 ⊢
  refine ⟨_, rfl, 1 + m1, rfl, by omega, by omega, for_rangeA (n := (1 + m1).toNat) (fun i σ G => ∃ (rs : List Rw) (v4 v5 : Option V), σ = [some (.ref d), some (.ref rk), some (.int (1 + m1)), some (.ref lr), v4, v5] ∧ Deal G d l ∧ Out d l H G ∧ G rk = some (.lst (xw.map V.str)) ∧ G lr = some (.lst (refs rs)) ∧ RwsH G rs ∧ cntL rs = i + 1 ∧ depL rs = 0 ∧ OkL xw rs)
    ⟨[.thr pt w x1 ws], _, _, rfl, D5, oo5, rk5, h5, ⟨⟨h45, ok4⟩, trivial⟩, rfl, rfl, OkL.one (fun t ht => absurd ht List.not_mem_nil) OkL.nil⟩ ?_ ?_⟩
  · rintro D' i σ G hi ⟨rs, v4, v5, rfl, D6, o6, rk6, h6, hR, hc, hdp, hok⟩
    have li := len_cnt rs
    obtain ⟨x2, e2, mx2⟩ := strs_in (xs := xw) (i := 2 + (0 + (i : Int))) (by omega) (by omega)
    obtain ⟨x3, e3, mx3⟩ := strs_in (xs := xw) (i := 1 + (0 + (i : Int))) (by omega) (by omega)
    refine ⟨_, rfl, .inl ⟨rfl, _, SqL.of h6⟩, _, rfl, _, rfl, _, _, rfl, rfl, rk, _, _, .str x2, rfl, rfl, SqL.of rk6, e2, _, rfl, _, rfl, _, _, rfl, rfl, rk, _, _, .str x3, rfl, rfl, SqL.of rk6, e3, by show 2 ≤ sizeLine; decide, fun q1 hq1 => ⟨_, rfl, by show 2 ≤ sizeLine; decide, fun q2 hq2 => ⟨by show 4 ≤ sizeLine; decide, fun q3 hq3 => ⟨by show 3 ≤ sizeLine; decide, fun q4 hq4 => ?_⟩⟩⟩⟩
    have t1 := same_new hq1 (.tup [.str "name", .str x3])
    have g1 : upd G q1 (.tup [.str "name", .str x3]) q1 = some (.tup [.str "name", .str x3]) := upd_same
    generalize upd G q1 (.tup [.str "name", .str x3]) = G1 at t1 g1 hq2 hq3 hq4 ⊢
    have t2 := same_new hq2 (.tup [.str "num", .int (0 + (i : Int))])
    have g2 : upd G1 q2 (.tup [.str "num", .int (0 + (i : Int))]) q2 = some (.tup [.str "num", .int (0 + (i : Int))]) := upd_same
    generalize upd G1 q2 (.tup [.str "num", .int (0 + (i : Int))]) = G2 at t2 g2 hq3 hq4 ⊢
    have t3 := same_new hq3 (.tup [.str "op", .str "+", .ref q1, .ref q2])
    have g3 : upd G2 q3 (.tup [.str "op", .str "+", .ref q1, .ref q2]) q3 = some (.tup [.str "op", .str "+", .ref q1, .ref q2]) := upd_same
    generalize upd G2 q3 (.tup [.str "op", .str "+", .ref q1, .ref q2]) = G3 at t3 g3 hq4 ⊢
    have t4 := same_new hq4 (.tup [.str "let", .str x2, .ref q3])
    have g4 : upd G3 q4 (.tup [.str "let", .str x2, .ref q3]) q4 = some (.tup [.str "let", .str x2, .ref q3]) := upd_same
    generalize upd G3 q4 (.tup [.str "let", .str x2, .ref q3]) = G4 at t4 g4 ⊢
    have t14 := t1.trans (t2.trans (t3.trans t4))
    have h64 := t14 _ _ h6
    refine ⟨lr, _, _, rfl, rfl, h64, big4 (by rw [refs_len]; omega), ?_⟩
    have tz := TS.lst (ys := refs rs ++ [.ref q4]) h64
    refine ⟨rs ++ [.lt q4 x2 (.op q3 "+" (.nam q1 x3) (.num q2 (0 + (i : Int))))], _, _, rfl, deal_lst (D6.same t14) h64 nlr, out_lst (o6.trans (Out.of t14)) flr, (upd_ne nkr).trans (t14 _ _ rk6), by rw [upd_same, refs_app]; rfl, RwsH.app (qs := [.lt q4 x2 (.op q3 "+" (.nam q1 x3) (.num q2 (0 + (i : Int))))]) (RwsH.ts ((TS.of t14).trans tz) rs hR) ⟨⟨tz _ _ g4, tz _ _ (t4 _ _ g3), tz _ _ ((t2.trans (t3.trans t4)) _ _ g1), tz _ _ ((t3.trans t4) _ _ g2)⟩, trivial⟩, ?_, ?_, OkL.app hok (OkL.one (fun t ht => ?_) OkL.nil)⟩
    · rw [cntL_app, hc]; rfl
    · rw [depL_app, hdp]; rfl
    · rw [List.mem_singleton.mp ht]
      refine ⟨by simp only [Tm.size]; decide, fun y hy => ?_⟩
      have hy : y ∈ ([x3] : List Str) := by simpa [Tm.names] using hy
      rw [List.mem_singleton.mp hy]
      exact mx3
  · rintro σ G ⟨rs, v4, v5, rfl, D6, o6, rk6, h6, hR, hc, hdp, hok⟩
    have li := len_cnt rs
    obtain ⟨mn, hmn, n0, n1, n2⟩ : ∃ mn : Int, (if 1 + m1 + 1 < (3 : Int) then 1 + m1 + 1 else 3) = mn ∧ 1 ≤ mn ∧ mn ≤ 3 ∧ mn ≤ 2 + m1 := ⟨_, rfl, by split <;> omega, by split <;> omega, by split <;> omega⟩
    refine ⟨_, rfl, _, rfl, _, rfl, _, _, rfl, rfl, 3, 1 + m1 + 1, rfl, ?_⟩
    rw [hmn]
    refine ⟨d, l, mn, rfl, D6, by omega, by omega, fun z H7 z0 z1 D7 o7 => ⟨_, _, rfl, rfl, ?_⟩⟩
    have rk7 := deal_keep D6 rk6 nrk o7
    have h7 := deal_keep D6 h6 nlr o7
    obtain ⟨x4, e4, mx4⟩ := strs_in (xs := xw) (i := 1 + (1 + m1 - z)) (by omega) (by omega)
    refine ⟨_, rfl, 1, rfl, rk, _, rfl, SqL.of rk7, fun l8 hl8 => ⟨l8, _, rfl, .inl ⟨SqL.of upd_same, fun t8 ht8 => ?_⟩⟩⟩
    have s8 := (same_new hl8 (.lst (cutV (xw.map V.str) none (some 1)))).trans (same_new ht8 (.tup (cutV (xw.map V.str) none (some 1))))
    generalize upd (upd H7 l8 (.lst (cutV (xw.map V.str) none (some 1)))) t8 (.tup (cutV (xw.map V.str) none (some 1))) = H8 at s8 ⊢
    refine ⟨_, rfl, lr, _, rfl, .inl ⟨SqL.of (s8 _ _ h7), fun t9 ht9 => ?_⟩⟩
    have s9 := s8.trans (same_new ht9 (.tup (refs rs)))
    have h9 : upd H8 t9 (.tup (refs rs)) t9 = some (.tup (refs rs)) := upd_same
    generalize upd H8 t9 (.tup (refs rs)) = H9 at s9 h9 ⊢
    refine ⟨_, rfl, _, rfl, _, _, rfl, rfl, rk, _, _, .str x4, rfl, rfl, SqL.of (s9 _ _ rk7), e4, by show 2 ≤ sizeLine; decide, fun q1 hq1 => ⟨by show 2 ≤ sizeLine; decide, fun q2 hq2 => ⟨by show 1 ≤ sizeLine; decide, fun q3 hq3 => ?_⟩⟩⟩
    have t1 := same_new hq1 (.tup [.str "name", .str x4])
    have g1 : upd H9 q1 (.tup [.str "name", .str x4]) q1 = some (.tup [.str "name", .str x4]) := upd_same
    generalize upd H9 q1 (.tup [.str "name", .str x4]) = G1 at t1 g1 hq2 hq3 ⊢
    have t2 := same_new hq2 (.tup [.str "tell", .ref q1])
    have g2 : upd G1 q2 (.tup [.str "tell", .ref q1]) q2 = some (.tup [.str "tell", .ref q1]) := upd_same
    generalize upd G1 q2 (.tup [.str "tell", .ref q1]) = G2 at t2 g2 hq3 ⊢
    have t3 := same_new hq3 (.tup [.ref q2])
    have g3 : upd G2 q3 (.tup [.ref q2]) q3 = some (.tup [.ref q2]) := upd_same
    generalize upd G2 q3 (.tup [.ref q2]) = G3 at t3 g3 ⊢
    have t13 := t1.trans (t2.trans t3)
    refine ⟨t9, q3, refs rs, [.ref q2], rfl, rfl, t13 _ _ h9, g3, Nat.le_of_lt (big4 (by rw [refs_len]; show rs.length + 1 ≤ _; omega)), fun rz HC sC hC => ⟨by show 2 ≤ sizeLine; decide, fun p hp => ?_⟩⟩
    have sD := sC.trans (same_new hp (.tup [.ref t8, .ref rz]))
    have sE := s9.trans (t13.trans sD)
    have tE := (TS.out D6 o7).trans (TS.of sE)
    refine k p xw (rs ++ [.tell q2 (.nam q1 x4)]) _ (D7.same sE) (o6.trans (o7.trans (.of sE))) ⟨⟨_, rz, upd_same, ?_⟩, RwsH.app (qs := [.tell q2 (.nam q1 x4)]) (RwsH.ts tE rs hR) ⟨⟨(t3.trans sD) _ _ g2, (t2.trans (t3.trans sD)) _ _ g1⟩, trivial⟩, ?_, ?_, OkL.app hok (OkL.one (fun t ht => ?_) OkL.nil), by omega, so1⟩
    · rw [(same_new hp _) _ _ hC, refs_app]; rfl
    · rw [cntL_app, hc]
      show (1 + m1).toNat + 1 + 1 ≤ 1300
      omega
    · rw [depL_app, hdp]; show max 0 (max 0 0) ≤ 3; decide
    · rw [List.mem_singleton.mp ht]
      refine ⟨by show 1 ≤ 7; decide, fun y hy => ?_⟩
      have hy : y ∈ ([x4] : List Str) := hy
      rw [List.mem_singleton.mp hy]
      exact mx4
end
end Mine
namespace Mine
open PySem L2
section
variable {P : Program} {w : World} {K : PySem.W.Frag} {mg : Str → Option Value} {base : Heap}
theorem scLaw : FnScope ["_law_script", "_law_deal_here", "_law_one", "_law_other", "_law_chain_here"] ["_law_script"] (defScope sLaw) := ⟨rfl, rfl, rfl, by decide +kernel, rfl, by decide +kernel, by decide +kernel⟩
theorem ok_Law {f : Addr} {fd : FuncData} (F : Fun K "law" "law" sLaw f fd)
    {f_Deal : Addr} {d_Deal : FuncData} (G_Deal : FnOk P w K mg base CX0 (1) f_Deal d_Deal ["_law_script", "_law_base"] (spDeal K)) (b_Deal : Binds K d_Deal ["_law_script", "_law_base"] []) (k_Deal : PySem.W.keepIn K (.ref f_Deal) = true) (m_Deal : mg "_law_deal" = some (.ref f_Deal))
    {f_Prg : Addr} {d_Prg : FuncData} (G_Prg : FnOk P w K mg base CX0 (18) f_Prg d_Prg ["_law_deal_here", "_law_kinds", "_law_throws", "_law_wide"] spPrg) (b_Prg : Binds K d_Prg ["_law_deal_here", "_law_kinds", "_law_throws", "_law_wide"] []) (k_Prg : PySem.W.keepIn K (.ref f_Prg) = true) (m_Prg : mg "_law_program" = some (.ref f_Prg))
    {f_Chn : Addr} {d_Chn : FuncData} (G_Chn : FnOk P w K mg base CX0 (4) f_Chn d_Chn ["_law_deal_here"] spChn) (b_Chn : Binds K d_Chn ["_law_deal_here"] []) (k_Chn : PySem.W.keepIn K (.ref f_Chn) = true) (m_Chn : mg "_law_chain" = some (.ref f_Chn))
    {f_Rgt : Addr} {d_Rgt : FuncData} (G_Rgt : FnOk P w K mg base CX0 (10) f_Rgt d_Rgt ["_law_program_here"] spRgt) (b_Rgt : Binds K d_Rgt ["_law_program_here"] []) (k_Rgt : PySem.W.keepIn K (.ref f_Rgt) = true) (m_Rgt : mg "_law_right" = some (.ref f_Rgt))
     :
    FnOk P w K mg base CX0 (19) f fd ["_law_script"] (spLaw K) := by
  refine F.ok scLaw (fun vs H Q E h => ?_) (fun cdv A outer s H vs Q E hr h => ?_)
  · obtain ⟨a, ns, rfl, _⟩ := h
    rfl
  obtain ⟨a, ns, rfl, hS, hlen, k⟩ := h
  have hu := hu_of hr
  have hr1 : Room 1 _ := hr.mono (by decide)
  have hr4 : Room 4 _ := hr.mono (by decide)
  have hr10 : Room 10 _ := hr.mono (by decide)
  have hr18 : Room 18 _ := hr.mono (by decide)
  refine ⟨_, (pss_cons (ps_set (i := 1) scLaw.nd rfl (Or.inl rfl) (pe_call G_Deal hr1 (by rfl) m_Deal k_Deal b_Deal .nil pass0 (pa_cons (pv 0) (pa_cons pe_int pa_nil))))
    (pss_cons (ps_set (i := 2) scLaw.nd rfl (Or.inl rfl) (pe_call G_Prg hr18 (by rfl) m_Prg k_Prg b_Prg .nil pass0 (pa_cons (pv 1) (pa_cons pe_int (pa_cons pe_int (pa_cons pe_int pa_nil))))))
    (pss_cons (ps_set (i := 3) scLaw.nd rfl (Or.inl rfl) (pe_call G_Prg hr18 (by rfl) m_Prg k_Prg b_Prg .nil pass0 (pa_cons (pv 1) (pa_cons pe_int (pa_cons pe_int (pa_cons pe_int pa_nil))))))
    (pss_cons (ps_set (i := 4) scLaw.nd rfl (Or.inl rfl) (pe_call G_Chn hr4 (by rfl) m_Chn k_Chn b_Chn .nil pass0 (pa_cons (pv 1) pa_nil)))
    (pss_one (ps_ret (pe_and (pe_call G_Rgt hr10 (by rfl) m_Rgt k_Rgt b_Rgt .nil pass0 (pa_cons (pv 2) pa_nil)) (pe_and (pe_call G_Rgt hr10 (by rfl) m_Rgt k_Rgt b_Rgt .nil pass0 (pa_cons (pv 3) pa_nil)) (pe_and (pe_call G_Rgt hr10 (by rfl) m_Rgt k_Rgt b_Rgt .nil pass0 (pa_cons (pv 4) pa_nil)) (pe_one (pe_call G_Rgt hr10 (by rfl) m_Rgt k_Rgt b_Rgt .nil pass0 (pa_cons (pv 2) pa_nil)))))))))))), ?_⟩
  refine ⟨_, rfl, a, ns, 0, rfl, hS, hlen, by decide, by decide, fun d l H1 nd nl D1 s1 => ?_⟩
  refine ⟨_, rfl, d, l, rfl, D1, fun p2 x2 r2 H2 D2 o2 P2 => ?_⟩
  refine ⟨_, rfl, d, l, rfl, D2, fun p3 x3 r3 H3 D3 o3 P3 => ?_⟩
  refine ⟨_, rfl, d, l, rfl, D3, fun p4 x4 r4 H4 D4 o4 P4 => ?_⟩
  have P3' := P3.ts (TS.out D3 o4)
  have P2' := P2.ts ((TS.out D2 o3).trans (TS.out D3 o4))
  refine ⟨_, rfl, p2, x2, r2, rfl, P2', fun G1 g1 => ⟨_, rfl, iteP rfl ?_⟩⟩
  refine ⟨_, rfl, p3, x3, r3, rfl, P3'.ts (.of g1), fun G2 g2 => ⟨_, rfl, iteP rfl ?_⟩⟩
  refine ⟨_, rfl, p4, x4, r4, rfl, P4.ts (.of (g1.trans g2)), fun G3 g3 => ⟨_, rfl, iteP rfl ?_⟩⟩
  exact ⟨_, rfl, p2, x2, r2, rfl, P2'.ts (.of (g1.trans (g2.trans g3))), fun G4 g4 => k _⟩
end
end Mine
namespace L2
open PySem PySem.Spec PyProof.Rows
/-! ### how arguments bind, by their number -/
theorem len_cons {α : Type} {n : Nat} {us : List α} (h : us.length = n + 1) : ∃ u r, us = u :: r ∧ r.length = n := by
  cases us with
  | nil => cases h
  | cons u r => exact ⟨u, r, rfl, Nat.succ.inj h⟩
section
variable {K : PySem.W.Frag} {x qual : Str} {st : Stmt} {f : Addr} {fd : FuncData} {p1 p2 p3 p4 p5 : Str}
theorem Fun.b1 (F : Fun K x qual st f fd) (h : ∀ (kV doc pm : Value) (an : Option Addr) (cdv ct u1 : Value), bindArgs (PySem.W.fnOf x qual (defArgs st) (defBody st) (defScope st) .none kV doc pm an cdv ct) ⟨[u1], []⟩ = pure [(p1, u1)]) : Binds K fd [p1] [] := by
  refine F.binds fun kV doc pm an cdv ct us h0 => ?_
  obtain ⟨u1, r1, rfl, h1⟩ := len_cons (n := 0) h0
  cases List.length_eq_zero_iff.mp h1
  exact h kV doc pm an cdv ct u1
theorem Fun.b2 (F : Fun K x qual st f fd) (h : ∀ (kV doc pm : Value) (an : Option Addr) (cdv ct u1 u2 : Value), bindArgs (PySem.W.fnOf x qual (defArgs st) (defBody st) (defScope st) .none kV doc pm an cdv ct) ⟨[u1, u2], []⟩ = pure [(p1, u1), (p2, u2)]) : Binds K fd [p1, p2] [] := by
  refine F.binds fun kV doc pm an cdv ct us h0 => ?_
  obtain ⟨u1, r1, rfl, h1⟩ := len_cons (n := 1) h0
  obtain ⟨u2, r2, rfl, h2⟩ := len_cons (n := 0) h1
  cases List.length_eq_zero_iff.mp h2
  exact h kV doc pm an cdv ct u1 u2
theorem Fun.b3 (F : Fun K x qual st f fd) (h : ∀ (kV doc pm : Value) (an : Option Addr) (cdv ct u1 u2 u3 : Value), bindArgs (PySem.W.fnOf x qual (defArgs st) (defBody st) (defScope st) .none kV doc pm an cdv ct) ⟨[u1, u2, u3], []⟩ = pure [(p1, u1), (p2, u2), (p3, u3)]) : Binds K fd [p1, p2, p3] [] := by
  refine F.binds fun kV doc pm an cdv ct us h0 => ?_
  obtain ⟨u1, r1, rfl, h1⟩ := len_cons (n := 2) h0
  obtain ⟨u2, r2, rfl, h2⟩ := len_cons (n := 1) h1
  obtain ⟨u3, r3, rfl, h3⟩ := len_cons (n := 0) h2
  cases List.length_eq_zero_iff.mp h3
  exact h kV doc pm an cdv ct u1 u2 u3
theorem Fun.b4 (F : Fun K x qual st f fd) (h : ∀ (kV doc pm : Value) (an : Option Addr) (cdv ct u1 u2 u3 u4 : Value), bindArgs (PySem.W.fnOf x qual (defArgs st) (defBody st) (defScope st) .none kV doc pm an cdv ct) ⟨[u1, u2, u3, u4], []⟩ = pure [(p1, u1), (p2, u2), (p3, u3), (p4, u4)]) : Binds K fd [p1, p2, p3, p4] [] := by
  refine F.binds fun kV doc pm an cdv ct us h0 => ?_
  obtain ⟨u1, r1, rfl, h1⟩ := len_cons (n := 3) h0
  obtain ⟨u2, r2, rfl, h2⟩ := len_cons (n := 2) h1
  obtain ⟨u3, r3, rfl, h3⟩ := len_cons (n := 1) h2
  obtain ⟨u4, r4, rfl, h4⟩ := len_cons (n := 0) h3
  cases List.length_eq_zero_iff.mp h4
  exact h kV doc pm an cdv ct u1 u2 u3 u4
theorem Fun.b5 (F : Fun K x qual st f fd) (h : ∀ (kV doc pm : Value) (an : Option Addr) (cdv ct u1 u2 u3 u4 u5 : Value), bindArgs (PySem.W.fnOf x qual (defArgs st) (defBody st) (defScope st) .none kV doc pm an cdv ct) ⟨[u1, u2, u3, u4, u5], []⟩ = pure [(p1, u1), (p2, u2), (p3, u3), (p4, u4), (p5, u5)]) : Binds K fd [p1, p2, p3, p4, p5] [] := by
  refine F.binds fun kV doc pm an cdv ct us h0 => ?_
  obtain ⟨u1, r1, rfl, h1⟩ := len_cons (n := 4) h0
  obtain ⟨u2, r2, rfl, h2⟩ := len_cons (n := 3) h1
  obtain ⟨u3, r3, rfl, h3⟩ := len_cons (n := 2) h2
  obtain ⟨u4, r4, rfl, h4⟩ := len_cons (n := 1) h3
  obtain ⟨u5, r5, rfl, h5⟩ := len_cons (n := 0) h4
  cases List.length_eq_zero_iff.mp h5
  exact h kV doc pm an cdv ct u1 u2 u3 u4 u5
end
end L2
namespace L2
open PySem PySem.Spec PyProof.Rows
section
variable {K : PySem.W.Frag} {x qual : Str} {st : Stmt} {f : Addr} {fd : FuncData} {p1 p2 p3 p4 p5 p6 : Str}
theorem Fun.b6 (F : Fun K x qual st f fd) (h : ∀ (kV doc pm : Value) (an : Option Addr) (cdv ct u1 u2 u3 u4 u5 u6 : Value), bindArgs (PySem.W.fnOf x qual (defArgs st) (defBody st) (defScope st) .none kV doc pm an cdv ct) ⟨[u1, u2, u3, u4, u5, u6], []⟩ = pure [(p1, u1), (p2, u2), (p3, u3), (p4, u4), (p5, u5), (p6, u6)]) : Binds K fd [p1, p2, p3, p4, p5, p6] [] := by
  refine F.binds fun kV doc pm an cdv ct us h0 => ?_
  obtain ⟨u1, r1, rfl, h1⟩ := len_cons (n := 5) h0
  obtain ⟨u2, r2, rfl, h2⟩ := len_cons (n := 4) h1
  obtain ⟨u3, r3, rfl, h3⟩ := len_cons (n := 3) h2
  obtain ⟨u4, r4, rfl, h4⟩ := len_cons (n := 2) h3
  obtain ⟨u5, r5, rfl, h5⟩ := len_cons (n := 1) h4
  obtain ⟨u6, r6, rfl, h6⟩ := len_cons (n := 0) h5
  cases List.length_eq_zero_iff.mp h6
  exact h kV doc pm an cdv ct u1 u2 u3 u4 u5 u6
end
end L2
namespace Mine
open PySem L2
theorem fn_no {P : Program} {w : World} {K : PySem.W.Frag} {mg : Str → Option Value} {base : Heap} {CX : CXT} {k : Nat} {f : Addr} {fd : FuncData} {ps : List Str} : FnOk P w K mg base CX k f fd ps (fun _ _ _ _ => False) :=
  ⟨fun _ _ _ _ h => h.elim, fun _ _ _ _ _ _ _ _ _ _ _ _ _ h => h.elim⟩
theorem all_mk {l : PySem.W.OpenLaw} {w : World} {K : PySem.W.Frag} {h : Heap} {mg : Str → Option Value} {fa f1 f2 f3 f4 f5 f6 f7 f8 f9 f10 f11 f12 f13 f14 f15 f16 f17 f18 f19 f20 f21 f22 f23 f24 f25 f26 f27 f28 f29 : Addr} (X : K.In h) (G : h.Ns mainGlobals mg) (hfa : mg "law" = some (.ref fa))
    {od1 an1 od2 an2 od3 an3 od4 an4 od5 an5 od6 an6 od7 an7 od8 an8 od9 an9 od10 an10 od11 an11 od12 an12 od13 an13 od14 an14 od15 an15 od16 an16 od17 an17 od18 an18 od19 an19 od20 an20 od21 an21 od22 an22 od23 an23 od24 an24 od25 an25 od26 an26 od27 an27 od28 an28 od29 an29 : Option Addr} {sl1 sl2 sl3 sl4 sl5 sl6 sl7 sl8 sl9 sl10 sl11 sl12 sl13 sl14 sl15 sl16 sl17 sl18 sl19 sl20 sl21 sl22 sl23 sl24 sl25 sl26 sl27 sl28 sl29 : Array (Option Value)} {oc1 kV1 dc1 pm1 cd1 ct1 oc2 kV2 dc2 pm2 cd2 ct2 oc3 kV3 dc3 pm3 cd3 ct3 oc4 kV4 dc4 pm4 cd4 ct4 oc5 kV5 dc5 pm5 cd5 ct5 oc6 kV6 dc6 pm6 cd6 ct6 oc7 kV7 dc7 pm7 cd7 ct7 oc8 kV8 dc8 pm8 cd8 ct8 oc9 kV9 dc9 pm9 cd9 ct9 oc10 kV10 dc10 pm10 cd10 ct10 oc11 kV11 dc11 pm11 cd11 ct11 oc12 kV12 dc12 pm12 cd12 ct12 oc13 kV13 dc13 pm13 cd13 ct13 oc14 kV14 dc14 pm14 cd14 ct14 oc15 kV15 dc15 pm15 cd15 ct15 oc16 kV16 dc16 pm16 cd16 ct16 oc17 kV17 dc17 pm17 cd17 ct17 oc18 kV18 dc18 pm18 cd18 ct18 oc19 kV19 dc19 pm19 cd19 ct19 oc20 kV20 dc20 pm20 cd20 ct20 oc21 kV21 dc21 pm21 cd21 ct21 oc22 kV22 dc22 pm22 cd22 ct22 oc23 kV23 dc23 pm23 cd23 ct23 oc24 kV24 dc24 pm24 cd24 ct24 oc25 kV25 dc25 pm25 cd25 ct25 oc26 kV26 dc26 pm26 cd26 ct26 oc27 kV27 dc27 pm27 cd27 ct27 oc28 kV28 dc28 pm28 cd28 ct28 oc29 kV29 dc29 pm29 cd29 ct29 : Value}
    {xcT : Addr} {odT : Option Addr} {itsT : Array Value} {nT : Nat} {slT : Array (Option Value)}
    (a1 : PySem.W.nsIn K mainGlobals "parts_of" = some (some (.ref f1))) (l1 : K.lookup f1 = some ⟨oc1, od1, .func (PySem.W.fnOf "parts_of" "parts_of" (defArgs sPrt) (defBody sPrt) (defScope sPrt) .none kV1 dc1 pm1 an1 cd1 ct1), sl1⟩) (c1 : PySem.W.codeIn K cd1 "parts_of" = true) (k1 : PySem.W.keepIn K (.ref f1) = true)
    (a2 : PySem.W.nsIn K mainGlobals "names_in" = some (some (.ref f2))) (l2 : K.lookup f2 = some ⟨oc2, od2, .func (PySem.W.fnOf "names_in" "names_in" (defArgs sNmI) (defBody sNmI) (defScope sNmI) .none kV2 dc2 pm2 an2 cd2 ct2), sl2⟩) (c2 : PySem.W.codeIn K cd2 "names_in" = true) (k2 : PySem.W.keepIn K (.ref f2) = true)
    (a3 : PySem.W.nsIn K mainGlobals "sets_name" = some (some (.ref f3))) (l3 : K.lookup f3 = some ⟨oc3, od3, .func (PySem.W.fnOf "sets_name" "sets_name" (defArgs sSeN) (defBody sSeN) (defScope sSeN) .none kV3 dc3 pm3 an3 cd3 ct3), sl3⟩) (c3 : PySem.W.codeIn K cd3 "sets_name" = true) (k3 : PySem.W.keepIn K (.ref f3) = true)
    (a4 : PySem.W.nsIn K mainGlobals "names_asked" = some (some (.ref f4))) (l4 : K.lookup f4 = some ⟨oc4, od4, .func (PySem.W.fnOf "names_asked" "names_asked" (defArgs sAsk) (defBody sAsk) (defScope sAsk) .none kV4 dc4 pm4 an4 cd4 ct4), sl4⟩) (c4 : PySem.W.codeIn K cd4 "names_asked" = true) (k4 : PySem.W.keepIn K (.ref f4) = true)
    (a5 : PySem.W.nsIn K mainGlobals "as_steps" = some (some (.ref f5))) (l5 : K.lookup f5 = some ⟨oc5, od5, .func (PySem.W.fnOf "as_steps" "as_steps" (defArgs sAsS) (defBody sAsS) (defScope sAsS) .none kV5 dc5 pm5 an5 cd5 ct5), sl5⟩) (c5 : PySem.W.codeIn K cd5 "as_steps" = true) (k5 : PySem.W.keepIn K (.ref f5) = true)
    (a6 : PySem.W.nsIn K mainGlobals "inner_steps" = some (some (.ref f6))) (l6 : K.lookup f6 = some ⟨oc6, od6, .func (PySem.W.fnOf "inner_steps" "inner_steps" (defArgs sInn) (defBody sInn) (defScope sInn) .none kV6 dc6 pm6 an6 cd6 ct6), sl6⟩) (c6 : PySem.W.codeIn K cd6 "inner_steps" = true) (k6 : PySem.W.keepIn K (.ref f6) = true)
    (a7 : PySem.W.nsIn K mainGlobals "steps_of" = some (some (.ref f7))) (l7 : K.lookup f7 = some ⟨oc7, od7, .func (PySem.W.fnOf "steps_of" "steps_of" (defArgs sSts) (defBody sSts) (defScope sSts) .none kV7 dc7 pm7 an7 cd7 ct7), sl7⟩) (c7 : PySem.W.codeIn K cd7 "steps_of" = true) (k7 : PySem.W.keepIn K (.ref f7) = true)
    (a8 : PySem.W.nsIn K mainGlobals "rows_in" = some (some (.ref f8))) (l8 : K.lookup f8 = some ⟨oc8, od8, .func (PySem.W.fnOf "rows_in" "rows_in" (defArgs sRwI) (defBody sRwI) (defScope sRwI) .none kV8 dc8 pm8 an8 cd8 ct8), sl8⟩) (c8 : PySem.W.codeIn K cd8 "rows_in" = true) (k8 : PySem.W.keepIn K (.ref f8) = true)
    (a9 : PySem.W.nsIn K mainGlobals "names_behind" = some (some (.ref f9))) (l9 : K.lookup f9 = some ⟨oc9, od9, .func (PySem.W.fnOf "names_behind" "names_behind" (defArgs sNmB) (defBody sNmB) (defScope sNmB) .none kV9 dc9 pm9 an9 cd9 ct9), sl9⟩) (c9 : PySem.W.codeIn K cd9 "names_behind" = true) (k9 : PySem.W.keepIn K (.ref f9) = true)
    (a10 : PySem.W.nsIn K mainGlobals "needed" = some (some (.ref f10))) (l10 : K.lookup f10 = some ⟨oc10, od10, .func (PySem.W.fnOf "needed" "needed" (defArgs sNed) (defBody sNed) (defScope sNed) .none kV10 dc10 pm10 an10 cd10 ct10), sl10⟩) (c10 : PySem.W.codeIn K cd10 "needed" = true) (k10 : PySem.W.keepIn K (.ref f10) = true)
    (a11 : PySem.W.nsIn K mainGlobals "is_idle" = some (some (.ref f11))) (l11 : K.lookup f11 = some ⟨oc11, od11, .func (PySem.W.fnOf "is_idle" "is_idle" (defArgs sIsI) (defBody sIsI) (defScope sIsI) .none kV11 dc11 pm11 an11 cd11 ct11), sl11⟩) (c11 : PySem.W.codeIn K cd11 "is_idle" = true) (k11 : PySem.W.keepIn K (.ref f11) = true)
    (a12 : PySem.W.nsIn K mainGlobals "idle" = some (some (.ref f12))) (l12 : K.lookup f12 = some ⟨oc12, od12, .func (PySem.W.fnOf "idle" "idle" (defArgs sIdl) (defBody sIdl) (defScope sIdl) .none kV12 dc12 pm12 an12 cd12 ct12), sl12⟩) (c12 : PySem.W.codeIn K cd12 "idle" = true) (k12 : PySem.W.keepIn K (.ref f12) = true)
    (a13 : PySem.W.nsIn K mainGlobals "_law_deal" = some (some (.ref f13))) (l13 : K.lookup f13 = some ⟨oc13, od13, .func (PySem.W.fnOf "_law_deal" "_law_deal" (defArgs sDeal) (defBody sDeal) (defScope sDeal) .none kV13 dc13 pm13 an13 cd13 ct13), sl13⟩) (c13 : PySem.W.codeIn K cd13 "_law_deal" = true) (k13 : PySem.W.keepIn K (.ref f13) = true)
    (a14 : PySem.W.nsIn K mainGlobals "_law_draw" = some (some (.ref f14))) (l14 : K.lookup f14 = some ⟨oc14, od14, .func (PySem.W.fnOf "_law_draw" "_law_draw" (defArgs sDraw) (defBody sDraw) (defScope sDraw) .none kV14 dc14 pm14 an14 cd14 ct14), sl14⟩) (c14 : PySem.W.codeIn K cd14 "_law_draw" = true) (k14 : PySem.W.keepIn K (.ref f14) = true)
    (a15 : PySem.W.nsIn K mainGlobals "_law_names" = some (some (.ref f15))) (l15 : K.lookup f15 = some ⟨oc15, od15, .func (PySem.W.fnOf "_law_names" "_law_names" (defArgs sNms) (defBody sNms) (defScope sNms) .none kV15 dc15 pm15 an15 cd15 ct15), sl15⟩) (c15 : PySem.W.codeIn K cd15 "_law_names" = true) (k15 : PySem.W.keepIn K (.ref f15) = true)
    (a16 : PySem.W.nsIn K mainGlobals "_law_steep" = some (some (.ref f16))) (l16 : K.lookup f16 = some ⟨oc16, od16, .func (PySem.W.fnOf "_law_steep" "_law_steep" (defArgs sStp) (defBody sStp) (defScope sStp) .none kV16 dc16 pm16 an16 cd16 ct16), sl16⟩) (c16 : PySem.W.codeIn K cd16 "_law_steep" = true) (k16 : PySem.W.keepIn K (.ref f16) = true)
    (a17 : PySem.W.nsIn K mainGlobals "_law_sum" = some (some (.ref f17))) (l17 : K.lookup f17 = some ⟨oc17, od17, .func (PySem.W.fnOf "_law_sum" "_law_sum" (defArgs sSum) (defBody sSum) (defScope sSum) .none kV17 dc17 pm17 an17 cd17 ct17), sl17⟩) (c17 : PySem.W.codeIn K cd17 "_law_sum" = true) (k17 : PySem.W.keepIn K (.ref f17) = true)
    (a18 : PySem.W.nsIn K mainGlobals "_law_throw" = some (some (.ref f18))) (l18 : K.lookup f18 = some ⟨oc18, od18, .func (PySem.W.fnOf "_law_throw" "_law_throw" (defArgs sThw) (defBody sThw) (defScope sThw) .none kV18 dc18 pm18 an18 cd18 ct18), sl18⟩) (c18 : PySem.W.codeIn K cd18 "_law_throw" = true) (k18 : PySem.W.keepIn K (.ref f18) = true)
    (a19 : PySem.W.nsIn K mainGlobals "_law_term" = some (some (.ref f19))) (l19 : K.lookup f19 = some ⟨oc19, od19, .func (PySem.W.fnOf "_law_term" "_law_term" (defArgs sTrm) (defBody sTrm) (defScope sTrm) .none kV19 dc19 pm19 an19 cd19 ct19), sl19⟩) (c19 : PySem.W.codeIn K cd19 "_law_term" = true) (k19 : PySem.W.keepIn K (.ref f19) = true)
    (a20 : PySem.W.nsIn K mainGlobals "_law_row" = some (some (.ref f20))) (l20 : K.lookup f20 = some ⟨oc20, od20, .func (PySem.W.fnOf "_law_row" "_law_row" (defArgs sRow) (defBody sRow) (defScope sRow) .none kV20 dc20 pm20 an20 cd20 ct20), sl20⟩) (c20 : PySem.W.codeIn K cd20 "_law_row" = true) (k20 : PySem.W.keepIn K (.ref f20) = true)
    (a21 : PySem.W.nsIn K mainGlobals "_law_rows" = some (some (.ref f21))) (l21 : K.lookup f21 = some ⟨oc21, od21, .func (PySem.W.fnOf "_law_rows" "_law_rows" (defArgs sRws) (defBody sRws) (defScope sRws) .none kV21 dc21 pm21 an21 cd21 ct21), sl21⟩) (c21 : PySem.W.codeIn K cd21 "_law_rows" = true) (k21 : PySem.W.keepIn K (.ref f21) = true)
    (a22 : PySem.W.nsIn K mainGlobals "_law_program" = some (some (.ref f22))) (l22 : K.lookup f22 = some ⟨oc22, od22, .func (PySem.W.fnOf "_law_program" "_law_program" (defArgs sPrg) (defBody sPrg) (defScope sPrg) .none kV22 dc22 pm22 an22 cd22 ct22), sl22⟩) (c22 : PySem.W.codeIn K cd22 "_law_program" = true) (k22 : PySem.W.keepIn K (.ref f22) = true)
    (a23 : PySem.W.nsIn K mainGlobals "_law_listed" = some (some (.ref f23))) (l23 : K.lookup f23 = some ⟨oc23, od23, .func (PySem.W.fnOf "_law_listed" "_law_listed" (defArgs sLst) (defBody sLst) (defScope sLst) .none kV23 dc23 pm23 an23 cd23 ct23), sl23⟩) (c23 : PySem.W.codeIn K cd23 "_law_listed" = true) (k23 : PySem.W.keepIn K (.ref f23) = true)
    (a24 : PySem.W.nsIn K mainGlobals "_law_names_in" = some (some (.ref f24))) (l24 : K.lookup f24 = some ⟨oc24, od24, .func (PySem.W.fnOf "_law_names_in" "_law_names_in" (defArgs sNin) (defBody sNin) (defScope sNin) .none kV24 dc24 pm24 an24 cd24 ct24), sl24⟩) (c24 : PySem.W.codeIn K cd24 "_law_names_in" = true) (k24 : PySem.W.keepIn K (.ref f24) = true)
    (a25 : PySem.W.nsIn K mainGlobals "_law_needed" = some (some (.ref f25))) (l25 : K.lookup f25 = some ⟨oc25, od25, .func (PySem.W.fnOf "_law_needed" "_law_needed" (defArgs sLNd) (defBody sLNd) (defScope sLNd) .none kV25 dc25 pm25 an25 cd25 ct25), sl25⟩) (c25 : PySem.W.codeIn K cd25 "_law_needed" = true) (k25 : PySem.W.keepIn K (.ref f25) = true)
    (a26 : PySem.W.nsIn K mainGlobals "_law_idle" = some (some (.ref f26))) (l26 : K.lookup f26 = some ⟨oc26, od26, .func (PySem.W.fnOf "_law_idle" "_law_idle" (defArgs sLId) (defBody sLId) (defScope sLId) .none kV26 dc26 pm26 an26 cd26 ct26), sl26⟩) (c26 : PySem.W.codeIn K cd26 "_law_idle" = true) (k26 : PySem.W.keepIn K (.ref f26) = true)
    (a27 : PySem.W.nsIn K mainGlobals "_law_right" = some (some (.ref f27))) (l27 : K.lookup f27 = some ⟨oc27, od27, .func (PySem.W.fnOf "_law_right" "_law_right" (defArgs sRgt) (defBody sRgt) (defScope sRgt) .none kV27 dc27 pm27 an27 cd27 ct27), sl27⟩) (c27 : PySem.W.codeIn K cd27 "_law_right" = true) (k27 : PySem.W.keepIn K (.ref f27) = true)
    (a28 : PySem.W.nsIn K mainGlobals "_law_chain" = some (some (.ref f28))) (l28 : K.lookup f28 = some ⟨oc28, od28, .func (PySem.W.fnOf "_law_chain" "_law_chain" (defArgs sChn) (defBody sChn) (defScope sChn) .none kV28 dc28 pm28 an28 cd28 ct28), sl28⟩) (c28 : PySem.W.codeIn K cd28 "_law_chain" = true) (k28 : PySem.W.keepIn K (.ref f28) = true)
    (a29 : PySem.W.nsIn K mainGlobals "law" = some (some (.ref f29))) (l29 : K.lookup f29 = some ⟨oc29, od29, .func (PySem.W.fnOf "law" "law" (defArgs sLaw) (defBody sLaw) (defScope sLaw) .none kV29 dc29 pm29 an29 cd29 ct29), sl29⟩) (c29 : PySem.W.codeIn K cd29 "law" = true) (k29 : PySem.W.keepIn K (.ref f29) = true)
    (z_reversed : PySem.W.nsIn K mainGlobals "reversed" = some none)
    (z_tuple : PySem.W.nsIn K mainGlobals "tuple" = some none)
    (z_sorted : PySem.W.nsIn K mainGlobals "sorted" = some none)
    (z_enumerate : PySem.W.nsIn K mainGlobals "enumerate" = some none)
    (z_max : PySem.W.nsIn K mainGlobals "max" = some none)
    (z_list : PySem.W.nsIn K mainGlobals "list" = some none)
    (z_len : PySem.W.nsIn K mainGlobals "len" = some none)
    (z_range : PySem.W.nsIn K mainGlobals "range" = some none)
    (z_int : PySem.W.nsIn K mainGlobals "int" = some none)
    (z_set : PySem.W.nsIn K mainGlobals "set" = some none)
    (z_any : PySem.W.nsIn K mainGlobals "any" = some none)
    (z_isinstance : PySem.W.nsIn K mainGlobals "isinstance" = some none)
    (z_bool : PySem.W.nsIn K mainGlobals "bool" = some none)
    (z_min : PySem.W.nsIn K mainGlobals "min" = some none)
    (qT : PySem.W.nsIn K mainGlobals "THROWS" = some (some (.ref xcT)))
    (uT : K.lookup xcT = some ⟨.type "tuple", odT, .seq itsT nT, slT⟩)
    (vT : Vals (thrW.map V.str) itsT.toList) :
    ∃ fd : FuncData, (∀ (s : Shared) (v : Value), BindsTo s fd ⟨[v], []⟩ [("_law_script", v)]) ∧ ∀ base : Heap, K.In base → base.Ns mainGlobals mg → FnOk l.prog w K mg base CX0 19 fa fd ["_law_script"] (spLaw K) := by
  have e := hfa.symm.trans (PySem.W.mg_of X G a29)
  cases e
  have F1 := fun_mk (st := sPrt) l1 c1 k1
  have b1 := F1.b1 (p1 := "term") fun _ _ _ _ _ _ _ => rfl
  have m1 := PySem.W.mg_of X G a1
  have F2 := fun_mk (st := sNmI) l2 c2 k2
  have b2 := F2.b1 (p1 := "term") fun _ _ _ _ _ _ _ => rfl
  have m2 := PySem.W.mg_of X G a2
  have F3 := fun_mk (st := sSeN) l3 c3 k3
  have b3 := F3.b1 (p1 := "row") fun _ _ _ _ _ _ _ => rfl
  have m3 := PySem.W.mg_of X G a3
  have F4 := fun_mk (st := sAsk) l4 c4 k4
  have b4 := F4.b1 (p1 := "row") fun _ _ _ _ _ _ _ => rfl
  have m4 := PySem.W.mg_of X G a4
  have F5 := fun_mk (st := sAsS) l5 c5 k5
  have b5 := F5.b1 (p1 := "rows") fun _ _ _ _ _ _ _ => rfl
  have m5 := PySem.W.mg_of X G a5
  have F6 := fun_mk (st := sInn) l6 c6 k6
  have b6 := F6.b1 (p1 := "row") fun _ _ _ _ _ _ _ => rfl
  have m6 := PySem.W.mg_of X G a6
  have F7 := fun_mk (st := sSts) l7 c7 k7
  have b7 := F7.b1 (p1 := "rows") fun _ _ _ _ _ _ _ => rfl
  have m7 := PySem.W.mg_of X G a7
  have F8 := fun_mk (st := sRwI) l8 c8 k8
  have b8 := F8.b1 (p1 := "program") fun _ _ _ _ _ _ _ => rfl
  have m8 := PySem.W.mg_of X G a8
  have F9 := fun_mk (st := sNmB) l9 c9 k9
  have b9 := F9.b1 (p1 := "rows") fun _ _ _ _ _ _ _ => rfl
  have m9 := PySem.W.mg_of X G a9
  have F10 := fun_mk (st := sNed) l10 c10 k10
  have b10 := F10.b1 (p1 := "program") fun _ _ _ _ _ _ _ => rfl
  have m10 := PySem.W.mg_of X G a10
  have F11 := fun_mk (st := sIsI) l11 c11 k11
  have b11 := F11.b2 (p1 := "row") (p2 := "names") fun _ _ _ _ _ _ _ _ => rfl
  have m11 := PySem.W.mg_of X G a11
  have F12 := fun_mk (st := sIdl) l12 c12 k12
  have b12 := F12.b1 (p1 := "program") fun _ _ _ _ _ _ _ => rfl
  have m12 := PySem.W.mg_of X G a12
  have F13 := fun_mk (st := sDeal) l13 c13 k13
  have b13 := F13.b2 (p1 := "_law_script") (p2 := "_law_base") fun _ _ _ _ _ _ _ _ => rfl
  have m13 := PySem.W.mg_of X G a13
  have F14 := fun_mk (st := sDraw) l14 c14 k14
  have b14 := F14.b2 (p1 := "_law_deal_here") (p2 := "_law_many") fun _ _ _ _ _ _ _ _ => rfl
  have m14 := PySem.W.mg_of X G a14
  have F15 := fun_mk (st := sNms) l15 c15 k15
  have b15 := F15.b2 (p1 := "_law_deal_here") (p2 := "_law_many") fun _ _ _ _ _ _ _ _ => rfl
  have m15 := PySem.W.mg_of X G a15
  have F16 := fun_mk (st := sStp) l16 c16 k16
  have b16 := F16.b2 (p1 := "_law_deal_here") (p2 := "_law_half") fun _ _ _ _ _ _ _ _ => rfl
  have m16 := PySem.W.mg_of X G a16
  have F17 := fun_mk (st := sSum) l17 c17 k17
  have b17 := F17.b2 (p1 := "_law_deal_here") (p2 := "_law_many") fun _ _ _ _ _ _ _ _ => rfl
  have m17 := PySem.W.mg_of X G a17
  have F18 := fun_mk (st := sThw) l18 c18 k18
  have b18 := F18.b3 (p1 := "_law_deal_here") (p2 := "_law_world") (p3 := "_law_x") fun _ _ _ _ _ _ _ _ _ => rfl
  have m18 := PySem.W.mg_of X G a18
  have F19 := fun_mk (st := sTrm) l19 c19 k19
  have b19 := F19.b3 (p1 := "_law_deal_here") (p2 := "_law_known") (p3 := "_law_room") fun _ _ _ _ _ _ _ _ _ => rfl
  have m19 := PySem.W.mg_of X G a19
  have F20 := fun_mk (st := sRow) l20 c20 k20
  have b20 := F20.b5 (p1 := "_law_deal_here") (p2 := "_law_world") (p3 := "_law_known") (p4 := "_law_deep") (p5 := "_law_often") fun _ _ _ _ _ _ _ _ _ _ _ => rfl
  have m20 := PySem.W.mg_of X G a20
  have F21 := fun_mk (st := sRws) l21 c21 k21
  have b21 := F21.b6 (p1 := "_law_deal_here") (p2 := "_law_world") (p3 := "_law_known") (p4 := "_law_deep") (p5 := "_law_tells") (p6 := "_law_often") fun _ _ _ _ _ _ _ _ _ _ _ _ => rfl
  have m21 := PySem.W.mg_of X G a21
  have F22 := fun_mk (st := sPrg) l22 c22 k22
  have b22 := F22.b4 (p1 := "_law_deal_here") (p2 := "_law_kinds") (p3 := "_law_throws") (p4 := "_law_wide") fun _ _ _ _ _ _ _ _ _ _ => rfl
  have m22 := PySem.W.mg_of X G a22
  have F23 := fun_mk (st := sLst) l23 c23 k23
  have b23 := F23.b1 (p1 := "_law_rows_here") fun _ _ _ _ _ _ _ => rfl
  have m23 := PySem.W.mg_of X G a23
  have F24 := fun_mk (st := sNin) l24 c24 k24
  have b24 := F24.b1 (p1 := "_law_term_here") fun _ _ _ _ _ _ _ => rfl
  have m24 := PySem.W.mg_of X G a24
  have F25 := fun_mk (st := sLNd) l25 c25 k25
  have b25 := F25.b1 (p1 := "_law_program_here") fun _ _ _ _ _ _ _ => rfl
  have m25 := PySem.W.mg_of X G a25
  have F26 := fun_mk (st := sLId) l26 c26 k26
  have b26 := F26.b2 (p1 := "_law_row_here") (p2 := "_law_names_here") fun _ _ _ _ _ _ _ _ => rfl
  have m26 := PySem.W.mg_of X G a26
  have F27 := fun_mk (st := sRgt) l27 c27 k27
  have b27 := F27.b1 (p1 := "_law_program_here") fun _ _ _ _ _ _ _ => rfl
  have m27 := PySem.W.mg_of X G a27
  have F28 := fun_mk (st := sChn) l28 c28 k28
  have b28 := F28.b1 (p1 := "_law_deal_here") fun _ _ _ _ _ _ _ => rfl
  have m28 := PySem.W.mg_of X G a28
  have F29 := fun_mk (st := sLaw) l29 c29 k29
  have y_reversed := PySem.W.mg_none_of X G z_reversed
  have y_tuple := PySem.W.mg_none_of X G z_tuple
  have y_sorted := PySem.W.mg_none_of X G z_sorted
  have y_enumerate := PySem.W.mg_none_of X G z_enumerate
  have y_max := PySem.W.mg_none_of X G z_max
  have y_list := PySem.W.mg_none_of X G z_list
  have y_len := PySem.W.mg_none_of X G z_len
  have y_range := PySem.W.mg_none_of X G z_range
  have y_int := PySem.W.mg_none_of X G z_int
  have y_set := PySem.W.mg_none_of X G z_set
  have y_any := PySem.W.mg_none_of X G z_any
  have y_isinstance := PySem.W.mg_none_of X G z_isinstance
  have y_bool := PySem.W.mg_none_of X G z_bool
  have y_min := PySem.W.mg_none_of X G z_min
  refine ⟨PySem.W.fnOf "law" "law" (defArgs sLaw) (defBody sLaw) (defScope sLaw) .none kV29 dc29 pm29 an29 cd29 ct29, fun s v => .of_eq rfl, fun base _ _ => ?_⟩
  have mT := PySem.W.mg_of X G qT
  have zT : itsT.size ≤ sizeLine := by
    have e := vT.length
    have e2 : itsT.size = 4 := by rw [← Array.length_toList]; simpa [thrW] using e.symm
    rw [e2]
    decide
  have hT : ∀ H, SqT K H xcT (thrW.map V.str) := fun H => .inr ⟨_, itsT, nT, uT, rfl, rfl, zT, vT⟩
  have G1 := ok_Prt (P := l.prog) (w := w) (mg := mg) (base := base) F1   
  have G2 := ok_NmI (P := l.prog) (w := w) (mg := mg) (base := base) F2  G1 b1 k1 m1 
  have G3 := ok_SeN (P := l.prog) (w := w) (mg := mg) (base := base) F3 mT hT  
  have G4 := ok_Ask (P := l.prog) (w := w) (mg := mg) (base := base) F4  G2 b2 k2 m2 
  have G5 := ok_AsS (P := l.prog) (w := w) (mg := mg) (base := base) F5   
  have G6 := ok_Inn (P := l.prog) (w := w) (mg := mg) (base := base) F6  G5 b5 k5 m5 
  have G7 := ok_Sts (P := l.prog) (w := w) (mg := mg) (base := base) F7  G5 b5 k5 m5 G6 b6 k6 m6 y_reversed
  have G8 := ok_RwI (P := l.prog) (w := w) (mg := mg) (base := base) F8  G7 b7 k7 m7 
  have G9 := ok_NmB (P := l.prog) (w := w) (mg := mg) (base := base) F9  G4 b4 k4 m4 
  have G10 := ok_Ned (P := l.prog) (w := w) (mg := mg) (base := base) F10  G8 b8 k8 m8 G9 b9 k9 m9 G4 b4 k4 m4 y_tuple y_sorted
  have G11 := ok_IsI (P := l.prog) (w := w) (mg := mg) (base := base) F11  G3 b3 k3 m3 
  have G12 := ok_Idl (P := l.prog) (w := w) (mg := mg) (base := base) F12  G10 b10 k10 m10 G11 b11 k11 m11 G8 b8 k8 m8 y_tuple y_enumerate
  have G13 := ok_deal (P := l.prog) (w := w) (mg := mg) (base := base) F13 y_max y_reversed y_list
  have G14 := ok_draw (P := l.prog) (w := w) (mg := mg) (base := base) F14 y_len
  have G15 := ok_Nms (P := l.prog) (w := w) (mg := mg) (base := base) F15  G14 b14 k14 m14 y_range
  have G16 := ok_Stp (P := l.prog) (w := w) (mg := mg) (base := base) F16  G14 b14 k14 m14 y_int
  have G17 := ok_Sum (P := l.prog) (w := w) (mg := mg) (base := base) F17  G14 b14 k14 m14 y_tuple y_range
  have G18 := ok_Thw (P := l.prog) (w := w) (mg := mg) (base := base) F18  G14 b14 k14 m14 G16 b16 k16 m16 G17 b17 k17 m17 y_tuple y_range
  have GT19 : ∀ n : Nat, FnOk l.prog w K mg base CX0 (n + 1) f19 _ ["_law_deal_here", "_law_known", "_law_room"] (spTm n) := fun n => by
    induction n with
    | zero => exact fn_no
    | succ n ih => exact ok_Trm (P := l.prog) (w := w) (mg := mg) (base := base) n F19 ih b19 k19 m19 G14 b14 k14 m14 y_len
  have G19 := GT19 7
  have W0 := ok_Row (P := l.prog) (w := w) (mg := mg) (base := base) 0 F20 G14 b14 k14 m14 G19 b19 k19 m19 fn_no b21 k21 m21 G18 b18 k18 m18 y_int y_len
  have B0 := ok_Rws (P := l.prog) (w := w) (mg := mg) (base := base) 0 F21 G14 b14 k14 m14 W0 b20 k20 m20 G19 b19 k19 m19 y_range y_tuple
  have W1 := ok_Row (P := l.prog) (w := w) (mg := mg) (base := base) 1 F20 G14 b14 k14 m14 G19 b19 k19 m19 B0 b21 k21 m21 G18 b18 k18 m18 y_int y_len
  have B1 := ok_Rws (P := l.prog) (w := w) (mg := mg) (base := base) 1 F21 G14 b14 k14 m14 W1 b20 k20 m20 G19 b19 k19 m19 y_range y_tuple
  have W2 := ok_Row (P := l.prog) (w := w) (mg := mg) (base := base) 2 F20 G14 b14 k14 m14 G19 b19 k19 m19 B1 b21 k21 m21 G18 b18 k18 m18 y_int y_len
  have B2 := ok_Rws (P := l.prog) (w := w) (mg := mg) (base := base) 2 F21 G14 b14 k14 m14 W2 b20 k20 m20 G19 b19 k19 m19 y_range y_tuple
  have W3 := ok_Row (P := l.prog) (w := w) (mg := mg) (base := base) 3 F20 G14 b14 k14 m14 G19 b19 k19 m19 B2 b21 k21 m21 G18 b18 k18 m18 y_int y_len
  have B3 := ok_Rws (P := l.prog) (w := w) (mg := mg) (base := base) 3 F21 G14 b14 k14 m14 W3 b20 k20 m20 G19 b19 k19 m19 y_range y_tuple
  have G21 := B3
  have G22 := ok_Prg (P := l.prog) (w := w) (mg := mg) (base := base) F22  G15 b15 k15 m15 G18 b18 k18 m18 G21 b21 k21 m21 G14 b14 k14 m14 y_tuple
  have GT23 : ∀ n : Nat, FnOk l.prog w K mg base CX0 (n + 1) f23 _ ["_law_rows_here"] (spLst n) := fun n => by
    induction n with
    | zero => exact fn_no
    | succ n ih => exact ok_Lst (P := l.prog) (w := w) (mg := mg) (base := base) n F23 ih b23 k23 m23 
  have G23 := GT23 4
  have GT24 : ∀ n : Nat, FnOk l.prog w K mg base CX0 (n + 1) f24 _ ["_law_term_here"] (spNin n) := fun n => by
    induction n with
    | zero => exact fn_no
    | succ n ih => exact ok_Nin (P := l.prog) (w := w) (mg := mg) (base := base) n F24 ih b24 k24 m24 
  have G24 := GT24 7
  have G25 := ok_LNd (P := l.prog) (w := w) (mg := mg) (base := base) F25  G23 b23 k23 m23 G24 b24 k24 m24 y_range y_sorted y_len y_set
  have G26 := ok_LId (P := l.prog) (w := w) (mg := mg) (base := base) F26   
  have G27 := ok_Rgt (P := l.prog) (w := w) (mg := mg) (base := base) F27  G25 b25 k25 m25 G23 b23 k23 m23 G12 b12 k12 m12 G10 b10 k10 m10 G26 b26 k26 m26 y_any y_isinstance y_tuple y_range y_list y_len y_bool
  have G28 := ok_Chn (P := l.prog) (w := w) (mg := mg) (base := base) F28  G15 b15 k15 m15 G14 b14 k14 m14 G18 b18 k18 m18 y_range y_tuple y_min
  exact ok_Law F29 G13 b13 k13 m13 G22 b22 k22 m22 G28 b28 k28 m28 G27 b27 k27 m27 
theorem walk {l : PySem.W.OpenLaw} {q : Program} {loose : List Str} {XP : (Str → Option Value) → Heap → Prop} {YP : World → Heap → Prop} {d : DefRec} {K : Params → PySem.W.Frag} (hn : l.most = some 63) (hdf : d.params.defaults = [])
    (hY : ∀ (w : World) (h : Heap), YP w h → (K w.params).In h)
    (F : ∀ (w : World) (mg : Str → Option Value) (fa : Addr) (h : Heap), (K w.params).In h → h.Ns mainGlobals mg → mg d.name = some (.ref fa) →
      ∃ fd : FuncData, (∀ (s : Shared) (u : Value), BindsTo s fd ⟨[u], []⟩ [("_law_script", u)]) ∧ ∀ base : Heap, (K w.params).In base → base.Ns mainGlobals mg → FnOk l.prog w (K w.params) mg base CX0 19 fa fd ["_law_script"] (spLaw (K w.params))) :
    PySem.W.WalkO q loose XP YP l.row.toRowW d [] (fun f vs => PySem.call f vs) :=
  L2.walk_of (n := 63) (k := 19) (x := "_law_script") (CX := fun _ => CX0) (sp := fun w => spLaw (K w.params)) hn (by decide) hdf ⟨rfl, by decide, by decide, rfl⟩ hY F (fun _ _ a ns hl _ hS => ⟨a, ns, rfl, hS, hl, fun _ => rfl⟩) fun _ _ _ _ _ z => z
end Mine
open PySem PySem.W PyProof.Rows
set_option maxRecDepth 100000 in
set_option maxHeartbeats 0 in
theorem PySem.Challenge.cw_pairedthrows_k36_needed_and_idle_holds : PySem.Challenge.rw_pairedthrows_k36_needed_and_idle.Holds := by
  w_on; o_law; k_head; (case hw => w_witness2)
  k_fill
  refine Mine.walk (l := PySem.Challenge.rw_pairedthrows_k36_needed_and_idle) rfl rfl (fun w h Y => PySem.W.kIn_of Y) ?F
  case F =>
    intro w mg fa h KX G hmg
    refine' Mine.all_mk KX G hmg ?a1 ?l1 ?c1 ?k1 ?a2 ?l2 ?c2 ?k2 ?a3 ?l3 ?c3 ?k3 ?a4 ?l4 ?c4 ?k4 ?a5 ?l5 ?c5 ?k5 ?a6 ?l6 ?c6 ?k6 ?a7 ?l7 ?c7 ?k7 ?a8 ?l8 ?c8 ?k8 ?a9 ?l9 ?c9 ?k9 ?a10 ?l10 ?c10 ?k10 ?a11 ?l11 ?c11 ?k11 ?a12 ?l12 ?c12 ?k12 ?a13 ?l13 ?c13 ?k13 ?a14 ?l14 ?c14 ?k14 ?a15 ?l15 ?c15 ?k15 ?a16 ?l16 ?c16 ?k16 ?a17 ?l17 ?c17 ?k17 ?a18 ?l18 ?c18 ?k18 ?a19 ?l19 ?c19 ?k19 ?a20 ?l20 ?c20 ?k20 ?a21 ?l21 ?c21 ?k21 ?a22 ?l22 ?c22 ?k22 ?a23 ?l23 ?c23 ?k23 ?a24 ?l24 ?c24 ?k24 ?a25 ?l25 ?c25 ?k25 ?a26 ?l26 ?c26 ?k26 ?a27 ?l27 ?c27 ?k27 ?a28 ?l28 ?c28 ?k28 ?a29 ?l29 ?c29 ?k29 ?z_reversed ?z_tuple ?z_sorted ?z_enumerate ?z_max ?z_list ?z_len ?z_range ?z_int ?z_set ?z_any ?z_isinstance ?z_bool ?z_min ?qT ?uT ?vT
    (case a1 => k_is); (case l1 => k_is); (case c1 => k_is); (case k1 => k_is); (case a2 => k_is); (case l2 => k_is)
    (case c2 => k_is); (case k2 => k_is); (case a3 => k_is); (case l3 => k_is); (case c3 => k_is); (case k3 => k_is)
    (case a4 => k_is); (case l4 => k_is); (case c4 => k_is); (case k4 => k_is); (case a5 => k_is); (case l5 => k_is)
    (case c5 => k_is); (case k5 => k_is); (case a6 => k_is); (case l6 => k_is); (case c6 => k_is); (case k6 => k_is)
    (case a7 => k_is); (case l7 => k_is); (case c7 => k_is); (case k7 => k_is); (case a8 => k_is); (case l8 => k_is)
    (case c8 => k_is); (case k8 => k_is); (case a9 => k_is); (case l9 => k_is); (case c9 => k_is); (case k9 => k_is)
    (case a10 => k_is); (case l10 => k_is); (case c10 => k_is); (case k10 => k_is); (case a11 => k_is); (case l11 => k_is)
    (case c11 => k_is); (case k11 => k_is); (case a12 => k_is); (case l12 => k_is); (case c12 => k_is); (case k12 => k_is)
    (case a13 => k_is); (case l13 => k_is); (case c13 => k_is); (case k13 => k_is); (case a14 => k_is); (case l14 => k_is)
    (case c14 => k_is); (case k14 => k_is); (case a15 => k_is); (case l15 => k_is); (case c15 => k_is); (case k15 => k_is)
    (case a16 => k_is); (case l16 => k_is); (case c16 => k_is); (case k16 => k_is); (case a17 => k_is); (case l17 => k_is)
    (case c17 => k_is); (case k17 => k_is); (case a18 => k_is); (case l18 => k_is); (case c18 => k_is); (case k18 => k_is)
    (case a19 => k_is); (case l19 => k_is); (case c19 => k_is); (case k19 => k_is); (case a20 => k_is); (case l20 => k_is)
    (case c20 => k_is); (case k20 => k_is); (case a21 => k_is); (case l21 => k_is); (case c21 => k_is); (case k21 => k_is)
    (case a22 => k_is); (case l22 => k_is); (case c22 => k_is); (case k22 => k_is); (case a23 => k_is); (case l23 => k_is)
    (case c23 => k_is); (case k23 => k_is); (case a24 => k_is); (case l24 => k_is); (case c24 => k_is); (case k24 => k_is)
    (case a25 => k_is); (case l25 => k_is); (case c25 => k_is); (case k25 => k_is); (case a26 => k_is); (case l26 => k_is)
    (case c26 => k_is); (case k26 => k_is); (case a27 => k_is); (case l27 => k_is); (case c27 => k_is); (case k27 => k_is)
    (case a28 => k_is); (case l28 => k_is); (case c28 => k_is); (case k28 => k_is); (case a29 => k_is); (case l29 => k_is)
    (case c29 => k_is); (case k29 => k_is); (case z_reversed => k_is); (case z_tuple => k_is); (case z_sorted => k_is); (case z_enumerate => k_is)
    (case z_max => k_is); (case z_list => k_is); (case z_len => k_is); (case z_range => k_is); (case z_int => k_is); (case z_set => k_is)
    (case z_any => k_is); (case z_isinstance => k_is); (case z_bool => k_is); (case z_min => k_is); (case qT => k_is); (case uT => k_is)
    (case vT => exact .cons ⟨_, rfl⟩ (.cons ⟨_, rfl⟩ (.cons ⟨_, rfl⟩ (.cons ⟨_, rfl⟩ .nil))))
