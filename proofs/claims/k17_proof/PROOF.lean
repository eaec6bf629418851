import PyProof.Rows.All
import Wide.All
import OpenK.AllK
import Wide.FinOn
import Lean
import PyProof.EqAt
import PyProof.EqKinds
import PyProof.TupleCall
import KE.KDictOf
import PyProof.AttrMissHeap
import KE.KSortTup
import PyProof.Rows.InDataRows
import KE.KRevSl
import PyProof.Rows.SetFrom
import PySem.Challenge.RW_pairedthrows_k17_programs_let_by
set_option Elab.async false
set_option linter.all false
set_option maxRecDepth 100000
/-! THE HAND LAYER, for ints, bools, texts, own classes, DICTS (int and text keys), calls, loops. Paste it whole ahead of your own text; what your proof does not reach may be deleted. -/
namespace L2
open PySem PySem.Spec PyProof.Rows

/-- a key: an int or a str -/
abbrev Key := Sum Int Str
def keyIs : Key → Value → Bool
  | .inl k, v => Value.isInt k v
  | .inr x, v => Value.isStrOf x v
def keyH (w : World) : Key → Int
  | .inl k => hashInt k
  | .inr x => hashStr w x
theorem keyIs_shape : ∀ {k : Key} {v : Value}, keyIs k v = true → (∃ i t, k = Sum.inl i ∧ v = Value.int i t) ∨ (∃ x t, k = Sum.inr x ∧ v = Value.str x t)
  | .inl i, v, h => by
    obtain ⟨t, e⟩ := Value.isInt_shape (k := i) (v := v) h
    exact .inl ⟨i, t, rfl, e⟩
  | .inr x, v, h => by
    obtain ⟨t, e⟩ := Value.isStrOf_shape (x := x) (v := v) h
    exact .inr ⟨x, t, rfl, e⟩
theorem keyIs_int (i : Int) (t : Tok) : keyIs (.inl i) (.int i t) = true := by simp [keyIs, Value.isInt]
theorem keyIs_str (x : Str) (t : Tok) : keyIs (.inr x) (.str x t) = true := by simp [keyIs, Value.isStrOf]
theorem key_ll (a b : Int) : decide ((Sum.inl a : Key) = Sum.inl b) = (a == b) := by
  by_cases e : a = b
  · subst e; simp
  · have h : ¬ (Sum.inl a : Key) = Sum.inl b := fun q => e (Sum.inl.inj q)
    rw [decide_eq_false h]
    exact (beq_eq_false_iff_ne.mpr e).symm
theorem key_rr (a b : Str) : decide ((Sum.inr a : Key) = Sum.inr b) = decide (a = b) := by
  by_cases e : a = b
  · subst e; simp
  · have h : ¬ (Sum.inr a : Key) = Sum.inr b := fun q => e (Sum.inr.inj q)
    rw [decide_eq_false h, decide_eq_false e]
theorem key_lr (a : Int) (b : Str) : decide ((Sum.inl a : Key) = Sum.inr b) = false := decide_eq_false (fun q => nomatch q)
theorem key_rl (a : Str) (b : Int) : decide ((Sum.inr a : Key) = Sum.inl b) = false := decide_eq_false (fun q => nomatch q)

def mixKind (prog : Program) (w : World) : PySem.KeyKind prog w Key where
  is := keyIs
  hash := keyH w
  inj := fun v a b ha hb => by
    rcases keyIs_shape ha with ⟨i, t, rfl, rfl⟩ | ⟨x, t, rfl, rfl⟩
    · rcases keyIs_shape hb with ⟨j, u, rfl, e⟩ | ⟨y, u, rfl, e⟩
      · injection e with e1 _; rw [e1]
      · exact nomatch e
    · rcases keyIs_shape hb with ⟨j, u, rfl, e⟩ | ⟨y, u, rfl, e⟩
      · exact nomatch e
      · injection e with e1 _; rw [e1]
  byValue := fun k v h => by
    rcases keyIs_shape h with ⟨i, t, rfl, rfl⟩ | ⟨x, t, rfl, rfl⟩ <;> rfl
  pyHash := fun hv h => by
    rcases keyIs_shape hv with ⟨i, t, rfl, rfl⟩ | ⟨x, t, rfl, rfl⟩
    · exact wpAny_pyHash_int h
    · exact wpAny_pyHash_str h
  eqBool := fun hu hv h => by
    rcases keyIs_shape hu with ⟨i, t, rfl, rfl⟩ | ⟨x, t, rfl, rfl⟩
    · rcases keyIs_shape hv with ⟨j, u, rfl, rfl⟩ | ⟨y, u, rfl, rfl⟩
      · rw [key_ll] at h; exact wpAny_eqBool_int h
      · rw [key_lr] at h; exact SeqAt.EqAt.int_str i t y u _ _ _ _ h
    · rcases keyIs_shape hv with ⟨j, u, rfl, rfl⟩ | ⟨y, u, rfl, rfl⟩
      · rw [key_rl] at h; exact SeqAt.EqAt.str_int x t j u _ _ _ _ h
      · rw [key_rr] at h; exact wpAny_eqBool_str h
  «strs» := fun k x t v h => by
    rcases keyIs_shape h with ⟨i, u, rfl, e⟩ | ⟨y, u, rfl, e⟩
    · exact nomatch e
    · injection e with e1 _
      subst e1
      cases v <;> rfl

theorem mixKind_int (prog : Program) (w : World) (i : Int) (t : Tok) : (mixKind prog w).is (.inl i) (.int i t) = true := keyIs_int i t
theorem mixKind_str (prog : Program) (w : World) (x : Str) (t : Tok) : (mixKind prog w).is (.inr x) (.str x t) = true := keyIs_str x t
end L2

namespace L2
open PySem PySem.Spec PyProof.Rows

/-- a value, without the heap -/
inductive V where
  | non | bl (b : Bool) | int (i : Int) | str (x : Str) | byt (b : Array UInt8) | flt (b : UInt64) | ref (a : Addr) | ty (n : String)
  deriving DecidableEq

def RelV : V → Value → Prop
  | .non, u => u = Value.none
  | .bl b, u => u = Value.bool b
  | .int i, u => ∃ t, u = Value.int i t
  | .str x, u => ∃ t, u = Value.str x t
  | .byt b, u => ∃ t, u = Value.bytes b t
  | .flt b, u => ∃ t, u = Value.float b t
  | .ref a, u => u = Value.ref a
  | .ty n, u => u = Value.type n

abbrev Vals : List V → List Value → Prop := Paired RelV
theorem Vals.length {xs : List V} {us : List Value} (r : Vals xs us) : xs.length = us.length := Paired.length r
theorem Vals.get : ∀ {xs : List V} {us : List Value} {i : Nat} {x : V}, Vals xs us → xs[i]? = some x → ∃ u, us[i]? = some u ∧ RelV x u
  | _, _, _, _, .nil, e => by simp at e
  | _, _, 0, _, .cons r _, e => by simp at e; subst e; exact ⟨_, rfl, r⟩
  | _, _, i + 1, x, .cons _ t, e => by
    obtain ⟨u, h1, h2⟩ := Vals.get (i := i) (x := x) t (by simpa using e)
    exact ⟨u, by simpa using h1, h2⟩
theorem Vals.set {x : V} {u : Value} (r : RelV x u) : ∀ {xs : List V} {us : List Value} (i : Nat), Vals xs us → Vals (xs.set i x) (us.set i u)
  | _, _, _, .nil => .nil
  | _, _, 0, .cons _ t => .cons r t
  | _, _, i + 1, .cons q t => .cons q (Vals.set r i t)
theorem Vals.append : ∀ {xs ys : List V} {us ws : List Value}, Vals xs us → Vals ys ws → Vals (xs ++ ys) (us ++ ws)
  | _, _, _, _, .nil, s => s
  | _, _, _, _, .cons r t, s => .cons r (Vals.append t s)
theorem Vals.take : ∀ {xs : List V} {us : List Value} (n : Nat), Vals xs us → Vals (xs.take n) (us.take n)
  | _, _, 0, _ => .nil
  | _, _, _ + 1, .nil => .nil
  | _, _, n + 1, .cons r t => .cons r (Vals.take n t)
theorem Vals.drop : ∀ {xs : List V} {us : List Value} (n : Nat), Vals xs us → Vals (xs.drop n) (us.drop n)
  | _, _, 0, r => r
  | _, _, _ + 1, .nil => .nil
  | _, _, n + 1, .cons _ t => Vals.drop n t
def RelO : Option V → Option Value → Prop
  | some v, some u => RelV v u
  | none, none => True
  | _, _ => False
def KV {κ : Type} : List (κ × V) → List (κ × Value) → Prop := Paired fun (p : κ × V) (q : κ × Value) => p.1 = q.1 ∧ RelV p.2 q.2

/-- a key of a dict (00_mix): an int or a text -/
def kV : Key → V
  | .inl i => .int i
  | .inr x => .str x

/-- what stands at a tracked address -/
inductive HO where
  /-- a list -/
  | lst (xs : List V)
  /-- a tuple (never changes) -/
  | tup (xs : List V)
  /-- a dict whose keys are ints and texts; one whose keys are tuples of ints and texts (the empty one is both) -/
  | dK (kvs : List (Key × V)) | dT (kvs : List (List Key × V))
  /-- a set of ints: its members, its size -/
  | set (S : Int → Bool) (n : Nat)
  /-- an instance of the class at C, its dict at dx, its attributes -/
  | ins (C dx : Addr) (fs : List (Str × V))
  /-- the dict of the instance at x -/
  | own (x : Addr)
  /-- the dict of an exception -/
  | xd (fs : List (Str × V))
  /-- a bound method, f of x -/
  | met (f x : Addr)
  /-- a range object lo, lo + 1, .. below hi -/
  | rng (lo hi : Int)
  /-- a thing that is known to the object (the script; a dict while a loop walks it): read, never written while it is so -/
  | frz (o : Obj) (u : HO)
  /-- a code object's table -/
  | tbl (ps : Array Value)
  /-- any other thing, by what is true of its one object (a def of one's own: SetO a S n := HO.ext fun h => ..) -/
  | ext (φ : Heap → Prop)

abbrev Hp := Addr → Option HO
def upd (H : Hp) (a : Addr) (o : HO) : Hp := fun b => if b = a then some o else H b
theorem upd_same {H : Hp} {a : Addr} {o : HO} : upd H a o a = some o := by unfold upd; rw [if_pos rfl]
theorem upd_ne {H : Hp} {a b : Addr} {o : HO} (h : b ≠ a) : upd H a o b = H b := by unfold upd; rw [if_neg h]
theorem upd_upd {H : Hp} {a : Addr} {o u : HO} : upd (upd H a o) a u = upd H a u := by
  funext b; unfold upd; split <;> rfl
/-- two objects of different content stand apart -/
theorem ne_of {H : Hp} {a b : Addr} {o u : HO} (h : H a = some o) (h' : H b = some u) (d : o ≠ u) : a ≠ b := by
  intro e; subst e; rw [h] at h'; exact d (Option.some.inj h')
theorem ne_of_none {H : Hp} {a b : Addr} {o : HO} (h : H a = some o) (h' : H b = none) : a ≠ b := by
  intro e; subst e; rw [h] at h'; cases h'

/-- a tuple without a dict -/
def IsTupD (h : Heap) (a : Addr) (its : Array Value) : Prop := ∃ o, h.get? a = some o ∧ o.cls = .type "tuple" ∧ ∃ n, o.data = .seq its n ∧ o.dict = none
theorem IsTupD.is {h : Heap} {a : Addr} {its : Array Value} (x : IsTupD h a its) : IsTup h a its := let ⟨o, e, c, n, d, _⟩ := x; ⟨o, e, c, n, d⟩
theorem IsTupD.new (h : Heap) (its : Array Value) : IsTupD (h.push { cls := .type "tuple", data := .seq its }) h.objs.size its := ⟨_, Heap.get?_push_size _ rfl, rfl, _, rfl, rfl⟩
section
variable (P : Program) (w : World)
def ObjOk (H : Hp) (h : Heap) (a : Addr) : HO → Prop
  | .lst xs => xs.length ≤ sizeLine ∧ ∃ (its : List Value) (n : Nat), Vals xs its ∧ h.get? a = some { cls := .type "list", data := .seq its.toArray n }
  | .tup xs => xs.length ≤ sizeLine ∧ ∃ its : List Value, Vals xs its ∧ IsTupD h a its.toArray
  | .dK kvs => kvs.length ≤ sizeLine ∧ (a == sysModules) = false ∧ ∃ vs, KV kvs vs ∧ h.DictOf (mixKind P w) a vs
  | .dT kvs => kvs.length ≤ sizeLine ∧ (a == sysModules) = false ∧ ∃ xs : List (List Key × Addr × Value),
      Paired (fun (p : List Key × V) (q : List Key × Addr × Value) => p.1 = q.1 ∧ H q.2.1 = some (.tup (p.1.map kV)) ∧ RelV p.2 q.2.2) kvs xs ∧
      ∃ o es ep, h.get? a = some o ∧ o.ExactDict ∧ o.data = .dict es ep ∧ es.toList = xs.map (entryOfKey (tupleKind (mixKind P w))) ∧ (xs.map (·.1)).Nodup
  | .set S n => h.SetOf (intKind P w) a S n
  | .ins C dx fs => H dx = some (.own a) ∧ fs.length ≤ 1000 ∧ dx ≠ a ∧ h.get? a = some (PySem.W.instObj C dx) ∧
      ∃ mA, h.Ns1 dx mA ∧ (∀ f, RelO (fs.lookup f) (mA f)) ∧ PySem.Within mA (fs.map (·.1))
  | .own _ => ∃ o, h.get? a = some o
  | .xd fs => ∃ mA, h.Ns1 a mA ∧ ∀ f, RelO (fs.lookup f) (mA f)
  | .rng lo hi => ∃ t u v, h.get? a = some { cls := .type "range", data := .fields #[.int lo t, .int hi u, .int 1 v] }
  | .frz o u => h.get? a = some o ∧ ObjOk H h a u
  | .tbl ps => h.get? a = some { cls := .none, data := .fields ps }
  | .met f x => h.get? a = some (PySem.W.methodObj (.ref f) (.ref x))
  | .ext φ => φ h ∧ (∃ o, h.get? a = some o) ∧ ∀ h1 h2 : Heap, φ h1 → (∀ o, h1.get? a = some o → h2.get? a = some o) → φ h2
/-- the abstract heap is held -/
def HOk (H : Hp) (h : Heap) : Prop := ∀ a o, H a = some o → ObjOk P w H h a o
end

section
variable {P : Program} {w : World} {H H' : Hp} {h h' : Heap} {a : Addr} {o : HO}
theorem ObjOk.lt (x : ObjOk P w H h a o) : a < h.objs.size := by
  cases o with
  | lst xs => obtain ⟨_, _, _, _, e⟩ := x; exact Heap.lt_size e
  | tup xs => obtain ⟨_, _, _, p⟩ := x; exact p.is.lt
  | dK kvs => obtain ⟨_, _, _, _, o, _, _, e, _⟩ := x; exact Heap.lt_size e
  | dT kvs => obtain ⟨_, _, _, _, o, _, _, e, _⟩ := x; exact Heap.lt_size e
  | set S n => obtain ⟨o, _, _, _, e, _⟩ := x; exact Heap.lt_size e
  | ins C dx fs => obtain ⟨_, _, _, e, _⟩ := x; exact Heap.lt_size e
  | own y => obtain ⟨_, e⟩ := x; exact Heap.lt_size e
  | xd fs => obtain ⟨_, ⟨_, _, _, e, _⟩, _⟩ := x; exact Heap.lt_size e
  | rng lo hi => obtain ⟨_, _, _, e⟩ := x; exact Heap.lt_size e
  | frz ob u => obtain ⟨e, _⟩ := x; exact Heap.lt_size e
  | tbl ps => exact Heap.lt_size (show h.get? a = some _ from x)
  | met f y => exact Heap.lt_size (show h.get? a = some _ from x)
  | ext φ => obtain ⟨_, ⟨_, e⟩, _⟩ := x; exact Heap.lt_size e
theorem Paired.mapP {α β : Type} {F G : α → β → Prop} : ∀ {l₁ : List α} {l₂ : List β}, Paired F l₁ l₂ → (∀ a b, F a b → G a b) → Paired G l₁ l₂
  | _, _, .nil, _ => .nil
  | _, _, .cons r t, f => .cons (f _ _ r) (Paired.mapP t f)
/-- what an object's description leans on: its own object, its own dict, the tuples -/
theorem ObjOk.stay (x : ObjOk P w H h a o) (k : ∀ b u, (b = a ∨ H b = some (.own a)) → h.get? b = some u → h'.get? b = some u)
    (ho : ∀ b, H b = some (.own a) → H' b = some (.own a)) (ht : ∀ b xs, H b = some (.tup xs) → H' b = some (.tup xs)) : ObjOk P w H' h' a o := by
  induction o with
  | lst xs => obtain ⟨z, its, n, r, e⟩ := x; exact ⟨z, its, n, r, k _ _ (.inl rfl) e⟩
  | tup xs => obtain ⟨z, its, r, ob, e, c⟩ := x; exact ⟨z, its, r, ob, k _ _ (.inl rfl) e, c⟩
  | dK kvs => obtain ⟨z, y, vs, r, ob, es, ep, e, c⟩ := x; exact ⟨z, y, vs, r, ob, es, ep, k _ _ (.inl rfl) e, c⟩
  | dT kvs =>
    obtain ⟨z, y, xs, r, ob, es, ep, e, c⟩ := x
    exact ⟨z, y, xs, Paired.mapP r fun p q z => ⟨z.1, ht _ _ z.2.1, z.2.2⟩, ob, es, ep, k _ _ (.inl rfl) e, c⟩
  | set S n => obtain ⟨ob, es, ep, t, e, c⟩ := x; exact ⟨ob, es, ep, t, k _ _ (.inl rfl) e, c⟩
  | ins C dx fs =>
    obtain ⟨d, z, ne, e, mA, ⟨od, es, ep, e2, c⟩, r⟩ := x
    exact ⟨ho _ d, z, ne, k _ _ (.inl rfl) e, mA, ⟨od, es, ep, k _ _ (.inr d) e2, c⟩, r⟩
  | own y => obtain ⟨ob, e⟩ := x; exact ⟨ob, k _ _ (.inl rfl) e⟩
  | xd fs => obtain ⟨mA, ⟨od, es, ep, e, c⟩, r⟩ := x; exact ⟨mA, ⟨od, es, ep, k _ _ (.inl rfl) e, c⟩, r⟩
  | rng lo hi => obtain ⟨t, u, v, e⟩ := x; exact ⟨t, u, v, k _ _ (.inl rfl) e⟩
  | frz ob u ih => obtain ⟨e, q⟩ := x; exact ⟨k _ _ (.inl rfl) e, ih q⟩
  | tbl ps =>
    have e : h.get? a = some { cls := .none, data := .fields ps } := x
    show h'.get? a = some { cls := .none, data := .fields ps }
    exact k a _ (.inl rfl) e
  | met f y =>
    have e : h.get? a = some (PySem.W.methodObj (.ref f) (.ref y)) := x
    show h'.get? a = some (PySem.W.methodObj (.ref f) (.ref y))
    exact k a _ (.inl rfl) e
  | ext φ => obtain ⟨p, ⟨o, e⟩, st⟩ := x; exact ⟨st _ _ p fun o q => k _ _ (.inl rfl) q, ⟨o, k _ _ (.inl rfl) e⟩, st⟩
theorem HOk.lt (x : HOk P w H h) (e : H a = some o) : a < h.objs.size := (x a o e).lt
theorem HOk.fresh (x : HOk P w H h) (e : h.objs.size ≤ a) : H a = none := by
  cases q : H a with
  | none => rfl
  | some u => exact absurd (Nat.lt_of_lt_of_le (x.lt q) e) (Nat.lt_irrefl _)
/-- every object of the heap is kept -/
theorem HOk.kept (x : HOk P w H h) (k : ∀ b u, h.get? b = some u → h'.get? b = some u) : HOk P w H h' := fun a o e =>
  (x a o e).stay (fun b u _ q => k b u q) (fun _ q => q) fun _ _ q => q
/-- a new object is laid and tracked -/
theorem HOk.laid (x : HOk P w H h) (k : ∀ b u, h.get? b = some u → h'.get? b = some u) (hp : h.objs.size ≤ a) (new : ObjOk P w (upd H a o) h' a o) : HOk P w (upd H a o) h' := fun b u e => by
  have hn := x.fresh hp
  by_cases hb : b = a
  · subst hb; rw [upd_same] at e; cases e; exact new
  · rw [upd_ne hb] at e
    exact (x b u e).stay (fun c v _ q => k c v q) (fun c q => by rw [upd_ne (ne_of_none q hn)]; exact q) fun c xs q => by rw [upd_ne (ne_of_none q hn)]; exact q
end

/-- what may be read as u: it is u, or a known u -/
def Rd (H : Hp) (a : Addr) (u : HO) : Prop := H a = some u ∨ ∃ o, H a = some (.frz o u)
theorem Rd.of {H : Hp} {a : Addr} {u : HO} (h : H a = some u) : Rd H a u := .inl h
theorem Rd.ok {P : Program} {w : World} {H : Hp} {h : Heap} {a : Addr} {u : HO} (r : Rd H a u) (x : HOk P w H h) : ObjOk P w H h a u := by
  rcases r with r | ⟨o, r⟩
  · exact x a u r
  · obtain ⟨_, q⟩ := x a _ r
    exact q
/-- what may be written -/
def Mut : Option HO → Prop
  | some (.lst _) => True
  | some (.dK _) => True
  | some (.dT _) => True
  | some (.set _ _) => True
  | some (.ins _ _ _) => True
  | some (.ext _) => True
  | _ => False
section
variable {P : Program} {w : World} {H : Hp} {h h' : Heap} {x e : Addr} {o' : HO}
/-- the object at e is changed: x itself, or the dict of the instance x -/
theorem HOk.write (ok : HOk P w H h) (mu : Mut (H x)) (he : e = x ∨ H e = some (.own x)) (k : ∀ b u, b ≠ e → h.get? b = some u → h'.get? b = some u) (heo : ∃ u, h'.get? e = some u)
    (new : ObjOk P w (upd H x o') h' x o') : HOk P w (upd H x o') h' := fun b u q => by
  have nown : ∀ c y, H c = some (.own y) → c ≠ x := fun c y r z => by subst z; rw [r] at mu; exact mu
  have ntup : ∀ c xs, H c = some (.tup xs) → c ≠ x := fun c xs r z => by subst z; rw [r] at mu; exact mu
  by_cases hb : b = x
  · subst hb; rw [upd_same] at q; cases q; exact new
  · rw [upd_ne hb] at q
    by_cases hbe : b = e
    · have q' : H b = some (.own x) := by
        rcases he with z | z
        · exact absurd (hbe.trans z) hb
        · rw [hbe]; exact z
      rw [q] at q'; cases q'
      obtain ⟨v, hv⟩ := heo
      exact ⟨v, by rw [hbe]; exact hv⟩
    · refine (ok b u q).stay (fun c v hc r => k c v ?_ r) (fun c r => by rw [upd_ne (nown c b r)]; exact r) fun c xs r => by rw [upd_ne (ntup c xs r)]; exact r
      rcases hc with rfl | hc
      · exact hbe
      · rintro rfl
        rcases he with z | z
        · exact nown c b hc z
        · rw [hc] at z; cases z; exact hb rfl
end

/-! ### kept unless tracked; of the frames at fs (the callers') the slots may change (an exception that passes writes there); of the records at ex (iterators) nothing is said -/
structure Un (fs ex : List Addr) (H H' : Hp) (h h' : Heap) : Prop where
  keep : ∀ b o, h.get? b = some o → H b = none → b ∉ fs → b ∉ ex → h'.get? b = some o
  slot : ∀ b o, h.get? b = some o → H b = none → b ∈ fs → b ∉ ex → ∃ sl, h'.get? b = some { o with slots := sl }
  free : ∀ b o, h.get? b = some o → H b = none → b ∉ ex → H' b = none
  there : ∀ b o, h.get? b = some o → b ∉ ex → ∃ o', h'.get? b = some o'
  tups : ∀ b xs, H b = some (.tup xs) → H' b = some (.tup xs)
  frzs : ∀ b o u, H b = some (.frz o u) → H' b = some (.frz o u)
  tbls : ∀ b ps, H b = some (.tbl ps) → ∃ more, H' b = some (.tbl (ps ++ more))
section
variable {fs fs' ex ex' : List Addr} {H H1 H2 : Hp} {h h1 h2 h' : Heap} {a x e : Addr} {o : HO}
theorem Un.any (u : Un fs ex H H1 h h1) {b : Addr} {ob : Obj} (q : h.get? b = some ob) (n : H b = none) (hx : b ∉ ex) : ∃ sl, h1.get? b = some { ob with slots := sl } := by
  by_cases hb : b ∈ fs
  · exact u.slot b ob q n hb hx
  · exact ⟨ob.slots, u.keep b ob q n hb hx⟩
theorem Un.trans (a : Un fs ex H H1 h h1) (b : Un fs ex H1 H2 h1 h2) : Un fs ex H H2 h h2 where
  keep := fun c ob q n hc hx => b.keep c ob (a.keep c ob q n hc hx) (a.free c ob q n hx) hc hx
  slot := fun c ob q n hc hx => by
    obtain ⟨sl, e1⟩ := a.slot c ob q n hc hx
    obtain ⟨sl', e2⟩ := b.slot c _ e1 (a.free c ob q n hx) hc hx
    exact ⟨sl', e2⟩
  free := fun c ob q n hx => by
    obtain ⟨o', e1⟩ := a.there c ob q hx
    exact b.free c o' e1 (a.free c ob q n hx) hx
  there := fun c ob q hx => by
    obtain ⟨o', e1⟩ := a.there c ob q hx
    exact b.there c o' e1 hx
  tups := fun c xs q => b.tups c xs (a.tups c xs q)
  frzs := fun c ob xs q => b.frzs c ob xs (a.frzs c ob xs q)
  tbls := fun c ps q => by
    obtain ⟨m1, e1⟩ := a.tbls c ps q
    obtain ⟨m2, e2⟩ := b.tbls c _ e1
    exact ⟨m1 ++ m2, by rw [e2, Array.append_assoc]⟩
theorem Un.kept (k : ∀ b u, h.get? b = some u → h'.get? b = some u) : Un fs ex H H h h' :=
  ⟨fun b ob q _ _ _ => k b ob q, fun b ob q _ _ _ => ⟨ob.slots, k b ob q⟩, fun _ _ _ n _ => n, fun b ob q _ => ⟨ob, k b ob q⟩, fun _ _ q => q, fun _ _ _ q => q, fun _ ps q => ⟨#[], by rw [q]; simp⟩⟩
theorem Un.refl : Un fs ex H H h h := Un.kept fun _ _ q => q
theorem Un.laid (k : ∀ b u, h.get? b = some u → h'.get? b = some u) (hp : h.objs.size ≤ a) (hn : H a = none) : Un fs ex H (upd H a o) h h' where
  keep := fun b u q _ _ _ => k b u q
  slot := fun b u q _ _ _ => ⟨u.slots, k b u q⟩
  free := fun b u q n _ => by rw [upd_ne (Nat.ne_of_lt (Nat.lt_of_lt_of_le (Heap.lt_size q) hp))]; exact n
  there := fun b u q _ => ⟨u, k b u q⟩
  tups := fun b xs q => by rw [upd_ne (ne_of_none q hn)]; exact q
  frzs := fun b u xs q => by rw [upd_ne (ne_of_none q hn)]; exact q
  tbls := fun b ps q => ⟨#[], by rw [upd_ne (ne_of_none q hn), q]; simp⟩
theorem Un.write (mu : Mut (H x)) (he : e = x ∨ H e = some (.own x)) (k : ∀ b u, b ≠ e → h.get? b = some u → h'.get? b = some u) (heo : ∃ u, h'.get? e = some u) : Un fs ex H (upd H x o) h h' := by
  have hx : ∀ b, H b = none → b ≠ x := fun b n z => by subst z; rw [n] at mu; exact mu
  have hb : ∀ b, H b = none → b ≠ e := fun b n z => by
    subst z
    rcases he with r | r
    · exact hx b n r
    · rw [n] at r; cases r
  have hm : ∀ b u, H b = some u → ¬ Mut (some u) → b ≠ x := fun b u q nm z => by subst z; rw [q] at mu; exact nm mu
  refine ⟨fun b u q n _ _ => k b u (hb b n) q, fun b u q n _ _ => ⟨u.slots, k b u (hb b n) q⟩, fun b u q n _ => by rw [upd_ne (hx b n)]; exact n, fun b u q _ => ?_,
    fun b xs q => by rw [upd_ne (hm b _ q fun z => z)]; exact q, fun b u xs q => by rw [upd_ne (hm b _ q fun z => z)]; exact q, fun b ps q => ⟨#[], by rw [upd_ne (hm b _ q fun z => z), q]; simp⟩⟩
  by_cases hbe : b = e
  · subst hbe; exact heo
  · exact ⟨u, k b u hbe q⟩
theorem Un.mono (u : Un fs ex H H1 h h1) (hs : ∀ b ∈ fs, b ∈ fs') (hx : ∀ b ∈ ex, b ∈ ex') : Un fs' ex' H H1 h h1 :=
  ⟨fun b ob q n hb he => u.keep b ob q n (fun z => hb (hs b z)) fun z => he (hx b z), fun _ _ q n _ he => u.any q n fun z => he (hx _ z), fun b ob q n he => u.free b ob q n fun z => he (hx b z), fun b ob q he => u.there b ob q fun z => he (hx b z), u.tups, u.frzs, u.tbls⟩
end

/-! ### the heap without what is tracked -/
def trk (h : Heap) (H : Hp) : List Addr := (List.range h.objs.size).filter fun a => (H a).isSome
def hidT (h : Heap) (H : Hp) : Heap := PySem.W.hideAll h (trk h H)
theorem hidT_size (h : Heap) (H : Hp) : (hidT h H).objs.size = h.objs.size := PySem.W.hideAll_size _ _
theorem hidT_get {h : Heap} {H : Hp} {b : Addr} {o : Obj} (e : h.get? b = some o) (n : H b = none) : (hidT h H).get? b = some o :=
  PySem.W.hideAll_get _ e fun hm => by
    have q : (H b).isSome = true := (List.mem_filter.mp hm).2
    rw [n] at q; simp at q
theorem of_hidT {h : Heap} {H : Hp} {b : Addr} {o : Obj} (e : (hidT h H).get? b = some o) : h.get? b = some o ∧ H b = none := by
  have e' : h.get? b = some o := PySem.W.of_hideAll (trk h H) e
  refine ⟨e', ?_⟩
  cases q : H b with
  | none => rfl
  | some x =>
    have hm : b ∈ trk h H := List.mem_filter.mpr ⟨List.mem_range.mpr (Heap.lt_size e'), by simp [q]⟩
    have z : (hidT h H).get? b = none := PySem.W.hideAll_none (trk h H) hm
    rw [z] at e; cases e

/-! ### OpenK's ledger, filled with every new object but one -/
def allNews (g h : Heap) (L : Addr) : List (Addr × Obj) := (List.range h.objs.size).filterMap fun a => if a = L ∨ (g.get? a).isSome = true then none else (h.get? a).map fun o => (a, o)
def rest (g h : Heap) (L d : Addr) : List (Addr × Obj) := (allNews g h L).filter fun p => decide (p.1 ≠ d)
end L2

namespace L2
open PySem PySem.Spec PyProof.Rows

/-- the module's facts, over the base: the heap at the law's entry without what is tracked there -/
structure Mod (K : PySem.W.Frag) (mg : Str → Option Value) (base : Heap) : Prop where
  kin : K.In base
  glob : base.Ns mainGlobals mg
  blt : ∃ mb, base.Ns builtinsNs mb ∧ ∀ x : Str, x ≠ "__name__" → mb x = bootBuiltins x
  nolimit : base.NoLimit

/-- the context: a def's body (or a comprehension's block) running. base: fixed through the whole law; s₀, H₀: the entry; outer: the frames whose slots others may change (a def's callers); stack: all frames that run;
   ex: iterators that were made ahead of the entry and are walked here (a comprehension's); fn: the names whose cells were made at the entry (a def: all; a comprehension's block: its own); calm: not within an except suite; pn: pins that every state bears; xe: what is wanted of an exception that leaves the code -/
structure Cx where
  prog : Program
  w : World
  K : PySem.W.Frag
  mg : Str → Option Value
  base : Heap
  A : Around
  N : List Str
  s₀ : Shared
  H₀ : Hp
  env : Env
  outer : List Env
  stack : List Env
  ex : List Addr
  fn : Str → Bool
  calm : Bool
  pn : List (Addr × Obj)
  xe : Value → Shared → Prop
/-- the callers' frames -/
def frs (l : List Env) : List Addr := l.filterMap (·.frame)
abbrev Cx.fs (X : Cx) : List Addr := frs X.outer

def Vis (sc : Scope) (x : Str) : Prop := sc.names.lookup x = some .local ∨ sc.names.lookup x = some .cell ∨ sc.names.lookup x = some .free
def Loc (sc : Scope) (x : Str) : Prop := sc.names.lookup x = some .local ∨ sc.names.lookup x = some .cell
def Look (env : Env) (h : Heap) (m : Str → Option Value) (x : Str) (u : Value) : Prop :=
  (env.kindOf x = some .local ∧ m x = some u) ∨ ((env.kindOf x = some .cell ∨ env.kindOf x = some .free) ∧ ∃ c, env.cells.lookup x = some c ∧ h.IsCell c (some u))

structure Cx.Ok (X : Cx) : Prop where
  mod : Mod X.K X.mg X.base
  kind : X.env.scope.kind = .function
  glob : X.env.globals = mainGlobals
  blt : X.env.builtins = builtinsNs
  above : X.s₀.heap.objs.size ≤ X.env.locals
  inj : ∀ x y c, X.env.cells.lookup x = some c → X.env.cells.lookup y = some c → x = y
  has : ∀ x, (X.env.kindOf x = some .cell ∨ X.env.kindOf x = some .free) → ∃ c, X.env.cells.lookup x = some c
  cab : ∀ x c, X.fn x = true → X.env.cells.lookup x = some c → X.s₀.heap.objs.size ≤ c
  hd : X.calm = true → X.A.handled = none
  frames : X.A.frames = some X.stack
  stk : X.stack = X.outer ∨ (X.stack = X.env :: X.outer ∧ X.env.frame = some X.env.locals)
  exf : ∀ b ∈ X.ex, b ≠ X.env.locals ∧ ∀ x c, X.env.cells.lookup x = some c → c ≠ b
  bs : ∀ b o, X.base.get? b = some o → X.s₀.heap.get? b = some o ∧ X.H₀ b = none
  bsz : X.base.objs.size ≤ X.s₀.heap.objs.size
  noex : ∀ b o, X.base.get? b = some o → b ∉ X.ex
  exfs : ∀ b ∈ X.ex, b ∉ X.fs
  funs : X.s₀.heap.FunFrames X.base X.outer
  frf : ∀ b ∈ X.fs, X.H₀ b = none

structure Inv (X : Cx) (pins : List (Addr × Obj)) (σ : List (Option V)) (H : Hp) (s : Shared) : Prop where
  ok : X.Ok
  os : s.os = X.s₀.os
  bare : AllBare s.gens
  base : Un X.fs X.ex X.H₀ H X.s₀.heap s.heap
  loc : ∃ m, s.heap.Ns X.env.locals m ∧ ∀ (i : Nat) (x : Str) (v : V), X.N[i]? = some x → σ[i]? = some (some v) → Vis X.env.scope x → ∃ u, RelV v u ∧ Look X.env s.heap m x u
  cell : ∀ x c, X.env.cells.lookup x = some c → ∃ v, s.heap.IsCell c v
  free : H X.env.locals = none
  freeC : ∀ x c, X.env.cells.lookup x = some c → H c = none
  pin : ∀ p ∈ X.pn ++ pins, s.heap.get? p.1 = some p.2 ∧ H p.1 = none ∧ p.1 ≠ X.env.locals ∧ p.1 ∉ X.fs ∧ ∀ v, p.2.data ≠ .cell v
  hok : HOk X.prog X.w H s.heap
  len : σ.length = X.N.length

section
variable {X : Cx} {pins : List (Addr × Obj)} {σ : List (Option V)} {H H' : Hp} {s : Shared} {h' : Heap}

theorem Cx.Ok.nofr (ok : X.Ok) {b : Addr} {o : Obj} (e : X.base.get? b = some o) : b ∉ X.fs := fun hb => by
  have := (ok.funs.mem hb).1
  rw [e] at this; cases this
theorem Inv.bs (I : Inv X pins σ H s) : ∀ b o, X.base.get? b = some o → s.heap.get? b = some o ∧ H b = none := fun b o e =>
  ⟨I.base.keep b o (I.ok.bs b o e).1 (I.ok.bs b o e).2 (I.ok.nofr e) (I.ok.noex b o e), I.base.free b o (I.ok.bs b o e).1 (I.ok.bs b o e).2 (I.ok.noex b o e)⟩
theorem Inv.bk (I : Inv X pins σ H s) : ∀ b o, X.base.get? b = some o → s.heap.get? b = some o := fun b o e => (I.bs b o e).1
theorem Inv.mod (I : Inv X pins σ H s) : Mod X.K X.mg X.base := I.ok.mod
theorem Inv.kIn (I : Inv X pins σ H s) : X.K.In s.heap := I.ok.mod.kin.keeps I.bk
theorem Inv.nolimit (I : Inv X pins σ H s) : s.heap.NoLimit := I.ok.mod.nolimit.keeps I.bk
/-- the frame over the base: for OpenK's rules (K.In X.base is I.mod.kin) -/
theorem Inv.fr (I : Inv X pins σ H s) : ∃ m, Fr X.base X.env.locals s.heap m :=
  let ⟨m, hn, _⟩ := I.loc
  ⟨m, hn, I.bk, Nat.le_trans I.ok.bsz I.ok.above⟩
theorem Inv.lt (I : Inv X pins σ H s) : X.env.locals < s.heap.objs.size := let ⟨_, hn, _⟩ := I.loc; hn.lt
theorem Inv.sz (I : Inv X pins σ H s) : X.s₀.heap.objs.size ≤ s.heap.objs.size := Nat.le_trans I.ok.above (Nat.le_of_lt I.lt)
theorem Inv.nofs (I : Inv X pins σ H s) {a : Addr} (h : s.heap.objs.size ≤ a) : a ∉ X.fs := fun hb => by
  obtain ⟨_, o, ho, _⟩ := I.ok.funs.mem hb
  exact absurd (Nat.lt_of_lt_of_le (Heap.lt_size ho) (Nat.le_trans I.sz h)) (Nat.lt_irrefl _)
theorem Inv.cne (I : Inv X pins σ H s) : ∀ x c, X.env.cells.lookup x = some c → c ≠ X.env.locals := fun x c e z => by
  obtain ⟨v, o, ho, hd⟩ := I.cell x c e
  obtain ⟨m, ⟨o', es, ep, ho', hd', _⟩, _⟩ := I.loc
  rw [z, ho'] at ho; cases ho; rw [hd'] at hd; cases hd
theorem Inv.funs (I : Inv X pins σ H s) : s.heap.FunFrames X.base X.outer := by
  have all : ∀ (l : List Env), (∀ b ∈ frs l, b ∈ X.fs) → X.s₀.heap.FunFrames X.base l → s.heap.FunFrames X.base l := by
    intro l
    induction l with
    | nil => intro _ _; trivial
    | cons env r ih =>
      intro hs hl
      obtain ⟨hk, ⟨L, o, hf, hn, ho, hd⟩, hr⟩ := hl
      have hL : L ∈ X.fs := hs L (by unfold frs; rw [List.filterMap_cons, hf]; exact List.mem_cons_self)
      obtain ⟨sl, e⟩ := I.base.slot L o ho (I.ok.frf L hL) hL fun z => I.ok.exfs L z hL
      exact ⟨hk, ⟨L, _, hf, hn, e, hd⟩, ih (fun b hb => hs b (by unfold frs; rw [List.filterMap_cons, hf]; exact List.mem_cons_of_mem _ hb)) hr⟩
  exact all X.outer (fun _ hb => hb) I.ok.funs

/-- the frames that run, for a call -/
theorem Inv.stack (I : Inv X pins σ H s) : s.heap.FunFrames X.base X.stack := by
  rcases I.ok.stk with e | ⟨e, hf⟩
  · rw [e]; exact I.funs
  · rw [e]
    obtain ⟨m, hn, _⟩ := I.loc
    refine .cons (by rw [I.ok.kind]; decide) hf hn ?_ I.funs
    exact Heap.get?_none_of_le (Nat.le_trans I.ok.bsz I.ok.above)
theorem Inv.stkSub (I : Inv X pins σ H s) : ∀ b ∈ frs X.stack, b ∈ X.env.locals :: X.fs := fun b hb => by
  rcases I.ok.stk with e | ⟨e, hf⟩
  · rw [e] at hb; exact List.mem_cons_of_mem _ hb
  · rw [e] at hb
    unfold frs at hb
    rw [List.filterMap_cons, hf] at hb
    exact hb
theorem Inv.stkFree (I : Inv X pins σ H s) : ∀ b ∈ frs X.stack, H b = none := fun b hb => by
  rcases List.mem_cons.mp (I.stkSub b hb) with e | hb
  · rw [e]; exact I.free
  · obtain ⟨_, o, ho, _⟩ := I.ok.funs.mem hb
    exact I.base.free b o ho (I.ok.frf b hb) fun z => I.ok.exfs b z hb

/-- THE STEP: the untracked objects but the frame and the records at ch are kept (the callers' frames up to slots), the frame's map is kept, the new abstract heap is held -/
theorem Inv.step {g' : Array GenState} {t' : Nat} {d' : Drawn} {ch : List Addr} (I : Inv X pins σ H s)
    (hch : ∀ b ∈ ch, (b ∈ X.ex ∨ X.s₀.heap.objs.size ≤ b) ∧ b ≠ X.env.locals ∧ (∀ x c, X.env.cells.lookup x = some c → c ≠ b) ∧ ∀ p ∈ X.pn ++ pins, p.1 ≠ b)
    (keep : ∀ b o, b ≠ X.env.locals → b ∉ X.fs → b ∉ ch → s.heap.get? b = some o → H b = none → h'.get? b = some o)
    (slot : ∀ b o, b ≠ X.env.locals → b ∈ X.fs → b ∉ ch → s.heap.get? b = some o → H b = none → ∃ sl, h'.get? b = some { o with slots := sl }) (free : ∀ b o, b ∉ ch → s.heap.get? b = some o → H b = none → H' b = none)
    (there : ∀ b o, b ∉ ch → s.heap.get? b = some o → ∃ o', h'.get? b = some o')
    (tups : ∀ b xs, H b = some (.tup xs) → H' b = some (.tup xs)) (frzs : ∀ b o u, H b = some (.frz o u) → H' b = some (.frz o u)) (tbls : ∀ b ps, H b = some (.tbl ps) → ∃ more, H' b = some (.tbl (ps ++ more)))
    (ns : ∀ m, s.heap.Ns X.env.locals m → h'.Ns X.env.locals m) (hok : HOk X.prog X.w H' h') (hg : AllBare g') :
    Inv X pins σ H' { s with heap := h', gens := g', drawn := d', toks := t' } := by
  have neL : ∀ b o, X.s₀.heap.get? b = some o → b ≠ X.env.locals := fun b o e => Nat.ne_of_lt (Nat.lt_of_lt_of_le (Heap.lt_size e) I.ok.above)
  have neC : ∀ b o, X.s₀.heap.get? b = some o → b ∉ X.ex → b ∉ ch := fun b o e hx hb => by
    rcases (hch b hb).1 with z | z
    · exact hx z
    · exact absurd (Nat.lt_of_lt_of_le (Heap.lt_size e) z) (Nat.lt_irrefl _)
  have cellK : ∀ x c, X.env.cells.lookup x = some c → ∀ v, s.heap.IsCell c v → h'.IsCell c v := fun x c e v ⟨o, ho, hd⟩ => by
    have nch : c ∉ ch := fun z => (hch c z).2.2.1 x c e rfl
    by_cases hc : c ∈ X.fs
    · obtain ⟨sl, q⟩ := slot c o (I.cne x c e) hc nch ho (I.freeC x c e)
      exact ⟨_, q, hd⟩
    · exact ⟨o, keep c o (I.cne x c e) hc nch ho (I.freeC x c e), hd⟩
  refine ⟨I.ok, I.os, hg, ⟨fun b o e n hb hx => ?_, fun b o e n hb hx => ?_, fun b o e n hx => ?_, fun b o e hx => ?_, fun b xs e => tups b xs (I.base.tups b xs e), fun b o xs e => frzs b o xs (I.base.frzs b o xs e), fun b ps e => ?_⟩, ?_, fun x c e => ?_, ?_, fun x c e => ?_, fun p hp => ?_, hok, I.len⟩
  · exact keep b o (neL b o e) hb (neC b o e hx) (I.base.keep b o e n hb hx) (I.base.free b o e n hx)
  · obtain ⟨sl, e1⟩ := I.base.slot b o e n hb hx
    obtain ⟨sl', e2⟩ := slot b _ (neL b o e) hb (neC b o e hx) e1 (I.base.free b o e n hx)
    exact ⟨sl', e2⟩
  · obtain ⟨o', e1⟩ := I.base.there b o e hx
    exact free b o' (neC b o e hx) e1 (I.base.free b o e n hx)
  · obtain ⟨o', e1⟩ := I.base.there b o e hx
    exact there b o' (neC b o e hx) e1
  · obtain ⟨m1, e1⟩ := I.base.tbls b ps e
    obtain ⟨m2, e2⟩ := tbls b _ e1
    exact ⟨m1 ++ m2, by rw [e2, Array.append_assoc]⟩
  · obtain ⟨m, hn, hl⟩ := I.loc
    refine ⟨m, ns m hn, fun i x v e1 e2 e3 => ?_⟩
    obtain ⟨u, r, l⟩ := hl i x v e1 e2 e3
    refine ⟨u, r, ?_⟩
    rcases l with l | ⟨k, c, e, z⟩
    · exact .inl l
    · exact .inr ⟨k, c, e, cellK x c e _ z⟩
  · obtain ⟨v, z⟩ := I.cell x c e
    exact ⟨v, cellK x c e v z⟩
  · obtain ⟨m, ⟨o, _, _, ho, _⟩, _⟩ := I.loc
    exact free _ o (fun z => (hch _ z).2.1 rfl) ho I.free
  · obtain ⟨v, o, ho, hd⟩ := I.cell x c e
    exact free c o (fun z => (hch c z).2.2.1 x c e rfl) ho (I.freeC x c e)
  · obtain ⟨e, n, ne, nf, d⟩ := I.pin p hp
    have nch : p.1 ∉ ch := fun z => (hch p.1 z).2.2.2 p hp rfl
    exact ⟨keep p.1 p.2 ne nf nch e n, free p.1 p.2 nch e n, ne, nf, d⟩
/-- .. where the frame's own object is kept too -/
theorem Inv.un {t' : Nat} (I : Inv X pins σ H s) (u : Un X.fs [] H H' s.heap h') (hok : HOk X.prog X.w H' h') : Inv X pins σ H' { s with heap := h', toks := t' } := by
  obtain ⟨m, ⟨o, es, ep, ho, r⟩, _⟩ := id I.loc
  obtain ⟨sl, hL⟩ := u.any ho I.free (by simp)
  exact I.step (g' := s.gens) (d' := s.drawn) (ch := []) (fun _ z => nomatch z) (fun b o _ hb _ e n => u.keep b o e n hb (by simp)) (fun b o _ hb _ e n => u.slot b o e n hb (by simp)) (fun b o _ e n => u.free b o e n (by simp)) (fun b o _ e => u.there b o e (by simp)) u.tups u.frzs u.tbls (fun m' hm => by
    obtain ⟨o', es', ep', ho', r'⟩ := hm
    rw [ho] at ho'; cases ho'
    exact ⟨_, es', ep', hL, r'⟩) hok I.bare
/-- behind a call (or a comprehension's block): the slots of this frame may have changed too, the records at ch may have turned -/
theorem Inv.call {g' : Array GenState} {t' : Nat} {d' : Drawn} {ch : List Addr} (I : Inv X pins σ H s) (u : Un (frs X.stack) ch H H' s.heap h') (hok : HOk X.prog X.w H' h') (hg : AllBare g')
    (hch : ∀ b ∈ ch, (b ∈ X.ex ∨ X.s₀.heap.objs.size ≤ b) ∧ b ≠ X.env.locals ∧ (∀ x c, X.env.cells.lookup x = some c → c ≠ b) ∧ ∀ p ∈ X.pn ++ pins, p.1 ≠ b) :
    Inv X pins σ H' { s with heap := h', gens := g', drawn := d', toks := t' } := by
  obtain ⟨m, ⟨o, es, ep, ho, r⟩, _⟩ := id I.loc
  obtain ⟨sl, hL⟩ := u.any ho I.free fun z => (hch _ z).2.1 rfl
  exact I.step (ch := ch) hch (fun b o hL hb hc e n => u.keep b o e n (fun z => (List.mem_cons.mp (I.stkSub b z)).elim hL hb) hc) (fun b o _ _ hc e n => u.any e n hc) (fun b o hc e n => u.free b o e n hc) (fun b o hc e => u.there b o e hc) u.tups u.frzs u.tbls (fun m' hm => by
    obtain ⟨o', es', ep', ho', r'⟩ := hm
    rw [ho] at ho'; cases ho'
    exact ⟨_, es', ep', hL, r'⟩) hok hg
/-- an untracked record of ours (an iterator) has turned -/
theorem Inv.turned {t' : Nat} {it : Addr} (I : Inv X pins σ H s) (k : ∀ b o, b ≠ it → s.heap.get? b = some o → h'.get? b = some o) (hn : H it = none) (hL : it ≠ X.env.locals)
    (h1 : it ∈ X.ex ∨ X.s₀.heap.objs.size ≤ it) (h2 : ∀ x c, X.env.cells.lookup x = some c → c ≠ it) (h3 : ∀ p ∈ X.pn ++ pins, p.1 ≠ it) : Inv X pins σ H { s with heap := h', toks := t' } := by
  have nit : ∀ b u, H b = some u → b ≠ it := fun b u e z => by rw [z, hn] at e; cases e
  refine I.step (g' := s.gens) (d' := s.drawn) (ch := [it]) (fun b hb => ?_) (fun b o _ _ hc e _ => k b o (fun z => hc (by simp [z])) e) (fun b o _ _ hc e _ => ⟨o.slots, k b o (fun z => hc (by simp [z])) e⟩) (fun _ _ _ _ n => n)
    (fun b o hc e => ⟨o, k b o (fun z => hc (by simp [z])) e⟩) (fun _ _ e => e) (fun _ _ _ e => e) (fun b ps e => ⟨#[], by rw [e]; simp⟩) (fun m hm => ?_) (fun b u e => ?_) I.bare
  · have e : b = it := by simpa using hb
    subst e
    exact ⟨h1, hL, h2, h3⟩
  · obtain ⟨o, es, ep, ho, r⟩ := hm
    exact ⟨o, es, ep, k _ o (Ne.symm hL) ho, r⟩
  · refine (I.hok b u e).stay (fun c v hc q => k c v ?_ q) (fun _ q => q) fun _ _ q => q
    rcases hc with z | z
    · rw [z]; exact nit b u e
    · exact nit c _ z
theorem Inv.tok (I : Inv X pins σ H s) (t : Nat) : Inv X pins σ H { s with toks := t } := I.un (h' := s.heap) (t' := t) Un.refl I.hok
/-- all objects kept -/
theorem Inv.kept {t' : Nat} (I : Inv X pins σ H s) (k : ∀ b u, s.heap.get? b = some u → h'.get? b = some u) : Inv X pins σ H { s with heap := h', toks := t' } := I.un (Un.kept k) (I.hok.kept k)
/-- a new object laid and tracked -/
theorem Inv.laid {a : Addr} {o : HO} {t' : Nat} (I : Inv X pins σ H s) (k : ∀ b u, s.heap.get? b = some u → h'.get? b = some u) (hp : s.heap.objs.size ≤ a) (new : ObjOk X.prog X.w (upd H a o) h' a o) :
    Inv X pins σ (upd H a o) { s with heap := h', toks := t' } := I.un (Un.laid k hp (I.hok.fresh hp)) (I.hok.laid k hp new)
/-- an object written -/
theorem Inv.write {x e : Addr} {o : HO} {t' : Nat} (I : Inv X pins σ H s) (mu : Mut (H x)) (he : e = x ∨ H e = some (.own x)) (k : ∀ b u, b ≠ e → s.heap.get? b = some u → h'.get? b = some u) (heo : ∃ u, h'.get? e = some u)
    (new : ObjOk X.prog X.w (upd H x o) h' x o) : Inv X pins σ (upd H x o) { s with heap := h', toks := t' } := I.un (Un.write mu he k heo) (I.hok.write mu he k heo new)
theorem Inv.pins_of {pins' : List (Addr × Obj)} (I : Inv X pins σ H s) (h : ∀ p ∈ pins', s.heap.get? p.1 = some p.2 ∧ H p.1 = none ∧ p.1 ≠ X.env.locals ∧ p.1 ∉ X.fs ∧ ∀ v, p.2.data ≠ .cell v) : Inv X pins' σ H s :=
  ⟨I.ok, I.os, I.bare, I.base, I.loc, I.cell, I.free, I.freeC, fun p hp => (List.mem_append.mp hp).elim (fun z => I.pin p (List.mem_append_left _ z)) (h p), I.hok, I.len⟩

theorem nodup_ix {N : List Str} (hN : N.Nodup) {i j : Nat} {x : Str} (a : N[i]? = some x) (b : N[j]? = some x) : i = j := by
  obtain ⟨h1, e1⟩ := List.getElem?_eq_some_iff.mp a
  obtain ⟨h2, e2⟩ := List.getElem?_eq_some_iff.mp b
  exact (List.getElem_inj hN).mp (e1.trans e2.symm)

/-- a name is stored; what changed -/
theorem store_ok2 {M : Model} {A : Around} {E : Value → Shared → Prop} {i : Nat} {x : Str} {v : V} {u : Value} {Q : Unit → Shared → Prop} (I : Inv X pins σ H s) (hN : X.N.Nodup) (hi : X.N[i]? = some x) (hx : Loc X.env.scope x) (r : RelV v u)
    (h : ∀ s', Inv X pins (σ.set i (some v)) H s' → (∃ a, Heap.SameBut a s.heap s'.heap ∧ (a = X.env.locals ∨ X.env.cells.lookup x = some a)) → Q () s') (hf : X.fn x = true ∨ X.env.scope.names.lookup x = some .local := by first | exact .inl rfl | exact .inr rfl | assumption) : wpAny M A (storeName X.env x u) Q E s := by
  obtain ⟨m, hn, hl⟩ := id I.loc
  have hcls : (X.env.scope.kind == .class || (X.env.scope.kind == .module && X.env.locals != X.env.globals)) = false := by rw [I.ok.kind]; rfl
  have hiσ : i < σ.length := by rw [I.len]; exact (List.getElem?_eq_some_iff.mp hi).1
  have cne := I.cne
  have tracked : ∀ {a : Addr} {h' : Heap}, (∃ o, s.heap.get? a = some o ∧ H a = none) → Heap.SameBut a s.heap h' → HOk X.prog X.w H h' := fun {a h'} ha hs b ob e => by
    obtain ⟨_, _, hfree⟩ := ha
    refine (I.hok b ob e).stay (fun c w' hc q => (hs.2 c ?_).trans q) (fun _ q => q) fun _ _ q => q
    rintro rfl
    rcases hc with rfl | hc
    · rw [hfree] at e; cases e
    · rw [hfree] at hc; cases hc
  rcases hx with hk | hk
  · refine wpAny_storeName_local hk hn (fun h' hn' hs => ?_) hcls
    obtain ⟨oL, _, _, hoL, _⟩ := id hn
    refine h _ ⟨I.ok, I.os, I.bare, ⟨fun b o e n hb hx => ?_, fun b o e n hb hx => ?_, I.base.free, fun b o e hx => ?_, I.base.tups, I.base.frzs, I.base.tbls⟩, ⟨_, hn', fun j y v' e1 e2 e3 => ?_⟩, fun y c e => ?_, I.free, I.freeC, fun p hp => ?_, tracked ⟨oL, hoL, I.free⟩ hs, by simpa using I.len⟩ ⟨_, hs, .inl rfl⟩
    · exact (hs.2 b (Nat.ne_of_lt (Nat.lt_of_lt_of_le (Heap.lt_size e) I.ok.above))).trans (I.base.keep b o e n hb hx)
    · obtain ⟨sl, e1⟩ := I.base.slot b o e n hb hx
      exact ⟨sl, (hs.2 b (Nat.ne_of_lt (Nat.lt_of_lt_of_le (Heap.lt_size e) I.ok.above))).trans e1⟩
    · obtain ⟨o', e1⟩ := I.base.there b o e hx
      exact ⟨o', (hs.2 b (Nat.ne_of_lt (Nat.lt_of_lt_of_le (Heap.lt_size e) I.ok.above))).trans e1⟩
    · by_cases hj : j = i
      · subst hj
        rw [hi] at e1; cases e1
        rw [List.getElem?_set_self hiσ] at e2
        cases e2
        exact ⟨u, r, .inl ⟨hk, by simp⟩⟩
      · rw [List.getElem?_set_ne (Ne.symm hj)] at e2
        obtain ⟨u', r', q⟩ := hl j y v' e1 e2 e3
        refine ⟨u', r', ?_⟩
        rcases q with ⟨k, e⟩ | ⟨k, c, e, z⟩
        · refine .inl ⟨k, ?_⟩
          have : y ≠ x := fun e => hj (nodup_ix hN e1 (e ▸ hi))
          simp [this, e]
        · exact .inr ⟨k, c, e, z.sameBut hs (cne y c e)⟩
    · obtain ⟨w', z⟩ := I.cell y c e
      exact ⟨w', z.sameBut hs (cne y c e)⟩
    · obtain ⟨e, n, ne, nf, d⟩ := I.pin p hp
      exact ⟨(hs.2 p.1 ne).trans e, n, ne, nf, d⟩
  · have hfn : X.fn x = true := by
      rcases hf with z | z
      · exact z
      · rw [z] at hk; cases hk
    obtain ⟨c, hc⟩ := I.ok.has x (.inl hk)
    obtain ⟨w', z⟩ := I.cell x c hc
    refine wpAny_storeName_cell I.ok.kind hk hc z (fun h' hc' hs => ?_)
    obtain ⟨oc, hoc, hocd⟩ := id z
    refine h { s with heap := h' } ⟨I.ok, I.os, I.bare, ⟨fun b o e n hb hx => ?_, fun b o e n hb hx => ?_, I.base.free, fun b o e hx => ?_, I.base.tups, I.base.frzs, I.base.tbls⟩, ⟨m, hn.sameBut hs (Ne.symm (cne x c hc)), fun j y v' e1 e2 e3 => ?_⟩, fun y c' e => ?_, I.free, I.freeC, fun p hp => ?_, tracked ⟨oc, hoc, I.freeC x c hc⟩ hs, by simpa using I.len⟩ ⟨c, hs, .inr hc⟩
    · exact (hs.2 b (Nat.ne_of_lt (Nat.lt_of_lt_of_le (Heap.lt_size e) (I.ok.cab x c hfn hc)))).trans (I.base.keep b o e n hb hx)
    · obtain ⟨sl, e1⟩ := I.base.slot b o e n hb hx
      exact ⟨sl, (hs.2 b (Nat.ne_of_lt (Nat.lt_of_lt_of_le (Heap.lt_size e) (I.ok.cab x c hfn hc)))).trans e1⟩
    · obtain ⟨o', e1⟩ := I.base.there b o e hx
      exact ⟨o', (hs.2 b (Nat.ne_of_lt (Nat.lt_of_lt_of_le (Heap.lt_size e) (I.ok.cab x c hfn hc)))).trans e1⟩
    · by_cases hj : j = i
      · subst hj
        rw [hi] at e1; cases e1
        rw [List.getElem?_set_self hiσ] at e2
        cases e2
        exact ⟨u, r, .inr ⟨.inl hk, c, hc, hc'⟩⟩
      · rw [List.getElem?_set_ne (Ne.symm hj)] at e2
        obtain ⟨u', r', q⟩ := hl j y v' e1 e2 e3
        refine ⟨u', r', ?_⟩
        rcases q with q | ⟨k, c', e, z'⟩
        · exact .inl q
        · refine .inr ⟨k, c', e, z'.sameBut hs ?_⟩
          rintro rfl
          exact hj (nodup_ix hN e1 (I.ok.inj _ _ _ e hc ▸ hi))
    · by_cases hcc : c' = c
      · subst hcc; exact ⟨_, hc'⟩
      · obtain ⟨w2, z2⟩ := I.cell y c' e
        exact ⟨w2, z2.sameBut hs hcc⟩
    · obtain ⟨e, n, ne, nf, d⟩ := I.pin p hp
      refine ⟨(hs.2 p.1 ?_).trans e, n, ne, nf, d⟩
      intro q
      rw [q, hoc] at e
      have q' : oc = p.2 := Option.some.inj e
      exact d w' (by rw [← q']; exact hocd)
theorem store_ok {M : Model} {A : Around} {E : Value → Shared → Prop} {i : Nat} {x : Str} {v : V} {u : Value} {Q : Unit → Shared → Prop} (I : Inv X pins σ H s) (hN : X.N.Nodup) (hi : X.N[i]? = some x) (hx : Loc X.env.scope x) (r : RelV v u)
    (h : ∀ s', Inv X pins (σ.set i (some v)) H s' → Q () s') (hf : X.fn x = true ∨ X.env.scope.names.lookup x = some .local := by first | exact .inl rfl | exact .inr rfl | assumption) : wpAny M A (storeName X.env x u) Q E s :=
  store_ok2 I hN hi hx r (fun s' I' _ => h s' I') hf
/-- behind a call or a block, the state as it is -/
theorem Inv.call' {s' : Shared} {ch : List Addr} (I : Inv X pins σ H s) (ho : s'.os = s.os) (u : Un (frs X.stack) ch H H' s.heap s'.heap) (hok : HOk X.prog X.w H' s'.heap) (hg : AllBare s'.gens)
    (hch : ∀ b ∈ ch, (b ∈ X.ex ∨ X.s₀.heap.objs.size ≤ b) ∧ b ≠ X.env.locals ∧ (∀ x c, X.env.cells.lookup x = some c → c ≠ b) ∧ ∀ p ∈ X.pn ++ pins, p.1 ≠ b) : Inv X pins σ H' s' := by
  obtain ⟨h', g', d', t', o'⟩ := s'
  have e : o' = s.os := ho
  subst e
  exact I.call (g' := g') (t' := t') (d' := d') u hok hg hch
end

/-! ### the judgements -/
/-- an exception: its class, its own dict's address (where it has one), the abstract heap behind it -/
abbrev XK := Value → Option Addr → Hp → Prop
abbrev St := List (Option V)
abbrev VK := V → Hp → Prop
/-- an expression's reading; a test's; an argument list's -/
abbrev TE := St → Hp → VK → Prop
abbrev TT := St → Hp → (Bool → Hp → Prop) → Prop
abbrev TA := St → Hp → (List V → Hp → Prop) → Prop
/-- what is wanted behind a statement -/
structure Ends where
  nx : St → Hp → Prop
  rt : VK
  bk : St → Hp → Prop := fun _ _ => False
  ct : St → Hp → Prop := fun _ _ => False
abbrev TS := Ends → St → Hp → Prop

def EP (X : Cx) (pins : List (Addr × Obj)) (σ : St) (Q : VK) (u : Value) (s' : Shared) : Prop := ∃ v H', Inv X pins σ H' s' ∧ RelV v u ∧ Q v H'
def TP (X : Cx) (pins : List (Addr × Obj)) (σ : St) (Q : Bool → Hp → Prop) (b : Bool) (s' : Shared) : Prop := ∃ H', Inv X pins σ H' s' ∧ Q b H'
def AP (X : Cx) (pins : List (Addr × Obj)) (σ : St) (Q : List V → Hp → Prop) (us : List Value) (s' : Shared) : Prop := ∃ vs H', Inv X pins σ H' s' ∧ Vals vs us ∧ Q vs H'
def SP (X : Cx) (pins : List (Addr × Obj)) (D : Ends) (f : Flow) (s' : Shared) : Prop :=
  match f with
  | .next => ∃ σ' H', Inv X pins σ' H' s' ∧ D.nx σ' H'
  | .brk => ∃ σ' H', Inv X pins σ' H' s' ∧ D.bk σ' H'
  | .cont => ∃ σ' H', Inv X pins σ' H' s' ∧ D.ct σ' H'
  | .ret u => ∃ v σ' H', Inv X pins σ' H' s' ∧ RelV v u ∧ D.rt v H'

def PE (X : Cx) (e : Expr) (t : TE) : Prop :=
  ∀ (pins : List (Addr × Obj)) (s : Shared) (σ : St) (H : Hp) (Q : VK), Inv X pins σ H s → t σ H Q → wpAny (model X.prog X.w) X.A (eval e X.env) (EP X pins σ Q) X.xe s
def PT (X : Cx) (e : Expr) (t : TT) : Prop :=
  ∀ (pins : List (Addr × Obj)) (s : Shared) (σ : St) (H : Hp) (Q : Bool → Hp → Prop), Inv X pins σ H s → t σ H Q → wpAny (model X.prog X.w) X.A (isTrue e X.env (eval e X.env)) (TP X pins σ Q) X.xe s
/-- a test whatever its 'whole' is (and, or) -/
def PW (X : Cx) (e : Expr) (t : TT) : Prop :=
  ∀ (whole : Sem Value) (pins : List (Addr × Obj)) (s : Shared) (σ : St) (H : Hp) (Q : Bool → Hp → Prop), Inv X pins σ H s → t σ H Q → wpAny (model X.prog X.w) X.A (isTrue e X.env whole) (TP X pins σ Q) X.xe s
theorem PW.pt {X : Cx} {e : Expr} {t : TT} (h : PW X e t) : PT X e t := h _
/-- an argument list (no star), from the left -/
def PA (X : Cx) (es : List Expr) (t : TA) : Prop :=
  ∀ (pos : Pos) (pins : List (Addr × Obj)) (s : Shared) (σ : St) (H : Hp) (Q : List V → Hp → Prop), Inv X pins σ H s → t σ H Q → wpAny (model X.prog X.w) X.A (spliced (backTo pos (starEach es X.env))) (AP X pins σ Q) X.xe s
def PS (X : Cx) (st : Stmt) (t : TS) : Prop :=
  ∀ (pins : List (Addr × Obj)) (s : Shared) (σ : St) (H : Hp) (D : Ends), Inv X pins σ H s → t D σ H → wpAny (model X.prog X.w) X.A (exec st X.env) (SP X pins D) X.xe s
def PSs (X : Cx) (st : List Stmt) (t : TS) : Prop :=
  ∀ (pins : List (Addr × Obj)) (s : Shared) (σ : St) (H : Hp) (D : Ends), Inv X pins σ H s → t D σ H → wpAny (model X.prog X.w) X.A (execs st X.env) (SP X pins D) X.xe s
/-- weaken the end -/
theorem thn {α : Type} {t : Sem α} {Q Q' : α → Shared → Prop} {M : Model} {A : Around} {E : Value → Shared → Prop} {s : Shared} (h : wpAny M A t Q E s) (hQ : ∀ a s, Q a s → Q' a s) : wpAny M A t Q' E s := wpAny_mono h hQ fun _ _ x => x
end L2

namespace L2
open PySem PySem.Spec PyProof.Rows
section
variable {X : Cx}

/-! ### names and constants -/
def tVar (i : Nat) : TE := fun σ H Q => ∃ v, σ[i]? = some (some v) ∧ Q v H
def tC (v : V) : TE := fun _ H Q => Q v H
theorem pe_var {i : Nat} {x : Str} {pos : Pos} (hN : X.N[i]? = some x) (hv : Vis X.env.scope x) (hd : (x == ("__debug__" : Str)) = false := by decide) (hcd : (x == ("__classdict__" : Str)) = false := by decide) : PE X (.Name x pos) (tVar i) := by
  intro pins s σ H Q I h
  obtain ⟨v, e, h⟩ := h
  obtain ⟨m, hn, hl⟩ := I.loc
  obtain ⟨u, r, l⟩ := hl i x v hN e hv
  have fin : EP X pins σ Q u s := ⟨v, H, I, r, h⟩
  rcases l with ⟨hk, hm⟩ | ⟨hk, c, hc, hcell⟩
  · exact wpAny_Name (wpAny_loadName_local I.ok.kind hk hn hm fin) hd
  · rcases hk with hk | hk
    · exact wpAny_Name (wpAny_loadName_cell I.ok.kind hk hc hcell fin) hd
    · exact wpAny_Name (wpAny_loadName_free I.ok.kind hk hc hcell fin hcd) hd
theorem pe_int {i j pos} : PE X (.Constant (.int i) j pos) (tC (.int i)) := fun _ _ _ H _ I h => wpAny_Constant_int ⟨.int i, H, I.tok _, ⟨_, rfl⟩, h⟩
theorem pe_bl {b j pos} : PE X (.Constant (.bool b) j pos) (tC (.bl b)) := fun _ _ _ H _ I h => Constant_bool ⟨.bl b, H, I, rfl, h⟩
theorem pe_str {x j pos} : PE X (.Constant (.str x) j pos) (tC (.str x)) := fun _ _ _ H _ I h => Calls.Constant_str ⟨.str x, H, I.tok _, ⟨_, rfl⟩, h⟩

/-- a global name of the def -/
def Gl (X : Cx) (x : Str) : Prop := X.env.kindOf x = some .globalImplicit
theorem ld_glob {E : Value → Shared → Prop} {pins : List (Addr × Obj)} {s : Shared} {σ : St} {H : Hp} {x : Str} {u : Value} {pos : Pos} {Q : Value → Shared → Prop} (I : Inv X pins σ H s) (hg : Gl X x) (hm : X.mg x = some u) (h : Q u s)
    (hd : (x == ("__debug__" : Str)) = false := by decide) : wpAny (model X.prog X.w) X.A (eval (.Name x pos) X.env) Q E s :=
  Calls.Name_function_global I.ok.kind hg (Calls.loadGlobal_global (by rw [I.ok.glob]; exact I.mod.glob.keeps I.bk) hm h) hd
theorem ld_blt {E : Value → Shared → Prop} {pins : List (Addr × Obj)} {s : Shared} {σ : St} {H : Hp} {x : Str} {u : Value} {pos : Pos} {Q : Value → Shared → Prop} (I : Inv X pins σ H s) (hg : Gl X x) (hm : X.mg x = none) (hv : bootBuiltins x = some u) (h : Q u s)
    (hn : x ≠ "__name__" := by decide) (hd : (x == ("__debug__" : Str)) = false := by decide) : wpAny (model X.prog X.w) X.A (eval (.Name x pos) X.env) Q E s := by
  obtain ⟨mb, h1, h2⟩ := I.mod.blt
  exact Calls.Name_function_global I.ok.kind hg (Calls.loadGlobal_builtin (by rw [I.ok.glob]; exact I.mod.glob.keeps I.bk) hm (by rw [I.ok.blt]; exact h1.keeps I.bk) ((h2 x hn).trans hv) h) hd
/-- a module's constant, a class, a function, as a value -/
theorem pe_glob {x : Str} {v : V} {u : Value} {pos : Pos} (hg : Gl X x) (hm : X.mg x = some u) (r : RelV v u) (hd : (x == ("__debug__" : Str)) = false := by decide) : PE X (.Name x pos) (tC v) :=
  fun _ _ _ H _ I h => ld_glob I hg hm ⟨v, H, I, r, h⟩ hd
/-! ### arithmetic -/
variable {a b : Expr} {ta tb : TE} {pos : Pos}
/-! ### comparisons -/
def PC (X : Cx) (op : CmpOp) (a b : Expr) (t : TE) : Prop :=
  ∀ (pins : List (Addr × Obj)) (s : Shared) (σ : St) (H : Hp) (Q : VK), Inv X pins σ H s → t σ H Q →
    wpAny (model X.prog X.w) X.A (eval a X.env) (fun v s₁ => wpAny (model X.prog X.w) X.A (eval b X.env) (fun u s₂ => wpAny (model X.prog X.w) X.A (compareOp op v u) (EP X pins σ Q) X.xe s₂) X.xe s₁) X.xe s
theorem nobehind (b : Expr) {op : CmpOp} (h : op ≠ .In) (h2 : op ≠ .NotIn) : behindInMarks op b = false := by
  have e1 : (op == CmpOp.In) = false := by cases op <;> first | rfl | exact absurd rfl h
  have e2 : (op == CmpOp.NotIn) = false := by cases op <;> first | rfl | exact absurd rfl h2
  cases b <;> simp [behindInMarks, e1, e2]
/-- a comparison as a value, as a test -/
def tB (t : TE) : TT := fun σ H Q => t σ H fun x H1 => ∃ c, x = .bl c ∧ Q c H1
theorem pe_cmp {op : CmpOp} {t : TE} (h : PC X op a b t) (h1 : behindInMarks op b = false := by first | exact nobehind _ (by decide) (by decide) | rfl) : PE X (.Compare a [op] [b] pos) t := fun pins s σ H Q I hw => wpAny_Compare1 (h pins s σ H Q I hw) h1
theorem pt_cmp {op : CmpOp} {t : TE} (h : PC X op a b t) (h1 : behindInMarks op b = false := by first | exact nobehind _ (by decide) (by decide) | rfl) : PT X (.Compare a [op] [b] pos) (tB t) := by
  intro pins s σ H Q I hw
  refine wpAny_isTrue_Compare1 (thn (h pins s σ H _ I hw) fun v s1 h1 => thn h1 fun u s2 h2 => thn h2 fun c s3 ⟨x, H1, I1, r1, q1⟩ => ?_) h1
  obtain ⟨d, rfl, q⟩ := q1
  cases r1
  exact wpAny_truthy_bool ⟨H1, I1, q⟩
/-- an expression whose value is a bool, as a test -/
theorem pt_val {e : Expr} {t : TE} (h : PE X e t) (he : ∀ whole, isTrue e X.env whole = (do let v ← whole; standAt e.pos; holding [v] (truthy v)) := by intro _; rfl) : PT X e (tB t) := by
  intro pins s σ H Q I hw
  refine isTrue_plain (thn (h pins s σ H _ I hw) fun v s1 ⟨x, H1, I1, r1, q1⟩ => ?_) (he _)
  obtain ⟨d, rfl, q⟩ := q1
  cases r1
  exact wpAny_truthy_bool ⟨H1, I1, q⟩

/-! ### and, or, not -/
variable {tA tB' : TT} {rest : List Expr}
def tAnd (t u : TT) : TT := fun σ H Q => t σ H fun c H1 => if c = true then u σ H1 Q else Q false H1
def tNot (t : TT) : TT := fun σ H Q => t σ H fun c H1 => Q (!c) H1
theorem pw_and1 (ha : PT X a tA) : PW X (.BoolOp .And [a] pos) tA := by
  intro wh pins s σ H Q I h
  refine isTrue_and (thn (ha pins s σ H Q I h) fun c s1 e => ?_)
  cases c with
  | true => exact isTrue_and_nil e
  | false => exact e
theorem pw_and (ha : PT X a tA) (hb : PW X (.BoolOp .And (b :: rest) pos) tB') : PW X (.BoolOp .And (a :: b :: rest) pos) (tAnd tA tB') := by
  intro wh pins s σ H Q I h
  refine isTrue_and (thn (ha pins s σ H _ I h) fun c s1 ⟨H1, I1, q1⟩ => ?_)
  cases c with
  | true => exact hb wh pins s1 σ H1 Q I1 q1
  | false => exact ⟨H1, I1, q1⟩
theorem pt_not (ha : PT X a tA) : PT X (.UnaryOp .Not a pos) (tNot tA) := by
  intro pins s σ H Q I h
  exact isTrue_not (ha pins s σ H (fun c H1 => Q (!c) H1) I h)
/-- .. as values (bools) -/
def tAndV (ta tb : TE) : TE := fun σ H Q => ta σ H fun x H1 => ∃ c, x = .bl c ∧ if c = true then tb σ H1 Q else Q (.bl false) H1
def tOrV (ta tb : TE) : TE := fun σ H Q => ta σ H fun x H1 => ∃ c, x = .bl c ∧ if c = true then Q (.bl true) H1 else tb σ H1 Q
def tNotV (ta : TE) : TE := fun σ H Q => ta σ H fun x H1 => ∃ c, x = .bl c ∧ Q (.bl (!c)) H1
theorem pe_one {op} {t : TE} (h : PE X a t) : PE X (.BoolOp op [a] pos) t := fun pins s σ H Q I hw => BoolOp_one (h pins s σ H Q I hw)
theorem pe_and (ha : PE X a ta) (hb : PE X (.BoolOp .And (b :: rest) pos) tb) : PE X (.BoolOp .And (a :: b :: rest) pos) (tAndV ta tb) := by
  intro pins s σ H Q I h
  refine BoolOp_and (thn (ha pins s σ H _ I h) fun v s1 ⟨x, H1, I1, r1, q1⟩ => ?_)
  obtain ⟨c, rfl, q1⟩ := q1
  cases r1
  refine wpAny_truthy_bool ?_
  cases c with
  | true => exact hb pins s1 σ H1 Q I1 q1
  | false => exact ⟨.bl false, H1, I1, rfl, q1⟩
theorem pe_or (ha : PE X a ta) (hb : PE X (.BoolOp .Or (b :: rest) pos) tb) : PE X (.BoolOp .Or (a :: b :: rest) pos) (tOrV ta tb) := by
  intro pins s σ H Q I h
  refine BoolOp_or (thn (ha pins s σ H _ I h) fun v s1 ⟨x, H1, I1, r1, q1⟩ => ?_)
  obtain ⟨c, rfl, q1⟩ := q1
  cases r1
  refine wpAny_truthy_bool ?_
  cases c with
  | false => exact hb pins s1 σ H1 Q I1 q1
  | true => exact ⟨.bl true, H1, I1, rfl, q1⟩
theorem pe_not (ha : PE X a ta) : PE X (.UnaryOp .Not a pos) (tNotV ta) := by
  intro pins s σ H Q I h
  refine UnaryOp_ (thn (ha pins s σ H _ I h) fun v s1 ⟨x, H1, I1, r1, q1⟩ => ?_)
  obtain ⟨c, rfl, q1⟩ := q1
  cases r1
  exact not_of (wpAny_truthy_bool ⟨.bl (!c), H1, I1, rfl, q1⟩)
end
end L2

namespace L2
open PySem PySem.Spec PyProof.Rows

/-! ### a list, a tuple that is read: tracked, frozen, or an object of the module -/
def SqL (K : PySem.W.Frag) (H : Hp) (a : Addr) (xs : List V) : Prop :=
  Rd H a (.lst xs) ∨
    ∃ (o : Obj) (its : Array Value) (n : Nat), K.lookup a = some o ∧ o.cls = .type "list" ∧ o.dict = none ∧ o.data = .seq its n ∧ its.size ≤ sizeLine ∧ Vals xs its.toList
def SqT (K : PySem.W.Frag) (H : Hp) (a : Addr) (xs : List V) : Prop :=
  Rd H a (.tup xs) ∨
    ∃ (o : Obj) (its : Array Value) (n : Nat), K.lookup a = some o ∧ o.cls = .type "tuple" ∧ o.data = .seq its n ∧ its.size ≤ sizeLine ∧ Vals xs its.toList
def absV : Value → Option V
  | .none => some .non
  | .bool b => some (.bl b)
  | .int i _ => some (.int i)
  | .str x _ => some (.str x)
  | .bytes b _ => some (.byt b)
  | .float b _ => some (.flt b)
  | .ref a => some (.ref a)
  | .type n => some (.ty n)
  | _ => none
theorem RelV.abs {x : V} {u : Value} (r : RelV x u) : absV u = some x := by
  cases x with
  | non => cases r; rfl
  | bl _ => cases r; rfl
  | int _ => obtain ⟨t, rfl⟩ := r; rfl
  | str _ => obtain ⟨t, rfl⟩ := r; rfl
  | byt _ => obtain ⟨t, rfl⟩ := r; rfl
  | flt _ => obtain ⟨t, rfl⟩ := r; rfl
  | ref _ => cases r; rfl
  | ty _ => cases r; rfl
theorem RelV.inj {x y : V} {u : Value} (r : RelV x u) (q : RelV y u) : x = y := Option.some.inj (r.abs.symm.trans q.abs)
theorem Vals.inj : ∀ {xs ys : List V} {us : List Value}, Vals xs us → Vals ys us → xs = ys
  | _, _, _, .nil, .nil => rfl
  | _, _, _, .cons r t, .cons r' t' => by rw [r.inj r', Vals.inj t t']
section
variable {X : Cx} {pins : List (Addr × Obj)} {σ : St} {H : Hp} {s : Shared} {a : Addr} {xs ys : List V}
theorem SqL.of {K : PySem.W.Frag} (h : H a = some (.lst xs)) : SqL K H a xs := .inl (.inl h)
theorem SqT.of {K : PySem.W.Frag} (h : H a = some (.tup xs)) : SqT K H a xs := .inl (.inl h)
theorem Inv.list (I : Inv X pins σ H s) (h : SqL X.K H a xs) : ∃ its : List Value, Vals xs its ∧ PlainL s.heap a its.toArray ∧ xs.length ≤ sizeLine := by
  rcases h with h | ⟨o, its, n, hk, hc, hd, hs, hz, r⟩
  · obtain ⟨z, its, n, r, e⟩ := h.ok I.hok
    exact ⟨its, r, ⟨_, n, e, rfl, rfl, rfl⟩, z⟩
  · refine ⟨its.toList, r, ⟨o, n, I.kIn a o hk, hc, hd, by simpa using hs⟩, ?_⟩
    have e := r.length
    simp only [Array.length_toList] at e
    omega
theorem Inv.tuple (I : Inv X pins σ H s) (h : SqT X.K H a xs) : ∃ its : List Value, Vals xs its ∧ IsTup s.heap a its.toArray ∧ xs.length ≤ sizeLine := by
  rcases h with h | ⟨o, its, n, hk, hc, hs, hz, r⟩
  · obtain ⟨z, its, r, p⟩ := h.ok I.hok
    exact ⟨its, r, p.is, z⟩
  · refine ⟨its.toList, r, ⟨o, I.kIn a o hk, hc, n, by simpa using hs⟩, ?_⟩
    have e := r.length
    simp only [Array.length_toList] at e
    omega
theorem Inv.list_inj (I : Inv X pins σ H s) (h : SqL X.K H a xs) (h' : SqL X.K H a ys) : xs = ys := by
  obtain ⟨its, r, ⟨o, n, e, _, _, d⟩, _⟩ := I.list h
  obtain ⟨its', r', ⟨o', n', e', _, _, d'⟩, _⟩ := I.list h'
  rw [e] at e'; cases e'
  rw [d] at d'
  injection d' with d1 _
  have : its = its' := by simpa using congrArg Array.toList d1
  subst this
  exact r.inj r'
theorem Inv.tuple_inj (I : Inv X pins σ H s) (h : SqT X.K H a xs) (h' : SqT X.K H a ys) : xs = ys := by
  obtain ⟨its, r, ⟨o, e, _, n, d⟩, _⟩ := I.tuple h
  obtain ⟨its', r', ⟨o', e', _, n', d'⟩, _⟩ := I.tuple h'
  rw [e] at e'; cases e'
  rw [d] at d'
  injection d' with d1 _
  have : its = its' := by simpa using congrArg Array.toList d1
  subst this
  exact r.inj r'
end

/-! ### another wish about exceptions -/
abbrev Cx.wish (X : Cx) (E : Value → Shared → Prop) : Cx := { X with xe := E }
/-- no exception leaves -/
abbrev Cx.nox (X : Cx) : Cx := X.wish fun _ _ => False
theorem Cx.Ok.wish {X : Cx} (ok : X.Ok) (E : Value → Shared → Prop) : (X.wish E).Ok :=
  ⟨ok.mod, ok.kind, ok.glob, ok.blt, ok.above, ok.inj, ok.has, ok.cab, ok.hd, ok.frames, ok.stk, ok.exf, ok.bs, ok.bsz, ok.noex, ok.exfs, ok.funs, ok.frf⟩
theorem Cx.Ok.unwish {X : Cx} {E : Value → Shared → Prop} (ok : (X.wish E).Ok) : X.Ok :=
  ⟨ok.mod, ok.kind, ok.glob, ok.blt, ok.above, ok.inj, ok.has, ok.cab, ok.hd, ok.frames, ok.stk, ok.exf, ok.bs, ok.bsz, ok.noex, ok.exfs, ok.funs, ok.frf⟩
section
variable {X : Cx} {pins : List (Addr × Obj)} {σ : St} {H : Hp} {s : Shared} {E : Value → Shared → Prop}
theorem Inv.wish (I : Inv X pins σ H s) (E : Value → Shared → Prop) : Inv (X.wish E) pins σ H s := ⟨I.ok.wish E, I.os, I.bare, I.base, I.loc, I.cell, I.free, I.freeC, I.pin, I.hok, I.len⟩
theorem Inv.unwish (I : Inv (X.wish E) pins σ H s) : Inv X pins σ H s := ⟨I.ok.unwish, I.os, I.bare, I.base, I.loc, I.cell, I.free, I.freeC, I.pin, I.hok, I.len⟩
theorem SP.unwish {D : Ends} {f : Flow} {s' : Shared} (h : SP (X.wish E) pins D f s') : SP X pins D f s' := by
  cases f with
  | next => obtain ⟨σ', H', I, q⟩ := h; exact ⟨σ', H', I.unwish, q⟩
  | brk => obtain ⟨σ', H', I, q⟩ := h; exact ⟨σ', H', I.unwish, q⟩
  | cont => obtain ⟨σ', H', I, q⟩ := h; exact ⟨σ', H', I.unwish, q⟩
  | ret u => obtain ⟨v, σ', H', I, r, q⟩ := h; exact ⟨v, σ', H', I.unwish, r, q⟩
theorem PE.nox {e : Expr} {t : TE} (h : PE X.nox e t) : PE X e t := fun pins s σ H Q I hw =>
  wpAny_mono (h pins s σ H Q (I.wish _) hw) (fun _ _ ⟨v, H', I', r, q⟩ => ⟨v, H', I'.unwish, r, q⟩) fun _ _ z => False.elim z
theorem PT.nox {e : Expr} {t : TT} (h : PT X.nox e t) : PT X e t := fun pins s σ H Q I hw =>
  wpAny_mono (h pins s σ H Q (I.wish _) hw) (fun _ _ ⟨H', I', q⟩ => ⟨H', I'.unwish, q⟩) fun _ _ z => False.elim z
theorem PSs.nox {st : List Stmt} {t : TS} (h : PSs X.nox st t) : PSs X st t := fun pins s σ H D I hw =>
  wpAny_mono (h pins s σ H D (I.wish _) hw) (fun _ _ q => q.unwish) fun _ _ z => False.elim z
end

/-! ### blocks and small statements -/
section
variable {X : Cx} {st : Stmt} {rest : List Stmt} {t u : TS} {e : Expr} {te : TE} {pos : Pos}
def tNext : TS := fun D σ H => D.nx σ H
def tSeq (t u : TS) : TS := fun D σ H => t { D with nx := u D } σ H
theorem pss_nil : PSs X [] tNext := fun _ _ σ H _ I h => wpAny_execs_nil ⟨σ, H, I, h⟩
theorem pss_cons (h1 : PS X st t) (h2 : PSs X rest u) : PSs X (st :: rest) (tSeq t u) := by
  intro pins s σ H D I h
  refine wpAny_execs_cons (thn (h1 pins s σ H { D with nx := u D } I h) fun f s1 q => ?_)
  cases f with
  | next =>
    obtain ⟨σ', H', I', q⟩ := q
    exact h2 pins s1 σ' H' D I' q
  | ret v => exact q
  | brk => exact q
  | cont => exact q
theorem pss_one (h1 : PS X st t) : PSs X [st] t := by
  intro pins s σ H D I h
  refine wpAny_execs_cons (thn (h1 pins s σ H D I h) fun f s1 q => ?_)
  cases f with
  | next => exact wpAny_execs_nil q
  | ret v => exact q
  | brk => exact q
  | cont => exact q
/-- in a def's body nothing is shown -/
theorem Inv.quiet {pins : List (Addr × Obj)} {σ : St} {H : Hp} {s : Shared} (I : Inv X pins σ H s) : interactive X.env = false := by simp [interactive, I.ok.kind]
/-- an expression whose value is dropped -/
def tDrop (te : TE) : TS := fun D σ H => te σ H fun _ H1 => D.nx σ H1
theorem ps_expr (he : PE X e te) (hs : swapsWith e none pos.line X.env = pure false := by rfl) : PS X (.Expr e pos) (tDrop te) := by
  intro pins s σ H D I h
  exact wpAny_Expr_any (thn (he pins s σ H _ I h) fun v s1 ⟨x, H1, I1, r1, q1⟩ => ⟨σ, H1, I1, q1⟩) I.quiet hs
def tRet (te : TE) : TS := fun D σ H => te σ H D.rt
theorem ps_ret (he : PE X e te) : PS X (.Return (some e) pos) (tRet te) := by
  intro pins s σ H D I h
  exact wpAny_Return_some (thn (he pins s σ H _ I h) fun v s1 ⟨x, H1, I1, r1, q1⟩ => ⟨x, σ, H1, I1, r1, q1⟩)
def tIfS (c : TT) (t u : TS) : TS := fun D σ H => c σ H fun b H1 => if b = true then t D σ H1 else u D σ H1
theorem ps_if {c : Expr} {a b : List Stmt} {tc : TT} (hc : PT X c tc) (ha : PSs X a t) (hb : PSs X b u) : PS X (.If c a b pos) (tIfS tc t u) := by
  intro pins s σ H D I h
  refine wpAny_If (thn (hc pins s σ H _ I h) fun d s1 ⟨H1, I1, q1⟩ => ?_)
  cases d with
  | true => exact ha pins s1 σ H1 D I1 q1
  | false => exact hb pins s1 σ H1 D I1 q1
/-- code that the proof never comes to -/
def tNever : TS := fun _ _ _ => False
theorem pss_never {sts : List Stmt} : PSs X sts tNever := fun _ _ _ _ _ _ h => h.elim
end

/-! ### targets -/
abbrev TG := V → St → Hp → (St → Hp → Prop) → Prop
abbrev TGs := List V → St → Hp → (St → Hp → Prop) → Prop
def PG (X : Cx) (target : Expr) (t : TG) : Prop :=
  ∀ (pins : List (Addr × Obj)) (s : Shared) (σ : St) (H : Hp) (v : V) (u : Value) (Q : St → Hp → Prop), Inv X pins σ H s → RelV v u → t v σ H Q →
    wpAny (model X.prog X.w) X.A (assign target X.env u) (fun _ s' => ∃ σ' H', Inv X pins σ' H' s' ∧ Q σ' H') X.xe s
/-- several targets, one after another -/
def PGs (X : Cx) (ts : List Expr) (t : TGs) : Prop :=
  ∀ (pins : List (Addr × Obj)) (s : Shared) (σ : St) (H : Hp) (vs : List V) (us : List Value) (Q : St → Hp → Prop), Inv X pins σ H s → Vals vs us → t vs σ H Q →
    wpAny (model X.prog X.w) X.A (assignInOrder ((assignEach ts X.env).map (·.2)) us) (fun _ s' => ∃ σ' H', Inv X pins σ' H' s' ∧ Q σ' H') X.xe s
/-- o[i] = v, by values -/
abbrev TSet := V → V → V → Hp → (Hp → Prop) → Prop
def PSet (X : Cx) (t : TSet) : Prop :=
  ∀ (pins : List (Addr × Obj)) (s : Shared) (σ : St) (H : Hp) (o i v : V) (ov iv u : Value) (Q : Hp → Prop), Inv X pins σ H s → RelV o ov → RelV i iv → RelV v u → t o i v H Q →
    wpAny (model X.prog X.w) X.A (setItem ov iv u) (fun _ s' => ∃ H', Inv X pins σ H' s' ∧ Q H') X.xe s
/-- a op= b, by values -/
abbrev TIp := V → V → Hp → VK → Prop
def PIp (X : Cx) (op : Operator) (t : TIp) : Prop :=
  ∀ (pins : List (Addr × Obj)) (s : Shared) (σ : St) (H : Hp) (x y : V) (v u : Value) (Q : VK), Inv X pins σ H s → RelV x v → RelV y u → t x y H Q →
    wpAny (model X.prog X.w) X.A (inplaceOp op v u) (EP X pins σ Q) X.xe s
section
variable {X : Cx} {pos : Pos}
def gName (i : Nat) : TG := fun v σ H Q => Q (σ.set i (some v)) H
theorem pg_name {i : Nat} {x : Str} (hN : X.N.Nodup) (hi : X.N[i]? = some x) (hx : Loc X.env.scope x) (hf : X.fn x = true ∨ X.env.scope.names.lookup x = some .local := by first | exact .inl rfl | exact .inr rfl | assumption) : PG X (.Name x pos) (gName i) := by
  intro pins s σ H v u Q I r h
  exact wpAny_assign_Name (store_ok I hN hi hx r (fun s' I' => ⟨_, H, I', h⟩) hf)
def gNil : TGs := fun vs σ H Q => vs = [] ∧ Q σ H
def gCons (t : TG) (u : TGs) : TGs := fun vs σ H Q => ∃ v r, vs = v :: r ∧ t v σ H fun σ' H' => u r σ' H' Q
theorem pgs_nil : PGs X [] gNil := by
  intro pins s σ H vs us Q I r h
  obtain ⟨e, h⟩ := h
  subst e
  cases r
  exact assignInOrder_nil ⟨σ, H, I, h⟩
theorem pgs_cons {e : Expr} {es : List Expr} {t : TG} {u : TGs} (h1 : PG X e t) (h2 : PGs X es u)
    (hs : (assignEach (e :: es) X.env).map (·.2) = assign e X.env :: (assignEach es X.env).map (·.2) := by rfl) : PGs X (e :: es) (gCons t u) := by
  intro pins s σ H vs us Q I r h
  obtain ⟨v, vr, e1, h⟩ := h
  subst e1
  cases r with
  | cons r rr =>
    rw [hs]
    refine assignInOrder_cons (thn (h1 pins s σ H _ _ _ I r h) fun _ s1 ⟨σ1, H1, I1, q1⟩ => ?_)
    exact h2 pins s1 σ1 H1 _ _ Q I1 rr q1
/-- (a, b, ..) = a tuple of that length -/
def gTup (K : PySem.W.Frag) (n : Nat) (t : TGs) : TG := fun v σ H Q => ∃ a xs, v = .ref a ∧ SqT K H a xs ∧ xs.length = n ∧ t xs σ H Q
theorem pg_tup {es : List Expr} {k : Nat} {t : TGs} {n : Nat} (hc : X.calm = true) (h : PGs X es t)
    (hn : (assignEach es X.env).length = n := by rfl) (hst : (assignEach es X.env).findIdx? (·.1) = none := by rfl) : PG X (.Tuple es k pos) (gTup X.K n t) := by
  intro pins s σ H v u Q I r hw
  obtain ⟨a, xs, e1, hq, hl, hw⟩ := hw
  subst e1
  cases r
  obtain ⟨its, rv, ht, hz⟩ := I.tuple hq
  refine assign_Tuple_tuple (I.ok.hd hc) ht (by simp [hn, ← hl, rv.length]) hst fun h' hx => ?_
  have I1 : Inv X pins σ H { s with heap := h' } := I.kept (t' := s.toks) fun b o e => hx b o (Nat.ne_of_lt (Heap.lt_size e)) e
  exact h pins _ σ H xs _ Q I1 (by simpa using rv) hw
/-- target = value -/
def tAsg (te : TE) (g : TG) : TS := fun D σ H => te σ H fun x H1 => g x σ H1 D.nx
theorem ps_asg {tg e : Expr} {te : TE} {g : TG} (he : PE X e te) (hg : PG X tg g) (hs : swapsWithSole [tg] e pos.line X.env = pure false := by rfl) (hw : swappedStores [tg] e X.env = pure none := by rfl)
    (h1 : (assignEach [tg] X.env).map (·.2) = [assign tg X.env] := by rfl) : PS X (.Assign [tg] e pos) (tAsg te g) := by
  intro pins s σ H D I h
  refine wpAny_Assign_stores (thn (he pins s σ H _ I h) fun v s1 ⟨x, H1, I1, r1, q1⟩ => ?_) hs hw
  rw [h1]
  exact thn (hg pins s1 σ H1 x v _ I1 r1 q1) fun _ s2 q => q
/-- name = value -/
theorem ps_set {i : Nat} {x : Str} {e : Expr} {te : TE} {pos' : Pos} (hN : X.N.Nodup) (hi : X.N[i]? = some x) (hx : Loc X.env.scope x) (he : PE X e te) (hs : swapsWith e (some (.Name x pos')) pos.line X.env = pure false := by rfl) (hf : X.fn x = true ∨ X.env.scope.names.lookup x = some .local := by first | exact .inl rfl | exact .inr rfl | assumption) :
    PS X (.Assign [.Name x pos'] e pos) (tAsg te (gName i)) := by
  intro pins s σ H D I h
  refine wpAny_Assign_Name (thn (he pins s σ H _ I h) fun v s1 ⟨y, H1, I1, r1, q1⟩ => ?_) hs
  exact store_ok I1 hN hi hx r1 (fun s2 I2 => ⟨_, H1, I2, q1⟩) hf
/-- name op= e -/
def tAug (i : Nat) (te : TE) (ti : TIp) : TS := fun D σ H => ∃ x, σ[i]? = some (some x) ∧ te σ H fun y H1 => ti x y H1 fun z H2 => D.nx (σ.set i (some z)) H2
theorem ps_aug {i : Nat} {x : Str} {e : Expr} {te : TE} {op : Operator} {ti : TIp} {pos' : Pos} (hN : X.N.Nodup) (hi : X.N[i]? = some x) (hx : Loc X.env.scope x) (he : PE X e te) (ho : PIp X op ti) (hf : X.fn x = true ∨ X.env.scope.names.lookup x = some .local := by first | exact .inl rfl | exact .inr rfl | assumption) :
    PS X (.AugAssign (.Name x pos') op e pos) (tAug i te ti) := by
  intro pins s σ H D I h
  obtain ⟨v, e1, h⟩ := h
  obtain ⟨m, hn, hl⟩ := I.loc
  have vis : Vis X.env.scope x := by rcases hx with k | k; exact .inl k; exact .inr (.inl k)
  obtain ⟨u, r, l⟩ := hl i x v hi e1 vis
  refine wpAny_AugAssign_Name ?_
  have go : wpAny (model X.prog X.w) X.A (eval e X.env) (fun w s₂ => wpAny (model X.prog X.w) X.A (inplaceOp op u w) (fun r s₃ => wpAny (model X.prog X.w) X.A (storeName X.env x r) (fun _ => SP X pins D .next) X.xe s₃) X.xe s₂) X.xe s := by
    refine thn (he pins s σ H _ I h) fun w s1 ⟨y, H1, I1, r1, q1⟩ => ?_
    refine thn (ho pins s1 σ H1 v y u w _ I1 r r1 q1) fun z s2 ⟨zv, H2, I2, r2, q2⟩ => ?_
    exact store_ok I2 hN hi hx r2 (fun s3 I3 => ⟨_, H2, I3, q2⟩) hf
  rcases l with ⟨hk, hm⟩ | ⟨hk, c, hc, hcell⟩
  · exact wpAny_loadName_local I.ok.kind hk hn hm go
  · rcases hk with hk | hk
    · exact wpAny_loadName_cell I.ok.kind hk hc hcell go
    · rcases hx with k | k
      · have : X.env.scope.names.lookup x = some .free := hk
        rw [k] at this; cases this
      · have : X.env.scope.names.lookup x = some .free := hk
        rw [k] at this; cases this
/-- o[i] op= e -/
def tAugS (to ti te : TE) (tget : V → V → Hp → VK → Prop) (tip : TIp) (tset : TSet) : TS := fun D σ H => to σ H fun o H1 => ti σ H1 fun i H2 => tget o i H2 fun x H3 => te σ H3 fun y H4 => tip x y H4 fun z H5 => tset o i z H5 fun H6 => D.nx σ H6
/-- o[i], by values -/
def PGet (X : Cx) (t : V → V → Hp → VK → Prop) : Prop :=
  ∀ (pins : List (Addr × Obj)) (s : Shared) (σ : St) (H : Hp) (o i : V) (ov iv : Value) (Q : VK), Inv X pins σ H s → RelV o ov → RelV i iv → t o i H Q →
    wpAny (model X.prog X.w) X.A (getItem ov iv) (EP X pins σ Q) X.xe s
theorem ps_augS {o i e : Expr} {to ti te : TE} {tget : V → V → Hp → VK → Prop} {tip : TIp} {tset : TSet} {op : Operator} {tpos : Pos} (ho : PE X o to) (hi : PE X i ti) (hg : PGet X tget) (he : PE X e te) (hp : PIp X op tip) (hs : PSet X tset)
    (ha : ∀ ov iv new, augStore i ov iv new = (do holding [new, ov, iv] (setItem ov iv new); release [new, ov, iv] []; pure .next) := by intros; rfl) : PS X (.AugAssign (.Subscript o i tpos) op e pos) (tAugS to ti te tget tip tset) := by
  intro pins s σ H D I h
  refine wpAny_AugAssign_SubscriptAny (thn (ho pins s σ H _ I h) fun ov s1 ⟨x1, H1, I1, r1, q1⟩ => ?_) ha
  refine thn (hi pins s1 σ H1 _ I1 q1) fun iv s2 ⟨x2, H2, I2, r2, q2⟩ => ?_
  refine thn (hg pins s2 σ H2 x1 x2 ov iv _ I2 r1 r2 q2) fun old s3 ⟨x3, H3, I3, r3, q3⟩ => ?_
  refine thn (he pins s3 σ H3 _ I3 q3) fun v s4 ⟨x4, H4, I4, r4, q4⟩ => ?_
  refine thn (hp pins s4 σ H4 x3 x4 old v _ I4 r3 r4 q4) fun new s5 ⟨x5, H5, I5, r5, q5⟩ => ?_
  exact thn (hs pins s5 σ H5 x1 x2 x5 ov iv new _ I5 r1 r2 r5 q5) fun _ s6 ⟨H6, I6, q6⟩ => ⟨σ, H6, I6, q6⟩
/-- ints -/
def ipI (f : Int → Int → Int) : TIp := fun x y H Q => ∃ i j, x = .int i ∧ y = .int j ∧ Q (.int (f i j)) H
theorem ip_add : PIp X .Add (ipI fun i j => i + j) := by
  intro pins s σ H x y v u Q I r1 r2 h
  obtain ⟨i, j, e1, e2, q⟩ := h
  subst e1; subst e2
  obtain ⟨t, rfl⟩ := r1
  obtain ⟨t', rfl⟩ := r2
  exact iadd_int ⟨.int _, H, I.tok _, ⟨_, rfl⟩, q⟩
end

/-! ### while -/
section
variable {X : Cx} {pos : Pos}
/-- the invariant W with its measure -/
def tWhile (c : TT) (tb : TS) : TS := fun D σ H => ∃ W : Nat → St → Hp → Prop, (∃ m, W m σ H) ∧ ∀ m σ H, W m σ H →
  c σ H fun b H1 => if b = true then ∃ N : St → Hp → Prop, (∀ σ' H', N σ' H' → ∃ m', m' < m ∧ W m' σ' H') ∧ tb { D with nx := N, ct := N, bk := D.nx } σ H1 else D.nx σ H1
theorem ps_while {c : Expr} {body : List Stmt} {tc : TT} {tb : TS} (hp : PassesOwn (model X.prog X.w) X.A X.env X.xe) (hc : PT X c tc) (hb : PSs X body tb) : PS X (.While c body [] pos) (tWhile tc tb) := by
  intro pins s σ H D I h
  obtain ⟨W, ⟨m0, w0⟩, turn⟩ := h
  refine wpAny_While (codeAny_whileLoop (fun n s' => ∃ σ' H', Inv X pins σ' H' s' ∧ W n σ' H') ?_ m0 ⟨σ, H, I, w0⟩)
  rintro n s1 ⟨σ1, H1, I1, w1⟩
  refine wpAny_passesOwn hp (thn (hc pins s1 σ1 H1 _ I1 (turn n σ1 H1 w1)) fun b s2 ⟨H2, I2, q2⟩ => ?_)
  cases b with
  | true =>
    obtain ⟨N, hN, q2⟩ := q2
    rw [if_pos rfl]
    refine wpAny_passesOwn hp (thn (hb pins s2 σ1 H2 _ I2 q2) fun f s3 q3 => ?_)
    cases f with
    | next =>
      obtain ⟨σ3, H3, I3, n3⟩ := q3
      obtain ⟨m', hm, w3⟩ := hN σ3 H3 n3
      exact ⟨m', hm, σ3, H3, I3, w3⟩
    | cont =>
      obtain ⟨σ3, H3, I3, n3⟩ := q3
      obtain ⟨m', hm, w3⟩ := hN σ3 H3 n3
      exact ⟨m', hm, σ3, H3, I3, w3⟩
    | brk => exact q3
    | ret v => exact q3
  | false =>
    rw [if_neg Bool.false_ne_true]
    exact wpAny_execs_nil ⟨σ1, H2, I2, q2⟩
end

/-! ### what a loop or a comprehension walks -/
/-- at turn i: it yields x (the heap may grow), or it stops -/
structure It where
  go : Nat → Hp → Prop
  yld : Nat → Hp → V → Hp → Prop
  stop : Nat → Hp → Prop
/-- the iterator's own objects may turn: they are not the frame's, not pinned, younger than the entry (or a comprehension's own) -/
def FpOk (X : Cx) (pins : List (Addr × Obj)) (H : Hp) (b : Addr) : Prop :=
  H b = none ∧ b ≠ X.env.locals ∧ b ∉ X.fs ∧ (b ∈ X.ex ∨ X.s₀.heap.objs.size ≤ b) ∧ (∀ x c, X.env.cells.lookup x = some c → c ≠ b) ∧ ∀ p ∈ X.pn ++ pins, p.1 ≠ b
theorem Inv.fpOk {X : Cx} {pins : List (Addr × Obj)} {σ : St} {H H' : Hp} {s : Shared} {b : Addr} (I : Inv X pins σ H s) (hb : s.heap.objs.size ≤ b) (hn : H' b = none) : FpOk X pins H' b := by
  refine ⟨hn, Nat.ne_of_gt (Nat.lt_of_lt_of_le I.lt hb), I.nofs hb, .inr (Nat.le_trans I.sz hb), fun x c e z => ?_, fun p hp z => ?_⟩
  · obtain ⟨v, q⟩ := I.cell x c e
    exact absurd (Nat.lt_of_lt_of_le q.lt (by rw [z]; exact hb)) (Nat.lt_irrefl _)
  · exact absurd (Nat.lt_of_lt_of_le (Heap.lt_size (I.pin p hp).1) (by rw [z]; exact hb)) (Nat.lt_irrefl _)
structure Turn (P : Program) (w : World) (K : PySem.W.Frag) (tg : Expr) (J : It) (fp : List Addr) (it : Addr) (tn : Nat → Heap → Prop) : Prop where
  mem : it ∈ fp
  obj : ∀ i h, tn i h → ∀ b ∈ fp, ∃ o, h.get? b = some o ∧ ∀ v, o.data ≠ .cell v
  keep : ∀ i h h', tn i h → (∀ b ∈ fp, ∀ o, h.get? b = some o → h'.get? b = some o) → tn i h'
  item : ∀ (X : Cx), X.prog = P → X.w = w → X.K = K → X.calm = true → ∀ (i : Nat) (pins : List (Addr × Obj)) (s : Shared) (σ : St) (H : Hp) (E : Value → Shared → Prop), Inv X pins σ H s → (∀ b ∈ fp, FpOk X pins H b) → tn i s.heap → J.go i H →
    wpAny (model P w) X.A (pyNext (.ref it)) (fun r s1 => ∃ u, r = some u ∧
      wpAny (model P w) X.A (letOwnedTupleGo tg (.ref it) u) (fun _ s2 => ∃ x H', Inv X pins σ H' s2 ∧ RelV x u ∧ J.yld i H x H' ∧ tn (i + 1) s2.heap ∧ ∀ b ∈ fp, H' b = none) E s1) E s
  done : ∀ (X : Cx), X.prog = P → X.w = w → X.K = K → X.calm = true → ∀ (i : Nat) (pins : List (Addr × Obj)) (s : Shared) (σ : St) (H : Hp) (E : Value → Shared → Prop), Inv X pins σ H s → (∀ b ∈ fp, FpOk X pins H b) → tn i s.heap → J.stop i H →
    wpAny (model P w) X.A (pyNext (.ref it)) (fun r s1 => r = none ∧ Inv X pins σ H s1) E s
  self : ∀ (A : Around) (i : Nat) (s : Shared) (Q : Value → Shared → Prop) (E : Value → Shared → Prop), tn i s.heap → Q (.ref it) s → wpAny (model P w) A (pyIter (.ref it)) Q E s
abbrev TI := St → Hp → (It → Hp → Prop) → Prop
/-- an iterator has come -/
def PIE (X : Cx) (pins : List (Addr × Obj)) (σ : St) (tg : Expr) (R : It → Hp → Prop) (itv : Value) (s2 : Shared) : Prop :=
  ∃ (it : Addr) (fp : List Addr) (tn : Nat → Heap → Prop) (J : It) (H' : Hp), itv = .ref it ∧ Inv X pins σ H' s2 ∧ Turn X.prog X.w X.K tg J fp it tn ∧ tn 0 s2.heap ∧ (∀ b ∈ fp, FpOk X pins H' b) ∧ R J H'
def PI (X : Cx) (tg iter : Expr) (wi : TI) : Prop :=
  ∀ (pins : List (Addr × Obj)) (s : Shared) (σ : St) (H : Hp) (R : It → Hp → Prop), Inv X pins σ H s → wi σ H R →
    wpAny (model X.prog X.w) X.A (eval iter X.env) (fun v s1 => wpAny (model X.prog X.w) X.A (pyIter v) (PIE X pins σ tg R) X.xe s1) X.xe s

/-- the step ahead of the store is nothing for an iterator that keeps no tuple -/
theorem go_of {M : Model} {A : Around} {E : Value → Shared → Prop} {s : Shared} {tg : Expr} {it : Addr} {u : Value} {o : Obj} {n : String} {vs : Array Value} {Q : Unit → Shared → Prop} (ho : s.heap.get? it = some o) (hc : o.cls = .type n) (hd : o.data = .fields vs)
    (hn : ["enumerate", "zip", "dict_itemiterator", "dict_reverseitemiterator", "odict_iterator", "itertools.zip_longest", "itertools.pairwise"].contains n = false) (hQ : Q () s) : wpAny M A (letOwnedTupleGo tg (.ref it) u) Q E s := by
  unfold letOwnedTupleGo
  cases tg <;> first
    | exact wpAny_pure hQ
    | (cases u <;> first
        | exact wpAny_pure hQ
        | (refine wpAny_bind (wpAny_load ho ?_)
           rw [hc, hd]
           show wpAny M A (if (["enumerate", "zip", "dict_itemiterator", "dict_reverseitemiterator", "odict_iterator", "itertools.zip_longest", "itertools.pairwise"].contains n && vs[0]? == some (rawInt _)) = true then _ else _) Q E s
           rw [if_neg (by intro h; rw [hn, Bool.false_and] at h; cases h)]
           exact wpAny_pure hQ))

/-- the list at a, as it stands at each turn (a loop may append to it) -/
def Itl (K : PySem.W.Frag) (a : Addr) : It :=
  ⟨fun i H => ∃ xs x, SqL K H a xs ∧ xs[i]? = some x, fun i H x H' => H' = H ∧ ∀ xs, SqL K H a xs → xs[i]? = some x, fun i H => ∃ xs, SqL K H a xs ∧ xs.length ≤ i⟩
def Itt (K : PySem.W.Frag) (a : Addr) : It :=
  ⟨fun i H => ∃ xs x, SqT K H a xs ∧ xs[i]? = some x, fun i H x H' => H' = H ∧ ∀ xs, SqT K H a xs → xs[i]? = some x, fun i H => ∃ xs, SqT K H a xs ∧ xs.length ≤ i⟩
/-- lo, lo + 1, .. (n of them) -/
def Itr (lo : Int) (n : Nat) : It := ⟨fun i _ => i < n, fun i H x H' => H' = H ∧ x = .int (lo + i), fun i _ => n ≤ i⟩
theorem turn_list {P : Program} {w : World} {K : PySem.W.Frag} {tg : Expr} (a it : Addr) : Turn P w K tg (Itl K a) [it] it (fun i h => h.IsListIter it a i) where
  mem := by simp
  obj := fun i h st b hb => by
    have e : b = it := by simpa using hb
    subst e
    obtain ⟨o, e, c, d⟩ := st
    exact ⟨o, e, fun v z => by rw [d] at z; cases z⟩
  keep := fun i h h' st k => st.at fun o e => k it (by simp) o e
  item := by
    intro X hP hw hK hc i pins s σ H E I hf st hg
    subst hP hw hK
    obtain ⟨xs, x, hq, hx⟩ := hg
    obtain ⟨its, rv, p, hz⟩ := I.list hq
    obtain ⟨u, hu, ru⟩ := rv.get hx
    obtain ⟨f0, f1, f2, f3, f4, f5⟩ := hf it (by simp)
    refine wpAny_pyNext_list_item st p.isList (x := u) (by simpa using hu) fun h' st' sb => ?_
    have I1 : Inv X pins σ H { s with heap := h' } := I.turned (t' := s.toks) (fun b o hb e => (sb.2 b hb).trans e) f0 f1 f3 f4 f5
    obtain ⟨o, e, c, d⟩ := id st'
    exact ⟨u, rfl, go_of (s := { s with heap := h' }) e c d (by decide) ⟨x, H, I1, ru, ⟨rfl, fun ys hy => by rw [I.list_inj hy hq]; exact hx⟩, st', fun b hb => (hf b hb).1⟩⟩
  done := by
    intro X hP hw hK hc i pins s σ H E I hf st hg
    subst hP hw hK
    obtain ⟨xs, hq, hx⟩ := hg
    obtain ⟨its, rv, p, hz⟩ := I.list hq
    obtain ⟨f0, f1, f2, f3, f4, f5⟩ := hf it (by simp)
    have hl := rv.length
    exact wpAny_pyNext_list_end (I.ok.hd hc) st p.isList (by simp; omega) fun h' eb => ⟨rfl, I.turned (t' := s.toks) (fun b o hb e => eb b o hb e) f0 f1 f3 f4 f5⟩
  self := fun _ _ _ _ _ st h => wpAny_pyIter_listiter st h
theorem turn_tuple {P : Program} {w : World} {K : PySem.W.Frag} {tg : Expr} (a it : Addr) : Turn P w K tg (Itt K a) [it] it (fun i h => h.IsTupleIter it a i) where
  mem := by simp
  obj := fun i h st b hb => by
    have e : b = it := by simpa using hb
    subst e
    obtain ⟨o, e, c, d⟩ := st
    exact ⟨o, e, fun v z => by rw [d] at z; cases z⟩
  keep := fun i h h' st k => st.at fun o e => k it (by simp) o e
  item := by
    intro X hP hw hK hc i pins s σ H E I hf st hg
    subst hP hw hK
    obtain ⟨xs, x, hq, hx⟩ := hg
    obtain ⟨its, rv, p, hz⟩ := I.tuple hq
    obtain ⟨u, hu, ru⟩ := rv.get hx
    obtain ⟨f0, f1, f2, f3, f4, f5⟩ := hf it (by simp)
    refine wpAny_pyNext_tuple_item st (show s.heap.IsTuple a its.toArray from p) (x := u) (by simpa using hu) fun h' st' sb => ?_
    have I1 : Inv X pins σ H { s with heap := h' } := I.turned (t' := s.toks) (fun b o hb e => (sb.2 b hb).trans e) f0 f1 f3 f4 f5
    obtain ⟨o, e, c, d⟩ := id st'
    exact ⟨u, rfl, go_of (s := { s with heap := h' }) e c d (by decide) ⟨x, H, I1, ru, ⟨rfl, fun ys hy => by rw [I.tuple_inj hy hq]; exact hx⟩, st', fun b hb => (hf b hb).1⟩⟩
  done := by
    intro X hP hw hK hc i pins s σ H E I hf st hg
    subst hP hw hK
    obtain ⟨xs, hq, hx⟩ := hg
    obtain ⟨its, rv, p, hz⟩ := I.tuple hq
    obtain ⟨f0, f1, f2, f3, f4, f5⟩ := hf it (by simp)
    have hl := rv.length
    exact wpAny_pyNext_tuple_end (I.ok.hd hc) st (show s.heap.IsTuple a its.toArray from p) (by simp; omega) fun h' eb => ⟨rfl, I.turned (t' := s.toks) (fun b o hb e => eb b o hb e) f0 f1 f3 f4 f5⟩
  self := fun _ _ _ _ _ st h => wpAny_pyIter_tupleiter st h
theorem turn_range {P : Program} {w : World} {K : PySem.W.Frag} {tg : Expr} (it : Addr) (lo : Int) (n : Nat) : Turn P w K tg (Itr lo n) [it] it (fun i h => IsRangeIter h it (lo + (i : Nat) * 1) ((n : Int) - (i : Nat)) 1) where
  mem := by simp
  obj := fun i h st b hb => by
    have e : b = it := by simpa using hb
    subst e
    exact ⟨_, st, fun v z => by
      have z' : Data.fields _ = Data.cell v := z
      cases z'⟩
  keep := fun i h h' st k => k it (by simp) _ st
  item := by
    intro X hP hw hK hc i pins s σ H E I hf st hg
    subst hP hw hK
    obtain ⟨f0, f1, f2, f3, f4, f5⟩ := hf it (by simp)
    have W := Walks.range (prog := X.prog) (w := X.w) (I.ok.hd hc) it lo 1 n
    refine W.item i s _ _ hg st fun v h' tk hv st' kk => ?_
    obtain ⟨t, rfl⟩ := hv
    have I1 : Inv X pins σ H { s with heap := h', toks := tk } := I.turned (fun b o hb e => kk b o (by simpa using hb) e) f0 f1 f3 f4 f5
    refine ⟨_, rfl, go_of (s := { s with heap := h', toks := tk }) (n := "range_iterator") st' rfl rfl (by decide) ⟨.int (lo + i), H, I1, ⟨t, ?_⟩, ⟨rfl, rfl⟩, st', fun b hb => (hf b hb).1⟩⟩
    rw [Int.mul_one]
  done := by
    intro X hP hw hK hc i pins s σ H E I hf st hg
    subst hP hw hK
    obtain ⟨f0, f1, f2, f3, f4, f5⟩ := hf it (by simp)
    exact wpAny_pyNext_range_end (I.ok.hd hc) st (by have : n ≤ i := hg; omega) fun h' eb => ⟨rfl, I.turned (t' := s.toks) (fun b o hb e => eb b o hb e) f0 f1 f3 f4 f5⟩
  self := fun _ _ _ _ _ st h => wpAny_pyIter_rangeiter st h
end L2

namespace L2
open PySem PySem.Spec PyProof.Rows
section
variable {X : Cx} {tg : Expr}
def iList (K : PySem.W.Frag) (tl : TE) : TI := fun σ H R => tl σ H fun x H1 => ∃ a, x = .ref a ∧ (∃ xs, SqL K H1 a xs) ∧ R (Itl K a) H1
def iTup (K : PySem.W.Frag) (tl : TE) : TI := fun σ H R => tl σ H fun x H1 => ∃ a, x = .ref a ∧ (∃ xs, SqT K H1 a xs) ∧ R (Itt K a) H1
theorem pi_list {l : Expr} {tl : TE} (hl : PE X l tl) : PI X tg l (iList X.K tl) := by
  intro pins s σ H R I h
  refine thn (hl pins s σ H _ I h) fun v s1 ⟨x, H1, I1, r1, q1⟩ => ?_
  obtain ⟨a, e, ⟨xs, hq⟩, q⟩ := q1
  subst e
  cases r1
  obtain ⟨its, rv, p, hz⟩ := I1.list hq
  refine wpAny_pyIter_list p.isList ?_
  refine ⟨s1.heap.objs.size, [s1.heap.objs.size], _, _, H1, rfl, I1.kept (t' := s1.toks) fun b o e => Heap.get?_push_of_some _ e, turn_list a _, ⟨_, Heap.get?_push_size _ rfl, rfl, rfl⟩, fun b hb => ?_, q⟩
  have e : b = s1.heap.objs.size := by simpa using hb
  subst e
  exact I1.fpOk (Nat.le_refl _) (I1.hok.fresh (Nat.le_refl _))
theorem pi_tup {l : Expr} {tl : TE} (hl : PE X l tl) : PI X tg l (iTup X.K tl) := by
  intro pins s σ H R I h
  refine thn (hl pins s σ H _ I h) fun v s1 ⟨x, H1, I1, r1, q1⟩ => ?_
  obtain ⟨a, e, ⟨xs, hq⟩, q⟩ := q1
  subst e
  cases r1
  obtain ⟨its, rv, p, hz⟩ := I1.tuple hq
  refine wpAny_pyIter_tuple (show s1.heap.IsTuple a its.toArray from p) ?_
  refine ⟨s1.heap.objs.size, [s1.heap.objs.size], _, _, H1, rfl, I1.kept (t' := s1.toks) fun b o e => Heap.get?_push_of_some _ e, turn_tuple a _, ⟨_, Heap.get?_push_size _ rfl, rfl, rfl⟩, fun b hb => ?_, q⟩
  have e : b = s1.heap.objs.size := by simpa using hb
  subst e
  exact I1.fpOk (Nat.le_refl _) (I1.hok.fresh (Nat.le_refl _))
/-- a range object just made, walked -/
theorem range_it {pins : List (Addr × Obj)} {σ : St} {H : Hp} {s : Shared} {R : It → Hp → Prop} {E : Value → Shared → Prop} {lo hi : Int} {t u v : Tok} {tk : Nat} (I : Inv X pins σ H s) (h1 : -(2 ^ 62) ≤ lo) (h2 : lo < 2 ^ 62) (h3 : -(2 ^ 62) ≤ hi) (h4 : hi < 2 ^ 62)
    (q : R (Itr lo (hi - lo).toNat) H) : wpAny (model X.prog X.w) X.A (pyIter (.ref s.heap.objs.size)) (PIE X pins σ tg R) E { s with heap := s.heap.push { cls := .type "range", data := .fields #[.int lo t, .int hi u, .int 1 v] }, toks := tk } := by
  refine wpAny_pyIter_range (IsRange.new ..) (small_one h1 h2 h3 h4) ?_
  have I1 : Inv X pins σ H { s with heap := s.heap.push { cls := .type "range", data := .fields #[.int lo t, .int hi u, .int 1 v] }, toks := tk } := I.kept fun b o e => Heap.get?_push_of_some _ e
  refine ⟨(s.heap.push { cls := .type "range", data := .fields #[.int lo t, .int hi u, .int 1 v] }).objs.size, [(s.heap.push { cls := .type "range", data := .fields #[.int lo t, .int hi u, .int 1 v] }).objs.size], _, _, H, rfl,
    I1.kept (t' := tk) fun b o e => Heap.get?_push_of_some _ e, turn_range _ lo (hi - lo).toNat, ?_, fun b hb => ?_, q⟩
  · have e1 : lo + ((0 : Nat) : Int) * 1 = lo := by simp
    have e2 : (((hi - lo).toNat : Nat) : Int) - ((0 : Nat) : Int) = Builtin.Range.rangeSize lo hi 1 := by rw [rangeSize_one]; split <;> omega
    show IsRangeIter _ _ (lo + ((0 : Nat) : Int) * 1) ((((hi - lo).toNat : Nat) : Int) - ((0 : Nat) : Int)) 1
    rw [e1, e2]
    exact Heap.get?_push_size _ rfl
  · have e : b = (s.heap.push { cls := .type "range", data := .fields #[.int lo t, .int hi u, .int 1 v] }).objs.size := by simpa using hb
    subst e
    exact I1.fpOk (Nat.le_refl _) (I1.hok.fresh (Nat.le_refl _))
def iRng1 (ta : TA) : TI := fun σ H R => ta σ H fun vs H1 => ∃ j : Int, vs = [.int j] ∧ -(2 ^ 62) ≤ j ∧ j < 2 ^ 62 ∧ R (Itr 0 j.toNat) H1
theorem pi_range1 {a : Expr} {ta : TA} {p pos : Pos} (hg : Gl X "range") (hm : X.mg "range" = none) (ha : PA X [a] ta) (hs : starEach [a] X.env = [(false, eval a X.env)] := by rfl) : PI X tg (.Call (.Name "range" p) [a] [] pos) (iRng1 ta) := by
  intro pins s σ H R I h
  refine Call_ (ld_blt I hg hm boot_range (PyProof.Rows.callWith_type1 (thn (ha pos pins s σ H _ I h) fun us s1 ⟨vs, H1, I1, r1, q1⟩ => ?_) hs rfl))
  obtain ⟨j, e, q1, q2, q⟩ := q1
  subst e
  cases r1 with
  | cons r rr =>
    cases rr
    obtain ⟨t, rfl⟩ := r
    exact call_range_1 (range_it I1 (by omega) (by omega) q1 q2 (by simpa using q))
/-! ### for -/
/-- W: the invariant by the turn and a measure; N: what the body is to reach -/
def tFor (wi : TI) (g : TG) (tb : TS) : TS := fun D σ H => wi σ H fun J H1 => ∃ W : Nat → Nat → St → Hp → Prop, (∃ m, W 0 m σ H1) ∧ ∀ i m σ H, W i m σ H →
  (J.stop i H ∧ D.nx σ H) ∨ (J.go i H ∧ ∃ N : St → Hp → Prop, (∀ σ' H', N σ' H' → ∃ m', m' < m ∧ W (i + 1) m' σ' H') ∧ ∀ x H', J.yld i H x H' → g x σ H' fun σ2 H2 => tb { D with nx := N, ct := N, bk := D.nx } σ2 H2)
/-- the records at fp as they stand -/
def pinsAt (fp : List Addr) (h : Heap) : List (Addr × Obj) := fp.filterMap fun b => (h.get? b).map fun o => (b, o)
theorem mem_pinsAt {fp : List Addr} {h : Heap} {b : Addr} {o : Obj} (hb : b ∈ fp) (e : h.get? b = some o) : (b, o) ∈ pinsAt fp h := List.mem_filterMap.mpr ⟨b, hb, by rw [e]; rfl⟩
theorem of_pinsAt {fp : List Addr} {h : Heap} {p : Addr × Obj} (hp : p ∈ pinsAt fp h) : p.1 ∈ fp ∧ h.get? p.1 = some p.2 := by
  obtain ⟨b, hb, e⟩ := List.mem_filterMap.mp hp
  cases q : h.get? b with
  | none => rw [q] at e; cases e
  | some o =>
    rw [q] at e
    have e' : (b, o) = p := Option.some.inj e
    subst e'
    exact ⟨hb, q⟩
theorem Inv.pinned {pins : List (Addr × Obj)} {σ : St} {H : Hp} {s : Shared} {fp : List Addr} (I : Inv X pins σ H s) (hf : ∀ b ∈ fp, FpOk X pins H b) (ho : ∀ b ∈ fp, ∃ o, s.heap.get? b = some o ∧ ∀ v, o.data ≠ .cell v) : Inv X (pins ++ pinsAt fp s.heap) σ H s :=
  I.pins_of fun p hp => (List.mem_append.mp hp).elim (fun z => I.pin p (List.mem_append_right _ z)) fun z => by
    obtain ⟨hb, e⟩ := of_pinsAt z
    obtain ⟨f0, f1, f2, _⟩ := hf p.1 hb
    obtain ⟨o, e', d⟩ := ho p.1 hb
    rw [e] at e'; cases e'
    exact ⟨e, f0, f1, f2, d⟩
theorem Inv.unpinned {pins pl : List (Addr × Obj)} {σ : St} {H : Hp} {s : Shared} (I : Inv X (pins ++ pl) σ H s) : Inv X pins σ H s := I.pins_of fun p hp => I.pin p (List.mem_append_right _ (List.mem_append_left _ hp))
theorem ps_for {iter : Expr} {body : List Stmt} {wi : TI} {g : TG} {tb : TS} {pos : Pos} (hp : PassesOwn (model X.prog X.w) X.A X.env X.xe) (hc : X.calm = true) (hi : PI X tg iter wi) (hg : PG X tg g) (hb : PSs X body tb)
    (hs : ∀ x, foldedSetIterable iter X.env x = pure x := by intro _; rfl) : PS X (.For tg iter body [] pos) (tFor wi g tb) := by
  intro pins s σ H D I h
  refine wpAny_For (thn (hi pins s σ H _ I h) fun v s1 h1 => thn h1 fun itv s2 h2 => ?_) hs
  obtain ⟨it, fp, tn, J, H2, e, I2, T, st2, f2, W, ⟨m0, w0⟩, turn⟩ := h2
  subst e
  -- what stays true of the iterator's objects through the loop
  have stat : ∀ {H' : Hp}, (∀ b ∈ fp, H' b = none) → ∀ b ∈ fp, FpOk X pins H' b := fun hn b hb => ⟨hn b hb, (f2 b hb).2⟩
  refine codeAny_forLoop_any (fun n s' => ∃ i σ' H', Inv X pins σ' H' s' ∧ tn i s'.heap ∧ (∀ b ∈ fp, H' b = none) ∧ W i n σ' H') ?_ m0 ⟨0, σ, H2, I2, st2, fun b hb => (f2 b hb).1, w0⟩
  rintro n s3 ⟨i, σ3, H3, I3, st3, fr3, w3⟩
  rcases turn i n σ3 H3 w3 with ⟨stop, qn⟩ | ⟨go, N, hN, step⟩
  · refine wpAny_passesOwn hp (thn (T.done X rfl rfl rfl hc i pins s3 σ3 H3 X.xe I3 (stat fr3) st3 stop) fun r s4 ⟨hr, I4⟩ => ?_)
    subst hr
    exact wpAny_execs_nil ⟨σ3, H3, I4, qn⟩
  · refine wpAny_passesOwn hp (thn (T.item X rfl rfl rfl hc i pins s3 σ3 H3 X.xe I3 (stat fr3) st3 go) fun r s4 ⟨u, hr, h4⟩ => ?_)
    subst hr
    refine wpAny_passesOwn hp (thn h4 fun _ s5 ⟨x, H5, I5, r5, y5, st5, fr5⟩ => ?_)
    have I5' := I5.pinned (stat fr5) (T.obj _ _ st5)
    refine wpAny_passesOwn hp (thn (hg _ s5 σ3 H5 x u _ I5' r5 (step x H5 y5)) fun _ s6 ⟨σ6, H6, I6, q6⟩ => ?_)
    refine wpAny_passesOwn hp (thn (hb _ s6 σ6 H6 _ I6 q6) fun f s7 q7 => ?_)
    have again : ∀ {σ7 : St} {H7 : Hp}, Inv X (pins ++ pinsAt fp s5.heap) σ7 H7 s7 → N σ7 H7 → ∃ m, m < n ∧ ∃ i σ' H', Inv X pins σ' H' s7 ∧ tn i s7.heap ∧ (∀ b ∈ fp, H' b = none) ∧ W i m σ' H' := fun {σ7 H7} I7 n7 => by
      obtain ⟨m', hm, w7⟩ := hN σ7 H7 n7
      refine ⟨m', hm, i + 1, σ7, H7, I7.unpinned, T.keep _ _ _ st5 fun b hb o e => (I7.pin (b, o) (List.mem_append_right _ (List.mem_append_right _ (mem_pinsAt hb e)))).1, fun b hb => ?_, w7⟩
      obtain ⟨o, e, d⟩ := T.obj _ _ st5 b hb
      exact (I7.pin (b, o) (List.mem_append_right _ (List.mem_append_right _ (mem_pinsAt hb e)))).2.1
    cases f with
    | next => obtain ⟨σ7, H7, I7, n7⟩ := q7; exact again I7 n7
    | cont => obtain ⟨σ7, H7, I7, n7⟩ := q7; exact again I7 n7
    | brk => obtain ⟨σ7, H7, I7, q7⟩ := q7; exact ⟨σ7, H7, I7.unpinned, q7⟩
    | ret v => obtain ⟨x7, σ7, H7, I7, r7, q7⟩ := q7; exact ⟨x7, σ7, H7, I7.unpinned, r7, q7⟩
end

/-! ### the forms one uses -/
/-- over a list that the body leaves as it is -/
theorem for_list {K : PySem.W.Frag} {a : Addr} {xs : List V} {g : TG} {tb : TS} {D : Ends} {σ : St} {H : Hp} (Pv : Nat → St → Hp → Prop) (h0 : Pv 0 σ H) (hl : ∀ i σ H, i ≤ xs.length → Pv i σ H → SqL K H a xs)
    (hs : ∀ i x σ H, xs[i]? = some x → Pv i σ H → g x σ H fun σ2 H2 => tb { D with nx := Pv (i + 1), ct := Pv (i + 1), bk := D.nx } σ2 H2) (hd : ∀ σ H, Pv xs.length σ H → D.nx σ H) :
    ∃ W : Nat → Nat → St → Hp → Prop, (∃ m, W 0 m σ H) ∧ ∀ i m σ H, W i m σ H →
      ((Itl K a).stop i H ∧ D.nx σ H) ∨ ((Itl K a).go i H ∧ ∃ N : St → Hp → Prop, (∀ σ' H', N σ' H' → ∃ m', m' < m ∧ W (i + 1) m' σ' H') ∧ ∀ x H', (Itl K a).yld i H x H' → g x σ H' fun σ2 H2 => tb { D with nx := N, ct := N, bk := D.nx } σ2 H2) := by
  refine ⟨fun i m σ H => m = xs.length - i ∧ i ≤ xs.length ∧ Pv i σ H, ⟨xs.length, by simp, Nat.zero_le _, h0⟩, ?_⟩
  rintro i m σ H ⟨rfl, hi, p⟩
  have q := hl i σ H hi p
  by_cases hlt : i < xs.length
  · refine .inr ⟨⟨xs, xs[i], q, by simp [hlt]⟩, Pv (i + 1), fun σ' H' p' => ⟨xs.length - (i + 1), Nat.sub_lt_sub_left hlt (Nat.lt_succ_self i), rfl, hlt, p'⟩, fun x H' y => ?_⟩
    obtain ⟨e, y⟩ := y
    subst e
    exact hs i x σ _ (y xs q) p
  · have e : i = xs.length := by omega
    subst e
    exact .inl ⟨⟨xs, q, Nat.le_refl _⟩, hd σ H p⟩
theorem for_tup {K : PySem.W.Frag} {a : Addr} {xs : List V} {g : TG} {tb : TS} {D : Ends} {σ : St} {H : Hp} (Pv : Nat → St → Hp → Prop) (h0 : Pv 0 σ H) (hl : ∀ i σ H, i ≤ xs.length → Pv i σ H → SqT K H a xs)
    (hs : ∀ i x σ H, xs[i]? = some x → Pv i σ H → g x σ H fun σ2 H2 => tb { D with nx := Pv (i + 1), ct := Pv (i + 1), bk := D.nx } σ2 H2) (hd : ∀ σ H, Pv xs.length σ H → D.nx σ H) :
    ∃ W : Nat → Nat → St → Hp → Prop, (∃ m, W 0 m σ H) ∧ ∀ i m σ H, W i m σ H →
      ((Itt K a).stop i H ∧ D.nx σ H) ∨ ((Itt K a).go i H ∧ ∃ N : St → Hp → Prop, (∀ σ' H', N σ' H' → ∃ m', m' < m ∧ W (i + 1) m' σ' H') ∧ ∀ x H', (Itt K a).yld i H x H' → g x σ H' fun σ2 H2 => tb { D with nx := N, ct := N, bk := D.nx } σ2 H2) := by
  refine ⟨fun i m σ H => m = xs.length - i ∧ i ≤ xs.length ∧ Pv i σ H, ⟨xs.length, by simp, Nat.zero_le _, h0⟩, ?_⟩
  rintro i m σ H ⟨rfl, hi, p⟩
  have q := hl i σ H hi p
  by_cases hlt : i < xs.length
  · refine .inr ⟨⟨xs, xs[i], q, by simp [hlt]⟩, Pv (i + 1), fun σ' H' p' => ⟨xs.length - (i + 1), Nat.sub_lt_sub_left hlt (Nat.lt_succ_self i), rfl, hlt, p'⟩, fun x H' y => ?_⟩
    obtain ⟨e, y⟩ := y
    subst e
    exact hs i x σ _ (y xs q) p
  · have e : i = xs.length := by omega
    subst e
    exact .inl ⟨⟨xs, q, Nat.le_refl _⟩, hd σ H p⟩
theorem for_range {lo : Int} {n : Nat} {g : TG} {tb : TS} {D : Ends} {σ : St} {H : Hp} (Pv : Nat → St → Hp → Prop) (h0 : Pv 0 σ H)
    (hs : ∀ i σ H, i < n → Pv i σ H → g (.int (lo + i)) σ H fun σ2 H2 => tb { D with nx := Pv (i + 1), ct := Pv (i + 1), bk := D.nx } σ2 H2) (hd : ∀ σ H, Pv n σ H → D.nx σ H) :
    ∃ W : Nat → Nat → St → Hp → Prop, (∃ m, W 0 m σ H) ∧ ∀ i m σ H, W i m σ H →
      ((Itr lo n).stop i H ∧ D.nx σ H) ∨ ((Itr lo n).go i H ∧ ∃ N : St → Hp → Prop, (∀ σ' H', N σ' H' → ∃ m', m' < m ∧ W (i + 1) m' σ' H') ∧ ∀ x H', (Itr lo n).yld i H x H' → g x σ H' fun σ2 H2 => tb { D with nx := N, ct := N, bk := D.nx } σ2 H2) := by
  refine ⟨fun i m σ H => m = n - i ∧ i ≤ n ∧ Pv i σ H, ⟨n, by simp, Nat.zero_le _, h0⟩, ?_⟩
  rintro i m σ H ⟨rfl, hi, p⟩
  by_cases hlt : i < n
  · refine .inr ⟨hlt, Pv (i + 1), fun σ' H' p' => ⟨n - (i + 1), Nat.sub_lt_sub_left hlt (Nat.lt_succ_self i), rfl, hlt, p'⟩, fun x H' y => ?_⟩
    obtain ⟨e, y⟩ := y
    subst e y
    exact hs i σ _ hlt p
  · have e : i = n := by omega
    subst e
    exact .inl ⟨Nat.le_refl _, hd σ H p⟩
end L2

namespace L2
open PySem PySem.Spec PyProof.Rows

abbrev R2 := V → V → Hp → VK → Prop
/-- a two-place operation on values: f is binaryOp op, inplaceOp op or compareOp op -/
def OpR (X : Cx) (f : Value → Value → Sem Value) (r : R2) : Prop :=
  ∀ (pins : List (Addr × Obj)) (s : Shared) (σ : St) (H : Hp) (x y : V) (v u : Value) (Q : VK), Inv X pins σ H s → RelV x v → RelV y u → r x y H Q →
    wpAny (model X.prog X.w) X.A (f v u) (EP X pins σ Q) X.xe s
/-- a one-place operation -/
def UnR (X : Cx) (f : Value → Sem Value) (r : V → Hp → VK → Prop) : Prop :=
  ∀ (pins : List (Addr × Obj)) (s : Shared) (σ : St) (H : Hp) (x : V) (v : Value) (Q : VK), Inv X pins σ H s → RelV x v → r x H Q →
    wpAny (model X.prog X.w) X.A (f v) (EP X pins σ Q) X.xe s
/-- a call of a value that is known (a builtin, a type) with values -/
def CallR (X : Cx) (f : Value) (r : List V → Hp → VK → Prop) : Prop :=
  ∀ (pins : List (Addr × Obj)) (s : Shared) (σ : St) (H : Hp) (xs : List V) (us : List Value) (Q : VK), Inv X pins σ H s → Vals xs us → r xs H Q →
    wpAny (model X.prog X.w) X.A (call f us) (EP X pins σ Q) X.xe s
/-- a value's truth -/
def TruR (X : Cx) (r : V → Hp → (Bool → Hp → Prop) → Prop) : Prop :=
  ∀ (pins : List (Addr × Obj)) (s : Shared) (σ : St) (H : Hp) (x : V) (v : Value) (Q : Bool → Hp → Prop), Inv X pins σ H s → RelV x v → r x H Q →
    wpAny (model X.prog X.w) X.A (truthy v) (TP X pins σ Q) X.xe s

def tOp (r : R2) (ta tb : TE) : TE := fun σ H Q => ta σ H fun x H1 => tb σ H1 fun y H2 => r x y H2 Q
def tUn (r : V → Hp → VK → Prop) (ta : TE) : TE := fun σ H Q => ta σ H fun x H1 => r x H1 Q
/-- ints in, under C, and a value out -/
def rI (C : Int → Int → Prop) (g : Int → Int → V) : R2 := fun x y H Q => ∃ i j, x = .int i ∧ y = .int j ∧ C i j ∧ Q (g i j) H
def rI0 (g : Int → Int → V) : R2 := fun x y H Q => ∃ i j, x = .int i ∧ y = .int j ∧ Q (g i j) H
def rU (g : Int → V) : V → Hp → VK → Prop := fun x H Q => ∃ i, x = .int i ∧ Q (g i) H

section
variable {X : Cx} {a b c : Expr} {ta tb tc : TE} {pos : Pos}

theorem binT (ha : PE X a ta) (hb : PE X b tb) {pins : List (Addr × Obj)} {s : Shared} {σ : St} {H : Hp} {R : V → V → Hp → Prop} (I : Inv X pins σ H s)
    (h : ta σ H fun x H1 => tb σ H1 fun y H2 => R x y H2) {Q : Value → Shared → Prop} {f : Value → Value → Sem Value}
    (hf : ∀ v u s2 x y H2, Inv X pins σ H2 s2 → RelV x v → RelV y u → R x y H2 → wpAny (model X.prog X.w) X.A (f v u) Q X.xe s2) :
    wpAny (model X.prog X.w) X.A (eval a X.env) (fun v s₁ => wpAny (model X.prog X.w) X.A (eval b X.env) (fun u s₂ => wpAny (model X.prog X.w) X.A (f v u) Q X.xe s₂) X.xe s₁) X.xe s := by
  refine thn (ha pins s σ H _ I h) fun v s1 ⟨x, H1, I1, r1, q1⟩ => ?_
  refine thn (hb pins s1 σ H1 _ I1 q1) fun u s2 ⟨y, H2, I2, r2, q2⟩ => ?_
  exact hf v u s2 x y H2 I2 r1 r2 q2

theorem pe_op {op : Operator} {r : R2} (ho : OpR X (binaryOp op) r) (ha : PE X a ta) (hb : PE X b tb) : PE X (.BinOp a op b pos) (tOp r ta tb) := by
  intro pins s σ H Q I h
  exact wpAny_BinOp (binT ha hb I h fun v u s2 x y H2 I2 rx ry q => ho pins s2 σ H2 x y v u Q I2 rx ry q)
theorem pe_un {op : UnaryOp} {r : V → Hp → VK → Prop} (ho : UnR X (unaryOp op) r) (ha : PE X a ta) : PE X (.UnaryOp op a pos) (tUn r ta) := by
  intro pins s σ H Q I h
  exact UnaryOp_ (thn (ha pins s σ H _ I h) fun v s1 ⟨x, H1, I1, r1, q1⟩ => ho pins s1 σ H1 x v Q I1 r1 q1)
/-! ### ints -/
theorem opI {f : Value → Value → Sem Value} {C : Int → Int → Prop} {g : Int → Int → Int}
    (rule : ∀ (i j : Int) (t u : Tok) (s : Shared) (Q : Value → Shared → Prop) (E : Value → Shared → Prop), C i j → Q (.int (g i j) s.toks) { s with toks := s.toks + 1 } → wpAny (model X.prog X.w) X.A (f (.int i t) (.int j u)) Q E s) :
    OpR X f (rI C fun i j => .int (g i j)) := by
  intro pins s σ H x y v u Q I rx ry h
  obtain ⟨i, j, rfl, rfl, hc, q⟩ := h
  obtain ⟨t, rfl⟩ := rx
  obtain ⟨t', rfl⟩ := ry
  exact rule i j t t' s _ _ hc ⟨.int (g i j), H, I.tok _, ⟨_, rfl⟩, q⟩
theorem opI0 {f : Value → Value → Sem Value} {g : Int → Int → Int}
    (rule : ∀ (i j : Int) (t u : Tok) (s : Shared) (Q : Value → Shared → Prop) (E : Value → Shared → Prop), Q (.int (g i j) s.toks) { s with toks := s.toks + 1 } → wpAny (model X.prog X.w) X.A (f (.int i t) (.int j u)) Q E s) :
    OpR X f (rI0 fun i j => .int (g i j)) := by
  intro pins s σ H x y v u Q I rx ry h
  obtain ⟨i, j, rfl, rfl, q⟩ := h
  obtain ⟨t, rfl⟩ := rx
  obtain ⟨t', rfl⟩ := ry
  exact rule i j t t' s _ _ ⟨.int (g i j), H, I.tok _, ⟨_, rfl⟩, q⟩
theorem opB0 {f : Value → Value → Sem Value} {g : Int → Int → Bool}
    (rule : ∀ (i j : Int) (t u : Tok) (s : Shared) (Q : Value → Shared → Prop) (E : Value → Shared → Prop), Q (.bool (g i j)) s → wpAny (model X.prog X.w) X.A (f (.int i t) (.int j u)) Q E s) :
    OpR X f (rI0 fun i j => .bl (g i j)) := by
  intro pins s σ H x y v u Q I rx ry h
  obtain ⟨i, j, rfl, rfl, q⟩ := h
  obtain ⟨t, rfl⟩ := rx
  obtain ⟨t', rfl⟩ := ry
  exact rule i j t t' s _ _ ⟨.bl (g i j), H, I, rfl, q⟩

def CPow (i j : Int) : Prop := 0 ≤ j ∧ j ≤ 1000000 ∧ i.natAbs < 2 ^ 64
def CMul (i j : Int) : Prop := (-(2 ^ 64) < i ∧ i < 2 ^ 64) ∨ (-(2 ^ 64) < j ∧ j < 2 ^ 64)
theorem CMul.ok {i j : Int} (h : CMul i j) : IntMulOk i j := by
  rcases h with ⟨h1, h2⟩ | ⟨h1, h2⟩
  · exact .of_left (intBits_le_64 h1 h2)
  · exact .of_right (intBits_le_64 h1 h2)
theorem op_add : OpR X (binaryOp .Add) (rI0 fun i j => .int (i + j)) := opI0 fun _ _ _ _ _ _ _ q => add_int q
theorem op_sub : OpR X (binaryOp .Sub) (rI0 fun i j => .int (i - j)) := opI0 fun _ _ _ _ _ _ _ q => sub_int q
theorem op_mul : OpR X (binaryOp .Mult) (rI CMul fun i j => .int (i * j)) := opI fun _ _ _ _ _ _ _ hc q => mul_int q hc.ok
/-- % by a positive divisor of any size -/
theorem op_mod : OpR X (binaryOp .Mod) (rI (fun _ j => 0 < j) fun i j => .int (i % j)) := opI fun i j _ _ _ _ _ hc q => by
  have h1 : (0 : Int) < j := hc
  exact mod_int' (by omega) (by rw [Int.fmod_eq_emod_of_nonneg i (by omega)]; exact q)
theorem op_pow : OpR X (binaryOp .Pow) (rI CPow fun i j => .int (i ^ j.toNat)) := opI fun _ _ _ _ _ _ _ hc q => pow_int_small hc.1 hc.2.1 hc.2.2 q
theorem unI {f : Value → Sem Value} {g : Int → Int}
    (rule : ∀ (i : Int) (t : Tok) (s : Shared) (Q : Value → Shared → Prop) (E : Value → Shared → Prop), Q (.int (g i) s.toks) { s with toks := s.toks + 1 } → wpAny (model X.prog X.w) X.A (f (.int i t)) Q E s) :
    UnR X f (rU fun i => .int (g i)) := by
  intro pins s σ H x v Q I rx h
  obtain ⟨i, rfl, q⟩ := h
  obtain ⟨t, rfl⟩ := rx
  exact rule i t s _ _ ⟨.int (g i), H, I.tok _, ⟨_, rfl⟩, q⟩
theorem un_neg : UnR X (unaryOp .USub) (rU fun i => .int (-i)) := unI fun _ _ _ _ _ q => neg_int q
/-! ### bools among ints: n += (a < b) -/
end

/-! ### comparisons -/
/-- the scalars that == tells apart as data does -/
def scal : V → V → Bool
  | .non, .non => true | .non, .int _ => true | .int _, .non => true | .non, .bl _ => true | .bl _, .non => true | .non, .str _ => true | .str _, .non => true
  | .int _, .int _ => true | .bl _, .bl _ => true | .str _, .str _ => true | .byt _, .byt _ => true
  | .int _, .str _ => true | .str _, .int _ => true | .bl _, .str _ => true | .str _, .bl _ => true
  | _, _ => false
def rEq : R2 := fun x y H Q => scal x y = true ∧ Q (.bl (decide (x = y))) H
def rNe : R2 := fun x y H Q => scal x y = true ∧ Q (.bl (!decide (x = y))) H

theorem dec_int {i j : Int} : decide (V.int i = V.int j) = (i == j) := by
  rw [Bool.eq_iff_iff]
  simp
theorem dec_bl {i j : Bool} : decide (V.bl i = V.bl j) = (i == j) := by
  rw [Bool.eq_iff_iff]
  simp
theorem dec_str {i j : Str} : decide (V.str i = V.str j) = (i == j) := by
  rw [Bool.eq_iff_iff]
  simp
theorem dec_byt {i j : Array UInt8} : decide (V.byt i = V.byt j) = (i.toList == j.toList) := by
  rw [Bool.eq_iff_iff]
  cases i
  cases j
  simp

section
variable {X : Cx} {a b c : Expr} {ta tb tc : TE} {pos : Pos}
theorem fin_bl {pins : List (Addr × Obj)} {σ : St} {H : Hp} {s : Shared} {Q : VK} {k k' : Bool} (I : Inv X pins σ H s) (q : Q (.bl k) H) (e : k = k') : EP X pins σ Q (.bool k') s := by
  subst e
  exact ⟨.bl k, H, I, rfl, q⟩
theorem op_eq : OpR X (compareOp .Eq) rEq := by
  intro pins s σ H x y v u Q I rx ry h
  obtain ⟨hs, q⟩ := h
  cases x with
  | non =>
    cases rx
    cases y with
    | non => cases ry; exact PySem.EqNone.eq_none_none (fin_bl I q (by simp))
    | bl j => cases ry; exact PySem.EqNone.eq_none_bool (fin_bl I q (by simp))
    | int j => obtain ⟨t', rfl⟩ := ry; exact PySem.EqNone.eq_none_int (fin_bl I q (by simp))
    | str j => obtain ⟨t', rfl⟩ := ry; exact PySem.EqNone.eq_none_str (fin_bl I q (by simp))
    | _ => exact absurd (show false = true from hs) Bool.false_ne_true
  | bl i =>
    cases rx
    cases y with
    | non => cases ry; exact PySem.EqNone.eq_bool_none (fin_bl I q (by simp))
    | bl j => cases ry; exact eq_bool (fin_bl I q dec_bl)
    | str j => obtain ⟨t', rfl⟩ := ry; exact PySem.EqMixed.eq_bool_str (fin_bl I q (by simp))
    | _ => exact absurd (show false = true from hs) Bool.false_ne_true
  | int i =>
    obtain ⟨t, rfl⟩ := rx
    cases y with
    | non => cases ry; exact PySem.EqNone.eq_int_none (fin_bl I q (by simp))
    | int j => obtain ⟨t', rfl⟩ := ry; exact eq_int (fin_bl I q dec_int)
    | str j => obtain ⟨t', rfl⟩ := ry; exact PySem.EqMixed.eq_int_str (fin_bl I q (by simp))
    | _ => exact absurd (show false = true from hs) Bool.false_ne_true
  | str i =>
    obtain ⟨t, rfl⟩ := rx
    cases y with
    | non => cases ry; exact PySem.EqNone.eq_str_none (fin_bl I q (by simp))
    | bl j => cases ry; exact PySem.EqMixed.eq_str_bool (fin_bl I q (by simp))
    | int j => obtain ⟨t', rfl⟩ := ry; exact PySem.EqMixed.eq_str_int (fin_bl I q (by simp))
    | str j => obtain ⟨t', rfl⟩ := ry; exact eq_str (fin_bl I q dec_str)
    | _ => exact absurd (show false = true from hs) Bool.false_ne_true
  | byt i =>
    obtain ⟨t, rfl⟩ := rx
    cases y with
    | byt j => obtain ⟨t', rfl⟩ := ry; exact PySem.W.eq_bytes (fin_bl I q dec_byt)
    | _ => exact absurd (show false = true from hs) Bool.false_ne_true
  | _ => cases y <;> exact absurd (show false = true from hs) Bool.false_ne_true
theorem op_ne : OpR X (compareOp .NotEq) rNe := by
  intro pins s σ H x y v u Q I rx ry h
  obtain ⟨hs, q⟩ := h
  cases x with
  | non =>
    cases rx
    cases y with
    | non => cases ry; exact PySem.EqNone.ne_none_none (fin_bl I q (by simp))
    | bl j => cases ry; exact PySem.EqNone.ne_none_bool (fin_bl I q (by simp))
    | int j => obtain ⟨t', rfl⟩ := ry; exact PySem.EqNone.ne_none_int (fin_bl I q (by simp))
    | str j => obtain ⟨t', rfl⟩ := ry; exact PySem.EqNone.ne_none_str (fin_bl I q (by simp))
    | _ => exact absurd (show false = true from hs) Bool.false_ne_true
  | bl i =>
    cases rx
    cases y with
    | non => cases ry; exact PySem.EqNone.ne_bool_none (fin_bl I q (by simp))
    | bl j => cases ry; exact ne_bool (fin_bl I q (congrArg not dec_bl))
    | str j => obtain ⟨t', rfl⟩ := ry; exact PySem.EqMixed.ne_bool_str (fin_bl I q (by simp))
    | _ => exact absurd (show false = true from hs) Bool.false_ne_true
  | int i =>
    obtain ⟨t, rfl⟩ := rx
    cases y with
    | non => cases ry; exact PySem.EqNone.ne_int_none (fin_bl I q (by simp))
    | int j => obtain ⟨t', rfl⟩ := ry; exact ne_int (fin_bl I q (congrArg not dec_int))
    | str j => obtain ⟨t', rfl⟩ := ry; exact PySem.EqMixed.ne_int_str (fin_bl I q (by simp))
    | _ => exact absurd (show false = true from hs) Bool.false_ne_true
  | str i =>
    obtain ⟨t, rfl⟩ := rx
    cases y with
    | non => cases ry; exact PySem.EqNone.ne_str_none (fin_bl I q (by simp))
    | bl j => cases ry; exact PySem.EqMixed.ne_str_bool (fin_bl I q (by simp))
    | int j => obtain ⟨t', rfl⟩ := ry; exact PySem.EqMixed.ne_str_int (fin_bl I q (by simp))
    | str j => obtain ⟨t', rfl⟩ := ry; exact ne_str (fin_bl I q (congrArg not dec_str))
    | _ => exact absurd (show false = true from hs) Bool.false_ne_true
  | byt i =>
    obtain ⟨t, rfl⟩ := rx
    cases y with
    | byt j => obtain ⟨t', rfl⟩ := ry; exact PySem.W.ne_bytes (fin_bl I q (congrArg not dec_byt))
    | _ => exact absurd (show false = true from hs) Bool.false_ne_true
  | _ => cases y <;> exact absurd (show false = true from hs) Bool.false_ne_true

theorem op_lt : OpR X (compareOp .Lt) (rI0 fun i j => .bl (decide (i < j))) := opB0 fun _ _ _ _ _ _ _ q => lt_int q
theorem op_le : OpR X (compareOp .LtE) (rI0 fun i j => .bl (decide (i ≤ j))) := opB0 fun _ _ _ _ _ _ _ q => le_int q
theorem op_gt : OpR X (compareOp .Gt) (rI0 fun i j => .bl (decide (j < i))) := opB0 fun _ _ _ _ _ _ _ q => gt_int q
theorem op_ge : OpR X (compareOp .GtE) (rI0 fun i j => .bl (decide (j ≤ i))) := opB0 fun _ _ _ _ _ _ _ q => ge_int q
/-- two rules for one operation: by cases -/
theorem OpR.or {f : Value → Value → Sem Value} {r r' : R2} (h : OpR X f r) (h' : OpR X f r') : OpR X f (fun x y H Q => r x y H Q ∨ r' x y H Q) := by
  intro pins s σ H x y v u Q I rx ry q
  rcases q with q | q
  · exact h pins s σ H x y v u Q I rx ry q
  · exact h' pins s σ H x y v u Q I rx ry q

theorem nomark (b : Expr) {op : CmpOp} (h : op ≠ .In := by decide) (h2 : op ≠ .NotIn := by decide) : behindInMarks op b = false := by
  have e1 : (op == CmpOp.In) = false := by cases op <;> first | rfl | exact absurd rfl h
  have e2 : (op == CmpOp.NotIn) = false := by cases op <;> first | rfl | exact absurd rfl h2
  cases b <;> simp [behindInMarks, e1, e2]
/-- a comparison as a value; hm: nomark b, or (for in, not in) by with_unfolding_all rfl -/
theorem pe_cmpR {op : CmpOp} {r : R2} (ho : OpR X (compareOp op) r) (ha : PE X a ta) (hb : PE X b tb) (hm : behindInMarks op b = false) : PE X (.Compare a [op] [b] pos) (tOp r ta tb) := by
  intro pins s σ H Q I h
  exact wpAny_Compare1 (binT ha hb I h fun v u s2 x y H2 I2 rx ry q => ho pins s2 σ H2 x y v u Q I2 rx ry q) hm
/-- a reading of a value as a test -/
def tTest (t : TE) : TT := fun σ H Q => t σ H fun x H' => ∃ k, x = .bl k ∧ Q k H'
theorem pt_cmpR {op : CmpOp} {r : R2} (ho : OpR X (compareOp op) r) (ha : PE X a ta) (hb : PE X b tb) (hm : behindInMarks op b = false) : PT X (.Compare a [op] [b] pos) (tTest (tOp r ta tb)) := by
  intro pins s σ H Q I h
  refine wpAny_isTrue_Compare1 (thn (ha pins s σ H _ I h) fun v s1 ⟨x, H1, I1, r1, q1⟩ => thn (hb pins s1 σ H1 _ I1 q1) fun u s2 ⟨y, H2, I2, r2, q2⟩ =>
    thn (ho pins s2 σ H2 x y v u _ I2 r1 r2 q2) fun c s3 ⟨z, H3, I3, r3, k, e, q3⟩ => ?_) hm
  subst e
  cases r3
  exact wpAny_truthy_bool ⟨H3, I3, q3⟩
/-- a op1 b op2 c -/
def tChain (r r' : R2) (ta tb tc : TE) : TE := fun σ H Q => ta σ H fun x H1 => tb σ H1 fun y H2 => r x y H2 fun z H3 => ∃ k, z = .bl k ∧
  (if k = true then tc σ H3 fun w' H4 => r' y w' H4 Q else Q (.bl false) H3)
theorem pe_chain {op op' : CmpOp} {r r' : R2} (ho : OpR X (compareOp op) r) (ho' : OpR X (compareOp op') r') (ha : PE X a ta) (hb : PE X b tb) (hc : PE X c tc)
    (hm : lastMarks [op, op'] [b, c] = false := by with_unfolding_all rfl) : PE X (.Compare a [op, op'] [b, c] pos) (tChain r r' ta tb tc) := by
  intro pins s σ H Q I h
  refine Compare_chain (thn (ha pins s σ H _ I h) fun v s1 ⟨x, H1, I1, r1, q1⟩ => chain_link (thn (hb pins s1 σ H1 _ I1 q1) fun u s2 ⟨y, H2, I2, r2, q2⟩ =>
    thn (ho pins s2 σ H2 x y v u _ I2 r1 r2 q2) fun d s3 ⟨z, H3, I3, r3, k, e, q3⟩ => ?_)) hm
  subst e
  cases r3
  refine wpAny_truthy_bool ?_
  cases k with
  | false => exact ite_ff ⟨.bl false, H3, I3, rfl, q3⟩
  | true => exact ite_tt (chain_last (thn (hc pins s3 σ H3 _ I3 q3) fun w' s4 ⟨z', H4, I4, r4, q4⟩ => ho' pins s4 σ H4 y z' u w' Q I4 r2 r4 q4))
theorem pt_chain {op op' : CmpOp} {r r' : R2} (ho : OpR X (compareOp op) r) (ho' : OpR X (compareOp op') r') (ha : PE X a ta) (hb : PE X b tb) (hc : PE X c tc)
    (hm : lastMarks [op, op'] [b, c] = false := by with_unfolding_all rfl) : PT X (.Compare a [op, op'] [b, c] pos) (tTest (tChain r r' ta tb tc)) := by
  intro pins s σ H Q I h
  refine isTrue_chain (thn (ha pins s σ H _ I h) fun v s1 ⟨x, H1, I1, r1, q1⟩ => test_link (thn (hb pins s1 σ H1 _ I1 q1) fun u s2 ⟨y, H2, I2, r2, q2⟩ =>
    thn (ho pins s2 σ H2 x y v u _ I2 r1 r2 q2) fun d s3 ⟨z, H3, I3, r3, k, e, q3⟩ => ?_)) hm
  subst e
  cases r3
  refine wpAny_truthy_bool ?_
  cases k with
  | false =>
    obtain ⟨k', e', q'⟩ := q3
    cases e'
    exact ite_ff ⟨H3, I3, q'⟩
  | true =>
    refine ite_tt (test_last (thn (hc pins s3 σ H3 _ I3 q3) fun w' s4 ⟨z', H4, I4, r4, q4⟩ => thn (ho' pins s4 σ H4 y z' u w' _ I4 r2 r4 q4) fun d' s5 ⟨z2, H5, I5, r5, k2, e2, q5⟩ => ?_))
    subst e2
    cases r5
    exact wpAny_truthy_bool ⟨H5, I5, q5⟩

/-! ### truth -/
/-- a value's truth by the abstract heap -/
def TruV (K : PySem.W.Frag) (x : V) (H : Hp) (k : Bool) : Prop :=
  match x with
  | .non => k = false
  | .bl b => k = b
  | .int i => k = (i != 0)
  | .str y => y.length ≤ sizeLine ∧ k = ((y.length : Int) != 0)
  | .byt y => y.size ≤ sizeLine ∧ k = ((y.size : Int) != 0)
  | .ref p => (∃ xs, SqL K H p xs ∧ k = !xs.isEmpty) ∨ (∃ xs, SqT K H p xs ∧ k = !xs.isEmpty) ∨ ∃ kvs, H p = some (.dK kvs) ∧ k = !kvs.isEmpty
  | _ => False
theorem isEmpty_kv {κ : Type} {kvs : List (κ × V)} {vs : List (κ × Value)} (r : KV kvs vs) : (!vs.isEmpty) = !kvs.isEmpty := by
  cases r <;> rfl
theorem isEmpty_of {xs : List V} {its : List Value} (r : Vals xs its) : (!its.toArray.isEmpty) = !xs.isEmpty := by
  cases r <;> simp
theorem line63 : (sizeLine : Nat) < 2 ^ 63 := by rw [sizeLine_eq]; decide
theorem tru_ok : TruR X (fun x H Q => ∃ k, TruV X.K x H k ∧ Q k H) := by
  intro pins s σ H x v Q I rx h
  obtain ⟨k, e, q⟩ := h
  have hl := line63
  have hs : sizeLine = 16777216 := sizeLine_eq
  cases x with
  | non =>
    cases rx
    have e' : k = false := e
    subst e'
    exact truthy_none ⟨H, I, q⟩
  | bl b =>
    cases rx
    have e' : k = b := e
    subst e'
    exact wpAny_truthy_bool ⟨H, I, q⟩
  | int i =>
    obtain ⟨t, rfl⟩ := rx
    have e' : k = (i != 0) := e
    subst e'
    exact PySem.P.truthy_int ⟨H, I, q⟩
  | str y =>
    obtain ⟨t, rfl⟩ := rx
    obtain ⟨hy, e'⟩ : y.length ≤ sizeLine ∧ k = ((y.length : Int) != 0) := e
    subst e'
    exact PySem.P.truthy_str (by omega) ⟨H, I.tok _, q⟩
  | byt y =>
    obtain ⟨t, rfl⟩ := rx
    obtain ⟨hy, e'⟩ : y.size ≤ sizeLine ∧ k = ((y.size : Int) != 0) := e
    subst e'
    exact PySem.W.truthy_bytes (by omega) ⟨H, I.tok _, q⟩
  | ref p =>
    cases rx
    have e' : (∃ xs, SqL X.K H p xs ∧ k = !xs.isEmpty) ∨ (∃ xs, SqT X.K H p xs ∧ k = !xs.isEmpty) ∨ ∃ kvs, H p = some (.dK kvs) ∧ k = !kvs.isEmpty := e
    rcases e' with ⟨xs, hx, e'⟩ | ⟨xs, hx, e'⟩ | ⟨kvs, hx, e'⟩
    · subst e'
      obtain ⟨its, r, pl, hz⟩ := I.list hx
      have hlen := r.length
      exact wpAny_truthy_list pl.isList (by simp only [List.size_toArray]; omega) ⟨H, I.tok _, by rw [isEmpty_of r]; exact q⟩
    · subst e'
      obtain ⟨its, r, pl, hz⟩ := I.tuple hx
      have hlen := r.length
      exact truthy_tuple pl (by simp only [List.size_toArray]; omega) ⟨H, I.tok _, by rw [isEmpty_of r]; exact q⟩
    · subst e'
      obtain ⟨hz, hS, vs, r, m⟩ : kvs.length ≤ sizeLine ∧ (p == sysModules) = false ∧ ∃ vs, KV kvs vs ∧ s.heap.DictOf (mixKind X.prog X.w) p vs := I.hok p _ hx
      have hlen : kvs.length = vs.length := Paired.length r
      exact wpAny_truthy_dict hS m (by omega) ⟨H, I.tok _, by rw [isEmpty_kv r]; exact q⟩
  | _ => exact (show False from e).elim
/-- any expression whose test is its value's truth (a name, a call, a subscript, a field ..: he by fun _ => rfl) -/
theorem pt_truth (ha : PE X a ta) (he : ∀ whole, isTrue a X.env whole = (do let v ← whole; standAt a.pos; holding [v] (truthy v))) :
    PT X a (fun σ H Q => ta σ H fun x H' => ∃ k, TruV X.K x H' k ∧ Q k H') := by
  intro pins s σ H Q I h
  exact isTrue_plain (thn (ha pins s σ H _ I h) fun v s1 ⟨x, H1, I1, r1, q1⟩ => tru_ok pins s1 σ H1 x v Q I1 r1 q1) (he _)

/-! ### strs and bytes -/
theorem op_add_str : OpR X (binaryOp .Add) (fun x y H Q => ∃ i j, x = .str i ∧ y = .str j ∧ i.length + j.length ≤ sizeLine ∧ Q (.str (i ++ j)) H) := by
  intro pins s σ H x y v u Q I rx ry h
  obtain ⟨i, j, rfl, rfl, hz, q⟩ := h
  obtain ⟨t, rfl⟩ := rx
  obtain ⟨t', rfl⟩ := ry
  exact add_str (fun t' tk => ⟨.str (i ++ j), H, I.tok _, ⟨_, rfl⟩, q⟩) hz
/-! ### scalar builtins, by CallR -/
theorem vals1 {x : V} {us : List Value} (r : Vals [x] us) : ∃ u, us = [u] ∧ RelV x u := by
  cases r with
  | cons r1 r2 => cases r2; exact ⟨_, rfl, r1⟩
theorem vals2 {x y : V} {us : List Value} (r : Vals [x, y] us) : ∃ u w', us = [u, w'] ∧ RelV x u ∧ RelV y w' := by
  cases r with
  | cons r1 r2 =>
    cases r2 with
    | cons r3 r4 => cases r4; exact ⟨_, _, rfl, r1, r3⟩
theorem call_max2 (hc : X.calm = true) : CallR X (.builtin "max") (fun xs H Q => ∃ i j, xs = [.int i, .int j] ∧ Q (.int (if j > i then j else i)) H) := by
  intro pins s σ H xs us Q I r h
  obtain ⟨i, j, rfl, q⟩ := h
  obtain ⟨u, w', rfl, ⟨t, rfl⟩, ⟨t', rfl⟩⟩ := vals2 r
  refine max_two_ints (I.ok.hd hc) fun h' tk k => ⟨_, H, I.kept k, ?_, q⟩
  by_cases hj : j > i
  · rw [if_pos hj, if_pos hj]; exact ⟨_, rfl⟩
  · rw [if_neg hj, if_neg hj]; exact ⟨_, rfl⟩
theorem call_int1 : CallR X (.type "int") (fun xs H Q => (∃ i, xs = [.int i] ∧ Q (.int i) H) ∨ ∃ k, xs = [.bl k] ∧ Q (.int (if k then 1 else 0)) H) := by
  intro pins s σ H xs us Q I r h
  rcases h with ⟨i, rfl, q⟩ | ⟨k, rfl, q⟩
  · obtain ⟨u, rfl, t, rfl⟩ := vals1 r
    exact call_int_int ⟨.int i, H, I, ⟨_, rfl⟩, q⟩
  · obtain ⟨u, rfl, r1⟩ := vals1 r
    cases r1
    exact call_int_bool ⟨.int (if k then 1 else 0), H, I.tok _, ⟨_, rfl⟩, q⟩
end
end L2

namespace L2
open PySem PySem.Spec PyProof.Rows

/-! ### an instance, its attributes a map -/
structure ObjM (h : Heap) (x dx C : Addr) (mA : Str → Option Value) : Prop where
  obj : h.get? x = some (PySem.W.instObj C dx)
  ns : h.Ns1 dx mA
  ne : dx ≠ x

theorem lookIn_ns {h : Heap} {dx : Addr} {mA : Str → Option Value} (n : h.Ns1 dx mA) : ∃ od, h.get? dx = some od ∧ ∀ name, PySem.W.lookIn name od = some (mA name) := by
  obtain ⟨o, es, ep, ho, hd, hk, _, hm⟩ := n
  refine ⟨o, ho, fun name => ?_⟩
  have e := hm name
  unfold nsFind findBy at e
  rw [← Array.find?_toList] at e
  unfold PySem.W.lookIn
  rw [hd]
  dsimp only
  split
  · rename_i y q
    rw [q] at e
    exact congrArg some e
  · rename_i q
    rw [q] at e
    have a : es.toList.any (·.refKey) = false := by
      rw [List.any_eq_false]
      intro y hy
      obtain ⟨z, t, hkey⟩ := hk y (Array.mem_toList_iff.mp hy)
      simp [DictEntry.refKey, hkey]
    have a' : ¬ es.toList.any (·.refKey) = true := by rw [a]; exact Bool.false_ne_true
    rw [if_neg a']
    exact congrArg some e

theorem ObjM.look {h : Heap} {x dx C : Addr} {mA : Str → Option Value} (I : ObjM h x dx C mA) : ∃ od, PySem.W.InstAt h x (PySem.W.instObj C dx) C (some od) ∧ ∀ name, PySem.W.lookIn name od = some (mA name) :=
  let ⟨od, ho, hl⟩ := lookIn_ns I.ns
  ⟨od, ⟨I.obj, rfl, rfl, ho⟩, hl⟩

section
variable {prog : Program} {w : World} {A : Around} {E : Value → Shared → Prop} {s : Shared} {K : PySem.W.Frag} {x dx C f : Addr} {mA : Str → Option Value} {name : Str} {v : Value}

end

/-! ### the attributes as a list of pairs -/
theorem RelO.some_of {v : V} {o : Option Value} (r : RelO (some v) o) : ∃ u, o = some u ∧ RelV v u := by
  cases o with
  | none => exact (show False from r).elim
  | some u => exact ⟨u, rfl, r⟩
section
variable {P : Program} {w : World} {H H' : Hp} {h h' : Heap} {a C dx : Addr} {fs fs' : List (Str × V)}
end

/-! ### what of the text a class must have -/
structure Cls (K : PySem.W.Frag) (C : Addr) : Prop where
  pg : PySem.W.plainGet K C Str.empty = true
  hd : PySem.W.hasDictIn K C = true
  po : PySem.W.plainOver K C = true
  sa : PySem.W.findIn K (.ref C) "__setattr__" = some (some (.builtin "object.__setattr__"))
theorem Cls.get {K : PySem.W.Frag} {C : Addr} (c : Cls K C) (f : Str) : PySem.W.plainGet K C f = true := c.pg
/-- a constant of the class -/
structure Con (K : PySem.W.Frag) (C : Addr) (f : Str) (v : V) (u : Value) : Prop where
  at_ : PySem.W.findIn K (.ref C) f = some (some u)
  rel : RelV v u
  get : PySem.W.specialIn K u "__get__" = some none
  cp : PySem.W.copiedNames.contains f = false
/-- a method: a plain def of the class or of one above it -/
structure Meth (K : PySem.W.Frag) (C : Addr) (m : Str) (f : Addr) : Prop where
  at_ : PySem.W.findIn K (.ref C) m = some (some (.ref f))
  fn : PySem.W.isFn K (.ref f) = true
  kp : PySem.W.keepIn K (.ref f) = true

section
variable {X : Cx} {pins : List (Addr × Obj)} {σ : St} {H : Hp} {s : Shared} {a C dx : Addr} {fs : List (Str × V)} {f : Str} {v : V} {A : Around} {E : Value → Shared → Prop}

/-- a new instance, tracked, without attributes -/
theorem Inv.made (I : Inv X pins σ H s) : Inv X pins σ (upd (upd H s.heap.objs.size (.own (s.heap.objs.size + 1))) (s.heap.objs.size + 1) (.ins C s.heap.objs.size []))
    { s with heap := (s.heap.push PySem.W.emptyDict).push (PySem.W.instObj C s.heap.objs.size) } := by
  have e1 : (s.heap.push PySem.W.emptyDict).get? s.heap.objs.size = some PySem.W.emptyDict := Heap.get?_push_size s.heap rfl
  have e2 : ((s.heap.push PySem.W.emptyDict).push (PySem.W.instObj C s.heap.objs.size)).get? (s.heap.objs.size + 1) = some (PySem.W.instObj C s.heap.objs.size) := by
    have := Heap.get?_push_size (s.heap.push PySem.W.emptyDict) (o := PySem.W.instObj C s.heap.objs.size) rfl
    rwa [Heap.size_push] at this
  have e3 : (s.heap.push PySem.W.emptyDict).Ns s.heap.objs.size (fun _ => none) := ⟨PySem.W.emptyDict, #[], _, e1, rfl, (fun e he => absurd he (by simp)), fun _ => rfl⟩
  have I1 := I.laid (a := s.heap.objs.size) (o := .own (s.heap.objs.size + 1)) (h' := s.heap.push PySem.W.emptyDict) (t' := s.toks) (fun b u q => Heap.get?_push_of_some _ q) (Nat.le_refl _) ⟨_, e1⟩
  refine I1.laid (a := s.heap.objs.size + 1) (o := .ins C s.heap.objs.size []) (t' := s.toks) (fun b u q => Heap.get?_push_of_some _ q) (Nat.le_of_eq (Heap.size_push _ _)) ?_
  have ne : s.heap.objs.size ≠ s.heap.objs.size + 1 := Nat.ne_of_lt (Nat.lt_succ_self _)
  refine ⟨by rw [upd_ne ne, upd_same], Nat.zero_le _, ne, e2, fun _ => none, (Heap.Ns1.of_empty e3).at fun o q => Heap.get?_push_of_some _ q, fun _ => True.intro, fun y hy => absurd rfl hy⟩

end

/-! ### readings and rules -/
section
variable {X : Cx} {o e value : Expr} {f : Str} {pos pos' tpos : Pos} {ta tv : TE}
end

/-! ### isinstance -/
section
variable {X : Cx} {pins : List (Addr × Obj)} {σ : St} {H : Hp} {s : Shared} {A : Around} {E : Value → Shared → Prop} {Q : Value → Shared → Prop} {c : Value} {b : Bool}
/-- the type of a value, as the fragment's deciders take it; for an instance its class -/
inductive TyOf (K : PySem.W.Frag) (H : Hp) : V → Value → Prop where
  | non : TyOf K H .non (.type "NoneType")
  | bl (x : Bool) : TyOf K H (.bl x) (.type "bool")
  | int (i : Int) : TyOf K H (.int i) (.type "int")
  | str (x : Str) : TyOf K H (.str x) (.type "str")
  | flt (x : UInt64) : TyOf K H (.flt x) (.type "float")
  | lst {a : Addr} {xs : List V} (e : H a = some (.lst xs)) : TyOf K H (.ref a) (.type "list")
  | frz {a : Addr} {o : Obj} {xs : List V} (e : H a = some (.frz o (.lst xs))) : TyOf K H (.ref a) (.type "list")
  | tup {a : Addr} {xs : List V} (e : H a = some (.tup xs)) : TyOf K H (.ref a) (.type "tuple")
  | dK {a : Addr} {kvs : List (Key × V)} (e : H a = some (.dK kvs)) : TyOf K H (.ref a) (.type "dict")
  | dT {a : Addr} {kvs : List (List Key × V)} (e : H a = some (.dT kvs)) : TyOf K H (.ref a) (.type "dict")
  | ins {a C dx : Addr} {fs : List (Str × V)} (e : H a = some (.ins C dx fs)) (cl : Cls K C) (ha : PySem.W.findIn K (.ref C) "__class__" = some (some (.builtin "object.__class__")))
      (hn : PySem.W.specialIn K (.builtin "object.__class__") "__get__" = some (some (.builtin "getset_descriptor.__get__"))) (htk : PySem.W.takesIn K (.builtin "object.__class__") = some true)
      (hm : PySem.W.mroIn K C (.type "object") = some true) : TyOf K H (.ref a) (.ref C)
end
end L2

namespace L2
open PySem PySem.Spec PyProof.Rows

/-! ### room -/
structure Room (k : Nat) (A : Around) : Prop where
  hd : A.handled = none
  dp : A.depth + 3 * k + 5 < recursionLimit
  un : A.units + 16 * k + 200 < cLine
  gd : A.guards = some []
theorem Room.mono {j k : Nat} {A : Around} (r : Room k A) (h : j ≤ k) : Room j A := ⟨r.hd, by have := r.dp; omega, by have := r.un; omega, r.gd⟩
theorem Room.deeper {k : Nat} {A : Around} (r : Room (k + 1) A) (env : Env) : Room k (A.deeper env) :=
  ⟨r.hd, by have := r.dp; show A.depth + 1 + 3 * k + 5 < _; omega, by have := r.un; show A.units + 3 + 16 * k + 200 < _; omega, r.gd⟩
theorem Room.in1 {k : Nat} {A : Around} (r : Room (k + 1) A) : Room k A.in1 :=
  ⟨r.hd, by have := r.dp; show A.depth + 3 * k + 5 < _; omega, by have := r.un; show A.units + 1 + 16 * k + 200 < _; omega, r.gd⟩
theorem Room.depth {k : Nat} {A : Around} (r : Room k A) : A.depth < recursionLimit := by have := r.dp; omega
theorem Room.units {k : Nat} {A : Around} (r : Room k A) : A.units + 64 < cLine := by have := r.un; omega
/-! ### argument lists and displays -/
def tNil : TA := fun _ H Q => Q [] H
def tCons (ta : TE) (tr : TA) : TA := fun σ H Q => ta σ H fun x H1 => tr σ H1 fun xs H2 => Q (x :: xs) H2
section
variable {X : Cx} {e : Expr} {es : List Expr} {te : TE} {t : TA} {pos : Pos}
theorem pa_nil : PA X [] tNil := fun _ _ _ _ H Q I h => Calls.spliced_nil ⟨[], H, I, .nil, h⟩
theorem pa_cons (ha : PE X e te) (hr : PA X es t) (hs : starEach (e :: es) X.env = (false, eval e X.env) :: starEach es X.env := by rfl) : PA X (e :: es) (tCons te t) := by
  intro pos pins s σ H Q I h
  rw [hs]
  show wpAny _ _ (spliced ((false, eval e X.env) :: backTo pos (starEach es X.env))) _ _ s
  refine Calls.spliced_cons (thn (ha pins s σ H _ I h) fun u s1 ⟨x, H1, I1, r1, q1⟩ => ?_)
  exact thn (hr pos pins s1 σ H1 _ I1 q1) fun us s2 ⟨xs, H2, I2, r2, q2⟩ => ⟨x :: xs, H2, I2, .cons r1 r2, q2⟩

/-- a tuple, a list of written items -/
def tTup (t : TA) : TE := fun σ H Q => t σ H fun xs H1 => xs.length ≤ sizeLine ∧ ∀ p, H1 p = none → Q (.ref p) (upd H1 p (.tup xs))
def tLst (t : TA) : TE := fun σ H Q => t σ H fun xs H1 => xs.length ≤ sizeLine ∧ ∀ p, H1 p = none → Q (.ref p) (upd H1 p (.lst xs))
theorem pe_tup {x1} (h : PA X es t) : PE X (.Tuple es x1 pos) (tTup t) := by
  intro pins s σ H Q I hq
  refine wpAny_Tuple_spliced (thn (h pos pins s σ H _ I hq) fun us s1 ⟨xs, H1, I1, r, z, q⟩ => ⟨by rw [← r.length]; exact z, ?_⟩)
  have hf : H1 s1.heap.objs.size = none := I1.hok.fresh (Nat.le_refl _)
  refine ⟨.ref s1.heap.objs.size, upd H1 s1.heap.objs.size (.tup xs), I1.laid (t' := s1.toks) (fun b u e => Heap.get?_push_of_some _ e) (Nat.le_refl _) ?_, rfl, q _ hf⟩
  exact ⟨z, us, r, ⟨_, Heap.get?_push_size _ rfl, rfl, _, rfl, rfl⟩⟩
theorem pe_lst (h : PA X es t) : PE X (.List es pos) (tLst t) := by
  intro pins s σ H Q I hq
  refine wpAny_List_spliced (thn (h pos pins s σ H _ I hq) fun us s1 ⟨xs, H1, I1, r, z, q⟩ => ⟨by rw [← r.length]; exact z, ?_⟩)
  have hf : H1 s1.heap.objs.size = none := I1.hok.fresh (Nat.le_refl _)
  refine ⟨.ref s1.heap.objs.size, upd H1 s1.heap.objs.size (.lst xs), I1.laid (t' := s1.toks) (fun b u e => Heap.get?_push_of_some _ e) (Nat.le_refl _) ?_, rfl, q _ hf⟩
  exact ⟨z, us, 0, r, Heap.get?_push_size _ rfl⟩
end

/-! ### what a def promises -/
/-- a def's promise: the bound arguments in the parameters' order, the heap, the wanted end, the wanted exception -/
abbrev Sp := List V → Hp → VK → XK → Prop
/-- how an exception lies behind a call (file 08 gives it): the callers' frames, abstract heap and state ahead of the call, the wish, the exception, the state -/
abbrev CXT := List Env → Hp → Shared → XK → Value → Shared → Prop

/-- the state at a call -/
structure Env0 (P : Program) (w : World) (K : PySem.W.Frag) (mg : Str → Option Value) (base : Heap) (A : Around) (outer : List Env) (s : Shared) (H : Hp) : Prop where
  frames : A.frames = some outer
  mod : Mod K mg base
  bs : ∀ b o, base.get? b = some o → s.heap.get? b = some o ∧ H b = none
  bsz : base.objs.size ≤ s.heap.objs.size
  funs : s.heap.FunFrames base outer
  frf : ∀ b ∈ frs outer, H b = none
  hok : HOk P w H s.heap
  bare : AllBare s.gens
/-- a call's end -/
def CE (outer : List Env) (P : Program) (w : World) (H : Hp) (s : Shared) (Q : VK) (u : Value) (s' : Shared) : Prop :=
  ∃ v H', s'.os = s.os ∧ AllBare s'.gens ∧ Un (frs outer) [] H H' s.heap s'.heap ∧ HOk P w H' s'.heap ∧ RelV v u ∧ Q v H'
def CR (CX : CXT) (outer : List Env) (P : Program) (w : World) (H : Hp) (s : Shared) (Q : VK) (E : XK) (r : Result) (s' : Shared) : Prop :=
  match r with
  | .ok (.ret u) => CE outer P w H s Q u s'
  | .ok _ => False
  | .error e => CX outer H s E e s'
structure FnOk (P : Program) (w : World) (K : PySem.W.Frag) (mg : Str → Option Value) (base : Heap) (CX : CXT) (k : Nat) (f : Addr) (fd : FuncData) (ps : List Str) (sp : Sp) : Prop where
  len : ∀ vs H Q E, sp vs H Q E → vs.length = ps.length
  run : ∀ (A : Around) (outer : List Env) (s : Shared) (H : Hp) (args : Args) (us : List Value) (vs : List V) (Q : VK) (E : XK), Room k A → Env0 P w K mg base A outer s H → BindsTo s fd args (ps.zip us) → Vals vs us → sp vs H Q E →
    codeAny (model P w) A (.call (.ref f) args) (CR CX outer P w H s Q E) s
theorem FnOk.mono {P : Program} {w : World} {K : PySem.W.Frag} {mg : Str → Option Value} {base : Heap} {CX : CXT} {j k : Nat} {f : Addr} {fd : FuncData} {ps : List Str} {sp : Sp} (F : FnOk P w K mg base CX j f fd ps sp) (h : j ≤ k) :
    FnOk P w K mg base CX k f fd ps sp := ⟨F.len, fun A outer s H args us vs Q E hr => F.run A outer s H args us vs Q E (hr.mono h)⟩
/-- a weaker promise -/
theorem FnOk.imp {P : Program} {w : World} {K : PySem.W.Frag} {mg : Str → Option Value} {base : Heap} {CX : CXT} {k : Nat} {f : Addr} {fd : FuncData} {ps : List Str} {sp sp' : Sp} (F : FnOk P w K mg base CX k f fd ps sp)
    (h : ∀ vs H Q E, sp' vs H Q E → sp vs H Q E) : FnOk P w K mg base CX k f fd ps sp' :=
  ⟨fun vs H Q E q => F.len vs H Q E (h _ _ _ _ q), fun A outer s H args us vs Q E hr he hb hv hs => F.run A outer s H args us vs Q E hr he hb hv (h _ _ _ _ hs)⟩

theorem Env0.in1 {P : Program} {w : World} {K : PySem.W.Frag} {mg : Str → Option Value} {base : Heap} {A : Around} {outer : List Env} {s : Shared} {H : Hp} (e : Env0 P w K mg base A outer s H) :
    Env0 P w K mg base A.in1 outer s H := ⟨e.frames, e.mod, e.bs, e.bsz, e.funs, e.frf, e.hok, e.bare⟩

section
variable {X : Cx} {pins : List (Addr × Obj)} {σ : St} {H : Hp} {s s' : Shared}
/-- from a body: what a callee wants -/
theorem Inv.env0 (I : Inv X pins σ H s) : Env0 X.prog X.w X.K X.mg X.base X.A X.stack s H :=
  ⟨I.ok.frames, I.ok.mod, I.bs, Nat.le_trans I.ok.bsz I.sz, I.stack, I.stkFree, I.hok, I.bare⟩
/-- behind a call -/
theorem Inv.after {Q : VK} {u : Value} (I : Inv X pins σ H s) (h : CE X.stack X.prog X.w H s Q u s') : EP X pins σ Q u s' := by
  obtain ⟨v, H', os, bare, un, hok, r, q⟩ := h
  obtain ⟨hh, g, d, t, os'⟩ := s'
  obtain rfl : os' = s.os := os
  exact ⟨v, H', I.call (h' := hh) (g' := g) (d' := d) (t' := t) (ch := []) un hok bare (fun b z => absurd z (by simp)), r, q⟩
end

/-! ### calls -/
/-- f(..): the written arguments, then the defaults dvs; E: what is wanted of an exception -/
def tCall (sp : Sp) (dvs : List V) (E : XK) (t : TA) : TE := fun σ H Q => t σ H fun vs H1 => sp (vs ++ dvs) H1 Q E
/-- how the parameters are bound: us the positional arguments, kw the keywords' values by name, ds the defaults that fill up -/
def Binds (K : PySem.W.Frag) (fd : FuncData) (ps : List Str) (ds : List Value) : Prop :=
  ∀ (s : Shared) (us : List Value), K.In s.heap → (us ++ ds).length = ps.length → BindsTo s fd ⟨us, []⟩ (ps.zip (us ++ ds))
/-- every parameter is given -/
theorem Binds.all {K : PySem.W.Frag} {fd : FuncData} {ps : List Str} (h : ∀ us : List Value, us.length = ps.length → bindArgs fd ⟨us, []⟩ = pure (ps.zip us)) : Binds K fd ps [] := fun s us _ hl => by
  rw [List.append_nil] at hl ⊢
  exact .of_eq (h us hl)

/-- an exception of a callee reaches what this body wants of exceptions -/
def Passes (CX : CXT) (X : Cx) (E : XK) : Prop := ∀ (pins : List (Addr × Obj)) (σ : St) (H : Hp) (s : Shared) (e : Value) (s' : Shared), Inv X pins σ H s → CX X.stack H s E e s' → X.xe e s'

section
variable {X : Cx} {CX : CXT} {k : Nat} {f C : Addr} {fd : FuncData} {ps : List Str} {sp : Sp} {dvs : List V} {ds : List Value} {E : XK} {x m : Str} {p pos apos : Pos} {e o : Expr} {es : List Expr} {ta : TE} {t : TA}

/-- the callee runs -/
theorem run_fn {pins : List (Addr × Obj)} {σ : St} {H : Hp} {s : Shared} {Q : VK} {us : List Value} {vs : List V} (F : FnOk X.prog X.w X.K X.mg X.base CX k f fd ps sp) (hr : Room k X.A) (hb : Binds X.K fd ps ds) (hd : Vals dvs ds) (hx : Passes CX X E)
    (I : Inv X pins σ H s) (r : Vals vs us) (h : sp (vs ++ dvs) H Q E) : wpAny (model X.prog X.w) X.A (call (.ref f) us) (EP X pins σ Q) X.xe s := by
  have r2 : Vals (vs ++ dvs) (us ++ ds) := r.append hd
  have hl : (us ++ ds).length = ps.length := by rw [← r2.length]; exact F.len _ _ _ _ h
  refine wpAny_call (codeAny_mono (F.run X.A X.stack s H ⟨us, []⟩ (us ++ ds) (vs ++ dvs) Q E hr I.env0 (hb s us I.kIn hl) r2 h) fun r s' hq => ?_)
  cases r with
  | error e => exact hx pins σ H s e s' I hq
  | ok fl =>
    cases fl with
    | ret u => exact I.after hq
    | next => exact False.elim hq
    | brk => exact False.elim hq
    | cont => exact False.elim hq

theorem pe_call (F : FnOk X.prog X.w X.K X.mg X.base CX k f fd ps sp) (hr : Room k X.A) (hg : Gl X x) (hm : X.mg x = some (.ref f)) (hk : PySem.W.keepIn X.K (.ref f) = true) (hb : Binds X.K fd ps ds) (hd : Vals dvs ds) (hx : Passes CX X E)
    (ha : PA X (e :: es) t) (hdb : (x == ("__debug__" : Str)) = false := by decide) (he : starEach (e :: es) X.env = (false, eval e X.env) :: starEach es X.env := by rfl) (hpl : (backTo pos (starEach es X.env)).any (·.1) = false := by rfl) :
    PE X (.Call (.Name x p) (e :: es) [] pos) (tCall sp dvs E t) := by
  intro pins s σ H Q I h
  refine wpAny_Call_Name_kw (ld_glob I hg hm ?_ hdb)
  refine PySem.W.callWith_K (h₀ := X.base) I.ok.mod.kin hk (thn (ha pos pins s σ H _ I h) fun us s1 ⟨vs, H1, I1, r, q⟩ => ⟨I1.kIn, ?_⟩) he hpl
  exact run_fn F hr hb hd hx I1 r q
/-- what a class must have to be made -/
structure Mk (K : PySem.W.Frag) (C f : Addr) : Prop where
  makes : PySem.W.makesIn K C = true
  init : PySem.W.findIn K (.ref C) "__init__" = some (some (.ref f))
  fn : PySem.W.isFn K (.ref f) = true
  kp : PySem.W.keepIn K (.ref C) = true

end

/-! ### keywords -/
section
variable {X : Cx} {CX : CXT} {k : Nat} {f C : Addr} {fd : FuncData} {ps ks : List Str} {sp : Sp} {E : XK} {x m : Str} {p pos apos kpos : Pos} {e o : Expr} {es : List Expr} {kws : List Keyword} {te ta : TE} {t tk : TA} {nm : Option Str}
/-- how a call with keywords binds: g puts the positional values us and the keywords' values ws (names ks) in the parameters' order, defaults among them -/
structure KBinds (K : PySem.W.Frag) (fd : FuncData) (ps ks : List Str) (g : List Value → List Value → List Value) (gV : List V → List V → List V) : Prop where
  to : ∀ (s : Shared) (us ws : List Value), K.In s.heap → (g us ws).length = ps.length → BindsTo s fd ⟨us, ks.zip ws⟩ (ps.zip (g us ws))
  rel : ∀ {vs : List V} {us : List Value} {zs : List V} {ws : List Value}, Vals vs us → Vals zs ws → Vals (gV vs zs) (g us ws)
variable {g : List Value → List Value → List Value} {gV : List V → List V → List V}
end

/-! ### a def's body keeps its promise -/
/-- names: the parameters first -/
structure FnScope (N P : List Str) (sc : Scope) : Prop where
  kind : sc.kind = .function
  co : sc.isCoroutine = false
  gen : sc.isGenerator = false
  nd : N.Nodup
  pre : N.take P.length = P
  par : ∀ x ∈ P, sc.names.lookup x = some .local ∨ sc.names.lookup x = some .cell
  nofree : ∀ y ∈ sc.names, y.2 ≠ .free

theorem bindL_out {kindOf : Str → Option NameKind} {x : Str} : ∀ {binds : List (Str × Value)} {m : Str → Option Value}, (∀ v, (x, v) ∉ binds) → bindL kindOf binds m x = m x
  | [], _, _ => rfl
  | (n, v) :: r, m, h => by
    unfold bindL
    rw [bindL_out fun w hw => h w (List.mem_cons_of_mem _ hw)]
    split
    · have : x ≠ n := by rintro rfl; exact h v List.mem_cons_self
      simp [this]
    · rfl
theorem bindC_out {kindOf : Str → Option NameKind} {x : Str} : ∀ {binds : List (Str × Value)} {m : Str → Option Value}, (∀ v, (x, v) ∉ binds) → bindC kindOf binds m x = m x
  | [], _, _ => rfl
  | (n, v) :: r, m, h => by
    unfold bindC
    rw [bindC_out fun w hw => h w (List.mem_cons_of_mem _ hw)]
    split
    · rfl
    · have : x ≠ n := by rintro rfl; exact h v List.mem_cons_self
      simp [this]
theorem bindL_get {kindOf : Str → Option NameKind} {x : Str} {v : Value} : ∀ {P : List Str} {vs : List Value} {i : Nat} {m : Str → Option Value}, P.Nodup → P[i]? = some x → vs[i]? = some v → kindOf x = some .local →
    bindL kindOf (P.zip vs) m x = some v
  | [], _, _, _, _, h, _, _ => by simp at h
  | _ :: _, [], _, _, _, _, h, _ => by simp at h
  | p :: P, w :: vs, 0, m, nd, h1, h2, hk => by
    simp at h1 h2; subst h1; subst h2
    show bindL kindOf ((p, w) :: P.zip vs) m p = _
    unfold bindL
    rw [bindL_out fun v hv => (List.nodup_cons.mp nd).1 (List.of_mem_zip hv).1, if_pos hk]
    simp
  | p :: P, w :: vs, i + 1, m, nd, h1, h2, hk => by
    show bindL kindOf ((p, w) :: P.zip vs) m x = _
    unfold bindL
    exact bindL_get (i := i) (List.nodup_cons.mp nd).2 (by simpa using h1) (by simpa using h2) hk
theorem bindC_get {kindOf : Str → Option NameKind} {x : Str} {v : Value} : ∀ {P : List Str} {vs : List Value} {i : Nat} {m : Str → Option Value}, P.Nodup → P[i]? = some x → vs[i]? = some v → kindOf x ≠ some .local →
    bindC kindOf (P.zip vs) m x = some v
  | [], _, _, _, _, h, _, _ => by simp at h
  | _ :: _, [], _, _, _, _, h, _ => by simp at h
  | p :: P, w :: vs, 0, m, nd, h1, h2, hk => by
    simp at h1 h2; subst h1; subst h2
    show bindC kindOf ((p, w) :: P.zip vs) m p = _
    unfold bindC
    rw [bindC_out fun v hv => (List.nodup_cons.mp nd).1 (List.of_mem_zip hv).1, if_neg hk]
    simp
  | p :: P, w :: vs, i + 1, m, nd, h1, h2, hk => by
    show bindC kindOf ((p, w) :: P.zip vs) m x = _
    unfold bindC
    exact bindC_get (i := i) (List.nodup_cons.mp nd).2 (by simpa using h1) (by simpa using h2) hk

/-- the names' values at the entry -/
def start (N : List Str) (vs : List V) : St := vs.map some ++ List.replicate (N.length - vs.length) none

/-- the context of a def's body, at its entry; an exception leaves the frame, then lies as CX says -/
def cxOf (CX : CXT) (P : Program) (w : World) (K : PySem.W.Frag) (mg : Str → Option Value) (base : Heap) (N : List Str) (qual : Str) (scope : Scope) (f : Addr) (cd : Value) (A : Around) (outer : List Env) (s : Shared) (H : Hp) (E : XK) : Cx where
  prog := P
  w := w
  K := K
  mg := mg
  base := base
  A := A.deeper (envOfC qual scope s.heap.objs.size f cd)
  N := N
  s₀ := s
  H₀ := H
  env := envOfC qual scope s.heap.objs.size f cd
  outer := outer
  stack := envOfC qual scope s.heap.objs.size f cd :: outer
  ex := []
  calm := true
  fn := fun _ => true
  pn := []
  xe := fun e s' => wpAny (model P w) (A.deeper (envOfC qual scope s.heap.objs.size f cd)) (leaving (envOfC qual scope s.heap.objs.size f cd) e) (fun _ s'' => CX outer H s E e s'') (fun e' s'' => CX outer H s E e' s'') s'

theorem cell_has {sc : Scope} {n : Nat} {x : Str} (h : sc.names.lookup x = some .cell) : ∃ c, (cellsFrom n sc.names []).lookup x = some c := by
  have q := PySem.W.cellsFrom_some sc.names n [] (.inl h)
  exact Option.isSome_iff_exists.mp q

theorem inv_start {CX : CXT} {P : Program} {w : World} {K : PySem.W.Frag} {mg : Str → Option Value} {base : Heap} {N ps : List Str} {qual : Str} {scope : Scope} {f : Addr} {cd : Value} {A : Around} {outer : List Env} {s s1 : Shared} {H : Hp} {E : XK} {us : List Value} {vs : List V}
    (S : FnScope N ps scope) (hd : A.handled = none) (e0 : Env0 P w K mg base A outer s H) (hl : vs.length = ps.length) (r : Vals vs us)
    (x : InCallC s s.heap.objs.size (bindL (envOfC qual scope s.heap.objs.size f cd).kindOf (ps.zip us) fun _ => none) (cellsFrom (s.heap.objs.size + 1) scope.names []) (bindC (envOfC qual scope s.heap.objs.size f cd).kindOf (ps.zip us) fun _ => none) s1) :
    Inv (cxOf CX P w K mg base N qual scope f cd A outer s H E) [] (start N vs) H s1 := by
  have hpl : ps.length ≤ N.length := by have := congrArg List.length S.pre; rw [List.length_take] at this; omega
  obtain ⟨h1, tk, rfl, hk⟩ := x.done
  have noA : ∀ b : Addr, b ∉ (cxOf CX P w K mg base N qual scope f cd A outer s H E).ex := fun b z => absurd (show b ∈ ([] : List Addr) from z) (by simp)
  refine ⟨⟨e0.mod, S.kind, rfl, rfl, Nat.le_refl _, fun y z c h1 h2 => ?_, fun y hy => ?_, fun y c _ h => ?_, fun _ => hd, Around.frames_deeper e0.frames, .inr ⟨rfl, rfl⟩, fun b z => absurd z (noA b), e0.bs, e0.bsz, fun b _ _ => noA b, fun b z => absurd z (noA b), e0.funs, e0.frf⟩,
    rfl, e0.bare, Un.kept hk, ⟨_, x.toInCall.ns, fun i y v h1 h2 h3 => ?_⟩, fun y c h => ⟨_, x.cell y c h⟩, e0.hok.fresh (Nat.le_refl _), fun y c h => ?_, fun p hp => absurd (show p ∈ ([] : List (Addr × Obj)) from hp) (by simp), e0.hok.kept hk, ?_⟩
  · exact name_of_addr x.apart (PySem.mem_of_lookup h1) (PySem.mem_of_lookup h2)
  · have hy : scope.names.lookup y = some .cell ∨ scope.names.lookup y = some .free := hy
    rcases hy with hy | hy
    · exact cell_has hy
    · exact absurd rfl (S.nofree _ (PySem.mem_of_lookup hy))
  · exact Nat.le_of_lt (x.above y c (PySem.mem_of_lookup h))
  · have hi : i < vs.length := by
      unfold start at h2
      by_cases hi : i < vs.length
      · exact hi
      · rw [List.getElem?_append_right (by simpa using hi)] at h2
        rw [List.getElem?_replicate] at h2
        split at h2 <;> cases h2
    have ha : vs[i]? = some v := by
      unfold start at h2
      rw [List.getElem?_append_left (by simpa using hi), List.getElem?_map] at h2
      cases e : vs[i]? with
      | none => rw [e] at h2; cases h2
      | some a => rw [e] at h2; cases h2; rfl
    obtain ⟨u, hu, rv⟩ := r.get ha
    have hp : ps[i]? = some y := by
      rw [← S.pre, List.getElem?_take_of_lt (by omega)]; exact h1
    have ndP : ps.Nodup := by rw [← S.pre]; exact S.nd.sublist (List.take_sublist _ _)
    refine ⟨u, rv, ?_⟩
    rcases S.par y (List.mem_of_getElem? hp) with k | k
    · exact .inl ⟨k, bindL_get ndP hp hu k⟩
    · obtain ⟨c, e⟩ := cell_has (n := s.heap.objs.size + 1) k
      refine .inr ⟨.inl k, c, e, ?_⟩
      have q := x.cell y c e
      rw [bindC_get ndP hp hu (by show scope.names.lookup y ≠ _; rw [k]; decide)] at q
      exact q
  · exact e0.hok.fresh (Nat.le_of_lt (x.above y c (PySem.mem_of_lookup h)))
  · unfold start
    show _ = N.length
    rw [List.length_append, List.length_map, List.length_replicate]
    omega

/-- THE RULE: a def (or a method) of the text, by its body. The body's reading t is chosen for each entry; it is run at the parameters' values -/
theorem fn_of {CX : CXT} {P : Program} {w : World} {K : PySem.W.Frag} {mg : Str → Option Value} {base : Heap} {k : Nat} {f : Addr} {name qual : Str} {params : Arguments} {body : List Stmt} {scope : Scope} {dV kV doc pm cdv ct oc : Value} {an od : Option Addr}
    {osl : Array (Option Value)} {N ps : List Str} {sp : Sp} (lk : K.lookup f = some ⟨oc, od, .func (PySem.W.fnOf name qual params body scope dV kV doc pm an cdv ct), osl⟩) (hcd : PySem.W.codeIn K cdv qual = true) (S : FnScope N ps scope)
    (len : ∀ vs H Q E, sp vs H Q E → vs.length = ps.length)
    (hbody : ∀ (A : Around) (outer : List Env) (s : Shared) (H : Hp) (vs : List V) (Q : VK) (E : XK), Room k (A.deeper (envOfC qual scope s.heap.objs.size f cdv)) → sp vs H Q E →
      ∃ t, PSs (cxOf CX P w K mg base N qual scope f cdv A outer s H E) body t ∧ t { nx := fun _ H' => Q .non H', rt := Q } (start N vs) H) :
    FnOk P w K mg base CX (k + 1) f (PySem.W.fnOf name qual params body scope dV kV doc pm an cdv ct) ps sp := by
  refine ⟨len, fun A outer s H args us vs Q E hr e0 hb r hsp => ?_⟩
  have hl := len _ _ _ _ hsp
  have KX : K.In s.heap := e0.mod.kin.keeps fun b o e => (e0.bs b o e).1
  have lim : s.heap.NoLimit := e0.mod.nolimit.keeps fun b o e => (e0.bs b o e).1
  have hkind : ∀ y ∈ ps.zip us, scope.names.lookup y.1 = some .local ∨ (scope.names.lookup y.1 = some .cell ∧ ((cellsFrom (s.heap.objs.size + 1) scope.names []).lookup y.1).isSome = true) := fun ⟨n, v⟩ hy => by
    rcases S.par n (List.of_mem_zip hy).1 with q | q
    · exact .inl q
    · exact .inr ⟨q, PySem.W.cellsFrom_some _ _ _ (.inl q)⟩
  refine codeAny_call_function hr.depth (KX _ _ lk) rfl S.co S.gen rfl (PySem.W.codeRec_of KX hcd) (hb _ _ _ _ ?_)
  refine wpAny_newFunctionEnv_cells S.kind hkind fun env he s1 x => ?_
  subst he
  refine ⟨lim.keeps x.toInCall.keep, codeAny_func ?_⟩
  obtain ⟨t, ht, hq⟩ := hbody A outer s H vs Q E (hr.deeper _) hsp
  have I : Inv (cxOf CX P w K mg base N qual scope f cdv A outer s H E) [] (start N vs) H s1 := inv_start S hr.hd e0 hl r x
  refine wpAny_mono (ht [] s1 (start N vs) H _ I hq) (fun fl s' hs => ?_) fun e s' hs => hs
  have fin : ∀ {σ' : St} {H' : Hp} {v : V} {u : Value}, Inv (cxOf CX P w K mg base N qual scope f cdv A outer s H E) [] σ' H' s' → RelV v u → Q v H' → CE outer P w H s Q u s' :=
    fun {σ' H' v u} J rv q => ⟨v, H', J.os, J.bare, J.base, J.hok, rv, q⟩
  cases fl with
  | ret u =>
    obtain ⟨v, σ', H', J, rv, q⟩ := hs
    exact fin J rv q
  | next =>
    obtain ⟨σ', H', J, q⟩ := hs
    exact fin (v := V.non) (u := Value.none) J rfl q
  | brk =>
    obtain ⟨_, _, _, q⟩ := hs
    exact False.elim q
  | cont =>
    obtain ⟨_, _, _, q⟩ := hs
    exact False.elim q
end L2

namespace L2
open PySem PySem.Spec PyProof.Rows
section
variable {X : Cx} {x : Str} {p pos : Pos} {e : Expr} {es : List Expr} {t : TA} {id T : String} {r : List V → Hp → VK → Prop}

def tCB (r : List V → Hp → VK → Prop) (t : TA) : TE := fun σ H Q => t σ H fun vs H1 => r vs H1 Q
/-- f(e, ..), f a built-in function -/
theorem pe_callB (hc : CallR X (.builtin id) r) (hg : Gl X x) (hm : X.mg x = none) (hv : bootBuiltins x = some (.builtin id)) (ha : PA X (e :: es) t) (hn : x ≠ "__name__" := by decide) (hdb : (x == ("__debug__" : Str)) = false := by decide)
    (he : starEach (e :: es) X.env = (false, eval e X.env) :: starEach es X.env := by rfl) (hpl : (backTo pos (starEach es X.env)).any (·.1) = false := by rfl) : PE X (.Call (.Name x p) (e :: es) [] pos) (tCB r t) := by
  intro pins s σ H Q I h
  refine wpAny_Call_Name_kw (ld_blt I hg hm hv ?_ hn hdb)
  exact PyProof.Rows.callWith_builtin1 (thn (ha pos pins s σ H _ I h) fun us s1 ⟨vs, H1, I1, r1, q1⟩ => hc pins s1 σ H1 vs us Q I1 r1 q1) he hpl
/-- T(e, ..), T a built-in type -/
theorem pe_callTy (hc : CallR X (.type T) r) (hg : Gl X x) (hm : X.mg x = none) (hv : bootBuiltins x = some (.type T)) (ha : PA X (e :: es) t) (hn : x ≠ "__name__" := by decide) (hdb : (x == ("__debug__" : Str)) = false := by decide)
    (he : starEach (e :: es) X.env = (false, eval e X.env) :: starEach es X.env := by rfl) (hpl : (backTo pos (starEach es X.env)).any (·.1) = false := by rfl) : PE X (.Call (.Name x p) (e :: es) [] pos) (tCB r t) := by
  intro pins s σ H Q I h
  refine wpAny_Call_Name_kw (ld_blt I hg hm hv ?_ hn hdb)
  exact PyProof.Rows.callWith_type1 (thn (ha pos pins s σ H _ I h) fun us s1 ⟨vs, H1, I1, r1, q1⟩ => hc pins s1 σ H1 vs us Q I1 r1 q1) he hpl
end
end L2

namespace L2
open PySem PySem.Spec PyProof.Rows

/-! ### lists of pairs as tables -/
section
variable {κ : Type} [DecidableEq κ]
def valV (kvs : List (κ × V)) (k : κ) : Option V := (kvs.find? fun kv => decide (kv.1 = k)).map (·.2)
/-- in its place, or at the end -/
def putK (kvs : List (κ × V)) (k : κ) (v : V) : List (κ × V) :=
  if (kvs.any fun kv => decide (kv.1 = k)) = true then kvs.map (fun kv => if kv.1 = k then (kv.1, v) else kv) else kvs ++ [(k, v)]
def dropK (kvs : List (κ × V)) (k : κ) : List (κ × V) := kvs.filter fun kv => decide (kv.1 ≠ k)

theorem valV_nil {k : κ} : valV ([] : List (κ × V)) k = none := rfl
theorem valV_pos {p : κ × V} {r : List (κ × V)} {k : κ} (e : p.1 = k) : valV (p :: r) k = some p.2 := by simp [valV, List.find?_cons, e]
theorem valV_neg {p : κ × V} {r : List (κ × V)} {k : κ} (e : ¬ p.1 = k) : valV (p :: r) k = valV r k := by simp [valV, List.find?_cons, e]
theorem valV_any (k : κ) : ∀ kvs : List (κ × V), (kvs.any fun kv => decide (kv.1 = k)) = (valV kvs k).isSome
  | [] => rfl
  | p :: r => by
    rw [List.any_cons]
    by_cases e : p.1 = k
    · simp only [valV_pos e, decide_eq_true e, Bool.true_or, Option.isSome_some]
    · rw [valV_neg e, decide_eq_false e, Bool.false_or]; exact valV_any k r
theorem valV_map (k j : κ) (y : V) : ∀ kvs : List (κ × V), valV (kvs.map fun kv => if kv.1 = k then (kv.1, y) else kv) j = (valV kvs j).map fun x => if j = k then y else x
  | [] => rfl
  | p :: r => by
    have ih := valV_map k j y r
    rw [List.map_cons]
    by_cases h : p.1 = k
    · rw [if_pos h]
      by_cases e : p.1 = j
      · rw [valV_pos (p := (p.1, y)) e, valV_pos e, Option.map_some, if_pos (e.symm.trans h)]
      · rw [valV_neg (p := (p.1, y)) e, valV_neg e, ih]
    · rw [if_neg h]
      by_cases e : p.1 = j
      · rw [valV_pos (p := p) e, valV_pos e, Option.map_some, if_neg (fun z => h (e.trans z))]
      · rw [valV_neg (p := p) e, valV_neg e, ih]
theorem valV_snoc (k j : κ) (y : V) : ∀ kvs : List (κ × V), valV kvs k = none → valV (kvs ++ [(k, y)]) j = if j = k then some y else valV kvs j
  | [], _ => by
    by_cases e : k = j
    · rw [if_pos e.symm]; exact valV_pos (p := (k, y)) e
    · rw [if_neg (fun z => e z.symm)]; exact valV_neg (p := (k, y)) e
  | p :: r, hn => by
    rw [List.cons_append]
    have hk : ¬ p.1 = k := fun z => by rw [valV_pos z] at hn; cases hn
    rw [valV_neg hk] at hn
    have ih := valV_snoc k j y r hn
    by_cases e : p.1 = j
    · rw [valV_pos e, valV_pos e, if_neg (fun z => hk (e.trans z))]
    · rw [valV_neg e, valV_neg e, ih]
theorem valV_put (kvs : List (κ × V)) (k j : κ) (y : V) : valV (putK kvs k y) j = if j = k then some y else valV kvs j := by
  unfold putK
  by_cases a : (kvs.any fun kv => decide (kv.1 = k)) = true
  · rw [if_pos a, valV_map]
    rw [valV_any] at a
    by_cases e : j = k
    · obtain ⟨x, hx⟩ := Option.isSome_iff_exists.mp a
      rw [if_pos e, e, hx, Option.map_some, if_pos rfl]
    · rw [if_neg e]
      cases valV kvs j with
      | none => rfl
      | some x => rw [Option.map_some, if_neg e]
  · rw [if_neg a]
    refine valV_snoc k j y kvs ?_
    rw [valV_any] at a
    cases q : valV kvs k with
    | none => rfl
    | some x => rw [q] at a; exact (a rfl).elim
theorem length_putK (kvs : List (κ × V)) (k : κ) (v : V) : (putK kvs k v).length ≤ kvs.length + 1 := by
  unfold putK
  split
  · rw [List.length_map]; omega
  · rw [List.length_append, List.length_cons, List.length_nil]; omega
theorem putK_new {kvs : List (κ × V)} {k : κ} (v : V) (h : valV kvs k = none) : putK kvs k v = kvs ++ [(k, v)] := by
  unfold putK
  rw [valV_any, h]
  exact if_neg (by decide)

theorem RelO.isSome_eq {o : Option V} {u : Option Value} (r : RelO o u) : o.isSome = u.isSome := by
  cases o with
  | none => cases u with
    | none => rfl
    | some _ => exact (show False from r).elim
  | some _ => cases u with
    | none => exact (show False from r).elim
    | some _ => rfl
theorem RelO.getD {o : Option V} {u : Option Value} {d : V} {d' : Value} (r : RelO o u) (rd : RelV d d') : RelV (o.getD d) (u.getD d') := by
  cases o with
  | none => cases u with
    | none => exact rd
    | some _ => exact (show False from r).elim
  | some _ => cases u with
    | none => exact (show False from r).elim
    | some _ => exact r

/-- raw tables of the same keys -/
theorem KV.val {kvs : List (κ × V)} {vs : List (κ × Value)} (r : KV kvs vs) (k : κ) : RelO (valV kvs k) (valueAt vs k) := by
  unfold KV at r
  induction r with
  | nil => exact True.intro
  | @cons p q ps qs h t ih =>
    obtain ⟨h1, h2⟩ := h
    by_cases e : p.1 = k
    · have e' : q.1 = k := h1.symm.trans e
      have b : valueAt (q :: qs) k = some q.2 := by simp [valueAt, List.find?_cons, e']
      rw [valV_pos e, b]; exact h2
    · have e' : ¬ q.1 = k := fun z => e (h1.trans z)
      have b : valueAt (q :: qs) k = valueAt qs k := by simp [valueAt, List.find?_cons, e']
      rw [valV_neg e, b]; exact ih
theorem KV.any {kvs : List (κ × V)} {vs : List (κ × Value)} (r : KV kvs vs) (k : κ) : (kvs.any fun kv => decide (kv.1 = k)) = vs.any fun kv => decide (kv.1 = k) := by
  unfold KV at r
  induction r with
  | nil => rfl
  | cons h t ih => rw [List.any_cons, List.any_cons, ih, h.1]
theorem KV.repl {kvs : List (κ × V)} {vs : List (κ × Value)} (r : KV kvs vs) (k : κ) {y : V} {u : Value} (ry : RelV y u) :
    KV (kvs.map fun kv => if kv.1 = k then (kv.1, y) else kv) (vs.map fun kv => if kv.1 = k then (kv.1, u) else kv) := by
  unfold KV at r ⊢
  induction r with
  | nil => exact .nil
  | @cons p q ps qs h t ih =>
    rw [List.map_cons, List.map_cons]
    refine .cons ?_ ih
    obtain ⟨h1, h2⟩ := h
    by_cases e : p.1 = k
    · rw [if_pos e, if_pos (h1.symm.trans e)]; exact ⟨h1, ry⟩
    · rw [if_neg e, if_neg (fun z => e (h1.trans z))]; exact ⟨h1, h2⟩
theorem KV.put {kvs : List (κ × V)} {vs : List (κ × Value)} (r : KV kvs vs) (k : κ) {y : V} {u : Value} (ry : RelV y u) : KV (putK kvs k y) (stored vs k u) := by
  unfold putK stored
  rw [r.any k]
  by_cases e : (vs.any fun kv => decide (kv.1 = k)) = true
  · rw [if_pos e, if_pos e]; exact r.repl k ry
  · rw [if_neg e, if_neg e]; exact Paired.snoc r ⟨rfl, ry⟩
theorem KV.drop {kvs : List (κ × V)} {vs : List (κ × Value)} (r : KV kvs vs) (k : κ) : KV (dropK kvs k) (without vs k) := by
  unfold KV at r ⊢
  unfold dropK without
  induction r with
  | nil => exact .nil
  | @cons p q ps qs h t ih =>
    obtain ⟨h1, h2⟩ := h
    rw [List.filter_cons, List.filter_cons]
    by_cases e : p.1 = k
    · have a : ¬ decide (p.1 ≠ k) = true := by simp [e]
      have b : ¬ decide (q.1 ≠ k) = true := by simp [h1.symm.trans e]
      rw [if_neg a, if_neg b]; exact ih
    · have e' : ¬ q.1 = k := fun z => e (h1.trans z)
      have a : decide (p.1 ≠ k) = true := by simp [e]
      have b : decide (q.1 ≠ k) = true := by simp [e']
      rw [if_pos a, if_pos b]; exact .cons ⟨h1, h2⟩ ih
theorem KV.keys {kvs : List (κ × V)} {vs : List (κ × Value)} (r : KV kvs vs) : kvs.map (·.1) = vs.map (·.1) := by
  unfold KV at r
  induction r with
  | nil => rfl
  | cons h t ih => rw [List.map_cons, List.map_cons, ih, h.1]
theorem KV.length {kvs : List (κ × V)} {vs : List (κ × Value)} (r : KV kvs vs) : kvs.length = vs.length := Paired.length r
end


/-! ### a tracked dict, its keys ints and texts or tuples of these -/
theorem kV_is {P : Program} {w : World} {k : Key} {u : Value} (r : RelV (kV k) u) : (mixKind P w).is k u = true := by
  cases k with
  | inl i => obtain ⟨t, e⟩ := (show ∃ t, u = Value.int i t from r); subst e; exact mixKind_int P w i t
  | inr x => obtain ⟨t, e⟩ := (show ∃ t, u = Value.str x t from r); subst e; exact mixKind_str P w x t
theorem items_are {P : Program} {w : World} : ∀ {ks : List Key} {us : List Value}, Vals (ks.map kV) us → ItemsAre (mixKind P w) ks us
  | [], _, r => by rw [List.map_nil] at r; cases r; exact .nil
  | k :: ks, _, r => by
    rw [List.map_cons] at r
    cases r with
    | cons h t => exact .cons (kV_is h) (items_are t)

/-- raw entries of a dict with tuple keys -/
abbrev KT (H : Hp) : List (List Key × V) → List (List Key × Addr × Value) → Prop := Paired fun p q => p.1 = q.1 ∧ H q.2.1 = some (.tup (p.1.map kV)) ∧ RelV p.2 q.2.2
theorem KT.val {H : Hp} {kvs : List (List Key × V)} {xs : List (List Key × Addr × Value)} (r : KT H kvs xs) (k : List Key) : RelO (valV kvs k) ((atKey xs k).map (·.2)) := by
  induction r with
  | nil => exact True.intro
  | @cons p q ps qs h t ih =>
    obtain ⟨h1, _, h2⟩ := h
    by_cases e : p.1 = k
    · have e' : q.1 = k := h1.symm.trans e
      have b : atKey (q :: qs) k = some q.2 := by simp [atKey, List.find?_cons, e']
      rw [valV_pos e, b]; exact h2
    · have e' : ¬ q.1 = k := fun z => e (h1.trans z)
      have b : atKey (q :: qs) k = atKey qs k := by simp [atKey, List.find?_cons, e']
      rw [valV_neg e, b]; exact ih
theorem KT.repl {H : Hp} {kvs : List (List Key × V)} {xs : List (List Key × Addr × Value)} (r : KT H kvs xs) (k : List Key) {y : V} {u : Value} (ry : RelV y u) :
    KT H (kvs.map fun kv => if kv.1 = k then (kv.1, y) else kv) (xs.map (putAt k u)) := by
  induction r with
  | nil => exact .nil
  | @cons p q ps qs h t ih =>
    rw [List.map_cons, List.map_cons]
    refine .cons ?_ ih
    obtain ⟨h1, h2, h3⟩ := h
    unfold putAt
    by_cases e : p.1 = k
    · rw [if_pos e, if_pos (h1.symm.trans e)]; exact ⟨h1, h2, ry⟩
    · rw [if_neg e, if_neg (fun z => e (h1.trans z))]; exact ⟨h1, h2, h3⟩
theorem KT.put {H : Hp} {kvs : List (List Key × V)} {xs : List (List Key × Addr × Value)} (r : KT H kvs xs) (k : List Key) {b : Addr} {y : V} {u : Value} (hb : H b = some (.tup (k.map kV))) (ry : RelV y u) :
    KT H (putK kvs k y) (storedH xs k b u) := by
  have e : (kvs.any fun kv => decide (kv.1 = k)) = (atKey xs k).isSome := by
    rw [valV_any, (r.val k).isSome_eq, Option.isSome_map]
  unfold putK storedH
  rw [e]
  by_cases q : (atKey xs k).isSome = true
  · rw [if_pos q, if_pos q]; exact r.repl k ry
  · rw [if_neg q, if_neg q]; exact Paired.snoc r ⟨rfl, hb, ry⟩
theorem KT.keeps {H H' : Hp} {kvs : List (List Key × V)} {xs : List (List Key × Addr × Value)} (r : KT H kvs xs) (ht : ∀ b ys, H b = some (.tup ys) → H' b = some (.tup ys)) : KT H' kvs xs :=
  Paired.mapP r fun _ _ z => ⟨z.1, ht _ _ z.2.1, z.2.2⟩

section
variable {P : Program} {w : World} {H : Hp} {h : Heap} {a : Addr}
theorem rd_of {u : HO} (ok : HOk P w H h) (e : Rd H a u) : ObjOk P w H h a u := e.ok ok
theorem dk_rd {kvs : List (Key × V)} (ok : HOk P w H h) (e : Rd H a (.dK kvs)) : kvs.length ≤ sizeLine ∧ (a == sysModules) = false ∧ ∃ vs, KV kvs vs ∧ h.DictOf (mixKind P w) a vs :=
  show ObjOk P w H h a (.dK kvs) from rd_of ok e
theorem dk_of {kvs : List (Key × V)} (ok : HOk P w H h) (e : H a = some (.dK kvs)) : kvs.length ≤ sizeLine ∧ (a == sysModules) = false ∧ ∃ vs, KV kvs vs ∧ h.DictOf (mixKind P w) a vs := dk_rd ok (.inl e)
/-- a tracked tuple of ints and texts is a key -/
theorem key_of {ks : List Key} (ok : HOk P w H h) (e : H a = some (.tup (ks.map kV))) : (tupleKind (mixKind P w)).is h ks a := by
  obtain ⟨_, its, r, o, h1, h2, n, h3, _⟩ := (show ObjOk P w H h a (.tup (ks.map kV)) from ok a _ e)
  exact ⟨o, its.toArray, n, h1, h2, h3, by simpa using items_are r⟩
theorem dt_rd {kvs : List (List Key × V)} (ok : HOk P w H h) (e : Rd H a (.dT kvs)) : kvs.length ≤ sizeLine ∧ (a == sysModules) = false ∧
    ∃ xs, KT H kvs xs ∧ h.DictOfH (tupleKind (mixKind P w)) a xs := by
  obtain ⟨z, y, xs, r, o, es, ep, h1, h2, h3, h4, h5⟩ := (show ObjOk P w H h a (.dT kvs) from rd_of ok e)
  refine ⟨z, y, xs, r, o, es, ep, h1, h2, h3, h4, fun x hx => ?_, h5⟩
  have all : ∀ {l : List (List Key × V)} {m : List (List Key × Addr × Value)}, KT H l m → ∀ x ∈ m, (tupleKind (mixKind P w)).is h x.1 x.2.1 := by
    intro l m q
    induction q with
    | nil => intro x hx; exact nomatch hx
    | @cons p q ps qs hq t ih =>
      intro x hx
      rcases List.mem_cons.mp hx with e | hx
      · subst e
        exact key_of ok (by rw [← hq.1]; exact hq.2.1)
      · exact ih x hx
  exact all r x hx
theorem dt_of {kvs : List (List Key × V)} (ok : HOk P w H h) (e : H a = some (.dT kvs)) : kvs.length ≤ sizeLine ∧ (a == sysModules) = false ∧
    ∃ xs, KT H kvs xs ∧ h.DictOfH (tupleKind (mixKind P w)) a xs := dt_rd ok (.inl e)
end

/-- what the dict at a holds at the key y -/
def DGet (H : Hp) (a : Addr) (y : V) (r : Option V) : Prop :=
  (∃ kvs k, Rd H a (.dK kvs) ∧ y = kV k ∧ r = valV kvs k) ∨ ∃ kvs k b, Rd H a (.dT kvs) ∧ y = .ref b ∧ H b = some (.tup (k.map kV)) ∧ r = valV kvs k
/-- the heap behind a[y] = v -/
def DPut (H : Hp) (a : Addr) (y v : V) (H' : Hp) : Prop :=
  (∃ kvs k, H a = some (.dK kvs) ∧ y = kV k ∧ kvs.length < sizeLine ∧ H' = upd H a (.dK (putK kvs k v))) ∨
  ∃ kvs k b, H a = some (.dT kvs) ∧ y = .ref b ∧ H b = some (.tup (k.map kV)) ∧ kvs.length < sizeLine ∧ H' = upd H a (.dT (putK kvs k v))
theorem DGet.k {H : Hp} {a : Addr} {kvs : List (Key × V)} {k : Key} (e : H a = some (.dK kvs)) : DGet H a (kV k) (valV kvs k) := .inl ⟨kvs, k, .inl e, rfl, rfl⟩
theorem DGet.t {H : Hp} {a b : Addr} {kvs : List (List Key × V)} {k : List Key} (e : H a = some (.dT kvs)) (eb : H b = some (.tup (k.map kV))) : DGet H a (.ref b) (valV kvs k) := .inr ⟨kvs, k, b, .inl e, rfl, eb, rfl⟩
theorem DPut.k {H : Hp} {a : Addr} {kvs : List (Key × V)} {k : Key} {v : V} (e : H a = some (.dK kvs)) (hl : kvs.length < sizeLine) : DPut H a (kV k) v (upd H a (.dK (putK kvs k v))) := .inl ⟨kvs, k, e, rfl, hl, rfl⟩
theorem DPut.t {H : Hp} {a b : Addr} {kvs : List (List Key × V)} {k : List Key} {v : V} (e : H a = some (.dT kvs)) (eb : H b = some (.tup (k.map kV))) (hl : kvs.length < sizeLine) :
    DPut H a (.ref b) v (upd H a (.dT (putK kvs k v))) := .inr ⟨kvs, k, b, e, rfl, eb, hl, rfl⟩


section
variable {X : Cx} {pins : List (Addr × Obj)} {σ : St} {H : Hp} {s : Shared} {a : Addr} {y v : V} {u r : Value} {o : Option V} {A : Around} {E : Value → Shared → Prop}

theorem Inv.big (I : Inv X pins σ H s) : sysModules < s.heap.objs.size := by
  have h : mainGlobals < s.heap.objs.size := (I.mod.glob.keeps I.bk).lt
  exact Nat.lt_trans (by decide) h

/-- d[y], there -/
theorem d_getItem {Q : Value → Shared → Prop} (hu : A.units + 1 < cLine) (I : Inv X pins σ H s) (g : DGet H a y (some v)) (ry : RelV y u) (h : ∀ w' s', Inv X pins σ H s' → RelV v w' → Q w' s') :
    wpAny (model X.prog X.w) A (getItem (.ref a) u) Q E s := by
  rcases g with ⟨kvs, k, e, ey, l⟩ | ⟨kvs, k, b, e, ey, eb, l⟩
  · subst ey
    obtain ⟨z, hd, vs, rel, dd⟩ := dk_rd I.hok e
    obtain ⟨w', hw, rw'⟩ := RelO.some_of (v := v) (o := valueAt vs k) (by rw [l]; exact rel.val k)
    exact wpAny_getItem_of (kV_is ry) dd.mapOf hw (h w' _ (I.tok _) rw')
  · subst ey
    cases (show u = Value.ref b from ry)
    obtain ⟨z, hd, xs, rel, dd⟩ := dt_rd I.hok e
    obtain ⟨w', hw, rw'⟩ := RelO.some_of (v := v) (o := (atKey xs k).map (·.2)) (by rw [l]; exact rel.val k)
    obtain ⟨p, hp, hp2⟩ := Option.map_eq_some_iff.mp hw
    refine wpAny_getItem_heap (tupleKind_room_in1 hu) (key_of I.hok eb) dd hp ?_
    rw [hp2]
    exact h w' _ (I.tok _) rw'
/-- y in d -/
theorem d_in {Q : Value → Shared → Prop} (hu : A.units + 1 < cLine) (I : Inv X pins σ H s) (g : DGet H a y o) (ry : RelV y u) (h : ∀ s', Inv X pins σ H s' → Q (.bool o.isSome) s') :
    wpAny (model X.prog X.w) A (compareOp .In u (.ref a)) Q E s := by
  rcases g with ⟨kvs, k, e, ey, l⟩ | ⟨kvs, k, b, e, ey, eb, l⟩
  · subst ey
    obtain ⟨z, hd, vs, rel, dd⟩ := dk_rd I.hok e
    refine wpAny_in_of (kV_is ry) hd dd.mapOf ?_
    rw [← (rel.val k).isSome_eq, ← l]
    exact h _ (I.tok _)
  · subst ey
    cases (show u = Value.ref b from ry)
    obtain ⟨z, hd, xs, rel, dd⟩ := dt_rd I.hok e
    refine wpAny_in_heap (tupleKind_room_in1 hu) (key_of I.hok eb) hd dd ?_
    have q := (rel.val k).isSome_eq
    rw [Option.isSome_map] at q
    rw [← q, ← l]
    exact h _ (I.tok _)
/-- a dict's object is replaced -/
theorem d_write {h' : Heap} {t' : Nat} {ob : HO} (I : Inv X pins σ H s) (mu : Mut (H a)) (hs : Heap.SameBut a s.heap h') (he : ∃ q, h'.get? a = some q) (new : ObjOk X.prog X.w (upd H a ob) h' a ob) :
    Inv X pins σ (upd H a ob) { s with heap := h', toks := t' } :=
  I.write (x := a) (e := a) mu (.inl rfl) (fun b q hb z => (hs.2 b hb).trans z) he new
theorem dk_new {P : Program} {w : World} {H' : Hp} {h' : Heap} {kvs : List (Key × V)} {vs : List (Key × Value)} (z : kvs.length ≤ sizeLine) (hd : (a == sysModules) = false) (rel : KV kvs vs) (dd : h'.DictOf (mixKind P w) a vs) :
    ObjOk P w H' h' a (.dK kvs) := ⟨z, hd, vs, rel, dd⟩
/-- d[y] = v -/
theorem d_setItem {H' : Hp} {Q : Unit → Shared → Prop} (hu : A.units + 1 < cLine) (I : Inv X pins σ H s) (g : DPut H a y v H') (ry : RelV y u) (rv : RelV v r) (h : ∀ s', Inv X pins σ H' s' → Q () s') :
    wpAny (model X.prog X.w) A (setItem (.ref a) u r) Q E s := by
  rcases g with ⟨kvs, k, e, ey, l, eH⟩ | ⟨kvs, k, b, e, ey, eb, l, eH⟩
  · subst ey eH
    obtain ⟨z, hd, vs, rel, dd⟩ := dk_of I.hok e
    have hz : vs.length ≤ sizeLine := by rw [← rel.length]; exact z
    have hl : (putK kvs k v).length ≤ sizeLine := by have := length_putK kvs k v; omega
    refine wpAny_setItem_pairs (hsz := hz) (kV_is ry) dd fun h' dd' hs => h _ ?_
    have he : ∃ q, h'.get? a = some q := let ⟨q, _, _, hq, _⟩ := dd'; ⟨q, hq⟩
    exact d_write I (by rw [e]; exact True.intro) hs he (dk_new hl hd (rel.put k rv) dd')
  · subst ey eH
    cases (show u = Value.ref b from ry)
    obtain ⟨z, hd, xs, rel, dd⟩ := dt_of I.hok e
    have hz : xs.length ≤ sizeLine := by rw [← Paired.length rel]; exact z
    have hl : (putK kvs k v).length ≤ sizeLine := by have := length_putK kvs k v; omega
    refine wpAny_setItem_heap (hsz := hz) (tupleKind_room_in1 hu) (key_of I.hok eb) dd fun h' dd' hs => h _ ?_
    obtain ⟨q, es, ep, hq, h2, h3, h4, _, h5⟩ := dd'
    refine d_write I (by rw [e]; exact True.intro) hs ⟨q, hq⟩ ⟨hl, hd, _, (rel.put k eb rv).keeps fun c ys ec => ?_, q, es, ep, hq, h2, h3, h4, h5⟩
    rw [upd_ne (ne_of ec e (fun z => nomatch z))]
    exact ec
end

section
variable {X : Cx} {pins : List (Addr × Obj)} {σ : St} {H : Hp} {s : Shared} {a : Addr} {kvs : List (Key × V)} {k : Key} {u : Value} {A : Around} {E : Value → Shared → Prop}
end


/-! ### readings and rules -/
/-- the element of a subscription, not a slice -/
def NoSl (i : Expr) : Prop := ∀ ov iv, subscripted i false ov iv = operate [ov, iv] (getItem ov iv)
theorem subD_of {prog : Program} {w : World} {A : Around} {E : Value → Shared → Prop} {s : Shared} {env : Env} {value slice : Expr} {pos : Pos} {T id : String} {Q : Value → Shared → Prop}
    (hl : typeLookup (.type T) "__getitem__" = pure (some (.builtin id))) (hs : NoSl slice)
    (h : wpAny (model prog w) A (eval value env) (fun o s₁ => wpAny (model prog w) A (eval slice env) (fun i s₂ => s₂.TypeIs o T ∧ wpAny (model prog w) A (getItem o i) Q E s₂) E s₁) E s) :
    wpAny (model prog w) A (eval (.Subscript value slice pos) env) Q E s := by
  refine Subscript_ (wpAny_mono h (fun o s₁ h₁ => wpAny_mono h₁ (fun i s₂ h₂ => ?_) fun _ _ x => x) fun _ _ x => x)
  obtain ⟨hT, h₂⟩ := h₂
  unfold subscriptTail
  refine wpAny_bind ?_
  rw [getitemInPython_of_ne hT.not_modules]
  refine wpAny_bind (wpAny_specialOf hT hl ?_)
  have fin : wpAny (model prog w) A (subscripted slice false o i) (fun r s₃ => wpAny (model prog w) A (letTemporaryGo value o r >>= fun _ => pure r) Q E s₃) E s₂ := by
    rw [hs o i]
    exact wpAny_operating (wpAny_mono h₂ (fun r s₃ h₃ => wpAny_bind (wpAny_letTemporaryGo (wpAny_pure h₃))) fun _ _ x => x)
  first
    | exact wpAny_pure (wpAny_bind fin)
    | exact wpAny_bind (wpAny_pure (wpAny_bind fin))
    | exact wpAny_bind fin

theorem dict_typeIs {X : Cx} {pins : List (Addr × Obj)} {σ : St} {H : Hp} {s : Shared} {a : Addr} {y : V} {o : Option V} (I : Inv X pins σ H s) (g : DGet H a y o) : s.TypeIs (.ref a) "dict" := by
  rcases g with ⟨kvs, k, e, _, _⟩ | ⟨kvs, k, b, e, _, _, _⟩
  · obtain ⟨_, _, vs, _, dd⟩ := dk_rd I.hok e
    exact dd.typeIs
  · obtain ⟨_, _, xs, _, dd⟩ := dt_rd I.hok e
    exact dd.typeIs
/-- d[y] -/
def tDGet (td ty : TE) : TE := fun σ H Q => td σ H fun x H1 => ty σ H1 fun y H2 => ∃ a v, x = .ref a ∧ DGet H2 a y (some v) ∧ Q v H2
/-- y in d, y not in d -/
def tDIn (ty td : TE) : TE := fun σ H Q => ty σ H fun y H1 => td σ H1 fun x H2 => ∃ a o, x = .ref a ∧ DGet H2 a y o ∧ Q (.bl o.isSome) H2
/-- d[y] = v -/
def sDPut (td ty tv : TE) : TS := fun D σ H => tv σ H fun v H1 => td σ H1 fun x H2 => ty σ H2 fun y H3 => ∃ a H4, x = .ref a ∧ DPut H3 a y v H4 ∧ D.nx σ H4
section
variable {X : Cx} {o i e value : Expr} {pos pos' tpos : Pos} {td ty tv : TE}
theorem pe_dget (hu : X.A.units + 1 < cLine) (ho : PE X o td) (hi : PE X i ty) (hs : NoSl i) : PE X (.Subscript o i pos) (tDGet td ty) := by
  intro pins s σ H Q I h
  refine subD_of PySem.F.slot_dict_getitem.lookup hs (thn (ho pins s σ H _ I h) fun u s1 ⟨x, H1, I1, rx, q1⟩ => thn (hi pins s1 σ H1 _ I1 q1) fun iv s2 ⟨y, H2, I2, ry, a, v, ex, g, q2⟩ => ?_)
  subst ex
  obtain rfl : u = Value.ref a := rx
  exact ⟨dict_typeIs I2 g, d_getItem hu I2 g ry fun w' s3 I3 rw' => ⟨v, H2, I3, rw', q2⟩⟩
theorem pc_din (hu : X.A.units + 1 < cLine) (hi : PE X i ty) (ho : PE X o td) : PC X .In i o (tDIn ty td) := by
  intro pins s σ H Q I h
  refine thn (hi pins s σ H _ I h) fun iv s1 ⟨y, H1, I1, ry, q1⟩ => thn (ho pins s1 σ H1 _ I1 q1) fun u s2 ⟨x, H2, I2, rx, a, ov, ex, g, q2⟩ => ?_
  subst ex
  obtain rfl : u = Value.ref a := rx
  exact d_in hu I2 g ry fun s3 I3 => ⟨.bl ov.isSome, H2, I3, rfl, q2⟩
theorem ps_dput (hu : X.A.units + 1 < cLine) (ho : PE X o td) (hi : PE X i ty) (hv : PE X value tv) (hs : swapsWith value (some (.Subscript o i pos')) pos.line X.env = pure false) :
    PS X (.Assign [.Subscript o i pos'] value pos) (sDPut td ty tv) := by
  intro pins s σ H D I h
  refine wpAny_Assign_Subscript (thn (hv pins s σ H _ I h) fun r s1 ⟨v, H1, I1, rv, q1⟩ => thn (ho pins s1 σ H1 _ I1 q1) fun u s2 ⟨x, H2, I2, rx, q2⟩ => thn (hi pins s2 σ H2 _ I2 q2) fun iv s3 ⟨y, H3, I3, ry, a, H4, ex, g, q3⟩ => ?_) hs
  subst ex
  obtain rfl : u = Value.ref a := rx
  exact d_setItem hu I3 g ry rv fun s4 I4 => ⟨σ, H4, I4, q3⟩
end


/-! ### displays -/
theorem dk_empty {P : Program} {w : World} {H : Hp} (h : Heap) (hb : sysModules < h.objs.size) : ObjOk P w H (h.push { cls := .type "dict", data := .dict #[] }) h.objs.size (.dK []) :=
  ⟨Nat.zero_le _, beq_eq_false_iff_ne.mpr (Ne.symm (Nat.ne_of_lt hb)), [], .nil, Heap.DictOf.new h⟩
/-- {}, to be a dict of the kind that is wanted -/
def tDNewK : TE := fun _ H Q => ∀ p, H p = none → Q (.ref p) (upd H p (.dK []))
section
variable {X : Cx} {pos : Pos}
theorem pe_dnewK : PE X (.Dict [] [] pos) tDNewK := fun pins s σ H Q I h =>
  wpAny_Dict_empty ⟨.ref s.heap.objs.size, _, I.laid (a := s.heap.objs.size) (o := .dK []) (t' := s.toks) (fun _ _ q => Heap.get?_push_of_some _ q) (Nat.le_refl _) (dk_empty s.heap I.big), rfl, h _ (I.hok.fresh (Nat.le_refl _))⟩
end

/-- the pairs of a display, from the left -/
def tPairs : List (TE × TE) → St → Hp → (List (V × V) → Hp → Prop) → Prop
  | [], _, H, Q => Q [] H
  | (tk, tv) :: r, σ, H, Q => tk σ H fun x H1 => tv σ H1 fun y H2 => tPairs r σ H2 fun ps H3 => Q ((x, y) :: ps) H3
abbrev VV : List (V × V) → List (Value × Value) → Prop := Paired fun p q => RelV p.1 q.1 ∧ RelV p.2 q.2
def PPs (X : Cx) (pos : Pos) (keys : List (Option Expr)) (values : List Expr) (trs : List (TE × TE)) : Prop :=
  ∀ (pins : List (Addr × Obj)) (s : Shared) (σ : St) (H : Hp) (Q : List (V × V) → Hp → Prop), Inv X pins σ H s → tPairs trs σ H Q →
    wpAny (model X.prog X.w) X.A (evalPairs (pairTrees keys values X.env pos)) (fun vs s' => ∃ ps H', Inv X pins σ H' s' ∧ VV ps vs ∧ Q ps H') X.xe s
theorem pps_nil {X : Cx} {pos : Pos} : PPs X pos [] [] [] := fun pins s σ H Q I h => pairTrees_nil_walk ⟨[], H, I, .nil, h⟩
theorem pps_cons {X : Cx} {pos : Pos} {k v : Expr} {ks : List (Option Expr)} {vs : List Expr} {tk tv : TE} {trs : List (TE × TE)} (hk : PE X k tk) (hv : PE X v tv) (hr : PPs X pos ks vs trs) :
    PPs X pos (some k :: ks) (v :: vs) ((tk, tv) :: trs) := fun pins s σ H Q I h =>
  pairTrees_cons_walk (thn (hk pins s σ H _ I h) fun u s1 ⟨x, H1, I1, rx, q1⟩ => thn (hv pins s1 σ H1 _ I1 q1) fun w2 s2 ⟨y, H2, I2, ry, q2⟩ =>
    thn (hr pins s2 σ H2 _ I2 q2) fun ws s3 ⟨ps, H3, I3, rel, q3⟩ => ⟨(x, y) :: ps, H3, I3, .cons ⟨rx, ry⟩ rel, q3⟩)

def mergeK (kvs more : List (Key × V)) : List (Key × V) := more.foldl (fun acc kv => putK acc kv.1 kv.2) kvs
theorem KV.merge : ∀ {more : List (Key × V)} {rs : List (Key × Value)} {kvs : List (Key × V)} {vs : List (Key × Value)}, KV more rs → KV kvs vs → KV (mergeK kvs more) (merged vs rs) := by
  intro more rs kvs vs r
  unfold KV at r
  induction r generalizing kvs vs with
  | nil => intro q; exact q
  | @cons p q ps qs h t ih =>
    intro r0
    have e : KV (putK kvs p.1 p.2) (stored vs q.1 q.2) := by
      have := r0.put p.1 h.2
      rw [← h.1]; exact this
    exact ih e
theorem length_mergeK : ∀ (more kvs : List (Key × V)), (mergeK kvs more).length ≤ kvs.length + more.length
  | [], kvs => by show kvs.length ≤ kvs.length + 0; omega
  | p :: r, kvs => by
    have h1 := length_mergeK r (putK kvs p.1 p.2)
    have h2 := length_putK kvs p.1 p.2
    show (mergeK (putK kvs p.1 p.2) r).length ≤ _
    rw [List.length_cons]; omega
theorem carries_of {P : Program} {w : World} : ∀ {kvs : List (Key × V)} {ws : List (Value × Value)}, VV (kvs.map fun kv => (kV kv.1, kv.2)) ws → ∃ rs, Carries (mixKind P w) ws rs ∧ KV kvs rs
  | [], _, r => by rw [List.map_nil] at r; cases r; exact ⟨[], True.intro, .nil⟩
  | p :: kvs, _, r => by
    rw [List.map_cons] at r
    cases r with
    | @cons a b as bs h t =>
      obtain ⟨rs, c, q⟩ := carries_of (P := P) (w := w) t
      obtain ⟨b1, b2⟩ := b
      exact ⟨(p.1, b2) :: rs, ⟨kV_is h.1, rfl, c⟩, .cons ⟨rfl, h.2⟩ q⟩
/-- {k: v, ..} with keys ints and texts; the new dict stands empty while the pairs are made -/
def tDisp (trs : List (TE × TE)) : TE := fun σ H Q => ∀ p, H p = none → tPairs trs σ (upd H p (.dK [])) fun ps H2 => H2 p = some (.dK []) ∧ ∃ kvs : List (Key × V), ps = kvs.map (fun kv => (kV kv.1, kv.2)) ∧ kvs.length ≤ 15 ∧ Q (.ref p) (upd H2 p (.dK (mergeK [] kvs)))
theorem pe_disp {X : Cx} {pos : Pos} {keys : List (Option Expr)} {values : List Expr} {trs : List (TE × TE)} (h : PPs X pos keys values trs) (hall : keys.all (·.isSome) = true) (hl : keys.length = values.length) (h0 : keys ≠ [])
    (h15 : keys.length ≤ 15) : PE X (.Dict keys values pos) (tDisp trs) := by
  intro pins s σ H Q I q
  have hn := I.hok.fresh (Nat.le_refl s.heap.objs.size)
  have I1 := I.laid (a := s.heap.objs.size) (o := .dK []) (h' := s.heap.push { cls := .type "dict", data := .dict #[] }) (t' := s.toks) (fun _ _ q => Heap.get?_push_of_some _ q) (Nat.le_refl _) (dk_empty s.heap I.big)
  refine wpAny_Dict_walk (knd := mixKind X.prog X.w) hall hl h0 h15 (thn (h pins _ σ _ _ I1 (q _ hn)) fun ws s2 ⟨ps, H2, I2, rel, e, kvs, ep, lk, q2⟩ => ?_)
  subst ep
  obtain ⟨rs, c, rk⟩ := carries_of (P := X.prog) (w := X.w) rel
  obtain ⟨z, hd, vs0, r0, dd⟩ := dk_of I2.hok e
  cases r0
  refine ⟨rs, c, dd, fun h' dd' hs => ⟨.ref s.heap.objs.size, _, ?_, rfl, q2⟩⟩
  have hz : (mergeK [] kvs).length ≤ sizeLine := by
    have h1 := length_mergeK kvs []
    rw [List.length_nil] at h1
    rw [sizeLine_eq]; omega
  have he : ∃ q, h'.get? s.heap.objs.size = some q := let ⟨q, _, _, hq, _⟩ := dd'; ⟨q, hq⟩
  exact d_write I2 (by rw [e]; exact True.intro) hs he (dk_new hz hd (rk.merge .nil) dd')


/-! ### methods -/
/-- a method call o.m(e) of a built-in, with one argument: what must be seen of the text -/
structure M1 (X : Cx) (o : Expr) (m : Str) (apos : Pos) (e : Expr) (cpos : Pos) : Prop where
  base : attributeBase o m X.env (eval o X.env) = eval o X.env
  few : ((backTo cpos (starEach [e] X.env)).all (fun x => !x.1) && (backToKw cpos (keywordEach [] X.env)).all (fun x => x.1.isSome)
    && decide (([e] : List Expr).length + ([] : List Keyword).length + (if ([] : List Keyword).isEmpty then 0 else 1) < 30)) = true
  line : (apos.endLine == cpos.line) = true
  trees : backTo cpos (starEach [e] X.env) = [(false, eval e X.env)]
structure M2 (X : Cx) (o : Expr) (m : Str) (apos : Pos) (e f : Expr) (cpos : Pos) : Prop where
  base : attributeBase o m X.env (eval o X.env) = eval o X.env
  few : ((backTo cpos (starEach [e, f] X.env)).all (fun x => !x.1) && (backToKw cpos (keywordEach [] X.env)).all (fun x => x.1.isSome)
    && decide (([e, f] : List Expr).length + ([] : List Keyword).length + (if ([] : List Keyword).isEmpty then 0 else 1) < 30)) = true
  line : (apos.endLine == cpos.line) = true
  trees : backTo cpos (starEach [e, f] X.env) = [(false, eval e X.env), (false, eval f X.env)]

section
variable {X : Cx} {pins : List (Addr × Obj)} {σ : St} {H : Hp} {s : Shared} {a : Addr} {y d : V} {u r : Value} {o : Option V} {A : Around} {E : Value → Shared → Prop}
end

section
variable {X : Cx} {o e f : Expr} {apos cpos : Pos} {td ty tx : TE}
end

/-! ### dict(d): a copy -/
section
variable {X : Cx} {pins : List (Addr × Obj)} {σ : St} {H : Hp} {s : Shared} {a : Addr} {kvs : List (Key × V)} {A : Around} {E : Value → Shared → Prop}
end


section
variable {X : Cx} {pins : List (Addr × Obj)} {σ : St} {H : Hp} {s : Shared} {a : Addr} {y : V} {u : Value} {A : Around} {E : Value → Shared → Prop}
end
end L2

namespace HT
open PySem PyProof.Rows

section
open PySem.SeqAt
open PySem.AutoSeq1 (wpAny_loadPart')
open PySem.MeetsSeq PySem.MeetsSeq2 PySem.MeetsSeq3

end

section
variable {prog : Program} {w : World} {A : Around} {E : Value → Shared → Prop} {s : Shared}

/-- t + u, t not empty -/
theorem cat_tup {t b : Addr} {vs ws : List Value} {Q : Value → Shared → Prop} (ht : IsTup s.heap t vs.toArray) (hb : IsTup s.heap b ws.toArray) (hv : vs ≠ [])
    (h1 : ws = [] → Q (.ref t) s) (h2 : ws ≠ [] → Q (.ref s.heap.objs.size) { s with heap := s.heap.push { cls := .type "tuple", data := .seq (vs ++ ws).toArray } })
    (hsz : vs.length + ws.length ≤ sizeLine) : wpAny (model prog w) A (binaryOp .Add (.ref t) (.ref b)) Q E s := by
  obtain ⟨⟨cls, dd, data, sl⟩, ho, hc, n, hd⟩ := id ht
  obtain ⟨⟨cls2, dd2, data2, sl2⟩, ho2, hc2, n2, hd2⟩ := id hb
  simp only at hc hd hc2 hd2
  subst hc hd hc2 hd2
  have e : vs.toArray ++ ws.toArray = (vs ++ ws).toArray := by simp
  by_cases hw : ws = []
  · exact concat_meets ⟨_, ho, rfl⟩ ⟨_, ho2, rfl⟩ noFill_tuple_add seq_tuple_add PySem.F.slot_tuple_add PySem.F.entry_tuple_add (PySem.F.args_tuple_add_2 _ _)
      (tuple_addW1 t b vs.toArray ws.toArray n n2 dd dd2 sl sl2 (by simpa using hv) (by simp [hw])) ⟨ho, ho2, h1 hw⟩
  · refine concat_meets ⟨_, ho, rfl⟩ ⟨_, ho2, rfl⟩ noFill_tuple_add seq_tuple_add PySem.F.slot_tuple_add PySem.F.entry_tuple_add (PySem.F.args_tuple_add_2 _ _)
      (tuple_addW2 t b vs.toArray ws.toArray n n2 dd dd2 sl sl2 (by simpa using hv) (by simpa using hw) (by rw [List.size_toArray, List.size_toArray]; exact hsz)) ⟨ho, ho2, ?_⟩
    rw [e]
    exact h2 hw

/-! ### t[a:b], not the whole -/
/-- a slice's bound as a place among n (d where it is left out) -/
def sIx (n d : Nat) : Option Int → Nat
  | none => d
  | some v => if v < 0 then (v + (n : Int)).toNat else min v.toNat n
theorem sIx_nat (n d k : Nat) : sIx n d (some (k : Int)) = min k n := by
  show (if (k : Int) < 0 then ((k : Int) + (n : Int)).toNat else min (k : Int).toNat n) = min k n
  rw [if_neg (by omega), Int.toNat_natCast]
end
end HT

namespace L2
open PySem PySem.Spec PyProof.Rows

/-! ### the parts of a slice -/
abbrev TO := St → Hp → (Option Int → Hp → Prop) → Prop
/-- a slice's part (left out, or an int) -/
def PO (X : Cx) (e : Option Expr) (t : TO) : Prop :=
  ∀ (pins : List (Addr × Obj)) (s : Shared) (σ : St) (H : Hp) (Q : Option Int → Hp → Prop), Inv X pins σ H s → t σ H Q →
    wpAny (model X.prog X.w) X.A (evalPart e X.env) (fun u s' => ∃ o H', Inv X pins σ H' s' ∧ IsPart u o ∧ Q o H') X.xe s
def tNoPart : TO := fun _ H Q => Q none H
def tPart (t : TE) : TO := fun σ H Q => t σ H fun x H1 => ∃ i, x = .int i ∧ Q (some i) H1

section
variable {X : Cx} {e : Expr} {te : TE} {lo hi : Option Expr} {tl th : TO} {pos p2 : Pos}

theorem po_none : PO X none tNoPart := by
  intro pins s σ H Q I h
  rw [evalPart_none]
  exact wpAny_pure ⟨none, H, I, .none, h⟩
theorem po_some (h : PE X e te) : PO X (some e) (tPart te) := by
  intro pins s σ H Q I hw
  rw [evalPart_some]
  refine thn (h pins s σ H _ I hw) fun u s1 ⟨x, H1, I1, r1, q1⟩ => ?_
  obtain ⟨i, rfl, q⟩ := q1
  obtain ⟨t, rfl⟩ := r1
  exact ⟨some i, H1, I1, .int i t, q⟩

/-- what a slice of a value is, by values: the slice object stands at sl -/
def SlR (X : Cx) (r : V → Option Int → Option Int → Hp → VK → Prop) : Prop :=
  ∀ (pins : List (Addr × Obj)) (s : Shared) (σ : St) (H : Hp) (x : V) (v vl vu : Value) (lo hi : Option Int) (sl : Addr) (Q : VK), Inv X pins σ H s → RelV x v → s.heap.IsSliceOf sl vl vu .none → IsPart vl lo → IsPart vu hi → r x lo hi H Q →
    ∃ T id, typeLookup (.type T) "__getitem__" = pure (some (.builtin id)) ∧ s.TypeIs v T ∧ wpAny (model X.prog X.w) X.A (getItem v (.ref sl)) (EP X pins σ Q) X.xe s
theorem SlR.or {r r' : V → Option Int → Option Int → Hp → VK → Prop} (h : SlR X r) (h' : SlR X r') : SlR X (fun x lo hi H Q => r x lo hi H Q ∨ r' x lo hi H Q) := by
  intro pins s σ H x v vl vu lo hi sl Q I rx hs pl pu q
  rcases q with q | q
  · exact h pins s σ H x v vl vu lo hi sl Q I rx hs pl pu q
  · exact h' pins s σ H x v vl vu lo hi sl Q I rx hs pl pu q
def tSl (r : V → Option Int → Option Int → Hp → VK → Prop) (te : TE) (tl th : TO) : TE := fun σ H Q => te σ H fun x H1 => tl σ H1 fun l H2 => th σ H2 fun u H3 => r x l u H3 Q
/-- a[lo:hi], any a -/
theorem pe_slice {r : V → Option Int → Option Int → Hp → VK → Prop} (hr : SlR X r) (he : PE X e te) (hl : PO X lo tl) (hu : PO X hi th) : PE X (.Subscript e (.Slice lo hi none p2) pos) (tSl r te tl th) := by
  intro pins s σ H Q I h
  refine Subscript_ (thn (he pins s σ H _ I h) fun v s1 ⟨x, H1, I1, r1, q1⟩ => ?_)
  refine wpAny_Slice (thn (hl pins s1 σ H1 _ I1 q1) fun vl s2 ⟨l, H2, I2, pl, q2⟩ => thn (hu pins s2 σ H2 _ I2 q2) fun vu s3 ⟨u, H3, I3, pu, q3⟩ => ?_)
  rw [evalPart_none]
  refine wpAny_pure ?_
  have I4 : Inv X pins σ H3 { s3 with heap := s3.heap.push { cls := .type "slice", data := .fields #[vl, vu, .none] } } := I3.kept (t' := s3.toks) fun b ob q => Heap.get?_push_of_some _ q
  obtain ⟨T, id, hT, ht, hg⟩ := hr pins { s3 with heap := s3.heap.push { cls := .type "slice", data := .fields #[vl, vu, .none] } } σ H3 x v vl vu l u s3.heap.objs.size Q I4 r1 (Heap.IsSliceOf.new ..) pl pu q3
  show wpAny (model X.prog X.w) X.A (subscriptTail e (.Slice lo hi none p2) v (.ref s3.heap.objs.size)) (EP X pins σ Q) X.xe { s3 with heap := s3.heap.push { cls := .type "slice", data := .fields #[vl, vu, .none] } }
  exact tail_any (ops := [.ref s3.heap.objs.size, v]) ht hT hg (by with_unfolding_all rfl)

/-- the items of xs[lo:hi] -/
def cutV (xs : List V) (lo hi : Option Int) : List V := (xs.drop (HT.sIx xs.length 0 lo)).take (HT.sIx xs.length xs.length hi - HT.sIx xs.length 0 lo)
theorem cutV_length (xs : List V) (lo hi : Option Int) : (cutV xs lo hi).length ≤ xs.length := by
  unfold cutV
  rw [List.length_take, List.length_drop]
  omega
/-! ### t < u, t + u -/
/-- t + u, t not empty: u empty gives t itself -/
def rCatT (K : PySem.W.Frag) : R2 := fun x y H Q => ∃ a b xs ys, x = .ref a ∧ y = .ref b ∧ SqT K H a xs ∧ SqT K H b ys ∧ xs ≠ [] ∧ xs.length + ys.length ≤ sizeLine ∧
  (ys = [] → Q (.ref a) H) ∧ (ys ≠ [] → ∀ p, H p = none → Q (.ref p) (upd H p (.tup (xs ++ ys))))
theorem Vals.nil_iff {xs : List V} {us : List Value} (r : Vals xs us) : us = [] ↔ xs = [] := by
  cases r with
  | nil => simp
  | cons _ _ => simp
theorem op_catT : OpR X (binaryOp .Add) (rCatT X.K) := by
  intro pins s σ H x y v u Q I rx ry h
  obtain ⟨a, b, xs, ys, rfl, rfl, ha, hb, hx, hz, q1, q2⟩ := h
  cases rx
  cases ry
  obtain ⟨its, r1, p1, _⟩ := I.tuple ha
  obtain ⟨its2, r2, p2, _⟩ := I.tuple hb
  refine HT.cat_tup p1 p2 (fun z => hx (r1.nil_iff.mp z)) (fun z => ⟨.ref a, H, I, rfl, q1 (r2.nil_iff.mp z)⟩) (fun z => ?_) (by rw [← r1.length, ← r2.length]; exact hz)
  refine ⟨.ref s.heap.objs.size, _, I.laid (t' := s.toks) (o := .tup (xs ++ ys)) (fun b ob q => Heap.get?_push_of_some _ q) (Nat.le_refl _) ?_, rfl, q2 (fun w => z (r2.nil_iff.mpr w)) _ (I.hok.fresh (Nat.le_refl _))⟩
  exact ⟨by rw [List.length_append]; exact hz, _, r1.append r2, IsTupD.new _ _⟩
end
end L2

namespace L2
open PySem PySem.Spec PyProof.Rows

/-! ### places -/
/-- the place that an index of any sign means -/
def ixN (n : Nat) (i : Int) : Option Nat := if 0 ≤ i then (if i < n then some i.toNat else none) else if -(n : Int) ≤ i then some (i + n).toNat else none
def atI {α : Type} (xs : List α) (i : Int) : Option α := (ixN xs.length i).bind fun j => xs[j]?
theorem ixN_seq {n : Nat} {i : Int} {j : Nat} (h : ixN n i = some j) : seqIndex? i n = some j ∧ j < n ∧ -(n : Int) ≤ i ∧ i < n := by
  unfold ixN at h
  by_cases h0 : 0 ≤ i
  · rw [if_pos h0] at h
    by_cases h1 : i < n
    · rw [if_pos h1] at h
      have e : i.toNat = j := Option.some.inj h
      exact ⟨by rw [seqIndex_of h0 h1, e], by omega, by omega, h1⟩
    · rw [if_neg h1] at h; cases h
  · rw [if_neg h0] at h
    by_cases h1 : -(n : Int) ≤ i
    · rw [if_pos h1] at h
      have e : (i + n).toNat = j := Option.some.inj h
      exact ⟨by rw [seqIndex_neg (by omega) h1, e], by omega, h1, by omega⟩
    · rw [if_neg h1] at h; cases h
theorem atI_get {α : Type} {xs : List α} {i : Int} {v : α} (h : atI xs i = some v) : ∃ j, seqIndex? i xs.length = some j ∧ xs[j]? = some v ∧ j < xs.length ∧ -(xs.length : Int) ≤ i ∧ i < xs.length := by
  unfold atI at h
  cases e : ixN xs.length i with
  | none => rw [e] at h; cases h
  | some j =>
    rw [e] at h
    obtain ⟨h1, h2, h3, h4⟩ := ixN_seq e
    exact ⟨j, h1, h, h2, h3, h4⟩
theorem atI_nat {α : Type} {xs : List α} {j : Nat} {v : α} (h : xs[j]? = some v) : atI xs (j : Int) = some v := by
  have hj : j < xs.length := (List.getElem?_eq_some_iff.mp h).1
  have e : ixN xs.length (j : Int) = some j := by
    unfold ixN
    rw [if_pos (by omega), if_pos (by omega)]; simp
  unfold atI; rw [e]; exact h
/-! ### what may be subscripted -/
/-- what stands as an index of a plain subscript -/
def PlainIx (b : Expr) : Prop := ∀ o i, subscripted b false o i = operate [o, i] (getItem o i)
/-- a subscript by values -/
def IxR (X : Cx) (r : R2) : Prop :=
  ∀ (value slice : Expr) (pins : List (Addr × Obj)) (s : Shared) (σ : St) (H : Hp) (x y : V) (v u : Value) (Q : VK), Inv X pins σ H s → RelV x v → RelV y u → r x y H Q →
    subscripted slice false v u = operate [v, u] (getItem v u) → wpAny (model X.prog X.w) X.A (subscriptTail value slice v u) (EP X pins σ Q) X.xe s
/-- a call of a builtin's method by values: the receiver, the arguments -/
def MtR (X : Cx) (id : String) (r : V → List V → Hp → VK → Prop) : Prop :=
  ∀ (pins : List (Addr × Obj)) (s : Shared) (σ : St) (H : Hp) (x : V) (xs : List V) (v : Value) (us : List Value) (Q : VK), Inv X pins σ H s → RelV x v → Vals xs us → r x xs H Q →
    wpAny (model X.prog X.w) X.A (call (.builtin id) (v :: us)) (EP X pins σ Q) X.xe s
section
variable {X : Cx} {a b : Expr} {ta tb : TE} {pos : Pos}
theorem IxR.or {r r' : R2} (h : IxR X r) (h' : IxR X r') : IxR X (fun x y H Q => r x y H Q ∨ r' x y H Q) := by
  intro value slice pins s σ H x y v u Q I rx ry q hs
  rcases q with q | q
  · exact h value slice pins s σ H x y v u Q I rx ry q hs
  · exact h' value slice pins s σ H x y v u Q I rx ry q hs
theorem MtR.or {id : String} {r r' : V → List V → Hp → VK → Prop} (h : MtR X id r) (h' : MtR X id r') : MtR X id (fun x xs H Q => r x xs H Q ∨ r' x xs H Q) := by
  intro pins s σ H x xs v us Q I rx rs q
  rcases q with q | q
  · exact h pins s σ H x xs v us Q I rx rs q
  · exact h' pins s σ H x xs v us Q I rx rs q
/-- a[b] -/
theorem pe_ix {r : R2} (hr : IxR X r) (ha : PE X a ta) (hb : PE X b tb) (hs : PlainIx b) : PE X (.Subscript a b pos) (tOp r ta tb) := by
  intro pins s σ H Q I h
  exact Subscript_ (binT ha hb I h fun v u s2 x y H2 I2 rx ry q => hr a b pins s2 σ H2 x y v u Q I2 rx ry q (hs _ _))

def rIxL (K : PySem.W.Frag) : R2 := fun x y H Q => ∃ p xs i v, x = .ref p ∧ y = .int i ∧ SqL K H p xs ∧ atI xs i = some v ∧ Q v H
def rIxT (K : PySem.W.Frag) : R2 := fun x y H Q => ∃ p xs i v, x = .ref p ∧ y = .int i ∧ SqT K H p xs ∧ atI xs i = some v ∧ Q v H
def rIxS : R2 := fun x y H Q => ∃ z i c, x = .str z ∧ y = .int i ∧ z.length ≤ sizeLine ∧ atI z.cps.toList i = some c ∧ Q (.str ⟨#[c]⟩) H
theorem ix_list : IxR X (rIxL X.K) := by
  intro value slice pins s σ H x y v u Q I rx ry h hs
  obtain ⟨p, xs, i, z, rfl, rfl, hq, he, q⟩ := h
  cases rx
  obtain ⟨t, rfl⟩ := ry
  obtain ⟨its, r, pl, hz⟩ := I.list hq
  obtain ⟨j, h1, h2, h3, h4, h5⟩ := atI_get he
  obtain ⟨w, ew, rw'⟩ := r.get h2
  have hl := r.length
  have hn := line63
  have fin : EP X pins σ Q w s := ⟨z, H, I, rw', q⟩
  by_cases h0 : 0 ≤ i
  · have hj : i.toNat = j := by
      rw [seqIndex_of h0 h5] at h1
      exact Option.some.inj h1
    exact item_listR pl.isList h0 (by omega) (by rw [hj]; simpa using ew) fin hs
  · have hj : (i + (its.toArray.size : Int)).toNat = j := by
      rw [seqIndex_neg (by omega) h4] at h1
      rw [List.size_toArray, ← hl]
      exact Option.some.inj h1
    exact subscriptTail_builtinR (x := w) pl.isList.typeIs slot_list_getitem.lookup
      (wpAny_getItem_list_neg (Q := fun r s' => r = w ∧ EP X pins σ Q r s') pl.isList (by omega) (by rw [List.size_toArray] <;> omega) (by omega) (by rw [hj]; simpa using ew) ⟨rfl, fin⟩) hs
theorem ix_tup : IxR X (rIxT X.K) := by
  intro value slice pins s σ H x y v u Q I rx ry h hs
  obtain ⟨p, xs, i, z, rfl, rfl, hq, he, q⟩ := h
  cases rx
  obtain ⟨t, rfl⟩ := ry
  obtain ⟨its, r, pl, hz⟩ := I.tuple hq
  obtain ⟨j, h1, h2, h3, h4, h5⟩ := atI_get he
  obtain ⟨w, ew, rw'⟩ := r.get h2
  have hl := r.length
  have hn := line63
  have fin : EP X pins σ Q w s := ⟨z, H, I, rw', q⟩
  exact subscriptTail_builtinR (x := w) pl.typeIs slot_tuple_getitem.lookup
    (getItem_tuple (j := j) (Q := fun r s' => r = w ∧ EP X pins σ Q r s') pl (by omega) (by omega) (by rw [List.size_toArray, ← hl]; exact h1) (by simpa using ew) ⟨rfl, fin⟩) hs
theorem ix_str : IxR X rIxS := by
  intro value slice pins s σ H x y v u Q I rx ry h hs
  obtain ⟨z, i, c, rfl, rfl, hz, he, q⟩ := h
  obtain ⟨t, rfl⟩ := rx
  obtain ⟨t', rfl⟩ := ry
  obtain ⟨j, h1, h2, h3, h4, h5⟩ := atI_get he
  have hl : z.cps.toList.length = z.length := by simp [Str.length]
  rw [hl] at h1 h4 h5
  have hn := line63
  exact tail_any (typeIs_str s z t) slot_str_getitem.lookup (getItem_str (c := c) (by
    have e1 : decide (i < -(2 ^ 63 : Int)) = false := decide_eq_false (by omega)
    have e2 : decide (i ≥ 2 ^ 63) = false := decide_eq_false (by omega)
    rw [e1, e2, Bool.or_false]) (by rw [h1]; simpa using h2) ⟨.str ⟨#[c]⟩, H, I.tok _, ⟨_, rfl⟩, q⟩) hs
/-! ### xs[i] = v, any sign -/
/-- the list's object behind a store -/
theorem mapSeq_set (its : List Value) (n j : Nat) (u : Value) : Obj.mapSeq (·.setIfInBounds j u) { cls := .type "list", data := .seq its.toArray n } = { cls := .type "list", data := .seq (its.set j u).toArray n } := by
  simp [Obj.mapSeq]
theorem Inv.lst {pins : List (Addr × Obj)} {σ : St} {H : Hp} {s : Shared} {p : Addr} {xs : List V} (I : Inv X pins σ H s) (h : H p = some (.lst xs)) :
    ∃ (its : List Value) (n : Nat), Vals xs its ∧ s.heap.get? p = some { cls := .type "list", data := .seq its.toArray n } ∧ xs.length ≤ sizeLine := by
  obtain ⟨z, its, n, r, e⟩ := I.hok p _ h
  exact ⟨its, n, r, e, z⟩
/-- the list at p is written by an update of its object -/
theorem Inv.lstUpd {pins : List (Addr × Obj)} {σ : St} {H : Hp} {s : Shared} {p : Addr} {xs ys : List V} {its its' : List Value} {n n' : Nat} {f : Obj → Obj} (I : Inv X pins σ H s) (h : H p = some (.lst xs))
    (ho : s.heap.get? p = some { cls := .type "list", data := .seq its.toArray n }) (hf : f { cls := .type "list", data := .seq its.toArray n } = { cls := .type "list", data := .seq its'.toArray n' }) (r : Vals ys its') (hz : ys.length ≤ sizeLine) (t : Nat) :
    Inv X pins σ (upd H p (.lst ys)) { s with heap := s.heap.update p f, toks := t } := by
  have e : (s.heap.update p f).get? p = some { cls := .type "list", data := .seq its'.toArray n' } := by
    rw [Heap.get?_update_self f ho (by rw [hf] <;> rfl), hf]
  refine I.write (x := p) (e := p) (by rw [h]; trivial) (.inl rfl) (fun b u hb q => (Heap.get?_update_other _ _ (Ne.symm hb)).trans q) ⟨_, e⟩ ?_
  exact ⟨hz, its', n', r, e⟩
def rSetL : V → V → V → Hp → (Hp → Prop) → Prop := fun o i v H Q => ∃ p xs k j, o = .ref p ∧ i = .int k ∧ H p = some (.lst xs) ∧ ixN xs.length k = some j ∧ Q (upd H p (.lst (xs.set j v)))
theorem set_list : PSet X rSetL := by
  intro pins s σ H o i v ov iv u Q I ro ri rv h
  obtain ⟨p, xs, k, j, rfl, rfl, hp, hj, q⟩ := h
  cases ro
  obtain ⟨t, rfl⟩ := ri
  obtain ⟨its, n, r, ho, hz⟩ := I.lst hp
  obtain ⟨h1, h2, h3, h4⟩ := ixN_seq hj
  have hl := r.length
  have hn := line63
  have I' : Inv X pins σ (upd H p (.lst (xs.set j v))) { s with heap := s.heap.update p (Obj.mapSeq (·.setIfInBounds j u)) } :=
    I.lstUpd hp ho (mapSeq_set its n j u) (r.set rv j) (by rw [List.length_set]; exact hz) s.toks
  by_cases h0 : 0 ≤ k
  · have hk : k.toNat = j := by
      rw [seqIndex_of h0 h4] at h1
      exact Option.some.inj h1
    exact PySem.W.ki_setAt ho h0 (by omega) (by rw [List.size_toArray, ← hl]; exact h4) (by rw [hk]; exact ⟨_, I', q⟩)
  · have hk : (k + (its.toArray.size : Int)).toNat = j := by
      rw [seqIndex_neg (by omega) h3] at h1
      rw [List.size_toArray, ← hl]
      exact Option.some.inj h1
    exact PySem.W.ki_setBack ho (by omega) (by rw [List.size_toArray, ← hl]; exact h3) (by omega) (by rw [hk]; exact ⟨_, I', q⟩)

/-! ### slices -/
theorem slice_bounds (lo hi : Option Int) (n : Nat) : (sliceBounds lo hi none n).1 = ((HT.sIx n 0 lo : Nat) : Int) ∧ (sliceBounds lo hi none n).2.1 = ((HT.sIx n n hi : Nat) : Int) ∧ (sliceBounds lo hi none n).2.2 = 1 := by
  refine ⟨?_, ?_, rfl⟩
  · cases lo with
    | none => simp [sliceBounds, HT.sIx]
    | some i =>
      simp only [sliceBounds, HT.sIx, Option.getD_none, show (1 : Int) > 0 by decide, if_true]
      by_cases h : i < 0
      · simp only [h, if_true] <;> omega
      · simp only [h, if_false] <;> omega
  · cases hi with
    | none => simp [sliceBounds, HT.sIx]
    | some i =>
      simp only [sliceBounds, HT.sIx, Option.getD_none, show (1 : Int) > 0 by decide, if_true]
      by_cases h : i < 0
      · simp only [h, if_true] <;> omega
      · simp only [h, if_false] <;> omega
theorem slicePick_cut (its : List Value) (lo hi : Option Int) : slicePick its.toArray lo hi none = ((its.drop (HT.sIx its.length 0 lo)).take (HT.sIx its.length its.length hi - HT.sIx its.length 0 lo)).toArray := by
  obtain ⟨h1, h2, h3⟩ := slice_bounds lo hi its.toArray.size
  unfold slicePick
  rw [h1, h2, h3]
  simp only [sliceRange_one, pick_run, List.size_toArray] <;> rfl
/-- xs[lo:hi] of a list: a new list -/
def rSlL (K : PySem.W.Frag) : V → Option Int → Option Int → Hp → VK → Prop := fun x lo hi H Q => ∃ a xs, x = .ref a ∧ SqL K H a xs ∧ ∀ p, H p = none → Q (.ref p) (upd H p (.lst (cutV xs lo hi)))
theorem sl_list : SlR X (rSlL X.K) := by
  intro pins s σ H x v vl vu lo hi sl Q I rx hs pl pu h
  obtain ⟨a, xs, rfl, hx, q⟩ := h
  cases rx
  obtain ⟨its, r, ht, hz⟩ := I.list hx
  have hlen := r.length
  refine ⟨"list", _, slot_list_getitem.lookup, ht.isList.typeIs, ?_⟩
  refine wpAny_getItem_list_slice ht.isList hs pl pu .none (by simp) ?_ (by rw [List.size_toArray] <;> omega)
  rw [slicePick_cut, ← hlen]
  refine ⟨.ref s.heap.objs.size, _, I.laid (t' := s.toks) (o := .lst (cutV xs lo hi)) (fun b ob q => Heap.get?_push_of_some _ q) (Nat.le_refl _) ?_, rfl, q _ (I.hok.fresh (Nat.le_refl _))⟩
  exact ⟨Nat.le_trans (cutV_length xs lo hi) hz, _, 0, (r.drop (HT.sIx xs.length 0 lo)).take (HT.sIx xs.length xs.length hi - HT.sIx xs.length 0 lo), Heap.get?_push_size _ rfl⟩

/-! ### in, not in: flat items -/
def flatV : V → Bool
  | .non => true
  | .bl _ => true
  | .int _ => true
  | .str _ => true
  | _ => false
/-- == of flat values -/
def eqV : V → V → Bool
  | .non, .non => true
  | .bl a, .bl b => a == b
  | .bl a, .int b => (if a then 1 else 0) == b
  | .int a, .bl b => a == (if b then 1 else 0)
  | .int a, .int b => a == b
  | .str a, .str b => a == b
  | _, _ => false
theorem eqAt_V {A : Around} {s : Shared} {y x : V} {u v : Value} (ry : RelV y u) (rx : RelV x v) (fy : flatV y = true) (fx : flatV x = true) : SeqAt.EqAt A s u v (eqV y x) := by
  cases y with
  | non =>
    cases ry
    cases x with
    | non => cases rx; exact SeqAt.EqAt.same _
    | bl b => cases rx; exact SeqAt.EqAt.none_bool b
    | int b => obtain ⟨t, rfl⟩ := rx; exact SeqAt.EqAt.none_int b t
    | str b => obtain ⟨t, rfl⟩ := rx; exact SeqAt.EqAt.none_str b t
    | _ => exact absurd (show false = true from fx) Bool.false_ne_true
  | bl a =>
    cases ry
    cases x with
    | non => cases rx; exact SeqAt.EqAt.bool_none a
    | bl b => cases rx; exact SeqAt.EqAt.bool_bool a b
    | int b => obtain ⟨t, rfl⟩ := rx; exact SeqAt.EqAt.bool_int a b t
    | str b => obtain ⟨t, rfl⟩ := rx; exact SeqAt.EqAt.bool_str a b t
    | _ => exact absurd (show false = true from fx) Bool.false_ne_true
  | int a =>
    obtain ⟨t', rfl⟩ := ry
    cases x with
    | non => cases rx; exact SeqAt.EqAt.int_none a t'
    | bl b => cases rx; exact SeqAt.EqAt.int_bool a t' b
    | int b => obtain ⟨t, rfl⟩ := rx; exact SeqAt.EqAt.int_int a t' b t
    | str b => obtain ⟨t, rfl⟩ := rx; exact SeqAt.EqAt.int_str a t' b t
    | _ => exact absurd (show false = true from fx) Bool.false_ne_true
  | str a =>
    obtain ⟨t', rfl⟩ := ry
    cases x with
    | non => cases rx; exact SeqAt.EqAt.str_none a t'
    | bl b => cases rx; exact SeqAt.EqAt.str_bool a t' b
    | int b => obtain ⟨t, rfl⟩ := rx; exact SeqAt.EqAt.str_int a t' b t
    | str b => obtain ⟨t, rfl⟩ := rx; exact SeqAt.EqAt.str_str a t' b t
    | _ => exact absurd (show false = true from fx) Bool.false_ne_true
  | _ => exact absurd (show false = true from fy) Bool.false_ne_true
/-- the items' answers, read off the values (a value's own answer does not lean on its token) -/
def eqU (x : V) (u : Value) : Bool := match u with
  | .none => eqV .non x
  | .bool b => eqV (.bl b) x
  | .int i _ => eqV (.int i) x
  | .str z _ => eqV (.str z) x
  | _ => false
theorem eqU_of {x y : V} {u : Value} (r : RelV y u) (f : flatV y = true) : eqU x u = eqV y x := by
  cases y with
  | non => cases r; rfl
  | bl b => cases r; rfl
  | int i => obtain ⟨t, rfl⟩ := r; rfl
  | str z => obtain ⟨t, rfl⟩ := r; rfl
  | _ => exact absurd (show false = true from f) Bool.false_ne_true
theorem any_eqU {x : V} : ∀ {xs : List V} {us : List Value}, Vals xs us → xs.all flatV = true → us.any (eqU x) = xs.any fun y => eqV y x
  | _, _, .nil, _ => rfl
  | y :: xs, u :: us, .cons r t, f => by
    rw [List.all_cons, Bool.and_eq_true] at f
    rw [List.any_cons, List.any_cons, eqU_of r f.1, any_eqU t f.2]
theorem mem_eqAt {A : Around} {s : Shared} {x : V} {v : Value} (rx : RelV x v) (fx : flatV x = true) : ∀ {xs : List V} {us : List Value}, Vals xs us → xs.all flatV = true → ∀ u ∈ us, SeqAt.EqAt A s u v (eqU x u)
  | _, _, .nil, _ => fun u hu => by cases hu
  | y :: xs, u :: us, .cons r t, f => fun u' hu => by
    rw [List.all_cons, Bool.and_eq_true] at f
    rcases List.mem_cons.mp hu with rfl | hu
    · rw [eqU_of r f.1]; exact eqAt_V r rx f.1 fx
    · exact mem_eqAt rx fx t f.2 u' hu
def inV (x : V) (xs : List V) : Bool := xs.any fun y => eqV y x
/-- x in a list or tuple of flat items -/
def rIn (K : PySem.W.Frag) (neg : Bool) : R2 := fun x y H Q => ∃ p xs, y = .ref p ∧ (SqL K H p xs ∨ SqT K H p xs) ∧ flatV x = true ∧ xs.all flatV = true ∧ Q (.bl (if neg then !inV x xs else inV x xs)) H
theorem op_in_seq : OpR X (compareOp .In) (rIn X.K false) := by
  intro pins s σ H x y v u Q I rx ry h
  obtain ⟨p, xs, rfl, hq, fx, fs, q⟩ := h
  cases ry
  rcases hq with hq | hq
  · obtain ⟨its, r, pl, hz⟩ := I.list hq
    refine SeqAt.in_listAt (eqU x) pl.isList (fun w hw => mem_eqAt rx fx r fs w (by simpa using hw)) ⟨.bl _, H, I, rfl, ?_⟩
    rw [show its.toArray.any (eqU x) = its.any (eqU x) by simp, any_eqU r fs]
    exact q
  · obtain ⟨its, r, pl, hz⟩ := I.tuple hq
    refine SeqAt.in_tupleAt (eqU x) pl (fun w hw => mem_eqAt rx fx r fs w (by simpa using hw)) ⟨.bl _, H, I, rfl, ?_⟩
    rw [show its.toArray.any (eqU x) = its.any (eqU x) by simp, any_eqU r fs]
    exact q
theorem op_notIn_seq : OpR X (compareOp .NotIn) (rIn X.K true) := by
  intro pins s σ H x y v u Q I rx ry h
  obtain ⟨p, xs, rfl, hq, fx, fs, q⟩ := h
  cases ry
  rcases hq with hq | hq
  · obtain ⟨its, r, pl, hz⟩ := I.list hq
    refine SeqAt.notIn_listAt (eqU x) pl.isList (fun w hw => mem_eqAt rx fx r fs w (by simpa using hw)) ⟨.bl _, H, I, rfl, ?_⟩
    rw [show its.toArray.any (eqU x) = its.any (eqU x) by simp, any_eqU r fs]
    exact q
  · obtain ⟨its, r, pl, hz⟩ := I.tuple hq
    refine SeqAt.notIn_tupleAt (eqU x) pl (fun w hw => mem_eqAt rx fx r fs w (by simpa using hw)) ⟨.bl _, H, I, rfl, ?_⟩
    rw [show its.toArray.any (eqU x) = its.any (eqU x) by simp, any_eqU r fs]
    exact q
/-! ### len, list(x), tuple(x) of any list or tuple that is read -/
theorem call_len_seq : CallR X (.builtin "len") (fun xs H Q => ∃ p ys, xs = [.ref p] ∧ (SqL X.K H p ys ∨ SqT X.K H p ys) ∧ Q (.int ys.length) H) := by
  intro pins s σ H xs us Q I r h
  obtain ⟨p, ys, rfl, hq, q⟩ := h
  obtain ⟨u, rfl, rx⟩ := vals1 r
  cases rx
  have hn := line63
  rcases hq with hq | hq
  · obtain ⟨its, r', pl, hz⟩ := I.list hq
    have hlen := r'.length
    exact Calls.call_len_list pl.isList (by simp only [List.size_toArray] <;> omega) ⟨.int ys.length, H, I.tok _, ⟨s.toks + 1, by rw [List.size_toArray, hlen]⟩, q⟩
  · obtain ⟨its, r', pl, hz⟩ := I.tuple hq
    have hlen := r'.length
    exact len_tuple pl (by simp only [List.size_toArray] <;> omega) ⟨.int ys.length, H, I.tok _, ⟨s.toks + 1, by rw [List.size_toArray, hlen]⟩, q⟩
theorem call_len_str : CallR X (.builtin "len") (fun xs H Q => ∃ z, xs = [.str z] ∧ z.length ≤ sizeLine ∧ Q (.int z.length) H) := by
  intro pins s σ H xs us Q I r h
  obtain ⟨z, rfl, hz, q⟩ := h
  obtain ⟨u, rfl, t, rfl⟩ := vals1 r
  have hn := line63
  exact len_str (by omega) ⟨.int z.length, H, I.tok _, ⟨_, rfl⟩, q⟩
theorem CallR.or {f : Value} {r r' : List V → Hp → VK → Prop} (h : CallR X f r) (h' : CallR X f r') : CallR X f (fun xs H Q => r xs H Q ∨ r' xs H Q) := by
  intro pins s σ H xs us Q I rs q
  rcases q with q | q
  · exact h pins s σ H xs us Q I rs q
  · exact h' pins s σ H xs us Q I rs q
theorem call_tuple_of : CallR X (.type "tuple") (fun xs H Q => ∃ p ys, xs = [.ref p] ∧ ((SqL X.K H p ys ∧ ∀ l, H l = none → Q (.ref l) (upd H l (.tup ys))) ∨ (SqT X.K H p ys ∧ Q (.ref p) H))) := by
  intro pins s σ H xs us Q I r h
  obtain ⟨p, ys, rfl, h⟩ := h
  obtain ⟨u, rfl, rx⟩ := vals1 r
  cases rx
  rcases h with ⟨hq, q⟩ | ⟨hq, q⟩
  · obtain ⟨its, r', pl, hz⟩ := I.list hq
    have hlen := r'.length
    refine call_tuple_list pl.isList (fun h' kp => ?_) (by simp only [List.size_toArray] <;> omega)
    have I1 : Inv X pins σ H { s with heap := h' } := I.kept (t' := s.toks) kp
    have I2 : Inv X pins σ (upd H h'.objs.size (.tup ys)) { s with heap := h'.push { cls := .type "tuple", data := .seq its.toArray } } :=
      I1.laid (t' := s.toks) (fun b o e => Heap.get?_push_of_some _ e) (Nat.le_refl _) (show ObjOk X.prog X.w _ _ _ (.tup ys) from ⟨hz, its, r', IsTupD.new _ _⟩)
    exact ⟨.ref h'.objs.size, _, I2, rfl, q _ (I1.hok.fresh (Nat.le_refl _))⟩
  · obtain ⟨its, r', pl, hz⟩ := I.tuple hq
    exact call_tuple_same pl ⟨.ref p, H, I, rfl, q⟩

/-! ### the call of a builtin's method: o.m(..) -/
/-- the value is of that builtin type -/
def tyV (K : PySem.W.Frag) (T : String) (x : V) (H : Hp) : Prop := match x with
  | .str _ => T = "str"
  | .int _ => T = "int"
  | .ref p => (T = "list" ∧ ∃ xs, SqL K H p xs) ∨ (T = "tuple" ∧ ∃ o, K.lookup p = some o ∧ o.cls = .type "tuple" ∧ o.dict = none) ∨
      (T = "dict" ∧ ((∃ kvs, H p = some (.dK kvs)) ∨ ∃ kvs, H p = some (.dT kvs))) ∨ (T = "set" ∧ ∃ S n, H p = some (.set S n))
  | _ => False
theorem tyV_is {pins : List (Addr × Obj)} {σ : St} {H : Hp} {s : Shared} {T : String} {x : V} {v : Value} (I : Inv X pins σ H s) (r : RelV x v) (ty : tyV X.K T x H) :
    s.TypeIs v T ∧ ∀ a, v = .ref a → ∃ ob, s.heap.get? a = some ob ∧ ob.dict = none := by
  cases x with
  | str z =>
    obtain ⟨t, rfl⟩ := r
    cases (show T = "str" from ty)
    exact ⟨typeIs_str s z t, fun _ e => nomatch e⟩
  | int i =>
    obtain ⟨t, rfl⟩ := r
    cases (show T = "int" from ty)
    exact ⟨typeIs_int s i t, fun _ e => nomatch e⟩
  | ref p =>
    cases r
    rcases ty with ⟨rfl, xs, hq⟩ | ⟨rfl, o, hk, hc, hd⟩ | ⟨rfl, hk⟩ | ⟨rfl, S, n, hk⟩
    · obtain ⟨its, _, pl, _⟩ := I.list hq
      refine ⟨pl.isList.typeIs, fun a e => ?_⟩
      cases e
      obtain ⟨o, n, e, c, hd, _⟩ := pl
      exact ⟨o, e, hd⟩
    · refine ⟨⟨o, I.kIn p o hk, hc⟩, fun a e => ?_⟩
      cases e
      exact ⟨o, I.kIn _ o hk, hd⟩
    · have z : ∃ o, s.heap.get? p = some o ∧ o.ExactDict := by
        rcases hk with ⟨kvs, hk⟩ | ⟨kvs, hk⟩
        · obtain ⟨_, _, _, _, o, _, _, e, ex, _⟩ := I.hok p _ hk
          exact ⟨o, e, ex⟩
        · obtain ⟨_, _, _, _, o, _, _, e, ex, _⟩ := I.hok p _ hk
          exact ⟨o, e, ex⟩
      obtain ⟨o, e, ex⟩ := z
      refine ⟨⟨o, e, ex.1⟩, fun a e2 => ?_⟩
      cases e2
      exact ⟨o, e, ex.2.1⟩
    · obtain ⟨o, _, _, _, e, ex, _⟩ := I.hok p _ hk
      refine ⟨⟨o, e, ex.1⟩, fun a e2 => ?_⟩
      cases e2
      exact ⟨o, e, ex.2.1⟩
  | _ => exact False.elim ty
def tBM0 (K : PySem.W.Frag) (T : String) (r : V → List V → Hp → VK → Prop) (to : TE) : TE := fun σ H Q => to σ H fun x H1 => tyV K T x H1 ∧ r x [] H1 Q
def tBM (K : PySem.W.Frag) (T : String) (r : V → List V → Hp → VK → Prop) (to : TE) (t : TA) : TE := fun σ H Q => to σ H fun x H1 => tyV K T x H1 ∧ t σ H1 fun xs H2 => r x xs H2 Q
variable {o e : Expr} {es : List Expr} {to : TE} {t : TA} {name : Str} {apos cpos : Pos} {T id : String} {r : V → List V → Hp → VK → Prop}
theorem pe_bm0 (pa : PlainAttrs T) (slot : Slot T name id) (hty : typeOf (.builtin id) = pure (.type "method_descriptor")) (hm : MtR X id r) (ho : PE X o to)
    (hbase : attributeBase o name X.env (eval o X.env) = eval o X.env := by rfl) (hline : (apos.endLine == cpos.line) = true := by rfl) : PE X (.Call (.Attribute o name apos) [] [] cpos) (tBM0 X.K T r to) := by
  intro pins s σ H Q I h
  refine wpAny_Call_method0_late hbase hline (thn (ho pins s σ H _ I h) fun v s1 ⟨x, H1, I1, r1, ty, q1⟩ => ?_)
  obtain ⟨h1, h2⟩ := tyV_is I1 r1 ty
  exact ⟨T, id, pa, slot, hty, h1, h2, Calls.callWith_builtin rfl (PySem.evalArgs_none (hm pins s1 σ H1 x [] v [] Q I1 r1 .nil q1))⟩
theorem pe_bm (pa : PlainAttrs T) (slot : Slot T name id) (hty : typeOf (.builtin id) = pure (.type "method_descriptor")) (hm : MtR X id r) (ho : PE X o to) (ha : PA X (e :: es) t)
    (hbase : attributeBase o name X.env (eval o X.env) = eval o X.env := by rfl)
    (hfew : ((backTo cpos (starEach (e :: es) X.env)).all (fun x => !x.1) && (backToKw cpos (keywordEach [] X.env)).all (fun x => x.1.isSome)
      && decide ((e :: es).length + ([] : List Keyword).length + (if ([] : List Keyword).isEmpty then 0 else 1) < 30)) = true := by rfl)
    (hline : (apos.endLine == cpos.line) = true := by rfl) (hs : starEach (e :: es) X.env = (false, eval e X.env) :: starEach es X.env := by rfl) (hplain : (backTo cpos (starEach es X.env)).any (·.1) = false := by rfl) :
    PE X (.Call (.Attribute o name apos) (e :: es) [] cpos) (tBM X.K T r to t) := by
  intro pins s σ H Q I h
  refine wpAny_Call_method_late hbase hfew hline rfl (thn (ho pins s σ H _ I h) fun v s1 ⟨x, H1, I1, r1, ty, q1⟩ => ?_)
  obtain ⟨h1, h2⟩ := tyV_is I1 r1 ty
  refine ⟨T, id, pa, slot, hty, h1, h2, ?_⟩
  have hA := ha cpos pins s1 σ H1 _ I1 q1
  rw [hs] at hA ⊢
  refine Calls.callWith_builtin (by show (false || (backTo cpos (starEach es X.env)).any (·.1)) = false; rw [hplain] <;> rfl) (Calls.evalArgs_plain ?_)
  exact thn hA fun us s2 ⟨vs, H2, I2, r2, q2⟩ => hm pins s2 σ H2 x vs v us Q I2 r1 r2 q2
/- xs.append(e), list.index on a module's tuple .. are MtR facts of 06m -/
end
end L2

namespace L2
open PySem PySem.Spec PyProof.Rows

def MtM (X : Cx) (id : String) (r : V → List V → Hp → VK → Prop) : Prop :=
  ∀ (pins : List (Addr × Obj)) (s : Shared) (σ : St) (H : Hp) (x : V) (xs : List V) (v : Value) (us : List Value) (Q : VK), Inv X pins σ H s → RelV x v → Vals xs us → r x xs H Q →
    wpAny (model X.prog X.w) X.A (call (.builtin id) (v :: us)) (EP X pins σ Q) X.xe s

/-! ### lists of values -/
theorem Vals.one : ∀ {x : V} {us : List Value}, Vals [x] us → ∃ u, us = [u] ∧ RelV x u
  | _, _, .cons r .nil => ⟨_, rfl, r⟩
theorem Vals.two : ∀ {x y : V} {us : List Value}, Vals [x, y] us → ∃ u v, us = [u, v] ∧ RelV x u ∧ RelV y v
  | _, _, _, .cons r (.cons q .nil) => ⟨_, _, rfl, r, q⟩
theorem Vals.zero : ∀ {us : List Value}, Vals [] us → us = []
  | _, .nil => rfl
theorem Vals.dropLast {xs : List V} {us : List Value} (h : Vals xs us) : Vals xs.dropLast us.dropLast := by
  induction h with
  | nil => exact .nil
  | cons r t ih =>
    cases t with
    | nil => exact .nil
    | cons q t' => exact .cons r ih
theorem Vals.eraseIdx : ∀ {xs : List V} {us : List Value} (i : Nat), Vals xs us → Vals (xs.eraseIdx i) (us.eraseIdx i)
  | _, _, _, .nil => .nil
  | _, _, 0, .cons _ t => t
  | _, _, i + 1, .cons r t => .cons r (Vals.eraseIdx i t)
theorem Vals.reverse {xs : List V} {us : List Value} (h : Vals xs us) : Vals xs.reverse us.reverse := by
  induction h with
  | nil => exact .nil
  | cons r t ih => rw [List.reverse_cons, List.reverse_cons]; exact Vals.append ih (.cons r .nil)
theorem erase_last {α : Type} (l : List α) : l.eraseIdx (l.length - 1) = l.dropLast := by
  induction l with
  | nil => rfl
  | cons a r ih =>
    cases r with
    | nil => rfl
    | cons b r =>
      have e : (a :: b :: r).length - 1 = ((b :: r).length - 1) + 1 := by
        rfl
      rw [e, List.eraseIdx_cons_succ, ih]
      all_goals rfl
theorem len_erase {α : Type} : ∀ (l : List α) (i : Nat), (l.eraseIdx i).length ≤ l.length
  | [], _ => Nat.le_refl _
  | _ :: _, 0 => Nat.le_succ _
  | _ :: r, i + 1 => Nat.succ_le_succ (len_erase r i)
section
variable {X : Cx} {pins : List (Addr × Obj)} {σ : St} {H : Hp} {s : Shared} {l b : Addr} {xs ys zs : List V}

/-! ### the two steps: a tracked list is rewritten, a new list is laid -/
theorem Inv.lset {its its' : List Value} {n : Nat} {f : Array Value → Array Value} {t' : Nat} (I : Inv X pins σ H s) (hH : H l = some (.lst xs))
    (e : s.heap.get? l = some { cls := .type "list", data := .seq its.toArray n }) (hf : f its.toArray = its'.toArray) (hv : Vals ys its') (hz : ys.length ≤ sizeLine) :
    Inv X pins σ (upd H l (.lst ys)) { s with heap := s.heap.update l (Obj.mapSeq f), toks := t' } := by
  have q := PySem.IsL.update e f
  rw [hf] at q
  refine I.write (x := l) (e := l) (by rw [hH]; exact trivial) (.inl rfl) (fun b' u hb hu => (Heap.get?_update_other s.heap (Obj.mapSeq f) (Ne.symm hb)).trans hu) ⟨_, q⟩ ?_
  exact ⟨hz, its', _, hv, q⟩
theorem Inv.lnew {its : List Value} {t' : Nat} (I : Inv X pins σ H s) (hv : Vals ys its) (hz : ys.length ≤ sizeLine) :
    Inv X pins σ (upd H s.heap.objs.size (.lst ys)) { s with heap := s.heap.push { cls := .type "list", data := .seq its.toArray }, toks := t' } :=
  I.laid (fun _ _ q => Heap.get?_push_of_some _ q) (Nat.le_refl _) ⟨hz, its, 0, hv, Heap.get?_push_size _ rfl⟩
theorem Inv.fresh (I : Inv X pins σ H s) : H s.heap.objs.size = none := I.hok.fresh (Nat.le_refl _)
theorem Inv.lstM (I : Inv X pins σ H s) (hH : H l = some (.lst xs)) : xs.length ≤ sizeLine ∧ ∃ (its : List Value) (n : Nat), Vals xs its ∧ xs.length = its.length ∧ s.heap.get? l = some { cls := .type "list", data := .seq its.toArray n } := by
  obtain ⟨z, its, n, r, e⟩ := I.hok l _ hH
  exact ⟨z, its, n, r, r.length, e⟩

theorem notLongL {n : Nat} (h : n ≤ sizeLine) : Builtin.List.listTooLong n = false := by
  unfold Builtin.List.listTooLong
  exact decide_eq_false (by omega)
end

section
variable {X : Cx}

/-! ### methods -/
def rAppend : V → List V → Hp → VK → Prop := fun x vs H Q => ∃ l xs y, x = .ref l ∧ vs = [y] ∧ H l = some (.lst xs) ∧ xs.length < sizeLine ∧ Q .non (upd H l (.lst (xs ++ [y])))
theorem mt_append : MtM X "list.append" rAppend := by
  intro pins s σ H x vs v us Q I rx rv h
  obtain ⟨l, xs, y, rfl, rfl, hH, hz, q⟩ := h
  cases rx
  obtain ⟨u, rfl, ru⟩ := rv.one
  obtain ⟨z, its, n, r, hl, e⟩ := I.lstM hH
  refine call_meets F.slot_list_append ⟨_, e, rfl⟩ F.entry_list_append (F.args_list_append_2 _ _) (PySem.list_append l its.toArray n u (by rw [List.size_toArray]; omega)) ⟨e, ?_⟩
  refine ⟨.non, _, I.lset (its' := its ++ [u]) hH e (by simp) (r.append (.cons ru .nil)) ?_, rfl, q⟩
  rw [List.length_append, List.length_singleton]
  omega

def rExtend : V → List V → Hp → VK → Prop := fun x vs H Q => ∃ l b xs zs, x = .ref l ∧ vs = [.ref b] ∧ H l = some (.lst xs) ∧ H b = some (.lst zs) ∧ xs.length + zs.length ≤ sizeLine ∧ Q .non (upd H l (.lst (xs ++ zs)))
theorem mt_extend : MtM X "list.extend" rExtend := by
  intro pins s σ H x vs v us Q I rx rv h
  obtain ⟨l, b, xs, zs, rfl, rfl, hH, hB, hz, q⟩ := h
  cases rx
  obtain ⟨u, rfl, ru⟩ := rv.one
  cases ru
  obtain ⟨z, its, n, r, hl, e⟩ := I.lstM hH
  obtain ⟨z2, its2, n2, r2, hl2, e2⟩ := I.lstM hB
  have hsz : its.toArray.size + its2.toArray.size ≤ sizeLine := by rw [List.size_toArray, List.size_toArray]; omega
  have hlong : ¬ (!its.toArray.isEmpty && Builtin.List.listTooLong (its.toArray.size + its2.toArray.size)) = true := by
    rw [notLongL hsz, Bool.and_false]
    exact Bool.false_ne_true
  refine call_meets F.slot_list_extend ⟨_, e, rfl⟩ F.entry_list_extend (F.args_list_extend_2 _ _)
    (AutoSeq1.list_extend_list_list_0 l its.toArray n b its2.toArray n2 hlong (by rw [List.size_toArray]; omega) (by omega)) ⟨e, e2, ?_⟩
  refine ⟨.non, _, I.lset (its' := its ++ its2) hH e (by simp) (r.append r2) ?_, rfl, q⟩
  rw [List.length_append]
  omega

def rPop : V → List V → Hp → VK → Prop := fun x vs H Q => ∃ l xs y, x = .ref l ∧ vs = [] ∧ H l = some (.lst xs) ∧ xs[xs.length - 1]? = some y ∧ Q y (upd H l (.lst xs.dropLast))
theorem mt_pop : MtM X "list.pop" rPop := by
  intro pins s σ H x vs v us Q I rx rv h
  obtain ⟨l, xs, y, rfl, rfl, hH, hy, q⟩ := h
  cases rx
  have hus := rv.zero
  subst hus
  obtain ⟨z, its, n, r, hl, e⟩ := I.lstM hH
  obtain ⟨u, hu, ru⟩ := r.get hy
  have hy' : its.toArray[its.toArray.size - 1]? = some u := by
    show its.toArray[its.length - 1]? = some u
    rw [← Array.getElem?_toList, ← hl]
    exact hu
  refine call_meets F.slot_list_pop ⟨_, e, rfl⟩ F.entry_list_pop (F.args_list_pop_1 _) (MeetsSeq.list_pop_last l its.toArray n u hy' (by rw [List.size_toArray]; omega)) ⟨e, ?_⟩
  refine ⟨y, _, I.lset (its' := its.dropLast) hH e ?_ r.dropLast ?_, ru, q⟩
  · show its.toArray.eraseIdxIfInBounds (its.toArray.size - 1) = its.dropLast.toArray
    rw [List.size_toArray, List.eraseIdxIfInBounds_toArray, erase_last]
  · rw [List.length_dropLast]
    omega

def rPopAt : V → List V → Hp → VK → Prop := fun x vs H Q => ∃ l xs i k y, x = .ref l ∧ vs = [.int i] ∧ H l = some (.lst xs) ∧ -(2 ^ 63) ≤ i ∧ i < 2 ^ 63 ∧ seqIndex? i xs.length = some k ∧ xs[k]? = some y ∧ Q y (upd H l (.lst (xs.eraseIdx k)))
theorem mt_popAt : MtM X "list.pop" rPopAt := by
  intro pins s σ H x vs v us Q I rx rv h
  obtain ⟨l, xs, i, k, y, rfl, rfl, hH, h1, h2, hk, hy, q⟩ := h
  cases rx
  obtain ⟨u, rfl, ru⟩ := rv.one
  obtain ⟨t, rfl⟩ := ru
  obtain ⟨z, its, n, r, hl, e⟩ := I.lstM hH
  obtain ⟨w, hw, rw'⟩ := r.get hy
  refine call_meets F.slot_list_pop ⟨_, e, rfl⟩ F.entry_list_pop (F.args_list_pop_2 _ _)
    (MeetsSeq.list_pop_at l its.toArray n i t k w (fitsIndex_both h1 h2) (by rw [List.size_toArray, ← hl]; exact hk) (by rw [← Array.getElem?_toList]; exact hw) (by rw [List.size_toArray]; omega)) ⟨e, ?_⟩
  refine ⟨y, _, I.lset (its' := its.eraseIdx k) hH e ?_ (r.eraseIdx k) ?_, rw', q⟩
  · show its.toArray.eraseIdxIfInBounds k = (its.eraseIdx k).toArray
    rw [List.eraseIdxIfInBounds_toArray]
  · have := len_erase xs k
    omega

/-! ### list + list, list += list, list * int -/
def rCat : R2 := fun x y H Q => ∃ l b xs zs, x = .ref l ∧ y = .ref b ∧ H l = some (.lst xs) ∧ H b = some (.lst zs) ∧ xs.length + zs.length ≤ sizeLine ∧ ∀ p, H p = none → Q (.ref p) (upd H p (.lst (xs ++ zs)))
theorem op_cat : OpR X (binaryOp .Add) rCat := by
  intro pins s σ H x y v u Q I rx ry h
  obtain ⟨l, b, xs, zs, rfl, rfl, hH, hB, hz, q⟩ := h
  cases rx
  cases ry
  obtain ⟨z, its, n, r, hl, e⟩ := I.lstM hH
  obtain ⟨z2, its2, n2, r2, hl2, e2⟩ := I.lstM hB
  refine PySem.P.add_list e e2 ?_ (by rw [List.size_toArray, List.size_toArray]; omega)
  have ea : its.toArray ++ its2.toArray = (its ++ its2).toArray := by simp
  rw [ea]
  exact ⟨.ref _, _, I.lnew (t' := s.toks) (r.append r2) (by rw [List.length_append]; omega), rfl, q _ I.fresh⟩
/-! ### del xs[i] -/
end

/-! ### xs[a:b] = ys -/
section
variable {prog : Program} {w : World} {A : Around} {E : Value → Shared → Prop} {s : Shared}
end

section
variable {X : Cx}
end
end L2

namespace Att
open PySem PySem.W PySem.Calls PyProof.Rows

/-! ### the script -/
theorem ints_of_wellAll {P : Params} {h : Heap} : ∀ (ns : List Int) (vs : List Value), WellAll P h vs (ns.map WData.int) → IntsAre vs ns := by
  intro ns
  induction ns with
  | nil =>
    intro vs w
    rw [List.map_nil] at w
    cases w
    exact .nil
  | cons n ns ih =>
    intro vs w
    rw [List.map_cons] at w
    cases w with
    | cons a b =>
      cases a
      exact .cons _ _ (ih _ b)

theorem script_of {l : OpenLaw} {n : Nat} (hn : l.most = some n) {P : Params} {h : Heap} {args : List WData} {vals : List Value}
    (hpre : l.row.toRowW.claim.pre args = true) (hwl : WellAll P h vals args) :
    ∃ a vs ns, vals = [Value.ref a] ∧ args = [WData.list (ns.map WData.int)] ∧ h.get? a = some { cls := .type "list", data := .seq vs.toArray } ∧ IntsAre vs ns ∧ ns.length ≤ n := by
  have hsh : WShape.hasAll [] args [.list .int] = true := (pre_splitW hpre).1
  have hc : l.pre.holds [] { args := args } = true := (pre_splitW hpre).2
  obtain ⟨d, r, rfl, h1, h2⟩ := hasAllW_cons hsh
  obtain rfl := hasAllW_nil h2
  obtain ⟨xs, rfl, h3⟩ := hasW_list h1
  obtain ⟨ns, rfl⟩ := items_int h3
  have hlen : ns.length ≤ n := by
    unfold OpenLaw.pre at hc
    have h4 : (WTm.not (.lt (.lit (.int (n : Int))) (.len (.arg 0)))).holds [] { args := [.list (ns.map .int)] } = true := by
      have h4 := (holds_andW hc).1
      rw [hn] at h4
      exact h4
    have h5 := condW_of h4 (w_not (w_lt w_lit (w_len_list (w_arg rfl))))
    rw [List.length_map] at h5
    refine Nat.le_of_not_lt fun q => ?_
    have q' : (n : Int) < ((ns.length : Nat) : Int) := by omega
    first
      | (rw [decide_eq_true q'] at h5; exact absurd h5 (by decide))
      | (simp at h5; omega)
  cases hwl with
  | cons w1 w2 =>
    cases w2
    cases w1 with
    | list ho hall => exact ⟨_, _, ns, rfl, rfl, ho, ints_of_wellAll ns _ hall, hlen⟩

theorem post_true (l : OpenLaw) (args : List WData) : l.row.toRowW.claim.post args (.bool true) args = true :=
  postW_of (r := l.row.toRowW) (X := (true == true))
    (show WShape.has [] (.bool true) .bool = true by first | rfl | decide | simp [WShape.has, WShape.arms, WShape.armsAll])
    (show (WTm.eq .res (.lit (.bool true))).value [] { args := args, res := some (.bool true), after := args } = some (.bool (true == true)) from w_eq_bool (w_res rfl) w_lit) rfl

/-! ### the attachment: holds_open's last premise (the goal 'hc' behind k_head) from a wpAny of the law's body -/
/-- the same from a codeAny of the CALL (for a layer whose function contracts speak of calls) -/
theorem attach_call {l : OpenLaw} {n : Nat} {q : Program} {loose : List Str} {XP : (Str → Option Value) → Heap → Prop} {YP : World → Heap → Prop} {d : DefRec}
    (hn : l.most = some n) (hdf : d.params.defaults = [])
    (call : ∀ (w : World) (s₀ s₁ : Shared) (mg mb : Str → Option Value) (fa : Addr) (o : Obj) (pm cd doc : Value) (a : Addr) (vs : List Value) (ns : List Int),
      Ground q loose [] XP w s₀ mg mb s₁.heap → YP w s₁.heap →
      s₁.heap.get? fa = some o → o.data = .func (docDef d.name d.params d.body d.scope pm cd doc) → s₁.heap.CodeRec cd d.name → mg d.name = some (.ref fa) →
      s₁.heap.get? a = some { cls := .type "list", data := .seq vs.toArray } → IntsAre vs ns → ns.length ≤ n → s₁.gens = #[] →
      codeAny (model l.prog w) callerA (.call (.ref fa) ⟨[.ref a], []⟩) (fun r s' => r = .ok (.ret (.bool true)) ∧ OldK s₁.heap s'.heap ∧ s'.os = s₁.os ∧ AllBare s'.gens) s₁) :
    WalkO q loose XP YP l.row.toRowW d [] (fun f vs => PySem.call f vs) := by
  intro w s₀ s₁ mg mb G Y fa o pm cd doc dV kV ho hd hcd hD hmg hg args vals as hpre hlay hrd hwl hlo
  obtain rfl : dV = .none := Dflts.none hD hdf
  obtain rfl : kV = .none := Dflts.noKw hD
  obtain ⟨a, vs, ns, rfl, rfl, hobj, hints, hlen⟩ := script_of hn hpre hwl
  refine enter_call (codeAny_mono (call w s₀ s₁ mg mb fa o pm cd doc a vs ns G Y ho (fd_plain hd) hcd hmg hobj hints hlen hg) fun r s' hq => ?_)
  obtain ⟨rfl, h2, h3, h4⟩ := hq
  exact ⟨.inl ⟨.bool true, .bool true, [], rfl, fun _ => rfl, .bool true, post_true l _, fun _ => ⟨List.Pairwise.nil, fun _ hm => (nomatch hm)⟩⟩, h2, h3, h4⟩

/-! ### rules over ANY heap (no ledger) from facts about the written part K: the library's own take a ledger (News) for what they write -/
section
variable {prog : Program} {w : World} {A : Around} {E : Value → Shared → Prop} {s : Shared} {K : Frag}

/-! the whole heap as the ledger: makes every rule that writes through a ledger a rule over any heap -/
def ledger (h : Heap) (L d : Addr) : List (Addr × Obj) := (List.range h.objs.size).filterMap fun a => if a = L ∨ a = d then none else (h.get? a).map fun o => (a, o)
end
end Att

namespace L2
open PySem PySem.Spec PyProof.Rows

theorem vals_ints : ∀ {vs : List Value} {ns : List Int}, IntsAre vs ns → Vals (ns.map V.int) vs
  | _, _, .nil => .nil
  | _, _, .cons n t h => .cons ⟨t, rfl⟩ (vals_ints h)

/-- nothing is tracked but the script, known to the object (or it is an object of the module) -/
def Only (H : Hp) : Prop := ∀ b, H b = none ∨ ∃ o xs, H b = some (.frz o (.lst xs))

/-- THE HEAD: the law's promise, at the heap behind the top. F, the promise of the law's def, may use that base is part of the heap (so K.In base, base.Ns mainGlobals mg stand in Mod) -/
theorem law_call {P : Program} {w : World} {K : PySem.W.Frag} {mg mb : Str → Option Value} {CX : CXT} {k : Nat} {fa a : Addr} {fd : FuncData} {x : Str} {sp : Sp} {s₁ : Shared} {vs : List Value} {ns : List Int}
    (KX : K.In s₁.heap) (hns : s₁.heap.Ns mainGlobals mg) (hb : s₁.heap.Ns builtinsNs mb) (hbb : ∀ x : Str, x ≠ "__name__" → mb x = bootBuiltins x) (hlim : s₁.heap.NoLimit) (hg : s₁.gens = #[])
    (ha : s₁.heap.get? a = some { cls := .type "list", data := .seq vs.toArray }) (hi : IntsAre vs ns) (hl : ns.length ≤ sizeLine) (hr : Room k callerA)
    (F : ∀ base : Heap, K.In base → base.Ns mainGlobals mg → FnOk P w K mg base CX k fa fd [x] sp) (hbind : ∀ (s : Shared) (u : Value), BindsTo s fd ⟨[u], []⟩ [(x, u)])
    (hsp : ∀ H : Hp, Only H → SqL K H a (ns.map V.int) → sp [.ref a] H (fun v _ => v = .bl true) fun _ _ _ => False)
    (hCX : ∀ H e s', CX [] H s₁ (fun _ _ _ => False) e s' → False) :
    codeAny (model P w) callerA (.call (.ref fa) ⟨[.ref a], []⟩) (fun r s' => r = .ok (.ret (.bool true)) ∧ OldK s₁.heap s'.heap ∧ s'.os = s₁.os ∧ AllBare s'.gens) s₁ := by
  have rv := vals_ints hi
  have lenV := hi.length
  -- from an abstract heap in which nothing but the script may be tracked
  have core : ∀ H : Hp, Only H → SqL K H a (ns.map V.int) → HOk P w H s₁.heap → (∀ b, H b ≠ none → b = a) → (H a ≠ none → K.lookup a = none) →
      codeAny (model P w) callerA (.call (.ref fa) ⟨[.ref a], []⟩) (fun r s' => r = .ok (.ret (.bool true)) ∧ OldK s₁.heap s'.heap ∧ s'.os = s₁.os ∧ AllBare s'.gens) s₁ := by
    intro H hO hS hok hA hK
    have base_of : ∀ {b : Addr} {o : Obj}, s₁.heap.get? b = some o → H b = none → (hidT s₁.heap H).get? b = some o := fun e n => hidT_get e n
    have noA : ∀ {b : Addr} {o : Obj} {es : Array DictEntry} {ep : Nat}, s₁.heap.get? b = some o → o.data = .dict es ep → H b = none := fun {b o es ep} e d => by
      cases q : H b with
      | none => rfl
      | some u =>
        have e' : b = a := hA b (by rw [q]; simp)
        subst e'
        rw [ha] at e; cases e
        have d' : Data.seq vs.toArray _ = Data.dict es ep := d
        cases d'
    have nsK : ∀ {b : Addr} {m : Str → Option Value}, s₁.heap.Ns b m → (hidT s₁.heap H).Ns b m := fun {b m} ⟨o, es, ep, e, d, r⟩ => ⟨o, es, ep, base_of e (noA e d), d, r⟩
    have hKb : K.In (hidT s₁.heap H) := fun b o e => base_of (KX b o e) (by
      cases q : H b with
      | none => rfl
      | some u =>
        have e' : b = a := hA b (by rw [q]; simp)
        subst e'
        rw [hK (by rw [q]; simp)] at e; cases e)
    have hM : Mod K mg (hidT s₁.heap H) := ⟨hKb, nsK hns, ⟨mb, nsK hb, hbb⟩, let ⟨mc, h1, h2⟩ := hlim; ⟨mc, nsK h1, h2⟩⟩
    have e0 : Env0 P w K mg (hidT s₁.heap H) callerA [] s₁ H := ⟨rfl, hM, fun b o e => of_hidT e, Nat.le_of_eq (hidT_size _ _), trivial, fun b hb => absurd (show b ∈ ([] : List Addr) from hb) (by simp), hok, .of_eq hg⟩
    refine codeAny_mono ((F _ hKb (nsK hns)).run callerA [] s₁ H ⟨[.ref a], []⟩ [.ref a] [.ref a] _ _ hr e0 (hbind s₁ (.ref a)) (.cons rfl .nil) (hsp H hO hS)) fun r s' h => ?_
    cases r with
    | error e => exact (hCX H e s' h).elim
    | ok fl =>
      cases fl with
      | next => exact False.elim h
      | brk => exact False.elim h
      | cont => exact False.elim h
      | ret u =>
        obtain ⟨v, H', os, bare, un, hok', r', q⟩ := h
        have q' : v = .bl true := q
        subst q'
        obtain rfl : u = Value.bool true := r'
        refine ⟨rfl, OldK.of_keep fun b o e => ?_, os, bare⟩
        cases q : H b with
        | none => exact un.keep b o e q (by intro z; exact absurd (show b ∈ ([] : List Addr) from z) (by simp)) (by simp)
        | some u =>
          rcases hO b with z | ⟨ob, xs, z⟩
          · rw [q] at z; cases z
          · have z2 := un.frzs b ob _ z
            obtain ⟨e1, _⟩ := hok b _ z
            obtain ⟨e2, _⟩ := hok' b _ z2
            rw [e] at e1; cases e1
            exact e2
  cases hk : K.lookup a with
  | some o =>
    -- the script is one of the module's own objects
    have e := KX a o hk
    rw [ha] at e
    cases e
    refine core (fun _ => none) (fun _ => .inl rfl) (.inr ⟨_, vs.toArray, _, hk, rfl, rfl, rfl, by rw [List.size_toArray, lenV]; exact hl, by simpa using rv⟩) (fun b u z => by have z' : (none : Option HO) = some u := z; cases z') (fun b z => absurd rfl z) fun z => absurd rfl z
  | none =>
    refine core (fun b => if b = a then some (.frz { cls := .type "list", data := .seq vs.toArray } (.lst (ns.map V.int))) else none) (fun b => ?_) (.inl (.inr ⟨{ cls := .type "list", data := .seq vs.toArray }, if_pos rfl⟩)) (fun b u z => ?_) (fun b z => ?_) fun _ => hk
    · by_cases hb : b = a
      · exact .inr ⟨_, _, if_pos hb⟩
      · exact .inl (if_neg hb)
    · by_cases hb : b = a
      · have z' := (if_pos hb).symm.trans z
        cases z'
        subst hb
        exact ⟨ha, by rw [List.length_map]; exact hl, vs, _, rv, ha⟩
      · have z' := (if_neg hb).symm.trans z
        cases z'
    · by_cases hb : b = a
      · exact hb
      · exact absurd (if_neg hb) z
end L2

namespace L2
open PySem PySem.Spec PyProof.Rows

abbrev KOf {K : PySem.W.Frag} {h : Heap} (_ : K.In h) : PySem.W.Frag := K

/-- the goal that k_head leaves (case hc), from the law's promise. F gives the function object fd (K's own) once, then the promise over every base -/
theorem walk_of {l : PySem.W.OpenLaw} {n k : Nat} {q : Program} {loose : List Str} {XP : (Str → Option Value) → Heap → Prop} {YP : World → Heap → Prop} {d : DefRec} {K : Params → PySem.W.Frag} {CX : World → CXT} {sp : World → Sp} {x : Str}
    (hn : l.most = some n) (hn2 : n ≤ sizeLine) (hdf : d.params.defaults = []) (hr : Room k callerA)
    (hY : ∀ (w : World) (h : Heap), YP w h → (K w.params).In h)
    (F : ∀ (w : World) (mg : Str → Option Value) (fa : Addr) (h : Heap), (K w.params).In h → h.Ns mainGlobals mg → mg d.name = some (.ref fa) →
      ∃ fd : FuncData, (∀ (s : Shared) (u : Value), BindsTo s fd ⟨[u], []⟩ [(x, u)]) ∧
        ∀ base : Heap, (K w.params).In base → base.Ns mainGlobals mg → FnOk l.prog w (K w.params) mg base (CX w) k fa fd [x] (sp w))
    (hsp : ∀ (w : World) (H : Hp) (a : Addr) (ns : List Int), ns.length ≤ n → Only H → SqL (K w.params) H a (ns.map V.int) → sp w [.ref a] H (fun v _ => v = .bl true) fun _ _ _ => False)
    (hCX : ∀ (w : World) (H : Hp) (s : Shared) (e : Value) (s' : Shared), CX w [] H s (fun _ _ _ => False) e s' → False) :
    PySem.W.WalkO q loose XP YP l.row.toRowW d [] (fun f vs => PySem.call f vs) := by
  refine Att.attach_call hn hdf fun w s₀ s₁ mg mb fa o pm cd doc a vs ns G Y ho hd hcd hmg hobj hints hlen hg => ?_
  have KX := hY w _ Y
  obtain ⟨fd, hb, hF⟩ := F w mg fa _ KX G.T.g hmg
  exact law_call KX G.T.g G.T.b G.T.builtins G.T.nolimit hg hobj hints (Nat.le_trans hlen hn2) hr hF hb (fun H hO hS => hsp w H a ns hlen hO hS) fun H e s' => hCX w H s₁ e s'
end L2

/- THE LAST THEOREM (shape; LID, My.* are yours):
   My.Adr: a structure of the addresses that your layer names (classes, functions); My.Txt K t: a structure (Prop) of the equations over K;
   My.txt_mk : {K} {implicit addresses ..} (e1 : nsIn K mainGlobals "law" = some (some (.ref f))) (e2 : K.lookup f = some ⟨oc, od, .func (fnOf "law" "law" params body scope dV kV doc pm an cdv ct), sl⟩) (e3 : codeIn K cdv "law" = true) .. : ∃ t, My.Txt K t

set_option maxRecDepth 100000 in
set_option maxHeartbeats 0 in
theorem PySem.Challenge.cw_LID_holds : PySem.Challenge.rw_LID.Holds := by
  w_on; o_law; k_head; (case hw => w_witness2)
  k_fill
  refine L2.walk_of (l := PySem.Challenge.rw_LID) (n := 63) (k := 40) (x := "script") (CX := fun w => ..) (sp := fun _ => My.sp_law) rfl (by decide) rfl ⟨rfl, by decide, by decide⟩ (fun w h Y => PySem.W.kIn_of Y) ?F ?S ?C
  case F =>
    intro w mg fa h KX G hmg
    have T : ∃ t, My.Txt (L2.KOf KX) t := by
      dsimp only [L2.KOf]                          -- K must stand as «<heap const> w.params» for k_is
      refine' My.txt_mk ?e1 ?e2 ?e3 ..
      (case e1 => PySem.W.k_is)                    -- in the order: a name -> its address -> its object -> its parts
      (case e2 => PySem.W.k_is)
      ..
    obtain ⟨t, T⟩ := T
    have e0 := hmg.symm.trans (PySem.W.mg_of KX G T.law)
    cases e0                                       -- fa is the law's own address
    exact ⟨_, fun s u => .of_eq rfl, fun base kb nb => My.law_fn T kb nb⟩     -- if «.of_eq rfl» comes too early: refine' ⟨_, ?b, fun base kb nb => My.law_fn T kb nb⟩; exact fun s u => .of_eq rfl
  case S => exact fun w H a ns hl hO hS => ..
  case C => exact ..
(the tactic k_is has no namespace: write k_is) -/

/-! SHORT WORDS over the layer: a def of the text, its body, what a loop and a test want. -/
namespace L2
open PySem PySem.Spec PyProof.Rows

/-! ### the text by places -/
def defArgs (s : Stmt) : Arguments := match s with
  | .FunctionDef _ a _ _ _ _ _ _ _ _ => a
  | _ => { posonlyargs := [], args := [], vararg := none, kwonlyargs := [], kw_defaults := [], kwarg := none, defaults := [] }
def defBody (s : Stmt) : List Stmt := match s with
  | .FunctionDef _ _ b _ _ _ _ _ _ _ => b
  | _ => []
def defScope (s : Stmt) : Scope := match s with
  | .FunctionDef _ _ _ _ _ _ sc _ _ _ => sc
  | _ => { kind := .function, names := [], isGenerator := false, isCoroutine := false }

/-! ### no exception leaves a def -/
abbrev CX0 : CXT := fun _ _ _ _ _ _ => False
abbrev E0 : XK := fun _ _ _ => False
theorem pass0 {X : Cx} : Passes CX0 X E0 := fun _ _ _ _ _ _ _ h => h.elim

/-! ### a def (or method) of the text as it stands behind the top -/
structure Fun (K : PySem.W.Frag) (x qual : Str) (st : Stmt) (f : Addr) (fd : FuncData) : Prop where
  ex : ∃ (oc : Value) (od : Option Addr) (kV doc pm : Value) (an : Option Addr) (cdv ct : Value) (osl : Array (Option Value)),
    fd = PySem.W.fnOf x qual (defArgs st) (defBody st) (defScope st) .none kV doc pm an cdv ct ∧ K.lookup f = some ⟨oc, od, .func fd, osl⟩ ∧ PySem.W.codeIn K cdv qual = true
  kp : PySem.W.keepIn K (.ref f) = true
section
variable {P : Program} {w : World} {K : PySem.W.Frag} {mg : Str → Option Value} {base : Heap}
/-- THE RULE for a def: its body as a term of rules, and the reading of that term -/
theorem Fun.ok {x qual : Str} {st : Stmt} {f : Addr} {fd : FuncData} {N ps : List Str} {k : Nat} {sp : Sp} (F : Fun K x qual st f fd) (S : FnScope N ps (defScope st)) (len : ∀ vs H Q E, sp vs H Q E → vs.length = ps.length)
    (hbody : ∀ (cdv : Value) (A : Around) (outer : List Env) (s : Shared) (H : Hp) (vs : List V) (Q : VK) (E : XK), Room k (A.deeper (envOfC qual (defScope st) s.heap.objs.size f cdv)) → sp vs H Q E →
      ∃ t, PSs (cxOf CX0 P w K mg base N qual (defScope st) f cdv A outer s H E).nox (defBody st) t ∧ t { nx := fun _ H' => Q .non H', rt := Q } (start N vs) H) : FnOk P w K mg base CX0 (k + 1) f fd ps sp := by
  obtain ⟨oc, od, kV, doc, pm, an, cdv, ct, osl, rfl, lk, hcd⟩ := F.ex
  refine fn_of lk hcd S len fun A outer s H vs Q E hr hsp => ?_
  obtain ⟨t, h, q⟩ := hbody cdv A outer s H vs Q E hr hsp
  exact ⟨t, h.nox, q⟩
/-- how its arguments bind (no defaults): h is «fun _ _ _ _ _ _ us hl => match us, hl with | [_, _], _ => rfl», one _ a parameter -/
theorem Fun.binds {x qual : Str} {st : Stmt} {f : Addr} {fd : FuncData} {ps : List Str} (F : Fun K x qual st f fd)
    (h : ∀ (kV doc pm : Value) (an : Option Addr) (cdv ct : Value) (us : List Value), us.length = ps.length → bindArgs (PySem.W.fnOf x qual (defArgs st) (defBody st) (defScope st) .none kV doc pm an cdv ct) ⟨us, []⟩ = pure (ps.zip us)) : Binds K fd ps [] := by
  obtain ⟨oc, od, kV, doc, pm, an, cdv, ct, osl, rfl, lk, hcd⟩ := F.ex
  exact .all (h kV doc pm an cdv ct)
theorem fun_mk {x qual : Str} {st : Stmt} {f : Addr} {oc : Value} {od an : Option Addr} {osl : Array (Option Value)} {kV doc pm cdv ct : Value} (l : K.lookup f = some ⟨oc, od, .func (PySem.W.fnOf x qual (defArgs st) (defBody st) (defScope st) .none kV doc pm an cdv ct), osl⟩)
    (c : PySem.W.codeIn K cdv qual = true) (k : PySem.W.keepIn K (.ref f) = true) : Fun K x qual st f (PySem.W.fnOf x qual (defArgs st) (defBody st) (defScope st) .none kV doc pm an cdv ct) := ⟨⟨oc, od, kV, doc, pm, an, cdv, ct, osl, rfl, l, c⟩, k⟩
end
theorem hu_of {A : Around} {k : Nat} (hr : Room k A) : A.units + 1 < cLine := Nat.lt_of_le_of_lt (Nat.add_le_add_left (by decide : 1 ≤ 64) _) hr.units
theorem small1000 {n : Nat} (h : n ≤ 1000) : n < sizeLine := Nat.lt_of_le_of_lt h (by decide)

/-! ### expressions in short: the name that stands in the i-th slot -/
section
variable {X : Cx}
theorem pv (i : Nat) {x : Str} {pos : Pos} (hN : X.N[i]? = some x := by rfl) (hv : Vis X.env.scope x := by first | exact Or.inl rfl | exact Or.inr (Or.inl rfl) | exact Or.inr (Or.inr rfl)) (hd : (x == ("__debug__" : Str)) = false := by decide)
    (hcd : (x == ("__classdict__" : Str)) = false := by decide) : PE X (.Name x pos) (tVar i) := pe_var hN hv hd hcd
end

/-! ### tests -/
theorem iteF {A B : Prop} (h : B) : if false = true then A else B := by
  rw [if_neg Bool.false_ne_true]
  exact h
theorem ite2 {c A B : Prop} [Decidable c] (h1 : c → A) (h2 : ¬ c → B) : if c then A else B := by
  by_cases h : c
  · rw [if_pos h]
    exact h1 h
  · rw [if_neg h]
    exact h2 h
/-! ### heaps -/
/-- all that was tracked is as it was -/
def Same (H H' : Hp) : Prop := ∀ b o, H b = some o → H' b = some o
theorem Same.refl (H : Hp) : Same H H := fun _ _ h => h
theorem Same.trans {H H1 H2 : Hp} (a : Same H H1) (b : Same H1 H2) : Same H H2 := fun c o h => b c o (a c o h)
theorem Same.free {H H' : Hp} (e : Same H H') {l : Addr} (h : H' l = Option.none) : H l = Option.none := by
  cases q : H l with
  | none => rfl
  | some o =>
    rw [e l o q] at h
    cases h
theorem Same.seq {K : PySem.W.Frag} {H H' : Hp} {a : Addr} {xs : List V} (e : Same H H') (h : SqL K H a xs) : SqL K H' a xs := by
  rcases h with (h | ⟨o, h⟩) | h
  · exact .inl (.inl (e _ _ h))
  · exact .inl (.inr ⟨o, e _ _ h⟩)
  · exact .inr h

/-! ### a dict's pairs: keys that differ -/
section
variable {κ : Type} [DecidableEq κ]
end
end L2
set_option maxHeartbeats 4000000
namespace L2
open PySem PySem.Spec PyProof.Rows

/-! ### what a block closes over -/
def clOf (env : Env) (names : List (Str × NameKind)) : List (Str × Addr) :=
  names.foldl (fun cs y => if y.2 == NameKind.free then (y.1, (env.cells.lookup y.1).getD 0) :: cs else cs) []
theorem clFold {env : Env} : ∀ (names : List (Str × NameKind)) (cs : List (Str × Addr)), (∀ y ∈ names, y.2 = .free → ∃ c, env.cells.lookup y.1 = some c) →
    (forIn names cs fun (y : Str × NameKind) (r : List (Str × Addr)) => (if y.2 == NameKind.free then (do let a ← cellOf env y.1; pure (ForInStep.yield ((y.1, a) :: r))) else pure (ForInStep.yield r) : Sem (ForInStep (List (Str × Addr))))) =
      pure (names.foldl (fun cs y => if y.2 == NameKind.free then (y.1, (env.cells.lookup y.1).getD 0) :: cs else cs) cs)
  | [], cs, _ => rfl
  | (n, k) :: r, cs, h => by
    have ih := fun cs' => clFold (env := env) r cs' fun y hy => h y (List.mem_cons_of_mem _ hy)
    rw [List.forIn_cons, List.foldl_cons]
    by_cases hk : k = .free
    · subst hk
      obtain ⟨c, hc⟩ := h (n, .free) List.mem_cons_self rfl
      have e : cellOf env n = pure c := by unfold cellOf; rw [hc]
      simp only [beq_self_eq_true, if_true, e, pure_bind, hc, Option.getD_some]
      exact ih _
    · have hb : (k == NameKind.free) = false := by simpa using hk
      simp only [hb, Bool.false_eq_true, if_false, pure_bind]
      exact ih _
theorem closure_of {scope : Scope} {env : Env} (h : ∀ y ∈ scope.names, y.2 = .free → ∃ c, env.cells.lookup y.1 = some c) : closureFor scope env = pure (clOf env scope.names) := by
  unfold closureFor
  have e := clFold (env := env) scope.names [] h
  simp only [] at e ⊢
  refine Eq.trans ?_ (congrArg (fun m : Sem (List (Str × Addr)) => m >>= fun cs => pure cs) e)
  rfl
theorem cl_get {env : Env} {x : Str} {c : Addr} : ∀ (names : List (Str × NameKind)) (cs : List (Str × Addr)), (∀ y ∈ names, y.2 = .free → ∃ c, env.cells.lookup y.1 = some c) →
    (names.foldl (fun cs y => if y.2 == NameKind.free then (y.1, (env.cells.lookup y.1).getD 0) :: cs else cs) cs).lookup x = some c → cs.lookup x = some c ∨ env.cells.lookup x = some c
  | [], _, _, e => .inl e
  | (n, k) :: r, cs, h, e => by
    rw [List.foldl_cons] at e
    have ih := cl_get r _ (fun y hy => h y (List.mem_cons_of_mem _ hy)) e
    rcases ih with q | q
    · by_cases hk : k = .free
      · subst hk
        obtain ⟨c', hc⟩ := h (n, .free) List.mem_cons_self rfl
        simp only [beq_self_eq_true, if_true, hc, Option.getD_some, List.lookup_cons] at q
        cases hx : x == n with
        | true =>
          rw [hx] at q
          have : x = n := by simpa using hx
          subst this
          simp only [Option.some.injEq] at q
          subst q
          exact .inr hc
        | false =>
          rw [hx] at q
          exact .inl q
      · have hb : (k == NameKind.free) = false := by simpa using hk
        simp only [hb, Bool.false_eq_true, if_false] at q
        exact .inl q
    · exact .inr q
theorem cl_has {env : Env} {x : Str} : ∀ (names : List (Str × NameKind)) (cs : List (Str × Addr)), ((x, NameKind.free) ∈ names ∨ ∃ c, cs.lookup x = some c) →
    ∃ c, (names.foldl (fun cs y => if y.2 == NameKind.free then (y.1, (env.cells.lookup y.1).getD 0) :: cs else cs) cs).lookup x = some c
  | [], _, e => by rcases e with e | e; exact absurd e (by simp); exact e
  | (n, k) :: r, cs, e => by
    rw [List.foldl_cons]
    refine cl_has r _ ?_
    rcases e with e | ⟨c, e⟩
    · rcases List.mem_cons.mp e with z | z
      · cases z
        right
        simp only [beq_self_eq_true, if_true, List.lookup_cons]
        exact ⟨_, rfl⟩
      · exact .inl z
    · right
      by_cases hk : k = .free
      · subst hk
        simp only [beq_self_eq_true, if_true, List.lookup_cons]
        cases hx : x == n with
        | true => exact ⟨_, rfl⟩
        | false => exact ⟨c, e⟩
      · have hb : (k == NameKind.free) = false := by simpa using hk
        simp only [hb, Bool.false_eq_true, if_false]
        exact ⟨c, e⟩
/-- a name that the block holds as a cell or as free was free there -/
theorem relabel_free {env : Env} {x : Str} : ∀ {names : List (Str × NameKind)}, (∀ y ∈ names, y.2 ≠ .cell) →
    ((names.map fun (n, k) => if (k == NameKind.free && env.scope.kind == .function && env.kindOf n == some .cell) then (n, NameKind.cell) else (n, k)).lookup x = some .cell ∨
     (names.map fun (n, k) => if (k == NameKind.free && env.scope.kind == .function && env.kindOf n == some .cell) then (n, NameKind.cell) else (n, k)).lookup x = some .free) → (x, NameKind.free) ∈ names
  | [], _, h => by simp at h
  | (n, k) :: r, hc, h => by
    have ih := @relabel_free env x r fun y hy => hc y (List.mem_cons_of_mem _ hy)
    have hk := hc (n, k) List.mem_cons_self
    simp only [List.map_cons] at h
    by_cases cc : (k == NameKind.free && env.scope.kind == .function && env.kindOf n == some .cell) = true
    · rw [if_pos cc] at h
      have kf : k = .free := by
        simp only [Bool.and_eq_true, beq_iff_eq] at cc
        exact cc.1.1
      subst kf
      simp only [List.lookup_cons] at h
      cases hx : x == n with
      | true =>
        have : x = n := by simpa using hx
        subst this
        exact List.mem_cons_self
      | false => rw [hx] at h; exact List.mem_cons_of_mem _ (ih h)
    · rw [if_neg cc] at h
      simp only [List.lookup_cons] at h
      cases hx : x == n with
      | true =>
        rw [hx] at h
        have : x = n := by simpa using hx
        subst this
        rcases h with h | h
        · simp only [Option.some.injEq] at h
          exact absurd h hk
        · simp only [Option.some.injEq] at h
          subst h
          exact List.mem_cons_self
      | false => rw [hx] at h; exact List.mem_cons_of_mem _ (ih h)

/-- the tests of a clause, as one tree -/
abbrev testsT (ifs : List Expr) (env : Env) : Sem Bool := forIn ifs true fun c r =>
  if r = true then do
    let ok ← isTrue c env (eval c env)
    pure (ForInStep.yield ok)
  else pure (ForInStep.yield r)
/-! ### the tests of a clause -/
def PIfs (X : Cx) (ifs : List Expr) (t : TT) : Prop :=
  ∀ (pins : List (Addr × Obj)) (s : Shared) (σ : St) (H : Hp) (Q : Bool → Hp → Prop), Inv X pins σ H s → t σ H Q →
    wpAny (model X.prog X.w) X.A (testsT ifs X.env) (TP X pins σ Q) X.xe s
def tYes : TT := fun _ H Q => Q true H
theorem pf_nil {X : Cx} : PIfs X [] tYes := fun _ _ _ H _ I h => wpAny_tests_nil ⟨H, I, h⟩
theorem pf_one {X : Cx} {c : Expr} {t : TT} (h : PT X c t) : PIfs X [c] t := fun pins s σ H Q I q => wpAny_tests_one (h pins s σ H Q I q)

abbrev Nope : Value → Shared → Prop := fun _ _ => False
/-- the loop of a comprehension, with the step ahead of the store; nothing is raised -/
theorem comp_loop {prog : Program} {w : World} {A : Around} {R : Result → Shared → Prop} {s0 : Shared} {elt target iter : Expr} {ifs : List Expr} {scope : Scope} {pos : Pos} {it acc : Value} {env : Env} (W : Nat → Shared → Prop)
    (one : ∀ k t, W k t → wpAny (model prog w) A (pyNext it) (fun r t1 => match r with
      | none => R (.ok .next) t1
      | some v => wpAny (model prog w) A (letOwnedTupleGo target it v) (fun _ t2 => wpAny (model prog w) A (assign target env v) (fun _ t3 => wpAny (model prog w) A (testsT ifs env) (fun ok t4 =>
          if ok = true then wpAny (model prog w) A (eval elt env) (fun x t5 => wpAny (model prog w) A (call (.builtin "list.append") [acc, x]) (fun _ t6 => ∃ j, j < k ∧ W j t6) Nope t5) Nope t4
          else ∃ j, j < k ∧ W j t4) Nope t3) Nope t2) Nope t1) Nope t)
    (k0 : Nat) (h0 : W k0 s0) : codeAny (model prog w) A (.compLoop (.ListComp elt [⟨target, iter, ifs, 0⟩] scope pos) 0 it acc env) R s0 := by
  refine codeAny_loop rfl W (fun k t hW => ?_) k0 h0
  refine wpAny_noted (m := compTurn (.ListComp elt [⟨target, iter, ifs, 0⟩] scope pos) 0 it acc env) ?_
  have no : ∀ {P : Prop} {e : Value} {t : Shared}, Nope e t → P := fun z => z.elim
  rw [compTurn_list]
  refine wpAny_bind (wpAny_standAt (wpAny_bind (wpAny_mono (one k t hW) (fun r t1 q1 => ?_) fun _ _ => no)))
  match r with
  | none => exact wpAny_pure q1
  | some v =>
    refine wpAny_bind (wpAny_mono q1 (fun _ t2 q2 => wpAny_bind (wpAny_mono q2 (fun _ t3 q3 => wpAny_bind (wpAny_mono q3 (fun ok t4 q4 => ?_) fun _ _ => no)) fun _ _ => no)) fun _ _ => no)
    match ok with
    | false => exact wpAny_pure ⟨rfl, q4⟩
    | true =>
      rw [if_pos rfl] at q4
      refine wpAny_bind (wpAny_bind (wpAny_mono q4 (fun x t5 q5 => wpAny_bind (wpAny_mono q5 (fun _ t6 q6 => ?_) fun _ _ => no)) fun _ _ => no))
      exact wpAny_pure (wpAny_pure ⟨rfl, q6⟩)

/-! ### the block of a comprehension -/
/-- the block's names' values at its start: none, or those of the def's names -/
def entV (ix : List (Option Nat)) (σ : St) : St := ix.map fun o => o.bind fun j => σ[j]?.join
theorem entV_get {ix : List (Option Nat)} {σ : St} {i : Nat} {v : V} (h : (entV ix σ)[i]? = some (some v)) : ∃ j, ix[i]? = some (some j) ∧ σ[j]? = some (some v) := by
  unfold entV at h
  rw [List.getElem?_map] at h
  cases e : ix[i]? with
  | none => rw [e] at h; cases h
  | some o =>
    rw [e] at h
    cases o with
    | none => cases h
    | some j =>
      have h : some (σ[j]?.join) = some (some v) := h
      refine ⟨j, rfl, ?_⟩
      cases q : σ[j]? with
      | none => rw [q] at h; cases h
      | some z => rw [q] at h; cases h; rfl
/-- N': the block's names; ix: for each of them where it stands among the def's names (or none: a target) -/
def compOk (N : List Str) (sc scope : Scope) (N' : List Str) (ix : List (Option Nat)) : Bool :=
  ix.length == N'.length && (ix.zip N').all (fun p => match p.1 with | none => true | some j => N[j]? == some p.2 && scope.names.lookup p.2 == some NameKind.free) &&
  scope.names.all (fun y => y.2 != NameKind.cell && (y.2 != NameKind.free || sc.names.lookup y.1 == some NameKind.cell || sc.names.lookup y.1 == some NameKind.free) && (y.2 != NameKind.local || scope.names.lookup y.1 == some NameKind.local)) &&
  scope.kind == ScopeKind.function
structure CompOk (N : List Str) (sc scope : Scope) (N' : List Str) (ix : List (Option Nat)) : Prop where
  len : ix.length = N'.length
  at_ : ∀ (i j : Nat) (x : Str), ix[i]? = some (some j) → N'[i]? = some x → N[j]? = some x ∧ scope.names.lookup x = some .free
  nocell : ∀ y ∈ scope.names, y.2 ≠ .cell
  free : ∀ y ∈ scope.names, y.2 = .free → sc.names.lookup y.1 = some .cell ∨ sc.names.lookup y.1 = some .free
  loc : ∀ y ∈ scope.names, y.2 = .local → scope.names.lookup y.1 = some .local
  kind : scope.kind = .function
theorem CompOk.of {N : List Str} {sc scope : Scope} {N' : List Str} {ix : List (Option Nat)} (h : compOk N sc scope N' ix = true) : CompOk N sc scope N' ix := by
  unfold compOk at h
  simp only [Bool.and_eq_true, beq_iff_eq, List.all_eq_true] at h
  obtain ⟨⟨⟨h1, h2⟩, h3⟩, h4⟩ := h
  refine ⟨h1, fun i j x a b => ?_, fun y hy e => ?_, fun y hy e => ?_, fun y hy e => ?_, h4⟩
  · have hm : (some j, x) ∈ ix.zip N' := List.mem_of_getElem? (i := i) (by rw [List.getElem?_zip_eq_some]; exact ⟨a, b⟩)
    have q := h2 _ hm
    simp only [Bool.and_eq_true, beq_iff_eq] at q
    exact q
  · have q := h3 y hy
    simp only [Bool.and_eq_true, bne_iff_ne, ne_eq] at q
    exact q.1.1 e
  · have q := (h3 y hy).1.2
    rw [e] at q
    simpa using q
  · have q := (h3 y hy).2
    rw [e] at q
    simpa using q

/-- the context of the block: its frame at C, entered at s₂, H₂, its iterator's records fp -/
def compCx (X : Cx) (N' : List Str) (scope : Scope) (C : Addr) (s₂ : Shared) (H₂ : Hp) (fp : List Addr) : Cx where
  prog := X.prog
  w := X.w
  K := X.K
  mg := X.mg
  base := X.base
  A := X.A
  N := N'
  s₀ := s₂
  H₀ := H₂
  env := compEnvC scope (clOf X.env scope.names) C X.env
  outer := X.stack
  stack := X.stack
  ex := fp
  fn := fun _ => false
  calm := X.calm
  pn := []
  xe := fun _ _ => False
section
variable {X : Cx} {N' : List Str} {ix : List (Option Nat)} {scope : Scope} {pins : List (Addr × Obj)} {σ : St} {H₂ : Hp} {s₂ : Shared} {fp : List Addr} {C : Addr}
theorem CompOk.cells (S : CompOk X.N X.env.scope scope N' ix) (I : Inv X pins σ H₂ s₂) : ∀ y ∈ scope.names, y.2 = .free → ∃ c, X.env.cells.lookup y.1 = some c := fun y hy e => I.ok.has y.1 (S.free y hy e)
theorem CompOk.get (S : CompOk X.N X.env.scope scope N' ix) (I : Inv X pins σ H₂ s₂) {x : Str} {c : Addr} (h : (clOf X.env scope.names).lookup x = some c) : X.env.cells.lookup x = some c := by
  rcases cl_get scope.names [] (S.cells I) h with q | q
  · exact absurd q (by simp)
  · exact q
theorem compCx_ok (S : CompOk X.N X.env.scope scope N' ix) (I : Inv X pins σ H₂ s₂) (hf : ∀ b ∈ fp, FpOk X pins H₂ b) (hC : s₂.heap.objs.size ≤ C) (hfC : ∀ b ∈ fp, b < s₂.heap.objs.size) : (compCx X N' scope C s₂ H₂ fp).Ok where
  mod := I.ok.mod
  kind := S.kind
  glob := I.ok.glob
  blt := I.ok.blt
  above := hC
  inj := fun x y c a b => I.ok.inj x y c (S.get I a) (S.get I b)
  has := fun x h => cl_has scope.names [] (.inl (relabel_free S.nocell h))
  cab := fun x c h => by cases h
  hd := I.ok.hd
  frames := I.ok.frames
  stk := .inl rfl
  exf := fun b hb => ⟨Nat.ne_of_lt (Nat.lt_of_lt_of_le (hfC b hb) hC), fun x c e => (hf b hb).2.2.2.2.1 x c (S.get I e)⟩
  bs := I.bs
  bsz := Nat.le_trans I.ok.bsz I.sz
  noex := fun b o e hb => by
    rcases (hf b hb).2.2.2.1 with z | z
    · exact I.ok.noex b o e z
    · exact absurd (Nat.lt_of_lt_of_le (Heap.lt_size e) (Nat.le_trans I.ok.bsz z)) (Nat.lt_irrefl _)
  exfs := fun b hb hm => by
    rcases List.mem_cons.mp (I.stkSub b hm) with z | z
    · exact (hf b hb).2.1 z
    · exact (hf b hb).2.2.1 z
  funs := I.stack
  frf := I.stkFree
/-- the block is entered: a list D and its frame C are laid, both untracked -/
theorem comp_start (S : CompOk X.N X.env.scope scope N' ix) (I : Inv X pins σ H₂ s₂) (hf : ∀ b ∈ fp, FpOk X pins H₂ b) (hfC : ∀ b ∈ fp, b < s₂.heap.objs.size) {D : Addr} {h₁ : Heap} {tk : Nat} {m : Str → Option Value} {ob : Obj}
    (hC : s₂.heap.objs.size ≤ C) (hD : s₂.heap.objs.size ≤ D) (hDC : D ≠ C) (old : ∀ b o, s₂.heap.get? b = some o → h₁.get? b = some o) (hn : h₁.Ns C m) (hob : h₁.get? D = some ob) (hd : ∀ v, ob.data ≠ .cell v) :
    Inv (compCx X N' scope C s₂ H₂ fp) [(D, ob)] (entV ix σ) H₂ { s₂ with heap := h₁, toks := tk } := by
  have fr : ∀ a, s₂.heap.objs.size ≤ a → H₂ a = none := fun a ha => I.hok.fresh ha
  have cOf : ∀ x c, (clOf X.env scope.names).lookup x = some c → X.env.cells.lookup x = some c := fun x c e => S.get I e
  refine ⟨compCx_ok S I hf hC hfC, rfl, I.bare, Un.kept old, ⟨m, hn, fun i x v e1 e2 e3 => ?_⟩, fun x c e => ?_, fr C hC, fun x c e => I.freeC x c (cOf x c e), fun p hp => ?_, I.hok.kept old, ?_⟩
  · obtain ⟨j, q1, q2⟩ := entV_get e2
    obtain ⟨n1, n2⟩ := S.at_ i j x q1 e1
    have hm : (x, NameKind.free) ∈ scope.names := PySem.mem_of_lookup n2
    have hv : Vis X.env.scope x := by
      rcases S.free _ hm rfl with z | z
      · exact .inr (.inl z)
      · exact .inr (.inr z)
    obtain ⟨m0, _, hl⟩ := I.loc
    obtain ⟨u, r, l⟩ := hl j x v n1 q2 hv
    refine ⟨u, r, ?_⟩
    have hne : ¬ X.env.kindOf x = some .local := fun z => by
      have z : X.env.scope.names.lookup x = some .local := z
      rcases S.free _ hm rfl with y | y
      · rw [y] at z; cases z
      · rw [y] at z; cases z
    rcases l with ⟨k, _⟩ | ⟨k, c, e, z⟩
    · exact absurd k hne
    · obtain ⟨c', hc'⟩ := cl_has (env := X.env) (x := x) scope.names [] (.inl hm)
      have hc'' := cOf x c' hc'
      rw [e] at hc''
      cases hc''
      have kk : (compCx X N' scope C s₂ H₂ fp).env.kindOf x = some .cell ∨ (compCx X N' scope C s₂ H₂ fp).env.kindOf x = some .free := by
        rcases e3 with y | y | y
        · exfalso
          have : ∀ {names : List (Str × NameKind)}, names.lookup x = some .free →
            (names.map fun (n, k) => if (k == NameKind.free && X.env.scope.kind == .function && X.env.kindOf n == some .cell) then (n, NameKind.cell) else (n, k)).lookup x = some .local → False := by
            intro names
            induction names with
            | nil => intro a; simp at a
            | cons p r ih =>
              obtain ⟨n, k⟩ := p
              intro a b
              simp only [List.map_cons] at b
              simp only [List.lookup_cons] at a
              cases hx : x == n with
              | true =>
                rw [hx] at a
                simp only [Option.some.injEq] at a
                subst a
                split at b
                · simp [List.lookup_cons, hx] at b
                · simp [List.lookup_cons, hx] at b
              | false =>
                rw [hx] at a
                split at b
                · simp only [List.lookup_cons, hx] at b; exact ih a b
                · simp only [List.lookup_cons, hx] at b; exact ih a b
          exact this n2 y
        · exact .inl y
        · exact .inr y
      obtain ⟨oc, ho, hod⟩ := z
      exact .inr ⟨kk, c, hc', oc, old _ _ ho, hod⟩
  · obtain ⟨v, o, ho, hod⟩ := I.cell x c (cOf x c e)
    exact ⟨v, o, old _ _ ho, hod⟩
  · have hp : p ∈ [(D, ob)] := hp
    have e : p = (D, ob) := by simpa using hp
    subst e
    refine ⟨hob, fr D hD, hDC, fun hb => ?_, hd⟩
    have hb : D ∈ frs X.stack := hb
    rcases List.mem_cons.mp (I.stkSub D hb) with z | z
    · exact absurd I.lt (by rw [← z]; exact Nat.not_lt.mpr hD)
    · exact I.nofs hD z
  · show (entV ix σ).length = N'.length
    unfold entV
    rw [List.length_map, S.len]
/-- the block is left: the list is tracked -/
theorem comp_leave (I : Inv X pins σ H₂ s₂) (hf : ∀ b ∈ fp, FpOk X pins H₂ b) {pins' : List (Addr × Obj)} {σ' : St} {H' : Hp} {s' : Shared} {D : Addr} {ys : List V} {its : List Value} (hC : s₂.heap.objs.size ≤ C) (hD : s₂.heap.objs.size ≤ D)
    (J : Inv (compCx X N' scope C s₂ H₂ fp) pins' σ' H' s') (hn : H' D = none) (hl : s'.heap.PlainList D its.toArray) (r : Vals ys its) (hz : ys.length ≤ sizeLine) : Inv X pins σ (upd H' D (.lst ys)) s' := by
  have sb : Un (frs X.stack) fp H₂ H' s₂.heap s'.heap := J.base
  have nD : ∀ b u, H' b = some u → b ≠ D := fun b u e => ne_of_none e hn
  refine I.call' (ch := fp) J.os ⟨sb.keep, sb.slot, fun b o e n hx => ?_, sb.there, fun b xs e => ?_, fun b o u e => ?_, fun b ps e => ?_⟩ (fun b u e => ?_) J.bare (fun b hb => ?_)
  · rw [upd_ne (Nat.ne_of_lt (Nat.lt_of_lt_of_le (Heap.lt_size e) hD))]
    exact sb.free b o e n hx
  · have q := sb.tups b xs e
    rw [upd_ne (nD b _ q)]; exact q
  · have q := sb.frzs b o u e
    rw [upd_ne (nD b _ q)]; exact q
  · obtain ⟨more, q⟩ := sb.tbls b ps e
    exact ⟨more, by rw [upd_ne (nD b _ q)]; exact q⟩
  · by_cases hb : b = D
    · subst hb
      rw [upd_same] at e
      cases e
      obtain ⟨n, hg⟩ := hl
      exact ⟨hz, its, n, r, hg⟩
    · rw [upd_ne hb] at e
      exact (J.hok b u e).stay (fun c v _ q => q) (fun c q => by rw [upd_ne (nD c _ q)]; exact q) fun c xs q => by rw [upd_ne (nD c _ q)]; exact q
  · obtain ⟨_, f1, _, f3, f4, f5⟩ := hf b hb
    exact ⟨f3, f1, f4, f5⟩
end
end L2
namespace L2
open PySem PySem.Spec PyProof.Rows

/-- a comprehension: W is what holds between two turns, ys the items so far -/
def CompW (J : It) (g : TG) (tc : TT) (te : TE) (Kf : List V → Hp → Prop) (σ0 : St) (H1 : Hp) : Prop :=
  ∃ W : Nat → Nat → List V → St → Hp → Prop, (∃ m, W 0 m [] σ0 H1) ∧ ∀ i m ys σ' H', W i m ys σ' H' → ys.length < sizeLine ∧
    ((J.stop i H' ∧ Kf ys H') ∨ (J.go i H' ∧ ∃ N : List V → St → Hp → Prop, (∀ ys' σ2 H2, N ys' σ2 H2 → ∃ m', m' < m ∧ W (i + 1) m' ys' σ2 H2) ∧ ∀ x H'', J.yld i H' x H'' → g x σ' H'' fun σ2 H2 => tc σ2 H2 fun b H3 =>
      if b = true then te σ2 H3 fun y H4 => N (ys ++ [y]) σ2 H4 else N ys σ2 H3))
def tComp (wi : TI) (ix : List (Option Nat)) (g : TG) (tc : TT) (te : TE) : TE := fun σ H Q =>
  wi σ H fun J H1 => CompW J g tc te (fun ys H' => ∀ l, H' l = none → Q (.ref l) (upd H' l (.lst ys))) (entV ix σ) H1

section
variable {X : Cx} {tg elt iter : Expr} {ifs : List Expr} {scope : Scope} {pos : Pos} {N' : List Str} {ix : List (Option Nat)} {wi : TI} {g : TG} {tc : TT} {te : TE}

/-- where the block ends -/
def CompEnd (X : Cx) (pins : List (Addr × Obj)) (σ : St) (Kf : List V → Hp → Prop) (acc : Value) (C : Addr) (s' : Shared) : Prop :=
  ∃ D H' ys, acc = .ref D ∧ H' D = none ∧ Inv X pins σ (upd H' D (.lst ys)) s' ∧ (∃ m, s'.heap.Ns C m) ∧ H' C = none ∧ D ≠ C ∧ C ≠ X.env.locals ∧ X.s₀.heap.objs.size ≤ C ∧ (∀ x c, X.env.cells.lookup x = some c → c ≠ C) ∧ (∀ p ∈ X.pn ++ pins, p.1 ≠ C) ∧ Kf ys H'

theorem comp_core {pins : List (Addr × Obj)} {s₂ : Shared} {σ : St} {H₂ : Hp} {it : Addr} {fp : List Addr} {tn : Nat → Heap → Prop} {J : It} {Kf : List V → Hp → Prop} {RR : Value → Addr → Result → Shared → Prop} {E : Value → Shared → Prop}
    (S : CompOk X.N X.env.scope scope N' ix) (hc : X.calm = true)
    (hg : ∀ C s₂ H₂ fp, PG (compCx X N' scope C s₂ H₂ fp) tg g) (ht : ∀ C s₂ H₂ fp, PIfs (compCx X N' scope C s₂ H₂ fp) ifs tc) (he : ∀ C s₂ H₂ fp, PE (compCx X N' scope C s₂ H₂ fp) elt te)
    (I2 : Inv X pins σ H₂ s₂) (T : Turn X.prog X.w X.K tg J fp it tn) (st2 : tn 0 s₂.heap) (f2 : ∀ b ∈ fp, FpOk X pins H₂ b) (w : CompW J g tc te Kf (entV ix σ) H₂)
    (hR : ∀ acc C s', CompEnd X pins σ Kf acc C s' → RR acc C (.ok .next) s') :
    wpAny (model X.prog X.w) X.A (newList []) (fun acc s₃ => wpAny (model X.prog X.w) X.A (newFunctionEnv scope X.env.globals (clOf X.env scope.names) [] X.env.qual none .none (some X.env)) (fun cenv s₄ =>
      codeAny (model X.prog X.w) X.A (.compStart (.ListComp elt [⟨tg, iter, ifs, 0⟩] scope pos) 0 (.ref it) acc { cenv with scope := relabel scope X.env }) (RR acc cenv.locals) s₄) E s₃) E s₂ := by
  obtain ⟨W, ⟨m0, w0⟩, turn⟩ := w
  refine wpAny_newObj_type (wpAny_newFunctionEnv S.nocell (by intro y hy; simp at hy) (fun h₁ nsN sbN => ?_) S.kind)
  dsimp only at nsN sbN ⊢
  generalize eH : s₂.heap.push { cls := .type "list", dict := none, data := .seq ([] : List Value).toArray } = G2 at nsN sbN ⊢
  have sizeC : G2.objs.size = s₂.heap.objs.size + 1 := by rw [← eH, Heap.size_push]
  have neDC : s₂.heap.objs.size ≠ G2.objs.size := by rw [sizeC]; exact Nat.ne_of_lt (Nat.lt_succ_self _)
  have leC : s₂.heap.objs.size ≤ G2.objs.size := by rw [sizeC]; exact Nat.le_succ _
  have older : ∀ b, b < s₂.heap.objs.size → b ≠ G2.objs.size ∧ b ≠ s₂.heap.objs.size := fun b hb => ⟨by rw [sizeC]; exact Nat.ne_of_lt (Nat.lt_succ_of_lt hb), Nat.ne_of_lt hb⟩
  have keepOld : ∀ b o, s₂.heap.get? b = some o → h₁.get? b = some o := fun b o e => sbN.extBut b o (older b (Heap.lt_size e)).1 (Heap.get?_push_of_some _ (eH ▸ Heap.get?_push_of_some _ e))
  have accNew : h₁.PlainList s₂.heap.objs.size #[] := ⟨_, sbN.extBut _ _ neDC (Heap.get?_push_of_some _ (eH ▸ Heap.get?_push_size _ rfl))⟩
  generalize eC : G2.objs.size = C at *
  generalize eD : s₂.heap.objs.size = D at *
  have hfC : ∀ b ∈ fp, b < s₂.heap.objs.size := fun b hb => by
    obtain ⟨o, e, _⟩ := T.obj 0 _ st2 b hb
    exact Heap.lt_size e
  have hfD : ∀ b ∈ fp, b ≠ D := fun b hb => by have := hfC b hb; rw [eD] at this; exact Nat.ne_of_lt this
  have hfC' : ∀ b ∈ fp, b ≠ C := fun b hb => by have := hfC b hb; rw [eD] at this; exact Nat.ne_of_lt (Nat.lt_of_lt_of_le this leC)
  have geD : s₂.heap.objs.size ≤ D := by rw [eD]; exact Nat.le_refl _
  have geC : s₂.heap.objs.size ≤ C := by rw [eD]; exact leC
  obtain ⟨nn, hob⟩ := id accNew
  have J1 : Inv (compCx X N' scope C s₂ H₂ fp) [] (entV ix σ) H₂ { s₂ with heap := h₁, toks := s₂.toks + ([] : List (Str × Value)).length } :=
    (comp_start S I2 f2 hfC geC geD neDC keepOld nsN hob (fun v z => by cases z)).pins_of (fun p hp => absurd hp (by simp))
  have nfsD : D ∉ frs X.stack := fun hb => by
    rcases List.mem_cons.mp (I2.stkSub D hb) with z | z
    · exact absurd I2.lt (by rw [← z]; exact Nat.not_lt.mpr geD)
    · exact I2.nofs geD z
  have cOf : ∀ x c, (clOf X.env scope.names).lookup x = some c → c ≠ D ∧ c ≠ C := fun x c e => by
    obtain ⟨v, z⟩ := I2.cell x c (S.get I2 e)
    have := z.lt
    rw [eD] at this
    exact ⟨Nat.ne_of_lt this, Nat.ne_of_lt (Nat.lt_of_lt_of_le this leC)⟩
  -- the records may turn, whatever is pinned besides
  have fpk : ∀ {pl : List (Addr × Obj)} {H' : Hp}, (∀ b ∈ fp, H' b = none) → (∀ p ∈ pl, p.1 ∉ fp) → ∀ b ∈ fp, FpOk (compCx X N' scope C s₂ H₂ fp) pl H' b := fun {pl H'} hn hp b hb =>
    ⟨hn b hb, hfC' b hb, fun z => by
        rcases List.mem_cons.mp (I2.stkSub b z) with q | q
        · exact (f2 b hb).2.1 q
        · exact (f2 b hb).2.2.1 q,
      .inl hb, fun x c e => (f2 b hb).2.2.2.2.1 x c (S.get I2 e), fun p hp' z => hp p (by simpa [compCx] using hp') (by rw [z]; exact hb)⟩
  have dpk : ∀ {H' : Hp}, H' D = none → ∀ b ∈ [D], FpOk (compCx X N' scope C s₂ H₂ fp) [] H' b := fun {H'} hn b hb => by
    have e : b = D := by simpa using hb
    subst e
    exact ⟨hn, neDC, nfsD, .inr geD, fun x c e => (cOf x c e).1, fun p hp => absurd hp (by simp [compCx])⟩
  have loop : codeAny (model X.prog X.w) X.A (.compLoop (.ListComp elt [⟨tg, iter, ifs, 0⟩] scope pos) 0 (.ref it) (.ref D) (compEnvC scope (clOf X.env scope.names) C X.env)) (RR (.ref D) C) { s₂ with heap := h₁, toks := s₂.toks + ([] : List (Str × Value)).length } := by
    refine comp_loop (fun n s' => ∃ i ys σ' H' its, Inv (compCx X N' scope C s₂ H₂ fp) [] σ' H' s' ∧ tn i s'.heap ∧ (∀ b ∈ fp, H' b = none) ∧ H' D = none ∧ s'.heap.PlainList D its.toArray ∧ Vals ys its ∧ W i n ys σ' H') ?_ m0
      ⟨0, [], _, H₂, [], J1, T.keep _ _ _ st2 fun b _ o e => keepOld b o e, fun b hb => (f2 b hb).1, I2.hok.fresh geD, accNew, .nil, w0⟩
    rintro n s3 ⟨i, ys, σ3, H3, its, I3, st3, fr3, dn3, pl3, rv3, w3⟩
    obtain ⟨nn3, hob3⟩ := id pl3
    have oD : ∀ b ∈ [D], ∃ o, s3.heap.get? b = some o ∧ ∀ v, o.data ≠ .cell v := fun b hb => by
      have e : b = D := by simpa using hb
      subst e
      exact ⟨_, hob3, fun v z => by cases z⟩
    have I3' : Inv (compCx X N' scope C s₂ H₂ fp) (pinsAt [D] s3.heap) σ3 H3 s3 := by
      have := I3.pinned (dpk dn3) oD
      simpa using this
    have pD : (D, ({ cls := .type "list", data := .seq its.toArray nn3 } : Obj)) ∈ pinsAt [D] s3.heap := mem_pinsAt (by simp) hob3
    have npD : ∀ p ∈ pinsAt [D] s3.heap, p.1 ∉ fp := fun p hp z => by
      have e : p.1 = D := by simpa using (of_pinsAt hp).1
      exact hfD _ z e
    obtain ⟨hys, tt⟩ := turn i n ys σ3 H3 w3
    rcases tt with ⟨stop, qn⟩ | ⟨go, N, hN, step⟩
    · refine wpAny_mono (T.done (compCx X N' scope C s₂ H₂ fp) rfl rfl rfl hc i (pinsAt [D] s3.heap) s3 σ3 H3 (fun _ _ => False) I3' (fpk fr3 npD) st3 stop) (fun r s4 ⟨hr, I4⟩ => ?_) fun _ _ z => z
      subst hr
      have g4 := (I4.pin _ (List.mem_append_right _ pD)).1
      refine hR _ _ _ ⟨D, H3, ys, rfl, dn3, comp_leave I2 f2 geC geD I4 dn3 ⟨nn3, g4⟩ rv3 (Nat.le_of_lt hys), ?_, ?_, neDC, ?_, ?_, ?_, ?_, qn⟩
      · obtain ⟨m, hm, _⟩ := I4.loc
        exact ⟨m, hm⟩
      · exact I4.free
      · exact Nat.ne_of_gt (Nat.lt_of_lt_of_le I2.lt geC)
      · exact Nat.le_trans I2.sz geC
      · intro x c e z
        obtain ⟨v, q⟩ := I2.cell x c e
        exact absurd (Nat.lt_of_lt_of_le q.lt geC) (by rw [z]; exact Nat.lt_irrefl _)
      · intro p hp z
        exact absurd (Nat.lt_of_lt_of_le (Heap.lt_size (I2.pin p hp).1) geC) (by rw [z]; exact Nat.lt_irrefl _)
    · refine wpAny_mono (T.item (compCx X N' scope C s₂ H₂ fp) rfl rfl rfl hc i (pinsAt [D] s3.heap) s3 σ3 H3 (fun _ _ => False) I3' (fpk fr3 npD) st3 go) (fun r s4 ⟨u, hr, h4⟩ => ?_) fun _ _ z => z
      subst hr
      refine wpAny_mono h4 (fun _ s5 ⟨x, H5, I5, r5, y5, st5, fr5⟩ => ?_) fun _ _ z => z
      have I5' := I5.pinned (fpk fr5 npD) (T.obj _ _ st5)
      refine wpAny_mono (hg C s₂ H₂ fp _ s5 σ3 H5 x u _ I5' r5 (step x H5 y5)) (fun _ s6 ⟨σ6, H6, I6, q6⟩ => ?_) fun _ _ z => z
      refine wpAny_mono (ht C s₂ H₂ fp _ s6 σ6 H6 _ I6 q6) (fun b s7 ⟨H7, I7, q7⟩ => ?_) fun _ _ z => z
      have fin : ∀ {s8 : Shared} {σ8 : St} {H8 : Hp}, Inv (compCx X N' scope C s₂ H₂ fp) (pinsAt [D] s3.heap ++ pinsAt fp s5.heap) σ8 H8 s8 → s8.heap.get? D = some { cls := .type "list", data := .seq its.toArray nn3 } ∧ H8 D = none ∧
          tn (i + 1) s8.heap ∧ ∀ b ∈ fp, H8 b = none := fun {s8 σ8 H8} I8 => by
        have q := I8.pin _ (List.mem_append_right _ (List.mem_append_left _ pD))
        refine ⟨q.1, q.2.1, T.keep _ _ _ st5 fun b hb o e => (I8.pin (b, o) (List.mem_append_right _ (List.mem_append_right _ (mem_pinsAt hb e)))).1, fun b hb => ?_⟩
        obtain ⟨o, e, d⟩ := T.obj _ _ st5 b hb
        exact (I8.pin (b, o) (List.mem_append_right _ (List.mem_append_right _ (mem_pinsAt hb e)))).2.1
      cases b with
      | false =>
        obtain ⟨m', hm, w7⟩ := hN _ _ _ q7
        obtain ⟨a1, a2, a3, a4⟩ := fin I7
        exact ⟨m', hm, i + 1, ys, σ6, H7, its, I7.pins_of fun p hp => absurd hp (by simp), a3, a4, a2, ⟨nn3, a1⟩, rv3, w7⟩
      | true =>
        refine wpAny_mono (he C s₂ H₂ fp _ s7 σ6 H7 _ I7 q7) (fun v s8 ⟨y, H8, I8, r8, n8⟩ => ?_) fun _ _ z => z
        obtain ⟨m', hm, w8⟩ := hN _ _ _ n8
        obtain ⟨a1, a2, a3, a4⟩ := fin I8
        have hsz : its.toArray.size ≤ sizeLine := by
          have := rv3.length
          rw [List.size_toArray]
          omega
        refine wpAny_list_append_plain (hsz := hsz) ⟨nn3, a1⟩ fun h9 hl9 hs9 => ?_
        have I9 : Inv (compCx X N' scope C s₂ H₂ fp) [] σ6 H8 { s8 with heap := h9 } :=
          (I8.pins_of (pins' := []) fun p hp => absurd hp (by simp)).turned (t' := s8.toks) (fun b o hb e => (hs9.2 b hb).trans e) a2 neDC (.inr geD) (fun x c e => (cOf x c e).1) fun p hp => absurd hp (by simp [compCx])
        refine ⟨m', hm, i + 1, ys ++ [y], σ6, H8, its ++ [v], I9, T.keep _ _ _ a3 fun b hb o e => (hs9.2 b (hfD b hb)).trans e, a4, a2, ?_, rv3.append (.cons r8 .nil), w8⟩
        have e : (its ++ [v]).toArray = its.toArray.push v := by simp
        rw [e]; exact hl9
  exact codeAny_compStart_list loop (T.self _ 0 _ _ _ (T.keep _ _ _ st2 fun b _ o e => keepOld b o e) loop)

/-- [elt for tg in iter if ..] -/
theorem pe_comp (N' : List Str) (ix : List (Option Nat)) (hi : PI X tg iter wi) (hg : ∀ C s₂ H₂ fp, PG (compCx X N' scope C s₂ H₂ fp) tg g) (ht : ∀ C s₂ H₂ fp, PIfs (compCx X N' scope C s₂ H₂ fp) ifs tc)
    (he : ∀ C s₂ H₂ fp, PE (compCx X N' scope C s₂ H₂ fp) elt te) (S : compOk X.N X.env.scope scope N' ix = true := by rfl) (hc : X.calm = true := by rfl) (hs : ∀ x, foldedSetIterable iter X.env x = pure x := by intro _; rfl) :
    PE X (.ListComp elt [⟨tg, iter, ifs, 0⟩] scope pos) (tComp wi ix g tc te) := by
  intro pins s σ H Q I h
  have S := CompOk.of S
  rw [eval_ListComp]
  refine wpAny_comprehension_free (use := none) (cl := clOf X.env scope.names) rfl hs (closure_of fun y hy e => I.ok.has y.1 (S.free y hy e)) S.kind S.loc (thn (hi pins s σ H _ I h) fun xv s₁ h₁ => thn h₁ fun itv s₂ h₂ => ?_)
  obtain ⟨it, fp, tn, J, H₂, rfl, I2, T, st2, f2, w⟩ := h₂
  refine comp_core (RR := fun acc C => compPost (model X.prog X.w) X.A X.xe none (EP X pins σ Q) acc C) S hc hg ht he I2 T st2 f2 w fun acc C s' ce => ?_
  obtain ⟨D, H', ys, rfl, dn, J', hm, cn, dc, c1, c2, c3, c4, kf⟩ := ce
  obtain ⟨m, hm⟩ := hm
  refine ⟨m, hm, fun h' hs' => ⟨.ref D, _, J'.turned (t' := s'.toks) (fun b o hb e => (hs'.2 b hb).trans e) (by rw [upd_ne dc.symm]; exact cn) c1 (.inr c2) c3 c4, rfl, kf D dn⟩⟩

/-- x = [elt for tg in iter if ..] where the list goes right into its name -/
theorem ps_setC (N' : List Str) (ix : List (Option Nat)) {i : Nat} {x : Str} {pos' spos : Pos} (hN : X.N.Nodup) (hxi : X.N[i]? = some x) (hx : Loc X.env.scope x) (hi : PI X tg iter wi) (hg : ∀ C s₂ H₂ fp, PG (compCx X N' scope C s₂ H₂ fp) tg g) (ht : ∀ C s₂ H₂ fp, PIfs (compCx X N' scope C s₂ H₂ fp) ifs tc)
    (he : ∀ C s₂ H₂ fp, PE (compCx X N' scope C s₂ H₂ fp) elt te) (S : compOk X.N X.env.scope scope N' ix = true := by rfl) (hc : X.calm = true := by rfl) (hs : ∀ x, foldedSetIterable iter X.env x = pure x := by intro _; rfl)
    (hsw : swapsWith (.ListComp elt [⟨tg, iter, ifs, 0⟩] scope pos) (some (.Name x pos')) spos.line X.env = pure true := by rfl) (hf : X.fn x = true ∨ X.env.scope.names.lookup x = some .local := by first | exact .inl rfl | exact .inr rfl | assumption) :
    PS X (.Assign [.Name x pos'] (.ListComp elt [⟨tg, iter, ifs, 0⟩] scope pos) spos) (tAsg (tComp wi ix g tc te) (gName i)) := by
  intro pins s σ H D I h
  have S := CompOk.of S
  rw [exec_Assign_Name_used _ _ _ _ hsw]
  refine wpAny_bind (wpAny_standAt (wpAny_bind ?_))
  show wpAny _ X.A (do let _ ← comprehension (.ListComp elt [⟨tg, iter, ifs, 0⟩] scope pos) scope X.env _ (newList []) false (eval iter X.env) (some (assign (.Name x pos') X.env))) _ _ s
  refine wpAny_bind (wpAny_mono (wpAny_comprehension_free (use := some (assign (.Name x pos') X.env)) (cl := clOf X.env scope.names) (Q := fun _ s' => SP X pins D .next s') rfl hs (closure_of fun y hy e => I.ok.has y.1 (S.free y hy e)) S.kind S.loc
    (thn (hi pins s σ H _ I h) fun xv s₁ h₁ => thn h₁ fun itv s₂ h₂ => ?_)) (fun _ s' hq => wpAny_pure (wpAny_pure hq)) fun _ _ e => e)
  obtain ⟨it, fp, tn, J, H₂, rfl, I2, T, st2, f2, w⟩ := h₂
  refine comp_core (RR := fun acc C => compPost (model X.prog X.w) X.A X.xe (some (assign (.Name x pos') X.env)) (fun _ s' => SP X pins D .next s') acc C) S hc hg ht he I2 T st2 f2 w fun acc C s' ce => ?_
  obtain ⟨D', H', ys, rfl, dn, J', hm, cn, dc, c1, c2, c3, c4, kf⟩ := ce
  obtain ⟨m, hm⟩ := hm
  show wpAny _ X.A (assign (.Name x pos') X.env (.ref D')) _ _ _
  refine wpAny_assign_Name (store_ok2 (v := .ref D') J' hN hxi hx rfl (fun s2 J2 hsb => ?_) hf)
  obtain ⟨a, hsb, ha⟩ := hsb
  have hCa : C ≠ a := by
    rcases ha with z | z
    · rw [z]; exact c1
    · exact (c3 x a z).symm
  refine ⟨m, hm.sameBut hsb hCa, fun h' hs' => ?_⟩
  exact ⟨_, _, J2.turned (t' := s2.toks) (fun b o hb e => (hs'.2 b hb).trans e) (by rw [upd_ne dc.symm]; exact cn) c1 (.inr c2) c3 c4, kf D' dn⟩

/-- over a list that stays -/
theorem comp_list {K : PySem.W.Frag} {a : Addr} {xs : List V} {Kf : List V → Hp → Prop} {σ0 : St} {H1 : Hp} (Pv : Nat → List V → St → Hp → Prop) (hz : xs.length < sizeLine) (h0 : Pv 0 [] σ0 H1) (hb : ∀ i ys σ H, Pv i ys σ H → ys.length ≤ i) (hl : ∀ i ys σ H, i ≤ xs.length → Pv i ys σ H → SqL K H a xs)
    (hs : ∀ i x ys σ H, xs[i]? = some x → Pv i ys σ H → g x σ H fun σ2 H2 => tc σ2 H2 fun b H3 => if b = true then te σ2 H3 fun y H4 => Pv (i + 1) (ys ++ [y]) σ2 H4 else Pv (i + 1) ys σ2 H3) (hd : ∀ ys σ H, Pv xs.length ys σ H → Kf ys H) : CompW (Itl K a) g tc te Kf σ0 H1 := by
  refine ⟨fun i m ys σ H => m = xs.length - i ∧ i ≤ xs.length ∧ Pv i ys σ H, ⟨xs.length, by simp, Nat.zero_le _, h0⟩, ?_⟩
  rintro i m ys σ H ⟨rfl, hi, p⟩
  have q := hl i ys σ H hi p
  refine ⟨Nat.lt_of_le_of_lt (hb _ _ _ _ p) (Nat.lt_of_le_of_lt hi hz), ?_⟩
  by_cases hlt : i < xs.length
  · refine .inr ⟨⟨xs, xs[i], q, by simp [hlt]⟩, Pv (i + 1), fun ys' σ' H' p' => ⟨xs.length - (i + 1), Nat.sub_lt_sub_left hlt (Nat.lt_succ_self i), rfl, hlt, p'⟩, fun x H' y => ?_⟩
    obtain ⟨e, y⟩ := y
    subst e
    exact hs i x ys σ _ (y xs q) p
  · have e : i = xs.length := by omega
    subst e
    exact .inl ⟨⟨xs, q, Nat.le_refl _⟩, hd ys σ H p⟩
theorem comp_tup {K : PySem.W.Frag} {a : Addr} {xs : List V} {Kf : List V → Hp → Prop} {σ0 : St} {H1 : Hp} (Pv : Nat → List V → St → Hp → Prop) (hz : xs.length < sizeLine) (h0 : Pv 0 [] σ0 H1) (hb : ∀ i ys σ H, Pv i ys σ H → ys.length ≤ i) (hl : ∀ i ys σ H, i ≤ xs.length → Pv i ys σ H → SqT K H a xs)
    (hs : ∀ i x ys σ H, xs[i]? = some x → Pv i ys σ H → g x σ H fun σ2 H2 => tc σ2 H2 fun b H3 => if b = true then te σ2 H3 fun y H4 => Pv (i + 1) (ys ++ [y]) σ2 H4 else Pv (i + 1) ys σ2 H3) (hd : ∀ ys σ H, Pv xs.length ys σ H → Kf ys H) : CompW (Itt K a) g tc te Kf σ0 H1 := by
  refine ⟨fun i m ys σ H => m = xs.length - i ∧ i ≤ xs.length ∧ Pv i ys σ H, ⟨xs.length, by simp, Nat.zero_le _, h0⟩, ?_⟩
  rintro i m ys σ H ⟨rfl, hi, p⟩
  have q := hl i ys σ H hi p
  refine ⟨Nat.lt_of_le_of_lt (hb _ _ _ _ p) (Nat.lt_of_le_of_lt hi hz), ?_⟩
  by_cases hlt : i < xs.length
  · refine .inr ⟨⟨xs, xs[i], q, by simp [hlt]⟩, Pv (i + 1), fun ys' σ' H' p' => ⟨xs.length - (i + 1), Nat.sub_lt_sub_left hlt (Nat.lt_succ_self i), rfl, hlt, p'⟩, fun x H' y => ?_⟩
    obtain ⟨e, y⟩ := y
    subst e
    exact hs i x ys σ _ (y xs q) p
  · have e : i = xs.length := by omega
    subst e
    exact .inl ⟨⟨xs, q, Nat.le_refl _⟩, hd ys σ H p⟩
theorem comp_range {lo : Int} {n : Nat} {Kf : List V → Hp → Prop} {σ0 : St} {H1 : Hp} (Pv : Nat → List V → St → Hp → Prop) (hz : n < sizeLine) (h0 : Pv 0 [] σ0 H1) (hb : ∀ i ys σ H, Pv i ys σ H → ys.length ≤ i)
    (hs : ∀ i ys σ H, i < n → Pv i ys σ H → g (.int (lo + i)) σ H fun σ2 H2 => tc σ2 H2 fun b H3 => if b = true then te σ2 H3 fun y H4 => Pv (i + 1) (ys ++ [y]) σ2 H4 else Pv (i + 1) ys σ2 H3) (hd : ∀ ys σ H, Pv n ys σ H → Kf ys H) : CompW (Itr lo n) g tc te Kf σ0 H1 := by
  refine ⟨fun i m ys σ H => m = n - i ∧ i ≤ n ∧ Pv i ys σ H, ⟨n, by simp, Nat.zero_le _, h0⟩, ?_⟩
  rintro i m ys σ H ⟨rfl, hi, p⟩
  refine ⟨Nat.lt_of_le_of_lt (hb _ _ _ _ p) (Nat.lt_of_le_of_lt hi hz), ?_⟩
  by_cases hlt : i < n
  · refine .inr ⟨hlt, Pv (i + 1), fun ys' σ' H' p' => ⟨n - (i + 1), Nat.sub_lt_sub_left hlt (Nat.lt_succ_self i), rfl, hlt, p'⟩, fun x H' y => ?_⟩
    obtain ⟨e, y⟩ := y
    subst e y
    exact hs i ys σ _ hlt p
  · have e : i = n := by omega
    subst e
    exact .inl ⟨Nat.le_refl _, hd ys σ H p⟩
end
end L2
namespace L2
open PySem PySem.Spec PyProof.Rows
theorem revNoLen : typeLookup (.type "list_reverseiterator") "__len__" = pure none := by rw [typeLookup_type, builtinLookup_eq_fast]; kernel_rfl
theorem revHint : typeLookup (.type "list_reverseiterator") "__length_hint__" = pure (some (.builtin "list_reverseiterator.__length_hint__")) := by rw [typeLookup_type, builtinLookup_eq_fast]; kernel_rfl
/-- the new list at S, as the call of list leaves it empty -/
abbrev newL : Obj := { cls := .type "list", data := .seq #[] }
section
variable {prog : Program} {w : World} {A : Around} {E : Value → Shared → Prop} {Q : Value → Shared → Prop} {s : Shared} {it p : Addr} {items : Array Value}
/-- list(it) where it walks the list at p from its end -/
theorem list_of_rev (hh : A.handled = none) (ne : p ≠ it) (hi : s.heap.IsRevIter it p ((items.size : Int) - 1)) (hp : s.heap.IsList p items) (hz : items.size ≤ sizeLine)
    (k : ∀ t got c, (∀ b o, b ≠ it → s.heap.get? b = some o → t.heap.get? b = some o) → t.gens = s.gens → t.os = s.os →
      t.heap.get? s.heap.objs.size = some { cls := .type "list", dict := none, data := .seq got c, slots := #[] } → got.toList = items.toList.reverse → Q (.ref s.heap.objs.size) t) :
    wpAny (model prog w) A (call (.type "list") [.ref it]) Q E s := by
  let W := (Walks.listRev (prog := prog) (w := w) (A := A.in1.in1) hh it p ne items).toS
  have st0 : 0 ≤ items.size ∧ s.heap.IsRevIter it p ((items.size : Int) - 1 - ((0 : Nat) : Int)) ∧ s.heap.IsList p items := ⟨Nat.zero_le _, by simpa using hi, hp⟩
  have itLt : it < s.heap.objs.size := by
    obtain ⟨o, e, _⟩ := hi
    exact Heap.lt_size e
  have pLt : p < s.heap.objs.size := by
    obtain ⟨o, e, _⟩ := hp
    exact Heap.lt_size e
  have fresh : s.heap.objs.size ∉ [it, p] := fun m => by
    rcases List.mem_cons.mp m with z | z
    · exact Nat.lt_irrefl _ (z ▸ itLt)
    · exact Nat.lt_irrefl _ ((List.mem_singleton.mp z) ▸ pLt)
  have neS : s.heap.objs.size ≠ it := fun z => fresh (by rw [z]; exact List.mem_cons_self)
  refine callType_codes (Q₁ := fun o t => o = .ref s.heap.objs.size ∧ t = { s with heap := s.heap.push newL }) F.called_list (F.typeCall_list_1 _) F.entry_list_init (code_list_new _ ⟨rfl, rfl⟩) ?_
  rintro _ _ ⟨rfl, rfl⟩
  have hS : (s.heap.push newL).get? s.heap.objs.size = some newL := Heap.get?_push_size _ rfl
  refine ⟨⟨_, hS, rfl⟩, F.args_list_init_2 _ _, ?_⟩
  -- list.__init__: emptied, then extended
  refine wpAny_bind (m := Builtin.List.listItems (.ref s.heap.objs.size)) (wpAny_bind (wpAny_seqItems hS rfl (wpAny_pure ?_)))
  refine wpAny_bind (m := updateSeq s.heap.objs.size fun _ => #[]) (wpAny_updateSeq hS rfl (wpAny_bind (wpAny_letGo ?_)))
  have hS2 := Heap.get?_update_self (Obj.mapSeq fun _ => (#[] : Array Value)) hS rfl
  have older : ∀ b o, s.heap.get? b = some o → ((s.heap.push newL).update s.heap.objs.size (Obj.mapSeq fun _ => (#[] : Array Value))).get? b = some o := fun b o e =>
    (Heap.get?_update_other _ _ (Nat.ne_of_gt (Heap.lt_size e))).trans (Heap.get?_push_of_some _ e)
  have st1 := W.frame 0 s ((s.heap.push newL).update s.heap.objs.size (Obj.mapSeq fun _ => (#[] : Array Value))) s.toks st0 (Nat.le_refl _) fun b _ o e => older b o e
  have ty : ∀ i t, (fun (i : Nat) (t : Shared) => i ≤ items.size ∧ t.heap.IsRevIter it p ((items.size : Int) - 1 - (i : Int)) ∧ t.heap.IsList p items) i t → t.TypeIs (.ref it) "list_reverseiterator" := fun i t z => z.2.1.typeIs
  unfold Builtin.List.listExtendWith
  refine wpAny_bind (wpAny_typeOf (ty 0 _ st1) ?_)
  have same : Builtin.List.listSameRef (.ref s.heap.objs.size) (.ref it) = false := by simp [Builtin.List.listSameRef, neS]
  rw [if_neg (by rw [same]; decide)]
  refine wpAny_bind (W.self 0 _ _ _ st1 (wpAny_bind (wpAny_holding ?_)))
  unfold Builtin.List.listLengthHint
  refine wpAny_bind (wpAny_specialOf (ty 0 _ st1) revNoLen ?_)
  refine wpAny_bind (m := specialOf (Value.ref it) (Str.ofString "__length_hint__")) (wpAny_specialOf (ty 0 _ st1) revHint ?_)
  generalize hid : ("list_reverseiterator.__length_hint__" : String) = id0
  wp_delta
  rw [show splitId id0 = some ("list_reverseiterator", "__length_hint__") from by subst hid; decide +kernel]
  subst hid
  refine wpAny_bind (wpAny_isInstance (b := true) (ty 0 _ st1) (by rw [isSubtype_type]; kernel_rfl) (wpAny_pure ?_))
  rw [if_neg (by decide)]
  refine wpAny_pure ⟨plainId_quiet F.plain_extend_loop _, codeAny_extend_loopS W hz _ fresh _ items.size 0 _ _ _ rfl (Nat.zero_le _) st1 hS2 (ItemsOf.nil _) fun t got c mv at' its => ⟨rfl, ?_⟩⟩
  refine k t got c (fun b o hb e => mv.heap b o (fun m => ?_) (older b o e)) mv.gens mv.os at' ?_
  · rcases List.mem_cons.mp m with z | z
    · exact absurd (Heap.lt_size e) (by rw [z]; exact Nat.lt_irrefl _)
    · exact hb (List.mem_singleton.mp z)
  · obtain ⟨len, each⟩ := its
    refine List.ext_getElem? fun j => ?_
    by_cases hj : j < items.size
    · have g : got[j]? = some got[j] := Array.getElem?_eq_getElem (by omega)
      rw [List.getElem?_reverse (by simpa using hj), Array.getElem?_toList, Array.getElem?_toList, g, ← each j _ g]
      simp
    · rw [List.getElem?_eq_none (by simp; omega), List.getElem?_eq_none (by simp; omega)]
end
/-- list(reversed(e)), e a list -/
def tListRev (K : PySem.W.Frag) (te : TE) : TE := fun σ H Q => te σ H fun x H1 => ∃ a ys, x = .ref a ∧ SqL K H1 a ys ∧ ∀ l, H1 l = none → Q (.ref l) (upd H1 l (.lst ys.reverse))
theorem pe_listrev {X : Cx} {e : Expr} {te : TE} {p1 p2 pos1 pos2 : Pos} (he : PE X e te) (g1 : Gl X "list") (m1 : X.mg "list" = none) (g2 : Gl X "reversed") (m2 : X.mg "reversed" = none) (hc : X.calm = true := by rfl)
    (hs1 : starEach [.Call (.Name "reversed" p2) [e] [] pos2] X.env = [(false, eval (.Call (.Name "reversed" p2) [e] [] pos2) X.env)] := by rfl) (hs2 : starEach [e] X.env = [(false, eval e X.env)] := by rfl) :
    PE X (.Call (.Name "list" p1) [.Call (.Name "reversed" p2) [e] [] pos2] [] pos1) (tListRev X.K te) := by
  intro pins s σ H Q I h
  refine wpAny_Call_Name_kw (ld_blt I g1 m1 PyProof.Rows.boot_list ?_)
  refine PyProof.Rows.callWith_type1 ?_ hs1 rfl
  rw [hs1]
  refine Calls.spliced_cons (wpAny_Call_Name_kw (ld_blt I g2 m2 PyProof.Rows.boot_reversed ?_))
  refine PyProof.Rows.callWith_type1 ?_ hs2 rfl
  rw [hs2]
  refine Calls.spliced_cons (thn (he pins s σ H _ I h) fun u s1 ⟨x, H1, I1, r1, a, ys, ex, hq, q⟩ => Calls.spliced_nil ?_)
  subst ex
  cases r1
  obtain ⟨its, rv, pl, hz⟩ := I1.list hq
  have il := pl.isList
  refine call_reversed_list il (Calls.spliced_nil ?_)
  have I2 : Inv X pins σ H1 { s1 with heap := s1.heap.push (revObj a ((its.toArray.size : Int) - 1)) } := I1.kept (t' := s1.toks) fun b o e => Heap.get?_push_of_some _ e
  have aLt : a < s1.heap.objs.size := by
    obtain ⟨o, e, _⟩ := il
    exact Heap.lt_size e
  have len := rv.length
  obtain ⟨f0, f1, f2, f3, f4, f5⟩ : FpOk X pins H1 s1.heap.objs.size := I1.fpOk (Nat.le_refl _) (I1.hok.fresh (Nat.le_refl _))
  refine list_of_rev (p := a) (items := its.toArray) (I.ok.hd hc) (Nat.ne_of_lt aLt) ⟨_, Heap.get?_push_size _ rfl, rfl, rfl⟩ (il.at fun o e => Heap.get?_push_of_some _ e) (by rw [List.size_toArray]; omega) ?_
  intro t got c keep gens os at' eg
  obtain ⟨D, eD⟩ : ∃ D, (s1.heap.push (revObj a ((its.toArray.size : Int) - 1))).objs.size = D := ⟨_, rfl⟩
  have hD : (s1.heap.push (revObj a ((its.toArray.size : Int) - 1))).objs.size ≤ D := Nat.le_of_eq eD
  dsimp only at at' ⊢
  rw [eD] at at' ⊢
  have fD : H1 D = none := I2.hok.fresh hD
  have neT : ∀ b u, H1 b = some u → b ≠ s1.heap.objs.size := fun b u e z => by rw [z, f0] at e; cases e
  refine ⟨.ref D, upd H1 D (.lst ys.reverse), I2.call' (ch := [s1.heap.objs.size]) os ⟨fun b o e n _ hx => keep b o (fun z => hx (by simp [z])) e, fun b o e n _ hx => ⟨o.slots, keep b o (fun z => hx (by simp [z])) e⟩, fun b o e n _ => ?_, fun b o e hx => ⟨o, keep b o (fun z => hx (by simp [z])) e⟩, fun b xs e => ?_, fun b o u e => ?_, fun b ps e => ⟨#[], ?_⟩⟩ (fun b u e => ?_) (by rw [gens]; exact I2.bare) (fun b hb => ?_), rfl, q D fD⟩
  · rw [upd_ne (fun z => absurd (Heap.lt_size e) (by rw [z]; exact Nat.not_lt.mpr hD))]; exact n
  · rw [upd_ne (ne_of_none e fD)]; exact e
  · rw [upd_ne (ne_of_none e fD)]; exact e
  · rw [upd_ne (ne_of_none e fD), e]; simp
  · by_cases hb : b = D
    · subst hb
      rw [upd_same] at e
      cases e
      have at2 : t.heap.get? b = some { cls := .type "list", dict := none, data := .seq its.reverse.toArray c, slots := #[] } := by
        rw [at', ← Array.toArray_toList (xs := got), eg]
      exact ⟨by rw [List.length_reverse]; exact hz, its.reverse, c, Vals.reverse rv, at2⟩
    · rw [upd_ne hb] at e
      refine (I2.hok b u e).stay (fun c' v hc' q' => keep c' v ?_ q') (fun c' q' => by rw [upd_ne (ne_of_none q' fD)]; exact q') fun c' xs q' => by rw [upd_ne (ne_of_none q' fD)]; exact q'
      rcases hc' with z | z
      · rw [z]; exact neT b u e
      · exact neT c' _ z
  · have z : b = s1.heap.objs.size := by simpa using hb
    subst z
    exact ⟨f3, f1, f4, f5⟩
end L2
namespace L2
open PySem PySem.Spec PyProof.Rows
/-- // by a number of at most 250 bits -/
def CDivB (i j : Int) : Prop := 0 < j ∧ j < 2 ^ 250
theorem op_fdivB {X : Cx} : OpR X (binaryOp .FloorDiv) (rI CDivB fun i j => .int (i / j)) := opI fun i j _ _ _ _ _ hc q => by
  obtain ⟨h0, h1⟩ := hc
  refine floordiv_int (by omega) ?_ (.inl (PyProof.noPylong_of_log2 ?_))
  · rw [Int.fdiv_eq_ediv_of_nonneg i (by omega)]; exact q
  · have h2 : j.natAbs < 2 ^ 250 := by
      have e : ((j.natAbs : Nat) : Int) = j := Int.natAbs_of_nonneg (by omega)
      have : ((j.natAbs : Nat) : Int) < ((2 ^ 250 : Nat) : Int) := by rw [e]; exact_mod_cast h1
      exact Int.ofNat_lt.mp this
    have h3 : j.natAbs ≠ 0 := by omega
    have h4 : j.natAbs.log2 < 250 := (Nat.log2_lt h3).mpr h2
    exact Nat.lt_of_lt_of_le h4 (by decide)

/-! ### a deal and its draws -/
def dealK (sd n : Int) (l : Addr) : List (Key × V) := [(.inr "seed", .int sd), (.inr "number", .int n), (.inr "left", .ref l)]
theorem ksn : ¬ ((Sum.inr ("seed" : Str) : Key) = Sum.inr ("number" : Str)) := by decide +kernel
theorem ksl : ¬ ((Sum.inr ("seed" : Str) : Key) = Sum.inr ("left" : Str)) := by decide +kernel
theorem knl : ¬ ((Sum.inr ("number" : Str) : Key) = Sum.inr ("left" : Str)) := by decide +kernel
theorem kns : ¬ ((Sum.inr ("number" : Str) : Key) = Sum.inr ("seed" : Str)) := by decide +kernel
theorem kls : ¬ ((Sum.inr ("left" : Str) : Key) = Sum.inr ("seed" : Str)) := by decide +kernel
theorem kln : ¬ ((Sum.inr ("left" : Str) : Key) = Sum.inr ("number" : Str)) := by decide +kernel
theorem deal_seed (sd n : Int) (l : Addr) : valV (dealK sd n l) (Sum.inr "seed" : Key) = some (.int sd) := by unfold dealK; rw [valV_pos rfl]
theorem deal_number (sd n : Int) (l : Addr) : valV (dealK sd n l) (Sum.inr "number" : Key) = some (.int n) := by unfold dealK; rw [valV_neg ksn, valV_pos rfl]
theorem deal_left (sd n : Int) (l : Addr) : valV (dealK sd n l) (Sum.inr "left" : Key) = some (.ref l) := by unfold dealK; rw [valV_neg ksl, valV_neg knl, valV_pos rfl]
theorem put_seed (sd n v : Int) (l : Addr) : putK (dealK sd n l) (Sum.inr "seed" : Key) (.int v) = dealK v n l := by
  unfold putK dealK
  simp
  exact ⟨fun z => absurd (congrArg Sum.inr z) kns, fun z => absurd (congrArg Sum.inr z) kls⟩
theorem put_number (sd n v : Int) (l : Addr) : putK (dealK sd n l) (Sum.inr "number" : Key) (.int v) = dealK sd v l := by
  unfold putK dealK
  simp
  exact ⟨fun z => absurd (congrArg Sum.inr z) ksn, fun z => absurd (congrArg Sum.inr z) kln⟩
structure DealAt (H : Hp) (d l : Addr) (sd n : Int) (ls : List Int) : Prop where
  dc : H d = some (.dK (dealK sd n l))
  lc : H l = some (.lst (ls.map V.int))
  s0 : 0 ≤ sd
  s1 : sd < 2147483647
  n0 : 0 ≤ n
  l0 : ∀ x ∈ ls, 0 ≤ x
def Deal (H : Hp) (d l : Addr) : Prop := ∃ sd n ls, DealAt H d l sd n ls
theorem DealAt.ne {H : Hp} {d l : Addr} {sd n : Int} {ls : List Int} (D : DealAt H d l sd n ls) : d ≠ l := ne_of D.dc D.lc (by intro z; cases z)
/-- all but the deal is as it was -/
def Out (d l : Addr) (H H' : Hp) : Prop := ∀ b o, H b = some o → b ≠ d → b ≠ l → H' b = some o
theorem Out.refl {d l : Addr} (H : Hp) : Out d l H H := fun _ _ e _ _ => e
theorem Out.trans {d l : Addr} {H H1 H2 : Hp} (a : Out d l H H1) (b : Out d l H1 H2) : Out d l H H2 := fun c o e h1 h2 => b c o (a c o e h1 h2) h1 h2
theorem Out.of {d l : Addr} {H H' : Hp} (s : Same H H') : Out d l H H' := fun c o e _ _ => s c o e
theorem Out.upd_d {d l : Addr} {H : Hp} {o : HO} : Out d l H (upd H d o) := fun b u e h1 _ => by rw [upd_ne h1]; exact e
theorem Out.upd_l {d l : Addr} {H : Hp} {o : HO} : Out d l H (upd H l o) := fun b u e _ h1 => by rw [upd_ne h1]; exact e
theorem same_new {H : Hp} {p : Addr} (h : H p = none) (o : HO) : Same H (upd H p o) := fun b u q => by rw [upd_ne (ne_of_none q h)]; exact q
theorem DealAt.seed {H : Hp} {d l : Addr} {sd n : Int} {ls : List Int} (D : DealAt H d l sd n ls) {v : Int} (h0 : 0 ≤ v) (h1 : v < 2147483647) : DealAt (upd H d (.dK (dealK v n l))) d l v n ls :=
  ⟨upd_same, by rw [upd_ne D.ne.symm]; exact D.lc, h0, h1, D.n0, D.l0⟩
theorem DealAt.number {H : Hp} {d l : Addr} {sd n : Int} {ls : List Int} (D : DealAt H d l sd n ls) {v : Int} (h0 : 0 ≤ v) : DealAt (upd H d (.dK (dealK sd v l))) d l sd v ls :=
  ⟨upd_same, by rw [upd_ne D.ne.symm]; exact D.lc, D.s0, D.s1, h0, D.l0⟩
theorem DealAt.left {H : Hp} {d l : Addr} {sd n : Int} {ls ls' : List Int} (D : DealAt H d l sd n ls) (h : ∀ x ∈ ls', 0 ≤ x) : DealAt (upd H l (.lst (ls'.map V.int))) d l sd n ls' :=
  ⟨by rw [upd_ne D.ne]; exact D.dc, upd_same, D.s0, D.s1, D.n0, h⟩
theorem DealAt.out {H H' : Hp} {d l : Addr} {sd n : Int} {ls : List Int} (D : DealAt H d l sd n ls) (s : Same H H') : DealAt H' d l sd n ls := ⟨s _ _ D.dc, s _ _ D.lc, D.s0, D.s1, D.n0, D.l0⟩
theorem Deal.same {H H' : Hp} {d l : Addr} (D : Deal H d l) (s : Same H H') : Deal H' d l := let ⟨sd, n, ls, q⟩ := D; ⟨sd, n, ls, q.out s⟩
theorem DealAt.gs {H : Hp} {d l : Addr} {sd n : Int} {ls : List Int} (D : DealAt H d l sd n ls) : DGet H d (.str "seed") (some (.int sd)) := by rw [← deal_seed sd n l]; exact DGet.k (k := Sum.inr "seed") D.dc
theorem DealAt.gn {H : Hp} {d l : Addr} {sd n : Int} {ls : List Int} (D : DealAt H d l sd n ls) : DGet H d (.str "number") (some (.int n)) := by rw [← deal_number sd n l]; exact DGet.k (k := Sum.inr "number") D.dc
theorem DealAt.gl {H : Hp} {d l : Addr} {sd n : Int} {ls : List Int} (D : DealAt H d l sd n ls) : DGet H d (.str "left") (some (.ref l)) := by rw [← deal_left sd n l]; exact DGet.k (k := Sum.inr "left") D.dc
theorem DealAt.ps {H : Hp} {d l : Addr} {sd n : Int} {ls : List Int} (D : DealAt H d l sd n ls) (v : Int) : DPut H d (.str "seed") (.int v) (upd H d (.dK (dealK v n l))) := by
  rw [← put_seed sd n v l]; exact DPut.k (k := Sum.inr "seed") D.dc (small1000 (by show 3 ≤ 1000; decide))
theorem DealAt.pn {H : Hp} {d l : Addr} {sd n : Int} {ls : List Int} (D : DealAt H d l sd n ls) (v : Int) : DPut H d (.str "number") (.int v) (upd H d (.dK (dealK sd v l))) := by
  rw [← put_number sd n v l]; exact DPut.k (k := Sum.inr "number") D.dc (small1000 (by show 3 ≤ 1000; decide))
/-- a draw below m: some number, the deal turned, nothing else -/
def spDraw : Sp := fun vs H Q _ => ∃ (d l : Addr) (m : Int), vs = [.ref d, .int m] ∧ Deal H d l ∧ 0 < m ∧ m < 2 ^ 64 ∧
  ∀ (r : Int) (H' : Hp), 0 ≤ r → r < m → Deal H' d l → Out d l H H' → Q (.int r) H'
/-- a deal of the script -/
def spDeal (K : PySem.W.Frag) : Sp := fun vs H Q _ => ∃ (a : Addr) (ns : List Int) (b : Int), vs = [.ref a, .int b] ∧ SqL K H a (ns.map V.int) ∧ ns.length ≤ 63 ∧ 0 ≤ b ∧ b ≤ 1000 ∧
  ∀ (d l : Addr) (H' : Hp), H d = none → H l = none → Deal H' d l → Same H H' → Q (.ref d) H'
theorem ints_at {ns : List Int} {i : Nat} {y : V} (h : (ns.map V.int)[i]? = some y) : ∃ z, y = V.int z ∧ ns[i]? = some z := by
  rw [List.getElem?_map] at h
  cases e : ns[i]? with
  | none => rw [e] at h; cases h
  | some z => rw [e] at h; exact ⟨z, (Option.some.inj h).symm, rfl⟩
end L2
namespace L2
open PySem PySem.Spec PyProof.Rows
/-! ### plain data: ints, texts, bools, None, tuples, lists -/
mutual
def RepD (K : PySem.W.Frag) (H : Hp) : PyData → V → Prop
  | .none, v => v = .non
  | .bool b, v => v = .bl b
  | .int i, v => v = .int i
  | .str x, v => v = .str x
  | .tuple ds, v => ∃ a vs, v = .ref a ∧ SqT K H a vs ∧ RepL K H ds vs
  | .list ds, v => ∃ a vs, v = .ref a ∧ SqL K H a vs ∧ RepL K H ds vs
  | .dict _, _ => False
def RepL (K : PySem.W.Frag) (H : Hp) : List PyData → List V → Prop
  | [], vs => vs = []
  | d :: ds, vs => ∃ v r, vs = v :: r ∧ RepD K H d v ∧ RepL K H ds r
end
section
variable {X : Cx} {pins : List (Addr × Obj)} {σ : St} {H : Hp} {s : Shared}
mutual
theorem RepD.reads (I : Inv X pins σ H s) : ∀ (d : PyData) (v : V) (u : Value), RepD X.K H d v → RelV v u → ∃ as, Reads s.heap u d as
  | .none, v, u, h, r => by
    have h : v = .non := h
    subst h; cases r; exact ⟨_, .none⟩
  | .bool b, v, u, h, r => by
    have h : v = .bl b := h
    subst h; cases r; exact ⟨_, .bool b⟩
  | .int i, v, u, h, r => by
    have h : v = .int i := h
    subst h; obtain ⟨t, rfl⟩ := r; exact ⟨_, .int i t⟩
  | .str x, v, u, h, r => by
    have h : v = .str x := h
    subst h; obtain ⟨t, rfl⟩ := r; exact ⟨_, .str x t⟩
  | .tuple ds, v, u, h, r => by
    obtain ⟨a, vs, rfl, hs, hl⟩ := h
    cases r
    obtain ⟨its, rv, ⟨o, ho, hc, n, hd⟩, _⟩ := I.tuple hs
    obtain ⟨as, ra⟩ := RepL.reads I ds vs its hl rv
    exact ⟨_, .tuple ho hc hd (by simpa using ra)⟩
  | .list ds, v, u, h, r => by
    obtain ⟨a, vs, rfl, hs, hl⟩ := h
    cases r
    obtain ⟨its, rv, pl, _⟩ := I.list hs
    obtain ⟨o, ho, hc, n, hd⟩ := pl.isList
    obtain ⟨as, ra⟩ := RepL.reads I ds vs its hl rv
    exact ⟨_, .list ho hc hd (by simpa using ra)⟩
  | .dict _, v, u, h, r => h.elim
theorem RepL.reads (I : Inv X pins σ H s) : ∀ (ds : List PyData) (vs : List V) (us : List Value), RepL X.K H ds vs → Vals vs us → ∃ as, ReadsAll s.heap us ds as
  | [], vs, us, h, r => by
    have h : vs = [] := h
    subst h; cases r; exact ⟨_, .nil⟩
  | d :: ds, vs, us, h, r => by
    obtain ⟨v, t, rfl, hd, ht⟩ := h
    cases r with
    | cons r1 r2 =>
      obtain ⟨as, ra⟩ := RepD.reads I d v _ hd r1
      obtain ⟨bs, rb⟩ := RepL.reads I ds t _ ht r2
      exact ⟨_, .cons ra rb⟩
end
end
section
variable {X : Cx}
/-! tuples of ints -/
/-! isinstance, all -/
theorem call_all (hc : X.calm = true := by rfl) : CallR X (.builtin "all") (fun xs H Q => ∃ (p : Addr) (bs : List Bool), xs = [.ref p] ∧ SqL X.K H p (bs.map V.bl) ∧ Q (.bl (bs.all id)) H) := by
  intro pins s σ H xs us Q I r h
  obtain ⟨p, bs, rfl, hq, q⟩ := h
  obtain ⟨u, rfl, ru⟩ := vals1 r
  cases ru
  obtain ⟨its, rv, pl, hz⟩ := I.list hq
  have lp : p < s.heap.objs.size := by
    obtain ⟨o, e, _⟩ := pl.isList
    exact Heap.lt_size e
  refine call_all_walk (wpAny_pyIter_list pl.isList ⟨s.heap.objs.size, _, _, _, _, _, fun i => bs.getD i true, rfl, Walks.list (A := X.A.in1) (I.ok.hd hc) s.heap.objs.size p (Nat.ne_of_lt lp) its.toArray, ⟨⟨_, Heap.get?_push_size _ rfl, rfl, rfl⟩, pl.isList.at fun o e => Heap.get?_push_of_some _ e⟩, ?_, ?_⟩)
  · intro i v s1 Q1 E1 hv hq1
    have hi : its[i]? = some v := by simpa using hv
    have hl := rv.length
    rw [List.length_map] at hl
    have hb : i < bs.length := by
      have := (List.getElem?_eq_some_iff.mp hi).1
      omega
    obtain ⟨u, hu, ru⟩ := rv.get (i := i) (x := V.bl bs[i]) (by rw [List.getElem?_map, List.getElem?_eq_getElem hb]; rfl)
    rw [hi] at hu
    cases hu
    cases ru
    have e : bs.getD i true = bs[i] := by simp [List.getD, hb]
    dsimp only at hq1
    rw [e] at hq1
    exact wpAny_truthy_bool hq1
  · intro h' tk hk
    have kept : ∀ b o, s.heap.get? b = some o → h'.get? b = some o := fun b o e => hk b o (by
      intro z
      have z : b = s.heap.objs.size := by simpa using z
      exact absurd (Heap.lt_size e) (by rw [z]; exact Nat.lt_irrefl _)) (Heap.get?_push_of_some _ e)
    refine ⟨.bl (bs.all id), H, I.kept kept, ?_, q⟩
    show Value.bool _ = Value.bool _
    have hl := rv.length
    rw [List.length_map] at hl
    have e : ((List.range its.toArray.size).all fun i => bs.getD i true) = bs.all id := by
      rw [List.size_toArray, ← hl]
      clear q hq rv pl hk hz hl
      rw [Bool.eq_iff_iff, List.all_eq_true, List.all_eq_true]
      constructor
      · intro h b hb
        obtain ⟨i, hi, e⟩ := List.getElem_of_mem hb
        have := h i (List.mem_range.mpr hi)
        simp [List.getD, hi] at this
        rw [← e]; exact this
      · intro h i hi
        have hi := List.mem_range.mp hi
        simp [List.getD, hi]
        exact h _ (List.getElem_mem hi)
    rw [e]
end
end L2
namespace L2
open PySem PySem.Spec PyProof.Rows
/-! ### the rules that name the fragment, with the fragment told: for a comprehension's block -/
section
variable {X : Cx} (K : PySem.W.Frag)
theorem lenK (hK : X.K = K := by rfl) : CallR X (.builtin "len") (fun xs H Q => ∃ p ys, xs = [.ref p] ∧ (SqL K H p ys ∨ SqT K H p ys) ∧ Q (.int ys.length) H) := by subst hK; exact call_len_seq
theorem ixlK (hK : X.K = K := by rfl) : IxR X (rIxL K) := by subst hK; exact ix_list
theorem ixtK (hK : X.K = K := by rfl) : IxR X (rIxT K) := by subst hK; exact ix_tup
theorem inK (hK : X.K = K := by rfl) : OpR X (compareOp .In) (rIn K false) := by subst hK; exact op_in_seq
theorem ninK (hK : X.K = K := by rfl) : OpR X (compareOp .NotIn) (rIn K true) := by subst hK; exact op_notIn_seq
end
end L2
namespace L2
open PySem PySem.Spec PyProof.Rows
theorem iteP {c A B : Prop} [Decidable c] (hc : c) (h : A) : if c then A else B := by rw [if_pos hc]; exact h
theorem iteN {c A B : Prop} [Decidable c] (hc : ¬ c) (h : B) : if c then A else B := by rw [if_neg hc]; exact h
theorem at0 {α : Type} (v : α) (r : List α) : atI (v :: r) 0 = some v := by
  have h : (0 : Int) < ((v :: r).length : Int) := by simp
  unfold atI ixN
  rw [if_pos (by decide), if_pos h]
  rfl
/-! ### list(range(a, b)) -/
def rangeI (lo : Int) (n : Nat) : List Int := (List.range n).map fun (i : Nat) => lo + (i : Int)
/-! ### any -/
section
variable {X : Cx}
theorem call_any (hc : X.calm = true := by rfl) : CallR X (.builtin "any") (fun xs H Q => ∃ (p : Addr) (bs : List Bool), xs = [.ref p] ∧ SqL X.K H p (bs.map V.bl) ∧ Q (.bl (bs.any id)) H) := by
  intro pins s σ H xs us Q I r h
  obtain ⟨p, bs, rfl, hq, q⟩ := h
  obtain ⟨u, rfl, ru⟩ := vals1 r
  cases ru
  obtain ⟨its, rv, pl, hz⟩ := I.list hq
  have lp : p < s.heap.objs.size := by
    obtain ⟨o, e, _⟩ := pl.isList
    exact Heap.lt_size e
  refine call_any_walk (wpAny_pyIter_list pl.isList ⟨s.heap.objs.size, _, _, _, _, _, fun i => bs.getD i false, rfl, Walks.list (A := X.A.in1) (I.ok.hd hc) s.heap.objs.size p (Nat.ne_of_lt lp) its.toArray, ⟨⟨_, Heap.get?_push_size _ rfl, rfl, rfl⟩, pl.isList.at fun o e => Heap.get?_push_of_some _ e⟩, ?_, ?_⟩)
  · intro i v s1 Q1 E1 hv hq1
    have hi : its[i]? = some v := by simpa using hv
    have hl := rv.length
    rw [List.length_map] at hl
    have hb : i < bs.length := by
      have := (List.getElem?_eq_some_iff.mp hi).1
      omega
    obtain ⟨u, hu, ru⟩ := rv.get (i := i) (x := V.bl bs[i]) (by rw [List.getElem?_map, List.getElem?_eq_getElem hb]; rfl)
    rw [hi] at hu
    cases hu
    cases ru
    have e : bs.getD i false = bs[i] := by simp [List.getD, hb]
    dsimp only at hq1
    rw [e] at hq1
    exact wpAny_truthy_bool hq1
  · intro h' tk hk
    have kept : ∀ b o, s.heap.get? b = some o → h'.get? b = some o := fun b o e => hk b o (by
      intro z
      have z : b = s.heap.objs.size := by simpa using z
      exact absurd (Heap.lt_size e) (by rw [z]; exact Nat.lt_irrefl _)) (Heap.get?_push_of_some _ e)
    refine ⟨.bl (bs.any id), H, I.kept kept, ?_, q⟩
    show Value.bool _ = Value.bool _
    have hl := rv.length
    rw [List.length_map] at hl
    have e : ((List.range its.toArray.size).any fun i => bs.getD i false) = bs.any id := by
      rw [List.size_toArray, ← hl]
      clear q hq rv pl hk hz hl
      rw [Bool.eq_iff_iff, List.any_eq_true, List.any_eq_true]
      constructor
      · rintro ⟨i, hi, h⟩
        have hi := List.mem_range.mp hi
        simp [List.getD, hi] at h
        exact ⟨_, List.getElem_mem hi, h⟩
      · rintro ⟨b, hb, h⟩
        obtain ⟨i, hi, e⟩ := List.getElem_of_mem hb
        refine ⟨i, List.mem_range.mpr hi, ?_⟩
        simp [List.getD, hi]
        rw [e]; exact h
    rw [e]
theorem pgtK {es : List Expr} {k : Nat} {t : TGs} {n : Nat} {pos : Pos} (K : PySem.W.Frag) (hc : X.calm = true) (h : PGs X es t) (hK : X.K = K := by rfl)
    (hn : (assignEach es X.env).length = n := by rfl) (hst : (assignEach es X.env).findIdx? (·.1) = none := by rfl) : PG X (.Tuple es k pos) (gTup K n t) := by subst hK; exact pg_tup hc h hn hst
end
/-! ### pairs of ints, as tuples on the heap -/
def Prs (H : Hp) : List V → List (Int × Int) → Prop
  | [], [] => True
  | v :: vs, p :: ps => (∃ a, v = .ref a ∧ H a = some (.tup [.int p.1, .int p.2])) ∧ Prs H vs ps
  | _, _ => False
theorem Prs.mono {H H' : Hp} (h : ∀ a xs, H a = some (.tup xs) → H' a = some (.tup xs)) : ∀ {vs : List V} {ps : List (Int × Int)}, Prs H vs ps → Prs H' vs ps
  | [], [], _ => trivial
  | _ :: _, _ :: _, ⟨⟨a, e, t⟩, r⟩ => ⟨⟨a, e, h _ _ t⟩, Prs.mono h r⟩
  | [], _ :: _, z => z.elim
  | _ :: _, [], z => z.elim
theorem Prs.same {H H' : Hp} {vs : List V} {ps : List (Int × Int)} (s : Same H H') (r : Prs H vs ps) : Prs H' vs ps := r.mono fun _ _ e => s _ _ e
theorem Prs.append {H : Hp} : ∀ {vs ws : List V} {ps qs : List (Int × Int)}, Prs H vs ps → Prs H ws qs → Prs H (vs ++ ws) (ps ++ qs)
  | [], _, [], _, _, r => r
  | _ :: _, _, _ :: _, _, ⟨e, r⟩, r2 => ⟨e, Prs.append r r2⟩
  | [], _, _ :: _, _, z, _ => z.elim
  | _ :: _, _, [], _, z, _ => z.elim
theorem Prs.length {H : Hp} : ∀ {vs : List V} {ps : List (Int × Int)}, Prs H vs ps → vs.length = ps.length
  | [], [], _ => rfl
  | _ :: _, _ :: _, ⟨_, r⟩ => by simp [Prs.length r]
  | [], _ :: _, z => z.elim
  | _ :: _, [], z => z.elim
theorem Prs.get {H : Hp} : ∀ {vs : List V} {ps : List (Int × Int)} {i : Nat} {v : V}, Prs H vs ps → vs[i]? = some v → ∃ a x y, v = .ref a ∧ H a = some (.tup [.int x, .int y])
  | v :: vs, p :: ps, 0, w, ⟨⟨a, e, t⟩, _⟩, h => by simp at h; subst h; exact ⟨a, _, _, e, t⟩
  | v :: vs, p :: ps, i + 1, w, ⟨_, r⟩, h => Prs.get r (by simpa using h)
  | [], [], _, _, _, h => by simp at h
  | [], _ :: _, _, _, z, _ => z.elim
  | _ :: _, [], _, _, z, _ => z.elim
end L2
namespace L2
open PySem PySem.Spec PyProof.Rows
/-! ### products of great numbers -/
def Below (i : Int) : Prop := -(2 ^ 250) < i ∧ i < 2 ^ 250
theorem Below.bits {i : Int} (h : Below i) : Builtin.Int.intBits i ≤ 2 ^ 20 := by
  have h1 : i.natAbs < 2 ^ 250 := by
    have := h.1; have := h.2; omega
  exact Nat.le_trans (PyProof.Rows.intBits_le h1) (by decide)
/-! ### repr of plain data -/
section
variable {X : Cx}
end
/-! ### a, b, c = x, y, z with plain local names -/
end L2
namespace L2
open PySem PySem.Spec PyProof.Rows
section
variable {X : Cx} {pins : List (Addr × Obj)} {σ : St} {H : Hp} {s : Shared} {h' : Heap}
end
/-! ### zip of two tuples of one length: its records stand at n .. n + 4 -/
section
variable {prog : Program} {w : World} {A : Around} {E : Value → Shared → Prop} {s : Shared}
/-- the records of a zip over the tuples at l1, l2, i taken -/
structure ZipAt (g : Heap) (n l1 l2 : Addr) (i : Nat) : Prop where
  z : IsZip g (n + 4) (n + 2) (n + 3) .none
  I : IsPair g (n + 2) (.ref n) (.ref (n + 1))
  O : ∃ a b, IsPair g (n + 3) a b
  i1 : g.IsTupleIter n l1 i
  i2 : g.IsTupleIter (n + 1) l2 i
end
end L2
namespace L2
open PySem PySem.Spec PyProof.Rows
section
variable {prog : Program} {w : World} {A : Around} {E : Value → Shared → Prop} {s : Shared}
end
/-! ### the walk over a zip of two tuples of one length -/
section
variable {g : TG} {tc : TT} {te : TE}
end
end L2
namespace L2
open PySem PySem.Spec PyProof.Rows
/-! ### texts -/
section
variable {X : Cx} {tg : Expr}
/-- x[lo:hi] of a text -/
def rSlS : V → Option Int → Option Int → Hp → VK → Prop := fun x lo hi H Q => ∃ z, x = .str z ∧ z.length ≤ sizeLine ∧ Q (.str (Txt.slice z lo hi)) H
theorem sl_str : SlR X rSlS := by
  intro pins s σ H x v vl vu lo hi sl Q I rx hs pl pu h
  obtain ⟨z, rfl, hz, q⟩ := h
  obtain ⟨t, rfl⟩ := rx
  refine ⟨"str", _, F.slot_str_getitem.lookup, typeIs_str _ _ _, ?_⟩
  have fin : ∀ {lo hi : Option Int}, Q (.str (Txt.slice z lo hi)) H → ∀ t' k, EP X pins σ Q (.str (Txt.slice z lo hi) t') { s with toks := k } := fun q t' k => ⟨.str _, H, I.tok k, ⟨_, rfl⟩, q⟩
  cases pl with
  | none =>
    cases pu with
    | none => exact wpAny_getItem_str_slice (l := none) (u := none) (st := none) hs rfl (post_val_or_str ⟨Nat.le_trans (Txt.slice_le z _ _) hz, fin q⟩)
    | int j u => exact wpAny_getItem_str_slice (l := none) (u := some (j, u)) (st := none) hs rfl (post_val_or_str ⟨Nat.le_trans (Txt.slice_le z _ _) hz, fin q⟩)
  | int i u' =>
    cases pu with
    | none => exact wpAny_getItem_str_slice (l := some (i, u')) (u := none) (st := none) hs rfl (post_val_or_str ⟨Nat.le_trans (Txt.slice_le z _ _) hz, fin q⟩)
    | int j u => exact wpAny_getItem_str_slice (l := some (i, u')) (u := some (j, u)) (st := none) hs rfl (post_val_or_str ⟨Nat.le_trans (Txt.slice_le z _ _) hz, fin q⟩)
theorem strsAre_of : ∀ {ys : List Str} {us : List Value}, Vals (ys.map V.str) us → StrsAre us ys
  | [], _, r => by
    cases r
    exact .nil
  | y :: ys, _, r => by
    cases r with
    | cons r1 r2 =>
      obtain ⟨t, rfl⟩ := r1
      exact .cons y t (strsAre_of r2)
/-- sep.join(list of texts) -/
def rJoin (K : PySem.W.Frag) : V → List V → Hp → VK → Prop := fun x vs H Q => ∃ (sep : Str) (p : Addr) (ys : List Str), x = .str sep ∧ vs = [.ref p] ∧ SqL K H p (ys.map V.str) ∧ (ys.map (·.length)).sum + ys.length * sep.length ≤ 16777216 ∧ Q (.str (Txt.join sep ys)) H
theorem mt_join : MtR X "str.join" (rJoin X.K) := by
  intro pins s σ H x xs v us Q I rx rs h
  obtain ⟨sep, p, ys, rfl, rfl, hq, hz, q⟩ := h
  obtain ⟨t, rfl⟩ := rx
  obtain ⟨u, rfl, ru⟩ := rs.one
  cases ru
  obtain ⟨its, rv, pl, _⟩ := I.list hq
  exact join_list pl.isList (by simpa using strsAre_of rv) hz fun t' k => ⟨.str _, H, I.tok k, ⟨_, rfl⟩, q⟩
end
end L2
namespace L2
open PySem PySem.Spec PyProof.Rows
/-! ### enumerate of a list, walked -/
def Ite (K : PySem.W.Frag) (a : Addr) : It :=
  ⟨fun i H => ∃ xs x, SqL K H a xs ∧ xs[i]? = some x,
   fun i H x H' => ∃ t, H t = none ∧ x = .ref t ∧ ∀ xs, SqL K H a xs → ∃ u, xs[i]? = some u ∧ H' = upd H t (.tup [.int i, u]),
   fun i H => ∃ xs, SqL K H a xs ∧ xs.length ≤ i⟩
theorem for_enum {K : PySem.W.Frag} {a : Addr} {xs : List V} {g : TG} {tb : TS} {D : Ends} {σ : St} {H : Hp} (Pv : Nat → St → Hp → Prop) (h0 : Pv 0 σ H) (hl : ∀ i σ H, i ≤ xs.length → Pv i σ H → SqL K H a xs)
    (hs : ∀ i x σ H t, xs[i]? = some x → Pv i σ H → H t = none → g (.ref t) σ (upd H t (.tup [.int i, x])) fun σ2 H2 => tb { D with nx := Pv (i + 1), ct := Pv (i + 1), bk := D.nx } σ2 H2) (hd : ∀ σ H, Pv xs.length σ H → D.nx σ H) :
    ∃ W : Nat → Nat → St → Hp → Prop, (∃ m, W 0 m σ H) ∧ ∀ i m σ H, W i m σ H →
      ((Ite K a).stop i H ∧ D.nx σ H) ∨ ((Ite K a).go i H ∧ ∃ N : St → Hp → Prop, (∀ σ' H', N σ' H' → ∃ m', m' < m ∧ W (i + 1) m' σ' H') ∧ ∀ x H', (Ite K a).yld i H x H' → g x σ H' fun σ2 H2 => tb { D with nx := N, ct := N, bk := D.nx } σ2 H2) := by
  refine ⟨fun i m σ H => m = xs.length - i ∧ i ≤ xs.length ∧ Pv i σ H, ⟨xs.length, by simp, Nat.zero_le _, h0⟩, ?_⟩
  rintro i m σ H ⟨rfl, hi, p⟩
  have q := hl i σ H hi p
  by_cases hlt : i < xs.length
  · refine .inr ⟨⟨xs, xs[i], q, by simp [hlt]⟩, Pv (i + 1), fun σ' H' p' => ⟨xs.length - (i + 1), Nat.sub_lt_sub_left hlt (Nat.lt_succ_self i), rfl, hlt, p'⟩, fun x H' y => ?_⟩
    obtain ⟨t, ht, rfl, w⟩ := y
    obtain ⟨u, e1, rfl⟩ := w xs q
    exact hs i u σ H t e1 p ht
  · have e : i = xs.length := by omega
    subst e
    exact .inl ⟨⟨xs, q, Nat.le_refl _⟩, hd σ H p⟩
/-! ### sum of a list of ints -/
section
variable {X : Cx}
end
end L2
namespace L2
open PySem PySem.Spec PyProof.Rows
end L2
namespace L2
open PySem PySem.Spec PyProof.Rows
/-! ### a dict's keys, walked: the dict is frozen from then on -/
theorem Inv.freeze {X : Cx} {pins : List (Addr × Obj)} {σ : St} {H : Hp} {s : Shared} {d : Addr} {o : Obj} {kvs : List (Key × V)} (I : Inv X pins σ H s) (h : H d = some (.dK kvs)) (ho : s.heap.get? d = some o) :
    Inv X pins σ (upd H d (.frz o (.dK kvs))) s := by
  have nd : ∀ b u, H b = some u → (∀ z, u ≠ .dK z) → b ≠ d := fun b u e hu z => by
    rw [z, h] at e
    exact hu _ (Option.some.inj e).symm
  refine I.step (g' := s.gens) (d' := s.drawn) (t' := s.toks) (h' := s.heap) (ch := []) (fun _ z => nomatch z) (fun b u _ _ _ e _ => e) (fun b u _ _ _ e _ => ⟨u.slots, e⟩) (fun b u _ e n => by rw [upd_ne (fun z => by rw [z, h] at n; cases n)]; exact n)
    (fun b u _ e => ⟨u, e⟩) (fun b xs e => by rw [upd_ne (nd b _ e (by intro z c; cases c))]; exact e) (fun b u v e => by rw [upd_ne (nd b _ e (by intro z c; cases c))]; exact e)
    (fun b ps e => ⟨#[], by rw [upd_ne (nd b _ e (by intro z c; cases c)), e]; simp⟩) (fun m hm => hm) (fun b u e => ?_) I.bare
  by_cases hb : b = d
  · subst hb
    rw [upd_same] at e
    cases e
    exact ⟨ho, I.hok b _ h⟩
  · rw [upd_ne hb] at e
    exact (I.hok b u e).stay (fun c v _ q => q) (fun c q => by rw [upd_ne (nd c _ q (by intro z w; cases w))]; exact q) fun c xs q => by rw [upd_ne (nd c _ q (by intro z w; cases w))]; exact q
theorem kv_get {κ : Type} : ∀ {kvs : List (κ × V)} {vs : List (κ × Value)} {i : Nat} {k : κ} {v : V}, KV kvs vs → kvs[i]? = some (k, v) → ∃ u, vs[i]? = some (k, u) ∧ RelV v u
  | _, _, _, _, _, .nil, e => by simp at e
  | _, _, 0, _, _, .cons r _, e => by
    simp at e
    subst e
    obtain ⟨r1, r2⟩ := r
    exact ⟨_, by simp; exact Prod.ext r1.symm rfl, r2⟩
  | _, _, i + 1, _, _, .cons _ r, e => by
    obtain ⟨u, e1, e2⟩ := kv_get (i := i) r (by simpa using e)
    exact ⟨u, by simpa using e1, e2⟩
theorem key_rel {k : Key} {u : Value} (h : keyIs k u = true) : RelV (kV k) u := by
  rcases keyIs_shape h with ⟨i, t, rfl, rfl⟩ | ⟨x, t, rfl, rfl⟩
  · exact ⟨t, rfl⟩
  · exact ⟨t, rfl⟩
def Itd (d : Addr) (o : Obj) (kvs : List (Key × V)) : It :=
  ⟨fun i H => i < kvs.length ∧ H d = some (.frz o (.dK kvs)), fun i H x H' => H' = H ∧ ∃ k v, kvs[i]? = some (k, v) ∧ x = kV k, fun i H => kvs.length ≤ i ∧ H d = some (.frz o (.dK kvs))⟩
theorem frz_at {X : Cx} {pins : List (Addr × Obj)} {σ : St} {H : Hp} {s : Shared} {d : Addr} {o : Obj} {kvs : List (Key × V)} {es : Array DictEntry} {ep : Nat} (I : Inv X pins σ H s) (ho : o.data = .dict es ep) (h : H d = some (.frz o (.dK kvs))) :
    ∃ vs, KV kvs vs ∧ s.heap.DictAt (mixKind X.prog X.w) d vs ep ∧ (d == sysModules) = false := by
  obtain ⟨e, z, ns, vs, rel, o', es', ep', h1, h2, h3, h4, h5, h6⟩ := (show ObjOk X.prog X.w H s.heap d (.frz o (.dK kvs)) from I.hok d _ h)
  rw [e] at h1
  cases h1
  rw [ho] at h3
  cases h3
  exact ⟨vs, rel, ⟨o, es, e, h2, ho, h4, h5, h6⟩, ns⟩
theorem turn_dict {P : Program} {w : World} {K : PySem.W.Frag} {tg : Expr} (d it : Addr) (o : Obj) (kvs : List (Key × V)) {es : Array DictEntry} {ep : Nat} (ho : o.data = .dict es ep) :
    Turn P w K tg (Itd d o kvs) [it] it (fun i h => i ≤ kvs.length ∧ h.IsKeyIter it d i kvs.length ep) where
  mem := by simp
  obj := fun i h st b hb => by
    have e : b = it := by simpa using hb
    subst e
    obtain ⟨o, e, c, q⟩ := st.2
    exact ⟨o, e, fun v z => by rw [q] at z; cases z⟩
  keep := fun i h h' st k => ⟨st.1, st.2.at fun o e => k it (by simp) o e⟩
  item := by
    intro X hP hw hK hc i pins s σ H E I hf st hg
    subst hP hw hK
    obtain ⟨hi, hd⟩ := hg
    obtain ⟨f0, f1, f2, f3, f4, f5⟩ := hf it (by simp)
    obtain ⟨vs, rel, da, ns⟩ := frz_at I ho hd
    have hl : kvs.length = vs.length := Paired.length rel
    obtain ⟨u, hu, _⟩ := kv_get (i := i) (k := kvs[i].1) (v := kvs[i].2) rel (by simp [hi])
    have st2 := st.2
    rw [hl] at st2
    refine wpAny_pyNext_dict_item st2 da hu fun key h' hk st' sb => ?_
    have I1 : Inv X pins σ H { s with heap := h' } := I.turned (t' := s.toks) (fun b o hb e => (sb.2 b hb).trans e) f0 f1 f3 f4 f5
    obtain ⟨o2, e2, c2, d2⟩ := id st'
    rw [← hl] at st'
    exact ⟨key, rfl, go_of (s := { s with heap := h' }) e2 c2 d2 (by decide) ⟨kV kvs[i].1, H, I1, key_rel hk, ⟨rfl, kvs[i].1, kvs[i].2, by simp [hi], rfl⟩, ⟨hi, st'⟩, fun b hb => (hf b hb).1⟩⟩
  done := by
    intro X hP hw hK hc i pins s σ H E I hf st hg
    subst hP hw hK
    obtain ⟨hi, hd⟩ := hg
    obtain ⟨f0, f1, f2, f3, f4, f5⟩ := hf it (by simp)
    obtain ⟨vs, rel, da, ns⟩ := frz_at I ho hd
    have hl : kvs.length = vs.length := Paired.length rel
    have st2 := st.2
    rw [hl] at st2
    exact wpAny_pyNext_dict_end (I.ok.hd hc) st2 da (by simp; omega) fun h' eb => ⟨rfl, I.turned (t' := s.toks) (fun b o hb e => eb b o hb e) f0 f1 f3 f4 f5⟩
  self := fun _ _ _ _ _ st h => wpAny_pyIter_keyiter st.2 h
def iDict (tl : TE) : TI := fun σ H R => tl σ H fun x H1 => ∃ d kvs, x = .ref d ∧ H1 d = some (.dK kvs) ∧ ∀ o, R (Itd d o kvs) (upd H1 d (.frz o (.dK kvs)))
theorem pi_dict {X : Cx} {tg l : Expr} {tl : TE} (hl : PE X l tl) : PI X tg l (iDict tl) := by
  intro pins s σ H R I h
  refine thn (hl pins s σ H _ I h) fun v s1 ⟨x, H1, I1, r1, q1⟩ => ?_
  obtain ⟨d, kvs, e, hd, q⟩ := q1
  subst e
  cases r1
  obtain ⟨z, ns, vs, rel, o, es, ep, h1, h2, h3, h4, h5, h6⟩ := dk_of I1.hok hd
  have hl : kvs.length = vs.length := Paired.length rel
  have I2 := I1.freeze hd h1
  refine wpAny_pyIter_dict (knd := mixKind X.prog X.w) ns ⟨o, es, h1, h2, h3, h4, h5, h6⟩ ?_
  have f : (upd H1 d (.frz o (.dK kvs))) s1.heap.objs.size = none := I2.hok.fresh (Nat.le_refl _)
  refine ⟨s1.heap.objs.size, [s1.heap.objs.size], _, _, _, rfl, I2.kept (t' := s1.toks) fun b o e => Heap.get?_push_of_some _ e, turn_dict d _ o kvs h3, ⟨Nat.zero_le _, ⟨_, Heap.get?_push_size _ rfl, rfl, by rw [hl]; rfl⟩⟩, fun b hb => ?_, q o⟩
  have e : b = s1.heap.objs.size := by simpa using hb
  subst e
  exact I2.fpOk (Nat.le_refl _) f
theorem DGet.f {H : Hp} {a : Addr} {o : Obj} {kvs : List (Key × V)} {k : Key} (e : H a = some (.frz o (.dK kvs))) : DGet H a (kV k) (valV kvs k) := .inl ⟨kvs, k, .inr ⟨o, e⟩, rfl, rfl⟩
end L2
namespace L2
open PySem PySem.Spec PyProof.Rows
section
variable {X : Cx}
variable {g : TG} {tc : TT} {te : TE}
end
end L2
namespace L2
open PySem PySem.Spec PyProof.Rows
open AutoSeq1 (wpAny_loadPart')
/-! ### enumerate of a tuple, walked -/
section
variable {prog : Program} {w : World} {A : Around} {E : Value → Shared → Prop} {s : Shared}
end
section
variable {prog : Program} {w : World} {A : Around} {E : Value → Shared → Prop} {s : Shared}
end
def Itet (K : PySem.W.Frag) (a : Addr) : It :=
  ⟨fun i H => ∃ xs x, SqT K H a xs ∧ xs[i]? = some x,
   fun i H x H' => ∃ t, H t = none ∧ x = .ref t ∧ ∀ xs, SqT K H a xs → ∃ u, xs[i]? = some u ∧ H' = upd H t (.tup [.int i, u]),
   fun i H => ∃ xs, SqT K H a xs ∧ xs.length ≤ i⟩
theorem for_enumT {K : PySem.W.Frag} {a : Addr} {xs : List V} {g : TG} {tb : TS} {D : Ends} {σ : St} {H : Hp} (Pv : Nat → St → Hp → Prop) (h0 : Pv 0 σ H) (hl : ∀ i σ H, i ≤ xs.length → Pv i σ H → SqT K H a xs)
    (hs : ∀ i x σ H t, xs[i]? = some x → Pv i σ H → H t = none → g (.ref t) σ (upd H t (.tup [.int i, x])) fun σ2 H2 => tb { D with nx := Pv (i + 1), ct := Pv (i + 1), bk := D.nx } σ2 H2) (hd : ∀ σ H, Pv xs.length σ H → D.nx σ H) :
    ∃ W : Nat → Nat → St → Hp → Prop, (∃ m, W 0 m σ H) ∧ ∀ i m σ H, W i m σ H →
      ((Itet K a).stop i H ∧ D.nx σ H) ∨ ((Itet K a).go i H ∧ ∃ N : St → Hp → Prop, (∀ σ' H', N σ' H' → ∃ m', m' < m ∧ W (i + 1) m' σ' H') ∧ ∀ x H', (Itet K a).yld i H x H' → g x σ H' fun σ2 H2 => tb { D with nx := N, ct := N, bk := D.nx } σ2 H2) := by
  refine ⟨fun i m σ H => m = xs.length - i ∧ i ≤ xs.length ∧ Pv i σ H, ⟨xs.length, by simp, Nat.zero_le _, h0⟩, ?_⟩
  rintro i m σ H ⟨rfl, hi, p⟩
  have q := hl i σ H hi p
  by_cases hlt : i < xs.length
  · refine .inr ⟨⟨xs, xs[i], q, by simp [hlt]⟩, Pv (i + 1), fun σ' H' p' => ⟨xs.length - (i + 1), Nat.sub_lt_sub_left hlt (Nat.lt_succ_self i), rfl, hlt, p'⟩, fun x H' y => ?_⟩
    obtain ⟨t, ht, rfl, w⟩ := y
    obtain ⟨u, e1, rfl⟩ := w xs q
    exact hs i u σ H t e1 p ht
  · have e : i = xs.length := by omega
    subst e
    exact .inl ⟨⟨xs, q, Nat.le_refl _⟩, hd σ H p⟩
end L2
namespace L2
open PySem PySem.Spec PyProof.Rows
/-! ### dict(t), t a tuple of pairs -/
section
variable {prog : Program} {w : World} {A : Around} {E : Value → Shared → Prop} {s : Shared}
end
section
variable {X : Cx} {pins : List (Addr × Obj)} {σ : St} {H : Hp} {s : Shared} {a : Addr} {y v : V} {u r : Value} {A : Around} {E : Value → Shared → Prop}
end
end L2
namespace L2
open PySem PySem.Spec PyProof.Rows
section
variable {X : Cx} {pins : List (Addr × Obj)} {σ : St} {H : Hp} {s : Shared} {A : Around} {E : Value → Shared → Prop}
end
end L2
namespace L2
open PySem PySem.Spec PyProof.Rows PySem.W
/-! ### sorted of a list of tuples of ints: some order of the same ones -/
/-- all asks are below n, all leaves keep R -/
def AllL {α : Type} (n : Nat) (R : α → Prop) : KasT α → Prop
  | .ret a => R a
  | .ask i j k => i < n ∧ j < n ∧ ∀ b, AllL n R (k b)
theorem AllL.bind {α β : Type} {n : Nat} {R : α → Prop} {S : β → Prop} {f : α → KasT β} : ∀ {t : KasT α}, AllL n R t → (∀ a, R a → AllL n S (f a)) → AllL n S (t.bind f)
  | .ret a, h, k => by rw [KasT.bind.eq_1]; exact k a h
  | .ask i j g, h, k => by rw [KasT.bind.eq_2]; exact ⟨h.1, h.2.1, fun b => AllL.bind (h.2.2 b) k⟩
def PermN (n : Nat) (p : Array Nat) : Prop := p.Perm (List.range n).toArray
theorem PermN.get {n : Nat} {p : Array Nat} (h : PermN n p) (h0 : 0 < n) (x : Nat) : p.getD x 0 < n := by
  by_cases c : x < p.size
  · have e : p.getD x 0 = p[x] := by simp [Array.getD, c]
    have m : p[x] ∈ (List.range n).toArray.toList := (Array.perm_iff_toList_perm.mp h).mem_iff.mp (by simp)
    rw [e]
    simpa using m
  · have e : p.getD x 0 = 0 := by simp [Array.getD, c]
    omega
section
variable {n : Nat} (h0 : 0 < n)
include h0
end
end L2
namespace L2
open PySem PySem.Spec PyProof.Rows PySem.W HT
/-- a tuple of ints -/
def TupI (h : Heap) (v : Value) : Prop := ∃ (a : Addr) (its : Array Value) (ns : List Int), v = .ref a ∧ IsTup h a its ∧ IntsAre its.toList ns
section
variable {prog : Program} {w : World} {A : Around} {E : Value → Shared → Prop} {s : Shared}
theorem TupI.keep {h h' : Heap} {v : Value} (t : TupI h v) (k : ∀ b o, h.get? b = some o → h'.get? b = some o) : TupI h' v := by
  obtain ⟨a, its, ns, e, ⟨o, ho, r⟩, ix⟩ := t
  exact ⟨a, its, ns, e, ⟨o, k _ _ ho, r⟩, ix⟩
end
end L2
namespace L2
open PySem PySem.Spec PyProof.Rows PySem.W HT
section
variable {prog : Program} {w : World} {A : Around} {E : Value → Shared → Prop} {s : Shared}
end
/-! ### x in a list of plain data -/
end L2
namespace L2
open PySem PySem.Spec PyProof.Rows
/-! ### zip of two tuples of one length: its records stand at n .. n + 4 -/
section
variable {prog : Program} {w : World} {A : Around} {E : Value → Shared → Prop} {s : Shared}
/-- the records of a zip over the tuples at l1, l2, i taken -/
structure ZipL (g : Heap) (n l1 l2 : Addr) (i : Nat) : Prop where
  z : IsZip g (n + 4) (n + 2) (n + 3) .none
  I : IsPair g (n + 2) (.ref n) (.ref (n + 1))
  O : ∃ a b, IsPair g (n + 3) a b
  i1 : g.IsListIter n l1 i
  i2 : g.IsListIter (n + 1) l2 i
end
section
variable {prog : Program} {w : World} {A : Around} {E : Value → Shared → Prop} {s : Shared}
end
/-! ### the walk over a zip of two tuples of one length -/
section
variable {g : TG} {tc : TT} {te : TE}
end
end L2
namespace L2
open PySem PySem.Spec PyProof.Rows
/-! ### t + u, u not empty -/
section
variable {X : Cx}
/-! ### repr of plain data, None too -/
end
end L2
namespace L2
open PySem PySem.Spec PyProof.Rows
/-! ### the walk over reversed(a list) -/
def ItR (K : PySem.W.Frag) (a : Addr) (n : Nat) : It :=
  ⟨fun i H => ∃ xs, SqL K H a xs ∧ xs.length = n ∧ i < n, fun i H x H' => H' = H ∧ ∀ ys, SqL K H a ys → ys.reverse[i]? = some x, fun i H => ∃ xs, SqL K H a xs ∧ xs.length = n ∧ n ≤ i⟩
theorem turn_rev {P : Program} {w : World} {K : PySem.W.Frag} {tg : Expr} (a it : Addr) (n : Nat) (ne : a ≠ it) : Turn P w K tg (ItR K a n) [it] it (fun i h => i ≤ n ∧ h.IsRevIter it a ((n : Int) - 1 - (i : Int))) where
  mem := by simp
  obj := fun i h st b hb => by
    have e : b = it := by simpa using hb
    subst e
    obtain ⟨_, o, e, c, d⟩ := st
    exact ⟨o, e, fun v z => by rw [d] at z; cases z⟩
  keep := fun i h h' st k => ⟨st.1, let ⟨o, e, r⟩ := st.2; ⟨o, k it (by simp) o e, r⟩⟩
  item := by
    intro X hP hw hK hc i pins s σ H E I hf st hg
    subst hP hw hK
    obtain ⟨xs, hq, hn, hi⟩ := hg
    obtain ⟨its, rv, p, hz⟩ := I.list hq
    have hl := rv.length
    have sz : its.toArray.size = n := by rw [List.size_toArray]; omega
    obtain ⟨f0, f1, f2, f3, f4, f5⟩ := hf it (by simp)
    have Wk := Walks.listRev (prog := X.prog) (w := X.w) (A := X.A) (I.ok.hd hc) it a ne its.toArray
    refine Wk.item i s _ _ (by omega) ⟨by omega, by rw [sz]; exact st.2, p.isList⟩ fun v h' tk pv st' kp => ?_
    have I1 : Inv X pins σ H { s with heap := h', toks := tk } := I.turned (t' := tk) (fun b o hb e => kp b o (by simpa using hb) e) f0 f1 f3 f4 f5
    have hx : i < xs.reverse.length := by rw [List.length_reverse]; omega
    obtain ⟨u, hu, ru⟩ := rv.get (show xs[xs.length - 1 - i]? = some (xs[xs.length - 1 - i]'(by omega)) from List.getElem?_eq_getElem (by omega))
    obtain ⟨o, e, c, d⟩ := id st'.2.1
    have ev : v = u := by
      have : its.toArray[its.toArray.size - 1 - i]? = some v := pv
      rw [sz, ← hn] at this
      have t2 : its[xs.length - 1 - i]? = some v := by simpa using this
      rw [hu] at t2
      exact (Option.some.inj t2).symm
    subst ev
    refine ⟨_, rfl, go_of (s := { s with heap := h', toks := tk }) e c d (by decide) ⟨xs[xs.length - 1 - i]'(by omega), H, I1, ru, ⟨rfl, fun ys hy => ?_⟩, ⟨by omega, by have := st'.2.1; rw [sz] at this; exact this⟩, fun b hb => (hf b hb).1⟩⟩
    rw [I.list_inj hy hq, List.getElem?_reverse (by omega)]
    exact List.getElem?_eq_getElem (by omega)
  done := by
    intro X hP hw hK hc i pins s σ H E I hf st hg
    subst hP hw hK
    obtain ⟨xs, hq, hn, hi⟩ := hg
    obtain ⟨its, rv, p, hz⟩ := I.list hq
    have hl := rv.length
    have sz : its.toArray.size = n := by rw [List.size_toArray]; omega
    obtain ⟨f0, f1, f2, f3, f4, f5⟩ := hf it (by simp)
    have Wk := Walks.listRev (prog := X.prog) (w := X.w) (A := X.A) (I.ok.hd hc) it a ne its.toArray
    have ei : i = n := by have := st.1; omega
    refine Wk.done s _ _ ⟨Nat.le_refl _, by rw [sz, ← ei]; have := st.2; rw [← ei] at this; exact this, p.isList⟩ fun h' tk kp => ⟨rfl, I.turned (t' := tk) (fun b o hb e => kp b o (by simpa using hb) e) f0 f1 f3 f4 f5⟩
  self := fun _ _ _ _ _ st h => wpAny_pyIter_revIter st.2 h
def iRev (K : PySem.W.Frag) (te : TE) : TI := fun σ H R => te σ H fun x H1 => ∃ a ys, x = .ref a ∧ SqL K H1 a ys ∧ R (ItR K a ys.length) H1
theorem pi_rev {X : Cx} {tg : Expr} {e : Expr} {te : TE} {p2 pos2 : Pos} (he : PE X e te) (g2 : Gl X "reversed") (m2 : X.mg "reversed" = none) (hs2 : starEach [e] X.env = [(false, eval e X.env)] := by rfl) :
    PI X tg (.Call (.Name "reversed" p2) [e] [] pos2) (iRev X.K te) := by
  intro pins s σ H R I h
  refine wpAny_Call_Name_kw (ld_blt I g2 m2 PyProof.Rows.boot_reversed (PyProof.Rows.callWith_type1 ?_ hs2 rfl))
  rw [hs2]
  refine Calls.spliced_cons (thn (he pins s σ H _ I h) fun u s1 ⟨x, H1, I1, r1, a, ys, ex, hq, q⟩ => Calls.spliced_nil ?_)
  subst ex
  cases r1
  obtain ⟨its, rv, pl, hz⟩ := I1.list hq
  have il := pl.isList
  have len := rv.length
  have sz : its.toArray.size = ys.length := by rw [List.size_toArray]; omega
  have aLt : a < s1.heap.objs.size := by
    obtain ⟨o, e, _⟩ := il
    exact Heap.lt_size e
  refine call_reversed_list il ?_
  have st : (s1.heap.push (revObj a ((its.toArray.size : Int) - 1))).IsRevIter s1.heap.objs.size a ((ys.length : Int) - 1 - ((0 : Nat) : Int)) := by
    rw [sz, Int.natCast_zero, Int.sub_zero]
    exact ⟨_, Heap.get?_push_size _ rfl, rfl, rfl⟩
  refine wpAny_pyIter_revIter st ?_
  refine ⟨s1.heap.objs.size, [s1.heap.objs.size], _, ItR X.K a ys.length, H1, rfl, I1.kept (t' := s1.toks) fun b o e => Heap.get?_push_of_some _ e, turn_rev a _ ys.length (Nat.ne_of_lt aLt), ⟨Nat.zero_le _, st⟩, fun b hb => ?_, q⟩
  have e : b = s1.heap.objs.size := by simpa using hb
  subst e
  exact I1.fpOk (Nat.le_refl _) (I1.hok.fresh (Nat.le_refl _))
/-- a comprehension over reversed(xs) -/
theorem comp_rev {g : TG} {tc : TT} {te : TE} {K : PySem.W.Frag} {a : Addr} {xs : List V} {Kf : List V → Hp → Prop} {σ0 : St} {H1 : Hp} (Pv : Nat → List V → St → Hp → Prop) (hz : xs.length < sizeLine) (h0 : Pv 0 [] σ0 H1) (hb : ∀ i ys σ H, Pv i ys σ H → ys.length ≤ i) (hl : ∀ i ys σ H, i ≤ xs.length → Pv i ys σ H → SqL K H a xs)
    (hs : ∀ i x ys σ H, xs.reverse[i]? = some x → Pv i ys σ H → g x σ H fun σ2 H2 => tc σ2 H2 fun b H3 => if b = true then te σ2 H3 fun y H4 => Pv (i + 1) (ys ++ [y]) σ2 H4 else Pv (i + 1) ys σ2 H3) (hd : ∀ ys σ H, Pv xs.length ys σ H → Kf ys H) : CompW (ItR K a xs.length) g tc te Kf σ0 H1 := by
  refine ⟨fun i m ys σ H => m = xs.length - i ∧ i ≤ xs.length ∧ Pv i ys σ H, ⟨xs.length, rfl, Nat.zero_le _, h0⟩, ?_⟩
  rintro i m ys σ H ⟨rfl, le, p⟩
  have q := hl i ys σ H le p
  refine ⟨Nat.lt_of_le_of_lt (hb _ _ _ _ p) (Nat.lt_of_le_of_lt le hz), ?_⟩
  by_cases c : i < xs.length
  · exact .inr ⟨⟨xs, q, rfl, c⟩, Pv (i + 1), fun ys' σ' H' p' => ⟨xs.length - (i + 1), Nat.sub_lt_sub_left c (Nat.lt_succ_self i), rfl, c, p'⟩, fun x H' ⟨e, y⟩ => by
      subst e
      exact hs i x ys σ _ (y xs q) p⟩
  · obtain rfl : i = xs.length := by omega
    exact .inl ⟨⟨xs, q, rfl, Nat.le_refl _⟩, hd ys σ H p⟩
end L2
namespace L2
open PySem PySem.Spec PyProof.Rows
section
variable {X : Cx}
/-! ### xs[::-1] -/
end
end L2
namespace L2
open PySem PySem.Spec PyProof.Rows
section
variable {X : Cx}
/-! ### z.index(y) -/
/-! ### dict(d), d a dict of ints and texts -/
theorem call_dictD : CallR X (.type "dict") (fun xs H Q => ∃ (p : Addr) (kvs : List (Key × V)), xs = [.ref p] ∧ H p = some (.dK kvs) ∧ ∀ d, H d = none → Q (.ref d) (upd H d (.dK kvs))) := by
  intro pins s σ H xs us Q I r h
  obtain ⟨p, kvs, rfl, hp, q⟩ := h
  obtain ⟨u, rfl, ru⟩ := vals1 r
  cases ru
  obtain ⟨z, hd, vs, rel, dd⟩ := dk_of I.hok hp
  refine kt_call_dict hd dd (by rw [← rel.length]; exact z) fun h' hm hs => ?_
  refine ⟨.ref s.heap.objs.size, _, I.laid (t' := s.toks) (o := .dK kvs) (fun b o e => (hs.2 b (Nat.ne_of_lt (Heap.lt_size e))).trans (Heap.get?_push_of_some _ e)) (Nat.le_refl _) ?_, rfl, q _ (I.hok.fresh (Nat.le_refl _))⟩
  exact dk_new z (beq_eq_false_iff_ne.mpr (Ne.symm (Nat.ne_of_lt I.big))) rel hm
/-! ### a display of pairs of numbers -/
def pairOf : Expr → Option (Int × Int)
  | .Tuple [.Constant (.int a) _ _, .Constant (.int b) _ _] _ _ => some (a, b)
  | _ => none
def pairsOf : List Expr → Option (List (Int × Int))
  | [] => some []
  | e :: r => match pairOf e, pairsOf r with
    | some p, some ps => some (p :: ps)
    | _, _ => none
/-- the tuples of the pairs, at new addresses -/
def PairsAt (H : Hp) : List V → List (Int × Int) → Prop
  | [], [] => True
  | v :: vs, p :: ps => (∃ a, v = .ref a ∧ H a = some (.tup [.int p.1, .int p.2])) ∧ PairsAt H vs ps
  | _, _ => False
def tPairsC (ps : List (Int × Int)) : TA := fun _ H Q => ∀ vs H', Same H H' → PairsAt H' vs ps → Q vs H'
theorem pa_pairs : ∀ {es : List Expr} {ps : List (Int × Int)}, pairsOf es = some ps → PA X es (tPairsC ps)
  | [], ps, h => by
    cases h
    exact fun _ _ _ _ H Q I q => Calls.spliced_nil ⟨[], H, I, .nil, q [] H (Same.refl _) trivial⟩
  | e :: r, ps, h => by
    have h : (match pairOf e, pairsOf r with | some p, some qs => some (p :: qs) | _, _ => none) = some ps := h
    cases h1 : pairOf e with
    | none => rw [h1] at h; cases h
    | some p =>
      cases h2 : pairsOf r with
      | none => rw [h1, h2] at h; cases h
      | some qs =>
        rw [h1, h2] at h
        cases h
        unfold pairOf at h1
        split at h1
        · rename_i a x1 x2 b x3 x4 x5 x6
          cases h1
          intro pos pins s σ H Q I q
          have ih := pa_pairs (es := r) (ps := qs) h2
          have he := @pe_tup X [.Constant (.int a) x1 x2, .Constant (.int b) x3 x4] _ x6 x5 (pa_cons pe_int (pa_cons pe_int pa_nil))
          show wpAny _ _ (spliced ((false, eval _ X.env) :: backTo pos (starEach r X.env))) _ _ s
          refine Calls.spliced_cons (thn (he pins s σ H (fun v H1 => ∃ t, H t = none ∧ v = .ref t ∧ H1 = upd H t (.tup [.int a, .int b])) I ⟨by show 2 ≤ sizeLine; decide, fun t ht => ⟨t, ht, rfl, rfl⟩⟩) fun u s1 ⟨v, H1, I1, r1, t, ht, ev, eH⟩ => ?_)
          subst ev eH
          refine thn (ih pos pins s1 σ _ (fun vs H' => Same (upd H t (.tup [.int a, .int b])) H' ∧ PairsAt H' vs qs) I1 fun vs H' s' p' => ⟨s', p'⟩) fun us s2 ⟨xs, H2, I2, r2, s', p'⟩ => ⟨.ref t :: xs, H2, I2, .cons r1 r2, q _ H2 ((same_new ht _).trans s') ⟨⟨t, rfl, s' _ _ upd_same⟩, p'⟩⟩
        · cases h1
/-! ### t + u, any tuples -/
def rCatA : R2 := fun x y H Q => ∃ a b xs ys, x = .ref a ∧ y = .ref b ∧ H a = some (.tup xs) ∧ H b = some (.tup ys) ∧ xs.length + ys.length ≤ sizeLine ∧ ∀ r H', Same H H' → H' r = some (.tup (xs ++ ys)) → Q (.ref r) H'
theorem op_catA : OpR X (binaryOp .Add) rCatA := by
  intro pins s σ H x y v u Q I rx ry h
  obtain ⟨a, b, xs, ys, rfl, rfl, ha, hb, hz, q⟩ := h
  by_cases hx : xs = []
  · subst hx
    cases rx
    cases ry
    obtain ⟨its, r1, p1, _⟩ := I.tuple (SqT.of ha)
    obtain ⟨its2, r2, p2, _⟩ := I.tuple (SqT.of hb)
    cases r1
    obtain ⟨⟨cls, dd, data, sl⟩, ho, hc, n, hd⟩ := id p1
    obtain ⟨⟨cls2, dd2, data2, sl2⟩, ho2, hc2, n2, hd2⟩ := id p2
    simp only at hc hd hc2 hd2
    subst hc hd hc2 hd2
    exact concat_meets ⟨_, ho, rfl⟩ ⟨_, ho2, rfl⟩ noFill_tuple_add seq_tuple_add PySem.F.slot_tuple_add PySem.F.entry_tuple_add (PySem.F.args_tuple_add_2 _ _)
      (tuple_addW0 a b _ its2.toArray n n2 dd dd2 sl sl2 (by simp)) ⟨ho, ho2, .ref b, H, I, rfl, q b H (Same.refl _) hb⟩
  · refine op_catT pins s σ H _ _ v u Q I rx ry ⟨a, b, xs, ys, rfl, rfl, SqT.of ha, SqT.of hb, hx, hz, fun e => ?_, fun _ p hp => q p _ (same_new hp _) upd_same⟩
    subst e
    exact q a H (Same.refl _) (by rw [List.append_nil]; exact ha)
end
end L2
namespace L2
open PySem PySem.Spec PyProof.Rows
section
variable {prog : Program} {w : World} {A : Around} {E : Value → Shared → Prop} {s : Shared}
end
section
variable {X : Cx} {pins : List (Addr × Obj)} {σ : St} {H : Hp} {s : Shared} {A : Around} {E : Value → Shared → Prop}
end
end L2
namespace L2
open PySem PySem.Spec PyProof.Rows
section
variable {prog : Program} {w : World} {K : Type} [DecidableEq K] {knd : KeyKind prog w K} {A : Around} {E : Value → Shared → Prop} {s : Shared}
end
section
variable {X : Cx}
end
end L2
namespace L2
open PySem PySem.Spec PyProof.Rows
section
variable {X : Cx}
end
end L2
namespace Mine
open PySem L2
def gI (a b : Int) : Int := (Nat.gcd a.toNat b.toNat : Nat)
def low1 (a b : Int) : Int := a / gI a b
def low2 (a b : Int) : Int := b / gI a b
/-! the shares and the tails of a steepness p/q -/
def shN (p q : Int) (n : Nat) : Int := (q - p) * p ^ n
def shD (p q : Int) (n : Nat) : Int := (q + p) * q ^ n
def tlN (p q : Int) (n : Nat) : Int := q * p ^ n
/-- the tail from k on, as top and bottom -/
def tN (p q k : Int) : Int := if 0 ≤ k then tlN p q k.toNat else shD p q (1 - k).toNat - tlN p q (1 - k).toNat
def tD (p q k : Int) : Int := if 0 ≤ k then shD p q k.toNat else shD p q (1 - k).toNat
/-! ### steepnesses and the promises -/
structure Steep (p q : Int) : Prop where
  p1 : 1 ≤ p
  pq : p < q
  q9 : q ≤ 9
def TupAt (H : Hp) (p : Addr) (a b : Int) : Prop := H p = some (.tup [.int a, .int b])
/-- at least 0 and below 2^72 -/
def B72 (a : Int) : Prop := 0 ≤ a ∧ a < 2 ^ 180
theorem B72.below {a : Int} (h : B72 a) : Below a := ⟨by have := h.1; omega, by have := h.2; omega⟩
theorem TupAt.same {H H' : Hp} {p : Addr} {a b : Int} (h : TupAt H p a b) (s : Same H H') : TupAt H' p a b := s _ _ h
theorem tup_out {H H' : Hp} {d l p : Addr} {xs : List V} (D : Deal H d l) (o : Out d l H H') (h : H p = some (.tup xs)) : H' p = some (.tup xs) := by
  obtain ⟨sd, n, ls, D⟩ := D
  exact o _ _ h (ne_of h D.dc (by intro z; cases z)) (ne_of h D.lc (by intro z; cases z))
def spLaw (K : PySem.W.Frag) : Sp := fun vs H Q _ => ∃ (a : Addr) (ns : List Int), vs = [.ref a] ∧ SqL K H a (ns.map V.int) ∧ ns.length ≤ 63 ∧ ∀ H', Q (.bl true) H'

/-! ### two lists, item by item -/
def cutI (n lo hi : Int) : Int := if hi < (if lo > n then lo else n) then hi else (if lo > n then lo else n)
def Two {α : Type} (R : V → α → Prop) : List V → List α → Prop
  | [], [] => True
  | v :: vs, a :: as => R v a ∧ Two R vs as
  | _, _ => False
theorem Two.mono {α : Type} {R R' : V → α → Prop} (h : ∀ v a, R v a → R' v a) : ∀ {vs : List V} {as : List α}, Two R vs as → Two R' vs as
  | [], [], _ => trivial
  | _ :: _, _ :: _, ⟨e, r⟩ => ⟨h _ _ e, Two.mono h r⟩
  | [], _ :: _, z => z.elim
  | _ :: _, [], z => z.elim
theorem Two.append {α : Type} {R : V → α → Prop} : ∀ {vs ws : List V} {as bs : List α}, Two R vs as → Two R ws bs → Two R (vs ++ ws) (as ++ bs)
  | [], _, [], _, _, r => r
  | _ :: _, _, _ :: _, _, ⟨e, r⟩, r2 => ⟨e, Two.append r r2⟩
  | [], _, _ :: _, _, z, _ => z.elim
  | _ :: _, _, [], _, z, _ => z.elim
theorem Two.length {α : Type} {R : V → α → Prop} : ∀ {vs : List V} {as : List α}, Two R vs as → vs.length = as.length
  | [], [], _ => rfl
  | _ :: _, _ :: _, ⟨_, r⟩ => by simp [Two.length r]
  | [], _ :: _, z => z.elim
  | _ :: _, [], z => z.elim
def TS (H H' : Hp) : Prop := ∀ a xs, H a = some (.tup xs) → H' a = some (.tup xs)
theorem TS.of {H H' : Hp} (s : Same H H') : TS H H' := fun _ _ e => s _ _ e
theorem TS.trans {H H1 H2 : Hp} (a : TS H H1) (b : TS H1 H2) : TS H H2 := fun c o h => b c o (a c o h)
theorem TS.lst {H : Hp} {l : Addr} {xs ys : List V} (h : H l = some (.lst xs)) : TS H (upd H l (.lst ys)) := fun a o e => by
  rw [upd_ne (ne_of e h (by intro z; cases z))]; exact e
theorem TS.out {H H' : Hp} {d l : Addr} (D : Deal H d l) (o : Out d l H H') : TS H H' := fun p xs h => tup_out D o h
theorem same_lst {H H1 : Hp} {l : Addr} {ys : List V} (s : Same H H1) (h : H l = none) : Same H (upd H1 l (.lst ys)) := fun b o e => by
  rw [upd_ne (ne_of_none e h)]; exact s b o e
theorem take_snoc {α : Type} {l : List α} {i : Nat} {x : α} (h : l[i]? = some x) : l.take (i + 1) = l.take i ++ [x] := by
  rw [List.take_succ, h]
  rfl
/-! ### tables: rung, top, bottom -/
def Ent (H : Hp) (v : V) (e : Int × Int × Int) : Prop := ∃ p q, v = .ref p ∧ H p = some (.tup [.int e.1, .ref q]) ∧ TupAt H q e.2.1 e.2.2
theorem Ent.ts {H H' : Hp} {v : V} {e : Int × Int × Int} (t : TS H H') (h : Ent H v e) : Ent H' v e := let ⟨p, q, a, b, c⟩ := h; ⟨p, q, a, t _ _ b, t _ _ c⟩
theorem tab_ts {H H' : Hp} {vs : List V} {es : List (Int × Int × Int)} (t : TS H H') (h : Two (Ent H) vs es) : Two (Ent H') vs es := h.mono fun _ _ z => z.ts t
structure Small (e : Int × Int × Int) : Prop where
  a : Below e.1
  b : Below e.2.1
  c : Below e.2.2
/-! ### a ladder's table -/
def eN (p q lo hi n y : Int) : Int := if y = lo ∨ y = hi then tlN p q (y - n).natAbs else shN p q (y - n).natAbs
def eD (p q n y : Int) : Int := shD p q (y - n).natAbs
def ent (p q lo hi n y : Int) : Int × Int × Int := (y, low1 (eN p q lo hi n y) (eD p q n y), low2 (eN p q lo hi n y) (eD p q n y))
def tableI (p q lo hi n : Int) : List (Int × Int × Int) := if lo = hi then [(lo, 1, 1)] else (rangeI lo (hi + 1 - lo).toNat).map (ent p q lo hi n)
def dotI (xs ys : List Int) : Int := (List.zipWith (· * ·) xs ys).sum
/-! ### the promises -/
def IntsAt (H : Hp) (a : Addr) (ns : List Int) : Prop := H a = some (.tup (ns.map V.int))
def RowAt (H : Hp) (r : Addr) (x : Str) (w st : Addr) (lo hi : Int) : Prop := H r = some (.tup [.str "ladder", .str x, .ref w, .ref st, .int lo, .int hi])
structure Wts (ws cs : List Int) : Prop where
  len : ws.length = cs.length
  few : ws.length ≤ 3
  wt : ∀ x ∈ ws, 0 ≤ x ∧ x ≤ 3
structure Ends (lo hi : Int) : Prop where
  a : 0 ≤ lo
  b : lo ≤ hi
  c : hi ≤ 9
theorem str_at {z : Str} {r : Int} (h0 : 0 ≤ r) (h1 : r < (z.length : Int)) : ∃ c, atI z.cps.toList r = some c := by
  have hk : r.toNat < z.cps.toList.length := by
    rw [Array.length_toList]
    exact (Int.toNat_lt h0).mpr h1
  have e2 : ((r.toNat : Nat) : Int) = r := Int.toNat_of_nonneg h0
  have q : atI z.cps.toList ((r.toNat : Nat) : Int) = some z.cps.toList[r.toNat] := atI_nat (List.getElem?_eq_getElem hk)
  rw [e2] at q
  exact ⟨_, q⟩
theorem ones_sum : ∀ {zs : List Str}, (∀ z ∈ zs, z.length = 1) → (zs.map (·.length)).sum = zs.length
  | [], _ => rfl
  | z :: r, h => by
    have h1 := h z List.mem_cons_self
    have h2 := ones_sum fun y hy => h y (List.mem_cons_of_mem z hy)
    simp only [List.map_cons, List.sum_cons, List.length_cons, h1, h2]
    omega
theorem glued_fold (sep : Str) : ∀ (ys : List Str) (a : Array Nat), (ys.foldl (fun acc p => acc ++ sep.cps ++ p.cps) a).size = a.size + (ys.map (·.length)).sum + ys.length * sep.length
  | [], a => by simp
  | y :: r, a => by
    rw [List.foldl_cons, glued_fold sep r]
    simp only [Array.size_append, List.map_cons, List.sum_cons, List.length_cons, Nat.add_mul, Nat.one_mul]
    have e1 : sep.cps.size = sep.length := rfl
    have e2 : y.cps.size = y.length := rfl
    omega
theorem join_len (sep : Str) (ys : List Str) : (Txt.join sep ys).length ≤ (ys.map (·.length)).sum + ys.length * sep.length := by
  cases ys with
  | nil => exact Nat.zero_le _
  | cons y r =>
    show (List.foldl (fun acc p => acc ++ sep.cps ++ p.cps) y.cps r).size ≤ _
    rw [glued_fold]
    simp only [List.map_cons, List.sum_cons, List.length_cons, Nat.add_mul, Nat.one_mul]
    have e2 : y.cps.size = y.length := rfl
    omega
def taken : List Str := ["kinds", "ladder", "flat", "choose", "first", "let", "tell", "when", "else", "times", "end", "of"]
theorem flat_strs : ∀ xs : List Str, (xs.map V.str).all flatV = true
  | [] => rfl
  | _ :: r => flat_strs r
/-- a deal and a list of ours -/
structure DealL (H : Hp) (d l ls : Addr) (ts : List V) : Prop where
  deal : Deal H d l
  ne : ls ≠ l
  lst : H ls = some (.lst ts)
theorem DealL.new {H : Hp} {d l ls : Addr} (D : Deal H d l) (h : H ls = none) : DealL (upd H ls (.lst [])) d l ls [] := by
  obtain ⟨sd, n, l', q⟩ := id D
  exact ⟨D.same (same_new h _), (ne_of_none q.lc h).symm, upd_same⟩
theorem DealL.out {H H' : Hp} {d l ls : Addr} {ts : List V} (S : DealL H d l ls ts) (D : Deal H' d l) (o : Out d l H H') : DealL H' d l ls ts := by
  refine ⟨D, S.ne, ?_⟩
  obtain ⟨sd, n, l', q⟩ := S.deal
  exact o _ _ S.lst (ne_of S.lst q.dc (by intro z; cases z)) S.ne
theorem DealL.same {H H' : Hp} {d l ls : Addr} {ts : List V} (S : DealL H d l ls ts) (s : Same H H') : DealL H' d l ls ts := ⟨S.deal.same s, S.ne, s _ _ S.lst⟩
theorem DealL.app {H : Hp} {d l ls : Addr} {ts : List V} (S : DealL H d l ls ts) (us : List V) : DealL (upd H ls (.lst us)) d l ls us := by
  refine ⟨?_, S.ne, upd_same⟩
  obtain ⟨sd, n, l', q⟩ := S.deal
  exact ⟨sd, n, l', ⟨by rw [upd_ne (ne_of q.dc S.lst (by intro z; cases z))]; exact q.dc, by rw [upd_ne S.ne.symm]; exact q.lc, q.s0, q.s1, q.n0, q.l0⟩⟩
/-- what is asked: a row, a crowd, a number, a table -/
def AskAt (H : Hp) (t rw c du : Addr) (x : Str) (w st : Addr) (p q lo hi : Int) (ws cs : List Int) (dv : List V) : Prop :=
  H t = some (.tup [.ref rw, .ref c, .int (cutI (dotI ws cs) lo hi), .ref du]) ∧ RowAt H rw x w st lo hi ∧ IntsAt H w ws ∧ TupAt H st p q ∧ IntsAt H c cs ∧ H du = some (.tup dv) ∧
    Two (Ent H) dv (tableI p q lo hi (cutI (dotI ws cs) lo hi)) ∧ Steep p q ∧ Ends lo hi ∧ Wts ws cs
def Ask (H : Hp) (v : V) : Prop := ∃ t rw c du x w st p q lo hi ws cs dv, v = .ref t ∧ AskAt H t rw c du x w st p q lo hi ws cs dv
theorem Ask.ts {H H' : Hp} {v : V} (s : TS H H') (h : Ask H v) : Ask H' v := by
  obtain ⟨t, rw, c, du, x, w, st, p, q, lo, hi, ws, cs, dv, e, a1, a2, a3, a4, a5, a6, a7, a8⟩ := h
  exact ⟨t, rw, c, du, x, w, st, p, q, lo, hi, ws, cs, dv, e, s _ _ a1, s _ _ a2, s _ _ a3, s _ _ a4, s _ _ a5, s _ _ a6, tab_ts s a7, a8⟩
structure SomeA (H : Hp) (d l ls : Addr) (ts : List V) : Prop where
  b : DealL H d l ls ts
  asks : ∀ v ∈ ts, Ask H v
theorem SomeA.out {H H' : Hp} {d l ls : Addr} {ts : List V} (S : SomeA H d l ls ts) (D : Deal H' d l) (o : Out d l H H') : SomeA H' d l ls ts := ⟨S.b.out D o, fun v hv => (S.asks v hv).ts (TS.out S.b.deal o)⟩
theorem SomeA.same {H H' : Hp} {d l ls : Addr} {ts : List V} (S : SomeA H d l ls ts) (s : Same H H') : SomeA H' d l ls ts := ⟨S.b.same s, fun v hv => (S.asks v hv).ts (.of s)⟩
/-- the things of a question, without its own tuple -/
def Parts (H : Hp) (rw c du : Addr) (n : Int) : Prop := ∃ x w st p q lo hi ws cs dv, n = cutI (dotI ws cs) lo hi ∧ RowAt H rw x w st lo hi ∧ IntsAt H w ws ∧ TupAt H st p q ∧ IntsAt H c cs ∧ H du = some (.tup dv) ∧
    Two (Ent H) dv (tableI p q lo hi (cutI (dotI ws cs) lo hi)) ∧ Steep p q ∧ Ends lo hi ∧ Wts ws cs
theorem SomeA.app {H : Hp} {d l ls p rw c du : Addr} {n : Int} {ts : List V} (S : SomeA H d l ls ts) (hp : H p = none) (o : Parts H rw c du n) :
    SomeA (upd (upd H p (.tup [.ref rw, .ref c, .int n, .ref du])) ls (.lst (ts ++ [.ref p]))) d l ls (ts ++ [.ref p]) := by
  have S1 := S.same (same_new hp (.tup [.ref rw, .ref c, .int n, .ref du]))
  have hp1 : upd H p (.tup [.ref rw, .ref c, .int n, .ref du]) p = some (.tup [.ref rw, .ref c, .int n, .ref du]) := upd_same
  have s := same_new hp (.tup [.ref rw, .ref c, .int n, .ref du])
  generalize upd H p (.tup [.ref rw, .ref c, .int n, .ref du]) = H1 at S1 hp1 s ⊢
  have tl : TS H1 (upd H1 ls (.lst (ts ++ [.ref p]))) := TS.lst S1.b.lst
  refine ⟨S1.b.app _, fun v hv => ?_⟩
  rcases List.mem_append.mp hv with z | z
  · exact (S1.asks v z).ts tl
  · have e : v = .ref p := by simpa using z
    obtain ⟨x, w, st, p', q, lo, hi, ws, cs, dv, rfl, a2, a3, a4, a5, a6, a7, a8⟩ := o
    have ss := (TS.of s).trans tl
    exact ⟨p, rw, c, du, x, w, st, p', q, lo, hi, ws, cs, dv, e, tl _ _ hp1, ss _ _ a2, ss _ _ a3, ss _ _ a4, ss _ _ a5, ss _ _ a6, tab_ts ss a7, a8⟩
end Mine
namespace Mine
open PySem L2
/-! ### terms -/
inductive Tm where
  | num (p : Addr) (n : Int)
  | nam (p : Addr) (x : Str)
  | op (p : Addr) (s : Str) (a b : Tm)
def Tm.p : Tm → Addr
  | .num p _ => p
  | .nam p _ => p
  | .op p _ _ _ => p
def Tm.names : Tm → List Str
  | .num _ _ => []
  | .nam _ x => [x]
  | .op _ _ a b => a.names ++ b.names
def Tm.size : Tm → Nat
  | .op _ _ a b => 1 + a.size + b.size
  | _ => 1
def Tm.deep : Tm → Nat
  | .op _ _ a b => 1 + max a.deep b.deep
  | _ => 1
def sgns : List Str := ["+", "-", "*", "<", "="]
def Tm.ok : Tm → Prop
  | .num _ n => 0 ≤ n ∧ n < 1000
  | .nam _ _ => True
  | .op _ s a b => s ∈ sgns ∧ a.ok ∧ b.ok
def Tm.fine (t : Tm) : Prop := t.ok ∧ t.size ≤ 100
def TmH (H : Hp) : Tm → Prop
  | .num p n => H p = some (.tup [.str "num", .int n])
  | .nam p x => H p = some (.tup [.str "name", .str x])
  | .op p s a b => H p = some (.tup [.str "op", .str s, .ref a.p, .ref b.p]) ∧ TmH H a ∧ TmH H b
theorem TmH.ts {H H' : Hp} (t : TS H H') : ∀ {a : Tm}, TmH H a → TmH H' a
  | .num _ _, h => t _ _ h
  | .nam _ _, h => t _ _ h
  | .op _ _ _ _, ⟨h, ha, hb⟩ => ⟨t _ _ h, TmH.ts t ha, TmH.ts t hb⟩
def Tm.w : Tm → Str
  | .num _ _ => "num"
  | .nam _ _ => "name"
  | .op _ _ _ _ => "op"
def Tm.rest : Tm → List V
  | .num _ n => [.int n]
  | .nam _ x => [.str x]
  | .op _ s a b => [.str s, .ref a.p, .ref b.p]
theorem TmH.at {H : Hp} : ∀ {t : Tm}, TmH H t → H t.p = some (.tup (.str t.w :: t.rest))
  | .num _ _, h => h
  | .nam _ _, h => h
  | .op _ _ _ _, h => h.1
theorem Tm.size_pos : ∀ t : Tm, 1 ≤ t.size
  | .num _ _ => Nat.le_refl _
  | .nam _ _ => Nat.le_refl _
  | .op _ _ _ _ => by unfold Tm.size; omega
/-- all parts, a sign ahead of its two -/
def Tm.pre : Tm → List Tm
  | .num p n => [.num p n]
  | .nam p x => [.nam p x]
  | .op p s a b => .op p s a b :: (a.pre ++ b.pre)
theorem Tm.pre_len : ∀ t : Tm, t.pre.length = t.size
  | .num _ _ => rfl
  | .nam _ _ => rfl
  | .op _ _ a b => by simp only [Tm.pre, Tm.size, List.length_cons, List.length_append, Tm.pre_len a, Tm.pre_len b]; omega
theorem TmH.pre {H : Hp} : ∀ {t : Tm}, TmH H t → ∀ u ∈ t.pre, TmH H u
  | .num _ _, h, u, hu => by rw [List.mem_singleton.mp hu]; exact h
  | .nam _ _, h, u, hu => by rw [List.mem_singleton.mp hu]; exact h
  | .op _ _ _ _, h, u, hu => by
    rcases List.mem_cons.mp hu with e | e
    · rw [e]; exact h
    · rcases List.mem_append.mp e with e | e
      · exact TmH.pre h.2.1 u e
      · exact TmH.pre h.2.2 u e
/-! ### rows -/
inductive Rw where
  | thr (p : Addr) (w x : Str) (vs : List V)
  | lt (p : Addr) (x : Str) (t : Tm)
  | tell (p : Addr) (t : Tm)
  | when (p pa pb : Addr) (t : Tm) (a b : List Rw)
  | times (p pb : Addr) (n : Int) (b : List Rw)
def Rw.p : Rw → Addr
  | .thr p _ _ _ => p
  | .lt p _ _ => p
  | .tell p _ => p
  | .when p _ _ _ _ _ => p
  | .times p _ _ _ => p
def thrW : List Str := ["ladder", "flat", "choose", "first"]
/-- what a throw's row holds behind its name -/
def ThrOk (H : Hp) (w : Str) (vs : List V) : Prop :=
  (w ∈ (["ladder", "flat", "choose"] : List Str) ∧ ∃ a b lo hi, vs = [a, b, .int lo, .int hi] ∧ lo ≤ hi) ∨
  (w = "first" ∧ ∃ mark a q c lo hi x y, vs = [.int mark, a, .ref q, c, .int lo, .int hi] ∧ H q = some (.tup [.int x, .int y]) ∧ 2 * x ≤ y ∧ lo < hi ∧ lo ≤ mark ∧ mark ≤ hi)
theorem ThrOk.ts {H H' : Hp} (t : TS H H') {w : Str} {vs : List V} : ThrOk H w vs → ThrOk H' w vs
  | .inl h => .inl h
  | .inr ⟨e, mark, a, q, c, lo, hi, x, y, h1, h2, h3⟩ => .inr ⟨e, mark, a, q, c, lo, hi, x, y, h1, t _ _ h2, h3⟩
theorem ThrOk.w {H : Hp} {w : Str} {vs : List V} (h : ThrOk H w vs) : w ∈ thrW := by
  rcases h with ⟨h, _⟩ | ⟨h, _⟩
  · simp only [List.mem_cons, List.not_mem_nil, or_false] at h
    rcases h with h | h | h <;> simp [thrW, h]
  · simp [thrW, h]
mutual
def RwH (H : Hp) : Rw → Prop
  | .thr p w x vs => H p = some (.tup (.str w :: .str x :: vs)) ∧ ThrOk H w vs
  | .lt p x t => H p = some (.tup [.str "let", .str x, .ref t.p]) ∧ TmH H t ∧ t.fine
  | .tell p t => H p = some (.tup [.str "tell", .ref t.p]) ∧ TmH H t ∧ t.fine
  | .when p pa pb t a b => H p = some (.tup [.str "when", .ref t.p, .ref pa, .ref pb]) ∧ TmH H t ∧ t.fine ∧ H pa = some (.tup (a.map fun r => V.ref r.p)) ∧ H pb = some (.tup (b.map fun r => V.ref r.p)) ∧ RwsH H a ∧ RwsH H b
  | .times p pb n b => H p = some (.tup [.str "times", .int n, .ref pb]) ∧ H pb = some (.tup (b.map fun r => V.ref r.p)) ∧ RwsH H b
def RwsH (H : Hp) : List Rw → Prop
  | [] => True
  | r :: rs => RwH H r ∧ RwsH H rs
end
mutual
theorem RwH.ts {H H' : Hp} (t : TS H H') : ∀ (r : Rw), RwH H r → RwH H' r
  | .thr _ _ _ _, ⟨h, k⟩ => ⟨t _ _ h, k.ts t⟩
  | .lt _ _ _, ⟨h, h2, h3⟩ => ⟨t _ _ h, h2.ts t, h3⟩
  | .tell _ _, ⟨h, h2, h3⟩ => ⟨t _ _ h, h2.ts t, h3⟩
  | .when _ _ _ _ a b, ⟨h, h2, h3, h4, h5, h6, h7⟩ => ⟨t _ _ h, h2.ts t, h3, t _ _ h4, t _ _ h5, RwsH.ts t a h6, RwsH.ts t b h7⟩
  | .times _ _ _ b, ⟨h, h2, h3⟩ => ⟨t _ _ h, t _ _ h2, RwsH.ts t b h3⟩
theorem RwsH.ts {H H' : Hp} (t : TS H H') : ∀ (rs : List Rw), RwsH H rs → RwsH H' rs
  | [], _ => trivial
  | r :: rs, ⟨h, k⟩ => ⟨RwH.ts t r h, RwsH.ts t rs k⟩
end
theorem RwsH.app {H : Hp} : ∀ {rs qs : List Rw}, RwsH H rs → RwsH H qs → RwsH H (rs ++ qs)
  | [], _, _, h => h
  | _ :: _, _, ⟨h, k⟩, h2 => ⟨h, RwsH.app k h2⟩
theorem RwsH.mem {H : Hp} : ∀ {rs : List Rw}, RwsH H rs → ∀ r ∈ rs, RwH H r
  | [], _, _, h => absurd h List.not_mem_nil
  | r :: rs, ⟨h, k⟩, x, hx => by
    rcases List.mem_cons.mp hx with e | e
    · rw [e]; exact h
    · exact RwsH.mem k x e
def Rw.w : Rw → Str
  | .thr _ w _ _ => w
  | .lt _ _ _ => "let"
  | .tell _ _ => "tell"
  | .when _ _ _ _ _ _ => "when"
  | .times _ _ _ _ => "times"
def Rw.rest : Rw → List V
  | .thr _ _ x vs => .str x :: vs
  | .lt _ x t => [.str x, .ref t.p]
  | .tell _ t => [.ref t.p]
  | .when _ pa pb t _ _ => [.ref t.p, .ref pa, .ref pb]
  | .times _ pb n _ => [.int n, .ref pb]
theorem RwH.at {H : Hp} : ∀ {r : Rw}, RwH H r → H r.p = some (.tup (.str r.w :: r.rest))
  | .thr _ _ _ _, h => h.1
  | .lt _ _ _, h => h.1
  | .tell _ _, h => h.1
  | .when _ _ _ _ _ _, h => h.1
  | .times _ _ _ _, h => h.1
mutual
def Rw.cnt : Rw → Nat
  | .when _ _ _ _ a b => 1 + (cntL a + cntL b)
  | .times _ _ _ b => 1 + cntL b
  | .thr _ _ _ _ => 1
  | .lt _ _ _ => 1
  | .tell _ _ => 1
def cntL : List Rw → Nat
  | [] => 0
  | r :: rs => r.cnt + cntL rs
end
theorem cntL_app : ∀ (rs qs : List Rw), cntL (rs ++ qs) = cntL rs + cntL qs
  | [], qs => by simp [cntL]
  | r :: rs, qs => by simp only [List.cons_append, cntL, cntL_app rs qs]; omega
theorem Rw.cnt_pos : ∀ r : Rw, 1 ≤ r.cnt
  | .thr _ _ _ _ => Nat.le_refl _
  | .lt _ _ _ => Nat.le_refl _
  | .tell _ _ => Nat.le_refl _
  | .when _ _ _ _ _ _ => by unfold Rw.cnt; omega
  | .times _ _ _ _ => by unfold Rw.cnt; omega
theorem len_cnt : ∀ rs : List Rw, rs.length ≤ cntL rs
  | [] => Nat.zero_le _
  | r :: rs => by have := len_cnt rs; have := r.cnt_pos; simp only [List.length_cons, cntL]; omega
def Rw.kids : Rw → List Rw
  | .when _ _ _ _ a b => a ++ b
  | .times _ _ _ b => b
  | .thr _ _ _ _ => []
  | .lt _ _ _ => []
  | .tell _ _ => []
theorem cnt_eq : ∀ r : Rw, r.cnt = 1 + cntL r.kids
  | .when _ _ _ _ a b => by simp only [Rw.cnt, Rw.kids, cntL_app]
  | .times _ _ _ b => by simp only [Rw.cnt, Rw.kids]
  | .thr _ _ _ _ => by simp only [Rw.cnt, Rw.kids, cntL]
  | .lt _ _ _ => by simp only [Rw.cnt, Rw.kids, cntL]
  | .tell _ _ => by simp only [Rw.cnt, Rw.kids, cntL]
theorem RwH.kids {H : Hp} : ∀ {r : Rw}, RwH H r → RwsH H r.kids
  | .when _ _ _ _ _ _, h => RwsH.app h.2.2.2.2.2.1 h.2.2.2.2.2.2
  | .times _ _ _ _, h => h.2.2
  | .thr _ _ _ _, _ => trivial
  | .lt _ _ _, _ => trivial
  | .tell _ _, _ => trivial
/-! the steps -/
abbrev Stp := Str × Rw
def inner : Rw → List Stp
  | .when p pa pb t a b => a.map (fun r => (("row" : Str), r)) ++ [(("else" : Str), Rw.when p pa pb t a b)] ++ b.map (fun r => (("row" : Str), r)) ++ [(("end" : Str), Rw.when p pa pb t a b)]
  | .times p pb n b => b.map (fun r => (("row" : Str), r)) ++ [(("end" : Str), Rw.times p pb n b)]
  | .thr _ _ _ _ => []
  | .lt _ _ _ => []
  | .tell _ _ => []
mutual
def stps : Rw → List Stp
  | .when p pa pb t a b => (("row" : Str), Rw.when p pa pb t a b) :: (stpsL a ++ [(("else" : Str), Rw.when p pa pb t a b)] ++ stpsL b ++ [(("end" : Str), Rw.when p pa pb t a b)])
  | .times p pb n b => (("row" : Str), Rw.times p pb n b) :: (stpsL b ++ [(("end" : Str), Rw.times p pb n b)])
  | .thr p w x vs => [("row", .thr p w x vs)]
  | .lt p x t => [("row", .lt p x t)]
  | .tell p t => [("row", .tell p t)]
def stpsL : List Rw → List Stp
  | [] => []
  | r :: rs => stps r ++ stpsL rs
end
def expd (s : Stp) : List Stp := if s.1 = "row" then stps s.2 else [s]
theorem rowNe1 : ¬ (("else" : Str) = "row") := by decide +kernel
theorem rowNe2 : ¬ (("end" : Str) = "row") := by decide +kernel
theorem expd_rows : ∀ rs : List Rw, (rs.map (fun r => (("row" : Str), r))).flatMap expd = stpsL rs
  | [] => rfl
  | r :: rs => by simp only [List.map_cons, List.flatMap_cons, expd_rows rs, stpsL]; rfl
theorem stps_eq : ∀ r : Rw, stps r = (("row" : Str), r) :: (inner r).flatMap expd
  | .when p pa pb t a b => by
    simp only [stps, inner, List.flatMap_append, expd_rows, List.flatMap_cons, List.flatMap_nil, List.append_nil]
    simp only [expd, if_neg rowNe1, if_neg rowNe2]
  | .times p pb n b => by
    simp only [stps, inner, List.flatMap_append, expd_rows, List.flatMap_cons, List.flatMap_nil, List.append_nil]
    simp only [expd, if_neg rowNe2]
  | .thr _ _ _ _ => by simp only [stps, inner, List.flatMap_nil]
  | .lt _ _ _ => by simp only [stps, inner, List.flatMap_nil]
  | .tell _ _ => by simp only [stps, inner, List.flatMap_nil]
mutual
theorem stps_len : ∀ r : Rw, (stps r).length ≤ 3 * r.cnt
  | .when _ _ _ _ a b => by have := stpsL_len a; have := stpsL_len b; simp only [stps, Rw.cnt, List.length_cons, List.length_append, List.length_nil]; omega
  | .times _ _ _ b => by have := stpsL_len b; simp only [stps, Rw.cnt, List.length_cons, List.length_append, List.length_nil]; omega
  | .thr _ _ _ _ => by simp only [stps, Rw.cnt, List.length_cons, List.length_nil]; omega
  | .lt _ _ _ => by simp only [stps, Rw.cnt, List.length_cons, List.length_nil]; omega
  | .tell _ _ => by simp only [stps, Rw.cnt, List.length_cons, List.length_nil]; omega
theorem stpsL_len : ∀ rs : List Rw, (stpsL rs).length ≤ 3 * cntL rs
  | [] => Nat.le_refl _
  | r :: rs => by have := stps_len r; have := stpsL_len rs; simp only [stpsL, cntL, List.length_append]; omega
end
end Mine
namespace Mine
open PySem L2
/-! ### frames -/
theorem out_fresh {H H2 : Hp} {d l a : Addr} (D2 : Deal H2 d l) (o : Out d l H H2) (h : H2 a = none) : H a = none := by
  cases q : H a with
  | none => rfl
  | some u =>
    exfalso
    obtain ⟨sd, n, ls, z⟩ := D2
    by_cases h1 : a = d
    · rw [h1, z.dc] at h; cases h
    · by_cases h2 : a = l
      · rw [h2, z.lc] at h; cases h
      · rw [o a u q h1 h2] at h; cases h
theorem deal_new {H : Hp} {d l r : Addr} (D : Deal H d l) (h : H r = none) : r ≠ d ∧ r ≠ l := by
  obtain ⟨sd, n, ls, z⟩ := D
  exact ⟨(ne_of_none z.dc h).symm, (ne_of_none z.lc h).symm⟩
theorem deal_lst {H : Hp} {d l p : Addr} {xs ys : List V} (D : Deal H d l) (h : H p = some (.lst xs)) (n : p ≠ l) : Deal (upd H p (.lst ys)) d l := by
  obtain ⟨sd, k, ls, z⟩ := D
  exact ⟨sd, k, ls, ⟨by rw [upd_ne (ne_of z.dc h (by intro z; cases z))]; exact z.dc, by rw [upd_ne n.symm]; exact z.lc, z.s0, z.s1, z.n0, z.l0⟩⟩
theorem deal_keep {H H' : Hp} {d l p : Addr} {xs : List V} (D : Deal H d l) (h : H p = some (.lst xs)) (n : p ≠ l) (o : Out d l H H') : H' p = some (.lst xs) := by
  obtain ⟨sd, k, ls, z⟩ := D
  exact o _ _ h (ne_of h z.dc (by intro z; cases z)) n
theorem out_lst {H H2 : Hp} {d l lf : Addr} {o : HO} (h : Out d l H H2) (hf : H lf = none) : Out d l H (upd H2 lf o) := fun b u e h1 h2 => by
  rw [upd_ne (ne_of_none e hf)]
  exact h b u e h1 h2
def Off (S : List Addr) (H H' : Hp) : Prop := ∀ b o, H b = some o → b ∉ S → H' b = some o
theorem Off.refl {S : List Addr} (H : Hp) : Off S H H := fun _ _ e _ => e
theorem Off.trans {S : List Addr} {H H1 H2 : Hp} (a : Off S H H1) (b : Off S H1 H2) : Off S H H2 := fun c o e h => b c o (a c o e h) h
theorem Off.of {S : List Addr} {H H' : Hp} (s : Same H H') : Off S H H' := fun c o e _ => s c o e
theorem Off.out {d l sc : Addr} {H H' : Hp} (o : Out d l H H') : Off [d, l, sc] H H' := fun b u e n => o b u e (fun z => n (by rw [z]; exact List.mem_cons_self)) (fun z => n (by rw [z]; exact List.mem_cons_of_mem _ List.mem_cons_self))
theorem Off.new {S : List Addr} {H H1 : Hp} {p : Addr} {o : HO} (a : Off S H H1) (h : H p = none) : Off S H (upd H1 p o) := fun b u e n => by
  rw [upd_ne (ne_of_none e h)]
  exact a b u e n
theorem Off.fresh {S : List Addr} {H H1 : Hp} {p : Addr} (a : Off S H H1) (hS : ∀ b ∈ S, ∃ o, H1 b = some o) (h : H1 p = none) : H p = none := by
  cases q : H p with
  | none => rfl
  | some u =>
    exfalso
    by_cases m : p ∈ S
    · obtain ⟨o, e⟩ := hS p m
      rw [e] at h; cases h
    · rw [a p u q m] at h; cases h
/-! ### the scene -/
def sceneK (many : Int) (nl : Addr) (left : Int) : List (Key × V) := [(.inr "many", .int many), (.inr "names", .ref nl), (.inr "left", .int left)]
theorem kmn : ¬ ((Sum.inr ("many" : Str) : Key) = Sum.inr ("names" : Str)) := by decide +kernel
theorem kml : ¬ ((Sum.inr ("many" : Str) : Key) = Sum.inr ("left" : Str)) := by decide +kernel
theorem knL : ¬ ((Sum.inr ("names" : Str) : Key) = Sum.inr ("left" : Str)) := by decide +kernel
theorem sc_many (m : Int) (nl : Addr) (v : Int) : valV (sceneK m nl v) (Sum.inr "many" : Key) = some (.int m) := by unfold sceneK; rw [valV_pos rfl]
theorem sc_names (m : Int) (nl : Addr) (v : Int) : valV (sceneK m nl v) (Sum.inr "names" : Key) = some (.ref nl) := by unfold sceneK; rw [valV_neg kmn, valV_pos rfl]
theorem sc_left (m : Int) (nl : Addr) (v : Int) : valV (sceneK m nl v) (Sum.inr "left" : Key) = some (.int v) := by unfold sceneK; rw [valV_neg kml, valV_neg knL, valV_pos rfl]
theorem put_left (m : Int) (nl : Addr) (v u : Int) : putK (sceneK m nl v) (Sum.inr "left" : Key) (.int u) = sceneK m nl u := by
  unfold putK sceneK
  simp
  exact ⟨fun z => absurd (congrArg Sum.inr z) kml, fun z => absurd (congrArg Sum.inr z) knL⟩
structure Wd (H : Hp) (d l sc nl : Addr) (many : Int) (xs : List Str) : Prop where
  deal : Deal H d l
  scn : ∃ left, H sc = some (.dK (sceneK many nl left))
  nms : H nl = some (.lst (xs.map V.str))
  ne1 : sc ≠ d
  ne2 : nl ≠ l
  x1 : 1 ≤ xs.length
  x2 : xs.length ≤ 9
  m1 : 0 ≤ many
  m2 : many ≤ 3
section
variable {H H' : Hp} {d l sc nl : Addr} {many : Int} {xs : List Str}
theorem Wd.sl (W : Wd H d l sc nl many xs) : sc ≠ l := by
  obtain ⟨left, e⟩ := W.scn
  obtain ⟨sd, k, ls, z⟩ := W.deal
  exact ne_of e z.lc (by intro z; cases z)
theorem Wd.out (W : Wd H d l sc nl many xs) (D : Deal H' d l) (o : Out d l H H') : Wd H' d l sc nl many xs :=
  ⟨D, let ⟨left, e⟩ := W.scn; ⟨left, o _ _ e W.ne1 W.sl⟩, deal_keep W.deal W.nms W.ne2 o, W.ne1, W.ne2, W.x1, W.x2, W.m1, W.m2⟩
theorem Wd.same (W : Wd H d l sc nl many xs) (s : Same H H') : Wd H' d l sc nl many xs :=
  ⟨W.deal.same s, let ⟨left, e⟩ := W.scn; ⟨left, s _ _ e⟩, s _ _ W.nms, W.ne1, W.ne2, W.x1, W.x2, W.m1, W.m2⟩
theorem Wd.put (W : Wd H d l sc nl many xs) (v : Int) : Wd (upd H sc (.dK (sceneK many nl v))) d l sc nl many xs := by
  obtain ⟨left, e⟩ := W.scn
  obtain ⟨sd, k, ls, z⟩ := id W.deal
  have n1 := W.ne1
  have n2 := W.sl
  refine ⟨⟨sd, k, ls, ⟨by rw [upd_ne n1.symm]; exact z.dc, by rw [upd_ne n2.symm]; exact z.lc, z.s0, z.s1, z.n0, z.l0⟩⟩, ⟨v, upd_same⟩, ?_, n1, W.ne2, W.x1, W.x2, W.m1, W.m2⟩
  rw [upd_ne (ne_of W.nms e (by intro z; cases z))]
  exact W.nms
theorem Wd.dput (W : Wd H d l sc nl many xs) (v : Int) : DPut H sc (.str "left") (.int v) (upd H sc (.dK (sceneK many nl v))) := by
  obtain ⟨left, e⟩ := W.scn
  rw [← put_left many nl left v]
  exact DPut.k (k := Sum.inr "left") e (small1000 (by show 3 ≤ 1000; decide))
theorem Wd.left (W : Wd H d l sc nl many xs) : ∃ v, DGet H sc (.str "left") (some (.int v)) := by
  obtain ⟨left, e⟩ := W.scn
  refine ⟨left, ?_⟩
  rw [← sc_left many nl left]
  exact DGet.k (k := Sum.inr "left") e
theorem Wd.names (W : Wd H d l sc nl many xs) : DGet H sc (.str "names") (some (.ref nl)) := by
  obtain ⟨left, e⟩ := W.scn
  rw [← sc_names many nl left]
  exact DGet.k (k := Sum.inr "names") e
theorem Wd.getMany (W : Wd H d l sc nl many xs) : DGet H sc (.str "many") (some (.int many)) := by
  obtain ⟨left, e⟩ := W.scn
  rw [← sc_many many nl left]
  exact DGet.k (k := Sum.inr "many") e
theorem Wd.off (W : Wd H d l sc nl many xs) (v : Int) : Off [d, l, sc] H (upd H sc (.dK (sceneK many nl v))) := fun b u e n => by
  rw [upd_ne fun z => n (by rw [z]; simp)]
  exact e
theorem Wd.ts (W : Wd H d l sc nl many xs) (o : Off [d, l, sc] H H') : TS H H' := fun p ys h => by
  obtain ⟨left, e⟩ := W.scn
  obtain ⟨sd, k, ls, z⟩ := W.deal
  refine o _ _ h fun m => ?_
  simp only [List.mem_cons, List.not_mem_nil, or_false] at m
  rcases m with m | m | m
  · rw [m, z.dc] at h; cases h
  · rw [m, z.lc] at h; cases h
  · rw [m, e] at h; cases h
theorem Wd.keep (W : Wd H d l sc nl many xs) {p : Addr} {ys : List V} (h : H p = some (.lst ys)) (n : p ≠ l) (o : Off [d, l, sc] H H') : H' p = some (.lst ys) := by
  obtain ⟨left, e⟩ := W.scn
  obtain ⟨sd, k, ls, z⟩ := W.deal
  refine o _ _ h fun m => ?_
  simp only [List.mem_cons, List.not_mem_nil, or_false] at m
  rcases m with m | m | m
  · rw [m, z.dc] at h; cases h
  · exact n m
  · rw [m, e] at h; cases h
theorem Wd.lst (W : Wd H d l sc nl many xs) {p : Addr} {ys zs : List V} (h : H p = some (.lst ys)) (n : p ≠ l) (n2 : p ≠ nl) : Wd (upd H p (.lst zs)) d l sc nl many xs := by
  obtain ⟨left, e⟩ := W.scn
  exact ⟨deal_lst W.deal h n, ⟨left, by rw [upd_ne (ne_of e h (by intro z; cases z))]; exact e⟩, by rw [upd_ne n2.symm]; exact W.nms, W.ne1, W.ne2, W.x1, W.x2, W.m1, W.m2⟩
theorem Wd.all (W : Wd H d l sc nl many xs) : ∀ b ∈ [d, l, sc], ∃ o, H b = some o := by
  obtain ⟨left, e⟩ := W.scn
  obtain ⟨sd, k, ls, z⟩ := W.deal
  intro b m
  simp only [List.mem_cons, List.not_mem_nil, or_false] at m
  rcases m with m | m | m
  · exact ⟨_, by rw [m]; exact z.dc⟩
  · exact ⟨_, by rw [m]; exact z.lc⟩
  · exact ⟨_, by rw [m]; exact e⟩
end
/-! ### what the rows of a block know and tell -/
mutual
def ScR (ks : List Str) : Rw → List Str → Prop
  | .thr _ _ x _, k2 => k2 = ks ++ [x]
  | .lt _ x t, k2 => k2 = ks ++ [x] ∧ ∀ y ∈ t.names, y ∈ ks
  | .tell _ t, k2 => k2 = ks ∧ ∀ y ∈ t.names, y ∈ ks
  | .when _ _ _ t a b, k2 => (∀ y ∈ t.names, y ∈ ks) ∧ ∃ k3 k4, ScL ks a k3 ∧ ScL ks b k4 ∧ k2 = k3.filter (fun x => decide (x ∈ k4))
  | .times _ _ _ b, k2 => ScL ks b k2
def ScL (ks : List Str) : List Rw → List Str → Prop
  | [], k2 => k2 = ks
  | r :: rs, k2 => ∃ k1, ScR ks r k1 ∧ ScL k1 rs k2
end
theorem ScL.app {ks k1 k2 : List Str} {r : Rw} : ∀ {rs : List Rw} {ks : List Str}, ScL ks rs k1 → ScR k1 r k2 → ScL ks (rs ++ [r]) k2
  | [], ks, h, h2 => by
    have h : k1 = ks := h
    rw [h] at h2
    exact ⟨k2, h2, rfl⟩
  | q :: rs, ks, ⟨k3, h1, h2⟩, h3 => ⟨k3, h1, ScL.app (ks := ks) h2 h3⟩
mutual
theorem ScR.len : ∀ (r : Rw) {ks k2 : List Str}, ScR ks r k2 → k2.length ≤ ks.length + r.cnt
  | .thr _ _ x _, ks, k2, h => by have h : k2 = ks ++ [x] := h
                                  rw [h]; simp [Rw.cnt]
  | .lt _ x t, ks, k2, h => by rw [h.1]; simp [Rw.cnt]
  | .tell _ t, ks, k2, h => by rw [h.1]; simp [Rw.cnt]
  | .when _ _ _ t a b, ks, k2, ⟨_, k3, k4, h1, h2, h3⟩ => by
    have := ScL.len a h1
    have := List.length_filter_le (fun x => decide (x ∈ k4)) k3
    rw [h3]
    simp only [Rw.cnt]
    omega
  | .times _ _ _ b, ks, k2, h => by
    have := ScL.len b (show ScL ks b k2 from h)
    simp only [Rw.cnt]
    omega
theorem ScL.len : ∀ (rs : List Rw) {ks k2 : List Str}, ScL ks rs k2 → k2.length ≤ ks.length + cntL rs
  | [], ks, k2, h => by have h : k2 = ks := h
                        rw [h]; simp [cntL]
  | r :: rs, ks, k2, ⟨k1, h1, h2⟩ => by
    have := ScR.len r h1
    have := ScL.len rs h2
    simp only [cntL]
    omega
end
mutual
def tel : Rw → Int
  | .thr _ _ _ _ => 0
  | .lt _ _ _ => 0
  | .tell _ _ => 1
  | .when _ _ _ _ a _ => telL a
  | .times _ _ n b => n * telL b
def telL : List Rw → Int
  | [] => 0
  | r :: rs => tel r + telL rs
end
mutual
def TelOk : Rw → Prop
  | .thr _ _ _ _ => True
  | .lt _ _ _ => True
  | .tell _ _ => True
  | .when _ _ _ _ a b => telL a = telL b ∧ TelOkL a ∧ TelOkL b
  | .times _ _ n b => (0 ≤ n ∧ n ≤ 9 ∧ 0 ≤ telL b ∧ telL b ≤ 100) ∧ TelOkL b
def TelOkL : List Rw → Prop
  | [] => True
  | r :: rs => TelOk r ∧ TelOkL rs
end
theorem telL_app : ∀ (rs qs : List Rw), telL (rs ++ qs) = telL rs + telL qs
  | [], qs => by simp [telL]
  | r :: rs, qs => by simp only [List.cons_append, telL, telL_app rs qs]; omega
theorem TelOkL.app : ∀ {rs qs : List Rw}, TelOkL rs → TelOkL qs → TelOkL (rs ++ qs)
  | [], _, _, h => h
  | _ :: _, _, ⟨h, k⟩, h2 => ⟨h, TelOkL.app k h2⟩
/-! how many rows a block may have: m levels are left below it -/
def tn : Nat → Nat
  | 0 => 2
  | 1 => 2
  | 2 => 4
  | _ => 7
def cb : Nat → Nat
  | 0 => 6
  | 1 => 30
  | 2 => 248
  | _ => 3483
def pb : Nat → Nat
  | 0 => 1
  | m + 1 => 1 + 2 * cb m
structure Blk (ks : List Str) (rs : List Rw) (k2 : List Str) (tells : Int) : Prop where
  sc : ScL ks rs k2
  tl : telL rs = tells
  tk : TelOkL rs
/-! ### promises -/
def refs (rs : List Rw) : List V := rs.map fun r => V.ref r.p
def spNames : Sp := fun vs H Q _ => ∃ (d l : Addr) (m : Int), vs = [.ref d, .int m] ∧ Deal H d l ∧ 0 ≤ m ∧ m ≤ 9 ∧
  ∀ (r : Addr) (xs : List Str) (H' : Hp), Deal H' d l → Out d l H H' → H r = none → H' r = some (.lst (xs.map V.str)) → (xs.length : Int) = m → xs.Nodup → Q (.ref r) H'
def spSumS : Sp := fun vs H Q _ => ∃ (d l : Addr) (m : Int), vs = [.ref d, .int m] ∧ Deal H d l ∧ 0 ≤ m ∧ m ≤ 3 ∧ ∀ (p : Addr) (ws : List V) (H' : Hp), Deal H' d l → Out d l H H' → H' p = some (.tup ws) → Q (.ref p) H'
def spStp : Sp := fun vs H Q _ => ∃ (d l : Addr) (m : Int), vs = [.ref d, .int m] ∧ Deal H d l ∧
  ∀ (p : Addr) (a b : Int) (H' : Hp), Deal H' d l → Out d l H H' → H' p = some (.tup [.int a, .int b]) → (m ≠ 1 → 2 * a ≤ b) → Q (.ref p) H'
def spThrow : Sp := fun vs H Q _ => ∃ (d l : Addr) (m : Int) (x : Str), vs = [.ref d, .int m, .str x] ∧ Deal H d l ∧ 0 ≤ m ∧ m ≤ 3 ∧
  ∀ (p : Addr) (w : Str) (ws : List V) (H' : Hp), Deal H' d l → Out d l H H' → H' p = some (.tup (.str w :: .str x :: ws)) → ThrOk H' w ws → Q (.ref p) H'
def spTmR (n : Nat) : Sp := fun vs H Q _ => ∃ (d l kn : Addr) (ks : List Str) (room deep : Int), vs = [.ref d, .ref kn, .int room, .int deep] ∧ Deal H d l ∧ H kn = some (.lst (ks.map V.str)) ∧ kn ≠ l ∧ ks.length ≤ 10000 ∧ 1 ≤ room ∧ room ≤ 64 ∧ deep ≤ n ∧
  ∀ (t : Tm) (H' : Hp), Deal H' d l → Out d l H H' → TmH H' t → t.ok → (∀ x ∈ t.names, x ∈ ks) → (t.size : Int) ≤ room → t.deep ≤ n → Q (.ref t.p) H'
def spTm : Nat → Sp
  | 0 => fun _ _ _ _ => False
  | n + 1 => spTmR (n + 1)
def SetR (ks : List Str) (x : Str) (r : Rw) : Prop := (∃ p w vs, r = .thr p w x vs) ∨ ∃ p t, r = .lt p x t ∧ ∀ y ∈ t.names, y ∈ ks
def spSet : Sp := fun vs H Q _ => ∃ (d l sc nl kn : Addr) (many : Int) (xs ks : List Str) (x : Str), vs = [.ref d, .ref sc, .ref kn, .str x] ∧ Wd H d l sc nl many xs ∧ H kn = some (.lst (ks.map V.str)) ∧ kn ≠ l ∧ ks.length ≤ 10000 ∧
  ∀ (r : Rw) (H' : Hp), Wd H' d l sc nl many xs → Off [d, l, sc] H H' → RwH H' r → SetR ks x r → Q (.ref r.p) H'
def spBlk (m : Nat) : Sp := fun vs H Q _ => ∃ (d l sc nl kn : Addr) (many : Int) (xs ks : List Str) (tells deep : Int), vs = [.ref d, .ref sc, .ref kn, .int tells, .int deep] ∧ Wd H d l sc nl many xs ∧ H kn = some (.lst (ks.map V.str)) ∧ kn ≠ l ∧ ks.length + cb m ≤ 9000 ∧ 0 ≤ tells ∧ tells ≤ 4 ∧ m ≤ 3 ∧ deep = 3 - (m : Int) ∧
  ∀ (p pr kn' : Addr) (rs : List Rw) (k2 : List Str) (H' : Hp), Wd H' d l sc nl many xs → Off [d, l, sc] H H' → H' p = some (.tup [.ref pr, .ref kn']) → H' pr = some (.tup (refs rs)) → RwsH H' rs → cntL rs ≤ cb m → (kn' = kn ∨ H kn' = none) → kn' ≠ l → H' kn' = some (.lst (k2.map V.str)) → Blk ks rs k2 tells → Q (.ref p) H'
def spBlkP : Nat → Sp
  | 0 => fun _ _ _ _ => False
  | m + 1 => spBlk m
def spWhnR (m : Nat) : Sp := fun vs H Q _ => ∃ (d l sc nl kn : Addr) (many : Int) (xs ks : List Str) (tells deep : Int), vs = [.ref d, .ref sc, .ref kn, .int tells, .int deep] ∧ Wd H d l sc nl many xs ∧ H kn = some (.lst (ks.map V.str)) ∧ kn ≠ l ∧ ks.length + cb m ≤ 9000 ∧ 0 ≤ tells ∧ tells ≤ 4 ∧ m ≤ 2 ∧ deep = 2 - (m : Int) ∧
  ∀ (p kn' : Addr) (r : Rw) (k2 : List Str) (H' : Hp), Wd H' d l sc nl many xs → Off [d, l, sc] H H' → H' p = some (.tup [.ref r.p, .ref kn']) → RwH H' r → r.cnt ≤ 1 + 2 * cb m → H kn' = none → H' kn' = some (.lst (k2.map V.str)) → ScR ks r k2 → tel r = tells → TelOk r → Q (.ref p) H'
def spWhn : Nat → Sp
  | 0 => fun _ _ _ _ => False
  | m + 1 => spWhnR m
structure PrgH (H : Hp) (p : Addr) (ks : List Str) (rs : List Rw) (k2 : List Str) (tells : Int) : Prop where
  ex : ∃ pk pr, H p = some (.tup [.ref pk, .ref pr]) ∧ H pk = some (.tup (ks.map V.str)) ∧ H pr = some (.tup (refs rs))
  rows : RwsH H rs
  cnt : cntL rs ≤ 4000
  sc : ScL [] rs k2
  tl : telL rs = tells
  tk : TelOkL rs
  k1 : 1 ≤ ks.length
  k3 : ks.length ≤ 3
  t1 : 1 ≤ tells
  nd : ks.Nodup
theorem PrgH.ts {H H' : Hp} {p : Addr} {ks : List Str} {rs : List Rw} {k2 : List Str} {tells : Int} (t : TS H H') (P : PrgH H p ks rs k2 tells) : PrgH H' p ks rs k2 tells :=
  ⟨let ⟨pk, pr, a, b, c⟩ := P.ex; ⟨pk, pr, t _ _ a, t _ _ b, t _ _ c⟩, RwsH.ts t rs P.rows, P.cnt, P.sc, P.tl, P.tk, P.k1, P.k3, P.t1, P.nd⟩
def spPrg : Sp := fun vs H Q _ => ∃ (d l : Addr) (m : Int), vs = [.ref d, .int m] ∧ Deal H d l ∧
  ∀ (p : Addr) (ks : List Str) (rs : List Rw) (k2 : List Str) (tells : Int) (H' : Hp), Deal H' d l → Out d l H H' → PrgH H' p ks rs k2 tells → cntL rs ≤ 3490 → tells ≤ 4 → Q (.ref p) H'
/-! the program's own defs -/
def spParts : Sp := fun vs H Q _ => ∃ t : Tm, vs = [.ref t.p] ∧ TmH H t ∧ t.size ≤ 900 ∧ ∀ (r : Addr) (H' : Hp), Same H H' → H r = none → H' r = some (.lst (t.pre.map fun u => V.ref u.p)) → Q (.ref r) H'
def Stp2 (H : Hp) (z : V) (s : Stp) : Prop := ∃ q, z = .ref q ∧ H q = some (.tup [.str s.1, .ref s.2.p])
def Stp3 (H : Hp) (z : V) (s : Stp) : Prop := ∃ q n, z = .ref q ∧ H q = some (.tup [.str s.1, .ref s.2.p, .int n])
theorem Stp2.ts {H H' : Hp} (t : TS H H') {z : V} {s : Stp} (h : Stp2 H z s) : Stp2 H' z s := let ⟨q, e, k⟩ := h; ⟨q, e, t _ _ k⟩
theorem Stp3.ts {H H' : Hp} (t : TS H H') {z : V} {s : Stp} (h : Stp3 H z s) : Stp3 H' z s := let ⟨q, n, e, k⟩ := h; ⟨q, n, e, t _ _ k⟩
def spAsS : Sp := fun vs H Q _ => ∃ (p : Addr) (rs : List Rw), vs = [.ref p] ∧ H p = some (.tup (refs rs)) ∧ rs.length ≤ 4000 ∧
  ∀ (r : Addr) (zs : List V) (H' : Hp), Same H H' → H' r = some (.lst zs) → Two (Stp2 H') zs (rs.map fun r => (("row" : Str), r)) → Q (.ref r) H'
def spInner : Sp := fun vs H Q _ => ∃ (r : Rw), vs = [.ref r.p] ∧ RwH H r ∧ r.cnt ≤ 4000 ∧
  ∀ (q : Addr) (zs : List V) (H' : Hp), Same H H' → H' q = some (.lst zs) → Two (Stp2 H') zs (inner r) → Q (.ref q) H'
def spSteps : Sp := fun vs H Q _ => ∃ (p : Addr) (rs : List Rw), vs = [.ref p] ∧ H p = some (.tup (refs rs)) ∧ RwsH H rs ∧ cntL rs ≤ 4000 ∧
  ∀ (r : Addr) (zs : List V) (H' : Hp), Same H H' → H r = none → H' r = some (.lst zs) → Two (Stp3 H') zs (stpsL rs) → Q (.ref r) H'
def Tm.nm : Tm → Option Str
  | .nam _ x => some x
  | _ => none
theorem Tm.pre_names : ∀ t : Tm, t.pre.filterMap Tm.nm = t.names
  | .num _ _ => rfl
  | .nam _ _ => rfl
  | .op p s a b => by
    show List.filterMap Tm.nm (Tm.op p s a b :: (a.pre ++ b.pre)) = a.names ++ b.names
    rw [List.filterMap_cons_none (by rfl), List.filterMap_append, Tm.pre_names a, Tm.pre_names b]
def spNamesIn : Sp := fun vs H Q _ => ∃ t : Tm, vs = [.ref t.p] ∧ TmH H t ∧ t.size ≤ 900 ∧ ∀ (r : Addr) (H' : Hp), Same H H' → H' r = some (.lst (t.names.map V.str)) → Q (.ref r) H'
def Rw.sets : Rw → Option Str
  | .thr _ _ x _ => some x
  | .lt _ x _ => some x
  | .tell _ _ => none
  | .when _ _ _ _ _ _ => none
  | .times _ _ _ _ => none
def Rw.asked : Rw → List Str
  | .thr _ _ _ _ => []
  | .lt _ _ t => t.names
  | .tell _ t => t.names
  | .when _ _ _ t _ _ => t.names
  | .times _ _ _ _ => []
def spSetsN : Sp := fun vs H Q _ => ∃ r : Rw, vs = [.ref r.p] ∧ RwH H r ∧ Q (.bl r.sets.isSome) H
def spAsked : Sp := fun vs H Q _ => ∃ r : Rw, vs = [.ref r.p] ∧ RwH H r ∧ ∀ (q : Addr) (H' : Hp), Same H H' → H' q = some (.lst (r.asked.map V.str)) → Q (.ref q) H'
def opens (s : Stp) : Bool := decide (s.1 = "else") || (decide (s.1 = "row") && decide (s.2.w ∈ (["when", "times"] : List Str)))
def spBegins : Sp := fun vs H Q _ => ∃ s : Stp, vs = [.str s.1, .ref s.2.p] ∧ RwH H s.2 ∧ ∀ H', Same H H' → Q (.bl (opens s)) H'
def spFirstA : Sp := fun vs H Q _ => ∃ (p : Addr) (x : Str) (us : List V), vs = [.ref p] ∧ H p = some (.tup (.str "first" :: .str x :: us)) ∧ ThrOk H "first" us ∧ Q (.bl false) H
def spRangeA : Sp := fun vs H Q _ => ∃ r : Rw, vs = [.ref r.p] ∧ RwH H r ∧ Q (.bl false) H
def StepsH (H : Hp) (ls : Addr) (zs : List V) (rs : List Rw) : Prop := H ls = some (.lst zs) ∧ Two (Stp3 H) zs (stpsL rs) ∧ RwsH H rs ∧ cntL rs ≤ 4000
theorem StepsH.same {H H' : Hp} (s : Same H H') {ls : Addr} {zs : List V} {rs : List Rw} (h : StepsH H ls zs rs) : StepsH H' ls zs rs := ⟨s _ _ h.1, h.2.1.mono fun _ _ z => Stp3.ts (.of s) z, RwsH.ts (.of s) rs h.2.2.1, h.2.2.2⟩
def spRangeF : Sp := fun vs H Q _ => ∃ (ls : Addr) (zs : List V) (rs : List Rw), vs = [.ref ls] ∧ StepsH H ls zs rs ∧ ∀ (r : Addr) (H' : Hp), Same H H' → H' r = some (.lst []) → Q (.ref r) H'
def spUnkF : Sp := fun vs H Q _ => ∃ (ls : Addr) (zs : List V) (rs : List Rw) (k2 : List Str), vs = [.ref ls] ∧ StepsH H ls zs rs ∧ ScL [] rs k2 ∧ ∀ (r : Addr) (H' : Hp), Same H H' → H' r = some (.lst []) → Q (.ref r) H'
def spTelF : Sp := fun vs H Q _ => ∃ (ls : Addr) (zs : List V) (rs : List Rw), vs = [.ref ls] ∧ StepsH H ls zs rs ∧ TelOkL rs ∧ ∀ (r : Addr) (H' : Hp), Same H H' → H' r = some (.lst []) → Q (.ref r) H'
def spKinds : Sp := fun vs H Q _ => ∃ (p : Addr) (ks : List Str), vs = [.ref p] ∧ H p = some (.tup (ks.map V.str)) ∧ 1 ≤ ks.length ∧ ks.length ≤ 3 ∧ ks.Nodup ∧ ∀ H', Same H H' → Q .non H'
def spLook : Sp := fun vs H Q _ => ∃ (p : Addr) (ks : List Str) (rs : List Rw) (k2 : List Str) (tells : Int), vs = [.ref p] ∧ PrgH H p ks rs k2 tells ∧ ∀ H', Same H H' → Q (.bl true) H'
/-! dicts of known names -/
structure Dk (H : Hp) (a : Addr) (ns : List Str) (n : Nat) : Prop where
  ex : ∃ kvs : List (Key × V), H a = some (.dK kvs) ∧ (∀ x : Str, (valV kvs (Sum.inr x : Key)).isSome = true ↔ x ∈ ns) ∧ (∀ q ∈ kvs, ∃ x, q.1 = (Sum.inr x : Key)) ∧ kvs.length ≤ n
theorem Dk.at {H H' : Hp} {a : Addr} {ns : List Str} {n : Nat} (D : Dk H a ns n) (h : ∀ o, H a = some o → H' a = some o) : Dk H' a ns n := ⟨let ⟨k, e, r⟩ := D.ex; ⟨k, h _ e, r⟩⟩
theorem Dk.more {H : Hp} {a : Addr} {ns : List Str} {n m : Nat} (D : Dk H a ns n) (h : n ≤ m) : Dk H a ns m := ⟨let ⟨k, e, r1, r2, r3⟩ := D.ex; ⟨k, e, r1, r2, by omega⟩⟩
def spBoth : Sp := fun vs H Q _ => ∃ (a b : Addr) (ka kb : List Str) (n m : Nat), vs = [.ref a, .ref b] ∧ a ≠ b ∧ Dk H a ka n ∧ Dk H b kb m ∧ n ≤ 20000 ∧
  ∀ (d : Addr) (H' : Hp), (∀ c o, H c = some o → c ≠ a → H' c = some o) → H d = none → Dk H' d (ka.filter fun x => decide (x ∈ kb)) n → Q (.ref d) H'
def GoodV (H : Hp) (v : V) : Prop := ∃ (p : Addr) (ks : List Str) (rs : List Rw) (k2 : List Str) (tells : Int), v = .ref p ∧ PrgH H p ks rs k2 tells
theorem GoodV.ts {H H' : Hp} (t : TS H H') {v : V} (h : GoodV H v) : GoodV H' v := let ⟨p, ks, rs, k2, tl, e, P⟩ := h; ⟨p, ks, rs, k2, tl, e, P.ts t⟩
def spAlike : Sp := fun vs H Q _ => ∃ (d l p : Addr) (ks : List Str) (rs : List Rw) (k2 : List Str) (tells : Int), vs = [.ref d, .ref p] ∧ Deal H d l ∧ PrgH H p ks rs k2 tells ∧ cntL rs ≤ 3490 ∧ tells ≤ 4 ∧
  ∀ (r : Addr) (us : List V) (H' : Hp), Deal H' d l → Out d l H H' → H r = none → H' r = some (.lst us) → (∀ v ∈ us, GoodV H' v) → us.length ≤ 6 → Q (.ref r) H'
end Mine
namespace Mine
open PySem L2
theorem big4 {n : Nat} (h : n ≤ 9000000) : n < sizeLine := by rw [sizeLine_eq]; omega
theorem flat_ge : ∀ l : List Tm, l.length ≤ (l.flatMap Tm.pre).length
  | [] => Nat.le_refl _
  | t :: r => by have := flat_ge r; have := t.size_pos; rw [List.length_cons, List.flatMap_cons, List.length_append, Tm.pre_len]; omega
theorem wNum : ¬ (V.str "num" = V.str "op") := by decide +kernel
theorem wNam : ¬ (V.str "name" = V.str "op") := by decide +kernel
theorem wOM : ¬ (V.str "op" = V.str "name") := by decide +kernel
theorem wTW : ¬ (V.str "times" = V.str "when") := by decide +kernel
theorem wLW : ¬ (V.str "let" = V.str "when") := by decide +kernel
theorem wLT : ¬ (V.str "let" = V.str "times") := by decide +kernel
theorem wEW : ¬ (V.str "tell" = V.str "when") := by decide +kernel
theorem wET : ¬ (V.str "tell" = V.str "times") := by decide +kernel
theorem thrNe1 {w : Str} (h : w ∈ thrW) : ¬ (V.str w = V.str "when") := fun z => by
  have e : w = "when" := by injection z
  rw [e] at h
  exact absurd h (by decide +kernel)
theorem thrNe2 {w : Str} (h : w ∈ thrW) : ¬ (V.str w = V.str "times") := fun z => by
  have e : w = "times" := by injection z
  rw [e] at h
  exact absurd h (by decide +kernel)
theorem at0 {v : V} {r : List V} : atI (v :: r) 0 = some v := by
  unfold atI ixN
  rw [if_pos (Int.le_refl 0), if_pos (by rw [List.length_cons]; omega)]
  rfl
theorem refs_len (rs : List Rw) : (refs rs).length = rs.length := List.length_map _
theorem refs_at {rs : List Rw} {i : Nat} {v : V} (h : (refs rs)[i]? = some v) : ∃ r, v = .ref r.p ∧ rs[i]? = some r := by
  unfold refs at h
  rw [List.getElem?_map] at h
  cases e : rs[i]? with
  | none => rw [e] at h; cases h
  | some r => rw [e] at h; exact ⟨r, (Option.some.inj h).symm, rfl⟩
theorem refs_app (rs qs : List Rw) : refs (rs ++ qs) = refs rs ++ refs qs := List.map_append ..
theorem twoAt {α : Type} {R : V → α → Prop} : ∀ {vs : List V} {as : List α} {i : Nat} {v : V}, Two R vs as → vs[i]? = some v → ∃ a, as[i]? = some a ∧ R v a
  | [], [], i, v, _, h => by cases h
  | v :: vs, a :: as, 0, _, ⟨e, _⟩, h => by cases h; exact ⟨a, rfl, e⟩
  | v :: vs, a :: as, i + 1, x, ⟨_, r⟩, h => by
    obtain ⟨b, h1, h2⟩ := twoAt (i := i) (v := x) r (by simpa using h)
    exact ⟨b, by simpa using h1, h2⟩
  | [], _ :: _, _, _, z, _ => z.elim
  | _ :: _, [], _, _, z, _ => z.elim
theorem two_rev {α : Type} {R : V → α → Prop} : ∀ {vs : List V} {as : List α}, Two R vs as → Two R vs.reverse as.reverse
  | [], [], _ => trivial
  | v :: vs, a :: as, ⟨e, r⟩ => by
    rw [List.reverse_cons, List.reverse_cons]
    exact Two.append (two_rev r) ⟨e, trivial⟩
  | [], _ :: _, z => z.elim
  | _ :: _, [], z => z.elim
theorem two_snoc {α : Type} {R : V → α → Prop} : ∀ {as : List α} {vs : List V} {a : α}, Two R vs (as ++ [a]) → ∃ us v, vs = us ++ [v] ∧ Two R us as ∧ R v a
  | [], [v], a, ⟨e, _⟩ => ⟨[], v, rfl, trivial, e⟩
  | [], _ :: _ :: _, _, ⟨_, z⟩ => z.elim
  | [], [], _, z => z.elim
  | b :: bs, [], _, z => z.elim
  | b :: bs, v :: vs, a, ⟨e, r⟩ => by
    obtain ⟨us, u, h1, h2, h3⟩ := two_snoc (as := bs) r
    exact ⟨v :: us, u, by rw [h1]; rfl, ⟨e, h2⟩, h3⟩
theorem stps_pos (r : Rw) : 1 ≤ (stps r).length := by rw [stps_eq]; simp
theorem exp_pos (s : Stp) : 1 ≤ (expd s).length := by
  unfold expd
  split
  · exact stps_pos _
  · simp
theorem exp_ge : ∀ l : List Stp, l.length ≤ (l.flatMap expd).length
  | [] => Nat.le_refl _
  | t :: r => by have := exp_ge r; have := exp_pos t; rw [List.length_cons, List.flatMap_cons, List.length_append]; omega
theorem cnt_mem : ∀ {rs : List Rw} {r : Rw}, r ∈ rs → r.cnt ≤ cntL rs
  | [], _, h => absurd h List.not_mem_nil
  | q :: rs, r, h => by
    simp only [cntL]
    rcases List.mem_cons.mp h with e | e
    · rw [e]; omega
    · have := cnt_mem e; omega
theorem inner_mem : ∀ {r : Rw} {s : Stp}, s ∈ inner r → s.2 = r ∨ s.2 ∈ r.kids
  | .when p pa pb t a b, s, h => by
    simp only [inner, List.mem_append, List.mem_map, List.mem_singleton] at h
    rcases h with ((⟨x, hx, e⟩ | e) | ⟨x, hx, e⟩) | e
    · right; rw [← e]; exact List.mem_append_left _ hx
    · left; rw [e]
    · right; rw [← e]; exact List.mem_append_right _ hx
    · left; rw [e]
  | .times p pb n b, s, h => by
    simp only [inner, List.mem_append, List.mem_map, List.mem_singleton] at h
    rcases h with ⟨x, hx, e⟩ | e
    · right; rw [← e]; exact hx
    · left; rw [e]
  | .thr _ _ _ _, _, h => absurd h List.not_mem_nil
  | .lt _ _ _, _, h => absurd h List.not_mem_nil
  | .tell _ _, _, h => absurd h List.not_mem_nil
theorem inner_ok {H : Hp} {r : Rw} (h : RwH H r) (hc : r.cnt ≤ 4000) {s : Stp} (m : s ∈ inner r) : RwH H s.2 ∧ s.2.cnt ≤ 4000 := by
  rcases inner_mem m with e | e
  · rw [e]; exact ⟨h, hc⟩
  · have := cnt_mem e
    have := cnt_eq r
    exact ⟨h.kids.mem _ e, by omega⟩
theorem inV_strs (w : Str) (xs : List Str) : inV (.str w) (xs.map V.str) = decide (w ∈ xs) := by
  unfold inV
  rw [List.any_map]
  induction xs with
  | nil => rfl
  | cons x r ih =>
    rw [List.any_cons, ih]
    have e : (eqV (V.str x) (V.str w)) = decide (x = w) := rfl
    show (eqV (V.str x) (V.str w) || _) = _
    rw [e]
    by_cases c : x = w
    · simp [c]
    · have c2 : ¬ w = x := fun z => c z.symm
      simp [c, c2]
theorem flat_texts (xs : List Str) : (xs.map V.str).all flatV = true := flat_strs xs
theorem strs_at {xs : List Str} {i : Nat} {v : V} (h : (xs.map V.str)[i]? = some v) : ∃ x, v = .str x ∧ xs[i]? = some x := by
  rw [List.getElem?_map] at h
  cases e : xs[i]? with
  | none => rw [e] at h; cases h
  | some r => rw [e] at h; exact ⟨r, (Option.some.inj h).symm, rfl⟩
/-! places in short displays -/
theorem three_at {r x y z : Int} (h0 : 0 ≤ r) (h1 : r < 3) : ∃ w, atI [V.int x, V.int y, V.int z] r = some (.int w) ∧ (w = x ∨ w = y ∨ w = z) := by
  have : r = 0 ∨ r = 1 ∨ r = 2 := by omega
  rcases this with rfl | rfl | rfl
  · exact ⟨x, rfl, .inl rfl⟩
  · exact ⟨y, rfl, .inr (.inl rfl)⟩
  · exact ⟨z, rfl, .inr (.inr rfl)⟩
theorem sgn_at {r : Int} (h0 : 0 ≤ r) (h1 : r < 5) : ∃ c, atI ("+-*<=" : Str).cps.toList r = some c ∧ (⟨#[c]⟩ : Str) ∈ sgns := by
  have : r = 0 ∨ r = 1 ∨ r = 2 ∨ r = 3 ∨ r = 4 := by omega
  rcases this with rfl | rfl | rfl | rfl | rfl
  · exact ⟨43, rfl, by decide +kernel⟩
  · exact ⟨45, rfl, by decide +kernel⟩
  · exact ⟨42, rfl, by decide +kernel⟩
  · exact ⟨60, rfl, by decide +kernel⟩
  · exact ⟨61, rfl, by decide +kernel⟩
theorem tn_at {m : Nat} {deep : Int} (hm : m ≤ 3) (hd : deep = 3 - (m : Int)) : atI [V.int 8, V.int 5, V.int 3, V.int 3] deep = some (.int ((tn m : Int) + 1)) := by
  have : m = 0 ∨ m = 1 ∨ m = 2 ∨ m = 3 := by omega
  rcases this with rfl | rfl | rfl | rfl <;> (subst hd; rfl)
theorem cb_eq {m : Nat} (hm : m ≤ 3) : cb m = tn m * pb m + 4 := by
  have : m = 0 ∨ m = 1 ∨ m = 2 ∨ m = 3 := by omega
  rcases this with rfl | rfl | rfl | rfl <;> rfl
theorem tn_le (m : Nat) : tn m ≤ 7 := by
  unfold tn
  split <;> decide
theorem cb_le (m : Nat) : cb m ≤ 3483 := by
  unfold cb
  split <;> decide
/-! pairs -/
theorem pairs_ts {H H' : Hp} (t : TS H H') : ∀ {vs : List V} {ps : List (Int × Int)}, PairsAt H vs ps → PairsAt H' vs ps
  | [], [], _ => trivial
  | _ :: _, _ :: _, ⟨⟨a, e, h⟩, r⟩ => ⟨⟨a, e, t _ _ h⟩, pairs_ts t r⟩
  | [], _ :: _, z => z.elim
  | _ :: _, [], z => z.elim
theorem pairs_app {H : Hp} : ∀ {vs us : List V} {ps qs : List (Int × Int)}, PairsAt H vs ps → PairsAt H us qs → PairsAt H (vs ++ us) (ps ++ qs)
  | [], _, [], _, _, h => h
  | _ :: _, _, _ :: _, _, ⟨e, r⟩, h => ⟨e, pairs_app r h⟩
  | [], _, _ :: _, _, z, _ => z.elim
  | _ :: _, _, [], _, z, _ => z.elim
theorem pairs_len {H : Hp} : ∀ {vs : List V} {ps : List (Int × Int)}, PairsAt H vs ps → vs.length = ps.length
  | [], [], _ => rfl
  | _ :: _, _ :: _, ⟨_, r⟩ => by simp [pairs_len r]
  | [], _ :: _, z => z.elim
  | _ :: _, [], z => z.elim
theorem pairs_at {H : Hp} : ∀ {vs : List V} {ps : List (Int × Int)} {i : Nat} {v : V}, PairsAt H vs ps → vs[i]? = some v → ∃ p ∈ ps, ∃ a, v = .ref a ∧ H a = some (.tup [.int p.1, .int p.2])
  | [], [], i, v, _, h => by cases h
  | v :: vs, p :: ps, 0, _, ⟨e, _⟩, h => by cases h; exact ⟨p, List.mem_cons_self, e⟩
  | v :: vs, p :: ps, i + 1, x, ⟨_, r⟩, h => by
    obtain ⟨q, m, k⟩ := pairs_at (i := i) (v := x) r (by simpa using h)
    exact ⟨q, List.mem_cons_of_mem _ m, k⟩
  | [], _ :: _, _, _, z, _ => z.elim
  | _ :: _, [], _, _, z, _ => z.elim
theorem at_nat {α : Type} {xs : List α} {r : Int} (h0 : 0 ≤ r) (h1 : r < (xs.length : Int)) : ∃ v, xs[r.toNat]? = some v ∧ atI xs r = some v := by
  have hk : r.toNat < xs.length := by omega
  refine ⟨_, List.getElem?_eq_getElem hk, ?_⟩
  have q := atI_nat (List.getElem?_eq_getElem hk)
  rw [Int.toNat_of_nonneg h0] at q
  exact q
theorem cut6 {xs : List Str} (h : 6 ≤ xs.length) : ∃ ys : List Str, cutV (xs.map V.str) none (some 6) = ys.map V.str ∧ ys.length = 6 := by
  refine ⟨xs.take 6, ?_, by rw [List.length_take]; omega⟩
  unfold cutV
  have e : HT.sIx (xs.map V.str).length (xs.map V.str).length (some 6) = 6 := by
    rw [show (6 : Int) = ((6 : Nat) : Int) from rfl, HT.sIx_nat, List.length_map]
    omega
  rw [e, show HT.sIx (xs.map V.str).length 0 none = 0 from rfl, List.drop_zero, List.map_take]
theorem merge_scene (m : Int) (nl : Addr) (v : Int) : mergeK [] (sceneK m nl v) = sceneK m nl v := by
  unfold mergeK sceneK
  simp only [List.foldl_cons, List.foldl_nil]
  have e1 : putK ([] : List (Key × V)) (Sum.inr ("many" : Str)) (V.int m) = [(Sum.inr ("many" : Str), V.int m)] := rfl
  have e2 : putK [(Sum.inr ("many" : Str), V.int m)] (Sum.inr ("names" : Str) : Key) (V.ref nl) = [(Sum.inr ("many" : Str), V.int m), (Sum.inr ("names" : Str), V.ref nl)] := putK_new _ (by rw [valV_neg kmn, valV_nil])
  have e3 : putK [(Sum.inr ("many" : Str), V.int m), (Sum.inr ("names" : Str), V.ref nl)] (Sum.inr ("left" : Str) : Key) (V.int v) = [(Sum.inr ("many" : Str), V.int m), (Sum.inr ("names" : Str), V.ref nl)] ++ [(Sum.inr ("left" : Str), V.int v)] := putK_new _ (by rw [valV_neg kml, valV_neg knL, valV_nil])
  rw [e1, e2, e3]
  rfl
theorem out_off {H H1 H2 : Hp} {d l sc : Addr} (o : Out d l H H1) (n : H sc = none) (o2 : Off [d, l, sc] H1 H2) : Out d l H H2 := fun b u e h1 h2 => by
  refine o2 b u (o b u e h1 h2) fun m => ?_
  simp only [List.mem_cons, List.not_mem_nil, or_false] at m
  rcases m with m | m | m
  · exact h1 m
  · exact h2 m
  · rw [m, n] at e; cases e
theorem eraseIdx_texts (xs : List Str) (i : Nat) : (xs.map V.str).eraseIdx i = (xs.eraseIdx i).map V.str := by
  induction xs generalizing i with
  | nil => cases i <;> rfl
  | cons x r ih =>
    cases i with
    | zero => rfl
    | succ i => simp [ih]
theorem seqI {x : Int} {n : Nat} (h0 : 0 ≤ x) (h1 : x < (n : Int)) : seqIndex? x n = some x.toNat := by
  have e : (if x < 0 then x + (n : Int) else x) = x := if_neg (by omega)
  show (if (decide (0 ≤ (if x < 0 then x + (n : Int) else x)) && decide ((if x < 0 then x + (n : Int) else x) < (n : Int))) = true then some (if x < 0 then x + (n : Int) else x).toNat else none) = _
  rw [e, if_pos (by rw [decide_eq_true h0, decide_eq_true h1]; rfl)]
end Mine
namespace L2
open PySem PySem.Spec PyProof.Rows
theorem pe_m1 {X : Cx} {j : Nat} {p p2 : Pos} : PE X (.UnaryOp .USub (.Constant (.int 1) j p) p2) (tC (.int (-1))) := fun pins s σ H Q I h =>
  pe_un (X := X) un_neg pe_int pins s σ H Q I ⟨1, rfl, h⟩
end L2
namespace L2
open PySem PySem.Spec PyProof.Rows
section
variable {X : Cx}
/-- a test with a wish of one's own: its ways are joined behind it -/
def tPost (t : TT) : TT := fun σ H Q => ∃ P : Bool → Hp → Prop, t σ H P ∧ ∀ b G, P b G → Q b G
theorem pt_post {e : Expr} {t : TT} (h : PT X e t) : PT X e (tPost t) := by
  intro pins s σ H Q I ⟨P, h1, h2⟩
  exact thn (h pins s σ H P I h1) fun b s' ⟨G, I', p⟩ => ⟨G, I', h2 b G p⟩
/-- a statement whose ways on are joined behind it -/
def sPost (t : TS) : TS := fun D σ H => ∃ P : St → Hp → Prop, t { D with nx := P } σ H ∧ ∀ σ' G, P σ' G → D.nx σ' G
theorem ps_post {st : Stmt} {t : TS} (h : PS X st t) : PS X st (sPost t) := by
  intro pins s σ H D I ⟨P, h1, h2⟩
  refine thn (h pins s σ H _ I h1) fun f s' q => ?_
  cases f with
  | next =>
    obtain ⟨σ', G, I', p⟩ := q
    exact ⟨σ', G, I', h2 σ' G p⟩
  | ret v => exact q
  | brk => exact q
  | cont => exact q
end
end L2
namespace L2
open PySem PySem.Spec PyProof.Rows
section
variable {X : Cx} {o e : Expr} {es : List Expr} {to : TE} {t : TA} {name : Str} {apos cpos : Pos} {T id : String} {r : V → List V → Hp → VK → Prop}
theorem pe_bmK (K : PySem.W.Frag) (pa : PlainAttrs T) (slot : Slot T name id) (hty : typeOf (.builtin id) = pure (.type "method_descriptor")) (hm : MtR X id r) (ho : PE X o to) (ha : PA X (e :: es) t) (hK : X.K = K := by rfl)
    (hbase : attributeBase o name X.env (eval o X.env) = eval o X.env := by rfl)
    (hfew : ((backTo cpos (starEach (e :: es) X.env)).all (fun x => !x.1) && (backToKw cpos (keywordEach [] X.env)).all (fun x => x.1.isSome)
      && decide ((e :: es).length + ([] : List Keyword).length + (if ([] : List Keyword).isEmpty then 0 else 1) < 30)) = true := by rfl)
    (hline : (apos.endLine == cpos.line) = true := by rfl) (hs : starEach (e :: es) X.env = (false, eval e X.env) :: starEach es X.env := by rfl) (hplain : (backTo cpos (starEach es X.env)).any (·.1) = false := by rfl) : PE X (.Call (.Attribute o name apos) (e :: es) [] cpos) (tBM K T r to t) := by
  subst hK
  exact pe_bm pa slot hty hm ho ha hbase hfew hline hs hplain
end
end L2
namespace L2
open PySem PySem.Spec PyProof.Rows
/-! ### set(t), its items ints or texts -/
def hasK (σ : List Key) (k : Key) : Bool := σ.any fun j => decide (j = k)
theorem hasK_iff {σ : List Key} {k : Key} : hasK σ k = true ↔ k ∈ σ := by
  unfold hasK
  rw [List.any_eq_true]
  constructor
  · rintro ⟨j, m, e⟩
    rw [← of_decide_eq_true e]; exact m
  · exact fun m => ⟨k, m, decide_eq_true rfl⟩
def ddS (σ : List Key) (k : Key) : List Key := if hasK σ k = true then σ else σ ++ [k]
def dd (ks : List Key) : List Key := ks.foldl ddS []
theorem dd_snoc (ks : List Key) (k : Key) : dd (ks ++ [k]) = ddS (dd ks) k := by unfold dd; rw [List.foldl_append]; rfl
theorem ddS_mem {σ : List Key} {k j : Key} : j ∈ ddS σ k ↔ j ∈ σ ∨ j = k := by
  unfold ddS
  split
  · rename_i h
    constructor
    · exact .inl
    · rintro (z | z)
      · exact z
      · rw [z]; exact hasK_iff.mp h
  · simp
theorem foldS_len : ∀ (ks σ : List Key), (ks.foldl ddS σ).length ≤ σ.length + ks.length
  | [], σ => Nat.le_refl _
  | k :: r, σ => by
    have := foldS_len r (ddS σ k)
    have h2 : (ddS σ k).length ≤ σ.length + 1 := by unfold ddS; split <;> simp
    rw [List.foldl_cons, List.length_cons]
    omega
theorem dd_len (ks : List Key) : (dd ks).length ≤ ks.length := by have := foldS_len ks []; simpa [dd] using this
theorem foldS_nodup : ∀ (ks σ : List Key), (σ ++ ks).Nodup → ks.foldl ddS σ = σ ++ ks
  | [], σ, _ => by simp
  | k :: r, σ, h => by
    have hk : k ∉ σ := fun m => by
      rw [List.nodup_append] at h
      exact h.2.2 k m k List.mem_cons_self rfl
    rw [List.foldl_cons, show ddS σ k = σ ++ [k] from if_neg (fun z => hk (hasK_iff.mp z)), foldS_nodup r (σ ++ [k]) (by simpa using h)]
    simp
theorem dd_nodup {ks : List Key} (h : ks.Nodup) : dd ks = ks := by have := foldS_nodup ks [] (by simpa using h); simpa [dd] using this
section
variable {prog : Program} {w : World} {A : Around} {R : Result → Shared → Prop} {I : Addr} {fp wr : List Addr} {G : Array GenState → Array GenState → Prop} {n : Nat} {P : Nat → Value → Prop} {St : Nat → Shared → Prop}
theorem set_loopK (W : WalksS prog w A.in1 I fp wr G n P St) (S : Addr) (hSf : S ∉ fp) (ks : List Key) (hn : ks.length = n) (hval : ∀ i v, P i v → ∃ k, ks[i]? = some k ∧ keyIs k v = true) (hb : n + 1 < scanBound) :
    ∀ (k i : Nat) (s : Shared), n - i = k → i ≤ n → St i s →
      s.heap.SetOf (mixKind prog w) S (hasK (dd (ks.take i))) (dd (ks.take i)).length →
      (∀ s', Moved (S :: wr) G s s' → s'.heap.SetOf (mixKind prog w) S (hasK (dd ks)) (dd ks).length → R (.ok (.ret .none)) s') →
      codeAny (model prog w) A (.builtin "set.update.loop" ⟨[.ref S, .ref I], []⟩) R s := by
  have hSw : S ∉ wr := fun h => hSf (W.sub _ h)
  have hsub : ∀ b ∈ wr, b ∈ S :: wr := fun b hb => List.mem_cons_of_mem _ hb
  intro k
  induction k with
  | zero =>
    intro i s hk hi hst hS hR
    have hin : i = n := by omega
    subst hin
    refine codeAny_builtin F.entry_set_update_loop ?_
    rw [Around.under_plainId F.plain_set_update_loop _]
    show wpAny _ A.in1 (pyNext (.ref I) >>= _) _ _ s
    refine wpAny_bind (W.done s _ _ hst fun s' hm => ?_)
    show wpAny _ A.in1 (ret Value.none) _ _ s'
    rw [← hn, List.take_length] at hS
    exact wpAny_pure (hR s' (hm.mono hsub) (by
      obtain ⟨o, es, ep, t, ho, rest⟩ := hS
      exact ⟨o, es, ep, t, hm.heap S _ hSw ho, rest⟩))
  | succ k ih =>
    intro i s hk hi hst hS hR
    have hlt : i < n := by omega
    refine codeAny_builtin F.entry_set_update_loop ?_
    rw [Around.under_plainId F.plain_set_update_loop _]
    show wpAny _ A.in1 (pyNext (.ref I) >>= _) _ _ s
    refine wpAny_bind (W.item i s _ _ hlt hst fun v s' hP hst' hm => ?_)
    obtain ⟨kk, hkk, his⟩ := hval i v hP
    have hS' : s'.heap.SetOf (mixKind prog w) S (hasK (dd (ks.take i))) (dd (ks.take i)).length := by
      obtain ⟨o, es, ep, tb, ho, rest⟩ := hS
      exact ⟨o, es, ep, tb, hm.heap S _ hSw ho, rest⟩
    have hsc : v.scannable = true := by rcases keyIs_shape his with ⟨i, t, rfl, rfl⟩ | ⟨x, t, rfl, rfl⟩ <;> rfl
    show wpAny _ A.in1 (holding [v] (setAdd S v) >>= _) _ _ s'
    refine wpAny_bind (wpAny_holding ?_)
    unfold setAdd
    refine wpAny_holding ?_
    refine wpAny_bind ((mixKind prog w).pyHash (k := kk) his ?_)
    have hroom : (dd (ks.take i)).length + 1 < scanBound := by have := dd_len (ks.take i); rw [List.length_take] at this; omega
    refine wpAny_setAddHashed_of (knd := mixKind prog w) (s := { s' with toks := s'.toks + 1 }) his hsc hS' hroom fun h' hsb hS2 => ?_
    have hSi : h'.SetOf (mixKind prog w) S (hasK (dd (ks.take (i + 1)))) (dd (ks.take (i + 1))).length := by
      have e : ks.take (i + 1) = ks.take i ++ [kk] := by rw [List.take_succ, hkk]; rfl
      rw [e, dd_snoc]
      have e1 : (fun k' => hasK (dd (ks.take i)) k' || decide (k' = kk)) = hasK (ddS (dd (ks.take i)) kk) := funext fun k' => by
        rw [Bool.eq_iff_iff, Bool.or_eq_true, decide_eq_true_eq, hasK_iff, hasK_iff]
        exact ddS_mem.symm
      have e2 : (if hasK (dd (ks.take i)) kk = true then (dd (ks.take i)).length else (dd (ks.take i)).length + 1) = (ddS (dd (ks.take i)) kk).length := by
        unfold ddS
        by_cases c : hasK (dd (ks.take i)) kk = true
        · rw [if_pos c, if_pos c]
        · rw [if_neg c, if_neg c, List.length_append, List.length_singleton]
      rw [← e1, ← e2]
      exact hS2
    refine wpAny_pure ⟨plainId_quiet F.plain_set_update_loop _, ih (i + 1) _ (by omega) hlt (W.frame _ s' _ _ hst' (Nat.le_succ _) fun b hb o e => ?_) hSi fun s'' hm'' hS'' => ?_⟩
    · rw [hsb.2 b (fun h : b = S => hSf (by rw [← h]; exact hb))]; exact e
    · refine hR s'' (Moved.trans W.gtrans ((hm.mono hsub).then_heap (Nat.le_succ _) fun b o hb e => ?_) hm'') hS''
      rw [hsb.2 b (fun h : b = S => hb (by rw [h]; exact List.mem_cons_self))]; exact e
end
/-- the call of a built-in type, by what its two calls do -/
theorem call_by_two {T newId initId : String} {prog : Program} {w : World} {A : Around} {E : Value → Shared → Prop} {s : Shared} {args : List Value} {Q Q₁ : Value → Shared → Prop} (ft : TypeCalled T newId initId) (hct : checkTypeCall T ⟨args, []⟩ = pure ())
    (hn : codeAny (model prog w) A.in1 (.call (.builtin newId) ⟨.type T :: args, []⟩) (wants Q₁ E) s)
    (hi : ∀ obj t, Q₁ obj t → t.TypeIs obj T ∧ codeAny (model prog w) A.in1 (.call (.builtin initId) ⟨obj :: args, []⟩) (wants (fun r u => r = .none ∧ Q obj u) E) t) :
    wpAny (model prog w) A (call (.type T) args) Q E s := by
  have z1 := ft.notType; have z2 := ft.canCreate; have z3 := ft.made; have z4 := ft.sub
  obtain ⟨c, tl, z5⟩ := ft.mro
  refine wpAny_call (codeAny_of_tree (show wpAny _ _ (callAny (.type T) _) _ _ _ from wpAny_pure ⟨Code.quiet_builtin _ (by decide +kernel), codeAny_builtin F.entry_type_call ?_⟩))
  rw [Around.under_plain (weight_type_call_type T args []) rfl]
  repeat (any_goals (first | assumption | wp_step))
  refine codeAny_mono hn fun r t hr => ?_
  match r, hr with
  | .error e, hr => exact hr
  | .ok .next, hr => exact hr.elim
  | .ok .brk, hr => exact hr.elim
  | .ok .cont, hr => exact hr.elim
  | .ok (.ret obj), hr =>
    obtain ⟨hT, hc⟩ := hi _ _ hr
    have y1 := ft.init.lookup; have y2 := ft.init.bind obj
    repeat (any_goals (first | assumption | wp_step))
    refine codeAny_mono hc fun r2 t2 hr2 => ?_
    match r2, hr2 with
    | .error e, hr2 => exact hr2
    | .ok .next, hr2 => exact hr2.elim
    | .ok .brk, hr2 => exact hr2.elim
    | .ok .cont, hr2 => exact hr2.elim
    | .ok (.ret r), hr2 =>
      obtain ⟨rfl, hq⟩ := hr2
      repeat (any_goals (first | assumption | wp_step))
theorem tupNoSet : isSubtype (.type "tuple") (.type "set") = pure false := by rw [isSubtype_type]; kernel_rfl
theorem tupNoFrozen : isSubtype (.type "tuple") (.type "frozenset") = pure false := by rw [isSubtype_type]; kernel_rfl
section
variable {prog : Program} {w : World} {A : Around} {E : Value → Shared → Prop} {s : Shared}
abbrev newSet0 (led : Bool) : Obj := { cls := .type "set", dict := none, data := .set #[] 0 (.fresh 0 0 led) }
/-- set(t), t a tuple of ints and texts -/
theorem call_setT {l : Addr} {items : Array Value} {ks : List Key} {Q : Value → Shared → Prop} (hh : A.handled = none) (hl : s.heap.IsTuple l items) (hk : ks.length = items.size) (hi : ∀ (i : Nat) (v : Value), items[i]? = some v → ∃ k, ks[i]? = some k ∧ keyIs k v = true) (hb : items.size + 1 < scanBound)
    (q : ∀ (h' : Heap) (tk : Nat), h'.SetOf (mixKind prog w) s.heap.objs.size (hasK (dd ks)) (dd ks).length → (∀ b o, s.heap.get? b = some o → h'.get? b = some o) → Q (.ref s.heap.objs.size) { s with heap := h', toks := tk }) :
    wpAny (model prog w) A (call (.type "set") [.ref l]) Q E s := by
  have lS : l < s.heap.objs.size := by obtain ⟨o, e, _⟩ := hl; exact Heap.lt_size e
  refine call_by_two (Q₁ := fun obj t => ∃ led, obj = .ref s.heap.objs.size ∧ t = { s with heap := s.heap.push (newSet0 led) }) F.called_set (F.typeCall_set_1 _) (code_set_new_1 _ fun led => ⟨led, rfl, rfl⟩) ?_
  rintro _ _ ⟨led, rfl, rfl⟩
  have gS : (s.heap.push (newSet0 led)).get? s.heap.objs.size = some (newSet0 led) := Heap.get?_push_size _ rfl
  have tS : Shared.TypeIs { s with heap := s.heap.push (newSet0 led) } (.ref s.heap.objs.size) "set" := ⟨_, gS, rfl⟩
  have tl : (s.heap.push (newSet0 led)).IsTuple l items := hl.at fun o e => Heap.get?_push_of_some _ e
  refine ⟨tS, codeAny_call_builtin F.called_set.init.plain F.entry_set_init (check_set_init_1 tS ?_)⟩
  obtain ⟨⟨oc, od, oda, osl⟩, ho, hc, n0, hd⟩ := id tl
  dsimp only at hc hd
  subst hc hd
  have f1 := tupNoSet; have f2 := tupNoFrozen
  have f3 : (Value.type "tuple" == Value.type "dict") = false := by decide
  have T1 : Heap.IsTuple (Shared.heap { s with heap := s.heap.push (newSet0 led) }) l items := tl
  unfold Builtin.«set.__init__» noKeywords Builtin.Frozenset.updateFrom
  wp_walk using wpAny_pyIter_tuple T1
  have z1 : (s.heap.push (newSet0 led)).objs.size = s.heap.objs.size + 1 := Heap.size_push ..
  have hne : l ≠ (s.heap.push (newSet0 led)).objs.size := by rw [z1]; exact Nat.ne_of_lt (Nat.lt_succ_of_lt lS)
  have hSf : s.heap.objs.size ∉ [(s.heap.push (newSet0 led)).objs.size, l] := by
    rw [z1]
    simp only [List.mem_cons, List.not_mem_nil, or_false, not_or]
    exact ⟨Nat.ne_of_lt (Nat.lt_succ_self _), Nat.ne_of_gt lS⟩
  have gS2 : ((s.heap.push (newSet0 led)).push { cls := .type "tuple_iterator", data := .fields #[.ref l, .int 0 0] }).get? s.heap.objs.size = some (newSet0 led) := Heap.get?_push_of_some _ gS
  refine set_loopK (A := A.in1.in1) ((Walks.tuple (show A.in1.in1.in1.handled = none from hh) _ l hne items).toS) s.heap.objs.size hSf ks hk hi hb (items.size - 0) 0 _ rfl (Nat.zero_le _) ⟨⟨_, Heap.get?_push_size _ rfl, rfl, rfl⟩, tl.at fun o e => Heap.get?_push_of_some _ e⟩
    ⟨_, _, _, _, gS2, ⟨rfl, rfl, rfl⟩, rfl, fun e he => absurd he (by simp), fun k => ⟨fun z => absurd z (by simp [dd, hasK]), fun ⟨e, he, _⟩ => absurd he (by simp)⟩, by decide, rfl, rfl⟩ fun s' hm hS' => ?_
  obtain ⟨h', g', d', tk', os'⟩ := s'
  obtain rfl : g' = s.gens := hm.gens
  obtain rfl : d' = s.drawn := hm.drawn
  obtain rfl : os' = s.os := hm.os
  refine wpAny_pure (wpAny_pure ⟨rfl, q h' tk' hS' fun b o e => hm.heap b o ?_ (Heap.get?_push_of_some _ (Heap.get?_push_of_some _ e))⟩)
  have bl := Heap.lt_size e
  rw [z1]
  simp only [List.mem_cons, List.not_mem_nil, or_false, not_or]
  exact ⟨Nat.ne_of_lt bl, Nat.ne_of_lt (Nat.lt_succ_of_lt bl)⟩
end
end L2
namespace L2
open PySem PySem.Spec PyProof.Rows
section
variable {X : Cx}
/-- a set of ints and texts at a -/
def setAt (P : Program) (w : World) (a : Addr) (ks : List Key) : HO := .ext fun h => h.SetOf (mixKind P w) a (hasK (dd ks)) (dd ks).length
theorem keys_vals : ∀ {ks : List Key} {us : List Value}, Vals (ks.map kV) us → ∀ (i : Nat) (v : Value), us[i]? = some v → ∃ k, ks[i]? = some k ∧ keyIs k v = true
  | [], _, h, i, v, e => by cases h; simp at e
  | k :: r, _, h, i, v, e => by
    rw [List.map_cons] at h
    cases h with
    | cons h1 h2 =>
      cases i with
      | zero =>
        simp only [List.getElem?_cons_zero, Option.some.injEq] at e
        subst e
        cases k with
        | inl n => obtain ⟨t, rfl⟩ := h1; exact ⟨_, rfl, keyIs_int n t⟩
        | inr x => obtain ⟨t, rfl⟩ := h1; exact ⟨_, rfl, keyIs_str x t⟩
      | succ i => exact keys_vals h2 i v (by simpa using e)
/-- set(t), t a tuple of ints and texts -/
theorem call_setK (P : Program) (w : World) {k : Nat} (hr : Room k X.A) (hP : X.prog = P := by rfl) (hw : X.w = w := by rfl) : CallR X (.type "set") (fun xs H Q => ∃ (p : Addr) (ks : List Key), xs = [.ref p] ∧ SqT X.K H p (ks.map kV) ∧ ks.length ≤ 1000 ∧ ∀ a, H a = none → Q (.ref a) (upd H a (setAt P w a ks))) := by
  subst hP hw
  intro pins s σ H xs us Q I r h
  obtain ⟨p, ks, rfl, hp, hl, q⟩ := h
  obtain ⟨u, rfl, ru⟩ := vals1 r
  cases ru
  obtain ⟨its, rv, pl, _⟩ := I.tuple hp
  have ln := rv.length
  rw [List.length_map] at ln
  refine call_setT (items := its.toArray) (ks := ks) hr.hd pl (by rw [List.size_toArray]; exact ln) (fun i v e => keys_vals rv i v (by simpa using e)) (by rw [List.size_toArray, ← ln]; unfold scanBound; omega) fun h' tk hS kp => ?_
  refine ⟨.ref s.heap.objs.size, _, I.laid (t' := tk) (o := setAt X.prog X.w s.heap.objs.size ks) kp (Nat.le_refl _) ?_, rfl, q _ (I.hok.fresh (Nat.le_refl _))⟩
  refine ⟨hS, ?_, fun h1 h2 ⟨o, es, ep, t, ho, rest⟩ k2 => ⟨o, es, ep, t, k2 o ho, rest⟩⟩
  obtain ⟨o, _, _, _, ho, _⟩ := hS
  exact ⟨o, ho⟩
/-- len of it -/
theorem call_lenS (P : Program) (w : World) (hP : X.prog = P := by rfl) (hw : X.w = w := by rfl) : CallR X (.builtin "len") (fun xs H Q => ∃ (a : Addr) (ks : List Key), xs = [.ref a] ∧ H a = some (setAt P w a ks) ∧ Q (.int (dd ks).length) H) := by
  subst hP hw
  intro pins s σ H xs us Q I r h
  obtain ⟨a, ks, rfl, ha, q⟩ := h
  obtain ⟨u, rfl, ru⟩ := vals1 r
  cases ru
  obtain ⟨⟨o, es, ep, t, ho, hex, hd, _, _, hb, hf, hn⟩, _, _⟩ := (show ObjOk X.prog X.w H s.heap a (setAt X.prog X.w a ks) from I.hok a _ ha)
  rw [← hn] at q
  exact call_len_set ho hex hd hf (by unfold scanBound at hb; omega) ⟨.int es.size, H, I.tok _, ⟨_, rfl⟩, q⟩
end
end L2
namespace L2
open PySem PySem.Spec PyProof.Rows
/-- x is y, both bools -/
theorem op_isB {X : Cx} : OpR X (compareOp .Is) (fun x y H Q => ∃ a b, x = .bl a ∧ y = .bl b ∧ Q (.bl (a == b)) H) := by
  intro pins s σ H x y v u Q I rx ry h
  obtain ⟨a, b, rfl, rfl, q⟩ := h
  cases rx
  cases ry
  exact is_bool ⟨.bl (a == b), H, I, rfl, q⟩
/-- for k in d: the dict is frozen before the first turn -/
theorem for_dictA {d : Addr} {o : Obj} {kvs : List (Key × V)} {g : TG} {tb : TS} {D : Ends} {σ : St} {H : Hp} (Pv : Nat → St → Hp → Prop) (h0 : Pv 0 σ H) (hl : ∀ i σ H, i ≤ kvs.length → Pv i σ H → H d = some (.frz o (.dK kvs)))
    (hs : ∀ (D' : Ends), ∀ i k v σ H, kvs[i]? = some (k, v) → Pv i σ H → g (kV k) σ H fun σ2 H2 => tb { D' with nx := Pv (i + 1), ct := Pv (i + 1), bk := D'.nx } σ2 H2) (hd : ∀ σ H, Pv kvs.length σ H → D.nx σ H) :
    ∃ W : Nat → Nat → St → Hp → Prop, (∃ m, W 0 m σ H) ∧ ∀ i m σ H, W i m σ H →
      ((Itd d o kvs).stop i H ∧ D.nx σ H) ∨ ((Itd d o kvs).go i H ∧ ∃ N : St → Hp → Prop, (∀ σ' H', N σ' H' → ∃ m', m' < m ∧ W (i + 1) m' σ' H') ∧ ∀ x H', (Itd d o kvs).yld i H x H' → g x σ H' fun σ2 H2 => tb { D with nx := N, ct := N, bk := D.nx } σ2 H2) := by
  refine ⟨fun i m σ H => m = kvs.length - i ∧ i ≤ kvs.length ∧ Pv i σ H, ⟨_, rfl, Nat.zero_le _, h0⟩, ?_⟩
  rintro i m σ H ⟨rfl, hi, p⟩
  by_cases c : i < kvs.length
  · right
    refine ⟨⟨c, hl i σ H hi p⟩, Pv (i + 1), fun σ' H' p' => ⟨kvs.length - (i + 1), by omega, rfl, c, p'⟩, ?_⟩
    rintro x H' ⟨rfl, k, v, e, rfl⟩
    exact hs D i k v σ _ e p
  · left
    have e : i = kvs.length := by omega
    exact ⟨⟨by omega, hl i σ H hi p⟩, hd σ H (by rw [← e]; exact p)⟩
/-- xs[-1], read and written -/
theorem ix_last (n : Nat) : ixN (n + 1) (-1) = some n := by
  unfold ixN
  rw [if_neg (by decide), if_pos (by omega)]
  exact congrArg some (by omega)
theorem get_last {X : Cx} : PGet X (fun o i H Q => ∃ p xs v, o = .ref p ∧ i = .int (-1) ∧ SqL X.K H p (xs ++ [v]) ∧ Q v H) := by
  intro pins s σ H o i ov iv Q I ro ri h
  obtain ⟨p, xs, v, rfl, rfl, hq, q⟩ := h
  cases ro
  obtain ⟨t, rfl⟩ := ri
  obtain ⟨its, r, pl, hz⟩ := I.list hq
  obtain ⟨w, ew, rw'⟩ := r.get (i := xs.length) (x := v) (by simp)
  have hl := r.length
  rw [List.length_append, List.length_cons, List.length_nil] at hl
  have hn := line63
  have hj : (-1 + (its.toArray.size : Int)).toNat = xs.length := by rw [List.size_toArray]; omega
  exact wpAny_getItem_list_neg pl.isList (by decide) (by rw [List.size_toArray]; omega) (by omega) (by rw [hj]; simpa using ew) ⟨v, H, I, rw', q⟩
theorem set_last {X : Cx} : PSet X (fun o i v H Q => ∃ p xs y, o = .ref p ∧ i = .int (-1) ∧ H p = some (.lst (xs ++ [y])) ∧ Q (upd H p (.lst (xs ++ [v])))) := by
  intro pins s σ H o i v ov iv u Q I ro ri rv h
  obtain ⟨p, xs, y, rfl, rfl, hp, q⟩ := h
  refine set_list pins s σ H _ _ v ov iv u Q I ro ri rv ⟨p, _, -1, xs.length, rfl, rfl, hp, ?_, ?_⟩
  · rw [List.length_append]
    exact ix_last _
  · rw [List.set_append_right _ _ (Nat.le_refl _), Nat.sub_self]
    exact q
end L2
namespace Mine
open PySem L2
/-! ### a machine that walks the steps -/
section
variable {α σ : Type} (f : α → σ → Option σ)
def runM : List α → σ → Option σ
  | [], st => some st
  | a :: r, st => (f a st).bind (runM r)
theorem runM_app : ∀ (l l2 : List α) (st : σ), runM f (l ++ l2) st = (runM f l st).bind (runM f l2)
  | [], _, _ => rfl
  | a :: r, l2, st => by
    show (f a st).bind (runM f (r ++ l2)) = ((f a st).bind (runM f r)).bind (runM f l2)
    cases f a st with
    | none => rfl
    | some s => exact runM_app r l2 s
/-- at each place of a walk that goes through to its end there is a next state -/
theorem runM_at {l : List α} {s0 e : σ} (h : runM f l s0 = some e) {i : Nat} {a : α} (ha : l[i]? = some a) {st : σ} (hs : runM f (l.take i) s0 = some st) : ∃ st', f a st = some st' ∧ runM f (l.take (i + 1)) s0 = some st' := by
  obtain ⟨hi, rfl⟩ := List.getElem?_eq_some_iff.mp ha
  have e1 : l = l.take i ++ (l[i] :: l.drop (i + 1)) := by rw [List.getElem_cons_drop, List.take_append_drop]
  rw [e1, runM_app, hs] at h
  have h : (f l[i] st).bind (runM f (l.drop (i + 1))) = some e := h
  cases q : f l[i] st with
  | none => rw [q] at h; cases h
  | some st' =>
    refine ⟨st', rfl, ?_⟩
    rw [List.take_succ, List.getElem?_eq_getElem hi, runM_app, hs]
    show (f l[i] st).bind (runM f []) = _
    rw [q]
    rfl
end
/-! ### names known -/
abbrev USt := List Str × List (List Str)
def isWhn : Rw → Bool
  | .when _ _ _ _ _ _ => true
  | .thr _ _ _ _ => false
  | .lt _ _ _ => false
  | .tell _ _ => false
  | .times _ _ _ _ => false
def uElse (st : USt) : Option USt := match st.2 with
  | a :: r => some (a, st.1 :: r)
  | [] => none
def uEnd (st : USt) : Option USt := match st.2 with
  | a :: r => some (a.filter (fun x => decide (x ∈ st.1)), r)
  | [] => none
def uStep (s : Stp) (st : USt) : Option USt :=
  if s.1 = "row" then (if ∀ y ∈ s.2.asked, y ∈ st.1 then some (st.1 ++ s.2.sets.toList, if isWhn s.2 then (st.1 ++ s.2.sets.toList) :: st.2 else st.2) else none)
  else if s.1 = "else" then uElse st
  else if isWhn s.2 then uEnd st else some st
theorem elseNe : ¬ (("end" : Str) = "else") := by decide +kernel
theorem u_row {r : Rw} {st : USt} (h : ∀ y ∈ r.asked, y ∈ st.1) : uStep (("row" : Str), r) st = some (st.1 ++ r.sets.toList, if isWhn r then (st.1 ++ r.sets.toList) :: st.2 else st.2) := by
  unfold uStep
  rw [if_pos rfl, if_pos h]
theorem u_else {r : Rw} {st : USt} : uStep (("else" : Str), r) st = uElse st := by unfold uStep; rw [if_neg rowNe1, if_pos rfl]
theorem u_end {r : Rw} {st : USt} : uStep (("end" : Str), r) st = if isWhn r then uEnd st else some st := by unfold uStep; rw [if_neg rowNe2, if_neg elseNe]
mutual
theorem u_run : ∀ (r : Rw) {ks k2 : List Str} (kept : List (List Str)), ScR ks r k2 → runM uStep (stps r) (ks, kept) = some (k2, kept)
  | .thr p w x vs, ks, k2, kept, h => by
    have h : k2 = ks ++ [x] := h
    subst h
    show (uStep (("row" : Str), Rw.thr p w x vs) (ks, kept)).bind _ = _
    rw [u_row (fun y hy => absurd hy List.not_mem_nil)]
    rfl
  | .lt p x t, ks, k2, kept, h => by
    obtain ⟨rfl, h2⟩ := h
    show (uStep (("row" : Str), Rw.lt p x t) (ks, kept)).bind _ = _
    rw [u_row (r := .lt p x t) (st := (ks, kept)) h2]
    rfl
  | .tell p t, ks, k2, kept, h => by
    obtain ⟨rfl, h2⟩ := h
    show (uStep (("row" : Str), Rw.tell p t) (k2, kept)).bind _ = _
    rw [u_row (r := .tell p t) (st := (k2, kept)) h2]
    show some (k2 ++ [], kept) = _
    rw [List.append_nil]
  | .when p pa pb t a b, ks, k2, kept, h => by
    obtain ⟨h1, k3, k4, h2, h3, rfl⟩ := h
    show (uStep (("row" : Str), Rw.when p pa pb t a b) (ks, kept)).bind _ = _
    rw [u_row (r := .when p pa pb t a b) (st := (ks, kept)) h1]
    show runM uStep (stpsL a ++ [(("else" : Str), Rw.when p pa pb t a b)] ++ stpsL b ++ [(("end" : Str), Rw.when p pa pb t a b)]) (ks ++ [], (ks ++ []) :: kept) = _
    rw [List.append_nil, runM_app, runM_app, runM_app, u_runL a (ks :: kept) h2]
    show (((uStep (("else" : Str), Rw.when p pa pb t a b) (k3, ks :: kept)).bind _).bind _).bind _ = _
    rw [u_else]
    show ((runM uStep (stpsL b) (ks, k3 :: kept))).bind _ = _
    rw [u_runL b (k3 :: kept) h3]
    show (uStep (("end" : Str), Rw.when p pa pb t a b) (k4, k3 :: kept)).bind _ = _
    rw [u_end]
    rfl
  | .times p pb n b, ks, k2, kept, h => by
    have h : ScL ks b k2 := h
    show (uStep (("row" : Str), Rw.times p pb n b) (ks, kept)).bind _ = _
    rw [u_row (fun y hy => absurd hy List.not_mem_nil)]
    show runM uStep (stpsL b ++ [(("end" : Str), Rw.times p pb n b)]) (ks ++ [], kept) = _
    rw [List.append_nil, runM_app, u_runL b kept h]
    show (uStep (("end" : Str), Rw.times p pb n b) (k2, kept)).bind _ = _
    rw [u_end]
    rfl
theorem u_runL : ∀ (rs : List Rw) {ks k2 : List Str} (kept : List (List Str)), ScL ks rs k2 → runM uStep (stpsL rs) (ks, kept) = some (k2, kept)
  | [], ks, k2, kept, h => by
    have h : k2 = ks := h
    rw [h]; rfl
  | r :: rs, ks, k2, kept, ⟨k1, h1, h2⟩ => by
    show runM uStep (stps r ++ stpsL rs) (ks, kept) = _
    rw [runM_app, u_run r kept h1]
    exact u_runL rs kept h2
end
/-! more may be known ahead -/
mutual
theorem ScR.wide : ∀ (r : Rw) {ks k2 : List Str} (ks' : List Str), ScR ks r k2 → (∀ y ∈ ks, y ∈ ks') → ∃ k3, ScR ks' r k3 ∧ ∀ y ∈ k2, y ∈ k3
  | .thr _ _ x _, ks, k2, ks', h, w => by
    have h : k2 = ks ++ [x] := h
    subst h
    refine ⟨ks' ++ [x], rfl, fun y hy => ?_⟩
    rcases List.mem_append.mp hy with e | e
    · exact List.mem_append_left _ (w y e)
    · exact List.mem_append_right _ e
  | .lt _ x t, ks, k2, ks', h, w => by
    obtain ⟨rfl, h2⟩ := h
    refine ⟨ks' ++ [x], ⟨rfl, fun y hy => w y (h2 y hy)⟩, fun y hy => ?_⟩
    rcases List.mem_append.mp hy with e | e
    · exact List.mem_append_left _ (w y e)
    · exact List.mem_append_right _ e
  | .tell _ t, ks, k2, ks', h, w => by
    obtain ⟨rfl, h2⟩ := h
    exact ⟨ks', ⟨rfl, fun y hy => w y (h2 y hy)⟩, w⟩
  | .when _ _ _ t a b, ks, k2, ks', h, w => by
    obtain ⟨h1, k3, k4, h2, h3, rfl⟩ := h
    obtain ⟨k5, g1, g2⟩ := ScL.wide a ks' h2 w
    obtain ⟨k6, g3, g4⟩ := ScL.wide b ks' h3 w
    refine ⟨_, ⟨fun y hy => w y (h1 y hy), k5, k6, g1, g3, rfl⟩, fun y hy => ?_⟩
    obtain ⟨m1, m2⟩ := List.mem_filter.mp hy
    exact List.mem_filter.mpr ⟨g2 y m1, decide_eq_true (g4 y (of_decide_eq_true m2))⟩
  | .times _ _ _ b, ks, k2, ks', h, w => ScL.wide b ks' (show ScL ks b k2 from h) w
theorem ScL.wide : ∀ (rs : List Rw) {ks k2 : List Str} (ks' : List Str), ScL ks rs k2 → (∀ y ∈ ks, y ∈ ks') → ∃ k3, ScL ks' rs k3 ∧ ∀ y ∈ k2, y ∈ k3
  | [], ks, k2, ks', h, w => by
    have h : k2 = ks := h
    subst h
    exact ⟨ks', rfl, w⟩
  | r :: rs, ks, k2, ks', ⟨k1, h1, h2⟩, w => by
    obtain ⟨k3, g1, g2⟩ := ScR.wide r ks' h1 w
    obtain ⟨k4, g3, g4⟩ := ScL.wide rs k3 h2 g2
    exact ⟨k4, ⟨k3, g1, g3⟩, g4⟩
end
/-! ### how much is told -/
def tTimes (n : Int) (st : List Int) : Option (List Int) := match st with
  | i :: c :: r => if 0 ≤ n ∧ n ≤ 9 ∧ 0 ≤ i ∧ i ≤ 100 then some ((c + n * i) :: r) else none
  | [] => none
  | [_] => none
def tWhen (st : List Int) : Option (List Int) := match st with
  | o :: i :: c :: r => if i = o then some ((c + i) :: r) else none
  | [] => none
  | [_] => none
  | [_, _] => none
def tEnd : Rw → List Int → Option (List Int)
  | .times _ _ n _, st => tTimes n st
  | .when _ _ _ _ _ _, st => tWhen st
  | .thr _ _ _ _, _ => none
  | .lt _ _ _, _ => none
  | .tell _ _, _ => none
def tOne (st : List Int) : Option (List Int) := match st with
  | c :: r => some ((c + 1) :: r)
  | [] => none
def tStep (s : Stp) (st : List Int) : Option (List Int) :=
  if opens s = true then some (0 :: st)
  else if s.2.w = "tell" then tOne st
  else if s.1 = "end" then tEnd s.2 st
  else some st
theorem opens_else (r : Rw) : opens (("else" : Str), r) = true := rfl
theorem opens_end (r : Rw) : opens (("end" : Str), r) = false := rfl
theorem nopen {r : Rw} (h : r.w ∉ (["when", "times"] : List Str)) : opens (("row" : Str), r) = false := by
  show (false || (true && decide (r.w ∈ (["when", "times"] : List Str)))) = false
  simp only [Bool.false_or, Bool.true_and, decide_eq_false_iff_not]
  exact h
theorem isopen {r : Rw} (h : r.w ∈ (["when", "times"] : List Str)) : opens (("row" : Str), r) = true := by
  show (false || (true && decide (r.w ∈ (["when", "times"] : List Str)))) = true
  simp only [Bool.false_or, Bool.true_and, decide_eq_true_eq]
  exact h
theorem thr_notin {w : Str} (h : w ∈ thrW) : w ∉ (["when", "times"] : List Str) := by
  simp only [thrW, List.mem_cons, List.not_mem_nil, or_false] at h
  rcases h with rfl | rfl | rfl | rfl <;> decide +kernel
theorem thr_ntell {w : Str} (h : w ∈ thrW) : w ≠ "tell" := by
  simp only [thrW, List.mem_cons, List.not_mem_nil, or_false] at h
  rcases h with rfl | rfl | rfl | rfl <;> decide +kernel
theorem wWtell : ¬ (("when" : Str) = "tell") := by decide +kernel
theorem wTtell : ¬ (("times" : Str) = "tell") := by decide +kernel
theorem wLtell : ¬ (("let" : Str) = "tell") := by decide +kernel
theorem rowNend : ¬ (("row" : Str) = "end") := by decide +kernel
theorem t_run0 : ∀ (s : Stp) (st : List Int), tStep s st = if opens s = true then some (0 :: st) else if s.2.w = "tell" then tOne st else if s.1 = "end" then tEnd s.2 st else some st := fun _ _ => rfl
mutual
/-- words of throws, everywhere -/
def WdR : Rw → Prop
  | .thr _ w _ _ => w ∈ thrW
  | .lt _ _ _ => True
  | .tell _ _ => True
  | .when _ _ _ _ a b => WdL a ∧ WdL b
  | .times _ _ _ b => WdL b
def WdL : List Rw → Prop
  | [] => True
  | r :: rs => WdR r ∧ WdL rs
end
mutual
theorem RwH.wd {H : Hp} : ∀ (r : Rw), RwH H r → WdR r
  | .thr _ _ _ _, h => h.2.w
  | .lt _ _ _, _ => trivial
  | .tell _ _, _ => trivial
  | .when _ _ _ _ a b, h => ⟨RwsH.wd a h.2.2.2.2.2.1, RwsH.wd b h.2.2.2.2.2.2⟩
  | .times _ _ _ b, h => RwsH.wd b h.2.2
theorem RwsH.wd {H : Hp} : ∀ (rs : List Rw), RwsH H rs → WdL rs
  | [], _ => trivial
  | r :: rs, h => ⟨RwH.wd r h.1, RwsH.wd rs h.2⟩
end
mutual
theorem t_run : ∀ (r : Rw) (c : Int) (st : List Int), WdR r → TelOk r → runM tStep (stps r) (c :: st) = some ((c + tel r) :: st)
  | .thr p w x vs, c, st, hw, _ => by
    have hw : w ∈ thrW := hw
    show (tStep (("row" : Str), Rw.thr p w x vs) (c :: st)).bind _ = _
    rw [t_run0, if_neg (by rw [nopen (r := .thr p w x vs) (thr_notin hw)]; simp), if_neg (show ¬ (Rw.thr p w x vs).w = "tell" from thr_ntell hw), if_neg rowNend]
    show some (c :: st) = some ((c + 0) :: st)
    rw [Int.add_zero]
  | .lt p x t, c, st, _, _ => by
    show (tStep (("row" : Str), Rw.lt p x t) (c :: st)).bind _ = _
    rw [t_run0, if_neg (by rw [nopen (r := .lt p x t) (by show ("let" : Str) ∉ _; decide +kernel)]; simp), if_neg (show ¬ (Rw.lt p x t).w = "tell" from wLtell), if_neg rowNend]
    show some (c :: st) = some ((c + 0) :: st)
    rw [Int.add_zero]
  | .tell p t, c, st, _, _ => by
    show (tStep (("row" : Str), Rw.tell p t) (c :: st)).bind _ = _
    rw [t_run0, if_neg (by rw [nopen (r := .tell p t) (by show ("tell" : Str) ∉ _; decide +kernel)]; simp), if_pos (show (Rw.tell p t).w = "tell" from rfl)]
    rfl
  | .when p pa pb t a b, c, st, hw, hk => by
    obtain ⟨h0, h1, h2⟩ := hk
    show (tStep (("row" : Str), Rw.when p pa pb t a b) (c :: st)).bind _ = _
    rw [t_run0, if_pos (isopen (r := .when p pa pb t a b) (show ("when" : Str) ∈ (["when", "times"] : List Str) by decide +kernel))]
    show runM tStep (stpsL a ++ [(("else" : Str), Rw.when p pa pb t a b)] ++ stpsL b ++ [(("end" : Str), Rw.when p pa pb t a b)]) (0 :: c :: st) = _
    rw [runM_app, runM_app, runM_app, t_runL a 0 (c :: st) hw.1 h1]
    show (((tStep (("else" : Str), Rw.when p pa pb t a b) ((0 + telL a) :: c :: st)).bind _).bind _).bind _ = _
    rw [t_run0, if_pos (opens_else _)]
    show ((runM tStep (stpsL b) (0 :: (0 + telL a) :: c :: st))).bind _ = _
    rw [t_runL b 0 ((0 + telL a) :: c :: st) hw.2 h2]
    show (tStep (("end" : Str), Rw.when p pa pb t a b) ((0 + telL b) :: (0 + telL a) :: c :: st)).bind _ = _
    rw [t_run0, if_neg (by rw [opens_end]; simp), if_neg (show ¬ (Rw.when p pa pb t a b).w = "tell" from wWtell), if_pos rfl]
    show (if 0 + telL a = 0 + telL b then some ((c + (0 + telL a)) :: st) else none).bind _ = _
    rw [if_pos (by rw [h0])]
    show some ((c + (0 + telL a)) :: st) = some ((c + telL a) :: st)
    rw [Int.zero_add]
  | .times p pb n b, c, st, hw, hk => by
    obtain ⟨h0, h1⟩ := hk
    show (tStep (("row" : Str), Rw.times p pb n b) (c :: st)).bind _ = _
    rw [t_run0, if_pos (isopen (r := .times p pb n b) (show ("times" : Str) ∈ (["when", "times"] : List Str) by decide +kernel))]
    show runM tStep (stpsL b ++ [(("end" : Str), Rw.times p pb n b)]) (0 :: c :: st) = _
    rw [runM_app, t_runL b 0 (c :: st) hw h1]
    show (tStep (("end" : Str), Rw.times p pb n b) ((0 + telL b) :: c :: st)).bind _ = _
    rw [t_run0, if_neg (by rw [opens_end]; simp), if_neg (show ¬ (Rw.times p pb n b).w = "tell" from wTtell), if_pos rfl]
    show (if 0 ≤ n ∧ n ≤ 9 ∧ 0 ≤ 0 + telL b ∧ 0 + telL b ≤ 100 then some ((c + n * (0 + telL b)) :: st) else none).bind _ = _
    rw [Int.zero_add, if_pos h0]
    rfl
theorem t_runL : ∀ (rs : List Rw) (c : Int) (st : List Int), WdL rs → TelOkL rs → runM tStep (stpsL rs) (c :: st) = some ((c + telL rs) :: st)
  | [], c, st, _, _ => by
    show some (c :: st) = some ((c + 0) :: st)
    rw [Int.add_zero]
  | r :: rs, c, st, hw, hk => by
    show runM tStep (stps r ++ stpsL rs) (c :: st) = some ((c + (tel r + telL rs)) :: st)
    rw [runM_app, t_run r c st hw.1 hk.1]
    show runM tStep (stpsL rs) ((c + tel r) :: st) = _
    rw [t_runL rs (c + tel r) st hw.2 hk.2, Int.add_assoc]
end
/-! something is told -/
mutual
theorem tel_no : ∀ (r : Rw), (∀ s ∈ stps r, s.2.w ≠ "tell") → tel r = 0
  | .thr _ _ _ _, _ => rfl
  | .lt _ _ _, _ => rfl
  | .tell p t, h => absurd rfl (h (("row" : Str), Rw.tell p t) List.mem_cons_self)
  | .when _ _ _ _ a b, h => telL_no a fun s hs => h s (by
      simp only [stps, List.mem_cons, List.mem_append]
      exact .inr (.inl (.inl (.inl hs))))
  | .times _ _ n b, h => by
    have e := telL_no b fun s hs => h s (by
      simp only [stps, List.mem_cons, List.mem_append]
      exact .inr (.inl hs))
    show n * telL b = 0
    rw [e, Int.mul_zero]
theorem telL_no : ∀ (rs : List Rw), (∀ s ∈ stpsL rs, s.2.w ≠ "tell") → telL rs = 0
  | [], _ => rfl
  | r :: rs, h => by
    show tel r + telL rs = 0
    rw [tel_no r fun s hs => h s (List.mem_append_left _ hs), telL_no rs fun s hs => h s (List.mem_append_right _ hs)]
    rfl
end
theorem some_tell {rs : List Rw} (h : 1 ≤ telL rs) : ∃ s ∈ stpsL rs, s.2.w = "tell" := by
  by_cases c : ∃ s ∈ stpsL rs, s.2.w = "tell"
  · exact c
  · have := telL_no rs fun s hs z => c ⟨s, hs, z⟩
    omega
/-! steps and rows -/
mutual
theorem stps_mem : ∀ (r : Rw) {H : Hp}, RwH H r → ∀ s ∈ stps r, RwH H s.2
  | .thr _ _ _ _, _, h, s, hs => by rw [List.mem_singleton.mp hs]; exact h
  | .lt _ _ _, _, h, s, hs => by rw [List.mem_singleton.mp hs]; exact h
  | .tell _ _, _, h, s, hs => by rw [List.mem_singleton.mp hs]; exact h
  | .when p pa pb t a b, H, h, s, hs => by
    have ha := stpsL_mem a h.2.2.2.2.2.1
    have hb := stpsL_mem b h.2.2.2.2.2.2
    simp only [stps, List.mem_cons, List.mem_append, List.not_mem_nil, or_false] at hs
    rcases hs with e | ((e | e) | e) | e
    · rw [e]; exact h
    · exact ha s e
    · rw [e]; exact h
    · exact hb s e
    · rw [e]; exact h
  | .times p pb n b, H, h, s, hs => by
    have hb := stpsL_mem b h.2.2
    simp only [stps, List.mem_cons, List.mem_append, List.not_mem_nil, or_false] at hs
    rcases hs with e | e | e
    · rw [e]; exact h
    · exact hb s e
    · rw [e]; exact h
theorem stpsL_mem : ∀ (rs : List Rw) {H : Hp}, RwsH H rs → ∀ s ∈ stpsL rs, RwH H s.2
  | [], _, _, s, hs => absurd hs List.not_mem_nil
  | r :: rs, H, h, s, hs => by
    rcases List.mem_append.mp hs with e | e
    · exact stps_mem r h.1 s e
    · exact stpsL_mem rs h.2 s e
end
theorem leaf_cnt : ∀ {rs : List Rw}, (∀ r ∈ rs, r.w ∉ (["when", "times"] : List Str)) → cntL rs = rs.length
  | [], _ => rfl
  | r :: rs, h => by
    have e := leaf_cnt (rs := rs) fun q hq => h q (List.mem_cons_of_mem _ hq)
    have h0 := h r List.mem_cons_self
    show r.cnt + cntL rs = _
    rw [e, List.length_cons]
    cases r with
    | thr _ _ _ _ => simp only [Rw.cnt]; omega
    | lt _ _ _ => simp only [Rw.cnt]; omega
    | tell _ _ => simp only [Rw.cnt]; omega
    | when _ _ _ _ _ _ => exact absurd (show ("when" : Str) ∈ (["when", "times"] : List Str) by decide +kernel) h0
    | times _ _ _ _ => exact absurd (show ("times" : Str) ∈ (["when", "times"] : List Str) by decide +kernel) h0
/-! ### names unlike -/
theorem str_app (a b : Str) : (a ++ b).cps = a.cps ++ b.cps := rfl
theorem mid_inj {a b : Str} {c c' : Nat} (h : a ++ (⟨#[c]⟩ : Str) ++ b = a ++ (⟨#[c']⟩ : Str) ++ b) : c = c' := by
  have e := congrArg (fun z : Str => z.cps.toList) h
  simp only [str_app, Array.toList_append] at e
  have e2 := List.append_cancel_left (List.append_cancel_right e)
  simpa using e2
theorem abc_at {r : Nat} (h : r < 26) : atI ("abcdefghijklmnopqrstuvwxyz" : Str).cps.toList (r : Int) = some (97 + r) := by
  have : r = 0 ∨ r = 1 ∨ r = 2 ∨ r = 3 ∨ r = 4 ∨ r = 5 ∨ r = 6 ∨ r = 7 ∨ r = 8 ∨ r = 9 ∨ r = 10 ∨ r = 11 ∨ r = 12 ∨ r = 13 ∨ r = 14 ∨ r = 15 ∨ r = 16 ∨ r = 17 ∨ r = 18 ∨ r = 19 ∨ r = 20 ∨ r = 21 ∨ r = 22 ∨ r = 23 ∨ r = 24 ∨ r = 25 := by omega
  rcases this with rfl | rfl | rfl | rfl | rfl | rfl | rfl | rfl | rfl | rfl | rfl | rfl | rfl | rfl | rfl | rfl | rfl | rfl | rfl | rfl | rfl | rfl | rfl | rfl | rfl | rfl <;> decide +kernel
def lett (tn : Int) (k : Nat) : Nat := 97 + ((tn + 7 * (k : Int)) % 26).toNat
theorem lett_at (tn : Int) (k : Nat) : atI ("abcdefghijklmnopqrstuvwxyz" : Str).cps.toList ((tn + 7 * (0 + (k : Int))) % 26) = some (lett tn k) := by
  have h0 : 0 ≤ (tn + 7 * (k : Int)) % 26 := Int.emod_nonneg _ (by decide)
  have h1 : (tn + 7 * (k : Int)) % 26 < 26 := Int.emod_lt_of_pos _ (by decide)
  have e : ((tn + 7 * (0 + (k : Int))) % 26) = (((tn + 7 * (k : Int)) % 26).toNat : Int) := by rw [Int.zero_add, Int.toNat_of_nonneg h0]
  rw [e, abc_at (by omega)]
  rfl
theorem lett_inj {tn : Int} {i j : Nat} (hi : i < 9) (hj : j < 9) (h : lett tn i = lett tn j) : i = j := by
  unfold lett at h
  omega
/-- the k-th of the words, and with a letter more -/
def wdK (a b : Str) (tn : Int) (k : Nat) : Str := a ++ (⟨#[lett tn k]⟩ : Str) ++ b
def WsOk (a b : Str) (tn : Int) (i : Nat) (ws : List Str) : Prop := ws.Nodup ∧ ∀ w ∈ ws, ∃ j, j < i ∧ (w = wdK a b tn j ∨ w = wdK a b tn j ++ "q")
theorem wdK_len (a b : Str) (tn : Int) (k : Nat) : (wdK a b tn k).length = a.length + 1 + b.length := by
  unfold wdK
  rw [strLen_append, strLen_append]
  rfl
theorem q_len : ("q" : Str).length = 1 := by decide
theorem wsOk_snoc {a b : Str} {tn : Int} {i : Nat} {ws : List Str} (h : WsOk a b tn i ws) (hi : i < 9) {w : Str} (hw : w = wdK a b tn i ∨ w = wdK a b tn i ++ "q") : WsOk a b tn (i + 1) (ws ++ [w]) := by
  refine ⟨?_, fun v hv => ?_⟩
  · rw [List.nodup_append]
    refine ⟨h.1, by simp, fun x hx y hy => ?_⟩
    rw [List.mem_singleton.mp hy]
    obtain ⟨j, hj, e⟩ := h.2 x hx
    intro z
    have li := wdK_len a b tn i
    have lj := wdK_len a b tn j
    have ne : wdK a b tn j ≠ wdK a b tn i := fun q => by
      have := lett_inj (by omega) hi (mid_inj q)
      omega
    rcases e with e | e <;> rcases hw with e2 | e2
    · exact ne (by rw [← e, ← e2, z])
    · have := congrArg Str.length (e.symm.trans (z.trans e2))
      rw [strLen_append, q_len] at this
      omega
    · have := congrArg Str.length (e.symm.trans (z.trans e2))
      rw [strLen_append, q_len] at this
      omega
    · refine ne ?_
      have e3 := congrArg (fun z : Str => z.cps.toList) (e.symm.trans (z.trans e2))
      simp only [str_app, Array.toList_append] at e3
      have e4 := List.append_cancel_right e3
      have e5 := Array.toList_inj.mp e4
      show (wdK a b tn j) = _
      cases hj' : wdK a b tn j
      cases hi' : wdK a b tn i
      rw [hj', hi'] at e5
      exact congrArg Str.mk e5
  · rcases List.mem_append.mp hv with e | e
    · obtain ⟨j, hj, q⟩ := h.2 v e
      exact ⟨j, by omega, q⟩
    · rw [List.mem_singleton.mp e]
      exact ⟨i, by omega, hw⟩
theorem nodup_pop {ys xs : List Str} {j : Nat} {x : Str} (h : (ys ++ xs).Nodup) (hx : xs[j]? = some x) : ((ys ++ [x]) ++ xs.eraseIdx j).Nodup := by
  obtain ⟨hj, rfl⟩ := List.getElem?_eq_some_iff.mp hx
  have p : (xs[j] :: xs.eraseIdx j).Perm xs := by
    rw [List.eraseIdx_eq_take_drop_succ]
    have e : xs = xs.take j ++ (xs[j] :: xs.drop (j + 1)) := by rw [List.getElem_cons_drop, List.take_append_drop]
    exact (List.perm_middle (a := xs[j])).symm.trans (by rw [← e])
  have e : (ys ++ [xs[j]]) ++ xs.eraseIdx j = ys ++ (xs[j] :: xs.eraseIdx j) := by simp
  rw [e]
  exact ((List.Perm.append_left ys p).nodup_iff).mpr h
theorem nodup_keys {ks : List Str} (h : ks.Nodup) : (ks.map (fun x => (Sum.inr x : Key))).Nodup := by
  rw [List.nodup_iff_pairwise_ne, List.pairwise_map]
  exact h.imp fun z q => z (by injection q)
end Mine
namespace Mine
open PySem L2
/-! ### dicts of known names -/
theorem inrNe {x y : Str} (h : ¬ x = y) : ¬ ((Sum.inr x : Key) = Sum.inr y) := fun z => h (by injection z)
theorem Dk.new {H : Hp} {a : Addr} (h : H a = some (.dK [])) : Dk H a [] 0 := ⟨[], h, fun x => by rw [valV_nil]; simp, fun q hq => absurd hq List.not_mem_nil, Nat.le_refl _⟩
theorem Dk.ext {H : Hp} {a : Addr} {ns ms : List Str} {n : Nat} (D : Dk H a ns n) (h : ∀ x, x ∈ ns ↔ x ∈ ms) : Dk H a ms n := ⟨let ⟨k, e, r1, r2, r3⟩ := D.ex; ⟨k, e, fun x => (r1 x).trans (h x), r2, r3⟩⟩
theorem Dk.get {H : Hp} {a : Addr} {ns : List Str} {n : Nat} (D : Dk H a ns n) (x : Str) : ∃ o : Option V, DGet H a (.str x) o ∧ o.isSome = decide (x ∈ ns) := by
  obtain ⟨kvs, e, r1, _⟩ := D.ex
  refine ⟨_, DGet.k (k := Sum.inr x) e, ?_⟩
  by_cases c : x ∈ ns
  · rw [decide_eq_true c]; exact (r1 x).mpr c
  · rw [decide_eq_false c]
    cases q : (valV kvs (Sum.inr x : Key)).isSome with
    | false => rfl
    | true => exact absurd ((r1 x).mp q) c
theorem putK_keys {m : List (Key × V)} {k : Key} {v : V} {q : Key × V} (h : q ∈ putK m k v) : q.1 = k ∨ ∃ p ∈ m, q.1 = p.1 := by
  unfold putK at h
  split at h
  · obtain ⟨p, hp, e⟩ := List.mem_map.mp h
    by_cases c : p.1 = k
    · rw [if_pos c] at e; rw [← e]; exact .inr ⟨p, hp, rfl⟩
    · rw [if_neg c] at e; rw [← e]; exact .inr ⟨p, hp, rfl⟩
  · rcases List.mem_append.mp h with e | e
    · exact .inr ⟨q, e, rfl⟩
    · rw [List.mem_singleton.mp e]; exact .inl rfl
theorem Dk.put {H : Hp} {a : Addr} {ns : List Str} {n : Nat} (D : Dk H a ns n) (hn : n ≤ 20000) (x : Str) (v : V) : ∃ o : HO, DPut H a (.str x) v (upd H a o) ∧ Dk (upd H a o) a (ns ++ [x]) (n + 1) ∧ ∃ q, o = .dK q := by
  obtain ⟨kvs, e, r1, r2, r3⟩ := D.ex
  refine ⟨_, DPut.k (k := Sum.inr x) e (big4 (by omega)), ⟨_, upd_same, fun y => ?_, fun q hq => ?_, ?_⟩, _, rfl⟩
  · rw [valV_put]
    by_cases c : y = x
    · rw [if_pos (by rw [c]), c]; simp
    · rw [if_neg (inrNe c), r1 y]; simp [c]
  · rcases putK_keys hq with z | ⟨p, hp, z⟩
    · exact ⟨x, z⟩
    · rw [z]; exact r2 p hp
  · have := length_putK kvs (Sum.inr x : Key) v
    omega
/-- a stack of them -/
def DkL (H : Hp) (n : Nat) : List Addr → List (List Str) → Prop
  | [], [] => True
  | a :: r, k :: q => Dk H a k n ∧ DkL H n r q
  | [], _ :: _ => False
  | _ :: _, [] => False
theorem DkL.at {H H' : Hp} {n m : Nat} (hm : n ≤ m) : ∀ {as : List Addr} {ks : List (List Str)}, DkL H n as ks → (∀ a ∈ as, ∀ o, H a = some o → H' a = some o) → DkL H' m as ks
  | [], [], _, _ => trivial
  | a :: r, k :: q, ⟨h, h2⟩, e => ⟨(h.at (e a List.mem_cons_self)).more hm, DkL.at hm h2 fun b hb => e b (List.mem_cons_of_mem _ hb)⟩
  | [], _ :: _, z, _ => z.elim
  | _ :: _, [], z, _ => z.elim
theorem DkL.is {H : Hp} {n : Nat} : ∀ {as : List Addr} {ks : List (List Str)}, DkL H n as ks → ∀ a ∈ as, ∃ q, H a = some (.dK q)
  | [], [], _, _, h => absurd h List.not_mem_nil
  | a :: r, k :: q, ⟨h, h2⟩, b, hb => by
    rcases List.mem_cons.mp hb with e | e
    · rw [e]; obtain ⟨kvs, z, _⟩ := h.ex; exact ⟨kvs, z⟩
    · exact DkL.is h2 b e
  | [], _ :: _, z, _, _ => z.elim
  | _ :: _, [], z, _, _ => z.elim
theorem DkL.cons {H : Hp} {n : Nat} {as : List Addr} {k : List Str} {ks : List (List Str)} (h : DkL H n as (k :: ks)) : ∃ a r, as = a :: r ∧ Dk H a k n ∧ DkL H n r ks := by
  cases as with
  | nil => exact h.elim
  | cons a r => exact ⟨a, r, rfl, h.1, h.2⟩
theorem DkL.len {H : Hp} {n : Nat} : ∀ {as : List Addr} {ks : List (List Str)}, DkL H n as ks → as.length = ks.length
  | [], [], _ => rfl
  | a :: r, k :: q, ⟨_, h2⟩ => by rw [List.length_cons, List.length_cons, DkL.len h2]
  | [], _ :: _, z => z.elim
  | _ :: _, [], z => z.elim
/-- the names of a dict's keys -/
def nsOf (kvs : List (Key × V)) : List Str := kvs.filterMap fun q => q.1.elim (fun _ => none) some
theorem mem_nsOf {kvs : List (Key × V)} {x : Str} : x ∈ nsOf kvs ↔ (valV kvs (Sum.inr x : Key)).isSome = true := by
  unfold nsOf
  rw [List.mem_filterMap]
  constructor
  · rintro ⟨⟨k, v⟩, m, e⟩
    cases k with
    | inl n => cases e
    | inr y =>
      cases e
      unfold valV
      rw [Option.isSome_map, List.find?_isSome]
      exact ⟨_, m, decide_eq_true rfl⟩
  · intro h
    unfold valV at h
    rw [Option.isSome_map, List.find?_isSome] at h
    obtain ⟨q, m, e⟩ := h
    refine ⟨q, m, ?_⟩
    rw [of_decide_eq_true e]
    rfl
/-- how many steps the stacks of a walk have -/
theorem u_len {l : List Stp} {st : USt} : ∀ {n : Nat}, runM uStep (l.take n) ([], []) = some st → n ≤ l.length → st.2.length ≤ n := by
  intro n
  induction n generalizing st with
  | zero => intro h _; cases h; exact Nat.le_refl _
  | succ n ih =>
    intro h hn
    have hlt : n < l.length := hn
    rw [List.take_succ, List.getElem?_eq_getElem hlt, runM_app] at h
    cases q : runM uStep (l.take n) ([], []) with
    | none => rw [q] at h; cases h
    | some s1 =>
      rw [q] at h
      have h : (uStep l[n] s1).bind (runM uStep []) = some st := h
      have b := ih q (by omega)
      cases e : uStep l[n] s1 with
      | none => rw [e] at h; cases h
      | some s2 =>
        rw [e] at h
        have h : some s2 = some st := h
        cases h
        unfold uStep at e
        split at e
        · split at e
          · cases e
            show (if isWhn l[n].2 then _ else _ : List (List Str)).length ≤ _
            split
            · simp only [List.length_cons]; omega
            · omega
          · cases e
        · split at e
          · unfold uElse at e
            split at e
            · rename_i r1 r2 r3
              cases e
              rw [r3] at b
              simp only [List.length_cons] at b ⊢
              omega
            · cases e
          · split at e
            · unfold uEnd at e
              split at e
              · rename_i r1 r2 r3
                cases e
                rw [r3] at b
                simp only [List.length_cons] at b ⊢
                omega
              · cases e
            · cases e; omega
theorem t_len {l : List Stp} {st : List Int} : ∀ {n : Nat}, runM tStep (l.take n) [0] = some st → n ≤ l.length → st.length ≤ n + 1 := by
  intro n
  induction n generalizing st with
  | zero => intro h _; cases h; exact Nat.le_refl _
  | succ n ih =>
    intro h hn
    have hlt : n < l.length := hn
    rw [List.take_succ, List.getElem?_eq_getElem hlt, runM_app] at h
    cases q : runM tStep (l.take n) [0] with
    | none => rw [q] at h; cases h
    | some s1 =>
      rw [q] at h
      have h : (tStep l[n] s1).bind (runM tStep []) = some st := h
      have b := ih q (by omega)
      cases e : tStep l[n] s1 with
      | none => rw [e] at h; cases h
      | some s2 =>
        rw [e] at h
        have h : some s2 = some st := h
        cases h
        unfold tStep at e
        split at e
        · cases e; simp only [List.length_cons]; omega
        · split at e
          · unfold tOne at e
            split at e
            · cases e; simp only [List.length_cons] at b ⊢; omega
            · cases e
          · split at e
            · unfold tEnd at e
              split at e
              · unfold tTimes at e
                split at e
                · split at e
                  · cases e; simp only [List.length_cons] at b ⊢; omega
                  · cases e
                · cases e
                · cases e
              · unfold tWhen at e
                split at e
                · split at e
                  · cases e; simp only [List.length_cons] at b ⊢; omega
                  · cases e
                · cases e
                · cases e
                · cases e
              all_goals cases e
            · cases e; omega
/-! words of rows -/
theorem sets_thr {r : Rw} (h : WdR r) : (decide (r.w ∈ thrW) || decide (r.w = "let")) = r.sets.isSome := by
  cases r with
  | thr p w x vs =>
    have h : w ∈ thrW := h
    show (decide (w ∈ thrW) || _) = true
    rw [decide_eq_true h]; rfl
  | lt p x t => show (_ || decide (("let" : Str) = "let")) = true; simp
  | tell p t => show (decide (("tell" : Str) ∈ thrW) || decide (("tell" : Str) = "let")) = false; decide +kernel
  | when p pa pb t a b => show (decide (("when" : Str) ∈ thrW) || decide (("when" : Str) = "let")) = false; decide +kernel
  | times p pb n b => show (decide (("times" : Str) ∈ thrW) || decide (("times" : Str) = "let")) = false; decide +kernel
theorem whn_w {r : Rw} (h : WdR r) : decide (V.str r.w = V.str "when") = isWhn r := by
  cases r with
  | thr p w x vs =>
    exact decide_eq_false (thrNe1 (show w ∈ thrW from h))
  | lt p x t => exact decide_eq_false wLW
  | tell p t => exact decide_eq_false wEW
  | when p pa pb t a b => exact decide_eq_true rfl
  | times p pb n b => exact decide_eq_false wTW
end Mine
namespace Mine
open PySem L2
theorem at1 {v u : V} {r : List V} : atI (v :: u :: r) 1 = some u := by
  unfold atI ixN
  rw [if_pos (by decide), if_pos (by simp only [List.length_cons]; omega)]
  rfl
theorem wMN : ¬ (V.str "num" = V.str "name") := by decide +kernel
theorem wTL : ¬ (V.str "tell" = V.str "let") := by decide +kernel
theorem wWL : ¬ (V.str "when" = V.str "let") := by decide +kernel
theorem wML : ¬ (V.str "times" = V.str "let") := by decide +kernel
theorem wWT : ¬ (V.str "when" = V.str "times") := by decide +kernel
theorem thrNe3 {w : Str} (h : w ∈ thrW) : ¬ (V.str w = V.str "let") := fun z => by
  have e : w = "let" := by injection z
  rw [e] at h
  exact absurd h (by decide +kernel)
theorem thrNot {w : Str} (h : w ∈ thrW) : ¬ (inV (V.str w) [.str "tell", .str "when"] = true) := by
  rw [show ([V.str "tell", V.str "when"] : List V) = (["tell", "when"] : List Str).map V.str from rfl, inV_strs]
  simp only [thrW, List.mem_cons, List.not_mem_nil, or_false] at h
  rcases h with rfl | rfl | rfl | rfl <;> decide +kernel
theorem all_rep (n : Nat) : (List.replicate n true).all id = true := by
  rw [List.all_eq_true]
  intro x hx
  rw [List.eq_of_mem_replicate hx]
  rfl
theorem Tm.names_len : ∀ t : Tm, t.names.length ≤ t.size
  | .num _ _ => Nat.zero_le _
  | .nam _ _ => Nat.le_refl _
  | .op _ _ a b => by have := a.names_len; have := b.names_len; simp only [Tm.names, Tm.size, List.length_append]; omega
theorem asked_len {H : Hp} : ∀ {r : Rw}, RwH H r → r.asked.length ≤ 9000000
  | .thr _ _ _ _, _ => Nat.zero_le _
  | .lt _ _ t, h => by have := t.names_len; have := h.2.2.2; show t.names.length ≤ _; omega
  | .tell _ t, h => by have := t.names_len; have := h.2.2.2; show t.names.length ≤ _; omega
  | .when _ _ _ t _ _, h => by have := t.names_len; have := h.2.2.1.2; show t.names.length ≤ _; omega
  | .times _ _ _ _, _ => Nat.zero_le _
theorem sets_at {H : Hp} : ∀ {r : Rw} {x : Str}, RwH H r → r.sets = some x → ∃ us, H r.p = some (.tup (.str r.w :: .str x :: us))
  | .thr p w y vs, x, h, e => by cases e; exact ⟨vs, h.1⟩
  | .lt p y t, x, h, e => by cases e; exact ⟨_, h.1⟩
  | .tell _ _, _, _, e => by cases e
  | .when _ _ _ _ _ _, _, _, e => by cases e
  | .times _ _ _ _, _, _, e => by cases e
theorem cut_nd {xs : List Str} (h : xs.Nodup) {n : Nat} (hn : n ≤ xs.length) : ∃ ys : List Str, cutV (xs.map V.str) none (some (n : Int)) = ys.map V.str ∧ ys.length = n ∧ ys.Nodup := by
  refine ⟨xs.take n, ?_, by rw [List.length_take]; omega, List.Sublist.nodup (List.take_sublist n xs) h⟩
  unfold cutV
  have e : HT.sIx (xs.map V.str).length (xs.map V.str).length (some (n : Int)) = n := by
    rw [HT.sIx_nat, List.length_map]
    omega
  rw [e, show HT.sIx (xs.map V.str).length 0 none = 0 from rfl, List.drop_zero, List.map_take, Nat.sub_zero]
theorem mul_pos1 {a b : Int} (ha : 1 ≤ a) (hb : 1 ≤ b) : 1 ≤ a * b := by
  have := Int.mul_le_mul ha hb (by decide) (by omega)
  omega
theorem sq_same {K : PySem.W.Frag} {H H' : Hp} {a : Addr} {xs : List V} (h : SqL K H a xs) (s : Same H H') : SqL K H' a xs := by
  rcases h with (h | ⟨u, h⟩) | h
  · exact .inl (.inl (s _ _ h))
  · exact .inl (.inr ⟨u, s _ _ h⟩)
  · exact .inr h
theorem cut_mem {xs : List V} {lo hi : Option Int} {v : V} (h : v ∈ cutV xs lo hi) : v ∈ xs := by
  unfold cutV at h
  exact List.mem_of_mem_drop (List.mem_of_mem_take h)
theorem cut_len (xs : List V) (lo hi : Option Int) : (cutV xs lo hi).length ≤ xs.length := by
  unfold cutV
  rw [List.length_take, List.length_drop]; omega
theorem cut4_len (xs : List V) : (cutV xs none (some 4)).length ≤ 4 := by
  unfold cutV
  rw [show (4 : Int) = ((4 : Nat) : Int) from rfl, HT.sIx_nat, List.length_take]
  show min (min 4 xs.length - 0) _ ≤ 4
  omega
end Mine
namespace Mine
open PySem L2
def top (i : Nat) : Stmt := PySem.Challenge.pw_pairedthrows_k17_programs_let_by.main.body.getD i (.Pass ⟨0, 0, 0, 0⟩)
abbrev sPrt : Stmt := top 5
abbrev sNmI : Stmt := top 6
abbrev sSeN : Stmt := top 7
abbrev sAsk : Stmt := top 8
abbrev sAsS : Stmt := top 9
abbrev sInn : Stmt := top 10
abbrev sSts : Stmt := top 11
abbrev sBgn : Stmt := top 12
abbrev sFiA : Stmt := top 15
abbrev sRnA : Stmt := top 16
abbrev sRnF : Stmt := top 17
abbrev sBth : Stmt := top 18
abbrev sUnF : Stmt := top 19
abbrev sTlF : Stmt := top 20
abbrev sLkk : Stmt := top 21
abbrev sLok : Stmt := top 22
abbrev sDeal : Stmt := top 24
abbrev sDraw : Stmt := top 25
abbrev sNms : Stmt := top 26
abbrev sSum : Stmt := top 27
abbrev sStp : Stmt := top 28
abbrev sThw : Stmt := top 29
abbrev sTrm : Stmt := top 30
abbrev sSet : Stmt := top 31
abbrev sWhn : Stmt := top 32
abbrev sBlk : Stmt := top 33
abbrev sPrg : Stmt := top 34
abbrev sAlk : Stmt := top 35
abbrev sLaw : Stmt := top 36
section
variable {P : Program} {w : World} {K : PySem.W.Frag} {mg : Str → Option Value} {base : Heap}
theorem scDraw : FnScope ["_law_deal_here", "_law_many", "_law_number", "_law_one", "_law_other"] ["_law_deal_here", "_law_many"] (defScope sDraw) := ⟨rfl, rfl, rfl, by decide +kernel, rfl, by decide +kernel, by decide +kernel⟩
theorem ok_draw {f : Addr} {fd : FuncData} (F : Fun K "_law_draw" "_law_draw" sDraw f fd) (ml : mg "len" = none) : FnOk P w K mg base CX0 1 f fd ["_law_deal_here", "_law_many"] spDraw := by
  refine F.ok scDraw (fun vs H Q E h => ?_) (fun cdv A outer s H vs Q E hr h => ?_)
  · obtain ⟨d, l, m, rfl, _⟩ := h
    rfl
  obtain ⟨d, l, m, rfl, ⟨sd, n, ls, D⟩, hm0, hm1, k⟩ := h
  have hu := hu_of hr
  refine ⟨_, pss_cons (ps_while PassesOwn.never (pw_and (pt_cmpR op_eq (pe_dget hu (pv 0) pe_str (fun _ _ => rfl)) pe_int (nomark _)) (pw_and1 (pt_cmpR op_gt (pe_callB call_len_seq (by rfl) ml PySem.boot_len (pa_cons (pe_dget hu (pv 0) pe_str (fun _ _ => rfl)) pa_nil)) pe_int (nomark _)))).pt
      (pss_one (ps_dput hu (pv 0) pe_str (pe_bm0 PySem.F.plainAttrs_list PySem.F.slot_list_pop PySem.F.type_list_pop mt_pop (pe_dget hu (pv 0) pe_str (fun _ _ => rfl))) rfl)))
    (pss_cons (ps_set (i := 2) scDraw.nd rfl (Or.inl rfl) (pe_dget hu (pv 0) pe_str (fun _ _ => rfl)))
    (pss_cons (ps_if (pt_cmpR op_gt (pv 2) pe_int (nomark _))
      (pss_cons (ps_dput hu (pv 0) pe_str (pe_op op_fdivB (pv 2) (pv 1)) rfl) (pss_one (ps_ret (pe_op op_mod (pv 2) (pv 1))))) pss_nil)
    (pss_cons (ps_set (i := 3) scDraw.nd rfl (Or.inl rfl) (pe_op op_mod (pe_op op_add (pe_op op_mul (pe_dget hu (pv 0) pe_str (fun _ _ => rfl)) pe_int) pe_int) pe_int))
    (pss_cons (ps_dput hu (pv 0) pe_str (pe_op op_mod (pe_op op_add (pe_op op_mul (pv 3) pe_int) pe_int) pe_int) rfl)
    (pss_cons (ps_set (i := 4) scDraw.nd rfl (Or.inl rfl) (pe_op op_mod (pe_op op_mul (pe_dget hu (pv 0) pe_str (fun _ _ => rfl)) (pe_dget hu (pv 0) pe_str (fun _ _ => rfl))) pe_int))
    (pss_one (ps_ret (pe_op op_mod (pe_op op_add (pe_op op_mul (pe_op op_mod (pe_op op_mul (pv 3) (pv 3)) pe_int) pe_int) (pv 4)) (pv 1))))))))), ?_⟩
  -- the while: numbers are taken until one is above 0, or none is left
  refine ⟨fun j σ H1 => ∃ n' ls', σ = [some (.ref d), some (.int m), none, none, none] ∧ DealAt H1 d l sd n' ls' ∧ j = ls'.length ∧ Out d l H H1, ⟨_, n, ls, rfl, D, rfl, Out.refl H⟩, ?_⟩
  rintro j σ H1 ⟨n', ls', rfl, D1, rfl, o1⟩
  refine ⟨_, rfl, d, _, rfl, D1.gn, rfl, _, rfl, ?_⟩
  refine ite2 (fun c => ?a) (fun c => iteF ?b)
  case' a => refine ⟨_, rfl, d, _, rfl, D1.gl, l, _, rfl, .inl (SqL.of D1.lc), _, _, rfl, rfl, _, rfl, ?_⟩
  case' a => refine ite2 (fun c2 => ?loop) (fun c2 => ?b2)
  case loop =>
      -- one is popped
      have hl : 0 < ls'.length := by
        have := of_decide_eq_true c2
        simpa using this
      obtain ⟨z, hz⟩ : ∃ z, ls'[ls'.length - 1]? = some z := ⟨ls'[ls'.length - 1], by simp⟩
      have hz2 : (ls'.map V.int)[(ls'.map V.int).length - 1]? = some (.int z) := by rw [List.length_map, List.getElem?_map, hz]; rfl
      have z0 : 0 ≤ z := D1.l0 z (List.mem_of_getElem? hz)
      have D2 : DealAt (upd H1 l (.lst (ls'.dropLast.map V.int))) d l sd n' ls'.dropLast := D1.left fun x hx => D1.l0 x (List.dropLast_subset _ hx)
      refine ⟨fun σ' H' => σ' = [some (.ref d), some (.int m), none, none, none] ∧ DealAt H' d l sd z ls'.dropLast ∧ Out d l H H', fun σ' H' q => ⟨_, by rw [List.length_dropLast]; omega, z, ls'.dropLast, q.1, q.2.1, rfl, q.2.2⟩, ?_⟩
      refine ⟨_, rfl, d, _, rfl, D1.gl, .inl ⟨rfl, _, SqL.of D1.lc⟩, l, _, _, rfl, rfl, D1.lc, hz2, ?_⟩
      have e : ∀ (o : List V), (ls'.map V.int).dropLast = o → upd H1 l (.lst (ls'.map V.int).dropLast) = upd H1 l (.lst o) := fun o e => by rw [e]
      rw [e _ List.map_dropLast.symm]
      refine ⟨_, rfl, d, _, rfl, D2.pn z, rfl, D2.number z0, o1.trans (Out.upd_l.trans Out.upd_d)⟩
  all_goals
    refine ⟨_, rfl, d, _, rfl, D1.gn, ?_⟩
    refine ⟨_, rfl, _, _, rfl, rfl, _, rfl, ?_⟩
    refine ite2 (fun c3 => ?_) (fun c3 => ?_)
    · have hp : 0 < n' := of_decide_eq_true c3
      refine ⟨_, rfl, _, rfl, _, _, rfl, rfl, ⟨hm0, by omega⟩, _, rfl, d, _, rfl, D1.pn (n' / m), ?_⟩
      refine ⟨_, rfl, _, rfl, _, _, rfl, rfl, hm0, ?_⟩
      exact k _ _ (Int.emod_nonneg _ (by omega)) (Int.emod_lt_of_pos _ hm0) ⟨_, _, _, D1.number (Int.ediv_nonneg (by omega) (by omega))⟩ (o1.trans Out.upd_d)
    · -- a number by the seed
      have q1 : (0 : Int) < 2147483647 := by decide
      refine ⟨_, rfl, d, _, rfl, D1.gs, _, _, rfl, rfl, .inr ⟨by decide, by decide⟩, _, _, rfl, rfl, _, _, rfl, rfl, q1, ?_⟩
      have q2 : (0 : Int) < 2147483399 := by decide
      refine ⟨_, rfl, _, _, rfl, rfl, .inr ⟨by decide, by decide⟩, _, _, rfl, rfl, _, _, rfl, rfl, q2, _, rfl, d, _, rfl, D1.ps _, ?_⟩
      have D2 := D1.seed (v := ((sd * 48271 + 7919) % 2147483647 * 40692 + 104729) % 2147483399) (by omega) (by omega)
      have q3 : (0 : Int) < 2147483563 := by decide
      have q4 : (0 : Int) < 2147483629 := by decide
      refine ⟨_, rfl, d, _, rfl, D2.gs, _, rfl, d, _, rfl, D2.gs, _, _, rfl, rfl, .inr ⟨by omega, by omega⟩, _, _, rfl, rfl, q3, ?_⟩
      refine ⟨_, rfl, _, rfl, _, _, rfl, rfl, .inr ⟨by omega, by omega⟩, _, _, rfl, rfl, q4, _, _, rfl, rfl, .inr ⟨by decide, by decide⟩, _, rfl, _, _, rfl, rfl, _, rfl, _, _, rfl, rfl, hm0, ?_⟩
      exact k _ _ (Int.emod_nonneg _ (by omega)) (Int.emod_lt_of_pos _ hm0) ⟨_, _, _, D2⟩ (o1.trans Out.upd_d)
end
end Mine
namespace Mine
open PySem L2
theorem merge_deal (x n : Int) (l : Addr) : mergeK [] (dealK x n l) = dealK x n l := by
  unfold mergeK dealK
  simp only [List.foldl_cons, List.foldl_nil]
  have e1 : putK ([] : List (Key × V)) (Sum.inr ("seed" : Str)) (V.int x) = [(Sum.inr ("seed" : Str), V.int x)] := rfl
  have e2 : putK [(Sum.inr ("seed" : Str), V.int x)] (Sum.inr ("number" : Str) : Key) (V.int n) = [(Sum.inr ("seed" : Str), V.int x), (Sum.inr ("number" : Str), V.int n)] := putK_new _ (by rw [valV_neg ksn, valV_nil])
  have e3 : putK [(Sum.inr ("seed" : Str), V.int x), (Sum.inr ("number" : Str), V.int n)] (Sum.inr ("left" : Str) : Key) (V.ref l) = [(Sum.inr ("seed" : Str), V.int x), (Sum.inr ("number" : Str), V.int n)] ++ [(Sum.inr ("left" : Str), V.ref l)] := putK_new _ (by rw [valV_neg ksl, valV_neg knl, valV_nil])
  rw [e1, e2, e3]
  rfl
theorem ndCell : (["_law_cell"] : List Str).Nodup := by decide +kernel
theorem cut_ints (ns : List Int) (lo hi : Option Int) : ∃ ms : List Int, cutV (ns.map V.int) lo hi = ms.map V.int ∧ ms.length ≤ ns.length := by
  refine ⟨(ns.drop (HT.sIx ns.length 0 lo)).take (HT.sIx ns.length ns.length hi - HT.sIx ns.length 0 lo), ?_, ?_⟩
  · unfold cutV
    rw [List.length_map, List.map_take, List.map_drop]
  · rw [List.length_take, List.length_drop]; omega
section
variable {P : Program} {w : World} {K : PySem.W.Frag} {mg : Str → Option Value} {base : Heap}
theorem scDeal : FnScope ["_law_script", "_law_base", "_law_cells", "_law_number", "_law_cell"] ["_law_script", "_law_base"] (defScope sDeal) := ⟨rfl, rfl, rfl, by decide +kernel, rfl, by decide +kernel, by decide +kernel⟩
theorem ok_deal {f : Addr} {fd : FuncData} (F : Fun K "_law_deal" "_law_deal" sDeal f fd) (mm : mg "max" = none) (mr : mg "reversed" = none) (ml : mg "list" = none) : FnOk P w K mg base CX0 1 f fd ["_law_script", "_law_base"] (spDeal K) := by
  refine F.ok scDeal (fun vs H Q E h => ?_) (fun cdv A outer s H vs Q E hr h => ?_)
  · obtain ⟨a, ns, b, rfl, _⟩ := h
    rfl
  obtain ⟨a, ns, b, rfl, hS, hlen, hb0, hb1, k⟩ := h
  refine ⟨_, pss_cons (ps_setC ["_law_cell"] [none] (i := 2) scDeal.nd rfl (Or.inl rfl) (pi_list (pe_slice sl_list (pv 0) (po_some (pv 1)) (po_some pe_int)))
      (fun _ _ _ _ => pg_name (i := 0) ndCell rfl (Or.inl rfl)) (fun _ _ _ _ => pf_nil) (fun _ _ _ _ => pe_callB (call_max2 rfl) (by rfl) mm PyProof.Rows.boot_max (pa_cons (pv 0) (pa_cons (pe_op op_sub pe_int (pv 0)) pa_nil))))
    (pss_cons (ps_set (i := 3) scDeal.nd rfl (Or.inl rfl) (pe_op op_add pe_int (pv 1)))
    (pss_cons (ps_for PassesOwn.never rfl (pi_list (pv 2)) (pg_name (i := 4) scDeal.nd rfl (Or.inl rfl))
      (pss_one (ps_set (i := 3) scDeal.nd rfl (Or.inl rfl) (pe_op op_mod (pe_op op_add (pe_op op_mul (pv 3) pe_int) (pe_op op_mod (pv 4) pe_int)) pe_int))))
    (pss_one (ps_ret (pe_disp (pps_cons pe_str (pv 3) (pps_cons pe_str pe_int (pps_cons pe_str (pe_listrev (pe_comp ["_law_cell"] [none] (pi_list (pv 2))
      (fun _ _ _ _ => pg_name (i := 0) ndCell rfl (Or.inl rfl)) (fun _ _ _ _ => pf_one (pt_cmpR op_ge (pv 0) (pe_op op_pow pe_int pe_int) (nomark _))) (fun _ _ _ _ => pv 0)) (by rfl) ml (by rfl) mr) pps_nil))) rfl rfl (by decide) (by decide)))))), ?_⟩
  -- cells: the greatness of each
  refine ⟨_, rfl, _, rfl, _, rfl, _, rfl, a, _, rfl, hS, fun p1 np1 => ?_⟩
  obtain ⟨ms, em, hms⟩ := cut_ints ns (some b) (some 63)
  have g1 : Same H (upd H p1 (.lst (cutV (ns.map V.int) (some b) (some 63)))) := same_new np1 _
  have hp1 : SqL K (upd H p1 (.lst (cutV (ns.map V.int) (some b) (some 63)))) p1 (ms.map V.int) := by rw [em]; exact SqL.of upd_same
  generalize upd H p1 (.lst (cutV (ns.map V.int) (some b) (some 63))) = H1 at g1 hp1 ⊢
  refine ⟨p1, rfl, ⟨_, hp1⟩, comp_list (xs := ms.map V.int) (fun i ys σ H2 => H2 = H1 ∧ (∃ v, σ = [v]) ∧ ∃ cs : List Int, ys = cs.map V.int ∧ cs.length = i ∧ ∀ x ∈ cs, 0 ≤ x)
    (by rw [List.length_map]; exact small1000 (by omega)) ⟨rfl, ⟨_, rfl⟩, [], rfl, rfl, fun _ z => nomatch z⟩ (fun i ys σ H2 ⟨_, _, cs, e1, e2, _⟩ => by rw [e1, List.length_map]; omega) (fun i ys σ H2 _ ⟨e, _⟩ => by rw [e]; exact hp1) ?_ ?_⟩
  · rintro i x ys σ H2 hx ⟨rfl, ⟨v, rfl⟩, cs, rfl, rfl, h0⟩
    obtain ⟨z, rfl, _⟩ := ints_at hx
    refine ⟨_, rfl, _, rfl, _, _, rfl, rfl, _, _, rfl, rfl, ⟨_, rfl⟩, cs ++ [if 0 - z > z then 0 - z else z], by rw [List.map_append]; rfl, by rw [List.length_append]; rfl, fun x hx => ?_⟩
    rcases List.mem_append.mp hx with q | q
    · exact h0 x q
    · have e : x = if 0 - z > z then 0 - z else z := by simpa using q
      rw [e]; split <;> omega
  rintro ys σ H2 ⟨rfl, _, cs, rfl, hcs, h0⟩ p2 np2
  have hm63 : cs.length ≤ 63 := by rw [List.length_map] at hcs; omega
  have g2 : Same H2 (upd H2 p2 (.lst (cs.map V.int))) := same_new np2 _
  have hp2 : SqL K (upd H2 p2 (.lst (cs.map V.int))) p2 (cs.map V.int) := SqL.of upd_same
  generalize upd H2 p2 (.lst (cs.map V.int)) = H3 at g2 hp2 ⊢
  -- number = 7919 + base
  refine ⟨_, rfl, _, _, rfl, rfl, ?_⟩
  -- for cell in cells
  refine ⟨_, rfl, p2, rfl, ⟨_, hp2⟩, for_list (K := K) (a := p2) (xs := cs.map V.int) (fun i σ H4 => H4 = H3 ∧ ∃ (x : Int) (v : Option V), σ = [some (.ref a), some (.int b), some (.ref p2), some (.int x), v] ∧ 0 ≤ x ∧ x < 2147483647)
    ⟨rfl, 7919 + b, none, rfl, by omega, by omega⟩ (fun i σ H4 _ ⟨e, _⟩ => by rw [e]; exact hp2) ?_ ?_⟩
  · rintro i y σ H4 hi ⟨rfl, x, v, rfl, x0, x1⟩
    obtain ⟨z, rfl, _⟩ := ints_at hi
    have q1 : (0 : Int) < 2147483629 := by decide
    have q2 : (0 : Int) < 2147483647 := by decide
    refine ⟨_, rfl, _, _, rfl, rfl, .inr ⟨by decide, by decide⟩, _, rfl, _, _, rfl, rfl, q1, _, _, rfl, rfl, _, _, rfl, rfl, q2, rfl, _, _, rfl, ?_, ?_⟩
    · exact Int.emod_nonneg _ (by decide)
    · exact Int.emod_lt_of_pos _ q2
  rintro σ H4 ⟨rfl, x, v, rfl, x0, x1⟩
  -- the dict
  intro d nd
  have g4 : Same H4 (upd H4 d (.dK [])) := same_new nd _
  have hd4 : upd H4 d (.dK []) d = some (.dK []) := upd_same
  have hp4 := g4.seq hp2
  refine ⟨_, rfl, _, rfl, p2, rfl, ⟨_, hp4⟩, ?_⟩
  generalize upd H4 d (.dK []) = H5 at g4 hd4 hp4 ⊢
  refine comp_list (xs := cs.map V.int) (fun i ys σ H6 => H6 = H5 ∧ (∃ v, σ = [v]) ∧ ∃ ls : List Int, ys = ls.map V.int ∧ ls.length ≤ i ∧ ∀ x ∈ ls, 0 ≤ x)
    (by rw [List.length_map]; exact small1000 (by omega)) ⟨rfl, ⟨_, rfl⟩, [], rfl, Nat.le_refl _, fun _ z => nomatch z⟩ (fun i ys σ H2 ⟨_, _, cs, e1, e2, _⟩ => by rw [e1, List.length_map]; omega) (fun i ys σ H2 _ ⟨e, _⟩ => by rw [e]; exact hp4) ?_ ?_
  · rintro i y ys σ H6 hy ⟨rfl, ⟨v', rfl⟩, ls, rfl, hl, l0⟩
    obtain ⟨z, rfl, hz⟩ := ints_at hy
    have z0 : 0 ≤ z := h0 z (List.mem_of_getElem? hz)
    refine ⟨_, rfl, _, _, rfl, rfl, ⟨by decide, by decide, by decide⟩, _, _, rfl, rfl, _, rfl, ?_⟩
    refine ite2 (fun c => ?_) (fun c => ?_)
    · refine ⟨_, rfl, rfl, ⟨_, rfl⟩, ls ++ [z], by rw [List.map_append]; rfl, by rw [List.length_append]; show ls.length + 1 ≤ i + 1; omega, fun x hx => ?_⟩
      rcases List.mem_append.mp hx with q | q
      · exact l0 x q
      · have e : x = z := by simpa using q
        rw [e]; exact z0
    · exact ⟨rfl, ⟨_, rfl⟩, ls, rfl, Nat.le_succ_of_le hl, l0⟩
  rintro ys σ H6 ⟨rfl, _, ls, rfl, hl, l0⟩ p3 np3
  have g5 : Same H6 (upd H6 p3 (.lst (ls.map V.int))) := same_new np3 _
  refine ⟨p3, _, rfl, SqL.of upd_same, fun l nl => ?_⟩
  generalize upd H6 p3 (.lst (ls.map V.int)) = H7 at g5 nl ⊢
  have g6 : Same H7 (upd H7 l (.lst (ls.map V.int).reverse)) := same_new nl _
  have hd7 : H7 d = some (.dK []) := g5 _ _ hd4
  refine ⟨g6 _ _ hd7, dealK x 0 l, rfl, by show 3 ≤ 15; decide, ?_⟩
  have em : mergeK [] (dealK x 0 l) = dealK x 0 l := merge_deal _ _ _
  have neld : l ≠ d := fun z => by rw [z] at nl; rw [nl] at hd7; cases hd7
  refine k d l _ ?_ ?_ ⟨x, 0, ls.reverse, ⟨by rw [em]; exact upd_same, by rw [upd_ne neld, upd_same, List.map_reverse], x0, x1, Int.le_refl 0, fun y hy => l0 y (by simpa using hy)⟩⟩ ?_
  · exact (g1.trans g2).free nd
  · exact (g1.trans (g2.trans (g4.trans g5))).free nl
  · intro c o e
    rw [upd_ne (ne_of_none e ((g1.trans g2).free nd))]
    exact (g1.trans (g2.trans (g4.trans (g5.trans g6)))) c o e
end
end Mine
namespace L2
open PySem PySem.Spec PyProof.Rows
/-! ### loops whose turns neither break nor return: the rest of the def is out of their sight -/
theorem for_listA {K : PySem.W.Frag} {a : Addr} {xs : List V} {g : TG} {tb : TS} {D : Ends} {σ : St} {H : Hp} (Pv : Nat → St → Hp → Prop) (h0 : Pv 0 σ H) (hl : ∀ i σ H, i ≤ xs.length → Pv i σ H → SqL K H a xs)
    (hs : ∀ (D' : Ends), ∀ i x σ H, xs[i]? = some x → Pv i σ H → g x σ H fun σ2 H2 => tb { D' with nx := Pv (i + 1), ct := Pv (i + 1), bk := D'.nx } σ2 H2) (hd : ∀ σ H, Pv xs.length σ H → D.nx σ H) :
    ∃ W : Nat → Nat → St → Hp → Prop, (∃ m, W 0 m σ H) ∧ ∀ i m σ H, W i m σ H →
      ((Itl K a).stop i H ∧ D.nx σ H) ∨ ((Itl K a).go i H ∧ ∃ N : St → Hp → Prop, (∀ σ' H', N σ' H' → ∃ m', m' < m ∧ W (i + 1) m' σ' H') ∧ ∀ x H', (Itl K a).yld i H x H' → g x σ H' fun σ2 H2 => tb { D with nx := N, ct := N, bk := D.nx } σ2 H2) := for_list Pv h0 hl (hs D) hd
theorem for_tupA {K : PySem.W.Frag} {a : Addr} {xs : List V} {g : TG} {tb : TS} {D : Ends} {σ : St} {H : Hp} (Pv : Nat → St → Hp → Prop) (h0 : Pv 0 σ H) (hl : ∀ i σ H, i ≤ xs.length → Pv i σ H → SqT K H a xs)
    (hs : ∀ (D' : Ends), ∀ i x σ H, xs[i]? = some x → Pv i σ H → g x σ H fun σ2 H2 => tb { D' with nx := Pv (i + 1), ct := Pv (i + 1), bk := D'.nx } σ2 H2) (hd : ∀ σ H, Pv xs.length σ H → D.nx σ H) :
    ∃ W : Nat → Nat → St → Hp → Prop, (∃ m, W 0 m σ H) ∧ ∀ i m σ H, W i m σ H →
      ((Itt K a).stop i H ∧ D.nx σ H) ∨ ((Itt K a).go i H ∧ ∃ N : St → Hp → Prop, (∀ σ' H', N σ' H' → ∃ m', m' < m ∧ W (i + 1) m' σ' H') ∧ ∀ x H', (Itt K a).yld i H x H' → g x σ H' fun σ2 H2 => tb { D with nx := N, ct := N, bk := D.nx } σ2 H2) := for_tup Pv h0 hl (hs D) hd
theorem for_rangeA {lo : Int} {n : Nat} {g : TG} {tb : TS} {D : Ends} {σ : St} {H : Hp} (Pv : Nat → St → Hp → Prop) (h0 : Pv 0 σ H)
    (hs : ∀ (D' : Ends), ∀ i σ H, i < n → Pv i σ H → g (.int (lo + i)) σ H fun σ2 H2 => tb { D' with nx := Pv (i + 1), ct := Pv (i + 1), bk := D'.nx } σ2 H2) (hd : ∀ σ H, Pv n σ H → D.nx σ H) :
    ∃ W : Nat → Nat → St → Hp → Prop, (∃ m, W 0 m σ H) ∧ ∀ i m σ H, W i m σ H →
      ((Itr lo n).stop i H ∧ D.nx σ H) ∨ ((Itr lo n).go i H ∧ ∃ N : St → Hp → Prop, (∀ σ' H', N σ' H' → ∃ m', m' < m ∧ W (i + 1) m' σ' H') ∧ ∀ x H', (Itr lo n).yld i H x H' → g x σ H' fun σ2 H2 => tb { D with nx := N, ct := N, bk := D.nx } σ2 H2) := for_range Pv h0 (hs D) hd
theorem for_enumA {K : PySem.W.Frag} {a : Addr} {xs : List V} {g : TG} {tb : TS} {D : Ends} {σ : St} {H : Hp} (Pv : Nat → St → Hp → Prop) (h0 : Pv 0 σ H) (hl : ∀ i σ H, i ≤ xs.length → Pv i σ H → SqL K H a xs)
    (hs : ∀ (D' : Ends), ∀ i x σ H t, xs[i]? = some x → Pv i σ H → H t = none → g (.ref t) σ (upd H t (.tup [.int i, x])) fun σ2 H2 => tb { D' with nx := Pv (i + 1), ct := Pv (i + 1), bk := D'.nx } σ2 H2) (hd : ∀ σ H, Pv xs.length σ H → D.nx σ H) :
    ∃ W : Nat → Nat → St → Hp → Prop, (∃ m, W 0 m σ H) ∧ ∀ i m σ H, W i m σ H →
      ((Ite K a).stop i H ∧ D.nx σ H) ∨ ((Ite K a).go i H ∧ ∃ N : St → Hp → Prop, (∀ σ' H', N σ' H' → ∃ m', m' < m ∧ W (i + 1) m' σ' H') ∧ ∀ x H', (Ite K a).yld i H x H' → g x σ H' fun σ2 H2 => tb { D with nx := N, ct := N, bk := D.nx } σ2 H2) := for_enum Pv h0 hl (hs D) hd
theorem for_enumTA {K : PySem.W.Frag} {a : Addr} {xs : List V} {g : TG} {tb : TS} {D : Ends} {σ : St} {H : Hp} (Pv : Nat → St → Hp → Prop) (h0 : Pv 0 σ H) (hl : ∀ i σ H, i ≤ xs.length → Pv i σ H → SqT K H a xs)
    (hs : ∀ (D' : Ends), ∀ i x σ H t, xs[i]? = some x → Pv i σ H → H t = none → g (.ref t) σ (upd H t (.tup [.int i, x])) fun σ2 H2 => tb { D' with nx := Pv (i + 1), ct := Pv (i + 1), bk := D'.nx } σ2 H2) (hd : ∀ σ H, Pv xs.length σ H → D.nx σ H) :
    ∃ W : Nat → Nat → St → Hp → Prop, (∃ m, W 0 m σ H) ∧ ∀ i m σ H, W i m σ H →
      ((Itet K a).stop i H ∧ D.nx σ H) ∨ ((Itet K a).go i H ∧ ∃ N : St → Hp → Prop, (∀ σ' H', N σ' H' → ∃ m', m' < m ∧ W (i + 1) m' σ' H') ∧ ∀ x H', (Itet K a).yld i H x H' → g x σ H' fun σ2 H2 => tb { D with nx := N, ct := N, bk := D.nx } σ2 H2) := for_enumT Pv h0 hl (hs D) hd
end L2
namespace Mine
open PySem L2
section
variable {P : Program} {w : World} {K : PySem.W.Frag} {mg : Str → Option Value} {base : Heap}
theorem scPrt : FnScope ["term", "parts", "waiting", "part"] ["term"] (defScope sPrt) := ⟨rfl, rfl, rfl, by decide +kernel, rfl, by decide +kernel, by decide +kernel⟩
theorem ok_Prt {f : Addr} {fd : FuncData} (F : Fun K "parts_of" "parts_of" sPrt f fd)
     :
    FnOk P w K mg base CX0 (1) f fd ["term"] spParts := by
  refine F.ok scPrt (fun vs H Q E h => ?_) (fun cdv A outer s H vs Q E hr h => ?_)
  · obtain ⟨t, rfl, _⟩ := h
    rfl
  obtain ⟨t, rfl, ht, hz, k⟩ := h
  have hu := hu_of hr
  refine ⟨_, (pss_cons (ps_set (i := 1) scPrt.nd rfl (Or.inl rfl) (pe_lst pa_nil))
    (pss_cons (ps_set (i := 2) scPrt.nd rfl (Or.inl rfl) (pe_lst (pa_cons (pv 0) pa_nil)))
    (pss_cons (ps_while PassesOwn.never (pt_truth (pv 2) (fun _ => rfl))
    (pss_cons (ps_set (i := 3) scPrt.nd rfl (Or.inl rfl) (pe_bm0 PySem.F.plainAttrs_list PySem.F.slot_list_pop PySem.F.type_list_pop mt_pop (pv 2)))
    (pss_cons (ps_expr (pe_bm PySem.F.plainAttrs_list PySem.F.slot_list_append PySem.F.type_list_append mt_append (pv 1) (pa_cons (pv 3) pa_nil)))
    (pss_one (ps_if (pt_cmpR op_eq (pe_ix ix_tup (pv 3) pe_int (fun _ _ => rfl)) pe_str (nomark _)) (pss_one (ps_expr (pe_bm PySem.F.plainAttrs_list PySem.F.slot_list_extend PySem.F.type_list_extend mt_extend (pv 2) (pa_cons (pe_lst (pa_cons (pe_ix ix_tup (pv 3) pe_int (fun _ _ => rfl)) (pa_cons (pe_ix ix_tup (pv 3) pe_int (fun _ _ => rfl)) pa_nil))) pa_nil)))) pss_nil)))))
    (pss_one (ps_ret (pv 1)))))), ?_⟩
  refine ⟨Nat.zero_le _, fun l1 hl1 => ?_⟩
  have s1 := same_new hl1 (.lst [])
  have h1 : upd H l1 (.lst []) l1 = some (.lst []) := upd_same
  generalize upd H l1 (.lst []) = H1 at s1 h1 ⊢
  refine ⟨_, rfl, by show 1 ≤ sizeLine; decide, fun l2 hl2 => ?_⟩
  have n2 := s1.free hl2
  have ne : l2 ≠ l1 := (ne_of_none h1 hl2).symm
  have s2 := s1.trans (same_new hl2 (.lst [.ref t.p]))
  have h12 : upd H1 l2 (.lst [.ref t.p]) l1 = some (.lst []) := by rw [upd_ne ne.symm]; exact h1
  have h2 : upd H1 l2 (.lst [.ref t.p]) l2 = some (.lst [.ref t.p]) := upd_same
  generalize upd H1 l2 (.lst [.ref t.p]) = H2 at s2 h12 h2 ⊢
  refine ⟨fun m σ G => ∃ (ps stk : List Tm) (v3 : Option V), σ = [some (.ref t.p), some (.ref l1), some (.ref l2), v3] ∧ Same H G ∧ G l1 = some (.lst (ps.map fun u => V.ref u.p)) ∧ G l2 = some (.lst (stk.reverse.map fun u => V.ref u.p)) ∧ ps ++ stk.flatMap Tm.pre = t.pre ∧ (∀ u ∈ stk, TmH H u) ∧ m = (stk.flatMap Tm.pre).length,
    ⟨_, [], [t], none, rfl, s2, h12, h2, by simp, fun u hu => by rw [List.mem_singleton.mp hu]; exact ht, rfl⟩, ?_⟩
  rintro m σ G ⟨ps, stk, v3, rfl, s3, g1, g2, eq, hs, rfl⟩
  refine ⟨_, rfl, _, .inl ⟨_, SqL.of g2, rfl⟩, ?_⟩
  have lt := congrArg List.length eq
  rw [List.length_append, Tm.pre_len] at lt
  have ls : stk.length ≤ (stk.flatMap Tm.pre).length := flat_ge stk
  cases stk with
  | nil =>
    refine iteN (by simp) ?_
    rw [List.flatMap_nil, List.append_nil] at eq
    exact ⟨_, rfl, k l1 G s3 hl1 (by rw [← eq]; exact g1)⟩
  | cons u rest =>
    refine iteP (by simp) ?_
    have hu := hs u List.mem_cons_self
    have up := u.size_pos
    rw [List.flatMap_cons, List.length_append, Tm.pre_len] at lt
    rw [List.length_cons, List.flatMap_cons, List.length_append, Tm.pre_len] at ls
    refine ⟨fun σ' G' => ∃ (ps' stk' : List Tm) (v3 : Option V), σ' = [some (.ref t.p), some (.ref l1), some (.ref l2), v3] ∧ Same H G' ∧ G' l1 = some (.lst (ps'.map fun u => V.ref u.p)) ∧ G' l2 = some (.lst (stk'.reverse.map fun u => V.ref u.p)) ∧ ps' ++ stk'.flatMap Tm.pre = t.pre ∧ (∀ u ∈ stk', TmH H u) ∧ (stk'.flatMap Tm.pre).length + 1 = ((u :: rest).flatMap Tm.pre).length,
      fun σ' G' ⟨ps', stk', v3', e1, e2, e3, e4, e5, e6, e7⟩ => ⟨_, by omega, ps', stk', v3', e1, e2, e3, e4, e5, e6, rfl⟩, ?_⟩
    have er : (u :: rest).reverse.map (fun u => V.ref u.p) = rest.reverse.map (fun u => V.ref u.p) ++ [V.ref u.p] := by rw [List.reverse_cons, List.map_append]; rfl
    rw [er] at g2
    refine ⟨_, rfl, .inl ⟨rfl, _, SqL.of g2⟩, l2, _, V.ref u.p, rfl, rfl, g2, by simp, ?_⟩
    rw [List.dropLast_concat]
    have s4 := same_lst (ys := rest.reverse.map fun u => V.ref u.p) s3 n2
    have g3 : upd G l2 (.lst (rest.reverse.map fun u => V.ref u.p)) l2 = some (.lst (rest.reverse.map fun u => V.ref u.p)) := upd_same
    have g4 : upd G l2 (.lst (rest.reverse.map fun u => V.ref u.p)) l1 = some (.lst (ps.map fun u => V.ref u.p)) := by rw [upd_ne ne.symm]; exact g1
    generalize upd G l2 (.lst (rest.reverse.map fun u => V.ref u.p)) = G1 at s4 g3 g4 ⊢
    refine ⟨_, rfl, .inl ⟨rfl, _, SqL.of g4⟩, _, rfl, l1, _, _, rfl, rfl, g4, small1000 (by rw [List.length_map]; omega), ?_⟩
    have s5 := same_lst (ys := (ps ++ [u]).map fun u => V.ref u.p) s4 hl1
    have ea : (ps.map fun u => V.ref u.p) ++ [V.ref u.p] = (ps ++ [u]).map fun u => V.ref u.p := by rw [List.map_append]; rfl
    rw [ea]
    have g5 : upd G1 l1 (.lst ((ps ++ [u]).map fun u => V.ref u.p)) l1 = some (.lst ((ps ++ [u]).map fun u => V.ref u.p)) := upd_same
    have g6 : upd G1 l1 (.lst ((ps ++ [u]).map fun u => V.ref u.p)) l2 = some (.lst (rest.reverse.map fun u => V.ref u.p)) := by rw [upd_ne ne]; exact g3
    generalize upd G1 l1 (.lst ((ps ++ [u]).map fun u => V.ref u.p)) = G2 at s5 g5 g6 ⊢
    have hu5 := hu.ts (.of s5)
    refine ⟨_, rfl, u.p, _, _, .str u.w, rfl, rfl, SqT.of hu5.at, at0, rfl, _, rfl, ?_⟩
    cases u with
    | op p s a b =>
      refine iteP (decide_eq_true rfl) ?_
      refine ⟨_, rfl, .inl ⟨rfl, _, SqL.of g6⟩, _, rfl, p, _, _, .ref b.p, rfl, rfl, SqT.of hu5.1, rfl, _, rfl, p, _, _, .ref a.p, rfl, rfl, SqT.of hu5.1, rfl, by show 2 ≤ sizeLine; decide, fun l3 hl3 => ?_⟩
      have s6 := s5.trans (same_new hl3 (.lst [.ref b.p, .ref a.p]))
      have n31 : l1 ≠ l3 := ne_of_none g5 hl3
      have n32 : l2 ≠ l3 := ne_of_none g6 hl3
      have g7 : upd G2 l3 (.lst [.ref b.p, .ref a.p]) l3 = some (.lst [.ref b.p, .ref a.p]) := upd_same
      have g8 : upd G2 l3 (.lst [.ref b.p, .ref a.p]) l1 = _ := (upd_ne n31).trans g5
      have g9 : upd G2 l3 (.lst [.ref b.p, .ref a.p]) l2 = _ := (upd_ne n32).trans g6
      generalize upd G2 l3 (.lst [.ref b.p, .ref a.p]) = G3 at s6 g7 g8 g9 ⊢
      refine ⟨l2, l3, _, _, rfl, rfl, g9, g7, by rw [List.length_map, List.length_reverse]; have := small1000 (n := 1000) (Nat.le_refl _); show rest.length + 2 ≤ _; omega, ?_⟩
      have ez : (rest.reverse.map fun u => V.ref u.p) ++ [.ref b.p, .ref a.p] = (a :: b :: rest).reverse.map fun u => V.ref u.p := by simp
      rw [ez]
      refine ⟨ps ++ [.op p s a b], a :: b :: rest, _, rfl, same_lst s6 n2, (upd_ne ne.symm).trans g8, upd_same, ?_, fun x hx => ?_, ?_⟩
      · rw [← eq]
        simp [Tm.pre]
      · rcases List.mem_cons.mp hx with e | e
        · rw [e]; exact hu.2.1
        · rcases List.mem_cons.mp e with e | e
          · rw [e]; exact hu.2.2
          · exact hs x (List.mem_cons_of_mem _ e)
      · simp [Tm.pre] <;> omega
    | num p n =>
      refine iteN (fun z => wNum (of_decide_eq_true z)) ?_
      refine ⟨ps ++ [.num p n], rest, _, rfl, s5, g5, g6, ?_, fun x hx => hs x (List.mem_cons_of_mem _ hx), ?_⟩
      · rw [← eq]
        simp [Tm.pre]
      · simp [Tm.pre] <;> omega
    | nam p n =>
      refine iteN (fun z => wNam (of_decide_eq_true z)) ?_
      refine ⟨ps ++ [.nam p n], rest, _, rfl, s5, g5, g6, ?_, fun x hx => hs x (List.mem_cons_of_mem _ hx), ?_⟩
      · rw [← eq]
        simp [Tm.pre]
      · simp [Tm.pre] <;> omega
theorem nd_NmI1 : (["part"] : List Str).Nodup := by decide +kernel
theorem scNmI : FnScope ["term"] ["term"] (defScope sNmI) := ⟨rfl, rfl, rfl, by decide +kernel, rfl, by decide +kernel, by decide +kernel⟩
theorem ok_NmI {f : Addr} {fd : FuncData} (F : Fun K "names_in" "names_in" sNmI f fd)
    {f_Prt : Addr} {d_Prt : FuncData} (G_Prt : FnOk P w K mg base CX0 (1) f_Prt d_Prt ["term"] spParts) (b_Prt : Binds K d_Prt ["term"] []) (k_Prt : PySem.W.keepIn K (.ref f_Prt) = true) (m_Prt : mg "parts_of" = some (.ref f_Prt))
     :
    FnOk P w K mg base CX0 (2) f fd ["term"] spNamesIn := by
  refine F.ok scNmI (fun vs H Q E h => ?_) (fun cdv A outer s H vs Q E hr h => ?_)
  · obtain ⟨t, rfl, _⟩ := h
    rfl
  obtain ⟨t, rfl, ht, hz, k⟩ := h
  have hu := hu_of hr
  have hr1 : Room 1 _ := hr.mono (by decide)
  refine ⟨_, (pss_one (ps_ret (pe_comp ["part"] [none] (pi_list (pe_call G_Prt hr1 (by rfl) m_Prt k_Prt b_Prt .nil pass0 (pa_cons (pv 0) pa_nil))) (fun _ _ _ _ => (pg_name (i := 0) (nd_NmI1) rfl (Or.inl rfl))) (fun _ _ _ _ => (pf_one (pt_cmpR op_eq (pe_ix (ixtK K) (pv 0) pe_int (fun _ _ => rfl)) pe_str (nomark _)))) (fun _ _ _ _ => (pe_ix (ixtK K) (pv 0) pe_int (fun _ _ => rfl)))))), ?_⟩
  refine ⟨_, rfl, t, rfl, ht, hz, fun r H1 s1 _ h1 => ⟨r, rfl, ⟨_, SqL.of h1⟩, ?_⟩⟩
  have pl := Tm.pre_len t
  refine comp_list (K := K) (a := r) (xs := t.pre.map fun u => V.ref u.p) (fun i ys σ G => G = H1 ∧ (∃ v, σ = [v]) ∧ ys = ((t.pre.take i).filterMap Tm.nm).map V.str)
    (big4 (by rw [List.length_map]; omega)) ⟨rfl, ⟨_, rfl⟩, rfl⟩ (fun i ys σ G ⟨_, _, e⟩ => by
      rw [e, List.length_map]
      exact Nat.le_trans (List.length_filterMap_le _ _) (by rw [List.length_take]; omega)) (by rintro i ys σ G _ ⟨e, _⟩; rw [e]; exact SqL.of h1) ?_ ?_
  · rintro i v ys σ G hv ⟨rfl, ⟨v', rfl⟩, rfl⟩
    obtain ⟨u, hu, rfl⟩ : ∃ u, t.pre[i]? = some u ∧ v = V.ref u.p := by
      rw [List.getElem?_map] at hv
      cases e : t.pre[i]? with
      | none => rw [e] at hv; cases hv
      | some u => rw [e] at hv; exact ⟨u, rfl, (Option.some.inj hv).symm⟩
    have hU := (TmH.pre ht u (List.mem_of_getElem? hu)).ts (.of s1)
    refine ⟨_, rfl, u.p, _, _, .str u.w, rfl, rfl, SqT.of hU.at, at0, rfl, _, rfl, ?_⟩
    rw [take_snoc hu, List.filterMap_append, List.map_append]
    cases u with
    | nam p x => exact iteP (decide_eq_true rfl) ⟨_, rfl, p, _, _, .str x, rfl, rfl, SqT.of hU, rfl, rfl, ⟨_, rfl⟩, rfl⟩
    | num p n => exact iteN (fun z => wMN (of_decide_eq_true z)) ⟨rfl, ⟨_, rfl⟩, by rw [List.filterMap_cons_none (by rfl)]; simp⟩
    | op p s a b => exact iteN (fun z => wOM (of_decide_eq_true z)) ⟨rfl, ⟨_, rfl⟩, by rw [List.filterMap_cons_none (by rfl)]; simp⟩
  · rintro ys σ G ⟨rfl, _, rfl⟩ l hl
    rw [List.length_map, List.take_length, Tm.pre_names]
    exact k l _ (s1.trans (same_new hl _)) upd_same
theorem scSeN : FnScope ["row"] ["row"] (defScope sSeN) := ⟨rfl, rfl, rfl, by decide +kernel, rfl, by decide +kernel, by decide +kernel⟩
theorem ok_SeN {f : Addr} {fd : FuncData} (F : Fun K "sets_name" "sets_name" sSeN f fd)
    {cT : Addr} (m_THROWS : mg "THROWS" = some (.ref cT)) (hT : ∀ H, SqT K H cT (thrW.map V.str))
     :
    FnOk P w K mg base CX0 (1) f fd ["row"] spSetsN := by
  refine F.ok scSeN (fun vs H Q E h => ?_) (fun cdv A outer s H vs Q E hr h => ?_)
  · obtain ⟨r, rfl, _⟩ := h
    rfl
  obtain ⟨r, rfl, hr0, k⟩ := h
  have hu := hu_of hr
  refine ⟨_, (pss_one (ps_ret (pe_or (pe_cmpR op_in_seq (pe_ix ix_tup (pv 0) pe_int (fun _ _ => rfl)) (pe_glob (v := .ref cT) (by rfl) m_THROWS rfl) rfl) (pe_one (pe_cmpR op_eq (pe_ix ix_tup (pv 0) pe_int (fun _ _ => rfl)) pe_str (nomark _)))))), ?_⟩
  rw [← sets_thr (RwH.wd r hr0)] at k
  refine ⟨_, rfl, r.p, _, _, .str r.w, rfl, rfl, SqT.of hr0.at, at0, cT, _, rfl, .inr (hT _), rfl, flat_texts _, _, rfl, ?_⟩
  have ei : inV (V.str r.w) (thrW.map V.str) = decide (r.w ∈ thrW) := inV_strs _ _
  by_cases c : r.w ∈ thrW
  · refine iteP (ei.trans (decide_eq_true c)) ?_
    rw [decide_eq_true c] at k
    exact k
  · refine iteN (fun z => c (of_decide_eq_true (ei.symm.trans z))) ?_
    rw [decide_eq_false c, Bool.false_or] at k
    refine ⟨_, rfl, r.p, _, _, .str r.w, rfl, rfl, SqT.of hr0.at, at0, rfl, ?_⟩
    rw [show decide (V.str r.w = V.str "let") = decide (r.w = "let") from by simp]
    exact k
end
end Mine
namespace Mine
open PySem L2
section
variable {P : Program} {w : World} {K : PySem.W.Frag} {mg : Str → Option Value} {base : Heap}
theorem scAsk : FnScope ["row"] ["row"] (defScope sAsk) := ⟨rfl, rfl, rfl, by decide +kernel, rfl, by decide +kernel, by decide +kernel⟩
theorem ok_Ask {f : Addr} {fd : FuncData} (F : Fun K "names_asked" "names_asked" sAsk f fd)
    {f_NmI : Addr} {d_NmI : FuncData} (G_NmI : FnOk P w K mg base CX0 (2) f_NmI d_NmI ["term"] spNamesIn) (b_NmI : Binds K d_NmI ["term"] []) (k_NmI : PySem.W.keepIn K (.ref f_NmI) = true) (m_NmI : mg "names_in" = some (.ref f_NmI))
     :
    FnOk P w K mg base CX0 (3) f fd ["row"] spAsked := by
  refine F.ok scAsk (fun vs H Q E h => ?_) (fun cdv A outer s H vs Q E hr h => ?_)
  · obtain ⟨r, rfl, _⟩ := h
    rfl
  obtain ⟨r, rfl, hr0, k⟩ := h
  have hu := hu_of hr
  have hr1 : Room 1 _ := hr.mono (by decide)
  have hr2 : Room 2 _ := hr.mono (by decide)
  refine ⟨_, (pss_cons (ps_if (pt_cmpR op_eq (pe_ix ix_tup (pv 0) pe_int (fun _ _ => rfl)) pe_str (nomark _)) (pss_one (ps_ret (pe_call G_NmI hr2 (by rfl) m_NmI k_NmI b_NmI .nil pass0 (pa_cons (pe_ix ix_tup (pv 0) pe_int (fun _ _ => rfl)) pa_nil)))) pss_nil)
    (pss_cons (ps_if (pt_cmpR op_in_seq (pe_ix ix_tup (pv 0) pe_int (fun _ _ => rfl)) (pe_tup (pa_cons pe_str (pa_cons pe_str pa_nil))) rfl) (pss_one (ps_ret (pe_call G_NmI hr2 (by rfl) m_NmI k_NmI b_NmI .nil pass0 (pa_cons (pe_ix ix_tup (pv 0) pe_int (fun _ _ => rfl)) pa_nil)))) pss_nil)
    (pss_one (ps_ret (pe_lst pa_nil))))), ?_⟩
  refine ⟨_, rfl, r.p, _, _, .str r.w, rfl, rfl, SqT.of hr0.at, at0, rfl, _, rfl, ?_⟩
  generalize hP : r.p = P
  cases r with
  | lt p x t =>
    obtain rfl : p = P := hP
    refine iteP (decide_eq_true rfl) ?_
    refine ⟨_, rfl, p, _, _, .ref t.p, rfl, rfl, SqT.of hr0.1, rfl, t, rfl, hr0.2.1, by have := hr0.2.2.2; omega, fun q H' s h => k q H' s h⟩
  | tell p t =>
    obtain rfl : p = P := hP
    refine iteN (fun z => wTL (of_decide_eq_true z)) ?_
    refine ⟨_, rfl, p, _, _, .str "tell", rfl, rfl, SqT.of hr0.1, rfl, by show 2 ≤ sizeLine; decide, fun t2 ht2 => ?_⟩
    have s1 := same_new ht2 (.tup [.str "tell", .str "when"])
    refine ⟨t2, [.str "tell", .str "when"], rfl, .inr (SqT.of upd_same), rfl, by decide, _, rfl, ?_⟩
    refine iteP (by decide +kernel) ?_
    exact ⟨_, rfl, p, _, _, .ref t.p, rfl, rfl, SqT.of (s1 _ _ hr0.1), rfl, t, rfl, hr0.2.1.ts (.of s1), by have := hr0.2.2.2; omega, fun q H' s h => k q H' (s1.trans s) h⟩
  | when p pa pb t a b =>
    obtain rfl : p = P := hP
    refine iteN (fun z => wWL (of_decide_eq_true z)) ?_
    refine ⟨_, rfl, p, _, _, .str "when", rfl, rfl, SqT.of hr0.1, rfl, by show 2 ≤ sizeLine; decide, fun t2 ht2 => ?_⟩
    have s1 := same_new ht2 (.tup [.str "tell", .str "when"])
    refine ⟨t2, [.str "tell", .str "when"], rfl, .inr (SqT.of upd_same), rfl, by decide, _, rfl, ?_⟩
    refine iteP (by decide +kernel) ?_
    exact ⟨_, rfl, p, _, _, .ref t.p, rfl, rfl, SqT.of (s1 _ _ hr0.1), rfl, t, rfl, hr0.2.1.ts (.of s1), by have := hr0.2.2.1.2; omega, fun q H' s h => k q H' (s1.trans s) h⟩
  | times p pb n b =>
    obtain rfl : p = P := hP
    refine iteN (fun z => wML (of_decide_eq_true z)) ?_
    refine ⟨_, rfl, p, _, _, .str "times", rfl, rfl, SqT.of hr0.1, rfl, by show 2 ≤ sizeLine; decide, fun t2 ht2 => ?_⟩
    have s1 := same_new ht2 (.tup [.str "tell", .str "when"])
    refine ⟨t2, [.str "tell", .str "when"], rfl, .inr (SqT.of upd_same), rfl, by decide, _, rfl, ?_⟩
    refine iteN (by decide +kernel) ?_
    exact ⟨Nat.zero_le _, fun l hl => k l _ (s1.trans (same_new hl _)) upd_same⟩
  | thr p w x vs =>
    obtain rfl : p = P := hP
    have hw := hr0.2.w
    refine iteN (fun z => thrNe3 hw (of_decide_eq_true z)) ?_
    refine ⟨_, rfl, p, _, _, .str w, rfl, rfl, SqT.of hr0.1, at0, by show 2 ≤ sizeLine; decide, fun t2 ht2 => ?_⟩
    have s1 := same_new ht2 (.tup [.str "tell", .str "when"])
    refine ⟨t2, [.str "tell", .str "when"], rfl, .inr (SqT.of upd_same), rfl, by decide, _, rfl, ?_⟩
    refine iteN (thrNot hw) ?_
    exact ⟨Nat.zero_le _, fun l hl => k l _ (s1.trans (same_new hl _)) upd_same⟩
theorem nd_AsS1 : (["row"] : List Str).Nodup := by decide +kernel
theorem scAsS : FnScope ["rows"] ["rows"] (defScope sAsS) := ⟨rfl, rfl, rfl, by decide +kernel, rfl, by decide +kernel, by decide +kernel⟩
theorem ok_AsS {f : Addr} {fd : FuncData} (F : Fun K "as_steps" "as_steps" sAsS f fd)
     :
    FnOk P w K mg base CX0 (1) f fd ["rows"] spAsS := by
  refine F.ok scAsS (fun vs H Q E h => ?_) (fun cdv A outer s H vs Q E hr h => ?_)
  · obtain ⟨p, rs, rfl, _⟩ := h
    rfl
  obtain ⟨p, rs, rfl, hp, hl, k⟩ := h
  have hu := hu_of hr
  refine ⟨_, (pss_one (ps_ret (pe_comp ["row"] [none] (pi_tup (pv 0)) (fun _ _ _ _ => (pg_name (i := 0) (nd_AsS1) rfl (Or.inl rfl))) (fun _ _ _ _ => pf_nil) (fun _ _ _ _ => (pe_tup (pa_cons pe_str (pa_cons (pv 0) pa_nil))))))), ?_⟩
  refine ⟨_, rfl, p, rfl, ⟨_, SqT.of hp⟩, comp_tup (K := K) (a := p) (xs := refs rs) (fun i zs σ G => Same H G ∧ (∃ v, σ = [v]) ∧ Two (Stp2 G) zs ((rs.take i).map fun r => (("row" : Str), r)))
    (by rw [refs_len]; exact big4 (by omega)) ⟨Same.refl _, ⟨_, rfl⟩, trivial⟩ (by rintro i zs σ G ⟨_, _, e⟩; rw [e.length, List.length_map, List.length_take]; omega) (by rintro i zs σ G _ ⟨e, _⟩; exact SqT.of (e _ _ hp)) ?_ ?_⟩
  · rintro i v zs σ G hv ⟨s1, ⟨v', rfl⟩, tw⟩
    obtain ⟨r, rfl, hr'⟩ := refs_at hv
    refine ⟨_, rfl, by show 2 ≤ sizeLine; decide, fun t ht => ⟨s1.trans (same_new ht _), ⟨_, rfl⟩, ?_⟩⟩
    rw [take_snoc hr', List.map_append]
    exact Two.append (tw.mono fun _ _ z => Stp2.ts (.of (same_new ht _)) z) ⟨⟨t, rfl, upd_same⟩, trivial⟩
  · rintro zs σ G ⟨s1, _, tw⟩ l hl'
    rw [refs_len, List.take_length] at tw
    exact k l zs _ (s1.trans (same_new hl' _)) upd_same (tw.mono fun _ _ z => Stp2.ts (.of (same_new hl' _)) z)
theorem scInn : FnScope ["row"] ["row"] (defScope sInn) := ⟨rfl, rfl, rfl, by decide +kernel, rfl, by decide +kernel, by decide +kernel⟩
theorem ok_Inn {f : Addr} {fd : FuncData} (F : Fun K "inner_steps" "inner_steps" sInn f fd)
    {f_AsS : Addr} {d_AsS : FuncData} (G_AsS : FnOk P w K mg base CX0 (1) f_AsS d_AsS ["rows"] spAsS) (b_AsS : Binds K d_AsS ["rows"] []) (k_AsS : PySem.W.keepIn K (.ref f_AsS) = true) (m_AsS : mg "as_steps" = some (.ref f_AsS))
     :
    FnOk P w K mg base CX0 (2) f fd ["row"] spInner := by
  refine F.ok scInn (fun vs H Q E h => ?_) (fun cdv A outer s H vs Q E hr h => ?_)
  · obtain ⟨r, rfl, _⟩ := h
    rfl
  obtain ⟨r, rfl, hr0, hc, k⟩ := h
  have hu := hu_of hr
  have hr1 : Room 1 _ := hr.mono (by decide)
  refine ⟨_, (pss_cons (ps_if (pt_cmpR op_eq (pe_ix ix_tup (pv 0) pe_int (fun _ _ => rfl)) pe_str (nomark _)) (pss_one (ps_ret (pe_op op_cat (pe_op op_cat (pe_op op_cat (pe_call G_AsS hr1 (by rfl) m_AsS k_AsS b_AsS .nil pass0 (pa_cons (pe_ix ix_tup (pv 0) pe_int (fun _ _ => rfl)) pa_nil)) (pe_lst (pa_cons (pe_tup (pa_cons pe_str (pa_cons (pv 0) pa_nil))) pa_nil))) (pe_call G_AsS hr1 (by rfl) m_AsS k_AsS b_AsS .nil pass0 (pa_cons (pe_ix ix_tup (pv 0) pe_int (fun _ _ => rfl)) pa_nil))) (pe_lst (pa_cons (pe_tup (pa_cons pe_str (pa_cons (pv 0) pa_nil))) pa_nil))))) pss_nil)
    (pss_cons (ps_if (pt_cmpR op_eq (pe_ix ix_tup (pv 0) pe_int (fun _ _ => rfl)) pe_str (nomark _)) (pss_one (ps_ret (pe_op op_cat (pe_call G_AsS hr1 (by rfl) m_AsS k_AsS b_AsS .nil pass0 (pa_cons (pe_ix ix_tup (pv 0) pe_int (fun _ _ => rfl)) pa_nil)) (pe_lst (pa_cons (pe_tup (pa_cons pe_str (pa_cons (pv 0) pa_nil))) pa_nil))))) pss_nil)
    (pss_one (ps_ret (pe_lst pa_nil))))), ?_⟩
  refine ⟨_, rfl, r.p, _, _, .str r.w, rfl, rfl, SqT.of hr0.at, at0, rfl, _, rfl, ?_⟩
  have ln := len_cnt r.kids
  have ck := cnt_eq r
  generalize hP : r.p = P
  cases r with
  | when p pa pb t a b =>
    obtain rfl : p = P := hP
    refine iteP (decide_eq_true rfl) ?_
    have la : a.length + b.length ≤ 4000 := by simp only [Rw.kids, List.length_append] at ln ck; omega
    obtain ⟨hp, _, _, ha, hb, ra, rb⟩ := id hr0
    refine ⟨_, rfl, p, _, _, .ref pa, rfl, rfl, SqT.of hp, rfl, pa, a, rfl, ha, by omega, fun r1 z1 H1 s1 h1 t1 => ?_⟩
    refine ⟨_, rfl, by show 2 ≤ sizeLine; decide, fun t2 ht2 => ⟨by show 1 ≤ sizeLine; decide, fun l2 hl2 => ?_⟩⟩
    have s2 := (same_new ht2 (.tup [.str "else", .ref p])).trans (same_new hl2 (.lst [.ref t2]))
    have h2 : upd (upd H1 t2 (.tup [.str "else", .ref p])) l2 (.lst [.ref t2]) l2 = some (.lst [.ref t2]) := upd_same
    have e2 : Stp2 (upd (upd H1 t2 (.tup [.str "else", .ref p])) l2 (.lst [.ref t2])) (.ref t2) (("else" : Str), Rw.when p pa pb t a b) := ⟨t2, rfl, (same_new hl2 _) _ _ upd_same⟩
    generalize upd (upd H1 t2 (.tup [.str "else", .ref p])) l2 (.lst [.ref t2]) = H2 at s2 h2 e2 ⊢
    have l1 := t1.length
    rw [List.length_map] at l1
    refine ⟨r1, l2, _, _, rfl, rfl, s2 _ _ h1, h2, Nat.le_of_lt (big4 (by rw [l1]; show a.length + 1 ≤ 9000000; omega)), fun l3 hl3 => ?_⟩
    have s3 := s2.trans (same_new hl3 (.lst (z1 ++ [.ref t2])))
    have h3 : upd H2 l3 (.lst (z1 ++ [.ref t2])) l3 = some (.lst (z1 ++ [.ref t2])) := upd_same
    have t3 : Two (Stp2 (upd H2 l3 (.lst (z1 ++ [.ref t2])))) (z1 ++ [.ref t2]) (a.map (fun r => (("row" : Str), r)) ++ [(("else" : Str), Rw.when p pa pb t a b)]) := Two.append (t1.mono fun _ _ z => Stp2.ts (.of s3) z) ⟨e2.ts (.of (same_new hl3 _)), trivial⟩
    generalize upd H2 l3 (.lst (z1 ++ [.ref t2])) = H3 at s3 h3 t3 ⊢
    have g3 := s1.trans s3
    refine ⟨_, rfl, p, _, _, .ref pb, rfl, rfl, SqT.of (g3 _ _ hp), rfl, pb, b, rfl, g3 _ _ hb, by omega, fun r4 z4 H4 s4 h4 t4 => ?_⟩
    have l4 := t4.length
    rw [List.length_map] at l4
    refine ⟨l3, r4, _, _, rfl, rfl, s4 _ _ h3, h4, Nat.le_of_lt (big4 (by simp only [List.length_append, List.length_cons, List.length_nil, l1, l4]; omega)), fun l5 hl5 => ?_⟩
    have s5 := s4.trans (same_new hl5 (.lst (z1 ++ [.ref t2] ++ z4)))
    have h5 : upd H4 l5 (.lst (z1 ++ [.ref t2] ++ z4)) l5 = some (.lst (z1 ++ [.ref t2] ++ z4)) := upd_same
    have t5 := Two.append (t3.mono fun _ _ z => Stp2.ts (.of s5) z) (t4.mono fun _ _ z => Stp2.ts (.of (same_new hl5 (.lst (z1 ++ [.ref t2] ++ z4)))) z)
    generalize upd H4 l5 (.lst (z1 ++ [.ref t2] ++ z4)) = H5 at s5 h5 t5 ⊢
    refine ⟨_, rfl, by show 2 ≤ sizeLine; decide, fun t6 ht6 => ⟨by show 1 ≤ sizeLine; decide, fun l6 hl6 => ?_⟩⟩
    have s6 := (same_new ht6 (.tup [.str "end", .ref p])).trans (same_new hl6 (.lst [.ref t6]))
    have h6 : upd (upd H5 t6 (.tup [.str "end", .ref p])) l6 (.lst [.ref t6]) l6 = some (.lst [.ref t6]) := upd_same
    have e6 : Stp2 (upd (upd H5 t6 (.tup [.str "end", .ref p])) l6 (.lst [.ref t6])) (.ref t6) (("end" : Str), Rw.when p pa pb t a b) := ⟨t6, rfl, (same_new hl6 _) _ _ upd_same⟩
    generalize upd (upd H5 t6 (.tup [.str "end", .ref p])) l6 (.lst [.ref t6]) = H6 at s6 h6 e6 ⊢
    refine ⟨l5, l6, _, _, rfl, rfl, s6 _ _ h5, h6, Nat.le_of_lt (big4 (by simp only [List.length_append, List.length_cons, List.length_nil]; omega)), fun l7 hl7 => ?_⟩
    refine k l7 _ _ (g3.trans (s5.trans (s6.trans (same_new hl7 _)))) upd_same ?_
    exact Two.append (t5.mono fun _ _ z => Stp2.ts (.of (s6.trans (same_new hl7 _))) z) ⟨e6.ts (.of (same_new hl7 _)), trivial⟩
  | times p pb n b =>
    obtain rfl : p = P := hP
    refine iteN (fun z => wTW (of_decide_eq_true z)) ?_
    refine ⟨_, rfl, p, _, _, .str "times", rfl, rfl, SqT.of hr0.at, at0, rfl, _, rfl, ?_⟩
    refine iteP (decide_eq_true rfl) ?_
    have la : b.length ≤ 4000 := by simp only [Rw.kids] at ln ck; omega
    obtain ⟨hp, hb, rb⟩ := id hr0
    refine ⟨_, rfl, p, _, _, .ref pb, rfl, rfl, SqT.of hp, rfl, pb, b, rfl, hb, by omega, fun r1 z1 H1 s1 h1 t1 => ?_⟩
    refine ⟨_, rfl, by show 2 ≤ sizeLine; decide, fun t2 ht2 => ⟨by show 1 ≤ sizeLine; decide, fun l2 hl2 => ?_⟩⟩
    have s2 := (same_new ht2 (.tup [.str "end", .ref p])).trans (same_new hl2 (.lst [.ref t2]))
    have h2 : upd (upd H1 t2 (.tup [.str "end", .ref p])) l2 (.lst [.ref t2]) l2 = some (.lst [.ref t2]) := upd_same
    have e2 : Stp2 (upd (upd H1 t2 (.tup [.str "end", .ref p])) l2 (.lst [.ref t2])) (.ref t2) (("end" : Str), Rw.times p pb n b) := ⟨t2, rfl, (same_new hl2 _) _ _ upd_same⟩
    generalize upd (upd H1 t2 (.tup [.str "end", .ref p])) l2 (.lst [.ref t2]) = H2 at s2 h2 e2 ⊢
    have l1 := t1.length
    rw [List.length_map] at l1
    refine ⟨r1, l2, _, _, rfl, rfl, s2 _ _ h1, h2, Nat.le_of_lt (big4 (by rw [l1]; show b.length + 1 ≤ 9000000; omega)), fun l3 hl3 => ?_⟩
    refine k l3 _ _ (s1.trans (s2.trans (same_new hl3 _))) upd_same ?_
    exact Two.append (t1.mono fun _ _ z => Stp2.ts (.of (s2.trans (same_new hl3 _))) z) ⟨e2.ts (.of (same_new hl3 _)), trivial⟩
  | thr p w x vs =>
    obtain rfl : p = P := hP
    have hw := hr0.2.w
    refine iteN (fun z => thrNe1 hw (of_decide_eq_true z)) ?_
    refine ⟨_, rfl, p, _, _, .str w, rfl, rfl, SqT.of hr0.at, at0, rfl, _, rfl, ?_⟩
    refine iteN (fun z => thrNe2 hw (of_decide_eq_true z)) ?_
    exact ⟨Nat.zero_le _, fun l hl => k l [] _ (same_new hl _) upd_same trivial⟩
  | lt p x t =>
    obtain rfl : p = P := hP
    refine iteN (fun z => wLW (of_decide_eq_true z)) ?_
    refine ⟨_, rfl, p, _, _, .str "let", rfl, rfl, SqT.of hr0.at, at0, rfl, _, rfl, ?_⟩
    refine iteN (fun z => wLT (of_decide_eq_true z)) ?_
    exact ⟨Nat.zero_le _, fun l hl => k l [] _ (same_new hl _) upd_same trivial⟩
  | tell p t =>
    obtain rfl : p = P := hP
    refine iteN (fun z => wEW (of_decide_eq_true z)) ?_
    refine ⟨_, rfl, p, _, _, .str "tell", rfl, rfl, SqT.of hr0.at, at0, rfl, _, rfl, ?_⟩
    refine iteN (fun z => wET (of_decide_eq_true z)) ?_
    exact ⟨Nat.zero_le _, fun l hl => k l [] _ (same_new hl _) upd_same trivial⟩
end
end Mine
namespace Mine
open PySem L2
section
variable {P : Program} {w : World} {K : PySem.W.Frag} {mg : Str → Option Value} {base : Heap}
theorem nd_Sts1 : (["step"] : List Str).Nodup := by decide +kernel
theorem nd_Sts2 : (["inner", "count"] : List Str).Nodup := by decide +kernel
theorem scSts : FnScope ["rows", "steps", "count", "waiting", "step", "row"] ["rows"] (defScope sSts) := ⟨rfl, rfl, rfl, by decide +kernel, rfl, by decide +kernel, by decide +kernel⟩
theorem ok_Sts {f : Addr} {fd : FuncData} (F : Fun K "steps_of" "steps_of" sSts f fd)
    {f_AsS : Addr} {d_AsS : FuncData} (G_AsS : FnOk P w K mg base CX0 (1) f_AsS d_AsS ["rows"] spAsS) (b_AsS : Binds K d_AsS ["rows"] []) (k_AsS : PySem.W.keepIn K (.ref f_AsS) = true) (m_AsS : mg "as_steps" = some (.ref f_AsS))
    {f_Inn : Addr} {d_Inn : FuncData} (G_Inn : FnOk P w K mg base CX0 (2) f_Inn d_Inn ["row"] spInner) (b_Inn : Binds K d_Inn ["row"] []) (k_Inn : PySem.W.keepIn K (.ref f_Inn) = true) (m_Inn : mg "inner_steps" = some (.ref f_Inn))
    (m_reversed : mg "reversed" = none) :
    FnOk P w K mg base CX0 (3) f fd ["rows"] spSteps := by
  refine F.ok scSts (fun vs H Q E h => ?_) (fun cdv A outer s H vs Q E hr h => ?_)
  · obtain ⟨p, rs, rfl, _⟩ := h
    rfl
  obtain ⟨p, rs, rfl, hp, hR, hc, k⟩ := h
  have hu := hu_of hr
  have hr1 : Room 1 _ := hr.mono (by decide)
  have hr2 : Room 2 _ := hr.mono (by decide)
  refine ⟨_, (pss_cons (ps_set (i := 1) scSts.nd rfl (Or.inl rfl) (pe_lst pa_nil))
    (pss_cons (ps_set (i := 2) scSts.nd rfl (Or.inr rfl) pe_int)
    (pss_cons (ps_setC ["step"] [none] (i := 3) scSts.nd rfl (Or.inl rfl) (pi_rev (pe_call G_AsS hr1 (by rfl) m_AsS k_AsS b_AsS .nil pass0 (pa_cons (pv 0) pa_nil)) (by rfl) m_reversed) (fun _ _ _ _ => (pg_name (i := 0) (nd_Sts1) rfl (Or.inl rfl))) (fun _ _ _ _ => pf_nil) (fun _ _ _ _ => (pe_tup (pa_cons (pe_ix (ixtK K) (pv 0) pe_int (fun _ _ => rfl)) (pa_cons (pe_ix (ixtK K) (pv 0) pe_int (fun _ _ => rfl)) (pa_cons (pe_un un_neg pe_int) pa_nil))))))
    (pss_cons (ps_while PassesOwn.never (pt_truth (pv 3) (fun _ => rfl))
    (pss_cons (ps_set (i := 4) scSts.nd rfl (Or.inl rfl) (pe_bm0 PySem.F.plainAttrs_list PySem.F.slot_list_pop PySem.F.type_list_pop mt_pop (pv 3)))
    (pss_one (ps_if (pt_cmpR op_eq (pe_ix ix_tup (pv 4) pe_int (fun _ _ => rfl)) pe_str (nomark _)) (pss_cons (ps_set (i := 5) scSts.nd rfl (Or.inl rfl) (pe_ix ix_tup (pv 4) pe_int (fun _ _ => rfl)))
    (pss_cons (ps_expr (pe_bm PySem.F.plainAttrs_list PySem.F.slot_list_append PySem.F.type_list_append mt_append (pv 1) (pa_cons (pe_tup (pa_cons pe_str (pa_cons (pv 5) (pa_cons (pv 2) pa_nil)))) pa_nil)))
    (pss_cons (ps_expr (pe_bm PySem.F.plainAttrs_list PySem.F.slot_list_extend PySem.F.type_list_extend mt_extend (pv 3) (pa_cons (pe_comp ["inner", "count"] [none, some 2] (pi_rev (pe_call G_Inn hr2 (by rfl) m_Inn k_Inn b_Inn .nil pass0 (pa_cons (pv 5) pa_nil)) (by rfl) m_reversed) (fun _ _ _ _ => (pg_name (i := 0) (nd_Sts2) rfl (Or.inl rfl))) (fun _ _ _ _ => pf_nil) (fun _ _ _ _ => (pe_tup (pa_cons (pe_ix (ixtK K) (pv 0) pe_int (fun _ _ => rfl)) (pa_cons (pe_ix (ixtK K) (pv 0) pe_int (fun _ _ => rfl)) (pa_cons (pv 1) pa_nil)))))) pa_nil)))
    (pss_one (ps_aug (i := 2) scSts.nd rfl (Or.inr rfl) pe_int ip_add))))) (pss_one (ps_expr (pe_bm PySem.F.plainAttrs_list PySem.F.slot_list_append PySem.F.type_list_append mt_append (pv 1) (pa_cons (pv 4) pa_nil))))))))
    (pss_one (ps_ret (pv 1))))))), ?_⟩
  have rl := len_cnt rs
  have tl := stpsL_len rs
  refine ⟨Nat.zero_le _, fun l1 hl1 => ?_⟩
  have s1 := same_new hl1 (.lst [])
  have h1 : upd H l1 (.lst []) l1 = some (.lst []) := upd_same
  generalize upd H l1 (.lst []) = H1 at s1 h1 ⊢
  refine ⟨_, rfl, p, rs, rfl, s1 _ _ hp, by omega, fun r z H2 s2 h2 t2 => ⟨r, _, rfl, SqL.of h2, ?_⟩⟩
  have zl := t2.length
  rw [List.length_map] at zl
  have t2r := two_rev t2
  refine comp_rev (K := K) (a := r) (xs := z) (fun i ys σ G => Same H2 G ∧ (∃ v, σ = [v]) ∧ Two (Stp3 G) ys (((rs.map fun r => (("row" : Str), r)).reverse).take i))
    (big4 (by omega)) ⟨Same.refl _, ⟨_, rfl⟩, trivial⟩ (by rintro i ys σ G ⟨_, _, e⟩; rw [e.length, List.length_take]; omega) (by rintro i ys σ G _ ⟨e, _⟩; exact SqL.of (e _ _ h2)) ?_ ?_
  · rintro i v ys σ G hv ⟨s3, ⟨v', rfl⟩, tw⟩
    obtain ⟨s, hs, q, rfl, hq⟩ := twoAt t2r hv
    refine ⟨_, rfl, q, _, _, .str s.1, rfl, rfl, SqT.of (s3 _ _ hq), rfl, _, rfl, q, _, _, .ref s.2.p, rfl, rfl, SqT.of (s3 _ _ hq), rfl, _, rfl, by show 3 ≤ sizeLine; decide, fun t ht => ⟨s3.trans (same_new ht _), ⟨_, rfl⟩, ?_⟩⟩
    rw [take_snoc hs]
    exact Two.append (tw.mono fun _ _ z => Stp3.ts (.of (same_new ht _)) z) ⟨⟨t, _, rfl, upd_same⟩, trivial⟩
  rintro ys σ G ⟨s3, _, tw⟩ lw hlw
  have el : z.length = ((rs.map fun r => (("row" : Str), r)).reverse).length := by rw [List.length_reverse, List.length_map]; exact zl
  rw [el, List.take_length] at tw
  have s4 := s1.trans (s2.trans (s3.trans (same_new hlw (.lst ys))))
  have h4 : upd G lw (.lst ys) lw = some (.lst ys) := upd_same
  have ne : lw ≠ l1 := (ne_of_none ((s2.trans s3) _ _ h1) hlw).symm
  have g1 : upd G lw (.lst ys) l1 = some (.lst []) := (upd_ne ne.symm).trans ((s2.trans s3) _ _ h1)
  have nw : H lw = none := (s1.trans (s2.trans s3)).free hlw
  replace tw := tw.mono fun _ _ z => Stp3.ts (.of (same_new hlw (.lst ys))) z
  generalize upd G lw (.lst ys) = H4 at s4 h4 g1 tw ⊢
  refine ⟨fun m σ G => ∃ (em stk : List Stp) (ez wz : List V) (n : Int) (v4 v5 : Option V), σ = [some (.ref p), some (.ref l1), some (.int n), some (.ref lw), v4, v5] ∧ Same H G ∧ G l1 = some (.lst ez) ∧ Two (Stp3 G) ez em ∧ G lw = some (.lst wz) ∧ Two (Stp3 G) wz stk.reverse ∧ em ++ stk.flatMap expd = stpsL rs ∧ (∀ s ∈ stk, RwH H s.2 ∧ s.2.cnt ≤ 4000) ∧ m = (stk.flatMap expd).length,
    ⟨_, [], rs.map fun r => (("row" : Str), r), [], ys, 0, none, none, rfl, s4, g1, trivial, h4, tw, expd_rows rs, fun s hs => by
      obtain ⟨r0, m0, e0⟩ := List.mem_map.mp hs
      rw [← e0]
      have := cnt_mem m0
      exact ⟨hR.mem _ m0, by show r0.cnt ≤ 4000; omega⟩, rfl⟩, ?_⟩
  clear tw h4 g1
  rintro m σ G ⟨em, stk, ez, wz, n, v4, v5, rfl, s5, g1, t5, g2, t6, eq, hs, rfl⟩
  refine ⟨_, rfl, _, .inl ⟨_, SqL.of g2, rfl⟩, ?_⟩
  have lt := congrArg List.length eq
  rw [List.length_append] at lt
  have ls := exp_ge stk
  have l5 := t5.length
  have l6 := t6.length
  rw [List.length_reverse] at l6
  cases stk with
  | nil =>
    obtain rfl : wz = [] := List.length_eq_zero_iff.mp l6
    refine iteN (by simp) ?_
    rw [List.flatMap_nil, List.append_nil] at eq
    rw [eq] at t5
    exact ⟨_, rfl, k l1 ez G s5 hl1 g1 t5⟩
  | cons s rest =>
    rw [List.reverse_cons] at t6
    obtain ⟨us, u, rfl, t7, q, n0, rfl, hq⟩ := two_snoc t6
    refine iteP (by simp) ?_
    have hS := hs s List.mem_cons_self
    have sp := exp_pos s
    rw [List.flatMap_cons, List.length_append] at lt ls
    rw [List.length_cons] at ls l6
    rw [List.length_append, List.length_cons, List.length_nil] at l6
    refine ⟨fun σ' G' => ∃ (em' stk' : List Stp) (ez' wz' : List V) (n : Int) (v4 v5 : Option V), σ' = [some (.ref p), some (.ref l1), some (.int n), some (.ref lw), v4, v5] ∧ Same H G' ∧ G' l1 = some (.lst ez') ∧ Two (Stp3 G') ez' em' ∧ G' lw = some (.lst wz') ∧ Two (Stp3 G') wz' stk'.reverse ∧ em' ++ stk'.flatMap expd = stpsL rs ∧ (∀ s ∈ stk', RwH H s.2 ∧ s.2.cnt ≤ 4000) ∧ (stk'.flatMap expd).length + 1 = ((s :: rest).flatMap expd).length,
      fun σ' G' ⟨em', stk', ez', wz', n', v4', v5', e1, e2, e3, e4, e5, e6, e7, e8, e9⟩ => ⟨_, by omega, em', stk', ez', wz', n', v4', v5', e1, e2, e3, e4, e5, e6, e7, e8, rfl⟩, ?_⟩
    refine ⟨_, rfl, .inl ⟨rfl, _, SqL.of g2⟩, lw, _, V.ref q, rfl, rfl, g2, by simp, ?_⟩
    rw [List.dropLast_concat]
    have ts6 := TS.lst (ys := us) g2
    have s6 := same_lst (ys := us) s5 nw
    have g3 : upd G lw (.lst us) lw = some (.lst us) := upd_same
    have g4 : upd G lw (.lst us) l1 = some (.lst ez) := (upd_ne ne.symm).trans g1
    have hq6 := ts6 _ _ hq
    replace t5 := t5.mono fun _ _ z => Stp3.ts ts6 z
    replace t7 := t7.mono fun _ _ z => Stp3.ts ts6 z
    generalize upd G lw (.lst us) = G1 at s6 g3 g4 hq6 t5 t7 ⊢
    refine ⟨_, rfl, q, _, _, .str s.1, rfl, rfl, SqT.of hq6, rfl, rfl, _, rfl, ?_⟩
    by_cases c : s.1 = "row"
    · refine iteP (by rw [c]; exact decide_eq_true rfl) ?_
      obtain ⟨s1', r0⟩ := s
      have c : s1' = "row" := c
      subst c
      have ex : expd (("row" : Str), r0) = (("row" : Str), r0) :: (inner r0).flatMap expd := (show expd (("row" : Str), r0) = stps r0 from if_pos rfl).trans (stps_eq r0)
      refine ⟨_, rfl, q, _, _, .ref r0.p, rfl, rfl, SqT.of hq6, rfl, ?_⟩
      refine ⟨_, rfl, .inl ⟨rfl, _, SqL.of g4⟩, _, rfl, _, rfl, by show 3 ≤ sizeLine; decide, fun t ht => ?_⟩
      have s7 := s6.trans (same_new ht (.tup [.str "row", .ref r0.p, .int n]))
      have nt1 : l1 ≠ t := ne_of_none g4 ht
      have nt2 : lw ≠ t := ne_of_none g3 ht
      have g5 : upd G1 t (.tup [.str "row", .ref r0.p, .int n]) l1 = _ := (upd_ne nt1).trans g4
      have g6 : upd G1 t (.tup [.str "row", .ref r0.p, .int n]) lw = _ := (upd_ne nt2).trans g3
      have et : Stp3 (upd G1 t (.tup [.str "row", .ref r0.p, .int n])) (.ref t) (("row" : Str), r0) := ⟨t, n, rfl, upd_same⟩
      replace t5 := t5.mono fun _ _ z => Stp3.ts (.of (same_new ht (.tup [.str "row", .ref r0.p, .int n]))) z
      replace t7 := t7.mono fun _ _ z => Stp3.ts (.of (same_new ht (.tup [.str "row", .ref r0.p, .int n]))) z
      generalize upd G1 t (.tup [.str "row", .ref r0.p, .int n]) = G2 at s7 g5 g6 et t5 t7 ⊢
      refine ⟨l1, _, _, rfl, rfl, g5, big4 (by omega), ?_⟩
      have ts8 := TS.lst (ys := ez ++ [.ref t]) g5
      have s8 := same_lst (ys := ez ++ [.ref t]) s7 hl1
      have g7 : upd G2 l1 (.lst (ez ++ [.ref t])) l1 = some (.lst (ez ++ [.ref t])) := upd_same
      have g8 : upd G2 l1 (.lst (ez ++ [.ref t])) lw = some (.lst us) := (upd_ne ne).trans g6
      have t8 := Two.append (t5.mono fun _ _ z => Stp3.ts ts8 z) (show Two (Stp3 (upd G2 l1 (.lst (ez ++ [.ref t])))) [.ref t] [(("row" : Str), r0)] from ⟨et.ts ts8, trivial⟩)
      replace t7 := t7.mono fun _ _ z => Stp3.ts ts8 z
      generalize upd G2 l1 (.lst (ez ++ [.ref t])) = G3 at s8 g7 g8 t8 t7 ⊢
      refine ⟨_, rfl, .inl ⟨rfl, _, SqL.of g8⟩, _, rfl, r0, rfl, RwH.ts (.of s8) r0 hS.1, hS.2, fun qi zi H9 s9 h9 t9 => ⟨qi, _, rfl, SqL.of h9, ?_⟩⟩
      have t9r := two_rev t9
      have zl9 := t9.length
      have li := exp_ge (inner r0)
      rw [ex, List.length_cons] at lt ls sp
      refine comp_rev (K := K) (a := qi) (xs := zi) (fun i ys σ G => Same H9 G ∧ (∃ v, σ = [v, some (.int n)]) ∧ Two (Stp3 G) ys ((inner r0).reverse.take i))
        (big4 (by omega)) ⟨Same.refl _, ⟨_, rfl⟩, trivial⟩ (by rintro i ys σ G ⟨_, _, e⟩; rw [e.length, List.length_take]; omega) (by rintro i ys σ G _ ⟨e, _⟩; exact SqL.of (e _ _ h9)) ?_ ?_
      · rintro i v ys σ G hv ⟨s3, ⟨v', rfl⟩, tw⟩
        obtain ⟨s, hs, q, rfl, hq⟩ := twoAt t9r hv
        refine ⟨_, rfl, q, _, _, .str s.1, rfl, rfl, SqT.of (s3 _ _ hq), rfl, _, rfl, q, _, _, .ref s.2.p, rfl, rfl, SqT.of (s3 _ _ hq), rfl, _, rfl, by show 3 ≤ sizeLine; decide, fun t ht => ⟨s3.trans (same_new ht _), ⟨_, rfl⟩, ?_⟩⟩
        rw [take_snoc hs]
        exact Two.append (tw.mono fun _ _ z => Stp3.ts (.of (same_new ht _)) z) ⟨⟨t, _, rfl, upd_same⟩, trivial⟩
      rintro ys σ G5 ⟨s10, _, tw⟩ l10 hl10
      have el : zi.length = (inner r0).reverse.length := by rw [List.length_reverse]; exact zl9
      rw [el, List.take_length] at tw
      have s11 := s9.trans (s10.trans (same_new hl10 (.lst ys)))
      have h11 : upd G5 l10 (.lst ys) l10 = some (.lst ys) := upd_same
      have n10 : lw ≠ l10 := ne_of_none ((s9.trans s10) _ _ g8) hl10
      replace tw := tw.mono fun _ _ z => Stp3.ts (.of (same_new hl10 (.lst ys))) z
      generalize upd G5 l10 (.lst ys) = G6 at s11 h11 tw ⊢
      have yl := tw.length
      rw [List.length_reverse] at yl
      refine ⟨lw, l10, _, _, rfl, rfl, s11 _ _ g8, h11, Nat.le_of_lt (big4 (by omega)), ?_⟩
      have ts12 := (TS.of s11).trans (TS.lst (ys := us ++ ys) (s11 _ _ g8))
      refine ⟨_, rfl, _, _, rfl, rfl, em ++ [(("row" : Str), r0)], inner r0 ++ rest, _, _, _, _, _, rfl, same_lst (s8.trans s11) nw, (upd_ne ne.symm).trans (s11 _ _ g7), t8.mono fun _ _ z => Stp3.ts ts12 z, upd_same, ?_, ?_, fun s hs' => ?_, ?_⟩
      · rw [List.reverse_append]
        exact Two.append (t7.mono fun _ _ z => Stp3.ts ts12 z) (tw.mono fun _ _ z => Stp3.ts (TS.lst (s11 _ _ g8)) z)
      · rw [← eq, List.flatMap_cons, ex, List.flatMap_append]
        simp
      · rcases List.mem_append.mp hs' with e | e
        · exact inner_ok hS.1 hS.2 e
        · exact hs s (List.mem_cons_of_mem _ e)
      · rw [List.flatMap_cons, ex, List.flatMap_append]
        simp <;> omega
    · refine iteN (fun z => c (by have z := of_decide_eq_true z; injection z)) ?_
      have ex : expd s = [s] := if_neg c
      refine ⟨_, rfl, .inl ⟨rfl, _, SqL.of g4⟩, _, rfl, l1, _, _, rfl, rfl, g4, big4 (by omega), ?_⟩
      have ts8 := TS.lst (ys := ez ++ [.ref q]) g4
      refine ⟨em ++ [s], rest, _, _, _, _, _, rfl, same_lst s6 hl1, upd_same, Two.append (t5.mono fun _ _ z => Stp3.ts ts8 z) ⟨⟨q, n0, rfl, ts8 _ _ hq6⟩, trivial⟩, (upd_ne ne).trans g3, t7.mono fun _ _ z => Stp3.ts ts8 z, ?_, fun s hs' => hs s (List.mem_cons_of_mem _ hs'), ?_⟩
      · rw [← eq, List.flatMap_cons, ex]
        simp
      · rw [List.flatMap_cons, ex]
        simp <;> omega
end
end Mine
namespace Mine
open PySem L2
section
variable {P : Program} {w : World} {K : PySem.W.Frag} {mg : Str → Option Value} {base : Heap}
theorem scBgn : FnScope ["word", "row"] ["word", "row"] (defScope sBgn) := ⟨rfl, rfl, rfl, by decide +kernel, rfl, by decide +kernel, by decide +kernel⟩
theorem ok_Bgn {f : Addr} {fd : FuncData} (F : Fun K "begins_rows" "begins_rows" sBgn f fd)
     :
    FnOk P w K mg base CX0 (1) f fd ["word", "row"] spBegins := by
  refine F.ok scBgn (fun vs H Q E h => ?_) (fun cdv A outer s H vs Q E hr h => ?_)
  · obtain ⟨s, rfl, _⟩ := h
    rfl
  obtain ⟨s, rfl, hr0, k⟩ := h
  have hu := hu_of hr
  refine ⟨_, (pss_one (ps_ret (pe_or (pe_cmpR op_eq (pv 0) pe_str (nomark _)) (pe_one (pe_and (pe_cmpR op_eq (pv 0) pe_str (nomark _)) (pe_one (pe_cmpR op_in_seq (pe_ix ix_tup (pv 1) pe_int (fun _ _ => rfl)) (pe_tup (pa_cons pe_str (pa_cons pe_str pa_nil))) rfl))))))), ?_⟩
  refine ⟨_, rfl, rfl, _, rfl, ?_⟩
  unfold opens at k
  by_cases c : s.1 = "else"
  · rw [decide_eq_true c, Bool.true_or] at k
    exact iteP (by rw [c]; exact decide_eq_true rfl) (k _ (Same.refl _))
  refine iteN (fun z => c (by have z := of_decide_eq_true z; injection z)) ?_
  rw [decide_eq_false c, Bool.false_or] at k
  refine ⟨_, rfl, rfl, _, rfl, ?_⟩
  by_cases c2 : s.1 = "row"
  · rw [decide_eq_true c2, Bool.true_and] at k
    refine iteP (by rw [c2]; exact decide_eq_true rfl) ?_
    refine ⟨_, rfl, s.2.p, _, _, .str s.2.w, rfl, rfl, SqT.of hr0.at, at0, by show 2 ≤ sizeLine; decide, fun t2 ht2 => ?_⟩
    refine ⟨t2, (["when", "times"] : List Str).map V.str, rfl, .inr (SqT.of upd_same), rfl, flat_texts _, ?_⟩
    rw [inV_strs]
    exact k _ (same_new ht2 _)
  · rw [decide_eq_false c2, Bool.false_and] at k
    exact iteN (fun z => c2 (by have z := of_decide_eq_true z; injection z)) (k _ (Same.refl _))
theorem scFiA : FnScope ["row", "mark", "steepness", "low", "high"] ["row"] (defScope sFiA) := ⟨rfl, rfl, rfl, by decide +kernel, rfl, by decide +kernel, by decide +kernel⟩
theorem ok_FiA {f : Addr} {fd : FuncData} (F : Fun K "first_is_amiss" "first_is_amiss" sFiA f fd)
     :
    FnOk P w K mg base CX0 (1) f fd ["row"] spFirstA := by
  refine F.ok scFiA (fun vs H Q E h => ?_) (fun cdv A outer s H vs Q E hr h => ?_)
  · obtain ⟨p, x, us, rfl, _⟩ := h
    rfl
  obtain ⟨p, x, us, rfl, hp, ok, k⟩ := h
  have hu := hu_of hr
  refine ⟨_, (pss_cons (ps_set (i := 1) scFiA.nd rfl (Or.inl rfl) (pe_ix ix_tup (pv 0) pe_int (fun _ _ => rfl)))
    (pss_cons (ps_set (i := 2) scFiA.nd rfl (Or.inl rfl) (pe_ix ix_tup (pv 0) pe_int (fun _ _ => rfl)))
    (pss_cons (ps_set (i := 3) scFiA.nd rfl (Or.inl rfl) (pe_ix ix_tup (pv 0) pe_int (fun _ _ => rfl)))
    (pss_cons (ps_set (i := 4) scFiA.nd rfl (Or.inl rfl) (pe_ix ix_tup (pv 0) pe_int (fun _ _ => rfl)))
    (pss_one (ps_ret (pe_or (pe_cmpR op_le (pv 4) (pv 3) (nomark _)) (pe_or (pe_not (pe_chain op_le op_le (pv 3) (pv 1) (pv 4))) (pe_one (pe_cmpR op_gt (pe_op op_mul pe_int (pe_ix ix_tup (pv 2) pe_int (fun _ _ => rfl))) (pe_ix ix_tup (pv 2) pe_int (fun _ _ => rfl)) (nomark _))))))))))), ?_⟩
  rcases ok with ⟨m, _⟩ | ⟨_, mark, a, q, c, lo, hi, y, z, rfl, hq, h1, h2, h3, h4⟩
  · exact absurd m (by decide +kernel)
  refine ⟨_, rfl, p, _, _, .int mark, rfl, rfl, SqT.of hp, rfl, ?_⟩
  refine ⟨_, rfl, p, _, _, .ref q, rfl, rfl, SqT.of hp, rfl, ?_⟩
  refine ⟨_, rfl, p, _, _, .int lo, rfl, rfl, SqT.of hp, rfl, ?_⟩
  refine ⟨_, rfl, p, _, _, .int hi, rfl, rfl, SqT.of hp, rfl, ?_⟩
  refine ⟨_, rfl, _, rfl, _, _, rfl, rfl, _, rfl, iteN (by simp only [decide_eq_true_eq]; omega) ?_⟩
  refine ⟨_, rfl, _, rfl, _, _, rfl, rfl, _, rfl, iteP (decide_eq_true h3) ⟨_, rfl, _, _, rfl, rfl, _, rfl, _, rfl, ?_⟩⟩
  refine iteN (by rw [decide_eq_true h4]; decide) ?_
  refine ⟨_, rfl, q, _, _, .int y, rfl, rfl, SqT.of hq, rfl, _, _, rfl, rfl, .inl ⟨by decide, by decide⟩, _, rfl, q, _, _, .int z, rfl, rfl, SqT.of hq, rfl, _, _, rfl, rfl, ?_⟩
  show Q (.bl (decide (z < 2 * y))) H
  rw [decide_eq_false (by omega)]
  exact k
theorem scRnA : FnScope ["row"] ["row"] (defScope sRnA) := ⟨rfl, rfl, rfl, by decide +kernel, rfl, by decide +kernel, by decide +kernel⟩
theorem ok_RnA {f : Addr} {fd : FuncData} (F : Fun K "range_is_amiss" "range_is_amiss" sRnA f fd)
    {cT : Addr} (m_THROWS : mg "THROWS" = some (.ref cT)) (hT : ∀ H, SqT K H cT (thrW.map V.str))
    {f_FiA : Addr} {d_FiA : FuncData} (G_FiA : FnOk P w K mg base CX0 (1) f_FiA d_FiA ["row"] spFirstA) (b_FiA : Binds K d_FiA ["row"] []) (k_FiA : PySem.W.keepIn K (.ref f_FiA) = true) (m_FiA : mg "first_is_amiss" = some (.ref f_FiA))
     :
    FnOk P w K mg base CX0 (2) f fd ["row"] spRangeA := by
  refine F.ok scRnA (fun vs H Q E h => ?_) (fun cdv A outer s H vs Q E hr h => ?_)
  · obtain ⟨r, rfl, _⟩ := h
    rfl
  obtain ⟨r, rfl, hr0, k⟩ := h
  have hu := hu_of hr
  have hr1 : Room 1 _ := hr.mono (by decide)
  refine ⟨_, (pss_cons (ps_if (pt_cmpR op_eq (pe_ix ix_tup (pv 0) pe_int (fun _ _ => rfl)) pe_str (nomark _)) (pss_one (ps_ret (pe_call G_FiA hr1 (by rfl) m_FiA k_FiA b_FiA .nil pass0 (pa_cons (pv 0) pa_nil)))) pss_nil)
    (pss_one (ps_ret (pe_and (pe_cmpR op_in_seq (pe_ix ix_tup (pv 0) pe_int (fun _ _ => rfl)) (pe_glob (v := .ref cT) (by rfl) m_THROWS rfl) rfl) (pe_one (pe_cmpR op_gt (pe_ix ix_tup (pv 0) pe_int (fun _ _ => rfl)) (pe_ix ix_tup (pv 0) pe_int (fun _ _ => rfl)) (nomark _))))))), ?_⟩
  refine ⟨_, rfl, r.p, _, _, .str r.w, rfl, rfl, SqT.of hr0.at, at0, rfl, _, rfl, ?_⟩
  by_cases cf : r.w = "first"
  · refine iteP (by rw [cf]; exact decide_eq_true rfl) ?_
    obtain ⟨p, w, x, vs, rfl⟩ : ∃ p w x vs, r = .thr p w x vs := by
      cases r with
      | thr p w x vs => exact ⟨p, w, x, vs, rfl⟩
      | lt p x t => exact absurd cf (by show ¬ (("let" : Str) = "first"); decide +kernel)
      | tell p t => exact absurd cf (by show ¬ (("tell" : Str) = "first"); decide +kernel)
      | when p pa pb t a b => exact absurd cf (by show ¬ (("when" : Str) = "first"); decide +kernel)
      | times p pb n b => exact absurd cf (by show ¬ (("times" : Str) = "first"); decide +kernel)
    have cf : w = "first" := cf
    subst cf
    exact ⟨_, rfl, p, x, vs, rfl, hr0.1, hr0.2, k⟩
  refine iteN (fun z => cf (by have z := of_decide_eq_true z; injection z)) ?_
  refine ⟨_, rfl, r.p, _, _, .str r.w, rfl, rfl, SqT.of hr0.at, at0, cT, _, rfl, .inr (hT _), rfl, flat_texts _, _, rfl, ?_⟩
  have ei : inV (V.str r.w) (thrW.map V.str) = decide (r.w ∈ thrW) := inV_strs _ _
  by_cases c : r.w ∈ thrW
  · refine iteP (ei.trans (decide_eq_true c)) ?_
    generalize hP : r.p = P
    cases r with
    | thr p w x vs =>
      obtain rfl : p = P := hP
      rcases hr0.2 with ⟨_, a, b, lo, hi, rfl, h1⟩ | ⟨z, _⟩
      · refine ⟨_, rfl, p, _, _, .int lo, rfl, rfl, SqT.of hr0.1, rfl, _, rfl, p, _, _, .int hi, rfl, rfl, SqT.of hr0.1, rfl, _, _, rfl, rfl, ?_⟩
        show Q (.bl (decide (hi < lo))) H
        rw [decide_eq_false (by omega)]
        exact k
      · exact absurd z cf
    | lt p x t => exact absurd (show ("let" : Str) ∈ thrW from c) (by decide +kernel)
    | tell p t => exact absurd (show ("tell" : Str) ∈ thrW from c) (by decide +kernel)
    | when p pa pb t a b => exact absurd (show ("when" : Str) ∈ thrW from c) (by decide +kernel)
    | times p pb n b => exact absurd (show ("times" : Str) ∈ thrW from c) (by decide +kernel)
  · exact iteN (fun z => c (of_decide_eq_true (ei.symm.trans z))) k
theorem nd_RnF1 : (["word", "row", "number"] : List Str).Nodup := by decide +kernel
theorem scRnF : FnScope ["steps"] ["steps"] (defScope sRnF) := ⟨rfl, rfl, rfl, by decide +kernel, rfl, by decide +kernel, by decide +kernel⟩
theorem ok_RnF {f : Addr} {fd : FuncData} (F : Fun K "range_faults" "range_faults" sRnF f fd)
    {f_RnA : Addr} {d_RnA : FuncData} (G_RnA : FnOk P w K mg base CX0 (2) f_RnA d_RnA ["row"] spRangeA) (b_RnA : Binds K d_RnA ["row"] []) (k_RnA : PySem.W.keepIn K (.ref f_RnA) = true) (m_RnA : mg "range_is_amiss" = some (.ref f_RnA))
     :
    FnOk P w K mg base CX0 (3) f fd ["steps"] spRangeF := by
  refine F.ok scRnF (fun vs H Q E h => ?_) (fun cdv A outer s H vs Q E hr h => ?_)
  · obtain ⟨ls, zs, rs, rfl, _⟩ := h
    rfl
  obtain ⟨ls, zs, rs, rfl, SH, k⟩ := h
  have hu := hu_of hr
  have hr1 : Room 1 _ := hr.mono (by decide)
  have hr2 : Room 2 _ := hr.mono (by decide)
  refine ⟨_, (pss_one (ps_ret (pe_comp ["word", "row", "number"] [none, none, none] (pi_list (pv 0)) (fun _ _ _ _ => (pgtK K (n := 3) rfl (pgs_cons (pg_name (i := 0) (nd_RnF1) rfl (Or.inl rfl)) (pgs_cons (pg_name (i := 1) (nd_RnF1) rfl (Or.inl rfl)) (pgs_cons (pg_name (i := 2) (nd_RnF1) rfl (Or.inl rfl)) pgs_nil))))) (fun _ _ _ _ => (pf_one (PW.pt (pw_and (pt_cmpR op_eq (pv 0) pe_str (nomark _)) (pw_and1 (pt_val (pe_call G_RnA hr2 (by rfl) m_RnA k_RnA b_RnA .nil pass0 (pa_cons (pv 1) pa_nil)))))))) (fun _ _ _ _ => (pe_tup (pa_cons (pv 2) (pa_cons pe_int (pa_cons pe_str pa_nil)))))))), ?_⟩
  obtain ⟨h1, t1, hR, hc⟩ := SH
  have zl := t1.length
  have tl := stpsL_len rs
  refine ⟨_, rfl, ls, rfl, ⟨_, SqL.of h1⟩, comp_list (K := K) (a := ls) (xs := zs) (fun i ys σ G => G = H ∧ (∃ v1 v2 v3, σ = [v1, v2, v3]) ∧ ys = [])
    (big4 (by omega)) ⟨rfl, ⟨_, _, _, rfl⟩, rfl⟩ (by rintro i ys σ G ⟨_, _, e⟩; rw [e]; exact Nat.zero_le _) (by rintro i ys σ G _ ⟨e, _⟩; rw [e]; exact SqL.of h1) ?_ ?_⟩
  · rintro i v ys σ G hv ⟨rfl, ⟨v1, v2, v3, rfl⟩, rfl⟩
    obtain ⟨s, hs, q, n, rfl, hq⟩ := twoAt t1 hv
    have hrs := stpsL_mem rs hR s (List.mem_of_getElem? hs)
    refine ⟨q, _, rfl, SqT.of hq, rfl, _, _, rfl, _, _, rfl, _, _, rfl, rfl, ?_⟩
    refine ⟨_, rfl, rfl, _, rfl, ?_⟩
    refine ite2 (fun _ => ⟨_, rfl, s.2, rfl, hrs, _, rfl, iteN (by decide) ⟨rfl, ⟨_, _, _, rfl⟩, rfl⟩⟩) (fun _ => iteN (by decide) ⟨rfl, ⟨_, _, _, rfl⟩, rfl⟩)
  · rintro ys σ G ⟨rfl, _, rfl⟩ l hl
    exact k l _ (same_new hl _) upd_same
end
end Mine
namespace Mine
open PySem L2
section
variable {P : Program} {w : World} {K : PySem.W.Frag} {mg : Str → Option Value} {base : Heap}
theorem scBth : FnScope ["one", "other", "both", "name"] ["one", "other"] (defScope sBth) := ⟨rfl, rfl, rfl, by decide +kernel, rfl, by decide +kernel, by decide +kernel⟩
theorem ok_Bth {f : Addr} {fd : FuncData} (F : Fun K "in_both" "in_both" sBth f fd)
     :
    FnOk P w K mg base CX0 (1) f fd ["one", "other"] spBoth := by
  refine F.ok scBth (fun vs H Q E h => ?_) (fun cdv A outer s H vs Q E hr h => ?_)
  · obtain ⟨a, b, ka, kb, n, m, rfl, _⟩ := h
    rfl
  obtain ⟨a, b, ka, kb, n, m, rfl, nab, Da, Db, hn, k⟩ := h
  have hu := hu_of hr
  refine ⟨_, (pss_cons (ps_set (i := 2) scBth.nd rfl (Or.inl rfl) pe_dnewK)
    (pss_cons (ps_for PassesOwn.never rfl (pi_dict (pv 0)) (pg_name (i := 3) scBth.nd rfl (Or.inl rfl))
    (pss_one (ps_if (pt_cmp (pc_din hu (pv 3) (pv 1))) (pss_one (ps_dput hu (pv 2) (pv 3) pe_bl rfl)) pss_nil)))
    (pss_one (ps_ret (pv 2))))), ?_⟩
  refine fun d hd => ?_
  have s1 := same_new hd (.dK [])
  have D1 : Dk (upd H d (.dK [])) d [] 0 := Dk.new upd_same
  obtain ⟨kvs, ha, r1, r2, r3⟩ := Da.ex
  have nda : a ≠ d := ne_of_none ha hd
  have ha1 := s1 _ _ ha
  have Db1 := Db.at (s1 b)
  generalize upd H d (.dK []) = H1 at s1 D1 ha1 Db1 ⊢
  refine ⟨_, rfl, a, kvs, rfl, ha1, fun o => ?_⟩
  have f2 : ∀ c u, H c = some u → c ≠ a → upd H1 a (.frz o (.dK kvs)) c = some u := fun c u e nc => (upd_ne nc).trans (s1 _ _ e)
  have D2 : Dk (upd H1 a (.frz o (.dK kvs))) d [] 0 := D1.at fun u e => (upd_ne nda.symm).trans e
  have Db2 : Dk (upd H1 a (.frz o (.dK kvs))) b kb m := Db1.at fun u e => (upd_ne nab.symm).trans e
  have ha2 : upd H1 a (.frz o (.dK kvs)) a = some (.frz o (.dK kvs)) := upd_same
  generalize upd H1 a (.frz o (.dK kvs)) = H2 at f2 D2 Db2 ha2 ⊢
  have ndb : d ≠ b := by
    obtain ⟨q, e, _⟩ := Db.ex
    exact (ne_of_none e hd).symm
  refine for_dictA (d := a) (o := o) (kvs := kvs) (fun i σ G => ∃ v3, σ = [some (.ref a), some (.ref b), some (.ref d), v3] ∧ (∀ c u, H c = some u → c ≠ a → G c = some u) ∧ Dk G d ((nsOf (kvs.take i)).filter fun x => decide (x ∈ kb)) i ∧ Dk G b kb m ∧ G a = some (.frz o (.dK kvs)))
    ⟨_, rfl, f2, D2, Db2, ha2⟩ (by rintro i σ G _ ⟨_, _, _, _, _, e⟩; exact e) ?_ ?_
  · rintro D' i ky v σ G hv ⟨v3, rfl, f3, D3, Db3, ha3⟩
    have hi := (List.getElem?_eq_some_iff.mp hv).1
    obtain ⟨x, hx⟩ := r2 _ (List.mem_of_getElem? hv)
    have hx : ky = Sum.inr x := hx
    subst hx
    have en : nsOf (kvs.take (i + 1)) = nsOf (kvs.take i) ++ [x] := by unfold nsOf; rw [take_snoc hv, List.filterMap_append]; rfl
    obtain ⟨ov, g1, g2⟩ := Db3.get x
    refine ⟨_, rfl, _, rfl, b, ov, rfl, g1, _, rfl, ?_⟩
    rw [g2, en, List.filter_append]
    by_cases c : x ∈ kb
    · refine iteP (decide_eq_true c) ?_
      obtain ⟨ob, p1, p2, qq, rfl⟩ := D3.put (by omega) x (.bl true)
      refine ⟨_, rfl, _, rfl, d, _, rfl, p1, _, rfl, fun c u e nc => ?_, ?_, Db3.at fun u e => (upd_ne ndb.symm).trans e, (upd_ne nda).trans ha3⟩
      · rw [upd_ne (ne_of_none e hd)]; exact f3 c u e nc
      · rw [List.filter_cons_of_pos (p := fun x => decide (x ∈ kb)) (decide_eq_true c)]
        exact p2
    · refine iteN (by simpa using c) ⟨_, rfl, f3, ?_, Db3, ha3⟩
      rw [List.filter_cons_of_neg (p := fun x => decide (x ∈ kb)) (by simpa using c)]
      simpa using D3.more (Nat.le_succ i)
  · rintro σ G ⟨v3, rfl, f3, D3, Db3, ha3⟩
    refine ⟨_, rfl, k d G f3 hd ((D3.ext fun x => ?_).more r3)⟩
    rw [List.take_length, List.mem_filter, List.mem_filter, mem_nsOf, r1 x]
theorem scLkk : FnScope ["kinds"] ["kinds"] (defScope sLkk) := ⟨rfl, rfl, rfl, by decide +kernel, rfl, by decide +kernel, by decide +kernel⟩
theorem ok_Lkk {f : Addr} {fd : FuncData} (F : Fun K "look_at_kinds" "look_at_kinds" sLkk f fd)
    {tM : Tok} (m_MOST_KINDS : mg "MOST_KINDS" = some (.int 3 tM))
    (m_len : mg "len" = none) (m_set : mg "set" = none) :
    FnOk P w K mg base CX0 (2) f fd ["kinds"] spKinds := by
  refine F.ok scLkk (fun vs H Q E h => ?_) (fun cdv A outer s H vs Q E hr h => ?_)
  · obtain ⟨p, ks, rfl, _⟩ := h
    rfl
  obtain ⟨p, ks, rfl, hp, k1, k3, nd, k⟩ := h
  have hu := hu_of hr
  have hr1 : Room 1 _ := hr.mono (by decide)
  refine ⟨_, (pss_cons (ps_if (pt_not (pt_chain op_le op_le pe_int (pe_callB call_len_seq (by rfl) m_len PySem.boot_len (pa_cons (pv 0) pa_nil)) (pe_glob (v := .int 3) (by rfl) m_MOST_KINDS ⟨_, rfl⟩))) pss_never pss_nil)
    (pss_one (ps_if (pt_cmpR op_lt (pe_callB (call_lenS P w) (by rfl) m_len PySem.boot_len (pa_cons (pe_callTy (call_setK P w hr1) (by rfl) m_set PyProof.Rows.boot_set (pa_cons (pv 0) pa_nil)) pa_nil)) (pe_callB call_len_seq (by rfl) m_len PySem.boot_len (pa_cons (pv 0) pa_nil)) (nomark _)) pss_never pss_nil))), ?_⟩
  refine ⟨_, rfl, p, _, rfl, .inr (SqT.of hp), _, _, rfl, rfl, _, rfl, iteP (by rw [List.length_map]; simp only [decide_eq_true_eq]; omega) ⟨_, _, rfl, rfl, _, rfl, iteN (by rw [List.length_map, decide_eq_true (by omega)]; decide) ?_⟩⟩
  have em : ks.map V.str = (ks.map fun x => (Sum.inr x : Key)).map kV := by rw [List.map_map]; rfl
  refine ⟨_, rfl, p, ks.map (fun x => (Sum.inr x : Key)), rfl, by rw [← em]; exact SqT.of hp, by rw [List.length_map]; omega, fun a ha => ?_⟩
  have s1 := same_new ha (setAt P w a (ks.map fun x => (Sum.inr x : Key)))
  refine ⟨a, _, rfl, upd_same, _, rfl, p, _, rfl, .inr (SqT.of (s1 _ _ hp)), _, _, rfl, rfl, _, rfl, iteN ?_ (k _ s1)⟩
  rw [dd_nodup (nodup_keys nd), List.length_map, List.length_map]
  simp
theorem nd_Lok1 : (["step"] : List Str).Nodup := by decide +kernel
theorem scLok : FnScope ["program", "steps", "faults", "fault"] ["program"] (defScope sLok) := ⟨rfl, rfl, rfl, by decide +kernel, rfl, by decide +kernel, by decide +kernel⟩
theorem ok_Lok {f : Addr} {fd : FuncData} (F : Fun K "look" "look" sLok f fd)
    {f_Lkk : Addr} {d_Lkk : FuncData} (G_Lkk : FnOk P w K mg base CX0 (2) f_Lkk d_Lkk ["kinds"] spKinds) (b_Lkk : Binds K d_Lkk ["kinds"] []) (k_Lkk : PySem.W.keepIn K (.ref f_Lkk) = true) (m_Lkk : mg "look_at_kinds" = some (.ref f_Lkk))
    {f_Sts : Addr} {d_Sts : FuncData} (G_Sts : FnOk P w K mg base CX0 (3) f_Sts d_Sts ["rows"] spSteps) (b_Sts : Binds K d_Sts ["rows"] []) (k_Sts : PySem.W.keepIn K (.ref f_Sts) = true) (m_Sts : mg "steps_of" = some (.ref f_Sts))
    {f_TlF : Addr} {d_TlF : FuncData} (G_TlF : FnOk P w K mg base CX0 (4) f_TlF d_TlF ["steps"] spTelF) (b_TlF : Binds K d_TlF ["steps"] []) (k_TlF : PySem.W.keepIn K (.ref f_TlF) = true) (m_TlF : mg "tells_faults" = some (.ref f_TlF))
    {f_RnF : Addr} {d_RnF : FuncData} (G_RnF : FnOk P w K mg base CX0 (3) f_RnF d_RnF ["steps"] spRangeF) (b_RnF : Binds K d_RnF ["steps"] []) (k_RnF : PySem.W.keepIn K (.ref f_RnF) = true) (m_RnF : mg "range_faults" = some (.ref f_RnF))
    {f_UnF : Addr} {d_UnF : FuncData} (G_UnF : FnOk P w K mg base CX0 (4) f_UnF d_UnF ["steps"] spUnkF) (b_UnF : Binds K d_UnF ["steps"] []) (k_UnF : PySem.W.keepIn K (.ref f_UnF) = true) (m_UnF : mg "unknown_faults" = some (.ref f_UnF))
    (m_min : mg "min" = none) (m_any : mg "any" = none) :
    FnOk P w K mg base CX0 (5) f fd ["program"] spLook := by
  refine F.ok scLok (fun vs H Q E h => ?_) (fun cdv A outer s H vs Q E hr h => ?_)
  · obtain ⟨p, ks, rs, k2, tells, rfl, _⟩ := h
    rfl
  obtain ⟨p, ks, rs, k2, tells, rfl, P0, k⟩ := h
  have hu := hu_of hr
  have hr1 : Room 1 _ := hr.mono (by decide)
  have hr2 : Room 2 _ := hr.mono (by decide)
  have hr3 : Room 3 _ := hr.mono (by decide)
  have hr4 : Room 4 _ := hr.mono (by decide)
  refine ⟨_, (pss_cons (ps_expr (pe_call G_Lkk hr2 (by rfl) m_Lkk k_Lkk b_Lkk .nil pass0 (pa_cons (pe_ix ix_tup (pv 0) pe_int (fun _ _ => rfl)) pa_nil)))
    (pss_cons (ps_set (i := 1) scLok.nd rfl (Or.inl rfl) (pe_call G_Sts hr3 (by rfl) m_Sts k_Sts b_Sts .nil pass0 (pa_cons (pe_ix ix_tup (pv 0) pe_int (fun _ _ => rfl)) pa_nil)))
    (pss_cons (ps_set (i := 2) scLok.nd rfl (Or.inl rfl) (pe_op op_cat (pe_op op_cat (pe_call G_RnF hr3 (by rfl) m_RnF k_RnF b_RnF .nil pass0 (pa_cons (pv 1) pa_nil)) (pe_call G_UnF hr4 (by rfl) m_UnF k_UnF b_UnF .nil pass0 (pa_cons (pv 1) pa_nil))) (pe_call G_TlF hr4 (by rfl) m_TlF k_TlF b_TlF .nil pass0 (pa_cons (pv 1) pa_nil))))
    (pss_cons (ps_if (pt_truth (pv 2) (fun _ => rfl)) pss_never pss_nil)
    (pss_cons (ps_if (pt_not (pt_val (pe_callB call_any (by rfl) m_any PyProof.Rows.boot_any (pa_cons (pe_comp ["step"] [none] (pi_list (pv 1)) (fun _ _ _ _ => (pg_name (i := 0) (nd_Lok1) rfl (Or.inl rfl))) (fun _ _ _ _ => pf_nil) (fun _ _ _ _ => (pe_cmpR op_eq (pe_ix (ixtK K) (pe_ix (ixtK K) (pv 0) pe_int (fun _ _ => rfl)) pe_int (fun _ _ => rfl)) pe_str (nomark _)))) pa_nil)))) pss_never pss_nil)
    (pss_one (ps_ret pe_bl))))))), ?_⟩
  obtain ⟨pk, pr, hp, hk, hpr⟩ := P0.ex
  have tl := stpsL_len rs
  have c0 := P0.cnt
  refine ⟨_, rfl, p, _, _, .ref pk, rfl, rfl, SqT.of hp, rfl, pk, ks, rfl, hk, P0.k1, P0.k3, P0.nd, fun H1 s1 => ?_⟩
  refine ⟨_, rfl, p, _, _, .ref pr, rfl, rfl, SqT.of (s1 _ _ hp), rfl, pr, rs, rfl, s1 _ _ hpr, RwsH.ts (.of s1) rs P0.rows, P0.cnt, fun ls zs H2 s2 _ h2 t2 => ?_⟩
  have SH : StepsH H2 ls zs rs := ⟨h2, t2, RwsH.ts (.of (s1.trans s2)) rs P0.rows, P0.cnt⟩
  have zl := t2.length
  refine ⟨_, rfl, ls, zs, rs, rfl, SH, fun r3 H3 s3 h3 => ?_⟩
  refine ⟨_, rfl, ls, zs, rs, k2, rfl, SH.same s3, P0.sc, fun r4 H4 s4 h4 => ⟨r3, r4, _, _, rfl, rfl, s4 _ _ h3, h4, Nat.zero_le _, fun l5 hl5 => ?_⟩⟩
  have s5 := s4.trans (same_new hl5 (.lst ([] ++ [])))
  have h5 : upd H4 l5 (.lst ([] ++ [])) l5 = some (.lst []) := upd_same
  generalize upd H4 l5 (.lst ([] ++ [])) = H5 at s5 h5 ⊢
  refine ⟨_, rfl, ls, zs, rs, rfl, (SH.same s3).same s5, P0.tk, fun r6 H6 s6 h6 => ⟨l5, r6, _, _, rfl, rfl, s6 _ _ h5, h6, Nat.zero_le _, fun l7 hl7 => ?_⟩⟩
  have s7 := s3.trans (s5.trans (s6.trans (same_new hl7 (.lst ([] ++ [])))))
  have h7 : upd H6 l7 (.lst ([] ++ [])) l7 = some (.lst []) := upd_same
  generalize upd H6 l7 (.lst ([] ++ [])) = H7 at s7 h7 ⊢
  refine ⟨_, rfl, _, .inl ⟨_, SqL.of h7, rfl⟩, iteN (by decide) ?_⟩
  obtain ⟨h8, t8, hR8, _⟩ := SH.same s7
  refine ⟨_, rfl, ls, rfl, ⟨_, SqL.of h8⟩, comp_list (K := K) (a := ls) (xs := zs) (fun i ys σ G => G = H7 ∧ (∃ v, σ = [v]) ∧ ys = (((stpsL rs).take i).map fun s : Stp => decide (s.2.w = "tell")).map V.bl)
    (big4 (by omega)) ⟨rfl, ⟨_, rfl⟩, rfl⟩ (by rintro i ys σ G ⟨_, _, e⟩; rw [e, List.length_map, List.length_map, List.length_take]; omega) (by rintro i ys σ G _ ⟨e, _⟩; rw [e]; exact SqL.of h8) ?_ ?_⟩
  · rintro i v ys σ G hv ⟨rfl, ⟨v', rfl⟩, rfl⟩
    obtain ⟨s, hs, q, n, rfl, hq⟩ := twoAt t8 hv
    have hrs := stpsL_mem rs hR8 s (List.mem_of_getElem? hs)
    refine ⟨_, rfl, q, _, _, .ref s.2.p, rfl, rfl, SqT.of hq, rfl, s.2.p, _, _, .str s.2.w, rfl, rfl, SqT.of hrs.at, at0, rfl, rfl, ⟨_, rfl⟩, ?_⟩
    rw [take_snoc hs, List.map_append, List.map_append]
    rw [show decide (V.str s.2.w = V.str "tell") = decide (s.2.w = "tell") from by simp]
    rfl
  rintro ys σ G ⟨rfl, _, rfl⟩ l9 hl9
  rw [zl, List.take_length]
  refine ⟨l9, _, rfl, SqL.of upd_same, _, rfl, ?_⟩
  refine iteN ?_ (k _ (s1.trans (s2.trans (s7.trans (same_new hl9 _)))))
  obtain ⟨s, ms, es⟩ := some_tell (rs := rs) (by rw [P0.tl]; exact P0.t1)
  have : (((stpsL rs).map fun s : Stp => decide (s.2.w = "tell")).any id) = true := by
    rw [List.any_map, List.any_eq_true]
    exact ⟨s, ms, decide_eq_true es⟩
  rw [this]
  decide
end
end Mine
namespace Mine
open PySem L2
section
variable {P : Program} {w : World} {K : PySem.W.Frag} {mg : Str → Option Value} {base : Heap}
theorem nd_Nms1 : (["_law_k", "_law_letters", "_law_deal_here"] : List Str).Nodup := by decide +kernel
theorem scNms : FnScope ["_law_deal_here", "_law_many", "_law_letters", "_law_core", "_law_at", "_law_turn", "_law_found", "_law_k", "_law_word"] ["_law_deal_here", "_law_many"] (defScope sNms) := ⟨rfl, rfl, rfl, by decide +kernel, rfl, by decide +kernel, by decide +kernel⟩
theorem ok_Nms {f : Addr} {fd : FuncData} (F : Fun K "_law_names" "_law_names" sNms f fd)
    {f_Draw : Addr} {d_Draw : FuncData} (G_Draw : FnOk P w K mg base CX0 (1) f_Draw d_Draw ["_law_deal_here", "_law_many"] spDraw) (b_Draw : Binds K d_Draw ["_law_deal_here", "_law_many"] []) (k_Draw : PySem.W.keepIn K (.ref f_Draw) = true) (m_Draw : mg "_law_draw" = some (.ref f_Draw))
    (m_range : mg "range" = none) (m_len : mg "len" = none) :
    FnOk P w K mg base CX0 (2) f fd ["_law_deal_here", "_law_many"] spNames := by
  refine F.ok scNms (fun vs H Q E h => ?_) (fun cdv A outer s H vs Q E hr h => ?_)
  · obtain ⟨d, l, m, rfl, _⟩ := h
    rfl
  obtain ⟨d, l, m, rfl, D, m0, m9, k⟩ := h
  have hu := hu_of hr
  have hr1 : Room 1 _ := hr.mono (by decide)
  refine ⟨_, (@pss_cons _ _ _ _ _ (ps_set (i := 2) scNms.nd rfl (Or.inr rfl) pe_str)
    (@pss_cons _ _ _ _ _ (ps_set (i := 3) scNms.nd rfl (Or.inl rfl) (pe_bm PySem.F.plainAttrs_str PySem.F.slot_str_join PySem.F.type_str_join mt_join pe_str (pa_cons (pe_comp ["_law_k", "_law_letters", "_law_deal_here"] [none, some 2, some 0] (pi_range1 (by rfl) m_range (pa_cons (pe_call G_Draw hr1 (by rfl) m_Draw k_Draw b_Draw .nil pass0 (pa_cons (pv 0) (pa_cons pe_int pa_nil))) pa_nil)) (fun _ _ _ _ => (pg_name (i := 0) (nd_Nms1) rfl (Or.inl rfl))) (fun _ _ _ _ => pf_nil) (fun _ _ _ _ => (pe_ix ix_str (pv 1) (pe_call G_Draw hr1 (by rfl) m_Draw k_Draw b_Draw .nil pass0 (pa_cons (pv 2) (pa_cons pe_int pa_nil))) (fun _ _ => rfl)))) pa_nil)))
    (@pss_cons _ _ _ _ _ (ps_set (i := 4) scNms.nd rfl (Or.inl rfl) (pe_call G_Draw hr1 (by rfl) m_Draw k_Draw b_Draw .nil pass0 (pa_cons (pv 0) (pa_cons (pe_op op_add (pe_callB call_len_str (by rfl) m_len PySem.boot_len (pa_cons (pv 3) pa_nil)) pe_int) pa_nil))))
    (@pss_cons _ _ _ _ _ (ps_set (i := 5) scNms.nd rfl (Or.inl rfl) (pe_call G_Draw hr1 (by rfl) m_Draw k_Draw b_Draw .nil pass0 (pa_cons (pv 0) (pa_cons pe_int pa_nil))))
    (@pss_cons _ _ _ _ _ (ps_set (i := 6) scNms.nd rfl (Or.inl rfl) (pe_lst pa_nil))
    (@pss_cons _ _ _ _ _ (ps_for PassesOwn.never rfl (pi_range1 (by rfl) m_range (pa_cons (pv 1) pa_nil)) (pg_name (i := 7) scNms.nd rfl (Or.inl rfl))
    (@pss_cons _ _ _ _ _ (ps_set (i := 8) scNms.nd rfl (Or.inl rfl) (pe_op op_add_str (pe_op op_add_str (pe_slice sl_str (pv 3) po_none (po_some (pv 4))) (pe_ix ix_str (pv 2) (pe_op op_mod (pe_op op_add (pv 5) (pe_op op_mul pe_int (pv 7))) pe_int) (fun _ _ => rfl))) (pe_slice sl_str (pv 3) (po_some (pv 4)) po_none)))
    (@pss_cons _ _ _ _ _ (ps_post (ps_if (pt_cmpR op_in_seq (pv 8) (@pe_tup _ _ _ _ _ (@pa_cons _ _ _ _ _ pe_str (@pa_cons _ _ _ _ _ pe_str (@pa_cons _ _ _ _ _ pe_str (@pa_cons _ _ _ _ _ pe_str (@pa_cons _ _ _ _ _ pe_str (@pa_cons _ _ _ _ _ pe_str (@pa_cons _ _ _ _ _ pe_str (@pa_cons _ _ _ _ _ pe_str (@pa_cons _ _ _ _ _ pe_str (@pa_cons _ _ _ _ _ pe_str (@pa_cons _ _ _ _ _ pe_str (@pa_cons _ _ _ _ _ pe_str pa_nil rfl) rfl) rfl) rfl) rfl) rfl) rfl) rfl) rfl) rfl) rfl) rfl)) rfl) (pss_one (ps_set (i := 8) scNms.nd rfl (Or.inl rfl) (pe_op op_add_str (pv 8) pe_str))) pss_nil))
    (@pss_one _ _ _ (ps_expr (pe_bm PySem.F.plainAttrs_list PySem.F.slot_list_append PySem.F.type_list_append mt_append (pv 6) (pa_cons (pv 8) pa_nil)))))))
    (@pss_one _ _ _ (ps_ret (pv 6))))))))), ?_⟩
  refine ⟨rfl, _, rfl, d, l, 7, rfl, D, by decide, by decide, fun n0 H1 n1 n2 D1 o1 => ⟨n0, rfl, by omega, by omega, ?_⟩⟩
  refine comp_range (fun i ys σ G => Deal G d l ∧ Out d l H G ∧ (∃ v, σ = [v, some (.str "abcdefghijklmnopqrstuvwxyz"), some (.ref d)]) ∧ ∃ zs : List Str, ys = zs.map V.str ∧ zs.length = i ∧ ∀ z ∈ zs, z.length = 1) (small1000 (by omega)) ⟨D1, o1, ⟨_, rfl⟩, [], rfl, rfl, fun _ z => nomatch z⟩
    (by rintro i ys σ G ⟨_, _, _, zs, e, e2, _⟩; rw [e, List.length_map]; omega) ?_ ?_
  · rintro i ys σ G hi ⟨D2, o2, ⟨v, rfl⟩, zs, rfl, hl, h1⟩
    refine ⟨_, rfl, _, rfl, d, l, 26, rfl, D2, by decide, by decide, fun r H3 r0 r1 D3 o3 => ?_⟩
    obtain ⟨c, hc⟩ := str_at (z := "abcdefghijklmnopqrstuvwxyz") r0 r1
    refine ⟨_, r, c, rfl, rfl, by decide, hc, D3, o2.trans o3, ⟨_, rfl⟩, zs ++ [⟨#[c]⟩], by rw [List.map_append]; rfl, by rw [List.length_append, hl]; rfl, fun z hz => ?_⟩
    rcases List.mem_append.mp hz with q | q
    · exact h1 z q
    · have e : z = ⟨#[c]⟩ := by simpa using q
      rw [e]; rfl
  rintro ys σ H2 ⟨D2, o2, _, zs, rfl, hl, h1⟩ p hp
  have hsm := ones_sum h1
  refine ⟨_, p, zs, rfl, rfl, SqL.of upd_same, by rw [hsm]; show zs.length + zs.length * 0 ≤ _; omega, ?_⟩
  have hj := join_len "" zs
  rw [hsm] at hj
  have e0 : ("" : Str).length = 0 := rfl
  rw [e0] at hj
  have D3 := D2.same (same_new hp (.lst (zs.map V.str)))
  have o3 := o2.trans (Out.of (d := d) (l := l) (same_new hp (.lst (zs.map V.str))))
  generalize upd H2 p (.lst (zs.map V.str)) = H3 at D3 o3 ⊢
  generalize Txt.join "" zs = cr at hj ⊢
  have c6 : cr.length ≤ 6 := by omega
  have cz : cr.length ≤ sizeLine := Nat.le_of_lt (small1000 (by omega))
  refine ⟨_, rfl, _, rfl, cr, rfl, cz, _, _, rfl, rfl, d, l, _, rfl, D3, by omega, by omega, fun at' H4 a0 a1 D4 o4 => ?_⟩
  refine ⟨_, rfl, d, l, 26, rfl, D4, by decide, by decide, fun tn' H5 b0 b1 D5 o5 => ?_⟩
  have oA := o3.trans (o4.trans o5)
  refine ⟨Nat.zero_le _, fun lf hlf => ?_⟩
  have nf := out_fresh D5 oA hlf
  have L6 : DealL (upd H5 lf (.lst [])) d l lf [] := DealL.new D5 hlf
  have o6 := oA.trans (Out.of (d := d) (l := l) (same_new hlf (.lst [])))
  generalize upd H5 lf (.lst []) = H6 at L6 o6 ⊢
  refine ⟨_, rfl, m, rfl, by omega, by omega, for_range (n := m.toNat) (fun i σ G => ∃ (ws : List Str) (v7 v8 : Option V), σ = [some (.ref d), some (.int m), some (.str "abcdefghijklmnopqrstuvwxyz"), some (.str cr), some (.int at'), some (.int tn'), some (.ref lf), v7, v8] ∧ DealL G d l lf (ws.map V.str) ∧ Out d l H G ∧ ws.length = i ∧ WsOk (Txt.slice cr none (some at')) (Txt.slice cr (some at') none) tn' i ws)
    ⟨[], _, _, rfl, L6, o6, rfl, List.nodup_nil, fun _ z => nomatch z⟩ ?_ ?_⟩
  · rintro i σ G hi ⟨ws, v7, v8, rfl, L7, o7, hw, hb⟩
    have hc := lett_at tn' i
    generalize hlt : lett tn' i = c at hc
    have t1 := Txt.slice_le cr none (some at')
    have t2 := Txt.slice_le cr (some at') none
    have q26 : (0 : Int) < 26 := by decide
    have z1 : (Txt.slice cr none (some at')).length + (⟨#[c]⟩ : Str).length ≤ 7 := by show _ + 1 ≤ 7; omega
    have z2 : (Txt.slice cr none (some at') ++ (⟨#[c]⟩ : Str)).length ≤ 7 := by rw [strLen_append]; exact z1
    refine ⟨_, rfl, _, rfl, _, rfl, cr, rfl, cz, _, rfl, _, rfl, _, rfl, _, _, rfl, rfl, .inl ⟨by decide, by decide⟩, _, _, rfl, rfl, _, _, rfl, rfl, q26, _, _, c, rfl, rfl, by decide, hc, _, _, rfl, rfl, Nat.le_trans z1 (by decide), _, rfl, _, rfl, _, rfl, cr, rfl, cz, _, _, rfl, rfl, Nat.le_of_lt (small1000 (by omega)), ?_⟩
    have z3 : (Txt.slice cr none (some at') ++ (⟨#[c]⟩ : Str) ++ Txt.slice cr (some at') none).length ≤ 13 := by rw [strLen_append]; omega
    have ew : Txt.slice cr none (some at') ++ (⟨#[c]⟩ : Str) ++ Txt.slice cr (some at') none = wdK (Txt.slice cr none (some at')) (Txt.slice cr (some at') none) tn' i := by rw [← hlt]; rfl
    generalize Txt.slice cr none (some at') ++ (⟨#[c]⟩ : Str) ++ Txt.slice cr (some at') none = wd at z3 ew ⊢
    refine ⟨fun σ' G' => ∃ (w' : Str) (v7 : Option V), σ' = [some (.ref d), some (.int m), some (.str "abcdefghijklmnopqrstuvwxyz"), some (.str cr), some (.int at'), some (.int tn'), some (.ref lf), v7, some (.str w')] ∧ DealL G' d l lf (ws.map V.str) ∧ Out d l H G' ∧ (w' = wd ∨ w' = wd ++ "q"), ?_, ?_⟩
    · refine ⟨_, rfl, by show 12 ≤ sizeLine; decide, fun t ht => ?_⟩
      have L8 := L7.same (same_new ht (.tup [.str "kinds", .str "ladder", .str "flat", .str "choose", .str "first", .str "let", .str "tell", .str "when", .str "else", .str "times", .str "end", .str "of"]))
      have o8 := o7.trans (Out.of (d := d) (l := l) (same_new ht (.tup [.str "kinds", .str "ladder", .str "flat", .str "choose", .str "first", .str "let", .str "tell", .str "when", .str "else", .str "times", .str "end", .str "of"])))
      have h8 : upd G t (.tup [.str "kinds", .str "ladder", .str "flat", .str "choose", .str "first", .str "let", .str "tell", .str "when", .str "else", .str "times", .str "end", .str "of"]) t = some (.tup (taken.map V.str)) := upd_same
      generalize upd G t (.tup [.str "kinds", .str "ladder", .str "flat", .str "choose", .str "first", .str "let", .str "tell", .str "when", .str "else", .str "times", .str "end", .str "of"]) = H8 at L8 o8 h8 ⊢
      refine ⟨t, _, rfl, .inr (SqT.of h8), rfl, flat_strs taken, _, rfl, ite2 (fun _ => ?_) (fun _ => ⟨wd, _, rfl, L8, o8, .inl rfl⟩)⟩
      have e1 : ("q" : Str).length = 1 := by decide
      refine ⟨_, rfl, _, _, rfl, rfl, by rw [e1]; exact Nat.le_of_lt (small1000 (by omega)), _, _, rfl, L8, o8, .inr rfl⟩
    · rintro σ' G' ⟨w', v7, rfl, L8, o8, hw'⟩
      refine ⟨_, rfl, .inl ⟨rfl, _, SqL.of L8.lst⟩, _, rfl, lf, _, _, rfl, rfl, L8.lst, small1000 (by rw [List.length_map]; omega), ws ++ [w'], _, _, rfl, ?_, out_lst o8 nf, by rw [List.length_append, hw]; rfl, wsOk_snoc hb (by omega) (by rw [ew] at hw'; exact hw')⟩
      rw [List.map_append]
      exact L8.app _
  · rintro σ G ⟨ws, v7, v8, rfl, L7, o7, hw, hb⟩
    exact ⟨_, rfl, k lf ws G L7.deal o7 nf L7.lst (by omega) hb.1⟩
end
end Mine
namespace Mine
open PySem L2
section
variable {P : Program} {w : World} {K : PySem.W.Frag} {mg : Str → Option Value} {base : Heap}
theorem nd_Sum1 : (["_law_k", "_law_deal_here"] : List Str).Nodup := by decide +kernel
theorem nd_Sum2 : (["_law_k", "_law_deal_here"] : List Str).Nodup := by decide +kernel
theorem scSum : FnScope ["_law_deal_here", "_law_many"] ["_law_deal_here", "_law_many"] (defScope sSum) := ⟨rfl, rfl, rfl, by decide +kernel, rfl, by decide +kernel, by decide +kernel⟩
theorem ok_Sum {f : Addr} {fd : FuncData} (F : Fun K "_law_sum" "_law_sum" sSum f fd)
    {f_Draw : Addr} {d_Draw : FuncData} (G_Draw : FnOk P w K mg base CX0 (1) f_Draw d_Draw ["_law_deal_here", "_law_many"] spDraw) (b_Draw : Binds K d_Draw ["_law_deal_here", "_law_many"] []) (k_Draw : PySem.W.keepIn K (.ref f_Draw) = true) (m_Draw : mg "_law_draw" = some (.ref f_Draw))
    (m_tuple : mg "tuple" = none) (m_range : mg "range" = none) :
    FnOk P w K mg base CX0 (2) f fd ["_law_deal_here", "_law_many"] spSumS := by
  refine F.ok scSum (fun vs H Q E h => ?_) (fun cdv A outer s H vs Q E hr h => ?_)
  · obtain ⟨d, l, m, rfl, _⟩ := h
    rfl
  obtain ⟨d, l, m, rfl, D, m0, m3, k⟩ := h
  have hu := hu_of hr
  have hr1 : Room 1 _ := hr.mono (by decide)
  refine ⟨_, (pss_one (ps_ret (pe_callTy call_tuple_of (by rfl) m_tuple PyProof.Rows.boot_tuple (pa_cons (pe_comp ["_law_k", "_law_deal_here"] [none, some 0] (pi_range1 (by rfl) m_range (pa_cons (pv 1) pa_nil)) (fun _ _ _ _ => (pg_name (i := 0) (nd_Sum2) rfl (Or.inl rfl))) (fun _ _ _ _ => pf_nil) (fun _ _ _ _ => (pe_call G_Draw hr1 (by rfl) m_Draw k_Draw b_Draw .nil pass0 (pa_cons (pv 1) (pa_cons (pe_ix (ixlK K) (pe_lst (pa_cons pe_int (pa_cons pe_int (pa_cons pe_int pa_nil)))) (pe_call G_Draw hr1 (by rfl) m_Draw k_Draw b_Draw .nil pass0 (pa_cons (pv 1) (pa_cons pe_int pa_nil))) (fun _ _ => rfl)) pa_nil))))) pa_nil)))), ?_⟩
  refine ⟨_, rfl, m, rfl, by omega, by omega, comp_range (n := m.toNat) (fun i ys σ G => Deal G d l ∧ Out d l H G ∧ (∃ v, σ = [v, some (.ref d)]) ∧ ys.length = i) (small1000 (by omega)) ⟨D, Out.refl _, ⟨_, rfl⟩, rfl⟩ (by rintro i ys σ G ⟨_, _, _, e⟩; omega) ?_ ?_⟩
  · rintro i ys σ G hi ⟨D1, o1, ⟨v, rfl⟩, hl⟩
    refine ⟨_, rfl, by show 3 ≤ sizeLine; decide, fun l0 hl0 => ?_⟩
    have nl := (deal_new D1 hl0).2
    have s2 := same_new hl0 (.lst [.int 2, .int 2, .int 4])
    have h2 : upd G l0 (.lst [.int 2, .int 2, .int 4]) l0 = some (.lst [.int 2, .int 2, .int 4]) := upd_same
    generalize upd G l0 (.lst [.int 2, .int 2, .int 4]) = H2 at s2 h2 ⊢
    refine ⟨_, rfl, d, l, 3, rfl, D1.same s2, by decide, by decide, fun x H3 x0 x1 D3 o3 => ?_⟩
    obtain ⟨w, hw, hc⟩ := three_at (x := 2) (y := 2) (z := 4) x0 x1
    refine ⟨l0, _, _, .int w, rfl, rfl, SqL.of (deal_keep (D1.same s2) h2 nl o3), hw, d, l, w, rfl, D3, by omega, by omega, fun y H4 y0 y1 D4 o4 => ⟨D4, o1.trans ((Out.of s2).trans (o3.trans o4)), ⟨_, rfl⟩, ?_⟩⟩
    rw [List.length_append, hl]
    rfl
  · rintro ys σ G ⟨D1, o1, _, hl⟩ lx hlx
    exact ⟨lx, ys, rfl, .inl ⟨SqL.of upd_same, fun t ht => k t ys _ ((D1.same (same_new hlx _)).same (same_new ht _)) (o1.trans (Out.of ((same_new hlx _).trans (same_new ht _)))) upd_same⟩⟩
theorem scStp : FnScope ["_law_deal_here", "_law_most", "_law_some"] ["_law_deal_here", "_law_most"] (defScope sStp) := ⟨rfl, rfl, rfl, by decide +kernel, rfl, by decide +kernel, by decide +kernel⟩
theorem ok_Stp {f : Addr} {fd : FuncData} (F : Fun K "_law_steep" "_law_steep" sStp f fd)
    {f_Draw : Addr} {d_Draw : FuncData} (G_Draw : FnOk P w K mg base CX0 (1) f_Draw d_Draw ["_law_deal_here", "_law_many"] spDraw) (b_Draw : Binds K d_Draw ["_law_deal_here", "_law_many"] []) (k_Draw : PySem.W.keepIn K (.ref f_Draw) = true) (m_Draw : mg "_law_draw" = some (.ref f_Draw))
    (m_len : mg "len" = none) :
    FnOk P w K mg base CX0 (2) f fd ["_law_deal_here", "_law_most"] spStp := by
  refine F.ok scStp (fun vs H Q E h => ?_) (fun cdv A outer s H vs Q E hr h => ?_)
  · obtain ⟨d, l, m, rfl, _⟩ := h
    rfl
  obtain ⟨d, l, m, rfl, D, k⟩ := h
  have hu := hu_of hr
  have hr1 : Room 1 _ := hr.mono (by decide)
  refine ⟨_, (@pss_cons _ _ _ _ _ (@ps_set _ _ 2 _ _ _ _ scStp.nd rfl (Or.inl rfl) (@pe_lst _ _ _ _ (@pa_pairs _ _ [(1, 2), (1, 3), (1, 4), (1, 5), (2, 5), (1, 6), (1, 7), (2, 7), (3, 7), (1, 8), (3, 8), (1, 9), (2, 9)] rfl)) rfl (Or.inl rfl))
    (@pss_cons _ _ _ _ _ (ps_expr (pe_bm PySem.F.plainAttrs_list PySem.F.slot_list_append PySem.F.type_list_append mt_append (pv 2) (pa_cons (pe_tup (pa_cons pe_int (pa_cons pe_int pa_nil))) pa_nil)))
    (@pss_cons _ _ _ _ _ (ps_post (ps_if (pt_cmpR op_eq (pv 1) pe_int (nomark _)) (@pss_cons _ _ _ _ _ (@ps_set _ _ 2 _ _ _ _ scStp.nd rfl (Or.inl rfl) (pe_op op_cat (pv 2) (@pe_lst _ _ _ _ (@pa_pairs _ _ [(2, 3), (3, 4), (3, 5), (4, 5), (5, 6), (4, 7), (5, 7), (6, 7), (5, 8), (7, 8), (5, 9), (7, 9)] rfl))) rfl (Or.inl rfl))
    (@pss_one _ _ _ (ps_expr (pe_bm PySem.F.plainAttrs_list PySem.F.slot_list_append PySem.F.type_list_append mt_append (pv 2) (pa_cons (pe_tup (pa_cons pe_int (pa_cons pe_int pa_nil))) pa_nil))))) pss_nil))
    (@pss_one _ _ _ (ps_ret (pe_ix ix_list (pv 2) (pe_call G_Draw hr1 (by rfl) m_Draw k_Draw b_Draw .nil pass0 (pa_cons (pv 0) (pa_cons (pe_callB call_len_seq (by rfl) m_len PySem.boot_len (pa_cons (pv 2) pa_nil)) pa_nil))) (fun _ _ => rfl))))))), ?_⟩
  refine fun vs1 H1 s1 p1 => ⟨Nat.le_of_lt (small1000 (by rw [pairs_len p1]; decide)), fun l1 hl1 => ?_⟩
  have nl := (deal_new (D.same s1) hl1).2
  have n1 := s1.free hl1
  have s2 := s1.trans (same_new hl1 (.lst vs1))
  have h2 : upd H1 l1 (.lst vs1) l1 = some (.lst vs1) := upd_same
  replace p1 := pairs_ts (.of (same_new hl1 (.lst vs1))) p1
  generalize upd H1 l1 (.lst vs1) = H2 at s2 h2 p1 ⊢
  refine ⟨_, rfl, .inl ⟨rfl, _, SqL.of h2⟩, by show 2 ≤ sizeLine; decide, fun t ht => ?_⟩
  have s3 := s2.trans (same_new ht (.tup [.int 4, .int 9]))
  have h3 := (same_new ht (.tup [.int 4, .int 9])) _ _ h2
  have pt : PairsAt (upd H2 t (.tup [.int 4, .int 9])) [.ref t] [(4, 9)] := ⟨⟨t, rfl, upd_same⟩, trivial⟩
  replace p1 := pairs_app (pairs_ts (.of (same_new ht (.tup [.int 4, .int 9]))) p1) pt
  clear pt
  generalize upd H2 t (.tup [.int 4, .int 9]) = H3 at s3 h3 p1 ⊢
  refine ⟨l1, _, _, rfl, rfl, h3, small1000 (by have := pairs_len p1; rw [List.length_append] at this; simp only [List.length_append, List.length_cons, List.length_nil] at this; omega), ?_⟩
  have s4 := same_lst (ys := vs1 ++ [.ref t]) s3 n1
  have h4 : upd H3 l1 (.lst (vs1 ++ [.ref t])) l1 = some (.lst (vs1 ++ [.ref t])) := upd_same
  replace p1 := pairs_ts (TS.lst (ys := vs1 ++ [.ref t]) h3) p1
  generalize upd H3 l1 (.lst (vs1 ++ [.ref t])) = H4 at s4 h4 p1 ⊢
  refine ⟨fun σ' G => ∃ (lx : Addr) (vs : List V) (ps : List (Int × Int)), σ' = [some (.ref d), some (.int m), some (.ref lx)] ∧ Same H G ∧ lx ≠ l ∧ G lx = some (.lst vs) ∧ PairsAt G vs ps ∧ 1 ≤ ps.length ∧ ps.length ≤ 30 ∧ (m ≠ 1 → ∀ p ∈ ps, 2 * p.1 ≤ p.2), ?_, ?_⟩
  · refine ⟨_, rfl, rfl, _, rfl, ?_⟩
    by_cases c : m = 1
    · refine iteP (by rw [c]; exact decide_eq_true rfl) ?_
      refine ⟨_, rfl, fun vs5 H5 s5 p5 => ⟨Nat.le_of_lt (small1000 (by rw [pairs_len p5]; decide)), fun l5 hl5 => ?_⟩⟩
      have s6 := s5.trans (same_new hl5 (.lst vs5))
      have h6 : upd H5 l5 (.lst vs5) l5 = some (.lst vs5) := upd_same
      replace p5 := pairs_ts (.of (same_new hl5 (.lst vs5))) p5
      generalize upd H5 l5 (.lst vs5) = H6 at s6 h6 p5 ⊢
      have e1 := pairs_len p1
      have e5 := pairs_len p5
      simp only [List.length_cons, List.length_nil, List.length_append] at e1 e5
      refine ⟨l1, l5, _, _, rfl, rfl, s6 _ _ h4, h6, Nat.le_of_lt (small1000 (by rw [List.length_append, List.length_cons, List.length_nil]; omega)), fun l7 hl7 => ?_⟩
      have nl7 := (deal_new ((D.same s4).same s6) hl7).2
      have n7 := (s4.trans s6).free hl7
      have s7 := s6.trans (same_new hl7 (.lst (vs1 ++ [.ref t] ++ vs5)))
      have h7 : upd H6 l7 (.lst (vs1 ++ [.ref t] ++ vs5)) l7 = some (.lst (vs1 ++ [.ref t] ++ vs5)) := upd_same
      have p7 := pairs_app (pairs_ts (.of s7) p1) (pairs_ts (.of (same_new hl7 (.lst (vs1 ++ [.ref t] ++ vs5)))) p5)
      generalize upd H6 l7 (.lst (vs1 ++ [.ref t] ++ vs5)) = H7 at s7 h7 p7 ⊢
      refine ⟨_, rfl, .inl ⟨rfl, _, SqL.of h7⟩, by show 2 ≤ sizeLine; decide, fun t8 ht8 => ?_⟩
      have s8 := s7.trans (same_new ht8 (.tup [.int 8, .int 9]))
      have h8 := (same_new ht8 (.tup [.int 8, .int 9])) _ _ h7
      have pt : PairsAt (upd H7 t8 (.tup [.int 8, .int 9])) [.ref t8] [(8, 9)] := ⟨⟨t8, rfl, upd_same⟩, trivial⟩
      have p8 := pairs_app (pairs_ts (.of (same_new ht8 (.tup [.int 8, .int 9]))) p7) pt
      clear pt
      generalize upd H7 t8 (.tup [.int 8, .int 9]) = H8 at s8 h8 p8 ⊢
      refine ⟨l7, _, _, rfl, rfl, h8, small1000 (by simp only [List.length_append, List.length_cons, List.length_nil]; omega), ?_⟩
      refine ⟨l7, _, _, rfl, same_lst (s4.trans s8) n7, nl7, upd_same, pairs_ts (TS.lst h8) p8, by decide, by decide, fun z => absurd c z⟩
    · refine iteN (fun z => c (by have z := of_decide_eq_true z; injection z)) ?_
      exact ⟨l1, _, _, rfl, s4, nl, h4, p1, by decide, by decide, fun _ => by decide⟩
  · rintro σ' G ⟨lx, vs, ps, rfl, s5, nx, h5, p5, q1, q2, q3⟩
    have e5 := pairs_len p5
    refine ⟨_, rfl, _, rfl, _, rfl, lx, _, rfl, .inl (SqL.of h5), d, l, _, rfl, D.same s5, by omega, by omega, fun x H6 x0 x1 D6 o6 => ?_⟩
    obtain ⟨v, hv, ha⟩ := at_nat x0 x1
    obtain ⟨pp, mp, a, rfl, hA⟩ := pairs_at p5 hv
    exact ⟨lx, _, _, .ref a, rfl, rfl, SqL.of (deal_keep (D.same s5) h5 nx o6), ha, k a pp.1 pp.2 H6 D6 ((Out.of s5).trans o6) (TS.out (D.same s5) o6 _ _ hA) fun z => q3 z pp mp⟩
end
end Mine
namespace Mine
open PySem L2
section
variable {P : Program} {w : World} {K : PySem.W.Frag} {mg : Str → Option Value} {base : Heap}
theorem nd_Thw1 : (["_law_k", "_law_deal_here", "_law_many"] : List Str).Nodup := by decide +kernel
theorem nd_Thw2 : (["_law_k", "_law_deal_here", "_law_many"] : List Str).Nodup := by decide +kernel
theorem scThw : FnScope ["_law_deal_here", "_law_many", "_law_x", "_law_form", "_law_least", "_law_low", "_law_high", "_law_sums", "_law_mark"] ["_law_deal_here", "_law_many", "_law_x"] (defScope sThw) := ⟨rfl, rfl, rfl, by decide +kernel, rfl, by decide +kernel, by decide +kernel⟩
theorem ok_Thw {f : Addr} {fd : FuncData} (F : Fun K "_law_throw" "_law_throw" sThw f fd)
    {f_Draw : Addr} {d_Draw : FuncData} (G_Draw : FnOk P w K mg base CX0 (1) f_Draw d_Draw ["_law_deal_here", "_law_many"] spDraw) (b_Draw : Binds K d_Draw ["_law_deal_here", "_law_many"] []) (k_Draw : PySem.W.keepIn K (.ref f_Draw) = true) (m_Draw : mg "_law_draw" = some (.ref f_Draw))
    {f_Stp : Addr} {d_Stp : FuncData} (G_Stp : FnOk P w K mg base CX0 (2) f_Stp d_Stp ["_law_deal_here", "_law_most"] spStp) (b_Stp : Binds K d_Stp ["_law_deal_here", "_law_most"] []) (k_Stp : PySem.W.keepIn K (.ref f_Stp) = true) (m_Stp : mg "_law_steep" = some (.ref f_Stp))
    {f_Sum : Addr} {d_Sum : FuncData} (G_Sum : FnOk P w K mg base CX0 (2) f_Sum d_Sum ["_law_deal_here", "_law_many"] spSumS) (b_Sum : Binds K d_Sum ["_law_deal_here", "_law_many"] []) (k_Sum : PySem.W.keepIn K (.ref f_Sum) = true) (m_Sum : mg "_law_sum" = some (.ref f_Sum))
    (m_int : mg "int" = none) (m_tuple : mg "tuple" = none) (m_range : mg "range" = none) :
    FnOk P w K mg base CX0 (3) f fd ["_law_deal_here", "_law_many", "_law_x"] spThrow := by
  refine F.ok scThw (fun vs H Q E h => ?_) (fun cdv A outer s H vs Q E hr h => ?_)
  · obtain ⟨d, l, m, x, rfl, _⟩ := h
    rfl
  obtain ⟨d, l, m, x, rfl, D, m0, m3, k⟩ := h
  have hu := hu_of hr
  have hr1 : Room 1 _ := hr.mono (by decide)
  have hr2 : Room 2 _ := hr.mono (by decide)
  refine ⟨_, (pss_cons (ps_set (i := 3) scThw.nd rfl (Or.inl rfl) (pe_call G_Draw hr1 (by rfl) m_Draw k_Draw b_Draw .nil pass0 (pa_cons (pv 0) (pa_cons pe_int pa_nil))))
    (pss_cons (ps_set (i := 4) scThw.nd rfl (Or.inl rfl) (pe_callTy call_int1 (by rfl) m_int PyProof.Rows.boot_int (pa_cons (pe_cmpR op_eq (pv 3) pe_int (nomark _)) pa_nil)))
    (pss_cons (ps_set (i := 5) scThw.nd rfl (Or.inl rfl) (pe_call G_Draw hr1 (by rfl) m_Draw k_Draw b_Draw .nil pass0 (pa_cons (pv 0) (pa_cons (pe_op op_sub pe_int (pv 4)) pa_nil))))
    (pss_cons (ps_set (i := 6) scThw.nd rfl (Or.inl rfl) (pe_op op_add (pe_op op_add (pv 5) (pv 4)) (pe_call G_Draw hr1 (by rfl) m_Draw k_Draw b_Draw .nil pass0 (pa_cons (pv 0) (pa_cons (pe_op op_sub (pe_op op_sub pe_int (pv 5)) (pv 4)) pa_nil)))))
    (pss_cons (ps_if (pt_cmpR op_eq (pv 3) pe_int (nomark _)) (pss_one (ps_ret (pe_tup (pa_cons pe_str (pa_cons (pv 2) (pa_cons (pe_call G_Sum hr2 (by rfl) m_Sum k_Sum b_Sum .nil pass0 (pa_cons (pv 0) (pa_cons (pv 1) pa_nil))) (pa_cons (pe_call G_Stp hr2 (by rfl) m_Stp k_Stp b_Stp .nil pass0 (pa_cons (pv 0) (pa_cons pe_int pa_nil))) (pa_cons (pv 5) (pa_cons (pv 6) pa_nil))))))))) pss_nil)
    (pss_cons (ps_if (pt_cmpR op_eq (pv 3) pe_int (nomark _)) (pss_one (ps_ret (pe_tup (pa_cons pe_str (pa_cons (pv 2) (pa_cons (pe_call G_Sum hr2 (by rfl) m_Sum k_Sum b_Sum .nil pass0 (pa_cons (pv 0) (pa_cons (pv 1) pa_nil))) (pa_cons (pe_call G_Draw hr1 (by rfl) m_Draw k_Draw b_Draw .nil pass0 (pa_cons (pv 0) (pa_cons pe_int pa_nil))) (pa_cons (pv 5) (pa_cons (pv 6) pa_nil))))))))) pss_nil)
    (pss_cons (ps_set (i := 7) scThw.nd rfl (Or.inl rfl) (pe_callTy call_tuple_of (by rfl) m_tuple PyProof.Rows.boot_tuple (pa_cons (pe_comp ["_law_k", "_law_deal_here", "_law_many"] [none, some 0, some 1] (pi_range1 (by rfl) m_range (pa_cons (pe_op op_add pe_int (pe_call G_Draw hr1 (by rfl) m_Draw k_Draw b_Draw .nil pass0 (pa_cons (pv 0) (pa_cons pe_int pa_nil)))) pa_nil)) (fun _ _ _ _ => (pg_name (i := 0) (nd_Thw2) rfl (Or.inl rfl))) (fun _ _ _ _ => pf_nil) (fun _ _ _ _ => (pe_call G_Sum hr2 (by rfl) m_Sum k_Sum b_Sum .nil pass0 (pa_cons (pv 1) (pa_cons (pv 2) pa_nil))))) pa_nil)))
    (pss_cons (ps_if (pt_cmpR op_eq (pv 3) pe_int (nomark _)) (pss_one (ps_ret (pe_tup (pa_cons pe_str (pa_cons (pv 2) (pa_cons (pv 7) (pa_cons (pe_call G_Stp hr2 (by rfl) m_Stp k_Stp b_Stp .nil pass0 (pa_cons (pv 0) (pa_cons pe_int pa_nil))) (pa_cons (pv 5) (pa_cons (pv 6) pa_nil))))))))) pss_nil)
    (pss_cons (ps_set (i := 8) scThw.nd rfl (Or.inl rfl) (pe_op op_add (pv 5) (pe_call G_Draw hr1 (by rfl) m_Draw k_Draw b_Draw .nil pass0 (pa_cons (pv 0) (pa_cons (pe_op op_add (pe_op op_sub (pv 6) (pv 5)) pe_int) pa_nil)))))
    (pss_one (ps_ret (pe_tup (pa_cons pe_str (pa_cons (pv 2) (pa_cons (pv 8) (pa_cons (pe_call G_Stp hr2 (by rfl) m_Stp k_Stp b_Stp .nil pass0 (pa_cons (pv 0) (pa_cons pe_int pa_nil))) (pa_cons (pe_call G_Stp hr2 (by rfl) m_Stp k_Stp b_Stp .nil pass0 (pa_cons (pv 0) (pa_cons pe_int pa_nil))) (pa_cons (pv 7) (pa_cons (pv 5) (pa_cons (pv 6) pa_nil)))))))))))))))))))), ?_⟩
  refine ⟨_, rfl, d, l, 4, rfl, D, by decide, by decide, fun fo H1 f0 f1 D1 o1 => ?_⟩
  obtain ⟨le, hle, l0, l1, l3⟩ : ∃ le : Int, (if decide (V.int fo = V.int 3) = true then (1 : Int) else 0) = le ∧ 0 ≤ le ∧ le ≤ 1 ∧ (fo = 3 → le = 1) := by
    refine ⟨_, rfl, ?_⟩
    by_cases c : fo = 3
    · rw [if_pos (by rw [c]; exact decide_eq_true rfl)]
      exact ⟨by decide, by decide, fun _ => rfl⟩
    · rw [if_neg (fun z => c (by have z := of_decide_eq_true z; injection z))]
      exact ⟨by decide, by decide, fun z => absurd z c⟩
  refine ⟨_, rfl, rfl, .inr ⟨_, rfl, ?_⟩⟩
  rw [hle]
  refine ⟨_, rfl, _, rfl, _, _, rfl, rfl, d, l, _, rfl, D1, by omega, by omega, fun lo H2 a0 a1 D2 o2 => ?_⟩
  refine ⟨_, rfl, _, rfl, _, _, rfl, rfl, _, rfl, _, rfl, _, _, rfl, rfl, _, rfl, _, _, rfl, rfl, d, l, _, rfl, D2, by omega, by omega, fun u H3 b0 b1 D3 o3 => ⟨_, _, rfl, rfl, ?_⟩⟩
  have oA := o1.trans (o2.trans o3)
  generalize hhi : lo + le + u = hi
  refine ⟨_, rfl, rfl, _, rfl, ?_⟩
  by_cases c0 : fo = 0
  · refine iteP (by rw [c0]; exact decide_eq_true rfl) ?_
    refine ⟨_, rfl, _, rfl, _, rfl, d, l, m, rfl, D3, m0, m3, fun p4 ws4 H4 D4 o4 h4 => ⟨_, rfl, d, l, 1, rfl, D4, fun p5 a5 b5 H5 D5 o5 h5 _ => ⟨_, rfl, _, rfl, by show 6 ≤ sizeLine; decide, fun p hp => ?_⟩⟩⟩
    exact k p "ladder" _ _ (D5.same (same_new hp _)) (oA.trans (o4.trans (o5.trans (Out.of (same_new hp _))))) upd_same (.inl ⟨by decide +kernel, _, _, _, _, rfl, by omega⟩)
  refine iteN (fun z => c0 (by have z := of_decide_eq_true z; injection z)) ?_
  refine ⟨_, rfl, rfl, _, rfl, ?_⟩
  by_cases c1 : fo = 1
  · refine iteP (by rw [c1]; exact decide_eq_true rfl) ?_
    refine ⟨_, rfl, _, rfl, _, rfl, d, l, m, rfl, D3, m0, m3, fun p4 ws4 H4 D4 o4 h4 => ⟨_, rfl, d, l, 5, rfl, D4, by decide, by decide, fun y H5 _ _ D5 o5 => ⟨_, rfl, _, rfl, by show 6 ≤ sizeLine; decide, fun p hp => ?_⟩⟩⟩
    exact k p "flat" _ _ (D5.same (same_new hp _)) (oA.trans (o4.trans (o5.trans (Out.of (same_new hp _))))) upd_same (.inl ⟨by decide +kernel, _, _, _, _, rfl, by omega⟩)
  refine iteN (fun z => c1 (by have z := of_decide_eq_true z; injection z)) ?_
  refine ⟨_, rfl, d, l, 4, rfl, D3, by decide, by decide, fun n4 H4 e0 e1 D4 o4 => ⟨_, _, rfl, rfl, ?_⟩⟩
  have oB := oA.trans o4
  refine ⟨1 + n4, rfl, by omega, by omega, comp_range (n := (1 + n4).toNat) (fun i ys σ G => Deal G d l ∧ Out d l H G ∧ (∃ v, σ = [v, some (.ref d), some (.int m)]) ∧ ys.length = i) (small1000 (by omega)) ⟨D4, oB, ⟨_, rfl⟩, rfl⟩ (by rintro i ys σ G ⟨_, _, _, e⟩; omega) ?_ ?_⟩
  · rintro i ys σ G hi ⟨D5, o5, ⟨v, rfl⟩, hl⟩
    refine ⟨_, rfl, _, rfl, d, l, m, rfl, D5, m0, m3, fun p6 ws6 H6 D6 o6 h6 => ⟨D6, o5.trans o6, ⟨_, rfl⟩, ?_⟩⟩
    rw [List.length_append, hl]
    rfl
  rintro ys σ G ⟨D5, o5, _, hl⟩ lx hlx
  refine ⟨lx, ys, rfl, .inl ⟨SqL.of upd_same, fun t6 ht6 => ?_⟩⟩
  have s6 := (same_new hlx (.lst ys)).trans (same_new ht6 (.tup ys))
  have D6 := D5.same s6
  have o6 := o5.trans (Out.of (d := d) (l := l) s6)
  generalize upd (upd G lx (.lst ys)) t6 (.tup ys) = H6 at D6 o6 ⊢
  refine ⟨_, rfl, rfl, _, rfl, ?_⟩
  by_cases c2 : fo = 2
  · refine iteP (by rw [c2]; exact decide_eq_true rfl) ?_
    refine ⟨_, rfl, _, rfl, _, rfl, d, l, 1, rfl, D6, fun p7 a7 b7 H7 D7 o7 h7 _ => ⟨_, rfl, _, rfl, by show 6 ≤ sizeLine; decide, fun p hp => ?_⟩⟩
    exact k p "choose" _ _ (D7.same (same_new hp _)) (o6.trans (o7.trans (Out.of (same_new hp _)))) upd_same (.inl ⟨by decide +kernel, _, _, _, _, rfl, by omega⟩)
  refine iteN (fun z => c2 (by have z := of_decide_eq_true z; injection z)) ?_
  have h3 := l3 (by omega)
  refine ⟨_, rfl, _, rfl, _, rfl, _, rfl, _, _, rfl, rfl, _, _, rfl, rfl, d, l, _, rfl, D6, by omega, by omega, fun mk H7 g0 g1 D7 o7 => ⟨_, _, rfl, rfl, ?_⟩⟩
  refine ⟨_, rfl, _, rfl, _, rfl, d, l, 1, rfl, D7, fun p8 a8 b8 H8 D8 o8 h8 _ => ⟨_, rfl, d, l, 2, rfl, D8, fun p9 a9 b9 H9 D9 o9 h9 q9 => ⟨_, rfl, _, rfl, _, rfl, by show 8 ≤ sizeLine; decide, fun p hp => ?_⟩⟩⟩
  exact k p "first" _ _ (D9.same (same_new hp _)) (o6.trans (o7.trans (o8.trans (o9.trans (Out.of (same_new hp _)))))) upd_same (.inr ⟨rfl, _, _, p9, _, _, _, a9, b9, rfl, (same_new hp _) _ _ h9, q9 (by decide), by omega, by omega, by omega⟩)
end
end Mine
namespace Mine
open PySem L2
section
variable {P : Program} {w : World} {K : PySem.W.Frag} {mg : Str → Option Value} {base : Heap}
theorem scTrm : FnScope ["_law_deal_here", "_law_known", "_law_room", "_law_deep", "_law_part", "_law_one"] ["_law_deal_here", "_law_known", "_law_room", "_law_deep"] (defScope sTrm) := ⟨rfl, rfl, rfl, by decide +kernel, rfl, by decide +kernel, by decide +kernel⟩
theorem ok_Trm (n : Nat) {f : Addr} {fd : FuncData} (F : Fun K "_law_term" "_law_term" sTrm f fd)
    {f_Trm : Addr} {d_Trm : FuncData} (G_Trm : FnOk P w K mg base CX0 (n + 1) f_Trm d_Trm ["_law_deal_here", "_law_known", "_law_room", "_law_deep"] (spTm n)) (b_Trm : Binds K d_Trm ["_law_deal_here", "_law_known", "_law_room", "_law_deep"] []) (k_Trm : PySem.W.keepIn K (.ref f_Trm) = true) (m_Trm : mg "_law_term" = some (.ref f_Trm))
    {f_Draw : Addr} {d_Draw : FuncData} (G_Draw : FnOk P w K mg base CX0 (1) f_Draw d_Draw ["_law_deal_here", "_law_many"] spDraw) (b_Draw : Binds K d_Draw ["_law_deal_here", "_law_many"] []) (k_Draw : PySem.W.keepIn K (.ref f_Draw) = true) (m_Draw : mg "_law_draw" = some (.ref f_Draw))
    (m_len : mg "len" = none) :
    FnOk P w K mg base CX0 (n + 1 + 1) f fd ["_law_deal_here", "_law_known", "_law_room", "_law_deep"] (spTm (n + 1)) := by
  refine F.ok scTrm (fun vs H Q E h => ?_) (fun cdv A outer s H vs Q E hr h => ?_)
  · obtain ⟨d, l, kn, ks, room, deep, rfl, _⟩ := h
    rfl
  obtain ⟨d, l, kn, ks, room, deep, rfl, D, hk, nk, lk, r1, r2, dp, k⟩ := h
  have hu := hu_of hr
  have hr1 : Room 1 _ := hr.mono (by omega)
  have hr_Trm : Room (n + 1) _ := hr.mono (by omega)
  refine ⟨_, (pss_cons (ps_if (pt_post (PW.pt (pw_and (pt_cmpR op_gt (pv 2) pe_int (nomark _)) (pw_and (pt_cmpR op_gt (pv 3) pe_int (nomark _)) (pw_and1 (pt_cmpR op_gt (pe_call G_Draw hr1 (by rfl) m_Draw k_Draw b_Draw .nil pass0 (pa_cons (pv 0) (pa_cons pe_int pa_nil))) pe_int (nomark _))))))) (pss_cons (ps_set (i := 4) scTrm.nd rfl (Or.inl rfl) (pe_op op_add pe_int (pe_call G_Draw hr1 (by rfl) m_Draw k_Draw b_Draw .nil pass0 (pa_cons (pv 0) (pa_cons (pe_op op_sub (pv 2) pe_int) pa_nil)))))
    (pss_cons (ps_set (i := 5) scTrm.nd rfl (Or.inl rfl) (pe_call G_Trm hr_Trm (by rfl) m_Trm k_Trm b_Trm .nil pass0 (pa_cons (pv 0) (pa_cons (pv 1) (pa_cons (pv 4) (pa_cons (pe_op op_sub (pv 3) pe_int) pa_nil))))))
    (pss_one (ps_ret (pe_tup (pa_cons pe_str (pa_cons (pe_ix ix_str pe_str (pe_call G_Draw hr1 (by rfl) m_Draw k_Draw b_Draw .nil pass0 (pa_cons (pv 0) (pa_cons pe_int pa_nil))) (fun _ _ => rfl)) (pa_cons (pv 5) (pa_cons (pe_call G_Trm hr_Trm (by rfl) m_Trm k_Trm b_Trm .nil pass0 (pa_cons (pv 0) (pa_cons (pv 1) (pa_cons (pe_op op_sub (pe_op op_sub (pv 2) pe_int) (pv 4)) (pa_cons (pe_op op_sub (pv 3) pe_int) pa_nil))))) pa_nil))))))))) pss_nil)
    (pss_cons (ps_if (pt_post (PW.pt (pw_and (pt_cmpR op_gt (pe_callB call_len_seq (by rfl) m_len PySem.boot_len (pa_cons (pv 1) pa_nil)) pe_int (nomark _)) (pw_and1 (pt_cmpR op_gt (pe_call G_Draw hr1 (by rfl) m_Draw k_Draw b_Draw .nil pass0 (pa_cons (pv 0) (pa_cons pe_int pa_nil))) pe_int (nomark _)))))) (pss_one (ps_ret (pe_tup (pa_cons pe_str (pa_cons (pe_ix ix_list (pv 1) (pe_call G_Draw hr1 (by rfl) m_Draw k_Draw b_Draw .nil pass0 (pa_cons (pv 0) (pa_cons (pe_callB call_len_seq (by rfl) m_len PySem.boot_len (pa_cons (pv 1) pa_nil)) pa_nil))) (fun _ _ => rfl)) pa_nil))))) pss_nil)
    (pss_one (ps_ret (pe_tup (pa_cons pe_str (pa_cons (pe_call G_Draw hr1 (by rfl) m_Draw k_Draw b_Draw .nil pass0 (pa_cons (pv 0) (pa_cons (pe_ix ix_list (pe_lst (pa_cons pe_int (pa_cons pe_int (pa_cons pe_int pa_nil)))) (pe_call G_Draw hr1 (by rfl) m_Draw k_Draw b_Draw .nil pass0 (pa_cons (pv 0) (pa_cons pe_int pa_nil))) (fun _ _ => rfl)) pa_nil))) pa_nil))))))), ?_⟩
  refine ⟨fun b G => Deal G d l ∧ Out d l H G ∧ (b = true → 2 < room ∧ 1 < deep), ?_, ?_⟩
  · refine ⟨_, rfl, _, _, rfl, rfl, _, rfl, ?_⟩
    by_cases c1 : 2 < room
    · refine iteP (decide_eq_true c1) ⟨_, rfl, _, _, rfl, rfl, _, rfl, ?_⟩
      by_cases c2 : 1 < deep
      · exact iteP (decide_eq_true c2) ⟨_, rfl, d, l, 3, rfl, D, by decide, by decide, fun x H1 x0 x1 D1 o1 => ⟨_, _, rfl, rfl, _, rfl, D1, o1, fun _ => ⟨c1, c2⟩⟩⟩
      · exact iteN (by simpa using c2) ⟨D, Out.refl _, fun z => nomatch z⟩
    · exact iteN (by simpa using c1) ⟨D, Out.refl _, fun z => nomatch z⟩
  rintro b G ⟨D1, o1, hb⟩
  have hk1 := deal_keep D hk nk o1
  cases b with
  | true =>
    refine iteP rfl ?_
    obtain ⟨c1, c2⟩ := hb rfl
    cases n with
    | zero => exact absurd c2 (by omega)
    | succ n =>
    refine ⟨_, rfl, _, rfl, _, _, rfl, rfl, d, l, room - 2, rfl, D1, by omega, by omega, fun x H2 x0 x1 D2 o2 => ⟨_, _, rfl, rfl, ?_⟩⟩
    have hk2 := deal_keep D1 hk1 nk o2
    refine ⟨_, rfl, _, rfl, _, rfl, _, rfl, _, _, rfl, rfl, d, l, kn, ks, 1 + x, deep - 1, rfl, D2, hk2, nk, lk, by omega, by omega, by omega, fun t1 H3 D3 o3 h3 ok3 nm3 sz3 dp3 => ?_⟩
    have hk3 := deal_keep D2 hk2 nk o3
    refine ⟨_, rfl, d, l, 5, rfl, D3, by decide, by decide, fun y H4 y0 y1 D4 o4 => ?_⟩
    obtain ⟨c, hc, hs⟩ := sgn_at y0 y1
    have hk4 := deal_keep D3 hk3 nk o4
    refine ⟨_, y, c, rfl, rfl, by decide, hc, _, rfl, _, rfl, _, rfl, _, rfl, _, _, rfl, rfl, _, rfl, _, _, rfl, rfl, _, rfl, _, _, rfl, rfl, d, l, kn, ks, room - 1 - (1 + x), deep - 1, rfl, D4, hk4, nk, lk, by omega, by omega, by omega, fun t2 H5 D5 o5 h5 ok5 nm5 sz5 dp5 => ⟨by show 4 ≤ sizeLine; decide, fun p hp => ?_⟩⟩
    have s6 := same_new hp (.tup [.str "op", .str ⟨#[c]⟩, .ref t1.p, .ref t2.p])
    have t15 := (TS.out D3 o4).trans ((TS.out D4 o5).trans (.of s6))
    refine k (.op p ⟨#[c]⟩ t1 t2) _ (D5.same s6) (o1.trans (o2.trans (o3.trans (o4.trans (o5.trans (.of s6)))))) ⟨upd_same, h3.ts t15, h5.ts (.of s6)⟩ ⟨hs, ok3, ok5⟩ (fun z hz => ?_) ?_ ?_
    · rcases List.mem_append.mp hz with q | q
      · exact nm3 z q
      · exact nm5 z q
    · simp only [Tm.size]; omega
    · simp only [Tm.deep]; omega
  | false =>
    refine iteN (by simp) ?_
    refine ⟨fun b G' => Deal G' d l ∧ Out d l H G' ∧ (b = true → 0 < ks.length), ?_, ?_⟩
    · refine ⟨_, rfl, kn, _, rfl, .inl (SqL.of hk1), _, _, rfl, rfl, _, rfl, ?_⟩
      by_cases c : (0 : Int) < ((ks.map V.str).length : Int)
      · refine iteP (decide_eq_true c) ⟨_, rfl, d, l, 4, rfl, D1, by decide, by decide, fun x H2 x0 x1 D2 o2 => ⟨_, _, rfl, rfl, _, rfl, D2, o1.trans o2, fun _ => by rw [List.length_map] at c; omega⟩⟩
      · exact iteN (by simpa using c) ⟨D1, o1, fun z => nomatch z⟩
    rintro b G2 ⟨D2, o2, hb2⟩
    have hk2 := deal_keep D hk nk o2
    cases b with
    | true =>
      have kp := hb2 rfl
      refine iteP rfl ?_
      refine ⟨_, rfl, _, rfl, _, rfl, kn, _, rfl, .inl (SqL.of hk2), d, l, _, rfl, D2, by rw [List.length_map]; omega, by rw [List.length_map]; omega, fun x H3 x0 x1 D3 o3 => ?_⟩
      obtain ⟨v, hv, ha⟩ := at_nat x0 x1
      obtain ⟨y, rfl, hy⟩ := strs_at hv
      refine ⟨kn, _, _, .str y, rfl, rfl, SqL.of (deal_keep D2 hk2 nk o3), ha, by show 2 ≤ sizeLine; decide, fun p hp => ?_⟩
      have s4 := same_new hp (.tup [.str "name", .str y])
      refine k (.nam p y) _ (D3.same s4) (o2.trans (o3.trans (.of s4))) upd_same trivial (fun z hz => ?_) (by simp only [Tm.size]; omega) (by simp only [Tm.deep]; omega)
      rw [List.mem_singleton.mp hz]
      exact List.mem_of_getElem? hy
    | false =>
      refine iteN (by simp) ?_
      refine ⟨_, rfl, by show 3 ≤ sizeLine; decide, fun l0 hl0 => ?_⟩
      have n0 := (deal_new D2 hl0).2
      have s3 := same_new hl0 (.lst [.int 3, .int 10, .int 1000])
      have h3 : upd G2 l0 (.lst [.int 3, .int 10, .int 1000]) l0 = some (.lst [.int 3, .int 10, .int 1000]) := upd_same
      generalize upd G2 l0 (.lst [.int 3, .int 10, .int 1000]) = H3 at s3 h3 ⊢
      refine ⟨_, rfl, d, l, 3, rfl, D2.same s3, by decide, by decide, fun x H4 x0 x1 D4 o4 => ?_⟩
      obtain ⟨w, hw, hc⟩ := three_at (x := 3) (y := 10) (z := 1000) x0 x1
      refine ⟨l0, _, _, .int w, rfl, rfl, SqL.of (deal_keep (D2.same s3) h3 n0 o4), hw, d, l, w, rfl, D4, by omega, by omega, fun y H5 y0 y1 D5 o5 => ⟨by show 2 ≤ sizeLine; decide, fun p hp => ?_⟩⟩
      have s6 := same_new hp (.tup [.str "num", .int y])
      exact k (.num p y) _ (D5.same s6) (o2.trans ((Out.of s3).trans (o4.trans (o5.trans (.of s6))))) upd_same ⟨y0, by omega⟩ (fun z hz => absurd hz List.not_mem_nil) (by simp only [Tm.size]; omega) (by simp only [Tm.deep]; omega)
end
end Mine
namespace Mine
open PySem L2
section
variable {P : Program} {w : World} {K : PySem.W.Frag} {mg : Str → Option Value} {base : Heap}
theorem scSet : FnScope ["_law_deal_here", "_law_scene", "_law_known", "_law_x"] ["_law_deal_here", "_law_scene", "_law_known", "_law_x"] (defScope sSet) := ⟨rfl, rfl, rfl, by decide +kernel, rfl, by decide +kernel, by decide +kernel⟩
theorem ok_Set {f : Addr} {fd : FuncData} (F : Fun K "_law_setting" "_law_setting" sSet f fd)
    {f_Draw : Addr} {d_Draw : FuncData} (G_Draw : FnOk P w K mg base CX0 (1) f_Draw d_Draw ["_law_deal_here", "_law_many"] spDraw) (b_Draw : Binds K d_Draw ["_law_deal_here", "_law_many"] []) (k_Draw : PySem.W.keepIn K (.ref f_Draw) = true) (m_Draw : mg "_law_draw" = some (.ref f_Draw))
    {f_Thw : Addr} {d_Thw : FuncData} (G_Thw : FnOk P w K mg base CX0 (3) f_Thw d_Thw ["_law_deal_here", "_law_many", "_law_x"] spThrow) (b_Thw : Binds K d_Thw ["_law_deal_here", "_law_many", "_law_x"] []) (k_Thw : PySem.W.keepIn K (.ref f_Thw) = true) (m_Thw : mg "_law_throw" = some (.ref f_Thw))
    {f_Trm : Addr} {d_Trm : FuncData} (G_Trm : FnOk P w K mg base CX0 (7) f_Trm d_Trm ["_law_deal_here", "_law_known", "_law_room", "_law_deep"] (spTm 6)) (b_Trm : Binds K d_Trm ["_law_deal_here", "_law_known", "_law_room", "_law_deep"] []) (k_Trm : PySem.W.keepIn K (.ref f_Trm) = true) (m_Trm : mg "_law_term" = some (.ref f_Trm))
     :
    FnOk P w K mg base CX0 (8) f fd ["_law_deal_here", "_law_scene", "_law_known", "_law_x"] spSet := by
  refine F.ok scSet (fun vs H Q E h => ?_) (fun cdv A outer s H vs Q E hr h => ?_)
  · obtain ⟨d, l, sc, nl, kn, many, xs, ks, x, rfl, _⟩ := h
    rfl
  obtain ⟨d, l, sc, nl, kn, many, xs, ks, x, rfl, W0, hk, nk, lk, k⟩ := h
  have hu := hu_of hr
  have hr1 : Room 1 _ := hr.mono (by decide)
  have hr3 : Room 3 _ := hr.mono (by decide)
  have hr7 : Room 7 _ := hr.mono (by decide)
  refine ⟨_, (pss_cons (ps_dput hu (pv 1) pe_str (pe_op op_sub (pe_dget hu (pv 1) pe_str (fun _ _ => rfl)) pe_int) rfl)
    (pss_cons (ps_if (pt_cmpR op_lt (pe_call G_Draw hr1 (by rfl) m_Draw k_Draw b_Draw .nil pass0 (pa_cons (pv 0) (pa_cons pe_int pa_nil))) pe_int (nomark _)) (pss_one (ps_ret (pe_call G_Thw hr3 (by rfl) m_Thw k_Thw b_Thw .nil pass0 (pa_cons (pv 0) (pa_cons (pe_dget hu (pv 1) pe_str (fun _ _ => rfl)) (pa_cons (pv 3) pa_nil)))))) pss_nil)
    (pss_one (ps_ret (pe_tup (pa_cons pe_str (pa_cons (pv 3) (pa_cons (pe_call G_Trm hr7 (by rfl) m_Trm k_Trm b_Trm .nil pass0 (pa_cons (pv 0) (pa_cons (pv 2) (pa_cons (pe_op op_add pe_int (pe_call G_Draw hr1 (by rfl) m_Draw k_Draw b_Draw .nil pass0 (pa_cons (pv 0) (pa_cons pe_int pa_nil)))) (pa_cons pe_int pa_nil))))) pa_nil)))))))), ?_⟩
  obtain ⟨lf, gl⟩ := W0.left
  refine ⟨_, rfl, sc, _, rfl, gl, _, _, rfl, rfl, _, rfl, sc, _, rfl, W0.dput _, ?_⟩
  have W1 := W0.put (lf - 1)
  have o1 := W0.off (lf - 1)
  have hk1 := W0.keep hk nk o1
  generalize upd H sc (.dK (sceneK many nl (lf - 1))) = H1 at W1 o1 hk1 ⊢
  refine ⟨_, rfl, d, l, 5, rfl, W1.deal, by decide, by decide, fun y H2 y0 y1 D2 o2 => ⟨_, _, rfl, rfl, _, rfl, ?_⟩⟩
  have W2 := W1.out D2 o2
  have oo2 := o1.trans (Off.out (sc := sc) o2)
  have hk2 := deal_keep W1.deal hk1 nk o2
  refine ite2 (fun _ => ?_) (fun _ => ?_)
  · refine ⟨_, rfl, _, rfl, sc, _, rfl, W2.getMany, _, rfl, d, l, many, x, rfl, W2.deal, W0.m1, W0.m2, fun p w ws H3 D3 o3 h3 ok3 => ?_⟩
    exact k (.thr p w x ws) H3 (W2.out D3 o3) (oo2.trans (Off.out o3)) ⟨h3, ok3⟩ (.inl ⟨p, w, ws, rfl⟩)
  · refine ⟨_, rfl, _, rfl, _, rfl, _, rfl, d, l, 12, rfl, D2, by decide, by decide, fun z H3 z0 z1 D3 o3 => ⟨_, _, rfl, rfl, ?_⟩⟩
    have W3 := W2.out D3 o3
    have hk3 := deal_keep D2 hk2 nk o3
    refine ⟨d, l, kn, ks, 1 + z, 6, rfl, D3, hk3, nk, lk, by omega, by omega, by decide, fun t H4 D4 o4 h4 ok4 nm4 sz4 dp4 => ⟨by show 3 ≤ sizeLine; decide, fun p hp => ?_⟩⟩
    have s5 := same_new hp (.tup [.str "let", .str x, .ref t.p])
    exact k (.lt p x t) _ ((W3.out D4 o4).same s5) (oo2.trans ((Off.out o3).trans ((Off.out o4).trans (.of s5)))) ⟨upd_same, h4.ts (.of s5), ok4, by omega⟩ (.inr ⟨p, t, rfl, nm4⟩)
end
end Mine
namespace Mine
open PySem L2
section
variable {P : Program} {w : World} {K : PySem.W.Frag} {mg : Str → Option Value} {base : Heap}
theorem nd_Whn1 : (["_law_name", "_law_others"] : List Str).Nodup := by decide +kernel
theorem nd_Whn2 : (["_law_name", "_law_others"] : List Str).Nodup := by decide +kernel
theorem scWhn : FnScope ["_law_deal_here", "_law_scene", "_law_known", "_law_tells", "_law_deep", "_law_term_here", "_law_one", "_law_ones", "_law_other", "_law_others"] ["_law_deal_here", "_law_scene", "_law_known", "_law_tells", "_law_deep"] (defScope sWhn) := ⟨rfl, rfl, rfl, by decide +kernel, rfl, by decide +kernel, by decide +kernel⟩
theorem ok_Whn (m : Nat) {f : Addr} {fd : FuncData} (F : Fun K "_law_when" "_law_when" sWhn f fd)
    {f_Trm : Addr} {d_Trm : FuncData} (G_Trm : FnOk P w K mg base CX0 (7) f_Trm d_Trm ["_law_deal_here", "_law_known", "_law_room", "_law_deep"] (spTm 6)) (b_Trm : Binds K d_Trm ["_law_deal_here", "_law_known", "_law_room", "_law_deep"] []) (k_Trm : PySem.W.keepIn K (.ref f_Trm) = true) (m_Trm : mg "_law_term" = some (.ref f_Trm))
    {f_Blk : Addr} {d_Blk : FuncData} (G_Blk : FnOk P w K mg base CX0 (10 + 2 * m) f_Blk d_Blk ["_law_deal_here", "_law_scene", "_law_known", "_law_tells", "_law_deep"] (spBlk m)) (b_Blk : Binds K d_Blk ["_law_deal_here", "_law_scene", "_law_known", "_law_tells", "_law_deep"] []) (k_Blk : PySem.W.keepIn K (.ref f_Blk) = true) (m_Blk : mg "_law_block" = some (.ref f_Blk))
    {f_Draw : Addr} {d_Draw : FuncData} (G_Draw : FnOk P w K mg base CX0 (1) f_Draw d_Draw ["_law_deal_here", "_law_many"] spDraw) (b_Draw : Binds K d_Draw ["_law_deal_here", "_law_many"] []) (k_Draw : PySem.W.keepIn K (.ref f_Draw) = true) (m_Draw : mg "_law_draw" = some (.ref f_Draw))
     :
    FnOk P w K mg base CX0 (10 + 2 * m + 1) f fd ["_law_deal_here", "_law_scene", "_law_known", "_law_tells", "_law_deep"] (spWhn (m + 1)) := by
  refine F.ok scWhn (fun vs H Q E h => ?_) (fun cdv A outer s H vs Q E hr h => ?_)
  · obtain ⟨d, l, sc, nl, kn, many, xs, ks, tells, deep, rfl, _⟩ := h
    rfl
  obtain ⟨d, l, sc, nl, kn, many, xs, ks, tells, deep, rfl, W0, hk, nk, lk, t0, t4, hm, hd, k⟩ := h
  have hu := hu_of hr
  have hr1 : Room 1 _ := hr.mono (by omega)
  have hr7 : Room 7 _ := hr.mono (by omega)
  have hr_Blk : Room (10 + 2 * m) _ := hr.mono (by omega)
  refine ⟨_, (pss_cons (ps_dput hu (pv 1) pe_str (pe_op op_sub (pe_op op_sub (pe_dget hu (pv 1) pe_str (fun _ _ => rfl)) pe_int) (pv 3)) rfl)
    (pss_cons (ps_set (i := 5) scWhn.nd rfl (Or.inl rfl) (pe_call G_Trm hr7 (by rfl) m_Trm k_Trm b_Trm .nil pass0 (pa_cons (pv 0) (pa_cons (pv 2) (pa_cons (pe_op op_add pe_int (pe_call G_Draw hr1 (by rfl) m_Draw k_Draw b_Draw .nil pass0 (pa_cons (pv 0) (pa_cons pe_int pa_nil)))) (pa_cons pe_int pa_nil))))))
    (pss_cons (ps_asg (pe_call G_Blk hr_Blk (by rfl) m_Blk k_Blk b_Blk .nil pass0 (pa_cons (pv 0) (pa_cons (pv 1) (pa_cons (pv 2) (pa_cons (pv 3) (pa_cons (pe_op op_add (pv 4) pe_int) pa_nil)))))) (pg_tup rfl (pgs_cons (pg_name (i := 6) scWhn.nd rfl (Or.inl rfl)) (pgs_cons (pg_name (i := 7) scWhn.nd rfl (Or.inl rfl)) pgs_nil))))
    (pss_cons (ps_asg (pe_call G_Blk hr_Blk (by rfl) m_Blk k_Blk b_Blk .nil pass0 (pa_cons (pv 0) (pa_cons (pv 1) (pa_cons (pv 2) (pa_cons (pv 3) (pa_cons (pe_op op_add (pv 4) pe_int) pa_nil)))))) (pg_tup rfl (pgs_cons (pg_name (i := 8) scWhn.nd rfl (Or.inl rfl)) (pgs_cons (pg_name (i := 9) scWhn.nd rfl (Or.inr rfl)) pgs_nil))))
    (pss_one (ps_ret (pe_tup (pa_cons (pe_tup (pa_cons pe_str (pa_cons (pv 5) (pa_cons (pv 6) (pa_cons (pv 8) pa_nil))))) (pa_cons (pe_comp ["_law_name", "_law_others"] [none, some 9] (pi_list (pv 7)) (fun _ _ _ _ => (pg_name (i := 0) (nd_Whn1) rfl (Or.inl rfl))) (fun _ _ _ _ => (pf_one (pt_cmpR (inK K) (pv 0) (pv 1) rfl))) (fun _ _ _ _ => (pv 0))) pa_nil))))))))), ?_⟩
  have cl := cb_le m
  obtain ⟨lf, gl⟩ := W0.left
  refine ⟨_, rfl, sc, _, rfl, gl, _, _, rfl, rfl, _, rfl, _, _, rfl, rfl, _, rfl, sc, _, rfl, W0.dput _, ?_⟩
  have W1 := W0.put (lf - 1 - tells)
  have o1 := W0.off (lf - 1 - tells)
  have hk1 := W0.keep hk nk o1
  generalize upd H sc (.dK (sceneK many nl (lf - 1 - tells))) = H1 at W1 o1 hk1 ⊢
  refine ⟨_, rfl, _, rfl, _, rfl, d, l, 5, rfl, W1.deal, by decide, by decide, fun y H2 y0 y1 D2 o2 => ⟨_, _, rfl, rfl, ?_⟩⟩
  have W2 := W1.out D2 o2
  have hk2 := deal_keep W1.deal hk1 nk o2
  refine ⟨d, l, kn, ks, 1 + y, 3, rfl, D2, hk2, nk, by omega, by omega, by omega, by decide, fun t H3 D3 o3 h3 ok3 nm3 sz3 dp3 => ?_⟩
  have W3 := W2.out D3 o3
  have hk3 := deal_keep D2 hk2 nk o3
  have oA := o1.trans ((Off.out (sc := sc) o2).trans (Off.out (sc := sc) o3))
  refine ⟨_, rfl, _, rfl, _, rfl, _, rfl, _, rfl, _, _, rfl, rfl, d, l, sc, nl, kn, many, xs, ks, tells, deep + 1, rfl, W3, hk3, nk, lk, t0, t4, by omega, by omega, fun p4 pr4 kn4 rs4 k4 H4 W4 o4 h4 hp4 hr4 c4 q4 n4 hk4 b4 => ?_⟩
  refine ⟨p4, _, rfl, SqT.of h4, rfl, _, _, rfl, _, _, rfl, rfl, ?_⟩
  have hkk4 := W3.keep hk3 nk o4
  refine ⟨_, rfl, _, rfl, _, rfl, _, rfl, _, rfl, _, _, rfl, rfl, d, l, sc, nl, kn, many, xs, ks, tells, deep + 1, rfl, W4, hkk4, nk, lk, t0, t4, by omega, by omega, fun p5 pr5 kn5 rs5 k5 H5 W5 o5 h5 hp5 hr5 c5 q5 n5 hk5 b5 => ?_⟩
  refine ⟨p5, _, rfl, SqT.of h5, rfl, _, _, rfl, _, _, rfl, rfl, ?_⟩
  have ts45 := W4.ts o5
  have hk45 := W4.keep hk4 n4 o5
  have oB := oA.trans (o4.trans o5)
  refine ⟨_, rfl, _, rfl, _, rfl, by show 4 ≤ sizeLine; decide, fun q hq => ?_⟩
  have s6 := same_new hq (.tup [.str "when", .ref t.p, .ref pr4, .ref pr5])
  have h6 : upd H5 q (.tup [.str "when", .ref t.p, .ref pr4, .ref pr5]) q = some (.tup [.str "when", .ref t.p, .ref pr4, .ref pr5]) := upd_same
  generalize upd H5 q (.tup [.str "when", .ref t.p, .ref pr4, .ref pr5]) = H6 at s6 h6 ⊢
  have l4 := ScL.len rs4 b4.sc
  have l5 := ScL.len rs5 b5.sc
  refine ⟨_, rfl, kn4, rfl, ⟨_, SqL.of (s6 _ _ hk45)⟩, comp_list (K := K) (a := kn4) (xs := k4.map V.str) (fun i ys σ G => G = H6 ∧ (∃ v, σ = [v, some (.ref kn5)]) ∧ ys = ((k4.take i).filter fun x => decide (x ∈ k5)).map V.str)
    (big4 (by rw [List.length_map]; omega)) ⟨rfl, ⟨_, rfl⟩, rfl⟩ (fun i ys σ G ⟨_, _, e⟩ => by
      rw [e, List.length_map]
      exact Nat.le_trans (List.length_filter_le _ _) (by rw [List.length_take]; omega)) (by rintro i ys σ G _ ⟨e, _⟩; rw [e]; exact SqL.of (s6 _ _ hk45)) ?_ ?_⟩
  · rintro i v ys σ G hv ⟨rfl, ⟨v', rfl⟩, rfl⟩
    obtain ⟨x, rfl, hx⟩ := strs_at hv
    refine ⟨_, rfl, _, rfl, kn5, _, rfl, .inl (SqL.of (s6 _ _ hk5)), rfl, flat_texts _, _, rfl, ?_⟩
    have ei : inV (V.str x) (k5.map V.str) = decide (x ∈ k5) := inV_strs _ _
    rw [take_snoc hx, List.filter_append, List.map_append]
    by_cases c : x ∈ k5
    · refine iteP (ei.trans (decide_eq_true c)) ⟨_, rfl, rfl, ⟨_, rfl⟩, ?_⟩
      rw [List.filter_cons_of_pos (p := fun x => decide (x ∈ k5)) (decide_eq_true c)]
      rfl
    · refine iteN (fun z => c (of_decide_eq_true (ei.symm.trans z))) ⟨rfl, ⟨_, rfl⟩, ?_⟩
      rw [List.filter_cons_of_neg (p := fun x => decide (x ∈ k5)) (by simpa using c)]
      simp
  rintro ys σ G ⟨rfl, _, rfl⟩ l7 hl7
  rw [List.length_map, List.take_length]
  have s7 := same_new hl7 (.lst ((k4.filter fun x => decide (x ∈ k5)).map V.str))
  have h7 : upd G l7 (.lst ((k4.filter fun x => decide (x ∈ k5)).map V.str)) l7 = some (.lst ((k4.filter fun x => decide (x ∈ k5)).map V.str)) := upd_same
  have n7 : H l7 = none := oB.fresh W5.all (s6.free hl7)
  generalize upd G l7 (.lst ((k4.filter fun x => decide (x ∈ k5)).map V.str)) = H7 at s7 h7 ⊢
  refine ⟨by show 2 ≤ sizeLine; decide, fun p hp => ?_⟩
  have s8 := s6.trans (s7.trans (same_new hp (.tup [.ref q, .ref l7])))
  have s9 := s7.trans (same_new hp (.tup [.ref q, .ref l7]))
  refine k p l7 (.when q pr4 pr5 t rs4 rs5) _ _ (W5.same s8) (oB.trans (.of s8)) upd_same ⟨s9 _ _ h6, h3.ts (((W3.ts o4).trans ts45).trans (.of s8)), ⟨ok3, by omega⟩, s8 _ _ (ts45 _ _ hp4), s8 _ _ hp5, RwsH.ts (ts45.trans (.of s8)) _ hr4, RwsH.ts (.of s8) _ hr5⟩ ?_ n7 ((same_new hp _) _ _ h7) ⟨nm3, k4, k5, b4.sc, b5.sc, rfl⟩ b4.tl ⟨by rw [b4.tl, b5.tl], b4.tk, b5.tk⟩
  simp only [Rw.cnt]
  omega
end
end Mine
namespace Mine
open PySem L2
section
variable {P : Program} {w : World} {K : PySem.W.Frag} {mg : Str → Option Value} {base : Heap}
theorem scBlk : FnScope ["_law_deal_here", "_law_scene", "_law_known", "_law_tells", "_law_deep", "_law_rows", "_law_k", "_law_form", "_law_inner", "_law_turns", "_law_x", "_law_row"] ["_law_deal_here", "_law_scene", "_law_known", "_law_tells", "_law_deep"] (defScope sBlk) := ⟨rfl, rfl, rfl, by decide +kernel, rfl, by decide +kernel, by decide +kernel⟩
theorem ok_Blk (m : Nat) {f : Addr} {fd : FuncData} (F : Fun K "_law_block" "_law_block" sBlk f fd)
    {f_Draw : Addr} {d_Draw : FuncData} (G_Draw : FnOk P w K mg base CX0 (1) f_Draw d_Draw ["_law_deal_here", "_law_many"] spDraw) (b_Draw : Binds K d_Draw ["_law_deal_here", "_law_many"] []) (k_Draw : PySem.W.keepIn K (.ref f_Draw) = true) (m_Draw : mg "_law_draw" = some (.ref f_Draw))
    {f_Trm : Addr} {d_Trm : FuncData} (G_Trm : FnOk P w K mg base CX0 (7) f_Trm d_Trm ["_law_deal_here", "_law_known", "_law_room", "_law_deep"] (spTm 6)) (b_Trm : Binds K d_Trm ["_law_deal_here", "_law_known", "_law_room", "_law_deep"] []) (k_Trm : PySem.W.keepIn K (.ref f_Trm) = true) (m_Trm : mg "_law_term" = some (.ref f_Trm))
    {f_Set : Addr} {d_Set : FuncData} (G_Set : FnOk P w K mg base CX0 (8) f_Set d_Set ["_law_deal_here", "_law_scene", "_law_known", "_law_x"] spSet) (b_Set : Binds K d_Set ["_law_deal_here", "_law_scene", "_law_known", "_law_x"] []) (k_Set : PySem.W.keepIn K (.ref f_Set) = true) (m_Set : mg "_law_setting" = some (.ref f_Set))
    {f_Whn : Addr} {d_Whn : FuncData} (G_Whn : FnOk P w K mg base CX0 (9 + 2 * m) f_Whn d_Whn ["_law_deal_here", "_law_scene", "_law_known", "_law_tells", "_law_deep"] (spWhn m)) (b_Whn : Binds K d_Whn ["_law_deal_here", "_law_scene", "_law_known", "_law_tells", "_law_deep"] []) (k_Whn : PySem.W.keepIn K (.ref f_Whn) = true) (m_Whn : mg "_law_when" = some (.ref f_Whn))
    {f_Blk : Addr} {d_Blk : FuncData} (G_Blk : FnOk P w K mg base CX0 (8 + 2 * m) f_Blk d_Blk ["_law_deal_here", "_law_scene", "_law_known", "_law_tells", "_law_deep"] (spBlkP m)) (b_Blk : Binds K d_Blk ["_law_deal_here", "_law_scene", "_law_known", "_law_tells", "_law_deep"] []) (k_Blk : PySem.W.keepIn K (.ref f_Blk) = true) (m_Blk : mg "_law_block" = some (.ref f_Blk))
    (m_range : mg "range" = none) (m_tuple : mg "tuple" = none) (m_len : mg "len" = none) :
    FnOk P w K mg base CX0 (9 + 2 * m + 1) f fd ["_law_deal_here", "_law_scene", "_law_known", "_law_tells", "_law_deep"] (spBlk m) := by
  refine F.ok scBlk (fun vs H Q E h => ?_) (fun cdv A outer s H vs Q E hr h => ?_)
  · obtain ⟨d, l, sc, nl, kn, many, xs, ks, tells, deep, rfl, _⟩ := h
    rfl
  obtain ⟨d, l, sc, nl, kn, many, xs, ks, tells, deep, rfl, W0, hk, nk, lk, t0, t4, hm, hd, k⟩ := h
  have hu := hu_of hr
  have hr1 : Room 1 _ := hr.mono (by omega)
  have hr8 : Room 8 _ := hr.mono (by omega)
  have hr7 : Room 7 _ := hr.mono (by omega)
  have hr_Whn : Room (9 + 2 * m) _ := hr.mono (by omega)
  have hr_Blk : Room (8 + 2 * m) _ := hr.mono (by omega)
  refine ⟨_, (@pss_cons _ _ _ _ _ (ps_set (i := 5) scBlk.nd rfl (Or.inl rfl) (pe_lst pa_nil))
    (@pss_cons _ _ _ _ _ (ps_for PassesOwn.never rfl (pi_range1 (by rfl) m_range (pa_cons (pe_call G_Draw hr1 (by rfl) m_Draw k_Draw b_Draw .nil pass0 (pa_cons (pv 0) (pa_cons (pe_ix ix_list (@pe_lst _ _ _ _ (@pa_cons _ _ _ _ _ pe_int (@pa_cons _ _ _ _ _ pe_int (@pa_cons _ _ _ _ _ pe_int (@pa_cons _ _ _ _ _ pe_int pa_nil rfl) rfl) rfl) rfl)) (pv 4) (fun _ _ => rfl)) pa_nil))) pa_nil)) (pg_name (i := 6) scBlk.nd rfl (Or.inl rfl))
    (pss_cons (ps_set (i := 7) scBlk.nd rfl (Or.inl rfl) (pe_call G_Draw hr1 (by rfl) m_Draw k_Draw b_Draw .nil pass0 (pa_cons (pv 0) (pa_cons pe_int pa_nil))))
    (pss_cons (ps_set (i := 8) scBlk.nd rfl (Or.inl rfl) (pe_call G_Draw hr1 (by rfl) m_Draw k_Draw b_Draw .nil pass0 (pa_cons (pv 0) (pa_cons (pe_op op_add (pv 3) pe_int) pa_nil))))
    (pss_cons (ps_set (i := 9) scBlk.nd rfl (Or.inl rfl) (pe_op op_add pe_int (pe_call G_Draw hr1 (by rfl) m_Draw k_Draw b_Draw .nil pass0 (pa_cons (pv 0) (pa_cons pe_int pa_nil)))))
    (pss_one (ps_if (pt_post (PW.pt (pw_and (pt_cmpR op_eq (pv 7) pe_int (nomark _)) (pw_and1 (pt_cmpR op_gt (pv 3) pe_int (nomark _)))))) (pss_cons (ps_set (i := 3) scBlk.nd rfl (Or.inl rfl) (pe_op op_sub (pv 3) pe_int))
    (pss_one (ps_expr (pe_bm PySem.F.plainAttrs_list PySem.F.slot_list_append PySem.F.type_list_append mt_append (pv 5) (pa_cons (pe_tup (pa_cons pe_str (pa_cons (pe_call G_Trm hr7 (by rfl) m_Trm k_Trm b_Trm .nil pass0 (pa_cons (pv 0) (pa_cons (pv 2) (pa_cons (pe_op op_add pe_int (pe_call G_Draw hr1 (by rfl) m_Draw k_Draw b_Draw .nil pass0 (pa_cons (pv 0) (pa_cons pe_int pa_nil)))) (pa_cons pe_int pa_nil))))) pa_nil))) pa_nil))))) (pss_one (ps_if (pt_post (PW.pt (pw_and (pt_cmpR op_lt (pv 7) pe_int (nomark _)) (pw_and1 (pt_cmpR op_gt (pe_dget hu (pv 1) pe_str (fun _ _ => rfl)) pe_int (nomark _)))))) (pss_cons (ps_set (i := 10) scBlk.nd rfl (Or.inl rfl) (pe_ix ix_list (pe_dget hu (pv 1) pe_str (fun _ _ => rfl)) (pe_call G_Draw hr1 (by rfl) m_Draw k_Draw b_Draw .nil pass0 (pa_cons (pv 0) (pa_cons (pe_callB call_len_seq (by rfl) m_len PySem.boot_len (pa_cons (pe_dget hu (pv 1) pe_str (fun _ _ => rfl)) pa_nil)) pa_nil))) (fun _ _ => rfl)))
    (pss_cons (ps_expr (pe_bm PySem.F.plainAttrs_list PySem.F.slot_list_append PySem.F.type_list_append mt_append (pv 5) (pa_cons (pe_call G_Set hr8 (by rfl) m_Set k_Set b_Set .nil pass0 (pa_cons (pv 0) (pa_cons (pv 1) (pa_cons (pv 2) (pa_cons (pv 10) pa_nil))))) pa_nil)))
    (pss_one (ps_set (i := 2) scBlk.nd rfl (Or.inl rfl) (pe_op op_cat (pv 2) (pe_lst (pa_cons (pv 10) pa_nil))))))) (pss_one (ps_if (pt_post (PW.pt (pw_and (pt_cmpR op_lt (pv 7) pe_int (nomark _)) (pw_and (pt_cmpR op_lt (pv 4) pe_int (nomark _)) (pw_and1 (pt_cmpR op_gt (pe_dget hu (pv 1) pe_str (fun _ _ => rfl)) (pv 8) (nomark _))))))) (pss_cons (ps_set (i := 3) scBlk.nd rfl (Or.inl rfl) (pe_op op_sub (pv 3) (pv 8)))
    (pss_cons (ps_asg (pe_call G_Whn hr_Whn (by rfl) m_Whn k_Whn b_Whn .nil pass0 (pa_cons (pv 0) (pa_cons (pv 1) (pa_cons (pv 2) (pa_cons (pv 8) (pa_cons (pv 4) pa_nil)))))) (pg_tup rfl (pgs_cons (pg_name (i := 11) scBlk.nd rfl (Or.inl rfl)) (pgs_cons (pg_name (i := 2) scBlk.nd rfl (Or.inl rfl)) pgs_nil))))
    (pss_one (ps_expr (pe_bm PySem.F.plainAttrs_list PySem.F.slot_list_append PySem.F.type_list_append mt_append (pv 5) (pa_cons (pv 11) pa_nil)))))) (pss_one (ps_if (pt_post (PW.pt (pw_and (pt_cmpR op_eq (pv 7) pe_int (nomark _)) (pw_and (pt_cmpR op_lt (pv 4) pe_int (nomark _)) (pw_and (pt_cmpR op_gt (pe_dget hu (pv 1) pe_str (fun _ _ => rfl)) pe_int (nomark _)) (pw_and1 (pt_cmpR op_le (pe_op op_mul (pv 8) (pv 9)) (pv 3) (nomark _)))))))) (pss_cons (ps_dput hu (pv 1) pe_str (pe_op op_sub (pe_op op_add (pe_op op_sub (pe_dget hu (pv 1) pe_str (fun _ _ => rfl)) pe_int) (pe_op op_mul (pv 8) (pv 9))) (pv 8)) rfl)
    (pss_cons (ps_set (i := 3) scBlk.nd rfl (Or.inl rfl) (pe_op op_sub (pv 3) (pe_op op_mul (pv 8) (pv 9))))
    (pss_cons (ps_asg (pe_call G_Blk hr_Blk (by rfl) m_Blk k_Blk b_Blk .nil pass0 (pa_cons (pv 0) (pa_cons (pv 1) (pa_cons (pv 2) (pa_cons (pv 8) (pa_cons (pe_op op_add (pv 4) pe_int) pa_nil)))))) (pg_tup rfl (pgs_cons (pg_name (i := 11) scBlk.nd rfl (Or.inl rfl)) (pgs_cons (pg_name (i := 2) scBlk.nd rfl (Or.inl rfl)) pgs_nil))))
    (pss_one (ps_expr (pe_bm PySem.F.plainAttrs_list PySem.F.slot_list_append PySem.F.type_list_append mt_append (pv 5) (pa_cons (pe_tup (pa_cons pe_str (pa_cons (pv 9) (pa_cons (pv 11) pa_nil)))) pa_nil))))))) pss_nil))))))))))))
    (@pss_cons _ _ _ _ _ (ps_for PassesOwn.never rfl (pi_range1 (by rfl) m_range (pa_cons (pv 3) pa_nil)) (pg_name (i := 6) scBlk.nd rfl (Or.inl rfl))
    (pss_one (ps_expr (pe_bm PySem.F.plainAttrs_list PySem.F.slot_list_append PySem.F.type_list_append mt_append (pv 5) (pa_cons (pe_tup (pa_cons pe_str (pa_cons (pe_call G_Trm hr7 (by rfl) m_Trm k_Trm b_Trm .nil pass0 (pa_cons (pv 0) (pa_cons (pv 2) (pa_cons (pe_op op_add pe_int (pe_call G_Draw hr1 (by rfl) m_Draw k_Draw b_Draw .nil pass0 (pa_cons (pv 0) (pa_cons pe_int pa_nil)))) (pa_cons pe_int pa_nil))))) pa_nil))) pa_nil)))))
    (@pss_one _ _ _ (ps_ret (pe_tup (pa_cons (pe_callTy call_tuple_of (by rfl) m_tuple PyProof.Rows.boot_tuple (pa_cons (pv 5) pa_nil)) (pa_cons (pv 2) pa_nil)))))))), ?_⟩
  have cl := cb_le m
  have ce := cb_eq hm
  have tle := tn_le m
  refine ⟨Nat.zero_le _, fun lr hlr => ?_⟩
  have nlr := (deal_new W0.deal hlr).2
  have nln : lr ≠ nl := (ne_of_none W0.nms hlr).symm
  have nlk : kn ≠ lr := ne_of_none hk hlr
  have s1 := same_new hlr (.lst [])
  have h1 : upd H lr (.lst []) lr = some (.lst []) := upd_same
  generalize upd H lr (.lst []) = H1 at s1 h1 ⊢
  have W1 := W0.same s1
  refine ⟨_, rfl, by show 4 ≤ sizeLine; decide, fun l0 hl0 => ?_⟩
  have n0 := (deal_new W1.deal hl0).2
  have s2 := s1.trans (same_new hl0 (.lst [.int 8, .int 5, .int 3, .int 3]))
  have h2 : upd H1 l0 (.lst [.int 8, .int 5, .int 3, .int 3]) l0 = some (.lst [.int 8, .int 5, .int 3, .int 3]) := upd_same
  have h12 := (same_new hl0 (.lst [.int 8, .int 5, .int 3, .int 3])) _ _ h1
  generalize upd H1 l0 (.lst [.int 8, .int 5, .int 3, .int 3]) = H2 at s2 h2 h12 ⊢
  have W2 := W0.same s2
  refine ⟨_, rfl, l0, _, _, .int ((tn m : Int) + 1), rfl, rfl, SqL.of h2, tn_at hm hd, d, l, (tn m : Int) + 1, rfl, W2.deal, by omega, by omega, fun n H3 n1 n2 D3 o3 => ?_⟩
  have W3 := W2.out D3 o3
  have h13 := deal_keep W2.deal h12 nlr o3
  have hk3 := deal_keep W2.deal (s2 _ _ hk) nk o3
  have oA := (Off.of (S := [d, l, sc]) s2).trans (Off.out (sc := sc) o3)
  refine ⟨n, rfl, by omega, by omega, for_range (n := n.toNat) (fun i σ G => ∃ (rs : List Rw) (knc : Addr) (kc : List Str) (tl : Int) (v6 v7 v8 v9 v10 v11 : Option V), σ = [some (.ref d), some (.ref sc), some (.ref knc), some (.int tl), some (.int deep), some (.ref lr), v6, v7, v8, v9, v10, v11] ∧ Wd G d l sc nl many xs ∧ Off [d, l, sc] H G ∧ G lr = some (.lst (refs rs)) ∧ RwsH G rs ∧ cntL rs ≤ i * pb m ∧ (knc = kn ∨ H knc = none) ∧ knc ≠ l ∧ knc ≠ lr ∧ G knc = some (.lst (kc.map V.str)) ∧ ScL ks rs kc ∧ telL rs + tl = tells ∧ TelOkL rs ∧ 0 ≤ tl ∧ tl ≤ 4)
    ⟨[], kn, ks, tells, none, none, none, none, none, none, rfl, W3, oA, h13, trivial, by simp [cntL], .inl rfl, nk, nlk, hk3, rfl, by simp [telL], trivial, t0, t4⟩ ?_ ?_⟩
  · rintro i σ G hi ⟨rs, knc, kc, tl, v6, v7, v8, v9, v10, v11, rfl, W4, o4, g1, hR, hc, hq, nkl, nkr, gk, hS, hT, hK, tl0, tl4⟩
    have i1 : i + 1 ≤ tn m := by omega
    have mul1 : (i + 1) * pb m ≤ tn m * pb m := Nat.mul_le_mul_right _ i1
    have mul2 : (i + 1) * pb m = i * pb m + pb m := Nat.succ_mul _ _
    have ki := ScL.len rs hS
    have li := len_cnt rs
    have pb1 : 1 ≤ pb m := by cases m <;> simp [pb]
    refine ⟨_, rfl, d, l, 8, rfl, W4.deal, by decide, by decide, fun fo H5 f0 f1 D5 o5 => ?_⟩
    have W5 := W4.out D5 o5
    refine ⟨_, rfl, _, rfl, _, _, rfl, rfl, d, l, tl + 1, rfl, D5, by omega, by omega, fun inn H6 q0 q1 D6 o6 => ?_⟩
    have W6 := W5.out D6 o6
    refine ⟨_, rfl, d, l, 3, rfl, D6, by decide, by decide, fun tu H7 u0 u1 D7 o7 => ⟨_, _, rfl, rfl, ?_⟩⟩
    have W7 := W6.out D7 o7
    have oB := o4.trans ((Off.out (sc := sc) o5).trans ((Off.out (sc := sc) o6).trans (Off.out (sc := sc) o7)))
    have oC : Off [d, l, sc] G H7 := (Off.out (sc := sc) o5).trans ((Off.out (sc := sc) o6).trans (Off.out (sc := sc) o7))
    have g17 := W4.keep g1 nlr oC
    have gk7 := W4.keep gk nkl oC
    have hR7 := RwsH.ts (W4.ts oC) rs hR
    clear W5 W6 D5 D6 D7 o5 o6 o7 oC W4 g1 gk hR o4
    have sz : (refs rs).length < sizeLine := by rw [refs_len]; exact big4 (by omega)
    have kz : kc.length ≤ 10000 := by omega
    -- the last tells of the block
    refine ⟨fun b G1 => G1 = H7 ∧ (b = true → fo = 0 ∧ 0 < tl), ⟨_, rfl, rfl, _, rfl, ?_⟩, ?_⟩
    · by_cases c : fo = 0
      · refine iteP (by rw [c]; exact decide_eq_true rfl) ⟨_, rfl, _, _, rfl, rfl, _, rfl, rfl, fun z => ⟨c, of_decide_eq_true z⟩⟩
      · exact iteN (fun z => c (by have z := of_decide_eq_true z; injection z)) ⟨rfl, fun z => nomatch z⟩
    rintro b G1 ⟨rfl, hb⟩
    cases b with
    | true =>
      refine iteP rfl ?_
      obtain ⟨_, tp⟩ := hb rfl
      refine ⟨_, rfl, _, _, rfl, rfl, ?_⟩
      refine ⟨_, rfl, .inl ⟨rfl, _, SqL.of g17⟩, _, rfl, _, rfl, _, rfl, d, l, 12, rfl, W7.deal, by decide, by decide, fun y H8 y0 y1 D8 o8 => ⟨_, _, rfl, rfl, ?_⟩⟩
      have W8 := W7.out D8 o8
      have g18 := deal_keep W7.deal g17 nlr o8
      have gk8 := deal_keep W7.deal gk7 nkl o8
      refine ⟨d, l, knc, kc, 1 + y, 6, rfl, D8, gk8, nkl, kz, by omega, by omega, by decide, fun t H9 D9 o9 h9 ok9 nm9 sz9 dp9 => ⟨by show 2 ≤ sizeLine; decide, fun p hp => ?_⟩⟩
      have W9 := W8.out D9 o9
      have g19 := deal_keep D8 g18 nlr o9
      have gk9 := deal_keep D8 gk8 nkl o9
      have sA := same_new hp (.tup [.str "tell", .ref t.p])
      have gA : upd H9 p (.tup [.str "tell", .ref t.p]) p = some (.tup [.str "tell", .ref t.p]) := upd_same
      have o79 : Off [d, l, sc] G1 H9 := (Off.out (sc := sc) o8).trans (Off.out (sc := sc) o9)
      have hR9 := RwsH.ts (W7.ts o79) rs hR7
      generalize upd H9 p (.tup [.str "tell", .ref t.p]) = HA at sA gA ⊢
      refine ⟨lr, _, _, rfl, rfl, sA _ _ g19, sz, ?_⟩
      have W10 := (W9.same sA).lst (zs := refs rs ++ [.ref p]) (sA _ _ g19) nlr nln
      have tsN := (TS.of sA).trans (TS.lst (ys := refs rs ++ [.ref p]) (sA _ _ g19))
      have gR : upd HA lr (.lst (refs rs ++ [.ref p])) lr = some (.lst (refs (rs ++ [.tell p t]))) := by rw [upd_same, refs_app]; rfl
      have hpN : upd HA lr (.lst (refs rs ++ [.ref p])) p = _ := TS.lst (sA _ _ g19) _ _ gA
      have gkN : upd HA lr (.lst (refs rs ++ [.ref p])) knc = _ := (upd_ne nkr).trans (sA _ _ gk9)
      have oD : Off [d, l, sc] H (upd HA lr (.lst (refs rs ++ [.ref p]))) := (oB.trans (o79.trans (.of sA))).new hlr
      have hRR := RwsH.ts tsN rs hR9
      refine ⟨rs ++ [.tell p t], knc, kc, tl - 1, _, _, _, _, _, _, rfl, W10, oD, gR, RwsH.app (qs := [.tell p t]) hRR ⟨⟨hpN, h9.ts tsN, ok9, by omega⟩, trivial⟩, ?_, hq, nkl, nkr, gkN, ScL.app (r := .tell p t) (ks := ks) hS ⟨rfl, nm9⟩, ?_, TelOkL.app (qs := [.tell p t]) hK ⟨trivial, trivial⟩, by omega, by omega⟩
      · rw [cntL_app]; simp only [cntL, Rw.cnt]; omega
      · rw [telL_app]; simp only [telL, tel]; omega
    | false =>
    refine iteN (by simp) ?_
    refine ⟨fun b G2 => G2 = G1 ∧ True, ⟨_, rfl, _, _, rfl, rfl, _, rfl, ?_⟩, ?_⟩
    · obtain ⟨lf, gl⟩ := W7.left
      refine ite2 (fun _ => ⟨_, rfl, sc, _, rfl, gl, _, _, rfl, rfl, _, rfl, rfl, trivial⟩) (fun _ => ⟨rfl, trivial⟩)
    rintro b G2 ⟨rfl, _⟩
    cases b with
    | true =>
      refine iteP rfl ?_
      refine ⟨_, rfl, sc, _, rfl, W7.names, _, rfl, _, rfl, sc, _, rfl, W7.names, nl, _, rfl, .inl (SqL.of W7.nms), d, l, _, rfl, W7.deal, by rw [List.length_map]; have := W7.x1; omega, by rw [List.length_map]; have := W7.x2; omega, fun y H8 y0 y1 D8 o8 => ?_⟩
      obtain ⟨v, hv, ha⟩ := at_nat y0 y1
      obtain ⟨x, rfl, hx⟩ := strs_at hv
      have W8 := W7.out D8 o8
      have g18 := deal_keep W7.deal g17 nlr o8
      have gk8 := deal_keep W7.deal gk7 nkl o8
      refine ⟨nl, _, _, .str x, rfl, rfl, SqL.of W8.nms, ha, ?_⟩
      refine ⟨_, rfl, .inl ⟨rfl, _, SqL.of g18⟩, _, rfl, _, rfl, _, rfl, _, rfl, d, l, sc, nl, knc, many, xs, kc, x, rfl, W8, gk8, nkl, kz, fun r H9 W9 o9 h9 set9 => ?_⟩
      have o89 : Off [d, l, sc] G2 H9 := (Off.out (sc := sc) o8).trans o9
      have g19 := W7.keep g17 nlr o89
      have gk9 := W7.keep gk7 nkl o89
      have hR9 := RwsH.ts (W7.ts o89) rs hR7
      refine ⟨lr, _, _, rfl, rfl, g19, sz, ?_⟩
      have W10 := W9.lst (zs := refs rs ++ [.ref r.p]) g19 nlr nln
      have tsN := TS.lst (ys := refs rs ++ [.ref r.p]) g19
      have gR : upd H9 lr (.lst (refs rs ++ [.ref r.p])) lr = some (.lst (refs (rs ++ [r]))) := by rw [upd_same, refs_app]; rfl
      have gkN : upd H9 lr (.lst (refs rs ++ [.ref r.p])) knc = _ := (upd_ne nkr).trans gk9
      have oD : Off [d, l, sc] H (upd H9 lr (.lst (refs rs ++ [.ref r.p]))) := (oB.trans o89).new hlr
      have hRR := RwsH.app (RwsH.ts tsN rs hR9) (show RwsH (upd H9 lr (.lst (refs rs ++ [.ref r.p]))) [r] from ⟨RwH.ts tsN r h9, trivial⟩)
      generalize upd H9 lr (.lst (refs rs ++ [.ref r.p])) = HN at W10 gR gkN oD hRR ⊢
      refine ⟨_, rfl, _, rfl, by show 1 ≤ sizeLine; decide, fun l11 hl11 => ?_⟩
      have s11 := same_new hl11 (.lst [.str x])
      have g11 : upd HN l11 (.lst [.str x]) l11 = some (.lst [.str x]) := upd_same
      generalize upd HN l11 (.lst [.str x]) = H11 at s11 g11 ⊢
      refine ⟨knc, l11, _, _, rfl, rfl, s11 _ _ gkN, g11, Nat.le_of_lt (big4 (by rw [List.length_map]; show kc.length + 1 ≤ _; omega)), fun l12 hl12 => ?_⟩
      have s12 := s11.trans (same_new hl12 (.lst (kc.map V.str ++ [.str x])))
      have n12 : H l12 = none := oD.fresh W10.all (s11.free hl12)
      have n12l := (deal_new (W10.deal.same s11) hl12).2
      have n12r : l12 ≠ lr := (ne_of_none (s11 _ _ gR) hl12).symm
      have ck : r.cnt = 1 ∧ ScR kc r (kc ++ [x]) ∧ tel r = 0 ∧ TelOk r := by
        rcases set9 with ⟨p, w, vs, rfl⟩ | ⟨p, t, rfl, nm⟩
        · exact ⟨rfl, rfl, rfl, trivial⟩
        · exact ⟨rfl, ⟨rfl, nm⟩, rfl, trivial⟩
      refine ⟨rs ++ [r], l12, kc ++ [x], tl, _, _, _, _, _, _, rfl, W10.same s12, oD.trans (.of s12), s12 _ _ gR, RwsH.ts (.of s12) _ hRR, ?_, .inr n12, n12l, n12r, ?_, ScL.app (ks := ks) hS ck.2.1, ?_, TelOkL.app hK ⟨ck.2.2.2, trivial⟩, tl0, tl4⟩
      · rw [cntL_app]; simp only [cntL]; have := ck.1; omega
      · rw [upd_same, List.map_append]; rfl
      · rw [telL_app]; simp only [telL]; have := ck.2.2.1; omega
    | false =>
    refine iteN (by simp) ?_
    refine ⟨fun b G3 => G3 = G2 ∧ (b = true → deep < 3), ⟨_, rfl, _, _, rfl, rfl, _, rfl, ?_⟩, ?_⟩
    · obtain ⟨lf, gl⟩ := W7.left
      refine ite2 (fun _ => ⟨_, rfl, _, _, rfl, rfl, _, rfl, ?_⟩) (fun _ => ⟨rfl, fun z => nomatch z⟩)
      by_cases c : deep < 3
      · exact iteP (decide_eq_true c) ⟨_, rfl, sc, _, rfl, gl, _, rfl, _, _, rfl, rfl, _, rfl, rfl, fun _ => c⟩
      · exact iteN (by simpa using c) ⟨rfl, fun z => nomatch z⟩
    rintro b G3 ⟨rfl, hb⟩
    cases b with
    | true =>
      refine iteP rfl ?_
      have d3 := hb rfl
      cases m with
      | zero => exact absurd d3 (by omega)
      | succ m =>
      have clm := cb_le m
      simp only [pb] at pb1 hc mul1 mul2 ce
      refine ⟨_, rfl, _, rfl, _, _, rfl, rfl, ?_⟩
      refine ⟨_, rfl, _, rfl, _, rfl, _, rfl, _, rfl, d, l, sc, nl, knc, many, xs, kc, inn, deep, rfl, W7, gk7, nkl, by omega, q0, by omega, by omega, by omega, fun p8 kn8 r8 k8 H8 W8 o8 h8 hr8 c8 f8 hk8 sc8 tl8 tk8 => ?_⟩
      refine ⟨p8, _, rfl, SqT.of h8, rfl, _, _, rfl, _, _, rfl, rfl, ?_⟩
      have g18 := W7.keep g17 nlr o8
      have hR8 := RwsH.ts (W7.ts o8) rs hR7
      have n8l := (deal_new W7.deal f8).2
      have n8r : kn8 ≠ lr := (ne_of_none g17 f8).symm
      have n8 : H kn8 = none := oB.fresh W7.all f8
      refine ⟨_, rfl, .inl ⟨rfl, _, SqL.of g18⟩, _, rfl, lr, _, _, rfl, rfl, g18, sz, ?_⟩
      have W10 := W8.lst (zs := refs rs ++ [.ref r8.p]) g18 nlr nln
      have tsN := TS.lst (ys := refs rs ++ [.ref r8.p]) g18
      have gR : upd H8 lr (.lst (refs rs ++ [.ref r8.p])) lr = some (.lst (refs (rs ++ [r8]))) := by rw [upd_same, refs_app]; rfl
      refine ⟨rs ++ [r8], kn8, k8, tl - inn, _, _, _, _, _, _, rfl, W10, (oB.trans o8).new hlr, gR, RwsH.app (RwsH.ts tsN rs hR8) ⟨RwH.ts tsN r8 hr8, trivial⟩, ?_, .inr n8, n8l, n8r, (upd_ne n8r).trans hk8, ScL.app (ks := ks) hS sc8, ?_, TelOkL.app hK ⟨tk8, trivial⟩, by omega, by omega⟩
      · rw [cntL_app]; simp only [cntL, pb]; omega
      · rw [telL_app]; simp only [telL]; omega
    | false =>
    refine iteN (by simp) ?_
    refine ⟨fun b G4 => G4 = G3 ∧ (b = true → deep < 3 ∧ inn * (1 + tu) ≤ tl), ⟨_, rfl, rfl, _, rfl, ?_⟩, ?_⟩
    · obtain ⟨lf, gl⟩ := W7.left
      refine ite2 (fun _ => ⟨_, rfl, _, _, rfl, rfl, _, rfl, ?_⟩) (fun _ => ⟨rfl, fun z => nomatch z⟩)
      by_cases c : deep < 3
      · refine iteP (decide_eq_true c) ⟨_, rfl, sc, _, rfl, gl, _, _, rfl, rfl, _, rfl, ?_⟩
        exact ite2 (fun _ => ⟨_, rfl, _, rfl, _, _, rfl, rfl, .inr ⟨by omega, by omega⟩, _, rfl, _, _, rfl, rfl, _, rfl, rfl, fun z => ⟨c, of_decide_eq_true z⟩⟩) (fun _ => ⟨rfl, fun z => nomatch z⟩)
      · exact iteN (by simpa using c) ⟨rfl, fun z => nomatch z⟩
    rintro b G4 ⟨rfl, hb⟩
    cases b with
    | true =>
      refine iteP rfl ?_
      obtain ⟨d3, it⟩ := hb rfl
      cases m with
      | zero => exact absurd d3 (by omega)
      | succ m =>
      have clm := cb_le m
      simp only [pb] at pb1 hc mul1 mul2 ce
      obtain ⟨lf, gl⟩ := W7.left
      have mb : CMul inn (1 + tu) := .inr ⟨by omega, by omega⟩
      refine ⟨_, rfl, sc, _, rfl, gl, _, _, rfl, rfl, _, rfl, _, rfl, _, _, rfl, rfl, mb, _, _, rfl, rfl, _, rfl, _, _, rfl, rfl, _, rfl, sc, _, rfl, W7.dput _, ?_⟩
      have W8 := W7.put (lf - 1 + inn * (1 + tu) - inn)
      have o8 := W7.off (lf - 1 + inn * (1 + tu) - inn)
      have g18 := W7.keep g17 nlr o8
      have gk8 := W7.keep gk7 nkl o8
      have hR8 := RwsH.ts (W7.ts o8) rs hR7
      generalize upd G4 sc (.dK (sceneK many nl (lf - 1 + inn * (1 + tu) - inn))) = H8 at W8 o8 g18 gk8 hR8 ⊢
      refine ⟨_, rfl, _, rfl, _, rfl, _, _, rfl, rfl, mb, _, _, rfl, rfl, ?_⟩
      refine ⟨_, rfl, _, rfl, _, rfl, _, rfl, _, rfl, _, _, rfl, rfl, d, l, sc, nl, knc, many, xs, kc, inn, deep + 1, rfl, W8, gk8, nkl, by omega, q0, by omega, by omega, by omega, fun p9 pr9 kn9 rs9 k9 H9 W9 o9 h9 hp9 hr9 c9 q9 n9 hk9 b9 => ?_⟩
      refine ⟨p9, _, rfl, SqT.of h9, rfl, _, _, rfl, _, _, rfl, rfl, ?_⟩
      have g19 := W8.keep g18 nlr o9
      have hR9 := RwsH.ts (W8.ts o9) rs hR8
      have n9r : kn9 ≠ lr := by
        rcases q9 with e | e
        · rw [e]; exact nkr
        · exact (ne_of_none g18 e).symm
      have n9f : kn9 = kn ∨ H kn9 = none := by
        rcases q9 with e | e
        · rw [e]; exact hq
        · exact .inr ((oB.trans o8).fresh W8.all e)
      refine ⟨_, rfl, .inl ⟨rfl, _, SqL.of g19⟩, _, rfl, _, rfl, by show 3 ≤ sizeLine; decide, fun p hp => ?_⟩
      have sA := same_new hp (.tup [.str "times", .int (1 + tu), .ref pr9])
      have gA : upd H9 p (.tup [.str "times", .int (1 + tu), .ref pr9]) p = some (.tup [.str "times", .int (1 + tu), .ref pr9]) := upd_same
      generalize upd H9 p (.tup [.str "times", .int (1 + tu), .ref pr9]) = HA at sA gA ⊢
      refine ⟨lr, _, _, rfl, rfl, sA _ _ g19, sz, ?_⟩
      have W10 := (W9.same sA).lst (zs := refs rs ++ [.ref p]) (sA _ _ g19) nlr nln
      have tsN := (TS.of sA).trans (TS.lst (ys := refs rs ++ [.ref p]) (sA _ _ g19))
      have gR : upd HA lr (.lst (refs rs ++ [.ref p])) lr = some (.lst (refs (rs ++ [.times p pr9 (1 + tu) rs9]))) := by rw [upd_same, refs_app]; rfl
      refine ⟨rs ++ [.times p pr9 (1 + tu) rs9], kn9, k9, tl - inn * (1 + tu), _, _, _, _, _, _, rfl, W10, (oB.trans (o8.trans (o9.trans (.of sA)))).new hlr, gR, RwsH.app (qs := [.times p pr9 (1 + tu) rs9]) (RwsH.ts tsN rs hR9) ⟨⟨TS.lst (sA _ _ g19) _ _ gA, tsN _ _ hp9, RwsH.ts tsN rs9 hr9⟩, trivial⟩, ?_, n9f, n9, n9r, (upd_ne n9r).trans (sA _ _ hk9), ScL.app (r := .times p pr9 (1 + tu) rs9) (ks := ks) hS b9.sc, ?_, TelOkL.app (qs := [.times p pr9 (1 + tu) rs9]) hK ⟨⟨⟨by omega, by omega, by rw [b9.tl]; omega, by rw [b9.tl]; omega⟩, b9.tk⟩, trivial⟩, by omega, by have := Int.mul_nonneg q0 (show (0 : Int) ≤ 1 + tu by omega); omega⟩
      · rw [cntL_app]; simp only [cntL, Rw.cnt, pb]; omega
      · rw [telL_app]
        simp only [telL, tel]
        rw [b9.tl, Int.mul_comm (1 + tu) inn]
        omega
    | false =>
      refine iteN (by simp) ?_
      exact ⟨rs, knc, kc, tl, _, _, _, _, _, _, rfl, W7, oB, g17, hR7, by omega, hq, nkl, nkr, gk7, hS, hT, hK, tl0, tl4⟩
  · rintro σ G ⟨rs, knc, kc, tl, v6, v7, v8, v9, v10, v11, rfl, W4, o4, g1, hR, hc, hq, nkl, nkr, gk, hS, hT, hK, tl0, tl4⟩
    have mul1 : n.toNat * pb m ≤ tn m * pb m := Nat.mul_le_mul_right _ (by omega)
    have ki := ScL.len rs hS
    refine ⟨_, rfl, tl, rfl, by omega, by omega, for_range (n := tl.toNat) (fun i σ G => ∃ (rs : List Rw) (v6 : Option V), σ = [some (.ref d), some (.ref sc), some (.ref knc), some (.int tl), some (.int deep), some (.ref lr), v6, v7, v8, v9, v10, v11] ∧ Wd G d l sc nl many xs ∧ Off [d, l, sc] H G ∧ G lr = some (.lst (refs rs)) ∧ RwsH G rs ∧ cntL rs ≤ tn m * pb m + i ∧ G knc = some (.lst (kc.map V.str)) ∧ ScL ks rs kc ∧ telL rs + (tl - (i : Int)) = tells ∧ TelOkL rs)
      ⟨rs, v6, rfl, W4, o4, g1, hR, by omega, gk, hS, by omega, hK⟩ ?_ ?_⟩
    · rintro i σ G' hi ⟨rs, v6, rfl, W7, o7, g17, hR7, hc, gk7, hS, hT, hK⟩
      have li := len_cnt rs
      have sz : (refs rs).length < sizeLine := by rw [refs_len]; exact big4 (by omega)
      refine ⟨_, rfl, .inl ⟨rfl, _, SqL.of g17⟩, _, rfl, _, rfl, _, rfl, d, l, 6, rfl, W7.deal, by decide, by decide, fun y H8 y0 y1 D8 o8 => ⟨_, _, rfl, rfl, ?_⟩⟩
      have W8 := W7.out D8 o8
      have g18 := deal_keep W7.deal g17 nlr o8
      have gk8 := deal_keep W7.deal gk7 nkl o8
      refine ⟨d, l, knc, kc, 1 + y, 4, rfl, D8, gk8, nkl, by omega, by omega, by omega, by decide, fun t H9 D9 o9 h9 ok9 nm9 sz9 dp9 => ⟨by show 2 ≤ sizeLine; decide, fun p hp => ?_⟩⟩
      have oB := o7
      have W9 := W8.out D9 o9
      have g19 := deal_keep D8 g18 nlr o9
      have gk9 := deal_keep D8 gk8 nkl o9
      have sA := same_new hp (.tup [.str "tell", .ref t.p])
      have gA : upd H9 p (.tup [.str "tell", .ref t.p]) p = some (.tup [.str "tell", .ref t.p]) := upd_same
      have o79 : Off [d, l, sc] G' H9 := (Off.out (sc := sc) o8).trans (Off.out (sc := sc) o9)
      have hR9 := RwsH.ts (W7.ts o79) rs hR7
      generalize upd H9 p (.tup [.str "tell", .ref t.p]) = HA at sA gA ⊢
      refine ⟨lr, _, _, rfl, rfl, sA _ _ g19, sz, ?_⟩
      have W10 := (W9.same sA).lst (zs := refs rs ++ [.ref p]) (sA _ _ g19) nlr nln
      have tsN := (TS.of sA).trans (TS.lst (ys := refs rs ++ [.ref p]) (sA _ _ g19))
      have gR : upd HA lr (.lst (refs rs ++ [.ref p])) lr = some (.lst (refs (rs ++ [.tell p t]))) := by rw [upd_same, refs_app]; rfl
      have hpN : upd HA lr (.lst (refs rs ++ [.ref p])) p = _ := TS.lst (sA _ _ g19) _ _ gA
      have gkN : upd HA lr (.lst (refs rs ++ [.ref p])) knc = _ := (upd_ne nkr).trans (sA _ _ gk9)
      have oD : Off [d, l, sc] H (upd HA lr (.lst (refs rs ++ [.ref p]))) := (oB.trans (o79.trans (.of sA))).new hlr
      have hRR := RwsH.ts tsN rs hR9
      refine ⟨rs ++ [.tell p t], _, rfl, W10, oD, gR, RwsH.app (qs := [.tell p t]) hRR ⟨⟨hpN, h9.ts tsN, ok9, by omega⟩, trivial⟩, ?_, gkN, ScL.app (r := .tell p t) (ks := ks) hS ⟨rfl, nm9⟩, ?_, TelOkL.app (qs := [.tell p t]) hK ⟨trivial, trivial⟩⟩
      · rw [cntL_app]; simp only [cntL, Rw.cnt]; omega
      · rw [telL_app]; simp only [telL, tel]; omega
    · rintro σ G' ⟨rs, v6, rfl, W7, o7, g17, hR7, hc, gk7, hS, hT, hK⟩
      refine ⟨_, rfl, lr, _, rfl, .inl ⟨SqL.of g17, fun t ht => ⟨_, rfl, by show 2 ≤ sizeLine; decide, fun p hp => ?_⟩⟩⟩
      have sF := (same_new ht (.tup (refs rs))).trans (same_new hp (.tup [.ref t, .ref knc]))
      exact k p t knc rs kc _ (W7.same sF) (o7.trans (.of sF)) upd_same ((same_new hp _) _ _ upd_same) (RwsH.ts (.of sF) rs hR7) (by omega) hq nkl (sF _ _ gk7) ⟨hS, by omega, hK⟩
end
end Mine
namespace Mine
open PySem L2
section
variable {P : Program} {w : World} {K : PySem.W.Frag} {mg : Str → Option Value} {base : Heap}
theorem nd_Prg1 : (["_law_k", "_law_kinds", "_law_deal_here"] : List Str).Nodup := by decide +kernel
theorem nd_Prg2 : (["_law_k", "_law_kinds", "_law_deal_here"] : List Str).Nodup := by decide +kernel
theorem nd_Prg3 : (["_law_k", "_law_kinds", "_law_deal_here"] : List Str).Nodup := by decide +kernel
theorem nd_Prg4 : (["_law_k", "_law_kinds", "_law_deal_here"] : List Str).Nodup := by decide +kernel
theorem scPrg : FnScope ["_law_deal_here", "_law_most", "_law_many", "_law_tells", "_law_kinds", "_law_names_here", "_law_scene", "_law_rows", "_law_known"] ["_law_deal_here", "_law_most"] (defScope sPrg) := ⟨rfl, rfl, rfl, by decide +kernel, rfl, by decide +kernel, by decide +kernel⟩
theorem ok_Prg {f : Addr} {fd : FuncData} (F : Fun K "_law_program" "_law_program" sPrg f fd)
    {f_Nms : Addr} {d_Nms : FuncData} (G_Nms : FnOk P w K mg base CX0 (2) f_Nms d_Nms ["_law_deal_here", "_law_many"] spNames) (b_Nms : Binds K d_Nms ["_law_deal_here", "_law_many"] []) (k_Nms : PySem.W.keepIn K (.ref f_Nms) = true) (m_Nms : mg "_law_names" = some (.ref f_Nms))
    {f_Blk : Addr} {d_Blk : FuncData} (G_Blk : FnOk P w K mg base CX0 (16) f_Blk d_Blk ["_law_deal_here", "_law_scene", "_law_known", "_law_tells", "_law_deep"] (spBlk 3)) (b_Blk : Binds K d_Blk ["_law_deal_here", "_law_scene", "_law_known", "_law_tells", "_law_deep"] []) (k_Blk : PySem.W.keepIn K (.ref f_Blk) = true) (m_Blk : mg "_law_block" = some (.ref f_Blk))
    {f_Draw : Addr} {d_Draw : FuncData} (G_Draw : FnOk P w K mg base CX0 (1) f_Draw d_Draw ["_law_deal_here", "_law_many"] spDraw) (b_Draw : Binds K d_Draw ["_law_deal_here", "_law_many"] []) (k_Draw : PySem.W.keepIn K (.ref f_Draw) = true) (m_Draw : mg "_law_draw" = some (.ref f_Draw))
    (m_tuple : mg "tuple" = none) (m_range : mg "range" = none) (m_len : mg "len" = none) :
    FnOk P w K mg base CX0 (17) f fd ["_law_deal_here", "_law_most"] spPrg := by
  refine F.ok scPrg (fun vs H Q E h => ?_) (fun cdv A outer s H vs Q E hr h => ?_)
  · obtain ⟨d, l, m, rfl, _⟩ := h
    rfl
  obtain ⟨d, l, m, rfl, D, k⟩ := h
  have hu := hu_of hr
  have hr1 : Room 1 _ := hr.mono (by decide)
  have hr2 : Room 2 _ := hr.mono (by decide)
  have hr16 : Room 16 _ := hr.mono (by decide)
  refine ⟨_, (pss_cons (ps_set (i := 2) scPrg.nd rfl (Or.inl rfl) (pe_op op_add pe_int (pe_call G_Draw hr1 (by rfl) m_Draw k_Draw b_Draw .nil pass0 (pa_cons (pv 0) (pa_cons pe_int pa_nil)))))
    (pss_cons (ps_set (i := 3) scPrg.nd rfl (Or.inl rfl) (pe_op op_add pe_int (pe_call G_Draw hr1 (by rfl) m_Draw k_Draw b_Draw .nil pass0 (pa_cons (pv 0) (pa_cons pe_int pa_nil)))))
    (pss_cons (ps_set (i := 4) scPrg.nd rfl (Or.inr rfl) (pe_call G_Nms hr2 (by rfl) m_Nms k_Nms b_Nms .nil pass0 (pa_cons (pv 0) (pa_cons pe_int pa_nil))))
    (pss_cons (ps_set (i := 5) scPrg.nd rfl (Or.inl rfl) (pe_slice sl_list (pe_ix ix_list (pe_lst (pa_cons (pv 4) (pa_cons (pe_call G_Nms hr2 (by rfl) m_Nms k_Nms b_Nms .nil pass0 (pa_cons (pv 0) (pa_cons pe_int pa_nil))) pa_nil))) (pe_call G_Draw hr1 (by rfl) m_Draw k_Draw b_Draw .nil pass0 (pa_cons (pv 0) (pa_cons pe_int pa_nil))) (fun _ _ => rfl)) po_none (po_some pe_int)))
    (pss_cons (ps_set (i := 6) scPrg.nd rfl (Or.inl rfl) (pe_disp (pps_cons pe_str (pv 2) (pps_cons pe_str (pv 5) (pps_cons pe_str (pe_op op_sub (pv 1) (pv 3)) pps_nil))) rfl rfl (by decide) (by decide)))
    (pss_cons (ps_asg (pe_call G_Blk hr16 (by rfl) m_Blk k_Blk b_Blk .nil pass0 (pa_cons (pv 0) (pa_cons (pv 6) (pa_cons (pe_lst pa_nil) (pa_cons (pv 3) (pa_cons pe_int pa_nil)))))) (pg_tup rfl (pgs_cons (pg_name (i := 7) scPrg.nd rfl (Or.inl rfl)) (pgs_cons (pg_name (i := 8) scPrg.nd rfl (Or.inl rfl)) pgs_nil))))
    (pss_one (ps_ret (pe_tup (pa_cons (pe_callTy call_tuple_of (by rfl) m_tuple PyProof.Rows.boot_tuple (pa_cons (pe_comp ["_law_k", "_law_kinds", "_law_deal_here"] [none, some 4, some 0] (pi_range1 (by rfl) m_range (pa_cons (pv 2) pa_nil)) (fun _ _ _ _ => (pg_name (i := 0) (nd_Prg2) rfl (Or.inl rfl))) (fun _ _ _ _ => pf_nil) (fun _ _ _ _ => (pe_bmK K PySem.F.plainAttrs_list PySem.F.slot_list_pop PySem.F.type_list_pop mt_popAt (pv 1) (pa_cons (pe_call G_Draw hr1 (by rfl) m_Draw k_Draw b_Draw .nil pass0 (pa_cons (pv 2) (pa_cons (pe_callB (lenK K) (by rfl) m_len PySem.boot_len (pa_cons (pv 1) pa_nil)) pa_nil))) pa_nil)))) pa_nil)) (pa_cons (pv 7) pa_nil))))))))))), ?_⟩
  refine ⟨_, rfl, d, l, 3, rfl, D, by decide, by decide, fun y1 H1 a0 a1 D1 o1 => ⟨_, _, rfl, rfl, ?_⟩⟩
  refine ⟨_, rfl, d, l, 4, rfl, D1, by decide, by decide, fun y2 H2 b0 b1 D2 o2 => ⟨_, _, rfl, rfl, ?_⟩⟩
  refine ⟨_, rfl, d, l, 9, rfl, D2, by decide, by decide, fun rk xk H3 D3 o3 fk hk3 lk3 ndk => ?_⟩
  have nk := (deal_new D2 fk).2
  have hk0 : H rk = none := out_fresh D2 (o1.trans o2) fk
  refine ⟨_, rfl, _, rfl, d, l, 6, rfl, D3, by decide, by decide, fun rn xn H4 D4 o4 fn hn4 ln4 _ => ⟨by show 2 ≤ sizeLine; decide, fun l5 hl5 => ?_⟩⟩
  have nn := (deal_new D3 fn).2
  have nkn : rk ≠ rn := ne_of_none hk3 fn
  have hk4 := deal_keep D3 hk3 nk o4
  have n5 := (deal_new D4 hl5).2
  have n5k : rk ≠ l5 := ne_of_none hk4 hl5
  have s5 := same_new hl5 (.lst [.ref rk, .ref rn])
  have h5 : upd H4 l5 (.lst [.ref rk, .ref rn]) l5 = some (.lst [.ref rk, .ref rn]) := upd_same
  generalize upd H4 l5 (.lst [.ref rk, .ref rn]) = H5 at s5 h5 ⊢
  have D5 := D4.same s5
  refine ⟨_, rfl, d, l, 2, rfl, D5, by decide, by decide, fun x H6 x0 x1 D6 o6 => ?_⟩
  have hk6 := deal_keep D5 (s5 _ _ hk4) nk o6
  have hn6 := deal_keep D5 (s5 _ _ hn4) nn o6
  have h56 := deal_keep D5 h5 n5 o6
  obtain ⟨rr, xr, ha, hr6, hl6⟩ : ∃ (rr : Addr) (xr : List Str), atI [V.ref rk, V.ref rn] x = some (.ref rr) ∧ H6 rr = some (.lst (xr.map V.str)) ∧ 6 ≤ xr.length := by
    have : x = 0 ∨ x = 1 := by omega
    rcases this with rfl | rfl
    · exact ⟨rk, xk, rfl, hk6, by omega⟩
    · exact ⟨rn, xn, rfl, hn6, by omega⟩
  refine ⟨l5, _, _, .ref rr, rfl, rfl, SqL.of h56, ha, 6, rfl, rr, _, rfl, SqL.of hr6, fun nl hnl => ?_⟩
  obtain ⟨ys, ey, ly⟩ := cut6 hl6
  rw [ey]
  have nnl := (deal_new D6 hnl).2
  have nnk : nl ≠ rk := (ne_of_none hk6 hnl).symm
  have oA := o1.trans (o2.trans (o3.trans (o4.trans ((Out.of (d := d) (l := l) s5).trans o6))))
  have s7 := same_new hnl (.lst (ys.map V.str))
  have h7 : upd H6 nl (.lst (ys.map V.str)) nl = some (.lst (ys.map V.str)) := upd_same
  generalize upd H6 nl (.lst (ys.map V.str)) = H7 at s7 h7 ⊢
  have D7 := D6.same s7
  have o7 := oA.trans (Out.of (d := d) (l := l) s7)
  refine fun sc hsc => ⟨_, rfl, _, rfl, _, rfl, _, rfl, _, _, rfl, rfl, upd_same, sceneK (1 + y1) nl (m - (1 + y2)), rfl, by show 3 ≤ 15; decide, ?_⟩
  rw [merge_scene, upd_upd]
  have sc0 : H sc = none := out_fresh D7 o7 hsc
  have nsd := (deal_new D7 hsc).1
  have s8 := same_new hsc (.dK (sceneK (1 + y1) nl (m - (1 + y2))))
  have h8 : upd H7 sc (.dK (sceneK (1 + y1) nl (m - (1 + y2)))) sc = some (.dK (sceneK (1 + y1) nl (m - (1 + y2)))) := upd_same
  generalize upd H7 sc (.dK (sceneK (1 + y1) nl (m - (1 + y2)))) = H8 at s8 h8 ⊢
  have o8 := o7.trans (Out.of (d := d) (l := l) s8)
  refine ⟨_, rfl, _, rfl, Nat.zero_le _, fun kn hkn => ?_⟩
  have nkl := (deal_new (D7.same s8) hkn).2
  have s9 := same_new hkn (.lst [])
  have h9 : upd H8 kn (.lst []) kn = some (.lst ([].map V.str)) := upd_same
  generalize upd H8 kn (.lst []) = H9 at s9 h9 ⊢
  have o9 := o8.trans (Out.of (d := d) (l := l) s9)
  have W9 : Wd H9 d l sc nl (1 + y1) ys := ⟨(D7.same s8).same s9, ⟨_, s9 _ _ h8⟩, (s8.trans s9) _ _ h7, nsd, nnl, by omega, by omega, by omega, by omega⟩
  refine ⟨_, rfl, d, l, sc, nl, kn, 1 + y1, ys, [], 1 + y2, 0, rfl, W9, h9, nkl, by decide, by omega, by omega, by decide, by decide, fun pA prA knA rsA kA HA WA oA' hA hpA hrA cA qA nA hkA bA => ?_⟩
  refine ⟨pA, _, rfl, SqT.of hA, rfl, _, _, rfl, _, _, rfl, rfl, ?_⟩
  have hkA9 := W9.keep ((s7.trans (s8.trans s9)) _ _ hk6) nk oA'
  have oB := out_off o9 sc0 oA'
  refine ⟨_, rfl, 1 + y1, rfl, by omega, by omega, comp_range (n := (1 + y1).toNat) (fun i vs σ G => Deal G d l ∧ Out d l H G ∧ TS HA G ∧ (∃ v, σ = [v, some (.ref rk), some (.ref d)]) ∧ ∃ zs ws : List Str, vs = ws.map V.str ∧ ws.length = i ∧ G rk = some (.lst (zs.map V.str)) ∧ zs.length + i = 9 ∧ (ws ++ zs).Nodup)
    (small1000 (by omega)) ⟨WA.deal, oB, fun _ _ e => e, ⟨_, rfl⟩, xk, [], rfl, rfl, hkA9, by omega, ndk⟩ (by rintro i vs σ G ⟨_, _, _, _, zs, ws, e, e2, _⟩; rw [e, List.length_map]; omega) ?_ ?_⟩
  · rintro i vs σ G hi ⟨DB, oC, tB, ⟨v, rfl⟩, zs, ws, rfl, hw, hz, hl, nd⟩
    refine ⟨_, rfl, .inl ⟨rfl, _, SqL.of hz⟩, _, rfl, _, rfl, rk, _, rfl, .inl (SqL.of hz), d, l, _, rfl, DB, by rw [List.length_map]; omega, by rw [List.length_map]; omega, fun z HC z0 z1 DC oC2 => ?_⟩
    have hzC := deal_keep DB hz nk oC2
    obtain ⟨v, hv, _⟩ := at_nat z0 z1
    obtain ⟨w, rfl, hw2⟩ := strs_at hv
    have zl := z1
    rw [List.length_map] at zl
    refine ⟨rk, _, z, z.toNat, .str w, rfl, rfl, hzC, by omega, by omega, seqI z0 z1, hv, ?_⟩
    rw [eraseIdx_texts]
    refine ⟨deal_lst DC hzC nk, out_lst (oC.trans oC2) hk0, tB.trans ((TS.out DB oC2).trans (TS.lst hzC)), ⟨_, rfl⟩, zs.eraseIdx z.toNat, ws ++ [w], by rw [List.map_append]; rfl, by rw [List.length_append, hw]; rfl, upd_same, ?_, nodup_pop nd hw2⟩
    rw [List.length_eraseIdx_of_lt (by omega)]
    omega
  · rintro vs σ G ⟨DB, oC, tB, _, zs, ws, rfl, hw, hz, hl, nd⟩ lx hlx
    refine ⟨lx, _, rfl, .inl ⟨SqL.of upd_same, fun tk htk => ⟨_, rfl, by show 2 ≤ sizeLine; decide, fun p hp => ?_⟩⟩⟩
    have sF := (same_new hlx (.lst (ws.map V.str))).trans ((same_new htk (.tup (ws.map V.str))).trans (same_new hp (.tup [.ref tk, .ref prA])))
    have tF := tB.trans (.of sF)
    refine k p ws rsA kA (1 + y2) _ (DB.same sF) (oC.trans (.of sF)) ⟨⟨tk, prA, upd_same, (same_new hp _) _ _ upd_same, tF _ _ hpA⟩, RwsH.ts tF rsA hrA, Nat.le_trans cA (by decide), bA.sc, bA.tl, bA.tk, by omega, by omega, by omega, (List.nodup_append.mp nd).1⟩ (Nat.le_trans cA (by decide)) (by omega)
end
end Mine
namespace Mine
open PySem L2
section
variable {P : Program} {w : World} {K : PySem.W.Frag} {mg : Str → Option Value} {base : Heap}
theorem nd_Alk1 : (["_law_row"] : List Str).Nodup := by decide +kernel
theorem scAlk : FnScope ["_law_deal_here", "_law_program_here", "_law_kinds", "_law_rows", "_law_more", "_law_found", "_law_called"] ["_law_deal_here", "_law_program_here"] (defScope sAlk) := ⟨rfl, rfl, rfl, by decide +kernel, rfl, by decide +kernel, by decide +kernel⟩
theorem ok_Alk {f : Addr} {fd : FuncData} (F : Fun K "_law_alike" "_law_alike" sAlk f fd)
    {f_Thw : Addr} {d_Thw : FuncData} (G_Thw : FnOk P w K mg base CX0 (3) f_Thw d_Thw ["_law_deal_here", "_law_many", "_law_x"] spThrow) (b_Thw : Binds K d_Thw ["_law_deal_here", "_law_many", "_law_x"] []) (k_Thw : PySem.W.keepIn K (.ref f_Thw) = true) (m_Thw : mg "_law_throw" = some (.ref f_Thw))
    {f_Nms : Addr} {d_Nms : FuncData} (G_Nms : FnOk P w K mg base CX0 (2) f_Nms d_Nms ["_law_deal_here", "_law_many"] spNames) (b_Nms : Binds K d_Nms ["_law_deal_here", "_law_many"] []) (k_Nms : PySem.W.keepIn K (.ref f_Nms) = true) (m_Nms : mg "_law_names" = some (.ref f_Nms))
    {f_Draw : Addr} {d_Draw : FuncData} (G_Draw : FnOk P w K mg base CX0 (1) f_Draw d_Draw ["_law_deal_here", "_law_many"] spDraw) (b_Draw : Binds K d_Draw ["_law_deal_here", "_law_many"] []) (k_Draw : PySem.W.keepIn K (.ref f_Draw) = true) (m_Draw : mg "_law_draw" = some (.ref f_Draw))
    (m_len : mg "len" = none) (m_all : mg "all" = none) (m_tuple : mg "tuple" = none) :
    FnOk P w K mg base CX0 (4) f fd ["_law_deal_here", "_law_program_here"] spAlike := by
  refine F.ok scAlk (fun vs H Q E h => ?_) (fun cdv A outer s H vs Q E hr h => ?_)
  · obtain ⟨d, l, p, ks, rs, k2, tells, rfl, _⟩ := h
    rfl
  obtain ⟨d, l, p, ks, rs, k2, tells, rfl, D, P0, hcn, ht4, k⟩ := h
  have hu := hu_of hr
  have hr1 : Room 1 _ := hr.mono (by decide)
  have hr2 : Room 2 _ := hr.mono (by decide)
  have hr3 : Room 3 _ := hr.mono (by decide)
  refine ⟨_, (pss_cons (ps_asg (pv 1) (pg_tup rfl (pgs_cons (pg_name (i := 2) scAlk.nd rfl (Or.inl rfl)) (pgs_cons (pg_name (i := 3) scAlk.nd rfl (Or.inl rfl)) pgs_nil))))
    (pss_cons (ps_set (i := 4) scAlk.nd rfl (Or.inl rfl) (pe_call G_Thw hr3 (by rfl) m_Thw k_Thw b_Thw .nil pass0 (pa_cons (pv 0) (pa_cons (pe_callB call_len_seq (by rfl) m_len PySem.boot_len (pa_cons (pv 2) pa_nil)) (pa_cons pe_str pa_nil)))))
    (pss_cons (ps_set (i := 5) scAlk.nd rfl (Or.inl rfl) (pe_lst (pa_cons (pv 1) (pa_cons (pe_tup (pa_cons (pv 2) (pa_cons (pe_op op_catA (pe_tup (pa_cons (pv 4) pa_nil)) (pv 3)) pa_nil))) (pa_cons (pe_tup (pa_cons (pv 2) (pa_cons (pe_op op_catA (pv 3) (pe_tup (pa_cons (pv 4) (pa_cons (pe_tup (pa_cons pe_str (pa_cons (pe_tup (pa_cons pe_str (pa_cons pe_str pa_nil))) pa_nil))) pa_nil)))) pa_nil))) pa_nil)))))
    (pss_cons (ps_set (i := 6) scAlk.nd rfl (Or.inl rfl) (pe_slice sl_list (pe_call G_Nms hr2 (by rfl) m_Nms k_Nms b_Nms .nil pass0 (pa_cons (pv 0) (pa_cons pe_int pa_nil))) po_none (po_some (pe_callB call_len_seq (by rfl) m_len PySem.boot_len (pa_cons (pv 2) pa_nil)))))
    (pss_cons (ps_expr (pe_bm PySem.F.plainAttrs_list PySem.F.slot_list_append PySem.F.type_list_append mt_append (pv 5) (pa_cons (pe_tup (pa_cons (pe_callTy call_tuple_of (by rfl) m_tuple PyProof.Rows.boot_tuple (pa_cons (pv 6) pa_nil)) (pa_cons (pe_op op_catA (pe_tup (pa_cons (pe_tup (pa_cons pe_str (pa_cons (pe_ix ix_list (pv 6) pe_int (fun _ _ => rfl)) (pa_cons (pe_tup (pa_cons pe_str (pa_cons pe_int pa_nil))) pa_nil)))) pa_nil)) (pv 3)) pa_nil))) pa_nil)))
    (pss_cons (ps_post (ps_if (PW.pt (pw_and (pt_cmpR op_gt (pe_callB call_len_seq (by rfl) m_len PySem.boot_len (pa_cons (pv 3) pa_nil)) pe_int (nomark _)) (pw_and1 (pt_val (pe_callB call_all (by rfl) m_all PyProof.Rows.boot_all (pa_cons (pe_comp ["_law_row"] [none] (pi_tup (pv 3)) (fun _ _ _ _ => (pg_name (i := 0) (nd_Alk1) rfl (Or.inl rfl))) (fun _ _ _ _ => pf_nil) (fun _ _ _ _ => (pe_cmpR (ninK K) (pe_ix (ixtK K) (pv 0) pe_int (fun _ _ => rfl)) (pe_tup (pa_cons pe_str (pa_cons pe_str pa_nil))) rfl))) pa_nil)))))) (pss_cons (ps_expr (pe_bm PySem.F.plainAttrs_list PySem.F.slot_list_append PySem.F.type_list_append mt_append (pv 5) (pa_cons (pe_tup (pa_cons (pv 2) (pa_cons (pe_tup (pa_cons (pe_tup (pa_cons pe_str (pa_cons (pe_op op_add pe_int (pe_call G_Draw hr1 (by rfl) m_Draw k_Draw b_Draw .nil pass0 (pa_cons (pv 0) (pa_cons pe_int pa_nil)))) (pa_cons (pv 3) pa_nil)))) pa_nil)) pa_nil))) pa_nil)))
    (pss_one (ps_if (pt_cmpR op_lt (pe_callB call_len_seq (by rfl) m_len PySem.boot_len (pa_cons (pv 3) pa_nil)) pe_int (nomark _)) (pss_one (ps_expr (pe_bm PySem.F.plainAttrs_list PySem.F.slot_list_append PySem.F.type_list_append mt_append (pv 5) (pa_cons (pe_tup (pa_cons (pv 2) (pa_cons (pe_tup (pa_cons (pe_tup (pa_cons pe_str (pa_cons (pe_tup (pa_cons pe_str (pa_cons (pe_call G_Draw hr1 (by rfl) m_Draw k_Draw b_Draw .nil pass0 (pa_cons (pv 0) (pa_cons pe_int pa_nil))) pa_nil))) (pa_cons (pv 3) (pa_cons (pv 3) pa_nil))))) pa_nil)) pa_nil))) pa_nil)))) pss_nil))) pss_nil))
    (pss_one (ps_ret (pv 5))))))))), ?_⟩
  obtain ⟨pk, pr, hp, hk, hpr⟩ := P0.ex
  have k1 := P0.k1
  have k3 := P0.k3
  have rl := len_cnt rs
  have t1 := P0.t1
  refine ⟨_, rfl, p, _, rfl, SqT.of hp, rfl, _, _, rfl, _, _, rfl, rfl, ?_⟩
  refine ⟨_, rfl, _, rfl, pk, _, rfl, .inr (SqT.of hk), d, l, _, "zzzzzzzz", rfl, D, by rw [List.length_map]; omega, by rw [List.length_map]; omega, fun pm w us H1 D1 o1 h1 ok1 => ?_⟩
  have ts1 := TS.out D o1
  have hR1 := RwsH.ts ts1 rs P0.rows
  have hpr1 := ts1 _ _ hpr
  have hk1 := ts1 _ _ hk
  have hM1 : RwH H1 (.thr pm w "zzzzzzzz" us) := ⟨h1, ok1⟩
  refine ⟨_, rfl, _, rfl, _, rfl, by show 1 ≤ sizeLine; decide, fun ta hta => ⟨_, rfl, ?_⟩⟩
  have sA := same_new hta (.tup [.ref pm])
  have gA : upd H1 ta (.tup [.ref pm]) ta = some (.tup [.ref pm]) := upd_same
  generalize upd H1 ta (.tup [.ref pm]) = HA at sA gA ⊢
  refine ⟨ta, pr, _, _, rfl, rfl, gA, sA _ _ hpr1, by rw [refs_len]; exact Nat.le_of_lt (big4 (by show 1 + rs.length ≤ _; omega)), fun rB HB sB hB => ⟨by show 2 ≤ sizeLine; decide, fun tC htC => ?_⟩⟩
  have sC := sA.trans (sB.trans (same_new htC (.tup [.ref pk, .ref rB])))
  have gC : upd HB tC (.tup [.ref pk, .ref rB]) tC = some (.tup [.ref pk, .ref rB]) := upd_same
  have hBC := (same_new htC (.tup [.ref pk, .ref rB])) _ _ hB
  generalize upd HB tC (.tup [.ref pk, .ref rB]) = HC at sC gC hBC ⊢
  obtain ⟨kw, scw, _⟩ := ScL.wide rs ["zzzzzzzz"] P0.sc (fun _ z => absurd z List.not_mem_nil)
  have hMC := RwH.ts (.of sC) _ hM1
  have hRC := RwsH.ts (.of sC) rs hR1
  have PC : PrgH HC tC ks (.thr pm w "zzzzzzzz" us :: rs) kw tells := ⟨⟨pk, rB, gC, sC _ _ hk1, hBC⟩, ⟨hMC, hRC⟩, by show 1 + cntL rs ≤ 4000; omega, ⟨_, rfl, scw⟩, by show 0 + telL rs = tells; rw [P0.tl, Int.zero_add], ⟨trivial, P0.tk⟩, k1, k3, t1, P0.nd⟩
  refine ⟨_, rfl, _, rfl, _, rfl, by show 2 ≤ sizeLine; decide, fun tD htD => ⟨by show 2 ≤ sizeLine; decide, fun tE htE => ⟨by show 2 ≤ sizeLine; decide, fun tF htF => ?_⟩⟩⟩
  have sDE := (same_new htD (.tup [.str "name", .str "zzzzzzzz"])).trans (same_new htE (.tup [.str "tell", .ref tD]))
  have gD : upd (upd HC tD (.tup [.str "name", .str "zzzzzzzz"])) tE (.tup [.str "tell", .ref tD]) tD = some (.tup [.str "name", .str "zzzzzzzz"]) := (same_new htE _) _ _ upd_same
  have gE : upd (upd HC tD (.tup [.str "name", .str "zzzzzzzz"])) tE (.tup [.str "tell", .ref tD]) tE = some (.tup [.str "tell", .ref tD]) := upd_same
  generalize upd (upd HC tD (.tup [.str "name", .str "zzzzzzzz"])) tE (.tup [.str "tell", .ref tD]) = HE at sDE gD gE htF ⊢
  have sF := same_new htF (.tup [.ref pm, .ref tE])
  have gF : upd HE tF (.tup [.ref pm, .ref tE]) tF = some (.tup [.ref pm, .ref tE]) := upd_same
  have hT : RwH (upd HE tF (.tup [.ref pm, .ref tE])) (.tell tE (.nam tD "zzzzzzzz")) := ⟨sF _ _ gE, sF _ _ gD, trivial, by show 1 ≤ 100; decide⟩
  generalize upd HE tF (.tup [.ref pm, .ref tE]) = HF at sF gF hT ⊢
  have sCF := sDE.trans sF
  refine ⟨pr, tF, _, _, rfl, rfl, (sC.trans sCF) _ _ hpr1, gF, by rw [refs_len]; exact Nat.le_of_lt (big4 (by show rs.length + 2 ≤ _; omega)), fun rG HG sG hG => ⟨by show 2 ≤ sizeLine; decide, fun tH htH => ?_⟩⟩
  have sH := sG.trans (same_new htH (.tup [.ref pk, .ref rG]))
  have gH : upd HG tH (.tup [.ref pk, .ref rG]) tH = some (.tup [.ref pk, .ref rG]) := upd_same
  have hGH := (same_new htH (.tup [.ref pk, .ref rG])) _ _ hG
  generalize upd HG tH (.tup [.ref pk, .ref rG]) = HH at sH gH hGH ⊢
  have sCH := sCF.trans sH
  have s1H := sC.trans sCH
  have PH : PrgH HH tH ks (rs ++ [.thr pm w "zzzzzzzz" us, .tell tE (.nam tD "zzzzzzzz")]) (k2 ++ [("zzzzzzzz" : Str)]) (tells + 1) := by
    refine ⟨⟨pk, rG, gH, s1H _ _ hk1, by rw [refs_app]; exact hGH⟩, RwsH.app (RwsH.ts (.of s1H) rs hR1) ⟨RwH.ts (.of sCH) _ hMC, RwH.ts (.of sH) _ hT, trivial⟩, by rw [cntL_app]; show cntL rs + (1 + (1 + 0)) ≤ 4000; omega, ?_, ?_, TelOkL.app P0.tk ⟨trivial, trivial, trivial⟩, k1, k3, by omega, P0.nd⟩
    · have e : rs ++ [.thr pm w "zzzzzzzz" us, .tell tE (.nam tD "zzzzzzzz")] = (rs ++ [Rw.thr pm w "zzzzzzzz" us]) ++ [.tell tE (.nam tD "zzzzzzzz")] := by simp
      rw [e]
      exact ScL.app (ks := []) (ScL.app (ks := []) P0.sc (show ScR k2 (.thr pm w "zzzzzzzz" us) (k2 ++ [("zzzzzzzz" : Str)]) from rfl)) ⟨rfl, fun y hy => by rw [List.mem_singleton.mp hy]; simp⟩
    · rw [telL_app, P0.tl]
      show tells + (0 + (1 + 0)) = tells + 1
      omega
  refine ⟨by show 3 ≤ sizeLine; decide, fun lf hlf => ?_⟩
  have nlf := (deal_new (D1.same s1H) hlf).2
  have flf := out_fresh (D1.same s1H) (o1.trans (Out.of (d := d) (l := l) s1H)) hlf
  have sI := same_new hlf (.lst [.ref p, .ref tC, .ref tH])
  have gI : upd HH lf (.lst [.ref p, .ref tC, .ref tH]) lf = some (.lst [.ref p, .ref tC, .ref tH]) := upd_same
  generalize upd HH lf (.lst [.ref p, .ref tC, .ref tH]) = HI at sI gI ⊢
  have s1I := s1H.trans sI
  have DI := D1.same s1I
  have oI := o1.trans (Out.of (d := d) (l := l) s1I)
  have good3 : ∀ v ∈ [V.ref p, .ref tC, .ref tH], GoodV HI v := by
    intro v hv
    simp only [List.mem_cons, List.not_mem_nil, or_false] at hv
    rcases hv with rfl | rfl | rfl
    · exact ⟨p, ks, rs, k2, tells, rfl, P0.ts (ts1.trans (.of s1I))⟩
    · exact ⟨tC, ks, _, kw, tells, rfl, PC.ts (.of (sCH.trans sI))⟩
    · exact ⟨tH, ks, _, _, _, rfl, PH.ts (.of sI)⟩
  clear PC PH gC hBC gH hGH gF hT gE gD gA hB hG
  refine ⟨_, rfl, d, l, 3, rfl, DI, by decide, by decide, fun rn xn HJ DJ oJ fn hn ln ndn => ?_⟩
  have nn := (deal_new DI fn).2
  have tsJ := TS.out DI oJ
  have gJ := deal_keep DI gI nlf oJ
  have s1J := (TS.of s1I).trans tsJ
  refine ⟨_, rfl, pk, _, rfl, .inr (SqT.of (s1J _ _ hk1)), _, rfl, rn, _, rfl, SqL.of hn, fun lc hlc => ?_⟩
  obtain ⟨ys, ey, ly, ny⟩ := cut_nd (xs := xn) ndn (n := ks.length) (by omega)
  rw [List.length_map, ey]
  have sK := same_new hlc (.lst (ys.map V.str))
  have gK : upd HJ lc (.lst (ys.map V.str)) lc = some (.lst (ys.map V.str)) := upd_same
  generalize upd HJ lc (.lst (ys.map V.str)) = HK at sK gK ⊢
  have gIK := sK _ _ gJ
  refine ⟨_, rfl, .inl ⟨rfl, _, SqL.of gIK⟩, _, rfl, lc, _, rfl, .inl ⟨SqL.of gK, fun tL htL => ?_⟩⟩
  have sL := same_new htL (.tup (ys.map V.str))
  have gL : upd HK tL (.tup (ys.map V.str)) tL = some (.tup (ys.map V.str)) := upd_same
  generalize upd HK tL (.tup (ys.map V.str)) = HL at sL gL ⊢
  obtain ⟨y0, yr, rfl⟩ : ∃ y0 yr, ys = y0 :: yr := by
    cases ys with
    | nil => exact absurd ly (by simp; omega)
    | cons a b => exact ⟨a, b, rfl⟩
  refine ⟨_, rfl, lc, _, _, .str y0, rfl, rfl, SqL.of (sL _ _ gK), at0, by show 2 ≤ sizeLine; decide, fun tM htM => ⟨by show 3 ≤ sizeLine; decide, fun tN htN => ⟨by show 1 ≤ sizeLine; decide, fun tO htO => ⟨_, rfl, ?_⟩⟩⟩⟩
  have sMN := (same_new htM (.tup [.str "num", .int 0])).trans (same_new htN (.tup [.str "let", .str y0, .ref tM]))
  have gM : upd (upd HL tM (.tup [.str "num", .int 0])) tN (.tup [.str "let", .str y0, .ref tM]) tM = some (.tup [.str "num", .int 0]) := (same_new htN _) _ _ upd_same
  have gN : upd (upd HL tM (.tup [.str "num", .int 0])) tN (.tup [.str "let", .str y0, .ref tM]) tN = some (.tup [.str "let", .str y0, .ref tM]) := upd_same
  generalize upd (upd HL tM (.tup [.str "num", .int 0])) tN (.tup [.str "let", .str y0, .ref tM]) = HN at sMN gM gN htO ⊢
  have sO := same_new htO (.tup [.ref tN])
  have gO : upd HN tO (.tup [.ref tN]) tO = some (.tup [.ref tN]) := upd_same
  have hLt : RwH (upd HN tO (.tup [.ref tN])) (.lt tN y0 (.num tM 0)) := ⟨sO _ _ gN, sO _ _ gM, ⟨by decide, by decide⟩, by show 1 ≤ 100; decide⟩
  generalize upd HN tO (.tup [.ref tN]) = HO at sO gO hLt ⊢
  have sKO := sL.trans (sMN.trans sO)
  have s1O := s1J.trans (.of (sK.trans sKO))
  refine ⟨tO, pr, _, _, rfl, rfl, gO, s1O _ _ hpr1, by rw [refs_len]; exact Nat.le_of_lt (big4 (by show 1 + rs.length ≤ _; omega)), fun rP HP sP hP => ⟨by show 2 ≤ sizeLine; decide, fun tQ htQ => ?_⟩⟩
  have sQ := sP.trans (same_new htQ (.tup [.ref tL, .ref rP]))
  have gQ : upd HP tQ (.tup [.ref tL, .ref rP]) tQ = some (.tup [.ref tL, .ref rP]) := upd_same
  have hPQ := (same_new htQ (.tup [.ref tL, .ref rP])) _ _ hP
  generalize upd HP tQ (.tup [.ref tL, .ref rP]) = HQ at sQ gQ hPQ ⊢
  obtain ⟨kw2, scw2, _⟩ := ScL.wide rs [y0] P0.sc (fun _ z => absurd z List.not_mem_nil)
  have s1Q := s1O.trans (.of sQ)
  have PQ : PrgH HQ tQ (y0 :: yr) (.lt tN y0 (.num tM 0) :: rs) kw2 tells := ⟨⟨tL, rP, gQ, ((sMN.trans sO).trans sQ) _ _ gL, hPQ⟩, ⟨RwH.ts (.of sQ) _ hLt, RwsH.ts s1Q rs hR1⟩, by show 1 + cntL rs ≤ 4000; omega, ⟨_, ⟨rfl, fun y hy => absurd hy List.not_mem_nil⟩, scw2⟩, by show 0 + telL rs = tells; rw [P0.tl, Int.zero_add], ⟨trivial, P0.tk⟩, by rw [ly]; exact k1, by rw [ly]; exact k3, t1, ny⟩
  have sKQ := sKO.trans sQ
  have gIQ := sKQ _ _ gIK
  refine ⟨lf, _, _, rfl, rfl, gIQ, by show 3 < sizeLine; decide, ?_⟩
  have tR : TS HQ (upd HQ lf (.lst ([V.ref p, .ref tC, .ref tH] ++ [.ref tQ]))) := TS.lst gIQ
  have DR : Deal (upd HQ lf (.lst ([V.ref p, .ref tC, .ref tH] ++ [.ref tQ]))) d l := deal_lst (DJ.same (sK.trans sKQ)) gIQ nlf
  have oR : Out d l H (upd HQ lf (.lst ([V.ref p, .ref tC, .ref tH] ++ [.ref tQ]))) := out_lst (oI.trans (oJ.trans (Out.of (sK.trans sKQ)))) flf
  have gR : upd HQ lf (.lst ([V.ref p, .ref tC, .ref tH] ++ [.ref tQ])) lf = some (.lst [V.ref p, .ref tC, .ref tH, .ref tQ]) := upd_same
  have goodR : ∀ v ∈ [V.ref p, .ref tC, .ref tH, .ref tQ], GoodV (upd HQ lf (.lst ([V.ref p, .ref tC, .ref tH] ++ [.ref tQ]))) v := by
    intro v hv
    rcases List.mem_append.mp (show v ∈ [V.ref p, .ref tC, .ref tH] ++ [.ref tQ] from hv) with e | e
    · exact (good3 v e).ts (tsJ.trans ((TS.of (sK.trans sKQ)).trans tR))
    · rw [List.mem_singleton.mp e]
      exact ⟨tQ, _, _, kw2, tells, rfl, PQ.ts tR⟩
  have t1R := s1Q.trans tR
  clear PQ good3 tR gQ hPQ
  generalize upd HQ lf (.lst ([V.ref p, .ref tC, .ref tH] ++ [.ref tQ])) = HR at DR oR gR goodR t1R ⊢
  have hkR := t1R _ _ hk1
  have hprR := t1R _ _ hpr1
  have hRR := RwsH.ts t1R rs hR1
  refine ⟨fun σ' G => ∃ us : List V, (∃ v5, σ' = [some (.ref d), some (.ref p), some (.ref pk), some (.ref pr), some (.ref pm), some (.ref lf), v5]) ∧ Deal G d l ∧ Out d l H G ∧ G lf = some (.lst us) ∧ (∀ v ∈ us, GoodV G v) ∧ us.length ≤ 6, ?_, ?_⟩
  · refine ⟨_, rfl, pr, _, rfl, .inr (SqT.of hprR), _, _, rfl, rfl, _, rfl, ?_⟩
    refine ite2 (fun cpos => ?_) (fun _ => iteN (by decide) ⟨_, ⟨_, rfl⟩, DR, oR, gR, goodR, by show 4 ≤ 6; decide⟩)
    refine ⟨_, rfl, pr, rfl, ⟨_, SqT.of hprR⟩, comp_tup (K := K) (a := pr) (xs := refs rs) (fun i ys σ G => Same HR G ∧ (∃ v, σ = [v]) ∧ ys = ((rs.take i).map fun r => !decide (r.w ∈ (["when", "times"] : List Str))).map V.bl)
      (big4 (by rw [refs_len]; omega)) ⟨Same.refl _, ⟨_, rfl⟩, rfl⟩ (by rintro i ys σ G ⟨_, _, e⟩; rw [e, List.length_map, List.length_map, List.length_take]; omega) (by rintro i ys σ G _ ⟨e, _⟩; exact SqT.of (e _ _ hprR)) ?_ ?_⟩
    · rintro i v ys σ G hv ⟨s2, ⟨v', rfl⟩, rfl⟩
      obtain ⟨r, rfl, hr'⟩ := refs_at hv
      have hr2 := RwH.ts (.of s2) r (hRR.mem r (List.mem_of_getElem? hr'))
      refine ⟨_, rfl, r.p, _, _, .str r.w, rfl, rfl, SqT.of hr2.at, at0, by show 2 ≤ sizeLine; decide, fun t2 ht2 => ?_⟩
      refine ⟨t2, (["when", "times"] : List Str).map V.str, rfl, .inr (SqT.of upd_same), rfl, flat_texts _, s2.trans (same_new ht2 _), ⟨_, rfl⟩, ?_⟩
      rw [inV_strs, take_snoc hr', List.map_append, List.map_append]
      rfl
    rintro ys σ G ⟨s2, _, rfl⟩ l9 hl9
    rw [refs_len, List.take_length]
    have s9 := s2.trans (same_new hl9 (.lst ((rs.map fun r => !decide (r.w ∈ (["when", "times"] : List Str))).map V.bl)))
    have h9 : upd G l9 (.lst ((rs.map fun r => !decide (r.w ∈ (["when", "times"] : List Str))).map V.bl)) l9 = some (.lst ((rs.map fun r => !decide (r.w ∈ (["when", "times"] : List Str))).map V.bl)) := upd_same
    generalize upd G l9 (.lst ((rs.map fun r => !decide (r.w ∈ (["when", "times"] : List Str))).map V.bl)) = G9 at s9 h9 ⊢
    have D9 := DR.same s9
    have o9 := oR.trans (Out.of (d := d) (l := l) s9)
    have good9 : ∀ v ∈ [V.ref p, .ref tC, .ref tH, .ref tQ], GoodV G9 v := fun v hv => (goodR v hv).ts (.of s9)
    refine ⟨l9, _, rfl, SqL.of h9, _, rfl, ?_⟩
    refine ite2 (fun call => ?_) (fun _ => ⟨_, ⟨_, rfl⟩, D9, o9, s9 _ _ gR, good9, by show 4 ≤ 6; decide⟩)
    have leaf : cntL rs = rs.length := leaf_cnt fun r hr => by
      rw [List.all_map, List.all_eq_true] at call
      have := call r hr
      simpa using this
    refine ⟨_, rfl, .inl ⟨rfl, _, SqL.of (s9 _ _ gR)⟩, _, rfl, _, rfl, d, l, 3, rfl, D9, by decide, by decide, fun tu HS u0 u1 DS oS => ⟨_, _, rfl, rfl, _, rfl, by show 3 ≤ sizeLine; decide, fun tS htS => ⟨by show 1 ≤ sizeLine; decide, fun tT htT => ⟨by show 2 ≤ sizeLine; decide, fun tU htU => ?_⟩⟩⟩⟩
    have tsS := (TS.of s9).trans (TS.out D9 oS)
    have gS := deal_keep D9 (s9 _ _ gR) nlf oS
    have sU := (same_new htS (.tup [.str "times", .int (1 + tu), .ref pr])).trans ((same_new htT (.tup [.ref tS])).trans (same_new htU (.tup [.ref pk, .ref tT])))
    have g1U := ((same_new htT (.tup [.ref tS])).trans (same_new htU (.tup [.ref pk, .ref tT]))) tS _ (upd_same (H := HS) (a := tS) (o := .tup [.str "times", .int (1 + tu), .ref pr]))
    have g2U := (same_new htU (.tup [.ref pk, .ref tT])) tT _ (upd_same (a := tT) (o := .tup [.ref tS]))
    have g3U : upd (upd (upd HS tS (.tup [.str "times", .int (1 + tu), .ref pr])) tT (.tup [.ref tS])) tU (.tup [.ref pk, .ref tT]) tU = some (.tup [.ref pk, .ref tT]) := upd_same
    generalize upd (upd (upd HS tS (.tup [.str "times", .int (1 + tu), .ref pr])) tT (.tup [.ref tS])) tU (.tup [.ref pk, .ref tT]) = HU at sU g1U g2U g3U ⊢
    have tsU := tsS.trans (.of sU)
    have PU : PrgH HU tU ks [.times tS pr (1 + tu) rs] k2 ((1 + tu) * tells) := ⟨⟨pk, tT, g3U, tsU _ _ hkR, g2U⟩, ⟨⟨g1U, tsU _ _ hprR, RwsH.ts tsU rs hRR⟩, trivial⟩, by show (1 + cntL rs) + 0 ≤ 4000; omega, ⟨k2, P0.sc, rfl⟩, by show (1 + tu) * telL rs + 0 = _; rw [P0.tl, Int.add_zero], ⟨⟨⟨by omega, by omega, by rw [P0.tl]; omega, by rw [P0.tl]; omega⟩, P0.tk⟩, trivial⟩, k1, k3, mul_pos1 (by omega) t1, P0.nd⟩
    have gU := sU _ _ gS
    refine ⟨lf, _, _, rfl, rfl, gU, by show 4 < sizeLine; decide, ?_⟩
    have tV : TS HU (upd HU lf (.lst ([V.ref p, .ref tC, .ref tH, .ref tQ] ++ [.ref tU]))) := TS.lst gU
    have DV : Deal (upd HU lf (.lst ([V.ref p, .ref tC, .ref tH, .ref tQ] ++ [.ref tU]))) d l := deal_lst (DS.same sU) gU nlf
    have oV : Out d l H (upd HU lf (.lst ([V.ref p, .ref tC, .ref tH, .ref tQ] ++ [.ref tU]))) := out_lst (o9.trans (oS.trans (Out.of sU))) flf
    have gV : upd HU lf (.lst ([V.ref p, .ref tC, .ref tH, .ref tQ] ++ [.ref tU])) lf = some (.lst [V.ref p, .ref tC, .ref tH, .ref tQ, .ref tU]) := upd_same
    have goodV : ∀ v ∈ [V.ref p, .ref tC, .ref tH, .ref tQ, .ref tU], GoodV (upd HU lf (.lst ([V.ref p, .ref tC, .ref tH, .ref tQ] ++ [.ref tU]))) v := by
      intro v hv
      rcases List.mem_append.mp (show v ∈ [V.ref p, .ref tC, .ref tH, .ref tQ] ++ [.ref tU] from hv) with e | e
      · exact (goodR v e).ts (tsU.trans tV)
      · rw [List.mem_singleton.mp e]
        exact ⟨tU, _, _, k2, _, rfl, PU.ts tV⟩
    have tsV := tsU.trans tV
    clear PU good9 tV g1U g2U g3U
    generalize upd HU lf (.lst ([V.ref p, .ref tC, .ref tH, .ref tQ] ++ [.ref tU])) = HV at DV oV gV goodV tsV ⊢
    refine ⟨_, rfl, pr, _, rfl, .inr (SqT.of (tsV _ _ hprR)), _, _, rfl, rfl, _, rfl, ?_⟩
    refine ite2 (fun c6 => ?_) (fun _ => ⟨_, ⟨_, rfl⟩, DV, oV, gV, goodV, by show 5 ≤ 6; decide⟩)
    have c6 := of_decide_eq_true c6
    rw [refs_len] at c6
    refine ⟨_, rfl, .inl ⟨rfl, _, SqL.of gV⟩, _, rfl, _, rfl, d, l, 2, rfl, DV, by decide, by decide, fun nu HW w0 w1 DW oW => ⟨by show 2 ≤ sizeLine; decide, fun tW htW => ⟨_, rfl, _, rfl, by show 4 ≤ sizeLine; decide, fun tX htX => ⟨by show 1 ≤ sizeLine; decide, fun tY htY => ⟨by show 2 ≤ sizeLine; decide, fun tZ htZ => ?_⟩⟩⟩⟩⟩
    have tsW := tsV.trans (TS.out DV oW)
    have gW := deal_keep DV gV nlf oW
    have sX := (same_new htX (.tup [.str "when", .ref tW, .ref pr, .ref pr])).trans ((same_new htY (.tup [.ref tX])).trans (same_new htZ (.tup [.ref pk, .ref tY])))
    have sZ := (same_new htW (.tup [.str "num", .int nu])).trans sX
    have g0Z := sX tW _ (upd_same (H := HW) (a := tW) (o := .tup [.str "num", .int nu]))
    have g1Z := ((same_new htY (.tup [.ref tX])).trans (same_new htZ (.tup [.ref pk, .ref tY]))) tX _ (upd_same (a := tX) (o := .tup [.str "when", .ref tW, .ref pr, .ref pr]))
    have g2Z := (same_new htZ (.tup [.ref pk, .ref tY])) tY _ (upd_same (a := tY) (o := .tup [.ref tX]))
    have g3Z : upd (upd (upd (upd HW tW (.tup [.str "num", .int nu])) tX (.tup [.str "when", .ref tW, .ref pr, .ref pr])) tY (.tup [.ref tX])) tZ (.tup [.ref pk, .ref tY]) tZ = some (.tup [.ref pk, .ref tY]) := upd_same
    generalize upd (upd (upd (upd HW tW (.tup [.str "num", .int nu])) tX (.tup [.str "when", .ref tW, .ref pr, .ref pr])) tY (.tup [.ref tX])) tZ (.tup [.ref pk, .ref tY]) = HZ at sZ g0Z g1Z g2Z g3Z ⊢
    have tsZ := tsW.trans (.of sZ)
    have hRZ := RwsH.ts tsZ rs hRR
    have PZ : PrgH HZ tZ ks [.when tX pr pr (.num tW nu) rs rs] (k2.filter fun x => decide (x ∈ k2)) tells := ⟨⟨pk, tY, g3Z, tsZ _ _ hkR, g2Z⟩, ⟨⟨g1Z, g0Z, ⟨⟨w0, by omega⟩, by show 1 ≤ 100; decide⟩, tsZ _ _ hprR, tsZ _ _ hprR, hRZ, hRZ⟩, trivial⟩, by show (1 + (cntL rs + cntL rs)) + 0 ≤ 4000; omega, ⟨_, ⟨fun y hy => absurd hy List.not_mem_nil, k2, k2, P0.sc, P0.sc, rfl⟩, rfl⟩, by show telL rs + 0 = _; rw [P0.tl, Int.add_zero], ⟨⟨rfl, P0.tk, P0.tk⟩, trivial⟩, k1, k3, t1, P0.nd⟩
    have gZ := sZ _ _ gW
    refine ⟨lf, _, _, rfl, rfl, gZ, by show 5 < sizeLine; decide, ?_⟩
    have tV : TS HZ (upd HZ lf (.lst ([V.ref p, .ref tC, .ref tH, .ref tQ, .ref tU] ++ [.ref tZ]))) := TS.lst gZ
    refine ⟨_, ⟨_, rfl⟩, deal_lst (DW.same sZ) gZ nlf, out_lst (oV.trans (oW.trans (Out.of sZ))) flf, upd_same, fun v hv => ?_, by show 6 ≤ 6; decide⟩
    rcases List.mem_append.mp hv with e | e
    · exact (goodV v e).ts ((TS.out DV oW).trans ((TS.of sZ).trans tV))
    · rw [List.mem_singleton.mp e]
      exact ⟨tZ, _, _, _, _, rfl, PZ.ts tV⟩
  · rintro σ' G ⟨us, ⟨v5, rfl⟩, DG, oG, gG, hG, lG⟩
    exact ⟨_, rfl, k lf us G DG oG flf gG hG lG⟩
end
end Mine
namespace Mine
open PySem L2
section
variable {P : Program} {w : World} {K : PySem.W.Frag} {mg : Str → Option Value} {base : Heap}
theorem nd_UnF1 : (["name", "known"] : List Str).Nodup := by decide +kernel
theorem scUnF : FnScope ["steps", "faults", "known", "kept", "word", "row", "number", "ahead"] ["steps"] (defScope sUnF) := ⟨rfl, rfl, rfl, by decide +kernel, rfl, by decide +kernel, by decide +kernel⟩
theorem ok_UnF {f : Addr} {fd : FuncData} (F : Fun K "unknown_faults" "unknown_faults" sUnF f fd)
    {f_SeN : Addr} {d_SeN : FuncData} (G_SeN : FnOk P w K mg base CX0 (1) f_SeN d_SeN ["row"] spSetsN) (b_SeN : Binds K d_SeN ["row"] []) (k_SeN : PySem.W.keepIn K (.ref f_SeN) = true) (m_SeN : mg "sets_name" = some (.ref f_SeN))
    {f_Bth : Addr} {d_Bth : FuncData} (G_Bth : FnOk P w K mg base CX0 (1) f_Bth d_Bth ["one", "other"] spBoth) (b_Bth : Binds K d_Bth ["one", "other"] []) (k_Bth : PySem.W.keepIn K (.ref f_Bth) = true) (m_Bth : mg "in_both" = some (.ref f_Bth))
    {f_Ask : Addr} {d_Ask : FuncData} (G_Ask : FnOk P w K mg base CX0 (3) f_Ask d_Ask ["row"] spAsked) (b_Ask : Binds K d_Ask ["row"] []) (k_Ask : PySem.W.keepIn K (.ref f_Ask) = true) (m_Ask : mg "names_asked" = some (.ref f_Ask))
    (m_all : mg "all" = none) (m_dict : mg "dict" = none) :
    FnOk P w K mg base CX0 (4) f fd ["steps"] spUnkF := by
  refine F.ok scUnF (fun vs H Q E h => ?_) (fun cdv A outer s H vs Q E hr h => ?_)
  · obtain ⟨ls, zs, rs, k2, rfl, _⟩ := h
    rfl
  obtain ⟨ls, zs, rs, k2, rfl, SH, hSc, k⟩ := h
  have hu := hu_of hr
  have hr1 : Room 1 _ := hr.mono (by decide)
  have hr3 : Room 3 _ := hr.mono (by decide)
  refine ⟨_, (pss_cons (ps_set (i := 1) scUnF.nd rfl (Or.inl rfl) (pe_lst pa_nil))
    (pss_cons (ps_set (i := 2) scUnF.nd rfl (Or.inr rfl) pe_dnewK)
    (pss_cons (ps_set (i := 3) scUnF.nd rfl (Or.inl rfl) (pe_lst pa_nil))
    (pss_cons (ps_for PassesOwn.never rfl (pi_list (pv 0)) (pg_tup rfl (pgs_cons (pg_name (i := 4) scUnF.nd rfl (Or.inl rfl)) (pgs_cons (pg_name (i := 5) scUnF.nd rfl (Or.inl rfl)) (pgs_cons (pg_name (i := 6) scUnF.nd rfl (Or.inl rfl)) pgs_nil))))
    (pss_one (ps_if (pt_cmpR op_eq (pv 4) pe_str (nomark _)) (pss_cons (ps_if (pt_not (pt_val (pe_callB call_all (by rfl) m_all PyProof.Rows.boot_all (pa_cons (pe_comp ["name", "known"] [none, some 2] (pi_list (pe_call G_Ask hr3 (by rfl) m_Ask k_Ask b_Ask .nil pass0 (pa_cons (pv 5) pa_nil))) (fun _ _ _ _ => (pg_name (i := 0) (nd_UnF1) rfl (Or.inl rfl))) (fun _ _ _ _ => pf_nil) (fun _ _ _ _ => (pe_cmp (pc_din hu (pv 0) (pv 1))))) pa_nil)))) pss_never pss_nil)
    (pss_cons (ps_post (ps_if (pt_val (pe_call G_SeN hr1 (by rfl) m_SeN k_SeN b_SeN .nil pass0 (pa_cons (pv 5) pa_nil))) (pss_one (ps_dput hu (pv 2) (pe_ix ix_tup (pv 5) pe_int (fun _ _ => rfl)) pe_bl rfl)) pss_nil))
    (pss_one (ps_if (pt_cmpR op_eq (pe_ix ix_tup (pv 5) pe_int (fun _ _ => rfl)) pe_str (nomark _)) (pss_one (ps_expr (pe_bm PySem.F.plainAttrs_list PySem.F.slot_list_append PySem.F.type_list_append mt_append (pv 3) (pa_cons (pe_callTy call_dictD (by rfl) m_dict PyProof.Rows.boot_dict (pa_cons (pv 2) pa_nil)) pa_nil)))) pss_nil)))) (pss_one (ps_if (pt_cmpR op_eq (pv 4) pe_str (nomark _)) (pss_cons (ps_set (i := 7) scUnF.nd rfl (Or.inl rfl) (pe_bm0 PySem.F.plainAttrs_list PySem.F.slot_list_pop PySem.F.type_list_pop mt_pop (pv 3)))
    (pss_cons (ps_expr (pe_bm PySem.F.plainAttrs_list PySem.F.slot_list_append PySem.F.type_list_append mt_append (pv 3) (pa_cons (pv 2) pa_nil)))
    (pss_one (ps_set (i := 2) scUnF.nd rfl (Or.inr rfl) (pv 7))))) (pss_one (ps_if (pt_cmpR op_eq (pe_ix ix_tup (pv 5) pe_int (fun _ _ => rfl)) pe_str (nomark _)) (pss_one (ps_set (i := 2) scUnF.nd rfl (Or.inr rfl) (pe_call G_Bth hr1 (by rfl) m_Bth k_Bth b_Bth .nil pass0 (pa_cons (pe_bm0 PySem.F.plainAttrs_list PySem.F.slot_list_pop PySem.F.type_list_pop mt_pop (pv 3)) (pa_cons (pv 2) pa_nil))))) pss_nil)))))))
    (pss_one (ps_ret (pv 1))))))), ?_⟩
  obtain ⟨h1, t1, hR, hc⟩ := SH
  have zl := t1.length
  have tl := stpsL_len rs
  have full := u_runL rs [] hSc
  refine ⟨Nat.zero_le _, fun lf hlf => ?_⟩
  have sA := same_new hlf (.lst [])
  have gA : upd H lf (.lst []) lf = some (.lst []) := upd_same
  generalize upd H lf (.lst []) = HA at sA gA ⊢
  refine fun kd hkd => ?_
  have hkd0 := sA.free hkd
  have sB := sA.trans (same_new hkd (.dK []))
  have gB := same_new hkd (.dK []) _ _ gA
  have dB : Dk (upd HA kd (.dK [])) kd [] 0 := Dk.new upd_same
  generalize upd HA kd (.dK []) = HB at sB gB dB ⊢
  refine ⟨Nat.zero_le _, fun lk hlk => ?_⟩
  have hlk0 := sB.free hlk
  have nfk : lf ≠ lk := ne_of_none gB hlk
  have sC := sB.trans (same_new hlk (.lst []))
  have gC := same_new hlk (.lst []) _ _ gB
  have dC := dB.at (same_new hlk (.lst []) kd)
  have kC : upd HB lk (.lst []) lk = some (.lst []) := upd_same
  generalize upd HB lk (.lst []) = HC at sC gC dC kC ⊢
  refine ⟨_, rfl, ls, rfl, ⟨_, SqL.of (sC _ _ h1)⟩, for_listA (K := K) (a := ls) (xs := zs) (fun i σ G => ∃ (kd : Addr) (ads : List Addr) (kn : List Str) (kp : List (List Str)) (v4 v5 v6 v7 : Option V), σ = [some (.ref ls), some (.ref lf), some (.ref kd), some (.ref lk), v4, v5, v6, v7] ∧ Same H G ∧ G lf = some (.lst []) ∧ G lk = some (.lst (ads.reverse.map V.ref)) ∧ (kd :: ads).Nodup ∧ (∀ a ∈ kd :: ads, H a = none) ∧ DkL G i (kd :: ads) (kn :: kp) ∧ runM uStep ((stpsL rs).take i) ([], []) = some (kn, kp))
    ⟨kd, [], [], [], _, _, _, _, rfl, sC, gC, kC, by simp, fun a ha => by rw [List.mem_singleton.mp ha]; exact hkd0, ⟨dC, trivial⟩, rfl⟩ (by rintro i σ G _ ⟨_, _, _, _, _, _, _, _, _, e, _⟩; exact SqL.of (e _ _ h1)) ?_ ?_⟩
  · rintro D' i v σ G hv ⟨kd, ads, kn, kp, v4, v5, v6, v7, rfl, s3, gf, gk, nd, fr, DL, hrun⟩
    obtain ⟨s, hs, q, n, rfl, hq0⟩ := twoAt t1 hv
    have hi := (List.getElem?_eq_some_iff.mp hs).1
    obtain ⟨⟨kn', kp'⟩, e1, e2⟩ := runM_at uStep full hs hrun
    have kl := u_len hrun (Nat.le_of_lt hi)
    have al := DL.len
    simp only [List.length_cons] at al
    have kl : kp.length ≤ i := kl
    have hq := s3 _ _ hq0
    have hrs0 := stpsL_mem rs hR s (List.mem_of_getElem? hs)
    have hw := RwH.wd _ hrs0
    have hrs := RwH.ts (.of s3) s.2 hrs0
    refine ⟨q, _, rfl, SqT.of hq, rfl, _, _, rfl, _, _, rfl, _, _, rfl, rfl, ?_⟩
    refine ⟨_, rfl, rfl, _, rfl, ?_⟩
    have dks := DL.is
    have nlk : ∀ a ∈ kd :: ads, a ≠ lk := fun a ha z => by
      obtain ⟨w, e⟩ := dks a ha
      rw [z, gk] at e; cases e
    have nlf : ∀ a ∈ kd :: ads, a ≠ lf := fun a ha z => by
      obtain ⟨w, e⟩ := dks a ha
      rw [z, gf] at e; cases e
    unfold uStep at e1
    by_cases c : s.1 = "row"
    · rw [if_pos c] at e1
      refine iteP (by rw [c]; exact decide_eq_true rfl) ?_
      have hask : ∀ y ∈ s.2.asked, y ∈ kn := by
        by_cases z : ∀ y ∈ s.2.asked, y ∈ kn
        · exact z
        · rw [if_neg z] at e1; cases e1
      rw [if_pos hask] at e1
      refine ⟨_, rfl, s.2, rfl, hrs, fun rq H4 s4 h4 => ⟨rq, rfl, ⟨_, SqL.of h4⟩, ?_⟩⟩
      have DL4 := DL.at (Nat.le_refl _) fun a _ o e => s4 _ _ e
      have al' : s.2.asked.length ≤ 9000000 := asked_len hrs0
      refine comp_list (K := K) (a := rq) (xs := s.2.asked.map V.str) (fun j ys σ G' => G' = H4 ∧ (∃ v, σ = [v, some (.ref kd)]) ∧ ys = List.replicate j (V.bl true))
        (big4 (by rw [List.length_map]; exact al')) ⟨rfl, ⟨_, rfl⟩, rfl⟩ (by rintro j ys σ G' ⟨_, _, e⟩; rw [e, List.length_replicate]; exact Nat.le_refl _) (by rintro j ys σ G' _ ⟨e, _⟩; rw [e]; exact SqL.of h4) ?_ ?_
      · rintro j v ys σ G' hv ⟨rfl, ⟨v', rfl⟩, rfl⟩
        obtain ⟨y, rfl, hy⟩ := strs_at hv
        obtain ⟨ov, g1, g2⟩ := DL4.1.get y
        refine ⟨_, rfl, _, rfl, kd, ov, rfl, g1, rfl, ⟨_, rfl⟩, ?_⟩
        rw [g2, decide_eq_true (hask y (List.mem_of_getElem? hy)), List.replicate_succ']
      rintro ys σ G' ⟨rfl, _, rfl⟩ l5 hl5
      rw [List.length_map]
      have s5 := s4.trans (same_new hl5 (.lst (List.replicate s.2.asked.length (V.bl true))))
      have h5 : upd G' l5 (.lst (List.replicate s.2.asked.length (V.bl true))) l5 = some (.lst ((List.replicate s.2.asked.length true).map V.bl)) := by rw [upd_same, List.map_replicate]
      generalize upd G' l5 (.lst (List.replicate s.2.asked.length (V.bl true))) = G5 at s5 h5 ⊢
      refine ⟨l5, _, rfl, SqL.of h5, _, rfl, ?_⟩
      refine iteN (by rw [all_rep]; decide) ?_
      have DL5 := DL.at (Nat.le_refl _) fun a _ o e => s5 _ _ e
      refine ⟨fun σ' G' => σ' = [some (.ref ls), some (.ref lf), some (.ref kd), some (.ref lk), some (.str s.1), some (.ref s.2.p), some (.int n), v7] ∧ Same H G' ∧ G' lf = some (.lst []) ∧ G' lk = some (.lst (ads.reverse.map V.ref)) ∧ DkL G' (i + 1) (kd :: ads) ((kn ++ s.2.sets.toList) :: kp), ?_, ?_⟩
      · refine ⟨_, rfl, s.2, rfl, RwH.ts (.of s5) s.2 hrs, _, rfl, ?_⟩
        cases hst : s.2.sets with
        | none =>
          refine iteN (by simp) ⟨rfl, s3.trans s5, s5 _ _ gf, s5 _ _ gk, ?_⟩
          show DkL G5 (i + 1) (kd :: ads) ((kn ++ []) :: kp)
          rw [List.append_nil]
          exact DL5.at (Nat.le_succ _) fun a _ o e => e
        | some x =>
          refine iteP rfl ?_
          obtain ⟨us, hus⟩ := sets_at hrs hst
          obtain ⟨ob, p1, p2, qq, rfl⟩ := DL5.1.put (by omega) x (.bl true)
          refine ⟨_, rfl, _, rfl, s.2.p, _, _, .str x, rfl, rfl, SqT.of (s5 _ _ hus), at1, kd, _, rfl, p1, rfl, ?_, ?_, ?_, p2, ?_⟩
          · intro b u e
            rw [upd_ne (ne_of_none e (fr kd List.mem_cons_self))]
            exact (s3.trans s5) b u e
          · rw [upd_ne (nlf kd List.mem_cons_self).symm]; exact s5 _ _ gf
          · rw [upd_ne (nlk kd List.mem_cons_self).symm]; exact s5 _ _ gk
          · refine DkL.at (Nat.le_succ i) DL5.2 fun a ha o e => ?_
            have : a ≠ kd := fun z => (List.nodup_cons.mp nd).1 (by rw [← z]; exact ha)
            rw [upd_ne this]; exact e
      · rintro σ' G' ⟨rfl, s6, gf6, gk6, DL6⟩
        refine ⟨_, rfl, s.2.p, _, _, .str s.2.w, rfl, rfl, SqT.of (RwH.ts (.of s6) s.2 hrs0).at, at0, rfl, _, rfl, ?_⟩
        rw [whn_w hw]
        cases hb : isWhn s.2 with
        | false =>
          rw [hb] at e1
          cases e1
          exact iteN (by decide) ⟨kd, ads, _, _, _, _, _, _, rfl, s6, gf6, gk6, nd, fr, DL6, e2⟩
        | true =>
          rw [hb] at e1
          cases e1
          refine iteP rfl ?_
          obtain ⟨kvs, z1, z2⟩ := DL6.1.ex
          refine ⟨_, rfl, .inl ⟨rfl, _, SqL.of gk6⟩, _, rfl, kd, kvs, rfl, z1, fun d7 hd7 => ?_⟩
          have f7 := s6.free hd7
          have s7 := same_new hd7 (.dK kvs)
          have D7 : Dk (upd G' d7 (.dK kvs)) d7 (kn ++ s.2.sets.toList) (i + 1) := ⟨kvs, upd_same, z2⟩
          have n7 : d7 ∉ kd :: ads := fun m => by
            obtain ⟨w, e⟩ := DL6.is d7 m
            rw [e] at hd7; cases hd7
          have n7k : d7 ≠ lk := (ne_of_none gk6 hd7).symm
          have DL7 := DL6.at (Nat.le_refl _) fun a _ o e => s7 _ _ e
          have gf7 := s7 _ _ gf6
          have gk7 := s7 _ _ gk6
          have s67 := s6.trans s7
          generalize upd G' d7 (.dK kvs) = G7 at s7 D7 DL7 gf7 gk7 s67 ⊢
          refine ⟨lk, _, _, rfl, rfl, gk7, big4 (by rw [List.length_map, List.length_reverse]; omega), ?_⟩
          refine ⟨kd, d7 :: ads, _, _, _, _, _, _, rfl, same_lst s67 hlk0, (upd_ne nfk).trans gf7, ?_, ?_, ?_, ?_, e2⟩
          · rw [upd_same, List.reverse_cons, List.map_append]; rfl
          · rw [List.nodup_cons] at nd ⊢
            refine ⟨fun m => ?_, List.nodup_cons.mpr ⟨fun m => n7 (List.mem_cons_of_mem _ m), nd.2⟩⟩
            rcases List.mem_cons.mp m with e | e
            · exact n7 (by rw [← e]; exact List.mem_cons_self)
            · exact nd.1 e
          · intro a ha
            rcases List.mem_cons.mp ha with e | e
            · exact fr a (by rw [e]; exact List.mem_cons_self)
            · rcases List.mem_cons.mp e with e | e
              · rw [e]; exact f7
              · exact fr a (List.mem_cons_of_mem _ e)
          · refine ⟨DL7.1.at fun o e => (upd_ne (nlk kd List.mem_cons_self)).trans e, D7.at fun o e => (upd_ne n7k).trans e, DkL.at (Nat.le_refl _) DL7.2 fun a ha o e => (upd_ne (nlk a (List.mem_cons_of_mem _ ha))).trans e⟩
    · rw [if_neg c] at e1
      refine iteN (fun z => c (by have z := of_decide_eq_true z; injection z)) ?_
      refine ⟨_, rfl, rfl, _, rfl, ?_⟩
      by_cases c2 : s.1 = "else"
      · rw [if_pos c2] at e1
        refine iteP (by rw [c2]; exact decide_eq_true rfl) ?_
        cases kp with
        | nil => cases e1
        | cons a0 r0 =>
        have e1 : some (a0, kn :: r0) = some (kn', kp') := e1
        injection e1 with e1
        injection e1 with q1 q2
        subst q1 q2
        obtain ⟨ad, rest, rfl, Da, Dr⟩ := DL.2.cons
        have er : (ad :: rest).reverse.map V.ref = rest.reverse.map V.ref ++ [V.ref ad] := by rw [List.reverse_cons, List.map_append]; rfl
        rw [er] at gk
        refine ⟨_, rfl, .inl ⟨rfl, _, SqL.of gk⟩, lk, _, V.ref ad, rfl, rfl, gk, by simp, ?_⟩
        rw [List.dropLast_concat]
        have s4 := same_lst (ys := rest.reverse.map V.ref) s3 hlk0
        have g4 : upd G lk (.lst (rest.reverse.map V.ref)) lk = some (.lst (rest.reverse.map V.ref)) := upd_same
        have gf4 : upd G lk (.lst (rest.reverse.map V.ref)) lf = _ := (upd_ne nfk).trans gf
        have DL4 : DkL (upd G lk (.lst (rest.reverse.map V.ref))) i (kd :: ad :: rest) (kn :: a0 :: r0) := DL.at (Nat.le_refl _) fun a ha o e => (upd_ne (nlk a ha)).trans e
        generalize upd G lk (.lst (rest.reverse.map V.ref)) = G4 at s4 g4 gf4 DL4 ⊢
        refine ⟨_, rfl, .inl ⟨rfl, _, SqL.of g4⟩, _, rfl, lk, _, _, rfl, rfl, g4, big4 (by rw [List.length_map, List.length_reverse]; simp only [List.length_cons] at al kl; omega), ?_⟩
        refine ⟨_, rfl, ad, kd :: rest, _, _, _, _, _, _, rfl, same_lst s4 hlk0, (upd_ne nfk).trans gf4, ?_, ?_, ?_, ?_, e2⟩
        · rw [upd_same, List.reverse_cons, List.map_append]; rfl
        · exact (List.Perm.swap kd ad rest).nodup_iff.mpr nd |> fun z => z
        · intro a ha
          refine fr a ?_
          rcases List.mem_cons.mp ha with e | e
          · rw [e]; simp
          · rcases List.mem_cons.mp e with e | e
            · rw [e]; simp
            · simp [e]
        · have DL5 : DkL (upd G4 lk (.lst (rest.reverse.map V.ref ++ [V.ref kd]))) (i + 1) (kd :: ad :: rest) (kn :: a0 :: r0) := DL4.at (Nat.le_succ _) fun a ha o e => (upd_ne (nlk a ha)).trans e
          exact ⟨DL5.2.1, DL5.1, DL5.2.2⟩
      · rw [if_neg c2] at e1
        refine iteN (fun z => c2 (by have z := of_decide_eq_true z; injection z)) ?_
        refine ⟨_, rfl, s.2.p, _, _, .str s.2.w, rfl, rfl, SqT.of hrs.at, at0, rfl, _, rfl, ?_⟩
        rw [whn_w hw]
        cases hb : isWhn s.2 with
        | false =>
          rw [hb] at e1
          cases e1
          exact iteN (by decide) ⟨kd, ads, _, _, _, _, _, _, rfl, s3, gf, gk, nd, fr, DL.at (Nat.le_succ _) fun a _ o e => e, e2⟩
        | true =>
          rw [hb] at e1
          refine iteP rfl ?_
          cases kp with
          | nil => cases e1
          | cons a0 r0 =>
          have e1 : some (a0.filter (fun x => decide (x ∈ kn)), r0) = some (kn', kp') := e1
          injection e1 with e1
          injection e1 with q1 q2
          subst q1 q2
          obtain ⟨ad, rest, rfl, Da, Dr⟩ := DL.2.cons
          have er : (ad :: rest).reverse.map V.ref = rest.reverse.map V.ref ++ [V.ref ad] := by rw [List.reverse_cons, List.map_append]; rfl
          rw [er] at gk
          refine ⟨_, rfl, .inl ⟨rfl, _, SqL.of gk⟩, lk, _, V.ref ad, rfl, rfl, gk, by simp, ?_⟩
          rw [List.dropLast_concat]
          have s4 := same_lst (ys := rest.reverse.map V.ref) s3 hlk0
          have g4 : upd G lk (.lst (rest.reverse.map V.ref)) lk = some (.lst (rest.reverse.map V.ref)) := upd_same
          have gf4 : upd G lk (.lst (rest.reverse.map V.ref)) lf = _ := (upd_ne nfk).trans gf
          have DL4 : DkL (upd G lk (.lst (rest.reverse.map V.ref))) i (kd :: ad :: rest) (kn :: a0 :: r0) := DL.at (Nat.le_refl _) fun a ha o e => (upd_ne (nlk a ha)).trans e
          have nka := nlk ad (by simp)
          have nfa := nlf ad (by simp)
          generalize upd G lk (.lst (rest.reverse.map V.ref)) = G4 at s4 g4 gf4 DL4 ⊢
          have nd2 := List.nodup_cons.mp nd
          have nd3 := List.nodup_cons.mp nd2.2
          refine ⟨_, rfl, ad, kd, a0, kn, i, i, rfl, fun z => nd2.1 (by rw [← z]; simp), DL4.2.1, DL4.1, by omega, fun d5 H5 f5 fd5 D5 => ?_⟩
          have n5 : ∀ a ∈ rest, d5 ≠ a := fun a ha z => by
            obtain ⟨w, e⟩ := DL4.is a (by simp [ha])
            rw [z, e] at fd5; cases fd5
          refine ⟨d5, rest, _, _, _, _, _, _, rfl, fun b u e => ?_, f5 _ _ gf4 nfa.symm, f5 _ _ g4 nka.symm, ?_, fun a ha => ?_, ⟨D5.more (Nat.le_succ _), DkL.at (Nat.le_succ _) DL4.2.2 fun a ha o e => f5 _ _ e fun z => nd3.1 (by rw [← z]; exact ha)⟩, e2⟩
          · exact f5 _ _ (s4 _ _ e) (ne_of_none e (fr ad (by simp)))
          · exact List.nodup_cons.mpr ⟨fun m => n5 d5 m rfl, nd3.2⟩
          · rcases List.mem_cons.mp ha with e | e
            · rw [e]; exact s4.free fd5
            · exact fr a (by simp [e])
  · rintro σ G ⟨kd, ads, kn, kp, v4, v5, v6, v7, rfl, s3, gf, gk, nd, fr, DL, hrun⟩
    exact ⟨_, rfl, k lf G s3 gf⟩
end
end Mine
namespace Mine
open PySem L2
section
variable {P : Program} {w : World} {K : PySem.W.Frag} {mg : Str → Option Value} {base : Heap}
theorem scTlF : FnScope ["steps", "faults", "counts", "word", "row", "number", "inner", "other"] ["steps"] (defScope sTlF) := ⟨rfl, rfl, rfl, by decide +kernel, rfl, by decide +kernel, by decide +kernel⟩
theorem ok_TlF {f : Addr} {fd : FuncData} (F : Fun K "tells_faults" "tells_faults" sTlF f fd)
    {f_Bgn : Addr} {d_Bgn : FuncData} (G_Bgn : FnOk P w K mg base CX0 (1) f_Bgn d_Bgn ["word", "row"] spBegins) (b_Bgn : Binds K d_Bgn ["word", "row"] []) (k_Bgn : PySem.W.keepIn K (.ref f_Bgn) = true) (m_Bgn : mg "begins_rows" = some (.ref f_Bgn))
     :
    FnOk P w K mg base CX0 (4) f fd ["steps"] spTelF := by
  refine F.ok scTlF (fun vs H Q E h => ?_) (fun cdv A outer s H vs Q E hr h => ?_)
  · obtain ⟨ls, zs, rs, rfl, _⟩ := h
    rfl
  obtain ⟨ls, zs, rs, rfl, SH, hTk, k⟩ := h
  have hu := hu_of hr
  have hr1 : Room 1 _ := hr.mono (by decide)
  refine ⟨_, (pss_cons (ps_set (i := 1) scTlF.nd rfl (Or.inl rfl) (pe_lst pa_nil))
    (pss_cons (ps_set (i := 2) scTlF.nd rfl (Or.inl rfl) (pe_lst (pa_cons pe_int pa_nil)))
    (pss_cons (ps_for PassesOwn.never rfl (pi_list (pv 0)) (pg_tup rfl (pgs_cons (pg_name (i := 3) scTlF.nd rfl (Or.inl rfl)) (pgs_cons (pg_name (i := 4) scTlF.nd rfl (Or.inl rfl)) (pgs_cons (pg_name (i := 5) scTlF.nd rfl (Or.inl rfl)) pgs_nil))))
    (pss_one (ps_if (pt_val (pe_call G_Bgn hr1 (by rfl) m_Bgn k_Bgn b_Bgn .nil pass0 (pa_cons (pv 3) (pa_cons (pv 4) pa_nil)))) (pss_one (ps_expr (pe_bm PySem.F.plainAttrs_list PySem.F.slot_list_append PySem.F.type_list_append mt_append (pv 2) (pa_cons pe_int pa_nil)))) (pss_one (ps_if (pt_cmpR op_eq (pe_ix ix_tup (pv 4) pe_int (fun _ _ => rfl)) pe_str (nomark _)) (pss_one (ps_augS (pv 2) pe_m1 get_last pe_int ip_add set_last)) (pss_one (ps_if (PW.pt (pw_and (pt_cmpR op_eq (pv 3) pe_str (nomark _)) (pw_and1 (pt_cmpR op_eq (pe_ix ix_tup (pv 4) pe_int (fun _ _ => rfl)) pe_str (nomark _))))) (pss_cons (ps_set (i := 6) scTlF.nd rfl (Or.inl rfl) (pe_bm0 PySem.F.plainAttrs_list PySem.F.slot_list_pop PySem.F.type_list_pop mt_pop (pv 2)))
    (pss_one (ps_augS (pv 2) pe_m1 get_last (pe_op op_mul (pe_ix ix_tup (pv 4) pe_int (fun _ _ => rfl)) (pv 6)) ip_add set_last))) (pss_one (ps_if (pt_cmpR op_eq (pv 3) pe_str (nomark _)) (pss_cons (ps_set (i := 7) scTlF.nd rfl (Or.inl rfl) (pe_bm0 PySem.F.plainAttrs_list PySem.F.slot_list_pop PySem.F.type_list_pop mt_pop (pv 2)))
    (pss_cons (ps_set (i := 6) scTlF.nd rfl (Or.inl rfl) (pe_bm0 PySem.F.plainAttrs_list PySem.F.slot_list_pop PySem.F.type_list_pop mt_pop (pv 2)))
    (pss_cons (ps_augS (pv 2) pe_m1 get_last (pv 6) ip_add set_last)
    (pss_one (ps_if (pt_cmpR op_ne (pv 6) (pv 7) (nomark _)) pss_never pss_nil))))) pss_nil)))))))))
    (pss_one (ps_ret (pv 1)))))), ?_⟩
  obtain ⟨h1, t1, hR, hc⟩ := SH
  have zl := t1.length
  have tl := stpsL_len rs
  have full := t_runL rs 0 [] (RwsH.wd rs hR) hTk
  refine ⟨Nat.zero_le _, fun lf hlf => ?_⟩
  have sA := same_new hlf (.lst [])
  have gA : upd H lf (.lst []) lf = some (.lst []) := upd_same
  generalize upd H lf (.lst []) = HA at sA gA ⊢
  refine ⟨by show 1 ≤ sizeLine; decide, fun lc hlc => ?_⟩
  have hlc0 := sA.free hlc
  have nfc : lf ≠ lc := ne_of_none gA hlc
  have sB := sA.trans (same_new hlc (.lst [.int 0]))
  have gB := same_new hlc (.lst [.int 0]) _ _ gA
  have cB : upd HA lc (.lst [.int 0]) lc = some (.lst (([0] : List Int).reverse.map V.int)) := upd_same
  generalize upd HA lc (.lst [.int 0]) = HB at sB gB cB ⊢
  refine ⟨_, rfl, ls, rfl, ⟨_, SqL.of (sB _ _ h1)⟩, for_listA (K := K) (a := ls) (xs := zs) (fun i σ G => ∃ (st : List Int) (v3 v4 v5 v6 v7 : Option V), σ = [some (.ref ls), some (.ref lf), some (.ref lc), v3, v4, v5, v6, v7] ∧ Same H G ∧ G lf = some (.lst []) ∧ G lc = some (.lst (st.reverse.map V.int)) ∧ runM tStep ((stpsL rs).take i) [0] = some st)
    ⟨[0], _, _, _, _, _, rfl, sB, gB, cB, rfl⟩ (by rintro i σ G _ ⟨_, _, _, _, _, _, _, e, _⟩; exact SqL.of (e _ _ h1)) ?_ ?_⟩
  · rintro D' i v σ G hv ⟨st, v3, v4, v5, v6, v7, rfl, s3, gf, gc, hrun⟩
    obtain ⟨s, hs, q, n, rfl, hq0⟩ := twoAt t1 hv
    have hi := (List.getElem?_eq_some_iff.mp hs).1
    obtain ⟨st', e1, e2⟩ := runM_at tStep full hs hrun
    have sl := t_len hrun (Nat.le_of_lt hi)
    have hrs0 := stpsL_mem rs hR s (List.mem_of_getElem? hs)
    have hw := RwH.wd _ hrs0
    refine ⟨q, _, rfl, SqT.of (s3 _ _ hq0), rfl, _, _, rfl, _, _, rfl, _, _, rfl, rfl, ?_⟩
    refine ⟨_, rfl, _, rfl, s, rfl, RwH.ts (.of s3) s.2 hrs0, fun G1 s4 => ⟨_, rfl, ?_⟩⟩
    have s5 := s3.trans s4
    have gf1 := s4 _ _ gf
    have gc1 := s4 _ _ gc
    have hrs := RwH.ts (.of s5) s.2 hrs0
    have sz : (st.reverse.map V.int).length < sizeLine := by rw [List.length_map, List.length_reverse]; exact big4 (by omega)
    unfold tStep at e1
    by_cases c1 : opens s = true
    · rw [if_pos c1] at e1
      cases e1
      refine iteP c1 ⟨_, rfl, .inl ⟨rfl, _, SqL.of gc1⟩, lc, _, _, rfl, rfl, gc1, sz, ?_⟩
      refine ⟨0 :: st, _, _, _, _, _, rfl, same_lst s5 hlc0, (upd_ne nfc).trans gf1, ?_, e2⟩
      rw [upd_same, List.reverse_cons, List.map_append]; rfl
    rw [if_neg c1] at e1
    refine iteN c1 ?_
    refine ⟨_, rfl, s.2.p, _, _, .str s.2.w, rfl, rfl, SqT.of hrs.at, at0, rfl, _, rfl, ?_⟩
    by_cases c2 : s.2.w = "tell"
    · rw [if_pos c2] at e1
      refine iteP (by rw [c2]; exact decide_eq_true rfl) ?_
      cases st with
      | nil => cases e1
      | cons c0 r0 =>
      cases e1
      have er : (c0 :: r0).reverse.map V.int = r0.reverse.map V.int ++ [V.int c0] := by rw [List.reverse_cons, List.map_append]; rfl
      rw [er] at gc1
      refine ⟨_, rfl, lc, _, _, rfl, rfl, SqL.of gc1, _, _, rfl, rfl, lc, _, _, rfl, rfl, gc1, ?_⟩
      refine ⟨(c0 + 1) :: r0, _, _, _, _, _, rfl, same_lst s5 hlc0, (upd_ne nfc).trans gf1, ?_, e2⟩
      rw [upd_same, List.reverse_cons, List.map_append]; rfl
    rw [if_neg c2] at e1
    refine iteN (fun z => c2 (by have z := of_decide_eq_true z; injection z)) ?_
    refine ⟨_, rfl, rfl, _, rfl, ?_⟩
    by_cases c3 : s.1 = "end"
    · rw [if_pos c3] at e1
      refine iteP (by rw [c3]; exact decide_eq_true rfl) ?_
      refine ⟨_, rfl, s.2.p, _, _, .str s.2.w, rfl, rfl, SqT.of hrs.at, at0, rfl, _, rfl, ?_⟩
      obtain ⟨w0, r⟩ := s
      have c3 : w0 = "end" := c3
      subst c3
      have e1 : tEnd r st = some st' := e1
      have hrs : RwH G1 r := hrs
      generalize hP : (("end" : Str), r).2.p = P
      cases r with
      | times p pb m b =>
        obtain rfl : p = P := hP
        refine iteP (decide_eq_true rfl) ?_
        match st, e1, gc1, sl, e2 with
        | i0 :: c0 :: r0, e1, gc1, sl, e2 =>
        have e1 : (if 0 ≤ m ∧ m ≤ 9 ∧ 0 ≤ i0 ∧ i0 ≤ 100 then some ((c0 + m * i0) :: r0) else none) = some st' := e1
        by_cases bd : 0 ≤ m ∧ m ≤ 9 ∧ 0 ≤ i0 ∧ i0 ≤ 100
        · rw [if_pos bd] at e1
          cases e1
          have er : (i0 :: c0 :: r0).reverse.map V.int = (r0.reverse.map V.int ++ [V.int c0]) ++ [V.int i0] := by simp
          rw [er] at gc1
          refine ⟨_, rfl, .inl ⟨rfl, _, SqL.of gc1⟩, lc, _, .int i0, rfl, rfl, gc1, by simp, ?_⟩
          rw [List.dropLast_concat]
          have s6 := same_lst (ys := r0.reverse.map V.int ++ [V.int c0]) s5 hlc0
          have g6 : upd G1 lc (.lst (r0.reverse.map V.int ++ [V.int c0])) lc = some (.lst (r0.reverse.map V.int ++ [V.int c0])) := upd_same
          have gf6 : upd G1 lc (.lst (r0.reverse.map V.int ++ [V.int c0])) lf = _ := (upd_ne nfc).trans gf1
          have h6 := TS.lst (ys := r0.reverse.map V.int ++ [V.int c0]) gc1 _ _ hrs.1
          generalize upd G1 lc (.lst (r0.reverse.map V.int ++ [V.int c0])) = G6 at s6 g6 gf6 h6 ⊢
          refine ⟨_, rfl, lc, _, _, rfl, rfl, SqL.of g6, _, rfl, p, _, _, .int m, rfl, rfl, SqT.of h6, rfl, _, rfl, _, _, rfl, rfl, .inl ⟨by omega, by omega⟩, _, _, rfl, rfl, lc, _, _, rfl, rfl, g6, ?_⟩
          refine ⟨(c0 + m * i0) :: r0, _, _, _, _, _, rfl, same_lst s6 hlc0, (upd_ne nfc).trans gf6, ?_, e2⟩
          rw [upd_same, List.reverse_cons, List.map_append]; rfl
        · rw [if_neg bd] at e1; cases e1
      | when p pa pb t a b =>
        obtain rfl : p = P := hP
        refine iteN (fun z => wWT (of_decide_eq_true z)) ?_
        refine ⟨_, rfl, rfl, _, rfl, ?_⟩
        refine iteP (decide_eq_true rfl) ?_
        match st, e1, gc1, sl, e2 with
        | o0 :: i0 :: c0 :: r0, e1, gc1, sl, e2 =>
        have e1 : (if i0 = o0 then some ((c0 + i0) :: r0) else none) = some st' := e1
        by_cases bd : i0 = o0
        · rw [if_pos bd] at e1
          cases e1
          subst bd
          have er : (i0 :: i0 :: c0 :: r0).reverse.map V.int = ((r0.reverse.map V.int ++ [V.int c0]) ++ [V.int i0]) ++ [V.int i0] := by simp
          rw [er] at gc1
          refine ⟨_, rfl, .inl ⟨rfl, _, SqL.of gc1⟩, lc, _, .int i0, rfl, rfl, gc1, by simp, ?_⟩
          rw [List.dropLast_concat]
          have s6 := same_lst (ys := r0.reverse.map V.int ++ [V.int c0] ++ [V.int i0]) s5 hlc0
          have g6 : upd G1 lc (.lst (r0.reverse.map V.int ++ [V.int c0] ++ [V.int i0])) lc = some (.lst (r0.reverse.map V.int ++ [V.int c0] ++ [V.int i0])) := upd_same
          have gf6 : upd G1 lc (.lst (r0.reverse.map V.int ++ [V.int c0] ++ [V.int i0])) lf = _ := (upd_ne nfc).trans gf1
          generalize upd G1 lc (.lst (r0.reverse.map V.int ++ [V.int c0] ++ [V.int i0])) = G6 at s6 g6 gf6 ⊢
          refine ⟨_, rfl, .inl ⟨rfl, _, SqL.of g6⟩, lc, _, .int i0, rfl, rfl, g6, by simp, ?_⟩
          rw [List.dropLast_concat]
          have s7 := same_lst (ys := r0.reverse.map V.int ++ [V.int c0]) s6 hlc0
          have g7 : upd G6 lc (.lst (r0.reverse.map V.int ++ [V.int c0])) lc = some (.lst (r0.reverse.map V.int ++ [V.int c0])) := upd_same
          have gf7 : upd G6 lc (.lst (r0.reverse.map V.int ++ [V.int c0])) lf = _ := (upd_ne nfc).trans gf6
          generalize upd G6 lc (.lst (r0.reverse.map V.int ++ [V.int c0])) = G7 at s7 g7 gf7 ⊢
          refine ⟨_, rfl, lc, _, _, rfl, rfl, SqL.of g7, _, rfl, _, _, rfl, rfl, lc, _, _, rfl, rfl, g7, ?_⟩
          refine ⟨_, rfl, _, rfl, rfl, _, rfl, iteN (by simp) ?_⟩
          refine ⟨(c0 + i0) :: r0, _, _, _, _, _, rfl, same_lst s7 hlc0, (upd_ne nfc).trans gf7, ?_, e2⟩
          rw [upd_same, List.reverse_cons, List.map_append]; rfl
        · rw [if_neg bd] at e1; cases e1
      | thr p w x vs => cases e1
      | lt p x t => cases e1
      | tell p t => cases e1
    · rw [if_neg c3] at e1
      cases e1
      refine iteN (fun z => c3 (by have z := of_decide_eq_true z; injection z)) ?_
      refine iteN (by decide) ?_
      refine ⟨_, rfl, rfl, _, rfl, ?_⟩
      refine iteN (fun z => c3 (by have z := of_decide_eq_true z; injection z)) ?_
      exact ⟨_, _, _, _, _, _, rfl, s5, gf1, gc1, e2⟩
  · rintro σ G ⟨st, v3, v4, v5, v6, v7, rfl, s3, gf, gc, hrun⟩
    exact ⟨_, rfl, k lf G s3 gf⟩
end
end Mine
namespace Mine
open PySem L2
section
variable {P : Program} {w : World} {K : PySem.W.Frag} {mg : Str → Option Value} {base : Heap}
theorem nd_Law1 : (["_law_program_here"] : List Str).Nodup := by decide +kernel
theorem scLaw : FnScope ["_law_script", "_law_asked", "_law_k", "_law_deal_here"] ["_law_script"] (defScope sLaw) := ⟨rfl, rfl, rfl, by decide +kernel, rfl, by decide +kernel, by decide +kernel⟩
theorem ok_Law {f : Addr} {fd : FuncData} (F : Fun K "law" "law" sLaw f fd)
    {f_Deal : Addr} {d_Deal : FuncData} (G_Deal : FnOk P w K mg base CX0 (1) f_Deal d_Deal ["_law_script", "_law_base"] (spDeal K)) (b_Deal : Binds K d_Deal ["_law_script", "_law_base"] []) (k_Deal : PySem.W.keepIn K (.ref f_Deal) = true) (m_Deal : mg "_law_deal" = some (.ref f_Deal))
    {f_Alk : Addr} {d_Alk : FuncData} (G_Alk : FnOk P w K mg base CX0 (4) f_Alk d_Alk ["_law_deal_here", "_law_program_here"] spAlike) (b_Alk : Binds K d_Alk ["_law_deal_here", "_law_program_here"] []) (k_Alk : PySem.W.keepIn K (.ref f_Alk) = true) (m_Alk : mg "_law_alike" = some (.ref f_Alk))
    {f_Prg : Addr} {d_Prg : FuncData} (G_Prg : FnOk P w K mg base CX0 (17) f_Prg d_Prg ["_law_deal_here", "_law_most"] spPrg) (b_Prg : Binds K d_Prg ["_law_deal_here", "_law_most"] []) (k_Prg : PySem.W.keepIn K (.ref f_Prg) = true) (m_Prg : mg "_law_program" = some (.ref f_Prg))
    {f_Lok : Addr} {d_Lok : FuncData} (G_Lok : FnOk P w K mg base CX0 (5) f_Lok d_Lok ["program"] spLook) (b_Lok : Binds K d_Lok ["program"] []) (k_Lok : PySem.W.keepIn K (.ref f_Lok) = true) (m_Lok : mg "look" = some (.ref f_Lok))
    (m_range : mg "range" = none) (m_all : mg "all" = none) (m_max : mg "max" = none) (m_len : mg "len" = none) :
    FnOk P w K mg base CX0 (18) f fd ["_law_script"] (spLaw K) := by
  refine F.ok scLaw (fun vs H Q E h => ?_) (fun cdv A outer s H vs Q E hr h => ?_)
  · obtain ⟨a, ns, rfl, _⟩ := h
    rfl
  obtain ⟨a, ns, rfl, hS, hlen, k⟩ := h
  have hu := hu_of hr
  have hr1 : Room 1 _ := hr.mono (by decide)
  have hr4 : Room 4 _ := hr.mono (by decide)
  have hr5 : Room 5 _ := hr.mono (by decide)
  have hr17 : Room 17 _ := hr.mono (by decide)
  refine ⟨_, (pss_cons (ps_set (i := 1) scLaw.nd rfl (Or.inl rfl) (pe_lst pa_nil))
    (pss_cons (ps_for PassesOwn.never rfl (pi_range1 (by rfl) m_range (pa_cons (pe_callB (call_max2 rfl) (by rfl) m_max PyProof.Rows.boot_max (pa_cons pe_int (pa_cons (pe_callB call_len_seq (by rfl) m_len PySem.boot_len (pa_cons (pe_slice sl_list (pv 0) po_none (po_some pe_int)) pa_nil)) pa_nil))) pa_nil)) (pg_name (i := 2) scLaw.nd rfl (Or.inl rfl))
    (pss_cons (ps_set (i := 3) scLaw.nd rfl (Or.inl rfl) (pe_call G_Deal hr1 (by rfl) m_Deal k_Deal b_Deal .nil pass0 (pa_cons (pv 0) (pa_cons (pv 2) pa_nil))))
    (pss_one (ps_set (i := 1) scLaw.nd rfl (Or.inl rfl) (pe_op op_cat (pv 1) (pe_call G_Alk hr4 (by rfl) m_Alk k_Alk b_Alk .nil pass0 (pa_cons (pv 3) (pa_cons (pe_call G_Prg hr17 (by rfl) m_Prg k_Prg b_Prg .nil pass0 (pa_cons (pv 3) (pa_cons pe_int pa_nil))) pa_nil))))))))
    (pss_one (ps_ret (pe_callB call_all (by rfl) m_all PyProof.Rows.boot_all (pa_cons (pe_comp ["_law_program_here"] [none] (pi_list (pe_op op_cat (pv 1) (pe_slice sl_list (pv 1) po_none (po_some pe_int)))) (fun _ _ _ _ => (pg_name (i := 0) (nd_Law1) rfl (Or.inl rfl))) (fun _ _ _ _ => pf_nil) (fun _ _ _ _ => (pe_cmpR op_isB (pe_call G_Lok hr5 (by rfl) m_Lok k_Lok b_Lok .nil pass0 (pa_cons (pv 0) pa_nil)) pe_bl (nomark _)))) pa_nil)))))), ?_⟩
  refine ⟨Nat.zero_le _, fun lq hlq => ?_⟩
  have s1 := same_new hlq (.lst [])
  have h1 : upd H lq (.lst []) lq = some (.lst []) := upd_same
  generalize upd H lq (.lst []) = H1 at s1 h1 ⊢
  refine ⟨_, rfl, 4, rfl, a, _, rfl, sq_same hS s1, fun l2 hl2 => ⟨l2, _, rfl, .inl (SqL.of upd_same), _, _, rfl, ?_⟩⟩
  have s2 := same_new hl2 (.lst (cutV (ns.map V.int) none (some 4)))
  have lz := cut4_len (ns.map V.int)
  generalize hz : cutV (ns.map V.int) none (some 4) = cz at s2 lz ⊢
  have h2 := s2 _ _ h1
  generalize upd H1 l2 (.lst cz) = H2 at s2 h2 ⊢
  obtain ⟨n, hn, n1, n2⟩ : ∃ n : Int, (if (cz.length : Int) > 2 then (cz.length : Int) else 2) = n ∧ 2 ≤ n ∧ n ≤ 4 := ⟨_, rfl, by split <;> omega, by split <;> omega⟩
  rw [hn]
  refine ⟨n, rfl, by omega, by omega, for_rangeA (n := n.toNat) (fun i σ G => ∃ (lq : Addr) (us : List V) (v2 v3 : Option V), σ = [some (.ref a), some (.ref lq), v2, v3] ∧ Same H G ∧ G lq = some (.lst us) ∧ (∀ v ∈ us, GoodV G v) ∧ us.length ≤ 6 * i)
    ⟨lq, [], _, _, rfl, s1.trans s2, h2, fun v hv => absurd hv List.not_mem_nil, Nat.le_refl _⟩ ?_ ?_⟩
  · rintro D' i σ G hi ⟨lq, us, v2, v3, rfl, s3, h3, good, lu⟩
    refine ⟨_, rfl, _, rfl, a, ns, _, rfl, sq_same hS s3, hlen, by omega, by omega, fun d l H4 nd nl D4 s4 => ?_⟩
    refine ⟨_, rfl, _, rfl, _, rfl, d, l, 9, rfl, D4, fun p ks rs k2 tells H5 D5 o5 P5 c5 t5 => ⟨d, l, p, ks, rs, k2, tells, rfl, D5, P5, c5, t5, fun r vs H6 D6 o6 _ h6 good6 l6 => ?_⟩⟩
    have o46 := o5.trans o6
    have s46 : Same G H6 := fun b o e => o46 b o (s4 b o e) (ne_of_none e nd) (ne_of_none e nl)
    refine ⟨lq, r, _, _, rfl, rfl, s46 _ _ h3, h6, Nat.le_of_lt (big4 (by omega)), fun l7 hl7 => ?_⟩
    have s7 := same_new hl7 (.lst (us ++ vs))
    refine ⟨l7, us ++ vs, _, _, rfl, s3.trans (s46.trans s7), upd_same, fun v hv => ?_, by rw [List.length_append]; omega⟩
    rcases List.mem_append.mp hv with e | e
    · exact (good v e).ts (.of (s46.trans s7))
    · exact (good6 v e).ts (.of s7)
  · rintro σ G ⟨lq, us, v2, v3, rfl, s3, h3, good, lu⟩
    refine ⟨_, rfl, _, rfl, 2, rfl, lq, _, rfl, SqL.of h3, fun l5 hl5 => ?_⟩
    have s5 := same_new hl5 (.lst (cutV us none (some 2)))
    have h5 : upd G l5 (.lst (cutV us none (some 2))) l5 = some (.lst (cutV us none (some 2))) := upd_same
    have mc := fun v => cut_mem (xs := us) (lo := none) (hi := some 2) (v := v)
    have lc := cut_len us none (some 2)
    generalize cutV us none (some 2) = cs at s5 h5 mc lc ⊢
    generalize upd G l5 (.lst cs) = G5 at s5 h5 ⊢
    refine ⟨lq, l5, _, _, rfl, rfl, s5 _ _ h3, h5, Nat.le_of_lt (big4 (by omega)), fun l6 hl6 => ⟨l6, rfl, ⟨_, SqL.of upd_same⟩, ?_⟩⟩
    have s6 := s5.trans (same_new hl6 (.lst (us ++ cs)))
    have h6 : upd G5 l6 (.lst (us ++ cs)) l6 = some (.lst (us ++ cs)) := upd_same
    generalize upd G5 l6 (.lst (us ++ cs)) = G6 at s6 h6 ⊢
    have ll : (us ++ cs).length ≤ 9000000 := by rw [List.length_append]; omega
    refine comp_list (K := K) (a := l6) (xs := us ++ cs) (fun i ys σ G' => Same G6 G' ∧ (∃ v, σ = [v]) ∧ ys = List.replicate i (V.bl true))
      (big4 ll) ⟨Same.refl _, ⟨_, rfl⟩, rfl⟩ (by rintro i ys σ G' ⟨_, _, e⟩; rw [e, List.length_replicate]; exact Nat.le_refl _) (by rintro i ys σ G' _ ⟨e, _⟩; exact SqL.of (e _ _ h6)) ?_ ?_
    · rintro i v ys σ G' hv ⟨s7, ⟨v', rfl⟩, rfl⟩
      have gv : GoodV G v := by
        rcases List.mem_append.mp (List.mem_of_getElem? hv) with e | e
        · exact good v e
        · exact good v (mc v e)
      obtain ⟨p, ks, rs, k2, tells, rfl, PP⟩ := gv
      refine ⟨_, rfl, p, ks, rs, k2, tells, rfl, PP.ts (.of (s6.trans s7)), fun H' s' => ⟨true, true, rfl, rfl, s7.trans s', ⟨_, rfl⟩, ?_⟩⟩
      rw [List.replicate_succ']
      rfl
    rintro ys σ G' ⟨s7, _, rfl⟩ l8 hl8
    refine ⟨l8, List.replicate (us ++ cs).length true, rfl, SqL.of (by rw [upd_same, List.map_replicate]), ?_⟩
    rw [all_rep]
    exact k _
end
end Mine
namespace L2
open PySem PySem.Spec PyProof.Rows
/-! ### how arguments bind, by their number -/
theorem len_cons {α : Type} {n : Nat} {us : List α} (h : us.length = n + 1) : ∃ u r, us = u :: r ∧ r.length = n := by
  cases us with
  | nil => cases h
  | cons u r => exact ⟨u, r, rfl, Nat.succ.inj h⟩
section
variable {K : PySem.W.Frag} {x qual : Str} {st : Stmt} {f : Addr} {fd : FuncData} {p1 p2 p3 p4 p5 : Str}
theorem Fun.b1 (F : Fun K x qual st f fd) (h : ∀ (kV doc pm : Value) (an : Option Addr) (cdv ct u1 : Value), bindArgs (PySem.W.fnOf x qual (defArgs st) (defBody st) (defScope st) .none kV doc pm an cdv ct) ⟨[u1], []⟩ = pure [(p1, u1)]) : Binds K fd [p1] [] := by
  refine F.binds fun kV doc pm an cdv ct us h0 => ?_
  obtain ⟨u1, r1, rfl, h1⟩ := len_cons (n := 0) h0
  cases List.length_eq_zero_iff.mp h1
  exact h kV doc pm an cdv ct u1
theorem Fun.b2 (F : Fun K x qual st f fd) (h : ∀ (kV doc pm : Value) (an : Option Addr) (cdv ct u1 u2 : Value), bindArgs (PySem.W.fnOf x qual (defArgs st) (defBody st) (defScope st) .none kV doc pm an cdv ct) ⟨[u1, u2], []⟩ = pure [(p1, u1), (p2, u2)]) : Binds K fd [p1, p2] [] := by
  refine F.binds fun kV doc pm an cdv ct us h0 => ?_
  obtain ⟨u1, r1, rfl, h1⟩ := len_cons (n := 1) h0
  obtain ⟨u2, r2, rfl, h2⟩ := len_cons (n := 0) h1
  cases List.length_eq_zero_iff.mp h2
  exact h kV doc pm an cdv ct u1 u2
theorem Fun.b3 (F : Fun K x qual st f fd) (h : ∀ (kV doc pm : Value) (an : Option Addr) (cdv ct u1 u2 u3 : Value), bindArgs (PySem.W.fnOf x qual (defArgs st) (defBody st) (defScope st) .none kV doc pm an cdv ct) ⟨[u1, u2, u3], []⟩ = pure [(p1, u1), (p2, u2), (p3, u3)]) : Binds K fd [p1, p2, p3] [] := by
  refine F.binds fun kV doc pm an cdv ct us h0 => ?_
  obtain ⟨u1, r1, rfl, h1⟩ := len_cons (n := 2) h0
  obtain ⟨u2, r2, rfl, h2⟩ := len_cons (n := 1) h1
  obtain ⟨u3, r3, rfl, h3⟩ := len_cons (n := 0) h2
  cases List.length_eq_zero_iff.mp h3
  exact h kV doc pm an cdv ct u1 u2 u3
theorem Fun.b4 (F : Fun K x qual st f fd) (h : ∀ (kV doc pm : Value) (an : Option Addr) (cdv ct u1 u2 u3 u4 : Value), bindArgs (PySem.W.fnOf x qual (defArgs st) (defBody st) (defScope st) .none kV doc pm an cdv ct) ⟨[u1, u2, u3, u4], []⟩ = pure [(p1, u1), (p2, u2), (p3, u3), (p4, u4)]) : Binds K fd [p1, p2, p3, p4] [] := by
  refine F.binds fun kV doc pm an cdv ct us h0 => ?_
  obtain ⟨u1, r1, rfl, h1⟩ := len_cons (n := 3) h0
  obtain ⟨u2, r2, rfl, h2⟩ := len_cons (n := 2) h1
  obtain ⟨u3, r3, rfl, h3⟩ := len_cons (n := 1) h2
  obtain ⟨u4, r4, rfl, h4⟩ := len_cons (n := 0) h3
  cases List.length_eq_zero_iff.mp h4
  exact h kV doc pm an cdv ct u1 u2 u3 u4
theorem Fun.b5 (F : Fun K x qual st f fd) (h : ∀ (kV doc pm : Value) (an : Option Addr) (cdv ct u1 u2 u3 u4 u5 : Value), bindArgs (PySem.W.fnOf x qual (defArgs st) (defBody st) (defScope st) .none kV doc pm an cdv ct) ⟨[u1, u2, u3, u4, u5], []⟩ = pure [(p1, u1), (p2, u2), (p3, u3), (p4, u4), (p5, u5)]) : Binds K fd [p1, p2, p3, p4, p5] [] := by
  refine F.binds fun kV doc pm an cdv ct us h0 => ?_
  obtain ⟨u1, r1, rfl, h1⟩ := len_cons (n := 4) h0
  obtain ⟨u2, r2, rfl, h2⟩ := len_cons (n := 3) h1
  obtain ⟨u3, r3, rfl, h3⟩ := len_cons (n := 2) h2
  obtain ⟨u4, r4, rfl, h4⟩ := len_cons (n := 1) h3
  obtain ⟨u5, r5, rfl, h5⟩ := len_cons (n := 0) h4
  cases List.length_eq_zero_iff.mp h5
  exact h kV doc pm an cdv ct u1 u2 u3 u4 u5
end
end L2
namespace Mine
open PySem L2
theorem fn_no {P : Program} {w : World} {K : PySem.W.Frag} {mg : Str → Option Value} {base : Heap} {CX : CXT} {k : Nat} {f : Addr} {fd : FuncData} {ps : List Str} : FnOk P w K mg base CX k f fd ps (fun _ _ _ _ => False) :=
  ⟨fun _ _ _ _ h => h.elim, fun _ _ _ _ _ _ _ _ _ _ _ _ _ h => h.elim⟩
theorem all_mk {l : PySem.W.OpenLaw} {w : World} {K : PySem.W.Frag} {h : Heap} {mg : Str → Option Value} {fa f1 f2 f3 f4 f5 f6 f7 f8 f9 f10 f11 f12 f13 f14 f15 f16 f17 f18 f19 f20 f21 f22 f23 f24 f25 f26 f27 f28 f29 : Addr} (X : K.In h) (G : h.Ns mainGlobals mg) (hfa : mg "law" = some (.ref fa))
    {od1 an1 od2 an2 od3 an3 od4 an4 od5 an5 od6 an6 od7 an7 od8 an8 od9 an9 od10 an10 od11 an11 od12 an12 od13 an13 od14 an14 od15 an15 od16 an16 od17 an17 od18 an18 od19 an19 od20 an20 od21 an21 od22 an22 od23 an23 od24 an24 od25 an25 od26 an26 od27 an27 od28 an28 od29 an29 : Option Addr} {sl1 sl2 sl3 sl4 sl5 sl6 sl7 sl8 sl9 sl10 sl11 sl12 sl13 sl14 sl15 sl16 sl17 sl18 sl19 sl20 sl21 sl22 sl23 sl24 sl25 sl26 sl27 sl28 sl29 : Array (Option Value)} {oc1 kV1 dc1 pm1 cd1 ct1 oc2 kV2 dc2 pm2 cd2 ct2 oc3 kV3 dc3 pm3 cd3 ct3 oc4 kV4 dc4 pm4 cd4 ct4 oc5 kV5 dc5 pm5 cd5 ct5 oc6 kV6 dc6 pm6 cd6 ct6 oc7 kV7 dc7 pm7 cd7 ct7 oc8 kV8 dc8 pm8 cd8 ct8 oc9 kV9 dc9 pm9 cd9 ct9 oc10 kV10 dc10 pm10 cd10 ct10 oc11 kV11 dc11 pm11 cd11 ct11 oc12 kV12 dc12 pm12 cd12 ct12 oc13 kV13 dc13 pm13 cd13 ct13 oc14 kV14 dc14 pm14 cd14 ct14 oc15 kV15 dc15 pm15 cd15 ct15 oc16 kV16 dc16 pm16 cd16 ct16 oc17 kV17 dc17 pm17 cd17 ct17 oc18 kV18 dc18 pm18 cd18 ct18 oc19 kV19 dc19 pm19 cd19 ct19 oc20 kV20 dc20 pm20 cd20 ct20 oc21 kV21 dc21 pm21 cd21 ct21 oc22 kV22 dc22 pm22 cd22 ct22 oc23 kV23 dc23 pm23 cd23 ct23 oc24 kV24 dc24 pm24 cd24 ct24 oc25 kV25 dc25 pm25 cd25 ct25 oc26 kV26 dc26 pm26 cd26 ct26 oc27 kV27 dc27 pm27 cd27 ct27 oc28 kV28 dc28 pm28 cd28 ct28 oc29 kV29 dc29 pm29 cd29 ct29 : Value}
    {xcT : Addr} {odT : Option Addr} {itsT : Array Value} {nT : Nat} {slT : Array (Option Value)} {tM : Tok}
    (a1 : PySem.W.nsIn K mainGlobals "parts_of" = some (some (.ref f1))) (l1 : K.lookup f1 = some ⟨oc1, od1, .func (PySem.W.fnOf "parts_of" "parts_of" (defArgs sPrt) (defBody sPrt) (defScope sPrt) .none kV1 dc1 pm1 an1 cd1 ct1), sl1⟩) (c1 : PySem.W.codeIn K cd1 "parts_of" = true) (k1 : PySem.W.keepIn K (.ref f1) = true)
    (a2 : PySem.W.nsIn K mainGlobals "names_in" = some (some (.ref f2))) (l2 : K.lookup f2 = some ⟨oc2, od2, .func (PySem.W.fnOf "names_in" "names_in" (defArgs sNmI) (defBody sNmI) (defScope sNmI) .none kV2 dc2 pm2 an2 cd2 ct2), sl2⟩) (c2 : PySem.W.codeIn K cd2 "names_in" = true) (k2 : PySem.W.keepIn K (.ref f2) = true)
    (a3 : PySem.W.nsIn K mainGlobals "sets_name" = some (some (.ref f3))) (l3 : K.lookup f3 = some ⟨oc3, od3, .func (PySem.W.fnOf "sets_name" "sets_name" (defArgs sSeN) (defBody sSeN) (defScope sSeN) .none kV3 dc3 pm3 an3 cd3 ct3), sl3⟩) (c3 : PySem.W.codeIn K cd3 "sets_name" = true) (k3 : PySem.W.keepIn K (.ref f3) = true)
    (a4 : PySem.W.nsIn K mainGlobals "names_asked" = some (some (.ref f4))) (l4 : K.lookup f4 = some ⟨oc4, od4, .func (PySem.W.fnOf "names_asked" "names_asked" (defArgs sAsk) (defBody sAsk) (defScope sAsk) .none kV4 dc4 pm4 an4 cd4 ct4), sl4⟩) (c4 : PySem.W.codeIn K cd4 "names_asked" = true) (k4 : PySem.W.keepIn K (.ref f4) = true)
    (a5 : PySem.W.nsIn K mainGlobals "as_steps" = some (some (.ref f5))) (l5 : K.lookup f5 = some ⟨oc5, od5, .func (PySem.W.fnOf "as_steps" "as_steps" (defArgs sAsS) (defBody sAsS) (defScope sAsS) .none kV5 dc5 pm5 an5 cd5 ct5), sl5⟩) (c5 : PySem.W.codeIn K cd5 "as_steps" = true) (k5 : PySem.W.keepIn K (.ref f5) = true)
    (a6 : PySem.W.nsIn K mainGlobals "inner_steps" = some (some (.ref f6))) (l6 : K.lookup f6 = some ⟨oc6, od6, .func (PySem.W.fnOf "inner_steps" "inner_steps" (defArgs sInn) (defBody sInn) (defScope sInn) .none kV6 dc6 pm6 an6 cd6 ct6), sl6⟩) (c6 : PySem.W.codeIn K cd6 "inner_steps" = true) (k6 : PySem.W.keepIn K (.ref f6) = true)
    (a7 : PySem.W.nsIn K mainGlobals "steps_of" = some (some (.ref f7))) (l7 : K.lookup f7 = some ⟨oc7, od7, .func (PySem.W.fnOf "steps_of" "steps_of" (defArgs sSts) (defBody sSts) (defScope sSts) .none kV7 dc7 pm7 an7 cd7 ct7), sl7⟩) (c7 : PySem.W.codeIn K cd7 "steps_of" = true) (k7 : PySem.W.keepIn K (.ref f7) = true)
    (a8 : PySem.W.nsIn K mainGlobals "begins_rows" = some (some (.ref f8))) (l8 : K.lookup f8 = some ⟨oc8, od8, .func (PySem.W.fnOf "begins_rows" "begins_rows" (defArgs sBgn) (defBody sBgn) (defScope sBgn) .none kV8 dc8 pm8 an8 cd8 ct8), sl8⟩) (c8 : PySem.W.codeIn K cd8 "begins_rows" = true) (k8 : PySem.W.keepIn K (.ref f8) = true)
    (a9 : PySem.W.nsIn K mainGlobals "first_is_amiss" = some (some (.ref f9))) (l9 : K.lookup f9 = some ⟨oc9, od9, .func (PySem.W.fnOf "first_is_amiss" "first_is_amiss" (defArgs sFiA) (defBody sFiA) (defScope sFiA) .none kV9 dc9 pm9 an9 cd9 ct9), sl9⟩) (c9 : PySem.W.codeIn K cd9 "first_is_amiss" = true) (k9 : PySem.W.keepIn K (.ref f9) = true)
    (a10 : PySem.W.nsIn K mainGlobals "range_is_amiss" = some (some (.ref f10))) (l10 : K.lookup f10 = some ⟨oc10, od10, .func (PySem.W.fnOf "range_is_amiss" "range_is_amiss" (defArgs sRnA) (defBody sRnA) (defScope sRnA) .none kV10 dc10 pm10 an10 cd10 ct10), sl10⟩) (c10 : PySem.W.codeIn K cd10 "range_is_amiss" = true) (k10 : PySem.W.keepIn K (.ref f10) = true)
    (a11 : PySem.W.nsIn K mainGlobals "range_faults" = some (some (.ref f11))) (l11 : K.lookup f11 = some ⟨oc11, od11, .func (PySem.W.fnOf "range_faults" "range_faults" (defArgs sRnF) (defBody sRnF) (defScope sRnF) .none kV11 dc11 pm11 an11 cd11 ct11), sl11⟩) (c11 : PySem.W.codeIn K cd11 "range_faults" = true) (k11 : PySem.W.keepIn K (.ref f11) = true)
    (a12 : PySem.W.nsIn K mainGlobals "in_both" = some (some (.ref f12))) (l12 : K.lookup f12 = some ⟨oc12, od12, .func (PySem.W.fnOf "in_both" "in_both" (defArgs sBth) (defBody sBth) (defScope sBth) .none kV12 dc12 pm12 an12 cd12 ct12), sl12⟩) (c12 : PySem.W.codeIn K cd12 "in_both" = true) (k12 : PySem.W.keepIn K (.ref f12) = true)
    (a13 : PySem.W.nsIn K mainGlobals "unknown_faults" = some (some (.ref f13))) (l13 : K.lookup f13 = some ⟨oc13, od13, .func (PySem.W.fnOf "unknown_faults" "unknown_faults" (defArgs sUnF) (defBody sUnF) (defScope sUnF) .none kV13 dc13 pm13 an13 cd13 ct13), sl13⟩) (c13 : PySem.W.codeIn K cd13 "unknown_faults" = true) (k13 : PySem.W.keepIn K (.ref f13) = true)
    (a14 : PySem.W.nsIn K mainGlobals "tells_faults" = some (some (.ref f14))) (l14 : K.lookup f14 = some ⟨oc14, od14, .func (PySem.W.fnOf "tells_faults" "tells_faults" (defArgs sTlF) (defBody sTlF) (defScope sTlF) .none kV14 dc14 pm14 an14 cd14 ct14), sl14⟩) (c14 : PySem.W.codeIn K cd14 "tells_faults" = true) (k14 : PySem.W.keepIn K (.ref f14) = true)
    (a15 : PySem.W.nsIn K mainGlobals "look_at_kinds" = some (some (.ref f15))) (l15 : K.lookup f15 = some ⟨oc15, od15, .func (PySem.W.fnOf "look_at_kinds" "look_at_kinds" (defArgs sLkk) (defBody sLkk) (defScope sLkk) .none kV15 dc15 pm15 an15 cd15 ct15), sl15⟩) (c15 : PySem.W.codeIn K cd15 "look_at_kinds" = true) (k15 : PySem.W.keepIn K (.ref f15) = true)
    (a16 : PySem.W.nsIn K mainGlobals "look" = some (some (.ref f16))) (l16 : K.lookup f16 = some ⟨oc16, od16, .func (PySem.W.fnOf "look" "look" (defArgs sLok) (defBody sLok) (defScope sLok) .none kV16 dc16 pm16 an16 cd16 ct16), sl16⟩) (c16 : PySem.W.codeIn K cd16 "look" = true) (k16 : PySem.W.keepIn K (.ref f16) = true)
    (a17 : PySem.W.nsIn K mainGlobals "_law_deal" = some (some (.ref f17))) (l17 : K.lookup f17 = some ⟨oc17, od17, .func (PySem.W.fnOf "_law_deal" "_law_deal" (defArgs sDeal) (defBody sDeal) (defScope sDeal) .none kV17 dc17 pm17 an17 cd17 ct17), sl17⟩) (c17 : PySem.W.codeIn K cd17 "_law_deal" = true) (k17 : PySem.W.keepIn K (.ref f17) = true)
    (a18 : PySem.W.nsIn K mainGlobals "_law_draw" = some (some (.ref f18))) (l18 : K.lookup f18 = some ⟨oc18, od18, .func (PySem.W.fnOf "_law_draw" "_law_draw" (defArgs sDraw) (defBody sDraw) (defScope sDraw) .none kV18 dc18 pm18 an18 cd18 ct18), sl18⟩) (c18 : PySem.W.codeIn K cd18 "_law_draw" = true) (k18 : PySem.W.keepIn K (.ref f18) = true)
    (a19 : PySem.W.nsIn K mainGlobals "_law_names" = some (some (.ref f19))) (l19 : K.lookup f19 = some ⟨oc19, od19, .func (PySem.W.fnOf "_law_names" "_law_names" (defArgs sNms) (defBody sNms) (defScope sNms) .none kV19 dc19 pm19 an19 cd19 ct19), sl19⟩) (c19 : PySem.W.codeIn K cd19 "_law_names" = true) (k19 : PySem.W.keepIn K (.ref f19) = true)
    (a20 : PySem.W.nsIn K mainGlobals "_law_sum" = some (some (.ref f20))) (l20 : K.lookup f20 = some ⟨oc20, od20, .func (PySem.W.fnOf "_law_sum" "_law_sum" (defArgs sSum) (defBody sSum) (defScope sSum) .none kV20 dc20 pm20 an20 cd20 ct20), sl20⟩) (c20 : PySem.W.codeIn K cd20 "_law_sum" = true) (k20 : PySem.W.keepIn K (.ref f20) = true)
    (a21 : PySem.W.nsIn K mainGlobals "_law_steep" = some (some (.ref f21))) (l21 : K.lookup f21 = some ⟨oc21, od21, .func (PySem.W.fnOf "_law_steep" "_law_steep" (defArgs sStp) (defBody sStp) (defScope sStp) .none kV21 dc21 pm21 an21 cd21 ct21), sl21⟩) (c21 : PySem.W.codeIn K cd21 "_law_steep" = true) (k21 : PySem.W.keepIn K (.ref f21) = true)
    (a22 : PySem.W.nsIn K mainGlobals "_law_throw" = some (some (.ref f22))) (l22 : K.lookup f22 = some ⟨oc22, od22, .func (PySem.W.fnOf "_law_throw" "_law_throw" (defArgs sThw) (defBody sThw) (defScope sThw) .none kV22 dc22 pm22 an22 cd22 ct22), sl22⟩) (c22 : PySem.W.codeIn K cd22 "_law_throw" = true) (k22 : PySem.W.keepIn K (.ref f22) = true)
    (a23 : PySem.W.nsIn K mainGlobals "_law_term" = some (some (.ref f23))) (l23 : K.lookup f23 = some ⟨oc23, od23, .func (PySem.W.fnOf "_law_term" "_law_term" (defArgs sTrm) (defBody sTrm) (defScope sTrm) .none kV23 dc23 pm23 an23 cd23 ct23), sl23⟩) (c23 : PySem.W.codeIn K cd23 "_law_term" = true) (k23 : PySem.W.keepIn K (.ref f23) = true)
    (a24 : PySem.W.nsIn K mainGlobals "_law_setting" = some (some (.ref f24))) (l24 : K.lookup f24 = some ⟨oc24, od24, .func (PySem.W.fnOf "_law_setting" "_law_setting" (defArgs sSet) (defBody sSet) (defScope sSet) .none kV24 dc24 pm24 an24 cd24 ct24), sl24⟩) (c24 : PySem.W.codeIn K cd24 "_law_setting" = true) (k24 : PySem.W.keepIn K (.ref f24) = true)
    (a25 : PySem.W.nsIn K mainGlobals "_law_when" = some (some (.ref f25))) (l25 : K.lookup f25 = some ⟨oc25, od25, .func (PySem.W.fnOf "_law_when" "_law_when" (defArgs sWhn) (defBody sWhn) (defScope sWhn) .none kV25 dc25 pm25 an25 cd25 ct25), sl25⟩) (c25 : PySem.W.codeIn K cd25 "_law_when" = true) (k25 : PySem.W.keepIn K (.ref f25) = true)
    (a26 : PySem.W.nsIn K mainGlobals "_law_block" = some (some (.ref f26))) (l26 : K.lookup f26 = some ⟨oc26, od26, .func (PySem.W.fnOf "_law_block" "_law_block" (defArgs sBlk) (defBody sBlk) (defScope sBlk) .none kV26 dc26 pm26 an26 cd26 ct26), sl26⟩) (c26 : PySem.W.codeIn K cd26 "_law_block" = true) (k26 : PySem.W.keepIn K (.ref f26) = true)
    (a27 : PySem.W.nsIn K mainGlobals "_law_program" = some (some (.ref f27))) (l27 : K.lookup f27 = some ⟨oc27, od27, .func (PySem.W.fnOf "_law_program" "_law_program" (defArgs sPrg) (defBody sPrg) (defScope sPrg) .none kV27 dc27 pm27 an27 cd27 ct27), sl27⟩) (c27 : PySem.W.codeIn K cd27 "_law_program" = true) (k27 : PySem.W.keepIn K (.ref f27) = true)
    (a28 : PySem.W.nsIn K mainGlobals "_law_alike" = some (some (.ref f28))) (l28 : K.lookup f28 = some ⟨oc28, od28, .func (PySem.W.fnOf "_law_alike" "_law_alike" (defArgs sAlk) (defBody sAlk) (defScope sAlk) .none kV28 dc28 pm28 an28 cd28 ct28), sl28⟩) (c28 : PySem.W.codeIn K cd28 "_law_alike" = true) (k28 : PySem.W.keepIn K (.ref f28) = true)
    (a29 : PySem.W.nsIn K mainGlobals "law" = some (some (.ref f29))) (l29 : K.lookup f29 = some ⟨oc29, od29, .func (PySem.W.fnOf "law" "law" (defArgs sLaw) (defBody sLaw) (defScope sLaw) .none kV29 dc29 pm29 an29 cd29 ct29), sl29⟩) (c29 : PySem.W.codeIn K cd29 "law" = true) (k29 : PySem.W.keepIn K (.ref f29) = true)
    (z_reversed : PySem.W.nsIn K mainGlobals "reversed" = some none)
    (z_all : PySem.W.nsIn K mainGlobals "all" = some none)
    (z_dict : PySem.W.nsIn K mainGlobals "dict" = some none)
    (z_len : PySem.W.nsIn K mainGlobals "len" = some none)
    (z_set : PySem.W.nsIn K mainGlobals "set" = some none)
    (z_min : PySem.W.nsIn K mainGlobals "min" = some none)
    (z_any : PySem.W.nsIn K mainGlobals "any" = some none)
    (z_max : PySem.W.nsIn K mainGlobals "max" = some none)
    (z_list : PySem.W.nsIn K mainGlobals "list" = some none)
    (z_range : PySem.W.nsIn K mainGlobals "range" = some none)
    (z_tuple : PySem.W.nsIn K mainGlobals "tuple" = some none)
    (z_int : PySem.W.nsIn K mainGlobals "int" = some none)
    (qT : PySem.W.nsIn K mainGlobals "THROWS" = some (some (.ref xcT)))
    (uT : K.lookup xcT = some ⟨.type "tuple", odT, .seq itsT nT, slT⟩)
    (vT : Vals (thrW.map V.str) itsT.toList)
    (qM : PySem.W.nsIn K mainGlobals "MOST_KINDS" = some (some (.int 3 tM))) :
    ∃ fd : FuncData, (∀ (s : Shared) (v : Value), BindsTo s fd ⟨[v], []⟩ [("_law_script", v)]) ∧ ∀ base : Heap, K.In base → base.Ns mainGlobals mg → FnOk l.prog w K mg base CX0 18 fa fd ["_law_script"] (spLaw K) := by
  have e := hfa.symm.trans (PySem.W.mg_of X G a29)
  cases e
  have F1 := fun_mk (st := sPrt) l1 c1 k1
  have b1 := F1.b1 (p1 := "term") fun _ _ _ _ _ _ _ => rfl
  have m1 := PySem.W.mg_of X G a1
  have F2 := fun_mk (st := sNmI) l2 c2 k2
  have b2 := F2.b1 (p1 := "term") fun _ _ _ _ _ _ _ => rfl
  have m2 := PySem.W.mg_of X G a2
  have F3 := fun_mk (st := sSeN) l3 c3 k3
  have b3 := F3.b1 (p1 := "row") fun _ _ _ _ _ _ _ => rfl
  have m3 := PySem.W.mg_of X G a3
  have F4 := fun_mk (st := sAsk) l4 c4 k4
  have b4 := F4.b1 (p1 := "row") fun _ _ _ _ _ _ _ => rfl
  have m4 := PySem.W.mg_of X G a4
  have F5 := fun_mk (st := sAsS) l5 c5 k5
  have b5 := F5.b1 (p1 := "rows") fun _ _ _ _ _ _ _ => rfl
  have m5 := PySem.W.mg_of X G a5
  have F6 := fun_mk (st := sInn) l6 c6 k6
  have b6 := F6.b1 (p1 := "row") fun _ _ _ _ _ _ _ => rfl
  have m6 := PySem.W.mg_of X G a6
  have F7 := fun_mk (st := sSts) l7 c7 k7
  have b7 := F7.b1 (p1 := "rows") fun _ _ _ _ _ _ _ => rfl
  have m7 := PySem.W.mg_of X G a7
  have F8 := fun_mk (st := sBgn) l8 c8 k8
  have b8 := F8.b2 (p1 := "word") (p2 := "row") fun _ _ _ _ _ _ _ _ => rfl
  have m8 := PySem.W.mg_of X G a8
  have F9 := fun_mk (st := sFiA) l9 c9 k9
  have b9 := F9.b1 (p1 := "row") fun _ _ _ _ _ _ _ => rfl
  have m9 := PySem.W.mg_of X G a9
  have F10 := fun_mk (st := sRnA) l10 c10 k10
  have b10 := F10.b1 (p1 := "row") fun _ _ _ _ _ _ _ => rfl
  have m10 := PySem.W.mg_of X G a10
  have F11 := fun_mk (st := sRnF) l11 c11 k11
  have b11 := F11.b1 (p1 := "steps") fun _ _ _ _ _ _ _ => rfl
  have m11 := PySem.W.mg_of X G a11
  have F12 := fun_mk (st := sBth) l12 c12 k12
  have b12 := F12.b2 (p1 := "one") (p2 := "other") fun _ _ _ _ _ _ _ _ => rfl
  have m12 := PySem.W.mg_of X G a12
  have F13 := fun_mk (st := sUnF) l13 c13 k13
  have b13 := F13.b1 (p1 := "steps") fun _ _ _ _ _ _ _ => rfl
  have m13 := PySem.W.mg_of X G a13
  have F14 := fun_mk (st := sTlF) l14 c14 k14
  have b14 := F14.b1 (p1 := "steps") fun _ _ _ _ _ _ _ => rfl
  have m14 := PySem.W.mg_of X G a14
  have F15 := fun_mk (st := sLkk) l15 c15 k15
  have b15 := F15.b1 (p1 := "kinds") fun _ _ _ _ _ _ _ => rfl
  have m15 := PySem.W.mg_of X G a15
  have F16 := fun_mk (st := sLok) l16 c16 k16
  have b16 := F16.b1 (p1 := "program") fun _ _ _ _ _ _ _ => rfl
  have m16 := PySem.W.mg_of X G a16
  have F17 := fun_mk (st := sDeal) l17 c17 k17
  have b17 := F17.b2 (p1 := "_law_script") (p2 := "_law_base") fun _ _ _ _ _ _ _ _ => rfl
  have m17 := PySem.W.mg_of X G a17
  have F18 := fun_mk (st := sDraw) l18 c18 k18
  have b18 := F18.b2 (p1 := "_law_deal_here") (p2 := "_law_many") fun _ _ _ _ _ _ _ _ => rfl
  have m18 := PySem.W.mg_of X G a18
  have F19 := fun_mk (st := sNms) l19 c19 k19
  have b19 := F19.b2 (p1 := "_law_deal_here") (p2 := "_law_many") fun _ _ _ _ _ _ _ _ => rfl
  have m19 := PySem.W.mg_of X G a19
  have F20 := fun_mk (st := sSum) l20 c20 k20
  have b20 := F20.b2 (p1 := "_law_deal_here") (p2 := "_law_many") fun _ _ _ _ _ _ _ _ => rfl
  have m20 := PySem.W.mg_of X G a20
  have F21 := fun_mk (st := sStp) l21 c21 k21
  have b21 := F21.b2 (p1 := "_law_deal_here") (p2 := "_law_most") fun _ _ _ _ _ _ _ _ => rfl
  have m21 := PySem.W.mg_of X G a21
  have F22 := fun_mk (st := sThw) l22 c22 k22
  have b22 := F22.b3 (p1 := "_law_deal_here") (p2 := "_law_many") (p3 := "_law_x") fun _ _ _ _ _ _ _ _ _ => rfl
  have m22 := PySem.W.mg_of X G a22
  have F23 := fun_mk (st := sTrm) l23 c23 k23
  have b23 := F23.b4 (p1 := "_law_deal_here") (p2 := "_law_known") (p3 := "_law_room") (p4 := "_law_deep") fun _ _ _ _ _ _ _ _ _ _ => rfl
  have m23 := PySem.W.mg_of X G a23
  have F24 := fun_mk (st := sSet) l24 c24 k24
  have b24 := F24.b4 (p1 := "_law_deal_here") (p2 := "_law_scene") (p3 := "_law_known") (p4 := "_law_x") fun _ _ _ _ _ _ _ _ _ _ => rfl
  have m24 := PySem.W.mg_of X G a24
  have F25 := fun_mk (st := sWhn) l25 c25 k25
  have b25 := F25.b5 (p1 := "_law_deal_here") (p2 := "_law_scene") (p3 := "_law_known") (p4 := "_law_tells") (p5 := "_law_deep") fun _ _ _ _ _ _ _ _ _ _ _ => rfl
  have m25 := PySem.W.mg_of X G a25
  have F26 := fun_mk (st := sBlk) l26 c26 k26
  have b26 := F26.b5 (p1 := "_law_deal_here") (p2 := "_law_scene") (p3 := "_law_known") (p4 := "_law_tells") (p5 := "_law_deep") fun _ _ _ _ _ _ _ _ _ _ _ => rfl
  have m26 := PySem.W.mg_of X G a26
  have F27 := fun_mk (st := sPrg) l27 c27 k27
  have b27 := F27.b2 (p1 := "_law_deal_here") (p2 := "_law_most") fun _ _ _ _ _ _ _ _ => rfl
  have m27 := PySem.W.mg_of X G a27
  have F28 := fun_mk (st := sAlk) l28 c28 k28
  have b28 := F28.b2 (p1 := "_law_deal_here") (p2 := "_law_program_here") fun _ _ _ _ _ _ _ _ => rfl
  have m28 := PySem.W.mg_of X G a28
  have F29 := fun_mk (st := sLaw) l29 c29 k29
  have y_reversed := PySem.W.mg_none_of X G z_reversed
  have y_all := PySem.W.mg_none_of X G z_all
  have y_dict := PySem.W.mg_none_of X G z_dict
  have y_len := PySem.W.mg_none_of X G z_len
  have y_set := PySem.W.mg_none_of X G z_set
  have y_min := PySem.W.mg_none_of X G z_min
  have y_any := PySem.W.mg_none_of X G z_any
  have y_max := PySem.W.mg_none_of X G z_max
  have y_list := PySem.W.mg_none_of X G z_list
  have y_range := PySem.W.mg_none_of X G z_range
  have y_tuple := PySem.W.mg_none_of X G z_tuple
  have y_int := PySem.W.mg_none_of X G z_int
  refine ⟨PySem.W.fnOf "law" "law" (defArgs sLaw) (defBody sLaw) (defScope sLaw) .none kV29 dc29 pm29 an29 cd29 ct29, fun s v => .of_eq rfl, fun base _ _ => ?_⟩
  have mT := PySem.W.mg_of X G qT
  have mM := PySem.W.mg_of X G qM
  have zT : itsT.size ≤ sizeLine := by
    have e := vT.length
    have e2 : itsT.size = 4 := by rw [← Array.length_toList]; simpa [thrW] using e.symm
    rw [e2]
    decide
  have hT : ∀ H, SqT K H xcT (thrW.map V.str) := fun H => .inr ⟨_, itsT, nT, uT, rfl, rfl, zT, vT⟩
  have G1 := ok_Prt (P := l.prog) (w := w) (mg := mg) (base := base) F1   
  have G2 := ok_NmI (P := l.prog) (w := w) (mg := mg) (base := base) F2  G1 b1 k1 m1 
  have G3 := ok_SeN (P := l.prog) (w := w) (mg := mg) (base := base) F3 mT hT  
  have G4 := ok_Ask (P := l.prog) (w := w) (mg := mg) (base := base) F4  G2 b2 k2 m2 
  have G5 := ok_AsS (P := l.prog) (w := w) (mg := mg) (base := base) F5   
  have G6 := ok_Inn (P := l.prog) (w := w) (mg := mg) (base := base) F6  G5 b5 k5 m5 
  have G7 := ok_Sts (P := l.prog) (w := w) (mg := mg) (base := base) F7  G5 b5 k5 m5 G6 b6 k6 m6 y_reversed
  have G8 := ok_Bgn (P := l.prog) (w := w) (mg := mg) (base := base) F8   
  have G9 := ok_FiA (P := l.prog) (w := w) (mg := mg) (base := base) F9   
  have G10 := ok_RnA (P := l.prog) (w := w) (mg := mg) (base := base) F10 mT hT G9 b9 k9 m9 
  have G11 := ok_RnF (P := l.prog) (w := w) (mg := mg) (base := base) F11  G10 b10 k10 m10 
  have G12 := ok_Bth (P := l.prog) (w := w) (mg := mg) (base := base) F12   
  have G13 := ok_UnF (P := l.prog) (w := w) (mg := mg) (base := base) F13  G3 b3 k3 m3 G12 b12 k12 m12 G4 b4 k4 m4 y_all y_dict
  have G14 := ok_TlF (P := l.prog) (w := w) (mg := mg) (base := base) F14  G8 b8 k8 m8 
  have G15 := ok_Lkk (P := l.prog) (w := w) (mg := mg) (base := base) F15 mM  y_len y_set
  have G16 := ok_Lok (P := l.prog) (w := w) (mg := mg) (base := base) F16  G15 b15 k15 m15 G7 b7 k7 m7 G14 b14 k14 m14 G11 b11 k11 m11 G13 b13 k13 m13 y_min y_any
  have G17 := ok_deal (P := l.prog) (w := w) (mg := mg) (base := base) F17 y_max y_reversed y_list
  have G18 := ok_draw (P := l.prog) (w := w) (mg := mg) (base := base) F18 y_len
  have G19 := ok_Nms (P := l.prog) (w := w) (mg := mg) (base := base) F19  G18 b18 k18 m18 y_range y_len
  have G20 := ok_Sum (P := l.prog) (w := w) (mg := mg) (base := base) F20  G18 b18 k18 m18 y_tuple y_range
  have G21 := ok_Stp (P := l.prog) (w := w) (mg := mg) (base := base) F21  G18 b18 k18 m18 y_len
  have G22 := ok_Thw (P := l.prog) (w := w) (mg := mg) (base := base) F22  G18 b18 k18 m18 G21 b21 k21 m21 G20 b20 k20 m20 y_int y_tuple y_range
  have GT23 : ∀ n : Nat, FnOk l.prog w K mg base CX0 (n + 1) f23 _ ["_law_deal_here", "_law_known", "_law_room", "_law_deep"] (spTm n) := fun n => by
    induction n with
    | zero => exact fn_no
    | succ n ih => exact ok_Trm (P := l.prog) (w := w) (mg := mg) (base := base) n F23 ih b23 k23 m23 G18 b18 k18 m18 y_len
  have G23 := GT23 6
  have G24 := ok_Set (P := l.prog) (w := w) (mg := mg) (base := base) F24  G18 b18 k18 m18 G22 b22 k22 m22 G23 b23 k23 m23 
  have B0 := ok_Blk (P := l.prog) (w := w) (mg := mg) (base := base) 0 F26 G18 b18 k18 m18 G23 b23 k23 m23 G24 b24 k24 m24 fn_no b25 k25 m25 fn_no b26 k26 m26 y_range y_tuple y_len
  have W1 := ok_Whn (P := l.prog) (w := w) (mg := mg) (base := base) 0 F25 G23 b23 k23 m23 B0 b26 k26 m26 G18 b18 k18 m18 
  have B1 := ok_Blk (P := l.prog) (w := w) (mg := mg) (base := base) 1 F26 G18 b18 k18 m18 G23 b23 k23 m23 G24 b24 k24 m24 W1 b25 k25 m25 B0 b26 k26 m26 y_range y_tuple y_len
  have W2 := ok_Whn (P := l.prog) (w := w) (mg := mg) (base := base) 1 F25 G23 b23 k23 m23 B1 b26 k26 m26 G18 b18 k18 m18 
  have B2 := ok_Blk (P := l.prog) (w := w) (mg := mg) (base := base) 2 F26 G18 b18 k18 m18 G23 b23 k23 m23 G24 b24 k24 m24 W2 b25 k25 m25 B1 b26 k26 m26 y_range y_tuple y_len
  have W3 := ok_Whn (P := l.prog) (w := w) (mg := mg) (base := base) 2 F25 G23 b23 k23 m23 B2 b26 k26 m26 G18 b18 k18 m18 
  have B3 := ok_Blk (P := l.prog) (w := w) (mg := mg) (base := base) 3 F26 G18 b18 k18 m18 G23 b23 k23 m23 G24 b24 k24 m24 W3 b25 k25 m25 B2 b26 k26 m26 y_range y_tuple y_len
  have G26 := B3
  have G27 := ok_Prg (P := l.prog) (w := w) (mg := mg) (base := base) F27  G19 b19 k19 m19 G26 b26 k26 m26 G18 b18 k18 m18 y_tuple y_range y_len
  have G28 := ok_Alk (P := l.prog) (w := w) (mg := mg) (base := base) F28  G22 b22 k22 m22 G19 b19 k19 m19 G18 b18 k18 m18 y_len y_all y_tuple
  exact ok_Law F29 G17 b17 k17 m17 G28 b28 k28 m28 G27 b27 k27 m27 G16 b16 k16 m16 y_range y_all y_max y_len
theorem walk {l : PySem.W.OpenLaw} {q : Program} {loose : List Str} {XP : (Str → Option Value) → Heap → Prop} {YP : World → Heap → Prop} {d : DefRec} {K : Params → PySem.W.Frag} (hn : l.most = some 63) (hdf : d.params.defaults = [])
    (hY : ∀ (w : World) (h : Heap), YP w h → (K w.params).In h)
    (F : ∀ (w : World) (mg : Str → Option Value) (fa : Addr) (h : Heap), (K w.params).In h → h.Ns mainGlobals mg → mg d.name = some (.ref fa) →
      ∃ fd : FuncData, (∀ (s : Shared) (u : Value), BindsTo s fd ⟨[u], []⟩ [("_law_script", u)]) ∧ ∀ base : Heap, (K w.params).In base → base.Ns mainGlobals mg → FnOk l.prog w (K w.params) mg base CX0 18 fa fd ["_law_script"] (spLaw (K w.params))) :
    PySem.W.WalkO q loose XP YP l.row.toRowW d [] (fun f vs => PySem.call f vs) :=
  L2.walk_of (n := 63) (k := 18) (x := "_law_script") (CX := fun _ => CX0) (sp := fun w => spLaw (K w.params)) hn (by decide) hdf ⟨rfl, by decide, by decide, rfl⟩ hY F (fun _ _ a ns hl _ hS => ⟨a, ns, rfl, hS, hl, fun _ => rfl⟩) fun _ _ _ _ _ z => z
end Mine
open PySem PySem.W PyProof.Rows
set_option maxRecDepth 100000 in
set_option maxHeartbeats 0 in
theorem PySem.Challenge.cw_pairedthrows_k17_programs_let_by_holds : PySem.Challenge.rw_pairedthrows_k17_programs_let_by.Holds := by
  w_on; o_law; k_head; (case hw => w_witness2)
  k_fill
  refine Mine.walk (l := PySem.Challenge.rw_pairedthrows_k17_programs_let_by) rfl rfl (fun w h Y => PySem.W.kIn_of Y) ?F
  case F =>
    intro w mg fa h KX G hmg
    refine' Mine.all_mk KX G hmg ?a1 ?l1 ?c1 ?k1 ?a2 ?l2 ?c2 ?k2 ?a3 ?l3 ?c3 ?k3 ?a4 ?l4 ?c4 ?k4 ?a5 ?l5 ?c5 ?k5 ?a6 ?l6 ?c6 ?k6 ?a7 ?l7 ?c7 ?k7 ?a8 ?l8 ?c8 ?k8 ?a9 ?l9 ?c9 ?k9 ?a10 ?l10 ?c10 ?k10 ?a11 ?l11 ?c11 ?k11 ?a12 ?l12 ?c12 ?k12 ?a13 ?l13 ?c13 ?k13 ?a14 ?l14 ?c14 ?k14 ?a15 ?l15 ?c15 ?k15 ?a16 ?l16 ?c16 ?k16 ?a17 ?l17 ?c17 ?k17 ?a18 ?l18 ?c18 ?k18 ?a19 ?l19 ?c19 ?k19 ?a20 ?l20 ?c20 ?k20 ?a21 ?l21 ?c21 ?k21 ?a22 ?l22 ?c22 ?k22 ?a23 ?l23 ?c23 ?k23 ?a24 ?l24 ?c24 ?k24 ?a25 ?l25 ?c25 ?k25 ?a26 ?l26 ?c26 ?k26 ?a27 ?l27 ?c27 ?k27 ?a28 ?l28 ?c28 ?k28 ?a29 ?l29 ?c29 ?k29 ?z_reversed ?z_all ?z_dict ?z_len ?z_set ?z_min ?z_any ?z_max ?z_list ?z_range ?z_tuple ?z_int ?qT ?uT ?vT ?qM
    (case a1 => k_is); (case l1 => k_is); (case c1 => k_is); (case k1 => k_is); (case a2 => k_is); (case l2 => k_is)
    (case c2 => k_is); (case k2 => k_is); (case a3 => k_is); (case l3 => k_is); (case c3 => k_is); (case k3 => k_is)
    (case a4 => k_is); (case l4 => k_is); (case c4 => k_is); (case k4 => k_is); (case a5 => k_is); (case l5 => k_is)
    (case c5 => k_is); (case k5 => k_is); (case a6 => k_is); (case l6 => k_is); (case c6 => k_is); (case k6 => k_is)
    (case a7 => k_is); (case l7 => k_is); (case c7 => k_is); (case k7 => k_is); (case a8 => k_is); (case l8 => k_is)
    (case c8 => k_is); (case k8 => k_is); (case a9 => k_is); (case l9 => k_is); (case c9 => k_is); (case k9 => k_is)
    (case a10 => k_is); (case l10 => k_is); (case c10 => k_is); (case k10 => k_is); (case a11 => k_is); (case l11 => k_is)
    (case c11 => k_is); (case k11 => k_is); (case a12 => k_is); (case l12 => k_is); (case c12 => k_is); (case k12 => k_is)
    (case a13 => k_is); (case l13 => k_is); (case c13 => k_is); (case k13 => k_is); (case a14 => k_is); (case l14 => k_is)
    (case c14 => k_is); (case k14 => k_is); (case a15 => k_is); (case l15 => k_is); (case c15 => k_is); (case k15 => k_is)
    (case a16 => k_is); (case l16 => k_is); (case c16 => k_is); (case k16 => k_is); (case a17 => k_is); (case l17 => k_is)
    (case c17 => k_is); (case k17 => k_is); (case a18 => k_is); (case l18 => k_is); (case c18 => k_is); (case k18 => k_is)
    (case a19 => k_is); (case l19 => k_is); (case c19 => k_is); (case k19 => k_is); (case a20 => k_is); (case l20 => k_is)
    (case c20 => k_is); (case k20 => k_is); (case a21 => k_is); (case l21 => k_is); (case c21 => k_is); (case k21 => k_is)
    (case a22 => k_is); (case l22 => k_is); (case c22 => k_is); (case k22 => k_is); (case a23 => k_is); (case l23 => k_is)
    (case c23 => k_is); (case k23 => k_is); (case a24 => k_is); (case l24 => k_is); (case c24 => k_is); (case k24 => k_is)
    (case a25 => k_is); (case l25 => k_is); (case c25 => k_is); (case k25 => k_is); (case a26 => k_is); (case l26 => k_is)
    (case c26 => k_is); (case k26 => k_is); (case a27 => k_is); (case l27 => k_is); (case c27 => k_is); (case k27 => k_is)
    (case a28 => k_is); (case l28 => k_is); (case c28 => k_is); (case k28 => k_is); (case a29 => k_is); (case l29 => k_is)
    (case c29 => k_is); (case k29 => k_is); (case z_reversed => k_is); (case z_all => k_is); (case z_dict => k_is); (case z_len => k_is)
    (case z_set => k_is); (case z_min => k_is); (case z_any => k_is); (case z_max => k_is); (case z_list => k_is); (case z_range => k_is)
    (case z_tuple => k_is); (case z_int => k_is); (case qT => k_is); (case uT => k_is); (case vT => exact .cons ⟨_, rfl⟩ (.cons ⟨_, rfl⟩ (.cons ⟨_, rfl⟩ (.cons ⟨_, rfl⟩ .nil)))); (case qM => k_is)
