import PyProof.Rows.All
import Wide.All
import OpenK.AllK
import Wide.FinOn
import Lean
import PyProof.EqAt
import PyProof.EqKinds
import PyProof.TupleCall
import KE.KDictOf
import PyProof.AttrMissHeap
import KE.KSortTup
import PyProof.Rows.InDataRows
import KE.KRevSl
import PyProof.Rows.SetFrom
import PyProof.Rows.SortStr
import PyProof.Rows.Range3
import PyProof.AutoListH
import PyProof.DictWalks
import KE.KDictLaws
import PySem.Challenge.RW_pairedthrows_k33_whole_rungs_paired
set_option Elab.async false
set_option linter.all false
set_option maxRecDepth 100000
/-! THE HAND LAYER, for ints, bools, texts, own classes, DICTS (int and text keys), calls, loops. Paste it whole ahead of your own text; what your proof does not reach may be deleted. -/
namespace L2
open PySem PySem.Spec PyProof.Rows

/-- a key: an int or a str -/
abbrev Key := Sum Int Str
def keyIs : Key → Value → Bool
  | .inl k, v => Value.isInt k v
  | .inr x, v => Value.isStrOf x v
def keyH (w : World) : Key → Int
  | .inl k => hashInt k
  | .inr x => hashStr w x
theorem keyIs_shape : ∀ {k : Key} {v : Value}, keyIs k v = true → (∃ i t, k = Sum.inl i ∧ v = Value.int i t) ∨ (∃ x t, k = Sum.inr x ∧ v = Value.str x t)
  | .inl i, v, h => by
    obtain ⟨t, e⟩ := Value.isInt_shape (k := i) (v := v) h
    exact .inl ⟨i, t, rfl, e⟩
  | .inr x, v, h => by
    obtain ⟨t, e⟩ := Value.isStrOf_shape (x := x) (v := v) h
    exact .inr ⟨x, t, rfl, e⟩
theorem keyIs_int (i : Int) (t : Tok) : keyIs (.inl i) (.int i t) = true := by simp [keyIs, Value.isInt]
theorem keyIs_str (x : Str) (t : Tok) : keyIs (.inr x) (.str x t) = true := by simp [keyIs, Value.isStrOf]
theorem key_ll (a b : Int) : decide ((Sum.inl a : Key) = Sum.inl b) = (a == b) := by
  by_cases e : a = b
  · subst e; simp
  · have h : ¬ (Sum.inl a : Key) = Sum.inl b := fun q => e (Sum.inl.inj q)
    rw [decide_eq_false h]
    exact (beq_eq_false_iff_ne.mpr e).symm
theorem key_rr (a b : Str) : decide ((Sum.inr a : Key) = Sum.inr b) = decide (a = b) := by
  by_cases e : a = b
  · subst e; simp
  · have h : ¬ (Sum.inr a : Key) = Sum.inr b := fun q => e (Sum.inr.inj q)
    rw [decide_eq_false h, decide_eq_false e]
theorem key_lr (a : Int) (b : Str) : decide ((Sum.inl a : Key) = Sum.inr b) = false := decide_eq_false (fun q => nomatch q)
theorem key_rl (a : Str) (b : Int) : decide ((Sum.inr a : Key) = Sum.inl b) = false := decide_eq_false (fun q => nomatch q)

def mixKind (prog : Program) (w : World) : PySem.KeyKind prog w Key where
  is := keyIs
  hash := keyH w
  inj := fun v a b ha hb => by
    rcases keyIs_shape ha with ⟨i, t, rfl, rfl⟩ | ⟨x, t, rfl, rfl⟩
    · rcases keyIs_shape hb with ⟨j, u, rfl, e⟩ | ⟨y, u, rfl, e⟩
      · injection e with e1 _; rw [e1]
      · exact nomatch e
    · rcases keyIs_shape hb with ⟨j, u, rfl, e⟩ | ⟨y, u, rfl, e⟩
      · exact nomatch e
      · injection e with e1 _; rw [e1]
  byValue := fun k v h => by
    rcases keyIs_shape h with ⟨i, t, rfl, rfl⟩ | ⟨x, t, rfl, rfl⟩ <;> rfl
  pyHash := fun hv h => by
    rcases keyIs_shape hv with ⟨i, t, rfl, rfl⟩ | ⟨x, t, rfl, rfl⟩
    · exact wpAny_pyHash_int h
    · exact wpAny_pyHash_str h
  eqBool := fun hu hv h => by
    rcases keyIs_shape hu with ⟨i, t, rfl, rfl⟩ | ⟨x, t, rfl, rfl⟩
    · rcases keyIs_shape hv with ⟨j, u, rfl, rfl⟩ | ⟨y, u, rfl, rfl⟩
      · rw [key_ll] at h; exact wpAny_eqBool_int h
      · rw [key_lr] at h; exact SeqAt.EqAt.int_str i t y u _ _ _ _ h
    · rcases keyIs_shape hv with ⟨j, u, rfl, rfl⟩ | ⟨y, u, rfl, rfl⟩
      · rw [key_rl] at h; exact SeqAt.EqAt.str_int x t j u _ _ _ _ h
      · rw [key_rr] at h; exact wpAny_eqBool_str h
  «strs» := fun k x t v h => by
    rcases keyIs_shape h with ⟨i, u, rfl, e⟩ | ⟨y, u, rfl, e⟩
    · exact nomatch e
    · injection e with e1 _
      subst e1
      cases v <;> rfl

theorem mixKind_int (prog : Program) (w : World) (i : Int) (t : Tok) : (mixKind prog w).is (.inl i) (.int i t) = true := keyIs_int i t
theorem mixKind_str (prog : Program) (w : World) (x : Str) (t : Tok) : (mixKind prog w).is (.inr x) (.str x t) = true := keyIs_str x t
end L2

namespace L2
open PySem PySem.Spec PyProof.Rows

/-- a value, without the heap -/
inductive V where
  | non | bl (b : Bool) | int (i : Int) | str (x : Str) | byt (b : Array UInt8) | flt (b : UInt64) | ref (a : Addr) | ty (n : String)
  deriving DecidableEq

def RelV : V → Value → Prop
  | .non, u => u = Value.none
  | .bl b, u => u = Value.bool b
  | .int i, u => ∃ t, u = Value.int i t
  | .str x, u => ∃ t, u = Value.str x t
  | .byt b, u => ∃ t, u = Value.bytes b t
  | .flt b, u => ∃ t, u = Value.float b t
  | .ref a, u => u = Value.ref a
  | .ty n, u => u = Value.type n

abbrev Vals : List V → List Value → Prop := Paired RelV
theorem Vals.length {xs : List V} {us : List Value} (r : Vals xs us) : xs.length = us.length := Paired.length r
theorem Vals.get : ∀ {xs : List V} {us : List Value} {i : Nat} {x : V}, Vals xs us → xs[i]? = some x → ∃ u, us[i]? = some u ∧ RelV x u
  | _, _, _, _, .nil, e => by simp at e
  | _, _, 0, _, .cons r _, e => by simp at e; subst e; exact ⟨_, rfl, r⟩
  | _, _, i + 1, x, .cons _ t, e => by
    obtain ⟨u, h1, h2⟩ := Vals.get (i := i) (x := x) t (by simpa using e)
    exact ⟨u, by simpa using h1, h2⟩
theorem Vals.append : ∀ {xs ys : List V} {us ws : List Value}, Vals xs us → Vals ys ws → Vals (xs ++ ys) (us ++ ws)
  | _, _, _, _, .nil, s => s
  | _, _, _, _, .cons r t, s => .cons r (Vals.append t s)
theorem Vals.take : ∀ {xs : List V} {us : List Value} (n : Nat), Vals xs us → Vals (xs.take n) (us.take n)
  | _, _, 0, _ => .nil
  | _, _, _ + 1, .nil => .nil
  | _, _, n + 1, .cons r t => .cons r (Vals.take n t)
theorem Vals.drop : ∀ {xs : List V} {us : List Value} (n : Nat), Vals xs us → Vals (xs.drop n) (us.drop n)
  | _, _, 0, r => r
  | _, _, _ + 1, .nil => .nil
  | _, _, n + 1, .cons _ t => Vals.drop n t
def RelO : Option V → Option Value → Prop
  | some v, some u => RelV v u
  | none, none => True
  | _, _ => False
def KV {κ : Type} : List (κ × V) → List (κ × Value) → Prop := Paired fun (p : κ × V) (q : κ × Value) => p.1 = q.1 ∧ RelV p.2 q.2

/-- a key of a dict (00_mix): an int or a text -/
def kV : Key → V
  | .inl i => .int i
  | .inr x => .str x

/-- what stands at a tracked address -/
inductive HO where
  /-- a list -/
  | lst (xs : List V)
  /-- a tuple (never changes) -/
  | tup (xs : List V)
  /-- a dict whose keys are ints and texts; one whose keys are tuples of ints and texts (the empty one is both) -/
  | dK (kvs : List (Key × V)) | dT (kvs : List (List Key × V))
  /-- a set of ints: its members, its size -/
  | set (S : Int → Bool) (n : Nat)
  /-- an instance of the class at C, its dict at dx, its attributes -/
  | ins (C dx : Addr) (fs : List (Str × V))
  /-- the dict of the instance at x -/
  | own (x : Addr)
  /-- the dict of an exception -/
  | xd (fs : List (Str × V))
  /-- a bound method, f of x -/
  | met (f x : Addr)
  /-- a range object lo, lo + 1, .. below hi -/
  | rng (lo hi : Int)
  /-- a thing that is known to the object (the script; a dict while a loop walks it): read, never written while it is so -/
  | frz (o : Obj) (u : HO)
  /-- a code object's table -/
  | tbl (ps : Array Value)
  /-- any other thing, by what is true of its one object (a def of one's own: SetO a S n := HO.ext fun h => ..) -/
  | ext (φ : Heap → Prop)

abbrev Hp := Addr → Option HO
def upd (H : Hp) (a : Addr) (o : HO) : Hp := fun b => if b = a then some o else H b
theorem upd_same {H : Hp} {a : Addr} {o : HO} : upd H a o a = some o := by unfold upd; rw [if_pos rfl]
theorem upd_ne {H : Hp} {a b : Addr} {o : HO} (h : b ≠ a) : upd H a o b = H b := by unfold upd; rw [if_neg h]
theorem upd_upd {H : Hp} {a : Addr} {o u : HO} : upd (upd H a o) a u = upd H a u := by
  funext b; unfold upd; split <;> rfl
/-- two objects of different content stand apart -/
theorem ne_of {H : Hp} {a b : Addr} {o u : HO} (h : H a = some o) (h' : H b = some u) (d : o ≠ u) : a ≠ b := by
  intro e; subst e; rw [h] at h'; exact d (Option.some.inj h')
theorem ne_of_none {H : Hp} {a b : Addr} {o : HO} (h : H a = some o) (h' : H b = none) : a ≠ b := by
  intro e; subst e; rw [h] at h'; cases h'

/-- a tuple without a dict -/
def IsTupD (h : Heap) (a : Addr) (its : Array Value) : Prop := ∃ o, h.get? a = some o ∧ o.cls = .type "tuple" ∧ ∃ n, o.data = .seq its n ∧ o.dict = none
theorem IsTupD.is {h : Heap} {a : Addr} {its : Array Value} (x : IsTupD h a its) : IsTup h a its := let ⟨o, e, c, n, d, _⟩ := x; ⟨o, e, c, n, d⟩
theorem IsTupD.new (h : Heap) (its : Array Value) : IsTupD (h.push { cls := .type "tuple", data := .seq its }) h.objs.size its := ⟨_, Heap.get?_push_size _ rfl, rfl, _, rfl, rfl⟩
section
variable (P : Program) (w : World)
def ObjOk (H : Hp) (h : Heap) (a : Addr) : HO → Prop
  | .lst xs => xs.length ≤ sizeLine ∧ ∃ (its : List Value) (n : Nat), Vals xs its ∧ h.get? a = some { cls := .type "list", data := .seq its.toArray n }
  | .tup xs => xs.length ≤ sizeLine ∧ ∃ its : List Value, Vals xs its ∧ IsTupD h a its.toArray
  | .dK kvs => kvs.length ≤ sizeLine ∧ (a == sysModules) = false ∧ ∃ vs, KV kvs vs ∧ h.DictOf (mixKind P w) a vs
  | .dT kvs => kvs.length ≤ sizeLine ∧ (a == sysModules) = false ∧ ∃ xs : List (List Key × Addr × Value),
      Paired (fun (p : List Key × V) (q : List Key × Addr × Value) => p.1 = q.1 ∧ H q.2.1 = some (.tup (p.1.map kV)) ∧ RelV p.2 q.2.2) kvs xs ∧
      ∃ o es ep, h.get? a = some o ∧ o.ExactDict ∧ o.data = .dict es ep ∧ es.toList = xs.map (entryOfKey (tupleKind (mixKind P w))) ∧ (xs.map (·.1)).Nodup
  | .set S n => h.SetOf (intKind P w) a S n
  | .ins C dx fs => H dx = some (.own a) ∧ fs.length ≤ 1000 ∧ dx ≠ a ∧ h.get? a = some (PySem.W.instObj C dx) ∧
      ∃ mA, h.Ns1 dx mA ∧ (∀ f, RelO (fs.lookup f) (mA f)) ∧ PySem.Within mA (fs.map (·.1))
  | .own _ => ∃ o, h.get? a = some o
  | .xd fs => ∃ mA, h.Ns1 a mA ∧ ∀ f, RelO (fs.lookup f) (mA f)
  | .rng lo hi => ∃ t u v, h.get? a = some { cls := .type "range", data := .fields #[.int lo t, .int hi u, .int 1 v] }
  | .frz o u => h.get? a = some o ∧ ObjOk H h a u
  | .tbl ps => h.get? a = some { cls := .none, data := .fields ps }
  | .met f x => h.get? a = some (PySem.W.methodObj (.ref f) (.ref x))
  | .ext φ => φ h ∧ (∃ o, h.get? a = some o) ∧ ∀ h1 h2 : Heap, φ h1 → (∀ o, h1.get? a = some o → h2.get? a = some o) → φ h2
/-- the abstract heap is held -/
def HOk (H : Hp) (h : Heap) : Prop := ∀ a o, H a = some o → ObjOk P w H h a o
end

section
variable {P : Program} {w : World} {H H' : Hp} {h h' : Heap} {a : Addr} {o : HO}
theorem ObjOk.lt (x : ObjOk P w H h a o) : a < h.objs.size := by
  cases o with
  | lst xs => obtain ⟨_, _, _, _, e⟩ := x; exact Heap.lt_size e
  | tup xs => obtain ⟨_, _, _, p⟩ := x; exact p.is.lt
  | dK kvs => obtain ⟨_, _, _, _, o, _, _, e, _⟩ := x; exact Heap.lt_size e
  | dT kvs => obtain ⟨_, _, _, _, o, _, _, e, _⟩ := x; exact Heap.lt_size e
  | set S n => obtain ⟨o, _, _, _, e, _⟩ := x; exact Heap.lt_size e
  | ins C dx fs => obtain ⟨_, _, _, e, _⟩ := x; exact Heap.lt_size e
  | own y => obtain ⟨_, e⟩ := x; exact Heap.lt_size e
  | xd fs => obtain ⟨_, ⟨_, _, _, e, _⟩, _⟩ := x; exact Heap.lt_size e
  | rng lo hi => obtain ⟨_, _, _, e⟩ := x; exact Heap.lt_size e
  | frz ob u => obtain ⟨e, _⟩ := x; exact Heap.lt_size e
  | tbl ps => exact Heap.lt_size (show h.get? a = some _ from x)
  | met f y => exact Heap.lt_size (show h.get? a = some _ from x)
  | ext φ => obtain ⟨_, ⟨_, e⟩, _⟩ := x; exact Heap.lt_size e
theorem Paired.mapP {α β : Type} {F G : α → β → Prop} : ∀ {l₁ : List α} {l₂ : List β}, Paired F l₁ l₂ → (∀ a b, F a b → G a b) → Paired G l₁ l₂
  | _, _, .nil, _ => .nil
  | _, _, .cons r t, f => .cons (f _ _ r) (Paired.mapP t f)
/-- what an object's description leans on: its own object, its own dict, the tuples -/
theorem ObjOk.stay (x : ObjOk P w H h a o) (k : ∀ b u, (b = a ∨ H b = some (.own a)) → h.get? b = some u → h'.get? b = some u)
    (ho : ∀ b, H b = some (.own a) → H' b = some (.own a)) (ht : ∀ b xs, H b = some (.tup xs) → H' b = some (.tup xs)) : ObjOk P w H' h' a o := by
  induction o with
  | lst xs => obtain ⟨z, its, n, r, e⟩ := x; exact ⟨z, its, n, r, k _ _ (.inl rfl) e⟩
  | tup xs => obtain ⟨z, its, r, ob, e, c⟩ := x; exact ⟨z, its, r, ob, k _ _ (.inl rfl) e, c⟩
  | dK kvs => obtain ⟨z, y, vs, r, ob, es, ep, e, c⟩ := x; exact ⟨z, y, vs, r, ob, es, ep, k _ _ (.inl rfl) e, c⟩
  | dT kvs =>
    obtain ⟨z, y, xs, r, ob, es, ep, e, c⟩ := x
    exact ⟨z, y, xs, Paired.mapP r fun p q z => ⟨z.1, ht _ _ z.2.1, z.2.2⟩, ob, es, ep, k _ _ (.inl rfl) e, c⟩
  | set S n => obtain ⟨ob, es, ep, t, e, c⟩ := x; exact ⟨ob, es, ep, t, k _ _ (.inl rfl) e, c⟩
  | ins C dx fs =>
    obtain ⟨d, z, ne, e, mA, ⟨od, es, ep, e2, c⟩, r⟩ := x
    exact ⟨ho _ d, z, ne, k _ _ (.inl rfl) e, mA, ⟨od, es, ep, k _ _ (.inr d) e2, c⟩, r⟩
  | own y => obtain ⟨ob, e⟩ := x; exact ⟨ob, k _ _ (.inl rfl) e⟩
  | xd fs => obtain ⟨mA, ⟨od, es, ep, e, c⟩, r⟩ := x; exact ⟨mA, ⟨od, es, ep, k _ _ (.inl rfl) e, c⟩, r⟩
  | rng lo hi => obtain ⟨t, u, v, e⟩ := x; exact ⟨t, u, v, k _ _ (.inl rfl) e⟩
  | frz ob u ih => obtain ⟨e, q⟩ := x; exact ⟨k _ _ (.inl rfl) e, ih q⟩
  | tbl ps =>
    have e : h.get? a = some { cls := .none, data := .fields ps } := x
    show h'.get? a = some { cls := .none, data := .fields ps }
    exact k a _ (.inl rfl) e
  | met f y =>
    have e : h.get? a = some (PySem.W.methodObj (.ref f) (.ref y)) := x
    show h'.get? a = some (PySem.W.methodObj (.ref f) (.ref y))
    exact k a _ (.inl rfl) e
  | ext φ => obtain ⟨p, ⟨o, e⟩, st⟩ := x; exact ⟨st _ _ p fun o q => k _ _ (.inl rfl) q, ⟨o, k _ _ (.inl rfl) e⟩, st⟩
theorem HOk.lt (x : HOk P w H h) (e : H a = some o) : a < h.objs.size := (x a o e).lt
theorem HOk.fresh (x : HOk P w H h) (e : h.objs.size ≤ a) : H a = none := by
  cases q : H a with
  | none => rfl
  | some u => exact absurd (Nat.lt_of_lt_of_le (x.lt q) e) (Nat.lt_irrefl _)
/-- every object of the heap is kept -/
theorem HOk.kept (x : HOk P w H h) (k : ∀ b u, h.get? b = some u → h'.get? b = some u) : HOk P w H h' := fun a o e =>
  (x a o e).stay (fun b u _ q => k b u q) (fun _ q => q) fun _ _ q => q
/-- a new object is laid and tracked -/
theorem HOk.laid (x : HOk P w H h) (k : ∀ b u, h.get? b = some u → h'.get? b = some u) (hp : h.objs.size ≤ a) (new : ObjOk P w (upd H a o) h' a o) : HOk P w (upd H a o) h' := fun b u e => by
  have hn := x.fresh hp
  by_cases hb : b = a
  · subst hb; rw [upd_same] at e; cases e; exact new
  · rw [upd_ne hb] at e
    exact (x b u e).stay (fun c v _ q => k c v q) (fun c q => by rw [upd_ne (ne_of_none q hn)]; exact q) fun c xs q => by rw [upd_ne (ne_of_none q hn)]; exact q
end

/-- what may be read as u: it is u, or a known u -/
def Rd (H : Hp) (a : Addr) (u : HO) : Prop := H a = some u ∨ ∃ o, H a = some (.frz o u)
theorem Rd.ok {P : Program} {w : World} {H : Hp} {h : Heap} {a : Addr} {u : HO} (r : Rd H a u) (x : HOk P w H h) : ObjOk P w H h a u := by
  rcases r with r | ⟨o, r⟩
  · exact x a u r
  · obtain ⟨_, q⟩ := x a _ r
    exact q
/-- what may be written -/
def Mut : Option HO → Prop
  | some (.lst _) => True
  | some (.dK _) => True
  | some (.dT _) => True
  | some (.set _ _) => True
  | some (.ins _ _ _) => True
  | some (.ext _) => True
  | _ => False
section
variable {P : Program} {w : World} {H : Hp} {h h' : Heap} {x e : Addr} {o' : HO}
/-- the object at e is changed: x itself, or the dict of the instance x -/
theorem HOk.write (ok : HOk P w H h) (mu : Mut (H x)) (he : e = x ∨ H e = some (.own x)) (k : ∀ b u, b ≠ e → h.get? b = some u → h'.get? b = some u) (heo : ∃ u, h'.get? e = some u)
    (new : ObjOk P w (upd H x o') h' x o') : HOk P w (upd H x o') h' := fun b u q => by
  have nown : ∀ c y, H c = some (.own y) → c ≠ x := fun c y r z => by subst z; rw [r] at mu; exact mu
  have ntup : ∀ c xs, H c = some (.tup xs) → c ≠ x := fun c xs r z => by subst z; rw [r] at mu; exact mu
  by_cases hb : b = x
  · subst hb; rw [upd_same] at q; cases q; exact new
  · rw [upd_ne hb] at q
    by_cases hbe : b = e
    · have q' : H b = some (.own x) := by
        rcases he with z | z
        · exact absurd (hbe.trans z) hb
        · rw [hbe]; exact z
      rw [q] at q'; cases q'
      obtain ⟨v, hv⟩ := heo
      exact ⟨v, by rw [hbe]; exact hv⟩
    · refine (ok b u q).stay (fun c v hc r => k c v ?_ r) (fun c r => by rw [upd_ne (nown c b r)]; exact r) fun c xs r => by rw [upd_ne (ntup c xs r)]; exact r
      rcases hc with rfl | hc
      · exact hbe
      · rintro rfl
        rcases he with z | z
        · exact nown c b hc z
        · rw [hc] at z; cases z; exact hb rfl
end

/-! ### kept unless tracked; of the frames at fs (the callers') the slots may change (an exception that passes writes there); of the records at ex (iterators) nothing is said -/
structure Un (fs ex : List Addr) (H H' : Hp) (h h' : Heap) : Prop where
  keep : ∀ b o, h.get? b = some o → H b = none → b ∉ fs → b ∉ ex → h'.get? b = some o
  slot : ∀ b o, h.get? b = some o → H b = none → b ∈ fs → b ∉ ex → ∃ sl, h'.get? b = some { o with slots := sl }
  free : ∀ b o, h.get? b = some o → H b = none → b ∉ ex → H' b = none
  there : ∀ b o, h.get? b = some o → b ∉ ex → ∃ o', h'.get? b = some o'
  tups : ∀ b xs, H b = some (.tup xs) → H' b = some (.tup xs)
  frzs : ∀ b o u, H b = some (.frz o u) → H' b = some (.frz o u)
  tbls : ∀ b ps, H b = some (.tbl ps) → ∃ more, H' b = some (.tbl (ps ++ more))
section
variable {fs fs' ex ex' : List Addr} {H H1 H2 : Hp} {h h1 h2 h' : Heap} {a x e : Addr} {o : HO}
theorem Un.any (u : Un fs ex H H1 h h1) {b : Addr} {ob : Obj} (q : h.get? b = some ob) (n : H b = none) (hx : b ∉ ex) : ∃ sl, h1.get? b = some { ob with slots := sl } := by
  by_cases hb : b ∈ fs
  · exact u.slot b ob q n hb hx
  · exact ⟨ob.slots, u.keep b ob q n hb hx⟩
theorem Un.kept (k : ∀ b u, h.get? b = some u → h'.get? b = some u) : Un fs ex H H h h' :=
  ⟨fun b ob q _ _ _ => k b ob q, fun b ob q _ _ _ => ⟨ob.slots, k b ob q⟩, fun _ _ _ n _ => n, fun b ob q _ => ⟨ob, k b ob q⟩, fun _ _ q => q, fun _ _ _ q => q, fun _ ps q => ⟨#[], by rw [q]; simp⟩⟩
theorem Un.refl : Un fs ex H H h h := Un.kept fun _ _ q => q
theorem Un.laid (k : ∀ b u, h.get? b = some u → h'.get? b = some u) (hp : h.objs.size ≤ a) (hn : H a = none) : Un fs ex H (upd H a o) h h' where
  keep := fun b u q _ _ _ => k b u q
  slot := fun b u q _ _ _ => ⟨u.slots, k b u q⟩
  free := fun b u q n _ => by rw [upd_ne (Nat.ne_of_lt (Nat.lt_of_lt_of_le (Heap.lt_size q) hp))]; exact n
  there := fun b u q _ => ⟨u, k b u q⟩
  tups := fun b xs q => by rw [upd_ne (ne_of_none q hn)]; exact q
  frzs := fun b u xs q => by rw [upd_ne (ne_of_none q hn)]; exact q
  tbls := fun b ps q => ⟨#[], by rw [upd_ne (ne_of_none q hn), q]; simp⟩
theorem Un.write (mu : Mut (H x)) (he : e = x ∨ H e = some (.own x)) (k : ∀ b u, b ≠ e → h.get? b = some u → h'.get? b = some u) (heo : ∃ u, h'.get? e = some u) : Un fs ex H (upd H x o) h h' := by
  have hx : ∀ b, H b = none → b ≠ x := fun b n z => by subst z; rw [n] at mu; exact mu
  have hb : ∀ b, H b = none → b ≠ e := fun b n z => by
    subst z
    rcases he with r | r
    · exact hx b n r
    · rw [n] at r; cases r
  have hm : ∀ b u, H b = some u → ¬ Mut (some u) → b ≠ x := fun b u q nm z => by subst z; rw [q] at mu; exact nm mu
  refine ⟨fun b u q n _ _ => k b u (hb b n) q, fun b u q n _ _ => ⟨u.slots, k b u (hb b n) q⟩, fun b u q n _ => by rw [upd_ne (hx b n)]; exact n, fun b u q _ => ?_,
    fun b xs q => by rw [upd_ne (hm b _ q fun z => z)]; exact q, fun b u xs q => by rw [upd_ne (hm b _ q fun z => z)]; exact q, fun b ps q => ⟨#[], by rw [upd_ne (hm b _ q fun z => z), q]; simp⟩⟩
  by_cases hbe : b = e
  · subst hbe; exact heo
  · exact ⟨u, k b u hbe q⟩
end

/-! ### the heap without what is tracked -/
def trk (h : Heap) (H : Hp) : List Addr := (List.range h.objs.size).filter fun a => (H a).isSome
def hidT (h : Heap) (H : Hp) : Heap := PySem.W.hideAll h (trk h H)
theorem hidT_size (h : Heap) (H : Hp) : (hidT h H).objs.size = h.objs.size := PySem.W.hideAll_size _ _
theorem hidT_get {h : Heap} {H : Hp} {b : Addr} {o : Obj} (e : h.get? b = some o) (n : H b = none) : (hidT h H).get? b = some o :=
  PySem.W.hideAll_get _ e fun hm => by
    have q : (H b).isSome = true := (List.mem_filter.mp hm).2
    rw [n] at q; simp at q
theorem of_hidT {h : Heap} {H : Hp} {b : Addr} {o : Obj} (e : (hidT h H).get? b = some o) : h.get? b = some o ∧ H b = none := by
  have e' : h.get? b = some o := PySem.W.of_hideAll (trk h H) e
  refine ⟨e', ?_⟩
  cases q : H b with
  | none => rfl
  | some x =>
    have hm : b ∈ trk h H := List.mem_filter.mpr ⟨List.mem_range.mpr (Heap.lt_size e'), by simp [q]⟩
    have z : (hidT h H).get? b = none := PySem.W.hideAll_none (trk h H) hm
    rw [z] at e; cases e

/-! ### OpenK's ledger, filled with every new object but one -/
def allNews (g h : Heap) (L : Addr) : List (Addr × Obj) := (List.range h.objs.size).filterMap fun a => if a = L ∨ (g.get? a).isSome = true then none else (h.get? a).map fun o => (a, o)
def rest (g h : Heap) (L d : Addr) : List (Addr × Obj) := (allNews g h L).filter fun p => decide (p.1 ≠ d)
end L2

namespace L2
open PySem PySem.Spec PyProof.Rows

/-- the module's facts, over the base: the heap at the law's entry without what is tracked there -/
structure Mod (K : PySem.W.Frag) (mg : Str → Option Value) (base : Heap) : Prop where
  kin : K.In base
  glob : base.Ns mainGlobals mg
  blt : ∃ mb, base.Ns builtinsNs mb ∧ ∀ x : Str, x ≠ "__name__" → mb x = bootBuiltins x
  nolimit : base.NoLimit

/-- the context: a def's body (or a comprehension's block) running. base: fixed through the whole law; s₀, H₀: the entry; outer: the frames whose slots others may change (a def's callers); stack: all frames that run;
   ex: iterators that were made ahead of the entry and are walked here (a comprehension's); fn: the names whose cells were made at the entry (a def: all; a comprehension's block: its own); calm: not within an except suite; pn: pins that every state bears; xe: what is wanted of an exception that leaves the code -/
structure Cx where
  prog : Program
  w : World
  K : PySem.W.Frag
  mg : Str → Option Value
  base : Heap
  A : Around
  N : List Str
  s₀ : Shared
  H₀ : Hp
  env : Env
  outer : List Env
  stack : List Env
  ex : List Addr
  fn : Str → Bool
  calm : Bool
  pn : List (Addr × Obj)
  xe : Value → Shared → Prop
/-- the callers' frames -/
def frs (l : List Env) : List Addr := l.filterMap (·.frame)
abbrev Cx.fs (X : Cx) : List Addr := frs X.outer

def Vis (sc : Scope) (x : Str) : Prop := sc.names.lookup x = some .local ∨ sc.names.lookup x = some .cell ∨ sc.names.lookup x = some .free
def Loc (sc : Scope) (x : Str) : Prop := sc.names.lookup x = some .local ∨ sc.names.lookup x = some .cell
def Look (env : Env) (h : Heap) (m : Str → Option Value) (x : Str) (u : Value) : Prop :=
  (env.kindOf x = some .local ∧ m x = some u) ∨ ((env.kindOf x = some .cell ∨ env.kindOf x = some .free) ∧ ∃ c, env.cells.lookup x = some c ∧ h.IsCell c (some u))

structure Cx.Ok (X : Cx) : Prop where
  mod : Mod X.K X.mg X.base
  kind : X.env.scope.kind = .function
  glob : X.env.globals = mainGlobals
  blt : X.env.builtins = builtinsNs
  above : X.s₀.heap.objs.size ≤ X.env.locals
  inj : ∀ x y c, X.env.cells.lookup x = some c → X.env.cells.lookup y = some c → x = y
  has : ∀ x, (X.env.kindOf x = some .cell ∨ X.env.kindOf x = some .free) → ∃ c, X.env.cells.lookup x = some c
  cab : ∀ x c, X.fn x = true → X.env.cells.lookup x = some c → X.s₀.heap.objs.size ≤ c
  hd : X.calm = true → X.A.handled = none
  frames : X.A.frames = some X.stack
  stk : X.stack = X.outer ∨ (X.stack = X.env :: X.outer ∧ X.env.frame = some X.env.locals)
  exf : ∀ b ∈ X.ex, b ≠ X.env.locals ∧ ∀ x c, X.env.cells.lookup x = some c → c ≠ b
  bs : ∀ b o, X.base.get? b = some o → X.s₀.heap.get? b = some o ∧ X.H₀ b = none
  bsz : X.base.objs.size ≤ X.s₀.heap.objs.size
  noex : ∀ b o, X.base.get? b = some o → b ∉ X.ex
  exfs : ∀ b ∈ X.ex, b ∉ X.fs
  funs : X.s₀.heap.FunFrames X.base X.outer
  frf : ∀ b ∈ X.fs, X.H₀ b = none

structure Inv (X : Cx) (pins : List (Addr × Obj)) (σ : List (Option V)) (H : Hp) (s : Shared) : Prop where
  ok : X.Ok
  os : s.os = X.s₀.os
  bare : AllBare s.gens
  base : Un X.fs X.ex X.H₀ H X.s₀.heap s.heap
  loc : ∃ m, s.heap.Ns X.env.locals m ∧ ∀ (i : Nat) (x : Str) (v : V), X.N[i]? = some x → σ[i]? = some (some v) → Vis X.env.scope x → ∃ u, RelV v u ∧ Look X.env s.heap m x u
  cell : ∀ x c, X.env.cells.lookup x = some c → ∃ v, s.heap.IsCell c v
  free : H X.env.locals = none
  freeC : ∀ x c, X.env.cells.lookup x = some c → H c = none
  pin : ∀ p ∈ X.pn ++ pins, s.heap.get? p.1 = some p.2 ∧ H p.1 = none ∧ p.1 ≠ X.env.locals ∧ p.1 ∉ X.fs ∧ ∀ v, p.2.data ≠ .cell v
  hok : HOk X.prog X.w H s.heap
  len : σ.length = X.N.length

section
variable {X : Cx} {pins : List (Addr × Obj)} {σ : List (Option V)} {H H' : Hp} {s : Shared} {h' : Heap}

theorem Cx.Ok.nofr (ok : X.Ok) {b : Addr} {o : Obj} (e : X.base.get? b = some o) : b ∉ X.fs := fun hb => by
  have := (ok.funs.mem hb).1
  rw [e] at this; cases this
theorem Inv.bs (I : Inv X pins σ H s) : ∀ b o, X.base.get? b = some o → s.heap.get? b = some o ∧ H b = none := fun b o e =>
  ⟨I.base.keep b o (I.ok.bs b o e).1 (I.ok.bs b o e).2 (I.ok.nofr e) (I.ok.noex b o e), I.base.free b o (I.ok.bs b o e).1 (I.ok.bs b o e).2 (I.ok.noex b o e)⟩
theorem Inv.bk (I : Inv X pins σ H s) : ∀ b o, X.base.get? b = some o → s.heap.get? b = some o := fun b o e => (I.bs b o e).1
theorem Inv.mod (I : Inv X pins σ H s) : Mod X.K X.mg X.base := I.ok.mod
theorem Inv.kIn (I : Inv X pins σ H s) : X.K.In s.heap := I.ok.mod.kin.keeps I.bk
theorem Inv.lt (I : Inv X pins σ H s) : X.env.locals < s.heap.objs.size := let ⟨_, hn, _⟩ := I.loc; hn.lt
theorem Inv.sz (I : Inv X pins σ H s) : X.s₀.heap.objs.size ≤ s.heap.objs.size := Nat.le_trans I.ok.above (Nat.le_of_lt I.lt)
theorem Inv.nofs (I : Inv X pins σ H s) {a : Addr} (h : s.heap.objs.size ≤ a) : a ∉ X.fs := fun hb => by
  obtain ⟨_, o, ho, _⟩ := I.ok.funs.mem hb
  exact absurd (Nat.lt_of_lt_of_le (Heap.lt_size ho) (Nat.le_trans I.sz h)) (Nat.lt_irrefl _)
theorem Inv.cne (I : Inv X pins σ H s) : ∀ x c, X.env.cells.lookup x = some c → c ≠ X.env.locals := fun x c e z => by
  obtain ⟨v, o, ho, hd⟩ := I.cell x c e
  obtain ⟨m, ⟨o', es, ep, ho', hd', _⟩, _⟩ := I.loc
  rw [z, ho'] at ho; cases ho; rw [hd'] at hd; cases hd
theorem Inv.funs (I : Inv X pins σ H s) : s.heap.FunFrames X.base X.outer := by
  have all : ∀ (l : List Env), (∀ b ∈ frs l, b ∈ X.fs) → X.s₀.heap.FunFrames X.base l → s.heap.FunFrames X.base l := by
    intro l
    induction l with
    | nil => intro _ _; trivial
    | cons env r ih =>
      intro hs hl
      obtain ⟨hk, ⟨L, o, hf, hn, ho, hd⟩, hr⟩ := hl
      have hL : L ∈ X.fs := hs L (by unfold frs; rw [List.filterMap_cons, hf]; exact List.mem_cons_self)
      obtain ⟨sl, e⟩ := I.base.slot L o ho (I.ok.frf L hL) hL fun z => I.ok.exfs L z hL
      exact ⟨hk, ⟨L, _, hf, hn, e, hd⟩, ih (fun b hb => hs b (by unfold frs; rw [List.filterMap_cons, hf]; exact List.mem_cons_of_mem _ hb)) hr⟩
  exact all X.outer (fun _ hb => hb) I.ok.funs

/-- the frames that run, for a call -/
theorem Inv.stack (I : Inv X pins σ H s) : s.heap.FunFrames X.base X.stack := by
  rcases I.ok.stk with e | ⟨e, hf⟩
  · rw [e]; exact I.funs
  · rw [e]
    obtain ⟨m, hn, _⟩ := I.loc
    refine .cons (by rw [I.ok.kind]; decide) hf hn ?_ I.funs
    exact Heap.get?_none_of_le (Nat.le_trans I.ok.bsz I.ok.above)
theorem Inv.stkSub (I : Inv X pins σ H s) : ∀ b ∈ frs X.stack, b ∈ X.env.locals :: X.fs := fun b hb => by
  rcases I.ok.stk with e | ⟨e, hf⟩
  · rw [e] at hb; exact List.mem_cons_of_mem _ hb
  · rw [e] at hb
    unfold frs at hb
    rw [List.filterMap_cons, hf] at hb
    exact hb
theorem Inv.stkFree (I : Inv X pins σ H s) : ∀ b ∈ frs X.stack, H b = none := fun b hb => by
  rcases List.mem_cons.mp (I.stkSub b hb) with e | hb
  · rw [e]; exact I.free
  · obtain ⟨_, o, ho, _⟩ := I.ok.funs.mem hb
    exact I.base.free b o ho (I.ok.frf b hb) fun z => I.ok.exfs b z hb

/-- THE STEP: the untracked objects but the frame and the records at ch are kept (the callers' frames up to slots), the frame's map is kept, the new abstract heap is held -/
theorem Inv.step {g' : Array GenState} {t' : Nat} {d' : Drawn} {ch : List Addr} (I : Inv X pins σ H s)
    (hch : ∀ b ∈ ch, (b ∈ X.ex ∨ X.s₀.heap.objs.size ≤ b) ∧ b ≠ X.env.locals ∧ (∀ x c, X.env.cells.lookup x = some c → c ≠ b) ∧ ∀ p ∈ X.pn ++ pins, p.1 ≠ b)
    (keep : ∀ b o, b ≠ X.env.locals → b ∉ X.fs → b ∉ ch → s.heap.get? b = some o → H b = none → h'.get? b = some o)
    (slot : ∀ b o, b ≠ X.env.locals → b ∈ X.fs → b ∉ ch → s.heap.get? b = some o → H b = none → ∃ sl, h'.get? b = some { o with slots := sl }) (free : ∀ b o, b ∉ ch → s.heap.get? b = some o → H b = none → H' b = none)
    (there : ∀ b o, b ∉ ch → s.heap.get? b = some o → ∃ o', h'.get? b = some o')
    (tups : ∀ b xs, H b = some (.tup xs) → H' b = some (.tup xs)) (frzs : ∀ b o u, H b = some (.frz o u) → H' b = some (.frz o u)) (tbls : ∀ b ps, H b = some (.tbl ps) → ∃ more, H' b = some (.tbl (ps ++ more)))
    (ns : ∀ m, s.heap.Ns X.env.locals m → h'.Ns X.env.locals m) (hok : HOk X.prog X.w H' h') (hg : AllBare g') :
    Inv X pins σ H' { s with heap := h', gens := g', drawn := d', toks := t' } := by
  have neL : ∀ b o, X.s₀.heap.get? b = some o → b ≠ X.env.locals := fun b o e => Nat.ne_of_lt (Nat.lt_of_lt_of_le (Heap.lt_size e) I.ok.above)
  have neC : ∀ b o, X.s₀.heap.get? b = some o → b ∉ X.ex → b ∉ ch := fun b o e hx hb => by
    rcases (hch b hb).1 with z | z
    · exact hx z
    · exact absurd (Nat.lt_of_lt_of_le (Heap.lt_size e) z) (Nat.lt_irrefl _)
  have cellK : ∀ x c, X.env.cells.lookup x = some c → ∀ v, s.heap.IsCell c v → h'.IsCell c v := fun x c e v ⟨o, ho, hd⟩ => by
    have nch : c ∉ ch := fun z => (hch c z).2.2.1 x c e rfl
    by_cases hc : c ∈ X.fs
    · obtain ⟨sl, q⟩ := slot c o (I.cne x c e) hc nch ho (I.freeC x c e)
      exact ⟨_, q, hd⟩
    · exact ⟨o, keep c o (I.cne x c e) hc nch ho (I.freeC x c e), hd⟩
  refine ⟨I.ok, I.os, hg, ⟨fun b o e n hb hx => ?_, fun b o e n hb hx => ?_, fun b o e n hx => ?_, fun b o e hx => ?_, fun b xs e => tups b xs (I.base.tups b xs e), fun b o xs e => frzs b o xs (I.base.frzs b o xs e), fun b ps e => ?_⟩, ?_, fun x c e => ?_, ?_, fun x c e => ?_, fun p hp => ?_, hok, I.len⟩
  · exact keep b o (neL b o e) hb (neC b o e hx) (I.base.keep b o e n hb hx) (I.base.free b o e n hx)
  · obtain ⟨sl, e1⟩ := I.base.slot b o e n hb hx
    obtain ⟨sl', e2⟩ := slot b _ (neL b o e) hb (neC b o e hx) e1 (I.base.free b o e n hx)
    exact ⟨sl', e2⟩
  · obtain ⟨o', e1⟩ := I.base.there b o e hx
    exact free b o' (neC b o e hx) e1 (I.base.free b o e n hx)
  · obtain ⟨o', e1⟩ := I.base.there b o e hx
    exact there b o' (neC b o e hx) e1
  · obtain ⟨m1, e1⟩ := I.base.tbls b ps e
    obtain ⟨m2, e2⟩ := tbls b _ e1
    exact ⟨m1 ++ m2, by rw [e2, Array.append_assoc]⟩
  · obtain ⟨m, hn, hl⟩ := I.loc
    refine ⟨m, ns m hn, fun i x v e1 e2 e3 => ?_⟩
    obtain ⟨u, r, l⟩ := hl i x v e1 e2 e3
    refine ⟨u, r, ?_⟩
    rcases l with l | ⟨k, c, e, z⟩
    · exact .inl l
    · exact .inr ⟨k, c, e, cellK x c e _ z⟩
  · obtain ⟨v, z⟩ := I.cell x c e
    exact ⟨v, cellK x c e v z⟩
  · obtain ⟨m, ⟨o, _, _, ho, _⟩, _⟩ := I.loc
    exact free _ o (fun z => (hch _ z).2.1 rfl) ho I.free
  · obtain ⟨v, o, ho, hd⟩ := I.cell x c e
    exact free c o (fun z => (hch c z).2.2.1 x c e rfl) ho (I.freeC x c e)
  · obtain ⟨e, n, ne, nf, d⟩ := I.pin p hp
    have nch : p.1 ∉ ch := fun z => (hch p.1 z).2.2.2 p hp rfl
    exact ⟨keep p.1 p.2 ne nf nch e n, free p.1 p.2 nch e n, ne, nf, d⟩
/-- .. where the frame's own object is kept too -/
theorem Inv.un {t' : Nat} (I : Inv X pins σ H s) (u : Un X.fs [] H H' s.heap h') (hok : HOk X.prog X.w H' h') : Inv X pins σ H' { s with heap := h', toks := t' } := by
  obtain ⟨m, ⟨o, es, ep, ho, r⟩, _⟩ := id I.loc
  obtain ⟨sl, hL⟩ := u.any ho I.free (by simp)
  exact I.step (g' := s.gens) (d' := s.drawn) (ch := []) (fun _ z => nomatch z) (fun b o _ hb _ e n => u.keep b o e n hb (by simp)) (fun b o _ hb _ e n => u.slot b o e n hb (by simp)) (fun b o _ e n => u.free b o e n (by simp)) (fun b o _ e => u.there b o e (by simp)) u.tups u.frzs u.tbls (fun m' hm => by
    obtain ⟨o', es', ep', ho', r'⟩ := hm
    rw [ho] at ho'; cases ho'
    exact ⟨_, es', ep', hL, r'⟩) hok I.bare
/-- behind a call (or a comprehension's block): the slots of this frame may have changed too, the records at ch may have turned -/
theorem Inv.call {g' : Array GenState} {t' : Nat} {d' : Drawn} {ch : List Addr} (I : Inv X pins σ H s) (u : Un (frs X.stack) ch H H' s.heap h') (hok : HOk X.prog X.w H' h') (hg : AllBare g')
    (hch : ∀ b ∈ ch, (b ∈ X.ex ∨ X.s₀.heap.objs.size ≤ b) ∧ b ≠ X.env.locals ∧ (∀ x c, X.env.cells.lookup x = some c → c ≠ b) ∧ ∀ p ∈ X.pn ++ pins, p.1 ≠ b) :
    Inv X pins σ H' { s with heap := h', gens := g', drawn := d', toks := t' } := by
  obtain ⟨m, ⟨o, es, ep, ho, r⟩, _⟩ := id I.loc
  obtain ⟨sl, hL⟩ := u.any ho I.free fun z => (hch _ z).2.1 rfl
  exact I.step (ch := ch) hch (fun b o hL hb hc e n => u.keep b o e n (fun z => (List.mem_cons.mp (I.stkSub b z)).elim hL hb) hc) (fun b o _ _ hc e n => u.any e n hc) (fun b o hc e n => u.free b o e n hc) (fun b o hc e => u.there b o e hc) u.tups u.frzs u.tbls (fun m' hm => by
    obtain ⟨o', es', ep', ho', r'⟩ := hm
    rw [ho] at ho'; cases ho'
    exact ⟨_, es', ep', hL, r'⟩) hok hg
/-- an untracked record of ours (an iterator) has turned -/
theorem Inv.turned {t' : Nat} {it : Addr} (I : Inv X pins σ H s) (k : ∀ b o, b ≠ it → s.heap.get? b = some o → h'.get? b = some o) (hn : H it = none) (hL : it ≠ X.env.locals)
    (h1 : it ∈ X.ex ∨ X.s₀.heap.objs.size ≤ it) (h2 : ∀ x c, X.env.cells.lookup x = some c → c ≠ it) (h3 : ∀ p ∈ X.pn ++ pins, p.1 ≠ it) : Inv X pins σ H { s with heap := h', toks := t' } := by
  have nit : ∀ b u, H b = some u → b ≠ it := fun b u e z => by rw [z, hn] at e; cases e
  refine I.step (g' := s.gens) (d' := s.drawn) (ch := [it]) (fun b hb => ?_) (fun b o _ _ hc e _ => k b o (fun z => hc (by simp [z])) e) (fun b o _ _ hc e _ => ⟨o.slots, k b o (fun z => hc (by simp [z])) e⟩) (fun _ _ _ _ n => n)
    (fun b o hc e => ⟨o, k b o (fun z => hc (by simp [z])) e⟩) (fun _ _ e => e) (fun _ _ _ e => e) (fun b ps e => ⟨#[], by rw [e]; simp⟩) (fun m hm => ?_) (fun b u e => ?_) I.bare
  · have e : b = it := by simpa using hb
    subst e
    exact ⟨h1, hL, h2, h3⟩
  · obtain ⟨o, es, ep, ho, r⟩ := hm
    exact ⟨o, es, ep, k _ o (Ne.symm hL) ho, r⟩
  · refine (I.hok b u e).stay (fun c v hc q => k c v ?_ q) (fun _ q => q) fun _ _ q => q
    rcases hc with z | z
    · rw [z]; exact nit b u e
    · exact nit c _ z
theorem Inv.tok (I : Inv X pins σ H s) (t : Nat) : Inv X pins σ H { s with toks := t } := I.un (h' := s.heap) (t' := t) Un.refl I.hok
/-- all objects kept -/
theorem Inv.kept {t' : Nat} (I : Inv X pins σ H s) (k : ∀ b u, s.heap.get? b = some u → h'.get? b = some u) : Inv X pins σ H { s with heap := h', toks := t' } := I.un (Un.kept k) (I.hok.kept k)
/-- a new object laid and tracked -/
theorem Inv.laid {a : Addr} {o : HO} {t' : Nat} (I : Inv X pins σ H s) (k : ∀ b u, s.heap.get? b = some u → h'.get? b = some u) (hp : s.heap.objs.size ≤ a) (new : ObjOk X.prog X.w (upd H a o) h' a o) :
    Inv X pins σ (upd H a o) { s with heap := h', toks := t' } := I.un (Un.laid k hp (I.hok.fresh hp)) (I.hok.laid k hp new)
/-- an object written -/
theorem Inv.write {x e : Addr} {o : HO} {t' : Nat} (I : Inv X pins σ H s) (mu : Mut (H x)) (he : e = x ∨ H e = some (.own x)) (k : ∀ b u, b ≠ e → s.heap.get? b = some u → h'.get? b = some u) (heo : ∃ u, h'.get? e = some u)
    (new : ObjOk X.prog X.w (upd H x o) h' x o) : Inv X pins σ (upd H x o) { s with heap := h', toks := t' } := I.un (Un.write mu he k heo) (I.hok.write mu he k heo new)
theorem Inv.pins_of {pins' : List (Addr × Obj)} (I : Inv X pins σ H s) (h : ∀ p ∈ pins', s.heap.get? p.1 = some p.2 ∧ H p.1 = none ∧ p.1 ≠ X.env.locals ∧ p.1 ∉ X.fs ∧ ∀ v, p.2.data ≠ .cell v) : Inv X pins' σ H s :=
  ⟨I.ok, I.os, I.bare, I.base, I.loc, I.cell, I.free, I.freeC, fun p hp => (List.mem_append.mp hp).elim (fun z => I.pin p (List.mem_append_left _ z)) (h p), I.hok, I.len⟩

theorem nodup_ix {N : List Str} (hN : N.Nodup) {i j : Nat} {x : Str} (a : N[i]? = some x) (b : N[j]? = some x) : i = j := by
  obtain ⟨h1, e1⟩ := List.getElem?_eq_some_iff.mp a
  obtain ⟨h2, e2⟩ := List.getElem?_eq_some_iff.mp b
  exact (List.getElem_inj hN).mp (e1.trans e2.symm)

/-- a name is stored; what changed -/
theorem store_ok2 {M : Model} {A : Around} {E : Value → Shared → Prop} {i : Nat} {x : Str} {v : V} {u : Value} {Q : Unit → Shared → Prop} (I : Inv X pins σ H s) (hN : X.N.Nodup) (hi : X.N[i]? = some x) (hx : Loc X.env.scope x) (r : RelV v u)
    (h : ∀ s', Inv X pins (σ.set i (some v)) H s' → (∃ a, Heap.SameBut a s.heap s'.heap ∧ (a = X.env.locals ∨ X.env.cells.lookup x = some a)) → Q () s') (hf : X.fn x = true ∨ X.env.scope.names.lookup x = some .local := by first | exact .inl rfl | exact .inr rfl | assumption) : wpAny M A (storeName X.env x u) Q E s := by
  obtain ⟨m, hn, hl⟩ := id I.loc
  have hcls : (X.env.scope.kind == .class || (X.env.scope.kind == .module && X.env.locals != X.env.globals)) = false := by rw [I.ok.kind]; rfl
  have hiσ : i < σ.length := by rw [I.len]; exact (List.getElem?_eq_some_iff.mp hi).1
  have cne := I.cne
  have tracked : ∀ {a : Addr} {h' : Heap}, (∃ o, s.heap.get? a = some o ∧ H a = none) → Heap.SameBut a s.heap h' → HOk X.prog X.w H h' := fun {a h'} ha hs b ob e => by
    obtain ⟨_, _, hfree⟩ := ha
    refine (I.hok b ob e).stay (fun c w' hc q => (hs.2 c ?_).trans q) (fun _ q => q) fun _ _ q => q
    rintro rfl
    rcases hc with rfl | hc
    · rw [hfree] at e; cases e
    · rw [hfree] at hc; cases hc
  rcases hx with hk | hk
  · refine wpAny_storeName_local hk hn (fun h' hn' hs => ?_) hcls
    obtain ⟨oL, _, _, hoL, _⟩ := id hn
    refine h _ ⟨I.ok, I.os, I.bare, ⟨fun b o e n hb hx => ?_, fun b o e n hb hx => ?_, I.base.free, fun b o e hx => ?_, I.base.tups, I.base.frzs, I.base.tbls⟩, ⟨_, hn', fun j y v' e1 e2 e3 => ?_⟩, fun y c e => ?_, I.free, I.freeC, fun p hp => ?_, tracked ⟨oL, hoL, I.free⟩ hs, by simpa using I.len⟩ ⟨_, hs, .inl rfl⟩
    · exact (hs.2 b (Nat.ne_of_lt (Nat.lt_of_lt_of_le (Heap.lt_size e) I.ok.above))).trans (I.base.keep b o e n hb hx)
    · obtain ⟨sl, e1⟩ := I.base.slot b o e n hb hx
      exact ⟨sl, (hs.2 b (Nat.ne_of_lt (Nat.lt_of_lt_of_le (Heap.lt_size e) I.ok.above))).trans e1⟩
    · obtain ⟨o', e1⟩ := I.base.there b o e hx
      exact ⟨o', (hs.2 b (Nat.ne_of_lt (Nat.lt_of_lt_of_le (Heap.lt_size e) I.ok.above))).trans e1⟩
    · by_cases hj : j = i
      · subst hj
        rw [hi] at e1; cases e1
        rw [List.getElem?_set_self hiσ] at e2
        cases e2
        exact ⟨u, r, .inl ⟨hk, by simp⟩⟩
      · rw [List.getElem?_set_ne (Ne.symm hj)] at e2
        obtain ⟨u', r', q⟩ := hl j y v' e1 e2 e3
        refine ⟨u', r', ?_⟩
        rcases q with ⟨k, e⟩ | ⟨k, c, e, z⟩
        · refine .inl ⟨k, ?_⟩
          have : y ≠ x := fun e => hj (nodup_ix hN e1 (e ▸ hi))
          simp [this, e]
        · exact .inr ⟨k, c, e, z.sameBut hs (cne y c e)⟩
    · obtain ⟨w', z⟩ := I.cell y c e
      exact ⟨w', z.sameBut hs (cne y c e)⟩
    · obtain ⟨e, n, ne, nf, d⟩ := I.pin p hp
      exact ⟨(hs.2 p.1 ne).trans e, n, ne, nf, d⟩
  · have hfn : X.fn x = true := by
      rcases hf with z | z
      · exact z
      · rw [z] at hk; cases hk
    obtain ⟨c, hc⟩ := I.ok.has x (.inl hk)
    obtain ⟨w', z⟩ := I.cell x c hc
    refine wpAny_storeName_cell I.ok.kind hk hc z (fun h' hc' hs => ?_)
    obtain ⟨oc, hoc, hocd⟩ := id z
    refine h { s with heap := h' } ⟨I.ok, I.os, I.bare, ⟨fun b o e n hb hx => ?_, fun b o e n hb hx => ?_, I.base.free, fun b o e hx => ?_, I.base.tups, I.base.frzs, I.base.tbls⟩, ⟨m, hn.sameBut hs (Ne.symm (cne x c hc)), fun j y v' e1 e2 e3 => ?_⟩, fun y c' e => ?_, I.free, I.freeC, fun p hp => ?_, tracked ⟨oc, hoc, I.freeC x c hc⟩ hs, by simpa using I.len⟩ ⟨c, hs, .inr hc⟩
    · exact (hs.2 b (Nat.ne_of_lt (Nat.lt_of_lt_of_le (Heap.lt_size e) (I.ok.cab x c hfn hc)))).trans (I.base.keep b o e n hb hx)
    · obtain ⟨sl, e1⟩ := I.base.slot b o e n hb hx
      exact ⟨sl, (hs.2 b (Nat.ne_of_lt (Nat.lt_of_lt_of_le (Heap.lt_size e) (I.ok.cab x c hfn hc)))).trans e1⟩
    · obtain ⟨o', e1⟩ := I.base.there b o e hx
      exact ⟨o', (hs.2 b (Nat.ne_of_lt (Nat.lt_of_lt_of_le (Heap.lt_size e) (I.ok.cab x c hfn hc)))).trans e1⟩
    · by_cases hj : j = i
      · subst hj
        rw [hi] at e1; cases e1
        rw [List.getElem?_set_self hiσ] at e2
        cases e2
        exact ⟨u, r, .inr ⟨.inl hk, c, hc, hc'⟩⟩
      · rw [List.getElem?_set_ne (Ne.symm hj)] at e2
        obtain ⟨u', r', q⟩ := hl j y v' e1 e2 e3
        refine ⟨u', r', ?_⟩
        rcases q with q | ⟨k, c', e, z'⟩
        · exact .inl q
        · refine .inr ⟨k, c', e, z'.sameBut hs ?_⟩
          rintro rfl
          exact hj (nodup_ix hN e1 (I.ok.inj _ _ _ e hc ▸ hi))
    · by_cases hcc : c' = c
      · subst hcc; exact ⟨_, hc'⟩
      · obtain ⟨w2, z2⟩ := I.cell y c' e
        exact ⟨w2, z2.sameBut hs hcc⟩
    · obtain ⟨e, n, ne, nf, d⟩ := I.pin p hp
      refine ⟨(hs.2 p.1 ?_).trans e, n, ne, nf, d⟩
      intro q
      rw [q, hoc] at e
      have q' : oc = p.2 := Option.some.inj e
      exact d w' (by rw [← q']; exact hocd)
theorem store_ok {M : Model} {A : Around} {E : Value → Shared → Prop} {i : Nat} {x : Str} {v : V} {u : Value} {Q : Unit → Shared → Prop} (I : Inv X pins σ H s) (hN : X.N.Nodup) (hi : X.N[i]? = some x) (hx : Loc X.env.scope x) (r : RelV v u)
    (h : ∀ s', Inv X pins (σ.set i (some v)) H s' → Q () s') (hf : X.fn x = true ∨ X.env.scope.names.lookup x = some .local := by first | exact .inl rfl | exact .inr rfl | assumption) : wpAny M A (storeName X.env x u) Q E s :=
  store_ok2 I hN hi hx r (fun s' I' _ => h s' I') hf
/-- behind a call or a block, the state as it is -/
theorem Inv.call' {s' : Shared} {ch : List Addr} (I : Inv X pins σ H s) (ho : s'.os = s.os) (u : Un (frs X.stack) ch H H' s.heap s'.heap) (hok : HOk X.prog X.w H' s'.heap) (hg : AllBare s'.gens)
    (hch : ∀ b ∈ ch, (b ∈ X.ex ∨ X.s₀.heap.objs.size ≤ b) ∧ b ≠ X.env.locals ∧ (∀ x c, X.env.cells.lookup x = some c → c ≠ b) ∧ ∀ p ∈ X.pn ++ pins, p.1 ≠ b) : Inv X pins σ H' s' := by
  obtain ⟨h', g', d', t', o'⟩ := s'
  have e : o' = s.os := ho
  subst e
  exact I.call (g' := g') (t' := t') (d' := d') u hok hg hch
end

/-! ### the judgements -/
/-- an exception: its class, its own dict's address (where it has one), the abstract heap behind it -/
abbrev XK := Value → Option Addr → Hp → Prop
abbrev St := List (Option V)
abbrev VK := V → Hp → Prop
/-- an expression's reading; a test's; an argument list's -/
abbrev TE := St → Hp → VK → Prop
abbrev TT := St → Hp → (Bool → Hp → Prop) → Prop
abbrev TA := St → Hp → (List V → Hp → Prop) → Prop
/-- what is wanted behind a statement -/
structure Ends where
  nx : St → Hp → Prop
  rt : VK
  bk : St → Hp → Prop := fun _ _ => False
  ct : St → Hp → Prop := fun _ _ => False
abbrev TS := Ends → St → Hp → Prop

def EP (X : Cx) (pins : List (Addr × Obj)) (σ : St) (Q : VK) (u : Value) (s' : Shared) : Prop := ∃ v H', Inv X pins σ H' s' ∧ RelV v u ∧ Q v H'
def TP (X : Cx) (pins : List (Addr × Obj)) (σ : St) (Q : Bool → Hp → Prop) (b : Bool) (s' : Shared) : Prop := ∃ H', Inv X pins σ H' s' ∧ Q b H'
def AP (X : Cx) (pins : List (Addr × Obj)) (σ : St) (Q : List V → Hp → Prop) (us : List Value) (s' : Shared) : Prop := ∃ vs H', Inv X pins σ H' s' ∧ Vals vs us ∧ Q vs H'
def SP (X : Cx) (pins : List (Addr × Obj)) (D : Ends) (f : Flow) (s' : Shared) : Prop :=
  match f with
  | .next => ∃ σ' H', Inv X pins σ' H' s' ∧ D.nx σ' H'
  | .brk => ∃ σ' H', Inv X pins σ' H' s' ∧ D.bk σ' H'
  | .cont => ∃ σ' H', Inv X pins σ' H' s' ∧ D.ct σ' H'
  | .ret u => ∃ v σ' H', Inv X pins σ' H' s' ∧ RelV v u ∧ D.rt v H'

def PE (X : Cx) (e : Expr) (t : TE) : Prop :=
  ∀ (pins : List (Addr × Obj)) (s : Shared) (σ : St) (H : Hp) (Q : VK), Inv X pins σ H s → t σ H Q → wpAny (model X.prog X.w) X.A (eval e X.env) (EP X pins σ Q) X.xe s
def PT (X : Cx) (e : Expr) (t : TT) : Prop :=
  ∀ (pins : List (Addr × Obj)) (s : Shared) (σ : St) (H : Hp) (Q : Bool → Hp → Prop), Inv X pins σ H s → t σ H Q → wpAny (model X.prog X.w) X.A (isTrue e X.env (eval e X.env)) (TP X pins σ Q) X.xe s
/-- a test whatever its 'whole' is (and, or) -/
def PW (X : Cx) (e : Expr) (t : TT) : Prop :=
  ∀ (whole : Sem Value) (pins : List (Addr × Obj)) (s : Shared) (σ : St) (H : Hp) (Q : Bool → Hp → Prop), Inv X pins σ H s → t σ H Q → wpAny (model X.prog X.w) X.A (isTrue e X.env whole) (TP X pins σ Q) X.xe s
theorem PW.pt {X : Cx} {e : Expr} {t : TT} (h : PW X e t) : PT X e t := h _
/-- an argument list (no star), from the left -/
def PA (X : Cx) (es : List Expr) (t : TA) : Prop :=
  ∀ (pos : Pos) (pins : List (Addr × Obj)) (s : Shared) (σ : St) (H : Hp) (Q : List V → Hp → Prop), Inv X pins σ H s → t σ H Q → wpAny (model X.prog X.w) X.A (spliced (backTo pos (starEach es X.env))) (AP X pins σ Q) X.xe s
def PS (X : Cx) (st : Stmt) (t : TS) : Prop :=
  ∀ (pins : List (Addr × Obj)) (s : Shared) (σ : St) (H : Hp) (D : Ends), Inv X pins σ H s → t D σ H → wpAny (model X.prog X.w) X.A (exec st X.env) (SP X pins D) X.xe s
def PSs (X : Cx) (st : List Stmt) (t : TS) : Prop :=
  ∀ (pins : List (Addr × Obj)) (s : Shared) (σ : St) (H : Hp) (D : Ends), Inv X pins σ H s → t D σ H → wpAny (model X.prog X.w) X.A (execs st X.env) (SP X pins D) X.xe s
/-- weaken the end -/
theorem thn {α : Type} {t : Sem α} {Q Q' : α → Shared → Prop} {M : Model} {A : Around} {E : Value → Shared → Prop} {s : Shared} (h : wpAny M A t Q E s) (hQ : ∀ a s, Q a s → Q' a s) : wpAny M A t Q' E s := wpAny_mono h hQ fun _ _ x => x
end L2

namespace L2
open PySem PySem.Spec PyProof.Rows
section
variable {X : Cx}

/-! ### names and constants -/
def tVar (i : Nat) : TE := fun σ H Q => ∃ v, σ[i]? = some (some v) ∧ Q v H
def tC (v : V) : TE := fun _ H Q => Q v H
theorem pe_var {i : Nat} {x : Str} {pos : Pos} (hN : X.N[i]? = some x) (hv : Vis X.env.scope x) (hd : (x == ("__debug__" : Str)) = false := by decide) (hcd : (x == ("__classdict__" : Str)) = false := by decide) : PE X (.Name x pos) (tVar i) := by
  intro pins s σ H Q I h
  obtain ⟨v, e, h⟩ := h
  obtain ⟨m, hn, hl⟩ := I.loc
  obtain ⟨u, r, l⟩ := hl i x v hN e hv
  have fin : EP X pins σ Q u s := ⟨v, H, I, r, h⟩
  rcases l with ⟨hk, hm⟩ | ⟨hk, c, hc, hcell⟩
  · exact wpAny_Name (wpAny_loadName_local I.ok.kind hk hn hm fin) hd
  · rcases hk with hk | hk
    · exact wpAny_Name (wpAny_loadName_cell I.ok.kind hk hc hcell fin) hd
    · exact wpAny_Name (wpAny_loadName_free I.ok.kind hk hc hcell fin hcd) hd
theorem pe_int {i j pos} : PE X (.Constant (.int i) j pos) (tC (.int i)) := fun _ _ _ H _ I h => wpAny_Constant_int ⟨.int i, H, I.tok _, ⟨_, rfl⟩, h⟩
theorem pe_bl {b j pos} : PE X (.Constant (.bool b) j pos) (tC (.bl b)) := fun _ _ _ H _ I h => Constant_bool ⟨.bl b, H, I, rfl, h⟩
theorem pe_non {j pos} : PE X (.Constant .none j pos) (tC .non) := fun _ _ _ H _ I h => Constant_none ⟨.non, H, I, rfl, h⟩
theorem pe_str {x j pos} : PE X (.Constant (.str x) j pos) (tC (.str x)) := fun _ _ _ H _ I h => Calls.Constant_str ⟨.str x, H, I.tok _, ⟨_, rfl⟩, h⟩

/-- a global name of the def -/
def Gl (X : Cx) (x : Str) : Prop := X.env.kindOf x = some .globalImplicit
theorem ld_glob {E : Value → Shared → Prop} {pins : List (Addr × Obj)} {s : Shared} {σ : St} {H : Hp} {x : Str} {u : Value} {pos : Pos} {Q : Value → Shared → Prop} (I : Inv X pins σ H s) (hg : Gl X x) (hm : X.mg x = some u) (h : Q u s)
    (hd : (x == ("__debug__" : Str)) = false := by decide) : wpAny (model X.prog X.w) X.A (eval (.Name x pos) X.env) Q E s :=
  Calls.Name_function_global I.ok.kind hg (Calls.loadGlobal_global (by rw [I.ok.glob]; exact I.mod.glob.keeps I.bk) hm h) hd
theorem ld_blt {E : Value → Shared → Prop} {pins : List (Addr × Obj)} {s : Shared} {σ : St} {H : Hp} {x : Str} {u : Value} {pos : Pos} {Q : Value → Shared → Prop} (I : Inv X pins σ H s) (hg : Gl X x) (hm : X.mg x = none) (hv : bootBuiltins x = some u) (h : Q u s)
    (hn : x ≠ "__name__" := by decide) (hd : (x == ("__debug__" : Str)) = false := by decide) : wpAny (model X.prog X.w) X.A (eval (.Name x pos) X.env) Q E s := by
  obtain ⟨mb, h1, h2⟩ := I.mod.blt
  exact Calls.Name_function_global I.ok.kind hg (Calls.loadGlobal_builtin (by rw [I.ok.glob]; exact I.mod.glob.keeps I.bk) hm (by rw [I.ok.blt]; exact h1.keeps I.bk) ((h2 x hn).trans hv) h) hd
theorem pe_bltn {x : Str} {v : V} {u : Value} {pos : Pos} (hg : Gl X x) (hm : X.mg x = none) (hv : bootBuiltins x = some u) (r : RelV v u) (hn : x ≠ "__name__" := by decide) (hd : (x == ("__debug__" : Str)) = false := by decide) : PE X (.Name x pos) (tC v) :=
  fun _ _ _ H _ I h => ld_blt I hg hm hv ⟨v, H, I, r, h⟩ hn hd

/-! ### arithmetic -/
variable {a b : Expr} {ta tb : TE} {pos : Pos}
/-! ### comparisons -/
def PC (X : Cx) (op : CmpOp) (a b : Expr) (t : TE) : Prop :=
  ∀ (pins : List (Addr × Obj)) (s : Shared) (σ : St) (H : Hp) (Q : VK), Inv X pins σ H s → t σ H Q →
    wpAny (model X.prog X.w) X.A (eval a X.env) (fun v s₁ => wpAny (model X.prog X.w) X.A (eval b X.env) (fun u s₂ => wpAny (model X.prog X.w) X.A (compareOp op v u) (EP X pins σ Q) X.xe s₂) X.xe s₁) X.xe s
theorem nobehind (b : Expr) {op : CmpOp} (h : op ≠ .In) (h2 : op ≠ .NotIn) : behindInMarks op b = false := by
  have e1 : (op == CmpOp.In) = false := by cases op <;> first | rfl | exact absurd rfl h
  have e2 : (op == CmpOp.NotIn) = false := by cases op <;> first | rfl | exact absurd rfl h2
  cases b <;> simp [behindInMarks, e1, e2]
def tNotN (ta : TE) : TE := fun σ H Q => ta σ H fun x H1 => Q (.bl (!decide (x = .non))) H1
theorem RelV.none_iff {x : V} {v : Value} (r : RelV x v) : (v == Value.none) = decide (x = .non) := by
  cases x with
  | non => cases r; rfl
  | bl _ => cases r; rfl
  | int _ => obtain ⟨t, rfl⟩ := r; rfl
  | str _ => obtain ⟨t, rfl⟩ := r; rfl
  | byt _ => obtain ⟨t, rfl⟩ := r; rfl
  | flt _ => obtain ⟨t, rfl⟩ := r; rfl
  | ref _ => cases r; rfl
  | ty _ => cases r; rfl
theorem pc_notN {j pos'} (ha : PE X a ta) : PC X .IsNot a (.Constant .none j pos') (tNotN ta) := by
  intro pins s σ H Q I h
  refine thn (ha pins s σ H _ I h) fun v s1 ⟨x, H1, I1, r1, q1⟩ => ?_
  exact Constant_none (isnot_none_gen ⟨.bl _, H1, I1, by rw [r1.none_iff]; rfl, q1⟩)
/-- a comparison as a value, as a test -/
def tB (t : TE) : TT := fun σ H Q => t σ H fun x H1 => ∃ c, x = .bl c ∧ Q c H1
theorem pt_cmp {op : CmpOp} {t : TE} (h : PC X op a b t) (h1 : behindInMarks op b = false := by first | exact nobehind _ (by decide) (by decide) | rfl) : PT X (.Compare a [op] [b] pos) (tB t) := by
  intro pins s σ H Q I hw
  refine wpAny_isTrue_Compare1 (thn (h pins s σ H _ I hw) fun v s1 h1 => thn h1 fun u s2 h2 => thn h2 fun c s3 ⟨x, H1, I1, r1, q1⟩ => ?_) h1
  obtain ⟨d, rfl, q⟩ := q1
  cases r1
  exact wpAny_truthy_bool ⟨H1, I1, q⟩
/-- an expression whose value is a bool, as a test -/
theorem pt_val {e : Expr} {t : TE} (h : PE X e t) (he : ∀ whole, isTrue e X.env whole = (do let v ← whole; standAt e.pos; holding [v] (truthy v)) := by intro _; rfl) : PT X e (tB t) := by
  intro pins s σ H Q I hw
  refine isTrue_plain (thn (h pins s σ H _ I hw) fun v s1 ⟨x, H1, I1, r1, q1⟩ => ?_) (he _)
  obtain ⟨d, rfl, q⟩ := q1
  cases r1
  exact wpAny_truthy_bool ⟨H1, I1, q⟩

/-! ### and, or, not -/
variable {tA tB' : TT} {rest : List Expr}
def tAnd (t u : TT) : TT := fun σ H Q => t σ H fun c H1 => if c = true then u σ H1 Q else Q false H1
def tOr (t u : TT) : TT := fun σ H Q => t σ H fun c H1 => if c = true then Q true H1 else u σ H1 Q
def tNot (t : TT) : TT := fun σ H Q => t σ H fun c H1 => Q (!c) H1
theorem pw_and1 (ha : PT X a tA) : PW X (.BoolOp .And [a] pos) tA := by
  intro wh pins s σ H Q I h
  refine isTrue_and (thn (ha pins s σ H Q I h) fun c s1 e => ?_)
  cases c with
  | true => exact isTrue_and_nil e
  | false => exact e
theorem pw_or1 (ha : PT X a tA) : PW X (.BoolOp .Or [a] pos) tA := by
  intro wh pins s σ H Q I h
  refine isTrue_or (thn (ha pins s σ H Q I h) fun c s1 e => ?_)
  cases c with
  | false => exact isTrue_or_nil e
  | true => exact e
theorem pw_and (ha : PT X a tA) (hb : PW X (.BoolOp .And (b :: rest) pos) tB') : PW X (.BoolOp .And (a :: b :: rest) pos) (tAnd tA tB') := by
  intro wh pins s σ H Q I h
  refine isTrue_and (thn (ha pins s σ H _ I h) fun c s1 ⟨H1, I1, q1⟩ => ?_)
  cases c with
  | true => exact hb wh pins s1 σ H1 Q I1 q1
  | false => exact ⟨H1, I1, q1⟩
theorem pw_or (ha : PT X a tA) (hb : PW X (.BoolOp .Or (b :: rest) pos) tB') : PW X (.BoolOp .Or (a :: b :: rest) pos) (tOr tA tB') := by
  intro wh pins s σ H Q I h
  refine isTrue_or (thn (ha pins s σ H _ I h) fun c s1 ⟨H1, I1, q1⟩ => ?_)
  cases c with
  | true => exact ⟨H1, I1, q1⟩
  | false => exact hb wh pins s1 σ H1 Q I1 q1
theorem pt_not (ha : PT X a tA) : PT X (.UnaryOp .Not a pos) (tNot tA) := by
  intro pins s σ H Q I h
  exact isTrue_not (ha pins s σ H (fun c H1 => Q (!c) H1) I h)
/-- .. as values (bools) -/
def tAndV (ta tb : TE) : TE := fun σ H Q => ta σ H fun x H1 => ∃ c, x = .bl c ∧ if c = true then tb σ H1 Q else Q (.bl false) H1
def tNotV (ta : TE) : TE := fun σ H Q => ta σ H fun x H1 => ∃ c, x = .bl c ∧ Q (.bl (!c)) H1
theorem pe_one {op} {t : TE} (h : PE X a t) : PE X (.BoolOp op [a] pos) t := fun pins s σ H Q I hw => BoolOp_one (h pins s σ H Q I hw)
theorem pe_and (ha : PE X a ta) (hb : PE X (.BoolOp .And (b :: rest) pos) tb) : PE X (.BoolOp .And (a :: b :: rest) pos) (tAndV ta tb) := by
  intro pins s σ H Q I h
  refine BoolOp_and (thn (ha pins s σ H _ I h) fun v s1 ⟨x, H1, I1, r1, q1⟩ => ?_)
  obtain ⟨c, rfl, q1⟩ := q1
  cases r1
  refine wpAny_truthy_bool ?_
  cases c with
  | true => exact hb pins s1 σ H1 Q I1 q1
  | false => exact ⟨.bl false, H1, I1, rfl, q1⟩
theorem pe_not (ha : PE X a ta) : PE X (.UnaryOp .Not a pos) (tNotV ta) := by
  intro pins s σ H Q I h
  refine UnaryOp_ (thn (ha pins s σ H _ I h) fun v s1 ⟨x, H1, I1, r1, q1⟩ => ?_)
  obtain ⟨c, rfl, q1⟩ := q1
  cases r1
  exact not_of (wpAny_truthy_bool ⟨.bl (!c), H1, I1, rfl, q1⟩)
end
end L2

namespace L2
open PySem PySem.Spec PyProof.Rows

/-! ### a list, a tuple that is read: tracked, frozen, or an object of the module -/
def SqL (K : PySem.W.Frag) (H : Hp) (a : Addr) (xs : List V) : Prop :=
  Rd H a (.lst xs) ∨
    ∃ (o : Obj) (its : Array Value) (n : Nat), K.lookup a = some o ∧ o.cls = .type "list" ∧ o.dict = none ∧ o.data = .seq its n ∧ its.size ≤ sizeLine ∧ Vals xs its.toList
def SqT (K : PySem.W.Frag) (H : Hp) (a : Addr) (xs : List V) : Prop :=
  Rd H a (.tup xs) ∨
    ∃ (o : Obj) (its : Array Value) (n : Nat), K.lookup a = some o ∧ o.cls = .type "tuple" ∧ o.data = .seq its n ∧ its.size ≤ sizeLine ∧ Vals xs its.toList
def absV : Value → Option V
  | .none => some .non
  | .bool b => some (.bl b)
  | .int i _ => some (.int i)
  | .str x _ => some (.str x)
  | .bytes b _ => some (.byt b)
  | .float b _ => some (.flt b)
  | .ref a => some (.ref a)
  | .type n => some (.ty n)
  | _ => none
theorem RelV.abs {x : V} {u : Value} (r : RelV x u) : absV u = some x := by
  cases x with
  | non => cases r; rfl
  | bl _ => cases r; rfl
  | int _ => obtain ⟨t, rfl⟩ := r; rfl
  | str _ => obtain ⟨t, rfl⟩ := r; rfl
  | byt _ => obtain ⟨t, rfl⟩ := r; rfl
  | flt _ => obtain ⟨t, rfl⟩ := r; rfl
  | ref _ => cases r; rfl
  | ty _ => cases r; rfl
theorem RelV.inj {x y : V} {u : Value} (r : RelV x u) (q : RelV y u) : x = y := Option.some.inj (r.abs.symm.trans q.abs)
theorem Vals.inj : ∀ {xs ys : List V} {us : List Value}, Vals xs us → Vals ys us → xs = ys
  | _, _, _, .nil, .nil => rfl
  | _, _, _, .cons r t, .cons r' t' => by rw [r.inj r', Vals.inj t t']
section
variable {X : Cx} {pins : List (Addr × Obj)} {σ : St} {H : Hp} {s : Shared} {a : Addr} {xs ys : List V}
theorem SqL.of {K : PySem.W.Frag} (h : H a = some (.lst xs)) : SqL K H a xs := .inl (.inl h)
theorem SqT.of {K : PySem.W.Frag} (h : H a = some (.tup xs)) : SqT K H a xs := .inl (.inl h)
theorem Inv.list (I : Inv X pins σ H s) (h : SqL X.K H a xs) : ∃ its : List Value, Vals xs its ∧ PlainL s.heap a its.toArray ∧ xs.length ≤ sizeLine := by
  rcases h with h | ⟨o, its, n, hk, hc, hd, hs, hz, r⟩
  · obtain ⟨z, its, n, r, e⟩ := h.ok I.hok
    exact ⟨its, r, ⟨_, n, e, rfl, rfl, rfl⟩, z⟩
  · refine ⟨its.toList, r, ⟨o, n, I.kIn a o hk, hc, hd, by simpa using hs⟩, ?_⟩
    have e := r.length
    simp only [Array.length_toList] at e
    omega
theorem Inv.tuple (I : Inv X pins σ H s) (h : SqT X.K H a xs) : ∃ its : List Value, Vals xs its ∧ IsTup s.heap a its.toArray ∧ xs.length ≤ sizeLine := by
  rcases h with h | ⟨o, its, n, hk, hc, hs, hz, r⟩
  · obtain ⟨z, its, r, p⟩ := h.ok I.hok
    exact ⟨its, r, p.is, z⟩
  · refine ⟨its.toList, r, ⟨o, I.kIn a o hk, hc, n, by simpa using hs⟩, ?_⟩
    have e := r.length
    simp only [Array.length_toList] at e
    omega
theorem Inv.list_inj (I : Inv X pins σ H s) (h : SqL X.K H a xs) (h' : SqL X.K H a ys) : xs = ys := by
  obtain ⟨its, r, ⟨o, n, e, _, _, d⟩, _⟩ := I.list h
  obtain ⟨its', r', ⟨o', n', e', _, _, d'⟩, _⟩ := I.list h'
  rw [e] at e'; cases e'
  rw [d] at d'
  injection d' with d1 _
  have : its = its' := by simpa using congrArg Array.toList d1
  subst this
  exact r.inj r'
theorem Inv.tuple_inj (I : Inv X pins σ H s) (h : SqT X.K H a xs) (h' : SqT X.K H a ys) : xs = ys := by
  obtain ⟨its, r, ⟨o, e, _, n, d⟩, _⟩ := I.tuple h
  obtain ⟨its', r', ⟨o', e', _, n', d'⟩, _⟩ := I.tuple h'
  rw [e] at e'; cases e'
  rw [d] at d'
  injection d' with d1 _
  have : its = its' := by simpa using congrArg Array.toList d1
  subst this
  exact r.inj r'
end

/-! ### another wish about exceptions -/
abbrev Cx.wish (X : Cx) (E : Value → Shared → Prop) : Cx := { X with xe := E }
/-- no exception leaves -/
abbrev Cx.nox (X : Cx) : Cx := X.wish fun _ _ => False
theorem Cx.Ok.wish {X : Cx} (ok : X.Ok) (E : Value → Shared → Prop) : (X.wish E).Ok :=
  ⟨ok.mod, ok.kind, ok.glob, ok.blt, ok.above, ok.inj, ok.has, ok.cab, ok.hd, ok.frames, ok.stk, ok.exf, ok.bs, ok.bsz, ok.noex, ok.exfs, ok.funs, ok.frf⟩
theorem Cx.Ok.unwish {X : Cx} {E : Value → Shared → Prop} (ok : (X.wish E).Ok) : X.Ok :=
  ⟨ok.mod, ok.kind, ok.glob, ok.blt, ok.above, ok.inj, ok.has, ok.cab, ok.hd, ok.frames, ok.stk, ok.exf, ok.bs, ok.bsz, ok.noex, ok.exfs, ok.funs, ok.frf⟩
section
variable {X : Cx} {pins : List (Addr × Obj)} {σ : St} {H : Hp} {s : Shared} {E : Value → Shared → Prop}
theorem Inv.wish (I : Inv X pins σ H s) (E : Value → Shared → Prop) : Inv (X.wish E) pins σ H s := ⟨I.ok.wish E, I.os, I.bare, I.base, I.loc, I.cell, I.free, I.freeC, I.pin, I.hok, I.len⟩
theorem Inv.unwish (I : Inv (X.wish E) pins σ H s) : Inv X pins σ H s := ⟨I.ok.unwish, I.os, I.bare, I.base, I.loc, I.cell, I.free, I.freeC, I.pin, I.hok, I.len⟩
theorem SP.unwish {D : Ends} {f : Flow} {s' : Shared} (h : SP (X.wish E) pins D f s') : SP X pins D f s' := by
  cases f with
  | next => obtain ⟨σ', H', I, q⟩ := h; exact ⟨σ', H', I.unwish, q⟩
  | brk => obtain ⟨σ', H', I, q⟩ := h; exact ⟨σ', H', I.unwish, q⟩
  | cont => obtain ⟨σ', H', I, q⟩ := h; exact ⟨σ', H', I.unwish, q⟩
  | ret u => obtain ⟨v, σ', H', I, r, q⟩ := h; exact ⟨v, σ', H', I.unwish, r, q⟩
theorem PSs.nox {st : List Stmt} {t : TS} (h : PSs X.nox st t) : PSs X st t := fun pins s σ H D I hw =>
  wpAny_mono (h pins s σ H D (I.wish _) hw) (fun _ _ q => q.unwish) fun _ _ z => False.elim z
end

/-! ### blocks and small statements -/
section
variable {X : Cx} {st : Stmt} {rest : List Stmt} {t u : TS} {e : Expr} {te : TE} {pos : Pos}
def tNext : TS := fun D σ H => D.nx σ H
def tSeq (t u : TS) : TS := fun D σ H => t { D with nx := u D } σ H
theorem pss_nil : PSs X [] tNext := fun _ _ σ H _ I h => wpAny_execs_nil ⟨σ, H, I, h⟩
theorem pss_cons (h1 : PS X st t) (h2 : PSs X rest u) : PSs X (st :: rest) (tSeq t u) := by
  intro pins s σ H D I h
  refine wpAny_execs_cons (thn (h1 pins s σ H { D with nx := u D } I h) fun f s1 q => ?_)
  cases f with
  | next =>
    obtain ⟨σ', H', I', q⟩ := q
    exact h2 pins s1 σ' H' D I' q
  | ret v => exact q
  | brk => exact q
  | cont => exact q
theorem pss_one (h1 : PS X st t) : PSs X [st] t := by
  intro pins s σ H D I h
  refine wpAny_execs_cons (thn (h1 pins s σ H D I h) fun f s1 q => ?_)
  cases f with
  | next => exact wpAny_execs_nil q
  | ret v => exact q
  | brk => exact q
  | cont => exact q
/-- in a def's body nothing is shown -/
theorem Inv.quiet {pins : List (Addr × Obj)} {σ : St} {H : Hp} {s : Shared} (I : Inv X pins σ H s) : interactive X.env = false := by simp [interactive, I.ok.kind]
/-- an expression whose value is dropped -/
def tDrop (te : TE) : TS := fun D σ H => te σ H fun _ H1 => D.nx σ H1
theorem ps_expr (he : PE X e te) (hs : swapsWith e none pos.line X.env = pure false := by rfl) : PS X (.Expr e pos) (tDrop te) := by
  intro pins s σ H D I h
  exact wpAny_Expr_any (thn (he pins s σ H _ I h) fun v s1 ⟨x, H1, I1, r1, q1⟩ => ⟨σ, H1, I1, q1⟩) I.quiet hs
def tRet (te : TE) : TS := fun D σ H => te σ H D.rt
theorem ps_ret (he : PE X e te) : PS X (.Return (some e) pos) (tRet te) := by
  intro pins s σ H D I h
  exact wpAny_Return_some (thn (he pins s σ H _ I h) fun v s1 ⟨x, H1, I1, r1, q1⟩ => ⟨x, σ, H1, I1, r1, q1⟩)
def tIfS (c : TT) (t u : TS) : TS := fun D σ H => c σ H fun b H1 => if b = true then t D σ H1 else u D σ H1
theorem ps_if {c : Expr} {a b : List Stmt} {tc : TT} (hc : PT X c tc) (ha : PSs X a t) (hb : PSs X b u) : PS X (.If c a b pos) (tIfS tc t u) := by
  intro pins s σ H D I h
  refine wpAny_If (thn (hc pins s σ H _ I h) fun d s1 ⟨H1, I1, q1⟩ => ?_)
  cases d with
  | true => exact ha pins s1 σ H1 D I1 q1
  | false => exact hb pins s1 σ H1 D I1 q1
/-- code that the proof never comes to -/
def tNever : TS := fun _ _ _ => False
theorem pss_never {sts : List Stmt} : PSs X sts tNever := fun _ _ _ _ _ _ h => h.elim
end

/-! ### targets -/
abbrev TG := V → St → Hp → (St → Hp → Prop) → Prop
abbrev TGs := List V → St → Hp → (St → Hp → Prop) → Prop
def PG (X : Cx) (target : Expr) (t : TG) : Prop :=
  ∀ (pins : List (Addr × Obj)) (s : Shared) (σ : St) (H : Hp) (v : V) (u : Value) (Q : St → Hp → Prop), Inv X pins σ H s → RelV v u → t v σ H Q →
    wpAny (model X.prog X.w) X.A (assign target X.env u) (fun _ s' => ∃ σ' H', Inv X pins σ' H' s' ∧ Q σ' H') X.xe s
/-- several targets, one after another -/
def PGs (X : Cx) (ts : List Expr) (t : TGs) : Prop :=
  ∀ (pins : List (Addr × Obj)) (s : Shared) (σ : St) (H : Hp) (vs : List V) (us : List Value) (Q : St → Hp → Prop), Inv X pins σ H s → Vals vs us → t vs σ H Q →
    wpAny (model X.prog X.w) X.A (assignInOrder ((assignEach ts X.env).map (·.2)) us) (fun _ s' => ∃ σ' H', Inv X pins σ' H' s' ∧ Q σ' H') X.xe s
/-- a op= b, by values -/
abbrev TIp := V → V → Hp → VK → Prop
def PIp (X : Cx) (op : Operator) (t : TIp) : Prop :=
  ∀ (pins : List (Addr × Obj)) (s : Shared) (σ : St) (H : Hp) (x y : V) (v u : Value) (Q : VK), Inv X pins σ H s → RelV x v → RelV y u → t x y H Q →
    wpAny (model X.prog X.w) X.A (inplaceOp op v u) (EP X pins σ Q) X.xe s
section
variable {X : Cx} {pos : Pos}
def gName (i : Nat) : TG := fun v σ H Q => Q (σ.set i (some v)) H
theorem pg_name {i : Nat} {x : Str} (hN : X.N.Nodup) (hi : X.N[i]? = some x) (hx : Loc X.env.scope x) (hf : X.fn x = true ∨ X.env.scope.names.lookup x = some .local := by first | exact .inl rfl | exact .inr rfl | assumption) : PG X (.Name x pos) (gName i) := by
  intro pins s σ H v u Q I r h
  exact wpAny_assign_Name (store_ok I hN hi hx r (fun s' I' => ⟨_, H, I', h⟩) hf)
def gNil : TGs := fun vs σ H Q => vs = [] ∧ Q σ H
def gCons (t : TG) (u : TGs) : TGs := fun vs σ H Q => ∃ v r, vs = v :: r ∧ t v σ H fun σ' H' => u r σ' H' Q
theorem pgs_nil : PGs X [] gNil := by
  intro pins s σ H vs us Q I r h
  obtain ⟨e, h⟩ := h
  subst e
  cases r
  exact assignInOrder_nil ⟨σ, H, I, h⟩
theorem pgs_cons {e : Expr} {es : List Expr} {t : TG} {u : TGs} (h1 : PG X e t) (h2 : PGs X es u)
    (hs : (assignEach (e :: es) X.env).map (·.2) = assign e X.env :: (assignEach es X.env).map (·.2) := by rfl) : PGs X (e :: es) (gCons t u) := by
  intro pins s σ H vs us Q I r h
  obtain ⟨v, vr, e1, h⟩ := h
  subst e1
  cases r with
  | cons r rr =>
    rw [hs]
    refine assignInOrder_cons (thn (h1 pins s σ H _ _ _ I r h) fun _ s1 ⟨σ1, H1, I1, q1⟩ => ?_)
    exact h2 pins s1 σ1 H1 _ _ Q I1 rr q1
/-- (a, b, ..) = a tuple of that length -/
def gTup (K : PySem.W.Frag) (n : Nat) (t : TGs) : TG := fun v σ H Q => ∃ a xs, v = .ref a ∧ SqT K H a xs ∧ xs.length = n ∧ t xs σ H Q
theorem pg_tup {es : List Expr} {k : Nat} {t : TGs} {n : Nat} (hc : X.calm = true) (h : PGs X es t)
    (hn : (assignEach es X.env).length = n := by rfl) (hst : (assignEach es X.env).findIdx? (·.1) = none := by rfl) : PG X (.Tuple es k pos) (gTup X.K n t) := by
  intro pins s σ H v u Q I r hw
  obtain ⟨a, xs, e1, hq, hl, hw⟩ := hw
  subst e1
  cases r
  obtain ⟨its, rv, ht, hz⟩ := I.tuple hq
  refine assign_Tuple_tuple (I.ok.hd hc) ht (by simp [hn, ← hl, rv.length]) hst fun h' hx => ?_
  have I1 : Inv X pins σ H { s with heap := h' } := I.kept (t' := s.toks) fun b o e => hx b o (Nat.ne_of_lt (Heap.lt_size e)) e
  exact h pins _ σ H xs _ Q I1 (by simpa using rv) hw
/-- target = value -/
def tAsg (te : TE) (g : TG) : TS := fun D σ H => te σ H fun x H1 => g x σ H1 D.nx
theorem ps_asg {tg e : Expr} {te : TE} {g : TG} (he : PE X e te) (hg : PG X tg g) (hs : swapsWithSole [tg] e pos.line X.env = pure false := by rfl) (hw : swappedStores [tg] e X.env = pure none := by rfl)
    (h1 : (assignEach [tg] X.env).map (·.2) = [assign tg X.env] := by rfl) : PS X (.Assign [tg] e pos) (tAsg te g) := by
  intro pins s σ H D I h
  refine wpAny_Assign_stores (thn (he pins s σ H _ I h) fun v s1 ⟨x, H1, I1, r1, q1⟩ => ?_) hs hw
  rw [h1]
  exact thn (hg pins s1 σ H1 x v _ I1 r1 q1) fun _ s2 q => q
/-- name = value -/
theorem ps_set {i : Nat} {x : Str} {e : Expr} {te : TE} {pos' : Pos} (hN : X.N.Nodup) (hi : X.N[i]? = some x) (hx : Loc X.env.scope x) (he : PE X e te) (hs : swapsWith e (some (.Name x pos')) pos.line X.env = pure false := by rfl) (hf : X.fn x = true ∨ X.env.scope.names.lookup x = some .local := by first | exact .inl rfl | exact .inr rfl | assumption) :
    PS X (.Assign [.Name x pos'] e pos) (tAsg te (gName i)) := by
  intro pins s σ H D I h
  refine wpAny_Assign_Name (thn (he pins s σ H _ I h) fun v s1 ⟨y, H1, I1, r1, q1⟩ => ?_) hs
  exact store_ok I1 hN hi hx r1 (fun s2 I2 => ⟨_, H1, I2, q1⟩) hf
/-- a, b = x, y with plain local names: stored from the right; the pair itself is not tracked (the opening rows as in PyProof/Rows/TupAssign.lean:23) -/
def tPar (i j : Nat) (ta : TA) : TS := fun D σ H => ta σ H fun vs H1 => ∃ v w, vs = [v, w] ∧ D.nx ((σ.set i (some v)).set j (some w)) H1
theorem ps_par {i j : Nat} {x y : Str} {a b : Expr} {ta : TA} {px py pt : Pos} {kt k2 pt2} (hc : X.calm = true) (hN : X.N.Nodup) (hi : X.N[i]? = some x) (hj : X.N[j]? = some y) (hij : i ≠ j)
    (hx : X.env.scope.names.lookup x = some .local) (hy : X.env.scope.names.lookup y = some .local) (ha : PA X [a, b] ta)
    (hw : swappedStores [.Tuple [.Name x px, .Name y py] kt pt] (.Tuple [a, b] k2 pt2) X.env = pure (some [x, y]))
    (hs : swapsWithSole [.Tuple [.Name x px, .Name y py] kt pt] (.Tuple [a, b] k2 pt2) pos.line X.env = pure false := by rfl) :
    PS X (.Assign [.Tuple [.Name x px, .Name y py] kt pt] (.Tuple [a, b] k2 pt2) pos) (tPar i j ta) := by
  intro pins s σ H D I h
  rw [exec_Assign_arm]
  refine wpAny_bind (wpAny_standAt ?_)
  rw [hs]
  refine wpAny_bind (wpAny_pure ?_)
  rw [if_neg (by decide)]
  refine wpAny_bind (Tuple_ (thn (ha _ pins s σ H _ I h) fun us s1 ⟨vs, H1, I1, r1, q1⟩ => ?_))
  obtain ⟨v, w, e1, q1⟩ := q1
  subst e1
  obtain ⟨u1, u2, rfl, rv, rw'⟩ : ∃ u1 u2, us = [u1, u2] ∧ RelV v u1 ∧ RelV w u2 := by
    cases r1 with
    | cons p q =>
      cases q with
      | cons p' q' =>
        cases q'
        exact ⟨_, _, rfl, p, p'⟩
  refine wpAny_newObj_type ?_ (by show 2 ≤ sizeLine; decide)
  have I2 : Inv X pins σ H1 { s1 with heap := s1.heap.push { cls := .type "tuple", data := .seq [u1, u2].toArray } } := I1.kept (t' := s1.toks) fun b o e => Heap.get?_push_of_some _ e
  rw [hw]
  refine wpAny_bind (wpAny_pure ?_)
  show wpAny (model X.prog X.w) X.A (do rule "assign.swapped-stores"; let items ← unpackItems (.ref s1.heap.objs.size) 2 none; assignInOrder [fun v => bindName X.env y v, fun v => bindName X.env x v] items.reverse; pure Flow.next) _ _ _
  refine wpAny_bind (wpAny_rule (wpAny_bind (unpackItems_tuple (items := #[u1, u2]) (I.ok.hd hc) (IsTup.new s1.heap _) fun h' hx' => ?_)))
  have I3 := I2.kept (h' := h') (t' := s1.toks) fun b o e => hx' b o (Nat.ne_of_lt (Heap.lt_size e)) e
  show wpAny _ _ (assignInOrder [fun v => bindName X.env y v, fun v => bindName X.env x v] [u2, u1] >>= fun _ => pure Flow.next) _ _ _
  refine wpAny_bind (assignInOrder_cons (wpAny_bindName (store_ok I3 hN hj (.inl hy) rw' (fun s2 I4 => ?_) (.inr hy))))
  refine assignInOrder_cons (wpAny_bindName (store_ok I4 hN hi (.inl hx) rv (fun s3 I5 => assignInOrder_nil (wpAny_pure ?_)) (.inr hx)))
  rw [List.set_comm _ _ (Ne.symm hij)] at I5
  exact ⟨_, H1, I5, q1⟩
/-- name op= e -/
def tAug (i : Nat) (te : TE) (ti : TIp) : TS := fun D σ H => ∃ x, σ[i]? = some (some x) ∧ te σ H fun y H1 => ti x y H1 fun z H2 => D.nx (σ.set i (some z)) H2
theorem ps_aug {i : Nat} {x : Str} {e : Expr} {te : TE} {op : Operator} {ti : TIp} {pos' : Pos} (hN : X.N.Nodup) (hi : X.N[i]? = some x) (hx : Loc X.env.scope x) (he : PE X e te) (ho : PIp X op ti) (hf : X.fn x = true ∨ X.env.scope.names.lookup x = some .local := by first | exact .inl rfl | exact .inr rfl | assumption) :
    PS X (.AugAssign (.Name x pos') op e pos) (tAug i te ti) := by
  intro pins s σ H D I h
  obtain ⟨v, e1, h⟩ := h
  obtain ⟨m, hn, hl⟩ := I.loc
  have vis : Vis X.env.scope x := by rcases hx with k | k; exact .inl k; exact .inr (.inl k)
  obtain ⟨u, r, l⟩ := hl i x v hi e1 vis
  refine wpAny_AugAssign_Name ?_
  have go : wpAny (model X.prog X.w) X.A (eval e X.env) (fun w s₂ => wpAny (model X.prog X.w) X.A (inplaceOp op u w) (fun r s₃ => wpAny (model X.prog X.w) X.A (storeName X.env x r) (fun _ => SP X pins D .next) X.xe s₃) X.xe s₂) X.xe s := by
    refine thn (he pins s σ H _ I h) fun w s1 ⟨y, H1, I1, r1, q1⟩ => ?_
    refine thn (ho pins s1 σ H1 v y u w _ I1 r r1 q1) fun z s2 ⟨zv, H2, I2, r2, q2⟩ => ?_
    exact store_ok I2 hN hi hx r2 (fun s3 I3 => ⟨_, H2, I3, q2⟩) hf
  rcases l with ⟨hk, hm⟩ | ⟨hk, c, hc, hcell⟩
  · exact wpAny_loadName_local I.ok.kind hk hn hm go
  · rcases hk with hk | hk
    · exact wpAny_loadName_cell I.ok.kind hk hc hcell go
    · rcases hx with k | k
      · have : X.env.scope.names.lookup x = some .free := hk
        rw [k] at this; cases this
      · have : X.env.scope.names.lookup x = some .free := hk
        rw [k] at this; cases this
/-- ints -/
def ipI (f : Int → Int → Int) : TIp := fun x y H Q => ∃ i j, x = .int i ∧ y = .int j ∧ Q (.int (f i j)) H
theorem ip_add : PIp X .Add (ipI fun i j => i + j) := by
  intro pins s σ H x y v u Q I r1 r2 h
  obtain ⟨i, j, e1, e2, q⟩ := h
  subst e1; subst e2
  obtain ⟨t, rfl⟩ := r1
  obtain ⟨t', rfl⟩ := r2
  exact iadd_int ⟨.int _, H, I.tok _, ⟨_, rfl⟩, q⟩
theorem ip_sub : PIp X .Sub (ipI fun i j => i - j) := by
  intro pins s σ H x y v u Q I r1 r2 h
  obtain ⟨i, j, e1, e2, q⟩ := h
  subst e1; subst e2
  obtain ⟨t, rfl⟩ := r1
  obtain ⟨t', rfl⟩ := r2
  exact isub_int ⟨.int _, H, I.tok _, ⟨_, rfl⟩, q⟩
end

/-! ### while -/
section
variable {X : Cx} {pos : Pos}
/-- the invariant W with its measure -/
def tWhile (c : TT) (tb : TS) : TS := fun D σ H => ∃ W : Nat → St → Hp → Prop, (∃ m, W m σ H) ∧ ∀ m σ H, W m σ H →
  c σ H fun b H1 => if b = true then ∃ N : St → Hp → Prop, (∀ σ' H', N σ' H' → ∃ m', m' < m ∧ W m' σ' H') ∧ tb { D with nx := N, ct := N, bk := D.nx } σ H1 else D.nx σ H1
theorem ps_while {c : Expr} {body : List Stmt} {tc : TT} {tb : TS} (hp : PassesOwn (model X.prog X.w) X.A X.env X.xe) (hc : PT X c tc) (hb : PSs X body tb) : PS X (.While c body [] pos) (tWhile tc tb) := by
  intro pins s σ H D I h
  obtain ⟨W, ⟨m0, w0⟩, turn⟩ := h
  refine wpAny_While (codeAny_whileLoop (fun n s' => ∃ σ' H', Inv X pins σ' H' s' ∧ W n σ' H') ?_ m0 ⟨σ, H, I, w0⟩)
  rintro n s1 ⟨σ1, H1, I1, w1⟩
  refine wpAny_passesOwn hp (thn (hc pins s1 σ1 H1 _ I1 (turn n σ1 H1 w1)) fun b s2 ⟨H2, I2, q2⟩ => ?_)
  cases b with
  | true =>
    obtain ⟨N, hN, q2⟩ := q2
    rw [if_pos rfl]
    refine wpAny_passesOwn hp (thn (hb pins s2 σ1 H2 _ I2 q2) fun f s3 q3 => ?_)
    cases f with
    | next =>
      obtain ⟨σ3, H3, I3, n3⟩ := q3
      obtain ⟨m', hm, w3⟩ := hN σ3 H3 n3
      exact ⟨m', hm, σ3, H3, I3, w3⟩
    | cont =>
      obtain ⟨σ3, H3, I3, n3⟩ := q3
      obtain ⟨m', hm, w3⟩ := hN σ3 H3 n3
      exact ⟨m', hm, σ3, H3, I3, w3⟩
    | brk => exact q3
    | ret v => exact q3
  | false =>
    rw [if_neg Bool.false_ne_true]
    exact wpAny_execs_nil ⟨σ1, H2, I2, q2⟩
end

/-! ### what a loop or a comprehension walks -/
/-- at turn i: it yields x (the heap may grow), or it stops -/
structure It where
  go : Nat → Hp → Prop
  yld : Nat → Hp → V → Hp → Prop
  stop : Nat → Hp → Prop
/-- the iterator's own objects may turn: they are not the frame's, not pinned, younger than the entry (or a comprehension's own) -/
def FpOk (X : Cx) (pins : List (Addr × Obj)) (H : Hp) (b : Addr) : Prop :=
  H b = none ∧ b ≠ X.env.locals ∧ b ∉ X.fs ∧ (b ∈ X.ex ∨ X.s₀.heap.objs.size ≤ b) ∧ (∀ x c, X.env.cells.lookup x = some c → c ≠ b) ∧ ∀ p ∈ X.pn ++ pins, p.1 ≠ b
theorem Inv.fpOk {X : Cx} {pins : List (Addr × Obj)} {σ : St} {H H' : Hp} {s : Shared} {b : Addr} (I : Inv X pins σ H s) (hb : s.heap.objs.size ≤ b) (hn : H' b = none) : FpOk X pins H' b := by
  refine ⟨hn, Nat.ne_of_gt (Nat.lt_of_lt_of_le I.lt hb), I.nofs hb, .inr (Nat.le_trans I.sz hb), fun x c e z => ?_, fun p hp z => ?_⟩
  · obtain ⟨v, q⟩ := I.cell x c e
    exact absurd (Nat.lt_of_lt_of_le q.lt (by rw [z]; exact hb)) (Nat.lt_irrefl _)
  · exact absurd (Nat.lt_of_lt_of_le (Heap.lt_size (I.pin p hp).1) (by rw [z]; exact hb)) (Nat.lt_irrefl _)
structure Turn (P : Program) (w : World) (K : PySem.W.Frag) (tg : Expr) (J : It) (fp : List Addr) (it : Addr) (tn : Nat → Heap → Prop) : Prop where
  mem : it ∈ fp
  obj : ∀ i h, tn i h → ∀ b ∈ fp, ∃ o, h.get? b = some o ∧ ∀ v, o.data ≠ .cell v
  keep : ∀ i h h', tn i h → (∀ b ∈ fp, ∀ o, h.get? b = some o → h'.get? b = some o) → tn i h'
  item : ∀ (X : Cx), X.prog = P → X.w = w → X.K = K → X.calm = true → ∀ (i : Nat) (pins : List (Addr × Obj)) (s : Shared) (σ : St) (H : Hp) (E : Value → Shared → Prop), Inv X pins σ H s → (∀ b ∈ fp, FpOk X pins H b) → tn i s.heap → J.go i H →
    wpAny (model P w) X.A (pyNext (.ref it)) (fun r s1 => ∃ u, r = some u ∧
      wpAny (model P w) X.A (letOwnedTupleGo tg (.ref it) u) (fun _ s2 => ∃ x H', Inv X pins σ H' s2 ∧ RelV x u ∧ J.yld i H x H' ∧ tn (i + 1) s2.heap ∧ ∀ b ∈ fp, H' b = none) E s1) E s
  done : ∀ (X : Cx), X.prog = P → X.w = w → X.K = K → X.calm = true → ∀ (i : Nat) (pins : List (Addr × Obj)) (s : Shared) (σ : St) (H : Hp) (E : Value → Shared → Prop), Inv X pins σ H s → (∀ b ∈ fp, FpOk X pins H b) → tn i s.heap → J.stop i H →
    wpAny (model P w) X.A (pyNext (.ref it)) (fun r s1 => r = none ∧ Inv X pins σ H s1) E s
  self : ∀ (A : Around) (i : Nat) (s : Shared) (Q : Value → Shared → Prop) (E : Value → Shared → Prop), tn i s.heap → Q (.ref it) s → wpAny (model P w) A (pyIter (.ref it)) Q E s
abbrev TI := St → Hp → (It → Hp → Prop) → Prop
/-- an iterator has come -/
def PIE (X : Cx) (pins : List (Addr × Obj)) (σ : St) (tg : Expr) (R : It → Hp → Prop) (itv : Value) (s2 : Shared) : Prop :=
  ∃ (it : Addr) (fp : List Addr) (tn : Nat → Heap → Prop) (J : It) (H' : Hp), itv = .ref it ∧ Inv X pins σ H' s2 ∧ Turn X.prog X.w X.K tg J fp it tn ∧ tn 0 s2.heap ∧ (∀ b ∈ fp, FpOk X pins H' b) ∧ R J H'
def PI (X : Cx) (tg iter : Expr) (wi : TI) : Prop :=
  ∀ (pins : List (Addr × Obj)) (s : Shared) (σ : St) (H : Hp) (R : It → Hp → Prop), Inv X pins σ H s → wi σ H R →
    wpAny (model X.prog X.w) X.A (eval iter X.env) (fun v s1 => wpAny (model X.prog X.w) X.A (pyIter v) (PIE X pins σ tg R) X.xe s1) X.xe s

/-- the step ahead of the store is nothing for an iterator that keeps no tuple -/
theorem go_of {M : Model} {A : Around} {E : Value → Shared → Prop} {s : Shared} {tg : Expr} {it : Addr} {u : Value} {o : Obj} {n : String} {vs : Array Value} {Q : Unit → Shared → Prop} (ho : s.heap.get? it = some o) (hc : o.cls = .type n) (hd : o.data = .fields vs)
    (hn : ["enumerate", "zip", "dict_itemiterator", "dict_reverseitemiterator", "odict_iterator", "itertools.zip_longest", "itertools.pairwise"].contains n = false) (hQ : Q () s) : wpAny M A (letOwnedTupleGo tg (.ref it) u) Q E s := by
  unfold letOwnedTupleGo
  cases tg <;> first
    | exact wpAny_pure hQ
    | (cases u <;> first
        | exact wpAny_pure hQ
        | (refine wpAny_bind (wpAny_load ho ?_)
           rw [hc, hd]
           show wpAny M A (if (["enumerate", "zip", "dict_itemiterator", "dict_reverseitemiterator", "odict_iterator", "itertools.zip_longest", "itertools.pairwise"].contains n && vs[0]? == some (rawInt _)) = true then _ else _) Q E s
           rw [if_neg (by intro h; rw [hn, Bool.false_and] at h; cases h)]
           exact wpAny_pure hQ))

/-- the list at a, as it stands at each turn (a loop may append to it) -/
def Itl (K : PySem.W.Frag) (a : Addr) : It :=
  ⟨fun i H => ∃ xs x, SqL K H a xs ∧ xs[i]? = some x, fun i H x H' => H' = H ∧ ∀ xs, SqL K H a xs → xs[i]? = some x, fun i H => ∃ xs, SqL K H a xs ∧ xs.length ≤ i⟩
def Itt (K : PySem.W.Frag) (a : Addr) : It :=
  ⟨fun i H => ∃ xs x, SqT K H a xs ∧ xs[i]? = some x, fun i H x H' => H' = H ∧ ∀ xs, SqT K H a xs → xs[i]? = some x, fun i H => ∃ xs, SqT K H a xs ∧ xs.length ≤ i⟩
/-- lo, lo + 1, .. (n of them) -/
def Itr (lo : Int) (n : Nat) : It := ⟨fun i _ => i < n, fun i H x H' => H' = H ∧ x = .int (lo + i), fun i _ => n ≤ i⟩
theorem turn_list {P : Program} {w : World} {K : PySem.W.Frag} {tg : Expr} (a it : Addr) : Turn P w K tg (Itl K a) [it] it (fun i h => h.IsListIter it a i) where
  mem := by simp
  obj := fun i h st b hb => by
    have e : b = it := by simpa using hb
    subst e
    obtain ⟨o, e, c, d⟩ := st
    exact ⟨o, e, fun v z => by rw [d] at z; cases z⟩
  keep := fun i h h' st k => st.at fun o e => k it (by simp) o e
  item := by
    intro X hP hw hK hc i pins s σ H E I hf st hg
    subst hP hw hK
    obtain ⟨xs, x, hq, hx⟩ := hg
    obtain ⟨its, rv, p, hz⟩ := I.list hq
    obtain ⟨u, hu, ru⟩ := rv.get hx
    obtain ⟨f0, f1, f2, f3, f4, f5⟩ := hf it (by simp)
    refine wpAny_pyNext_list_item st p.isList (x := u) (by simpa using hu) fun h' st' sb => ?_
    have I1 : Inv X pins σ H { s with heap := h' } := I.turned (t' := s.toks) (fun b o hb e => (sb.2 b hb).trans e) f0 f1 f3 f4 f5
    obtain ⟨o, e, c, d⟩ := id st'
    exact ⟨u, rfl, go_of (s := { s with heap := h' }) e c d (by decide) ⟨x, H, I1, ru, ⟨rfl, fun ys hy => by rw [I.list_inj hy hq]; exact hx⟩, st', fun b hb => (hf b hb).1⟩⟩
  done := by
    intro X hP hw hK hc i pins s σ H E I hf st hg
    subst hP hw hK
    obtain ⟨xs, hq, hx⟩ := hg
    obtain ⟨its, rv, p, hz⟩ := I.list hq
    obtain ⟨f0, f1, f2, f3, f4, f5⟩ := hf it (by simp)
    have hl := rv.length
    exact wpAny_pyNext_list_end (I.ok.hd hc) st p.isList (by simp; omega) fun h' eb => ⟨rfl, I.turned (t' := s.toks) (fun b o hb e => eb b o hb e) f0 f1 f3 f4 f5⟩
  self := fun _ _ _ _ _ st h => wpAny_pyIter_listiter st h
theorem turn_tuple {P : Program} {w : World} {K : PySem.W.Frag} {tg : Expr} (a it : Addr) : Turn P w K tg (Itt K a) [it] it (fun i h => h.IsTupleIter it a i) where
  mem := by simp
  obj := fun i h st b hb => by
    have e : b = it := by simpa using hb
    subst e
    obtain ⟨o, e, c, d⟩ := st
    exact ⟨o, e, fun v z => by rw [d] at z; cases z⟩
  keep := fun i h h' st k => st.at fun o e => k it (by simp) o e
  item := by
    intro X hP hw hK hc i pins s σ H E I hf st hg
    subst hP hw hK
    obtain ⟨xs, x, hq, hx⟩ := hg
    obtain ⟨its, rv, p, hz⟩ := I.tuple hq
    obtain ⟨u, hu, ru⟩ := rv.get hx
    obtain ⟨f0, f1, f2, f3, f4, f5⟩ := hf it (by simp)
    refine wpAny_pyNext_tuple_item st (show s.heap.IsTuple a its.toArray from p) (x := u) (by simpa using hu) fun h' st' sb => ?_
    have I1 : Inv X pins σ H { s with heap := h' } := I.turned (t' := s.toks) (fun b o hb e => (sb.2 b hb).trans e) f0 f1 f3 f4 f5
    obtain ⟨o, e, c, d⟩ := id st'
    exact ⟨u, rfl, go_of (s := { s with heap := h' }) e c d (by decide) ⟨x, H, I1, ru, ⟨rfl, fun ys hy => by rw [I.tuple_inj hy hq]; exact hx⟩, st', fun b hb => (hf b hb).1⟩⟩
  done := by
    intro X hP hw hK hc i pins s σ H E I hf st hg
    subst hP hw hK
    obtain ⟨xs, hq, hx⟩ := hg
    obtain ⟨its, rv, p, hz⟩ := I.tuple hq
    obtain ⟨f0, f1, f2, f3, f4, f5⟩ := hf it (by simp)
    have hl := rv.length
    exact wpAny_pyNext_tuple_end (I.ok.hd hc) st (show s.heap.IsTuple a its.toArray from p) (by simp; omega) fun h' eb => ⟨rfl, I.turned (t' := s.toks) (fun b o hb e => eb b o hb e) f0 f1 f3 f4 f5⟩
  self := fun _ _ _ _ _ st h => wpAny_pyIter_tupleiter st h
theorem turn_range {P : Program} {w : World} {K : PySem.W.Frag} {tg : Expr} (it : Addr) (lo : Int) (n : Nat) : Turn P w K tg (Itr lo n) [it] it (fun i h => IsRangeIter h it (lo + (i : Nat) * 1) ((n : Int) - (i : Nat)) 1) where
  mem := by simp
  obj := fun i h st b hb => by
    have e : b = it := by simpa using hb
    subst e
    exact ⟨_, st, fun v z => by
      have z' : Data.fields _ = Data.cell v := z
      cases z'⟩
  keep := fun i h h' st k => k it (by simp) _ st
  item := by
    intro X hP hw hK hc i pins s σ H E I hf st hg
    subst hP hw hK
    obtain ⟨f0, f1, f2, f3, f4, f5⟩ := hf it (by simp)
    have W := Walks.range (prog := X.prog) (w := X.w) (I.ok.hd hc) it lo 1 n
    refine W.item i s _ _ hg st fun v h' tk hv st' kk => ?_
    obtain ⟨t, rfl⟩ := hv
    have I1 : Inv X pins σ H { s with heap := h', toks := tk } := I.turned (fun b o hb e => kk b o (by simpa using hb) e) f0 f1 f3 f4 f5
    refine ⟨_, rfl, go_of (s := { s with heap := h', toks := tk }) (n := "range_iterator") st' rfl rfl (by decide) ⟨.int (lo + i), H, I1, ⟨t, ?_⟩, ⟨rfl, rfl⟩, st', fun b hb => (hf b hb).1⟩⟩
    rw [Int.mul_one]
  done := by
    intro X hP hw hK hc i pins s σ H E I hf st hg
    subst hP hw hK
    obtain ⟨f0, f1, f2, f3, f4, f5⟩ := hf it (by simp)
    exact wpAny_pyNext_range_end (I.ok.hd hc) st (by have : n ≤ i := hg; omega) fun h' eb => ⟨rfl, I.turned (t' := s.toks) (fun b o hb e => eb b o hb e) f0 f1 f3 f4 f5⟩
  self := fun _ _ _ _ _ st h => wpAny_pyIter_rangeiter st h
end L2

namespace L2
open PySem PySem.Spec PyProof.Rows
section
variable {X : Cx} {tg : Expr}
def iList (K : PySem.W.Frag) (tl : TE) : TI := fun σ H R => tl σ H fun x H1 => ∃ a, x = .ref a ∧ (∃ xs, SqL K H1 a xs) ∧ R (Itl K a) H1
def iTup (K : PySem.W.Frag) (tl : TE) : TI := fun σ H R => tl σ H fun x H1 => ∃ a, x = .ref a ∧ (∃ xs, SqT K H1 a xs) ∧ R (Itt K a) H1
theorem pi_list {l : Expr} {tl : TE} (hl : PE X l tl) : PI X tg l (iList X.K tl) := by
  intro pins s σ H R I h
  refine thn (hl pins s σ H _ I h) fun v s1 ⟨x, H1, I1, r1, q1⟩ => ?_
  obtain ⟨a, e, ⟨xs, hq⟩, q⟩ := q1
  subst e
  cases r1
  obtain ⟨its, rv, p, hz⟩ := I1.list hq
  refine wpAny_pyIter_list p.isList ?_
  refine ⟨s1.heap.objs.size, [s1.heap.objs.size], _, _, H1, rfl, I1.kept (t' := s1.toks) fun b o e => Heap.get?_push_of_some _ e, turn_list a _, ⟨_, Heap.get?_push_size _ rfl, rfl, rfl⟩, fun b hb => ?_, q⟩
  have e : b = s1.heap.objs.size := by simpa using hb
  subst e
  exact I1.fpOk (Nat.le_refl _) (I1.hok.fresh (Nat.le_refl _))
theorem pi_tup {l : Expr} {tl : TE} (hl : PE X l tl) : PI X tg l (iTup X.K tl) := by
  intro pins s σ H R I h
  refine thn (hl pins s σ H _ I h) fun v s1 ⟨x, H1, I1, r1, q1⟩ => ?_
  obtain ⟨a, e, ⟨xs, hq⟩, q⟩ := q1
  subst e
  cases r1
  obtain ⟨its, rv, p, hz⟩ := I1.tuple hq
  refine wpAny_pyIter_tuple (show s1.heap.IsTuple a its.toArray from p) ?_
  refine ⟨s1.heap.objs.size, [s1.heap.objs.size], _, _, H1, rfl, I1.kept (t' := s1.toks) fun b o e => Heap.get?_push_of_some _ e, turn_tuple a _, ⟨_, Heap.get?_push_size _ rfl, rfl, rfl⟩, fun b hb => ?_, q⟩
  have e : b = s1.heap.objs.size := by simpa using hb
  subst e
  exact I1.fpOk (Nat.le_refl _) (I1.hok.fresh (Nat.le_refl _))
/-- a range object just made, walked -/
theorem range_it {pins : List (Addr × Obj)} {σ : St} {H : Hp} {s : Shared} {R : It → Hp → Prop} {E : Value → Shared → Prop} {lo hi : Int} {t u v : Tok} {tk : Nat} (I : Inv X pins σ H s) (h1 : -(2 ^ 62) ≤ lo) (h2 : lo < 2 ^ 62) (h3 : -(2 ^ 62) ≤ hi) (h4 : hi < 2 ^ 62)
    (q : R (Itr lo (hi - lo).toNat) H) : wpAny (model X.prog X.w) X.A (pyIter (.ref s.heap.objs.size)) (PIE X pins σ tg R) E { s with heap := s.heap.push { cls := .type "range", data := .fields #[.int lo t, .int hi u, .int 1 v] }, toks := tk } := by
  refine wpAny_pyIter_range (IsRange.new ..) (small_one h1 h2 h3 h4) ?_
  have I1 : Inv X pins σ H { s with heap := s.heap.push { cls := .type "range", data := .fields #[.int lo t, .int hi u, .int 1 v] }, toks := tk } := I.kept fun b o e => Heap.get?_push_of_some _ e
  refine ⟨(s.heap.push { cls := .type "range", data := .fields #[.int lo t, .int hi u, .int 1 v] }).objs.size, [(s.heap.push { cls := .type "range", data := .fields #[.int lo t, .int hi u, .int 1 v] }).objs.size], _, _, H, rfl,
    I1.kept (t' := tk) fun b o e => Heap.get?_push_of_some _ e, turn_range _ lo (hi - lo).toNat, ?_, fun b hb => ?_, q⟩
  · have e1 : lo + ((0 : Nat) : Int) * 1 = lo := by simp
    have e2 : (((hi - lo).toNat : Nat) : Int) - ((0 : Nat) : Int) = Builtin.Range.rangeSize lo hi 1 := by rw [rangeSize_one]; split <;> omega
    show IsRangeIter _ _ (lo + ((0 : Nat) : Int) * 1) ((((hi - lo).toNat : Nat) : Int) - ((0 : Nat) : Int)) 1
    rw [e1, e2]
    exact Heap.get?_push_size _ rfl
  · have e : b = (s.heap.push { cls := .type "range", data := .fields #[.int lo t, .int hi u, .int 1 v] }).objs.size := by simpa using hb
    subst e
    exact I1.fpOk (Nat.le_refl _) (I1.hok.fresh (Nat.le_refl _))
def iRng1 (ta : TA) : TI := fun σ H R => ta σ H fun vs H1 => ∃ j : Int, vs = [.int j] ∧ -(2 ^ 62) ≤ j ∧ j < 2 ^ 62 ∧ R (Itr 0 j.toNat) H1
def iRng2 (ta : TA) : TI := fun σ H R => ta σ H fun vs H1 => ∃ i j : Int, vs = [.int i, .int j] ∧ (-(2 ^ 62) ≤ i ∧ i < 2 ^ 62 ∧ -(2 ^ 62) ≤ j ∧ j < 2 ^ 62) ∧ R (Itr i (j - i).toNat) H1
theorem pi_range1 {a : Expr} {ta : TA} {p pos : Pos} (hg : Gl X "range") (hm : X.mg "range" = none) (ha : PA X [a] ta) (hs : starEach [a] X.env = [(false, eval a X.env)] := by rfl) : PI X tg (.Call (.Name "range" p) [a] [] pos) (iRng1 ta) := by
  intro pins s σ H R I h
  refine Call_ (ld_blt I hg hm boot_range (PyProof.Rows.callWith_type1 (thn (ha pos pins s σ H _ I h) fun us s1 ⟨vs, H1, I1, r1, q1⟩ => ?_) hs rfl))
  obtain ⟨j, e, q1, q2, q⟩ := q1
  subst e
  cases r1 with
  | cons r rr =>
    cases rr
    obtain ⟨t, rfl⟩ := r
    exact call_range_1 (range_it I1 (by omega) (by omega) q1 q2 (by simpa using q))
theorem pi_range2 {a b : Expr} {ta : TA} {p pos : Pos} (hg : Gl X "range") (hm : X.mg "range" = none) (ha : PA X [a, b] ta) (hs : starEach [a, b] X.env = [(false, eval a X.env), (false, eval b X.env)] := by rfl) (hs2 : starEach [b] X.env = [(false, eval b X.env)] := by rfl) :
    PI X tg (.Call (.Name "range" p) [a, b] [] pos) (iRng2 ta) := by
  intro pins s σ H R I h
  refine Call_ (ld_blt I hg hm boot_range (PyProof.Rows.callWith_type1 (thn (ha pos pins s σ H _ I h) fun us s1 ⟨vs, H1, I1, r1, q1⟩ => ?_) (by rw [hs, hs2]) (by rw [hs2]; rfl)))
  obtain ⟨i, j, e, ⟨q1, q2, q3, q4⟩, q⟩ := q1
  subst e
  cases r1 with
  | cons r rr =>
    cases rr with
    | cons r' rr =>
      cases rr
      obtain ⟨t, rfl⟩ := r
      obtain ⟨t', rfl⟩ := r'
      exact call_range_2 (range_it I1 q1 q2 q3 q4 q)

/-! ### for -/
/-- W: the invariant by the turn and a measure; N: what the body is to reach -/
def tFor (wi : TI) (g : TG) (tb : TS) : TS := fun D σ H => wi σ H fun J H1 => ∃ W : Nat → Nat → St → Hp → Prop, (∃ m, W 0 m σ H1) ∧ ∀ i m σ H, W i m σ H →
  (J.stop i H ∧ D.nx σ H) ∨ (J.go i H ∧ ∃ N : St → Hp → Prop, (∀ σ' H', N σ' H' → ∃ m', m' < m ∧ W (i + 1) m' σ' H') ∧ ∀ x H', J.yld i H x H' → g x σ H' fun σ2 H2 => tb { D with nx := N, ct := N, bk := D.nx } σ2 H2)
/-- the records at fp as they stand -/
def pinsAt (fp : List Addr) (h : Heap) : List (Addr × Obj) := fp.filterMap fun b => (h.get? b).map fun o => (b, o)
theorem mem_pinsAt {fp : List Addr} {h : Heap} {b : Addr} {o : Obj} (hb : b ∈ fp) (e : h.get? b = some o) : (b, o) ∈ pinsAt fp h := List.mem_filterMap.mpr ⟨b, hb, by rw [e]; rfl⟩
theorem of_pinsAt {fp : List Addr} {h : Heap} {p : Addr × Obj} (hp : p ∈ pinsAt fp h) : p.1 ∈ fp ∧ h.get? p.1 = some p.2 := by
  obtain ⟨b, hb, e⟩ := List.mem_filterMap.mp hp
  cases q : h.get? b with
  | none => rw [q] at e; cases e
  | some o =>
    rw [q] at e
    have e' : (b, o) = p := Option.some.inj e
    subst e'
    exact ⟨hb, q⟩
theorem Inv.pinned {pins : List (Addr × Obj)} {σ : St} {H : Hp} {s : Shared} {fp : List Addr} (I : Inv X pins σ H s) (hf : ∀ b ∈ fp, FpOk X pins H b) (ho : ∀ b ∈ fp, ∃ o, s.heap.get? b = some o ∧ ∀ v, o.data ≠ .cell v) : Inv X (pins ++ pinsAt fp s.heap) σ H s :=
  I.pins_of fun p hp => (List.mem_append.mp hp).elim (fun z => I.pin p (List.mem_append_right _ z)) fun z => by
    obtain ⟨hb, e⟩ := of_pinsAt z
    obtain ⟨f0, f1, f2, _⟩ := hf p.1 hb
    obtain ⟨o, e', d⟩ := ho p.1 hb
    rw [e] at e'; cases e'
    exact ⟨e, f0, f1, f2, d⟩
theorem Inv.unpinned {pins pl : List (Addr × Obj)} {σ : St} {H : Hp} {s : Shared} (I : Inv X (pins ++ pl) σ H s) : Inv X pins σ H s := I.pins_of fun p hp => I.pin p (List.mem_append_right _ (List.mem_append_left _ hp))
theorem ps_for {iter : Expr} {body : List Stmt} {wi : TI} {g : TG} {tb : TS} {pos : Pos} (hp : PassesOwn (model X.prog X.w) X.A X.env X.xe) (hc : X.calm = true) (hi : PI X tg iter wi) (hg : PG X tg g) (hb : PSs X body tb)
    (hs : ∀ x, foldedSetIterable iter X.env x = pure x := by intro _; rfl) : PS X (.For tg iter body [] pos) (tFor wi g tb) := by
  intro pins s σ H D I h
  refine wpAny_For (thn (hi pins s σ H _ I h) fun v s1 h1 => thn h1 fun itv s2 h2 => ?_) hs
  obtain ⟨it, fp, tn, J, H2, e, I2, T, st2, f2, W, ⟨m0, w0⟩, turn⟩ := h2
  subst e
  -- what stays true of the iterator's objects through the loop
  have stat : ∀ {H' : Hp}, (∀ b ∈ fp, H' b = none) → ∀ b ∈ fp, FpOk X pins H' b := fun hn b hb => ⟨hn b hb, (f2 b hb).2⟩
  refine codeAny_forLoop_any (fun n s' => ∃ i σ' H', Inv X pins σ' H' s' ∧ tn i s'.heap ∧ (∀ b ∈ fp, H' b = none) ∧ W i n σ' H') ?_ m0 ⟨0, σ, H2, I2, st2, fun b hb => (f2 b hb).1, w0⟩
  rintro n s3 ⟨i, σ3, H3, I3, st3, fr3, w3⟩
  rcases turn i n σ3 H3 w3 with ⟨stop, qn⟩ | ⟨go, N, hN, step⟩
  · refine wpAny_passesOwn hp (thn (T.done X rfl rfl rfl hc i pins s3 σ3 H3 X.xe I3 (stat fr3) st3 stop) fun r s4 ⟨hr, I4⟩ => ?_)
    subst hr
    exact wpAny_execs_nil ⟨σ3, H3, I4, qn⟩
  · refine wpAny_passesOwn hp (thn (T.item X rfl rfl rfl hc i pins s3 σ3 H3 X.xe I3 (stat fr3) st3 go) fun r s4 ⟨u, hr, h4⟩ => ?_)
    subst hr
    refine wpAny_passesOwn hp (thn h4 fun _ s5 ⟨x, H5, I5, r5, y5, st5, fr5⟩ => ?_)
    have I5' := I5.pinned (stat fr5) (T.obj _ _ st5)
    refine wpAny_passesOwn hp (thn (hg _ s5 σ3 H5 x u _ I5' r5 (step x H5 y5)) fun _ s6 ⟨σ6, H6, I6, q6⟩ => ?_)
    refine wpAny_passesOwn hp (thn (hb _ s6 σ6 H6 _ I6 q6) fun f s7 q7 => ?_)
    have again : ∀ {σ7 : St} {H7 : Hp}, Inv X (pins ++ pinsAt fp s5.heap) σ7 H7 s7 → N σ7 H7 → ∃ m, m < n ∧ ∃ i σ' H', Inv X pins σ' H' s7 ∧ tn i s7.heap ∧ (∀ b ∈ fp, H' b = none) ∧ W i m σ' H' := fun {σ7 H7} I7 n7 => by
      obtain ⟨m', hm, w7⟩ := hN σ7 H7 n7
      refine ⟨m', hm, i + 1, σ7, H7, I7.unpinned, T.keep _ _ _ st5 fun b hb o e => (I7.pin (b, o) (List.mem_append_right _ (List.mem_append_right _ (mem_pinsAt hb e)))).1, fun b hb => ?_, w7⟩
      obtain ⟨o, e, d⟩ := T.obj _ _ st5 b hb
      exact (I7.pin (b, o) (List.mem_append_right _ (List.mem_append_right _ (mem_pinsAt hb e)))).2.1
    cases f with
    | next => obtain ⟨σ7, H7, I7, n7⟩ := q7; exact again I7 n7
    | cont => obtain ⟨σ7, H7, I7, n7⟩ := q7; exact again I7 n7
    | brk => obtain ⟨σ7, H7, I7, q7⟩ := q7; exact ⟨σ7, H7, I7.unpinned, q7⟩
    | ret v => obtain ⟨x7, σ7, H7, I7, r7, q7⟩ := q7; exact ⟨x7, σ7, H7, I7.unpinned, r7, q7⟩
end

/-! ### the forms one uses -/
/-- over a list that the body leaves as it is -/
theorem for_list {K : PySem.W.Frag} {a : Addr} {xs : List V} {g : TG} {tb : TS} {D : Ends} {σ : St} {H : Hp} (Pv : Nat → St → Hp → Prop) (h0 : Pv 0 σ H) (hl : ∀ i σ H, i ≤ xs.length → Pv i σ H → SqL K H a xs)
    (hs : ∀ i x σ H, xs[i]? = some x → Pv i σ H → g x σ H fun σ2 H2 => tb { D with nx := Pv (i + 1), ct := Pv (i + 1), bk := D.nx } σ2 H2) (hd : ∀ σ H, Pv xs.length σ H → D.nx σ H) :
    ∃ W : Nat → Nat → St → Hp → Prop, (∃ m, W 0 m σ H) ∧ ∀ i m σ H, W i m σ H →
      ((Itl K a).stop i H ∧ D.nx σ H) ∨ ((Itl K a).go i H ∧ ∃ N : St → Hp → Prop, (∀ σ' H', N σ' H' → ∃ m', m' < m ∧ W (i + 1) m' σ' H') ∧ ∀ x H', (Itl K a).yld i H x H' → g x σ H' fun σ2 H2 => tb { D with nx := N, ct := N, bk := D.nx } σ2 H2) := by
  refine ⟨fun i m σ H => m = xs.length - i ∧ i ≤ xs.length ∧ Pv i σ H, ⟨xs.length, by simp, Nat.zero_le _, h0⟩, ?_⟩
  rintro i m σ H ⟨rfl, hi, p⟩
  have q := hl i σ H hi p
  by_cases hlt : i < xs.length
  · refine .inr ⟨⟨xs, xs[i], q, by simp [hlt]⟩, Pv (i + 1), fun σ' H' p' => ⟨xs.length - (i + 1), by omega, rfl, hlt, p'⟩, fun x H' y => ?_⟩
    obtain ⟨e, y⟩ := y
    subst e
    exact hs i x σ _ (y xs q) p
  · have e : i = xs.length := by omega
    subst e
    exact .inl ⟨⟨xs, q, Nat.le_refl _⟩, hd σ H p⟩
theorem for_tup {K : PySem.W.Frag} {a : Addr} {xs : List V} {g : TG} {tb : TS} {D : Ends} {σ : St} {H : Hp} (Pv : Nat → St → Hp → Prop) (h0 : Pv 0 σ H) (hl : ∀ i σ H, i ≤ xs.length → Pv i σ H → SqT K H a xs)
    (hs : ∀ i x σ H, xs[i]? = some x → Pv i σ H → g x σ H fun σ2 H2 => tb { D with nx := Pv (i + 1), ct := Pv (i + 1), bk := D.nx } σ2 H2) (hd : ∀ σ H, Pv xs.length σ H → D.nx σ H) :
    ∃ W : Nat → Nat → St → Hp → Prop, (∃ m, W 0 m σ H) ∧ ∀ i m σ H, W i m σ H →
      ((Itt K a).stop i H ∧ D.nx σ H) ∨ ((Itt K a).go i H ∧ ∃ N : St → Hp → Prop, (∀ σ' H', N σ' H' → ∃ m', m' < m ∧ W (i + 1) m' σ' H') ∧ ∀ x H', (Itt K a).yld i H x H' → g x σ H' fun σ2 H2 => tb { D with nx := N, ct := N, bk := D.nx } σ2 H2) := by
  refine ⟨fun i m σ H => m = xs.length - i ∧ i ≤ xs.length ∧ Pv i σ H, ⟨xs.length, by simp, Nat.zero_le _, h0⟩, ?_⟩
  rintro i m σ H ⟨rfl, hi, p⟩
  have q := hl i σ H hi p
  by_cases hlt : i < xs.length
  · refine .inr ⟨⟨xs, xs[i], q, by simp [hlt]⟩, Pv (i + 1), fun σ' H' p' => ⟨xs.length - (i + 1), by omega, rfl, hlt, p'⟩, fun x H' y => ?_⟩
    obtain ⟨e, y⟩ := y
    subst e
    exact hs i x σ _ (y xs q) p
  · have e : i = xs.length := by omega
    subst e
    exact .inl ⟨⟨xs, q, Nat.le_refl _⟩, hd σ H p⟩
theorem for_range {lo : Int} {n : Nat} {g : TG} {tb : TS} {D : Ends} {σ : St} {H : Hp} (Pv : Nat → St → Hp → Prop) (h0 : Pv 0 σ H)
    (hs : ∀ i σ H, i < n → Pv i σ H → g (.int (lo + i)) σ H fun σ2 H2 => tb { D with nx := Pv (i + 1), ct := Pv (i + 1), bk := D.nx } σ2 H2) (hd : ∀ σ H, Pv n σ H → D.nx σ H) :
    ∃ W : Nat → Nat → St → Hp → Prop, (∃ m, W 0 m σ H) ∧ ∀ i m σ H, W i m σ H →
      ((Itr lo n).stop i H ∧ D.nx σ H) ∨ ((Itr lo n).go i H ∧ ∃ N : St → Hp → Prop, (∀ σ' H', N σ' H' → ∃ m', m' < m ∧ W (i + 1) m' σ' H') ∧ ∀ x H', (Itr lo n).yld i H x H' → g x σ H' fun σ2 H2 => tb { D with nx := N, ct := N, bk := D.nx } σ2 H2) := by
  refine ⟨fun i m σ H => m = n - i ∧ i ≤ n ∧ Pv i σ H, ⟨n, by simp, Nat.zero_le _, h0⟩, ?_⟩
  rintro i m σ H ⟨rfl, hi, p⟩
  by_cases hlt : i < n
  · refine .inr ⟨hlt, Pv (i + 1), fun σ' H' p' => ⟨n - (i + 1), by omega, rfl, hlt, p'⟩, fun x H' y => ?_⟩
    obtain ⟨e, y⟩ := y
    subst e y
    exact hs i σ _ hlt p
  · have e : i = n := by omega
    subst e
    exact .inl ⟨Nat.le_refl _, hd σ H p⟩
end L2

namespace L2
open PySem PySem.Spec PyProof.Rows

abbrev R2 := V → V → Hp → VK → Prop
/-- a two-place operation on values: f is binaryOp op, inplaceOp op or compareOp op -/
def OpR (X : Cx) (f : Value → Value → Sem Value) (r : R2) : Prop :=
  ∀ (pins : List (Addr × Obj)) (s : Shared) (σ : St) (H : Hp) (x y : V) (v u : Value) (Q : VK), Inv X pins σ H s → RelV x v → RelV y u → r x y H Q →
    wpAny (model X.prog X.w) X.A (f v u) (EP X pins σ Q) X.xe s
/-- a one-place operation -/
def UnR (X : Cx) (f : Value → Sem Value) (r : V → Hp → VK → Prop) : Prop :=
  ∀ (pins : List (Addr × Obj)) (s : Shared) (σ : St) (H : Hp) (x : V) (v : Value) (Q : VK), Inv X pins σ H s → RelV x v → r x H Q →
    wpAny (model X.prog X.w) X.A (f v) (EP X pins σ Q) X.xe s
/-- a call of a value that is known (a builtin, a type) with values -/
def CallR (X : Cx) (f : Value) (r : List V → Hp → VK → Prop) : Prop :=
  ∀ (pins : List (Addr × Obj)) (s : Shared) (σ : St) (H : Hp) (xs : List V) (us : List Value) (Q : VK), Inv X pins σ H s → Vals xs us → r xs H Q →
    wpAny (model X.prog X.w) X.A (call f us) (EP X pins σ Q) X.xe s
def tOp (r : R2) (ta tb : TE) : TE := fun σ H Q => ta σ H fun x H1 => tb σ H1 fun y H2 => r x y H2 Q
def tUn (r : V → Hp → VK → Prop) (ta : TE) : TE := fun σ H Q => ta σ H fun x H1 => r x H1 Q
/-- ints in, under C, and a value out -/
def rI (C : Int → Int → Prop) (g : Int → Int → V) : R2 := fun x y H Q => ∃ i j, x = .int i ∧ y = .int j ∧ C i j ∧ Q (g i j) H
def rI0 (g : Int → Int → V) : R2 := fun x y H Q => ∃ i j, x = .int i ∧ y = .int j ∧ Q (g i j) H
def rU (g : Int → V) : V → Hp → VK → Prop := fun x H Q => ∃ i, x = .int i ∧ Q (g i) H

section
variable {X : Cx} {a b c : Expr} {ta tb tc : TE} {pos : Pos}

theorem binT (ha : PE X a ta) (hb : PE X b tb) {pins : List (Addr × Obj)} {s : Shared} {σ : St} {H : Hp} {R : V → V → Hp → Prop} (I : Inv X pins σ H s)
    (h : ta σ H fun x H1 => tb σ H1 fun y H2 => R x y H2) {Q : Value → Shared → Prop} {f : Value → Value → Sem Value}
    (hf : ∀ v u s2 x y H2, Inv X pins σ H2 s2 → RelV x v → RelV y u → R x y H2 → wpAny (model X.prog X.w) X.A (f v u) Q X.xe s2) :
    wpAny (model X.prog X.w) X.A (eval a X.env) (fun v s₁ => wpAny (model X.prog X.w) X.A (eval b X.env) (fun u s₂ => wpAny (model X.prog X.w) X.A (f v u) Q X.xe s₂) X.xe s₁) X.xe s := by
  refine thn (ha pins s σ H _ I h) fun v s1 ⟨x, H1, I1, r1, q1⟩ => ?_
  refine thn (hb pins s1 σ H1 _ I1 q1) fun u s2 ⟨y, H2, I2, r2, q2⟩ => ?_
  exact hf v u s2 x y H2 I2 r1 r2 q2

theorem pe_op {op : Operator} {r : R2} (ho : OpR X (binaryOp op) r) (ha : PE X a ta) (hb : PE X b tb) : PE X (.BinOp a op b pos) (tOp r ta tb) := by
  intro pins s σ H Q I h
  exact wpAny_BinOp (binT ha hb I h fun v u s2 x y H2 I2 rx ry q => ho pins s2 σ H2 x y v u Q I2 rx ry q)
theorem pe_un {op : UnaryOp} {r : V → Hp → VK → Prop} (ho : UnR X (unaryOp op) r) (ha : PE X a ta) : PE X (.UnaryOp op a pos) (tUn r ta) := by
  intro pins s σ H Q I h
  exact UnaryOp_ (thn (ha pins s σ H _ I h) fun v s1 ⟨x, H1, I1, r1, q1⟩ => ho pins s1 σ H1 x v Q I1 r1 q1)
/-! ### ints -/
theorem opI {f : Value → Value → Sem Value} {C : Int → Int → Prop} {g : Int → Int → Int}
    (rule : ∀ (i j : Int) (t u : Tok) (s : Shared) (Q : Value → Shared → Prop) (E : Value → Shared → Prop), C i j → Q (.int (g i j) s.toks) { s with toks := s.toks + 1 } → wpAny (model X.prog X.w) X.A (f (.int i t) (.int j u)) Q E s) :
    OpR X f (rI C fun i j => .int (g i j)) := by
  intro pins s σ H x y v u Q I rx ry h
  obtain ⟨i, j, rfl, rfl, hc, q⟩ := h
  obtain ⟨t, rfl⟩ := rx
  obtain ⟨t', rfl⟩ := ry
  exact rule i j t t' s _ _ hc ⟨.int (g i j), H, I.tok _, ⟨_, rfl⟩, q⟩
theorem opI0 {f : Value → Value → Sem Value} {g : Int → Int → Int}
    (rule : ∀ (i j : Int) (t u : Tok) (s : Shared) (Q : Value → Shared → Prop) (E : Value → Shared → Prop), Q (.int (g i j) s.toks) { s with toks := s.toks + 1 } → wpAny (model X.prog X.w) X.A (f (.int i t) (.int j u)) Q E s) :
    OpR X f (rI0 fun i j => .int (g i j)) := by
  intro pins s σ H x y v u Q I rx ry h
  obtain ⟨i, j, rfl, rfl, q⟩ := h
  obtain ⟨t, rfl⟩ := rx
  obtain ⟨t', rfl⟩ := ry
  exact rule i j t t' s _ _ ⟨.int (g i j), H, I.tok _, ⟨_, rfl⟩, q⟩
theorem opB0 {f : Value → Value → Sem Value} {g : Int → Int → Bool}
    (rule : ∀ (i j : Int) (t u : Tok) (s : Shared) (Q : Value → Shared → Prop) (E : Value → Shared → Prop), Q (.bool (g i j)) s → wpAny (model X.prog X.w) X.A (f (.int i t) (.int j u)) Q E s) :
    OpR X f (rI0 fun i j => .bl (g i j)) := by
  intro pins s σ H x y v u Q I rx ry h
  obtain ⟨i, j, rfl, rfl, q⟩ := h
  obtain ⟨t, rfl⟩ := rx
  obtain ⟨t', rfl⟩ := ry
  exact rule i j t t' s _ _ ⟨.bl (g i j), H, I, rfl, q⟩

def CPow (i j : Int) : Prop := 0 ≤ j ∧ j ≤ 1000000 ∧ i.natAbs < 2 ^ 64
def CMul (i j : Int) : Prop := (-(2 ^ 64) < i ∧ i < 2 ^ 64) ∨ (-(2 ^ 64) < j ∧ j < 2 ^ 64)
theorem CMul.ok {i j : Int} (h : CMul i j) : IntMulOk i j := by
  rcases h with ⟨h1, h2⟩ | ⟨h1, h2⟩
  · exact .of_left (intBits_le_64 h1 h2)
  · exact .of_right (intBits_le_64 h1 h2)
theorem op_add : OpR X (binaryOp .Add) (rI0 fun i j => .int (i + j)) := opI0 fun _ _ _ _ _ _ _ q => add_int q
theorem op_sub : OpR X (binaryOp .Sub) (rI0 fun i j => .int (i - j)) := opI0 fun _ _ _ _ _ _ _ q => sub_int q
theorem op_mul : OpR X (binaryOp .Mult) (rI CMul fun i j => .int (i * j)) := opI fun _ _ _ _ _ _ _ hc q => mul_int q hc.ok
/-- % by a positive divisor of any size -/
theorem op_mod : OpR X (binaryOp .Mod) (rI (fun _ j => 0 < j) fun i j => .int (i % j)) := opI fun i j _ _ _ _ _ hc q => by
  have h1 : (0 : Int) < j := hc
  exact mod_int' (by omega) (by rw [Int.fmod_eq_emod_of_nonneg i (by omega)]; exact q)
theorem op_pow : OpR X (binaryOp .Pow) (rI CPow fun i j => .int (i ^ j.toNat)) := opI fun _ _ _ _ _ _ _ hc q => pow_int_small hc.1 hc.2.1 hc.2.2 q
theorem unI {f : Value → Sem Value} {g : Int → Int}
    (rule : ∀ (i : Int) (t : Tok) (s : Shared) (Q : Value → Shared → Prop) (E : Value → Shared → Prop), Q (.int (g i) s.toks) { s with toks := s.toks + 1 } → wpAny (model X.prog X.w) X.A (f (.int i t)) Q E s) :
    UnR X f (rU fun i => .int (g i)) := by
  intro pins s σ H x v Q I rx h
  obtain ⟨i, rfl, q⟩ := h
  obtain ⟨t, rfl⟩ := rx
  exact rule i t s _ _ ⟨.int (g i), H, I.tok _, ⟨_, rfl⟩, q⟩
theorem un_neg : UnR X (unaryOp .USub) (rU fun i => .int (-i)) := unI fun _ _ _ _ _ q => neg_int q
/-! ### bools among ints: n += (a < b) -/
end

/-! ### comparisons -/
/-- the scalars that == tells apart as data does -/
def scal : V → V → Bool
  | .non, .non => true | .non, .int _ => true | .int _, .non => true | .non, .bl _ => true | .bl _, .non => true | .non, .str _ => true | .str _, .non => true
  | .int _, .int _ => true | .bl _, .bl _ => true | .str _, .str _ => true | .byt _, .byt _ => true
  | .int _, .str _ => true | .str _, .int _ => true | .bl _, .str _ => true | .str _, .bl _ => true
  | _, _ => false
def rEq : R2 := fun x y H Q => scal x y = true ∧ Q (.bl (decide (x = y))) H
def rNe : R2 := fun x y H Q => scal x y = true ∧ Q (.bl (!decide (x = y))) H

theorem dec_int {i j : Int} : decide (V.int i = V.int j) = (i == j) := by
  rw [Bool.eq_iff_iff]
  simp
theorem dec_bl {i j : Bool} : decide (V.bl i = V.bl j) = (i == j) := by
  rw [Bool.eq_iff_iff]
  simp
theorem dec_str {i j : Str} : decide (V.str i = V.str j) = (i == j) := by
  rw [Bool.eq_iff_iff]
  simp
theorem dec_byt {i j : Array UInt8} : decide (V.byt i = V.byt j) = (i.toList == j.toList) := by
  rw [Bool.eq_iff_iff]
  cases i
  cases j
  simp

section
variable {X : Cx} {a b c : Expr} {ta tb tc : TE} {pos : Pos}
theorem fin_bl {pins : List (Addr × Obj)} {σ : St} {H : Hp} {s : Shared} {Q : VK} {k k' : Bool} (I : Inv X pins σ H s) (q : Q (.bl k) H) (e : k = k') : EP X pins σ Q (.bool k') s := by
  subst e
  exact ⟨.bl k, H, I, rfl, q⟩
theorem op_eq : OpR X (compareOp .Eq) rEq := by
  intro pins s σ H x y v u Q I rx ry h
  obtain ⟨hs, q⟩ := h
  cases x with
  | non =>
    cases rx
    cases y with
    | non => cases ry; exact PySem.EqNone.eq_none_none (fin_bl I q (by simp))
    | bl j => cases ry; exact PySem.EqNone.eq_none_bool (fin_bl I q (by simp))
    | int j => obtain ⟨t', rfl⟩ := ry; exact PySem.EqNone.eq_none_int (fin_bl I q (by simp))
    | str j => obtain ⟨t', rfl⟩ := ry; exact PySem.EqNone.eq_none_str (fin_bl I q (by simp))
    | _ => exact absurd (show false = true from hs) Bool.false_ne_true
  | bl i =>
    cases rx
    cases y with
    | non => cases ry; exact PySem.EqNone.eq_bool_none (fin_bl I q (by simp))
    | bl j => cases ry; exact eq_bool (fin_bl I q dec_bl)
    | str j => obtain ⟨t', rfl⟩ := ry; exact PySem.EqMixed.eq_bool_str (fin_bl I q (by simp))
    | _ => exact absurd (show false = true from hs) Bool.false_ne_true
  | int i =>
    obtain ⟨t, rfl⟩ := rx
    cases y with
    | non => cases ry; exact PySem.EqNone.eq_int_none (fin_bl I q (by simp))
    | int j => obtain ⟨t', rfl⟩ := ry; exact eq_int (fin_bl I q dec_int)
    | str j => obtain ⟨t', rfl⟩ := ry; exact PySem.EqMixed.eq_int_str (fin_bl I q (by simp))
    | _ => exact absurd (show false = true from hs) Bool.false_ne_true
  | str i =>
    obtain ⟨t, rfl⟩ := rx
    cases y with
    | non => cases ry; exact PySem.EqNone.eq_str_none (fin_bl I q (by simp))
    | bl j => cases ry; exact PySem.EqMixed.eq_str_bool (fin_bl I q (by simp))
    | int j => obtain ⟨t', rfl⟩ := ry; exact PySem.EqMixed.eq_str_int (fin_bl I q (by simp))
    | str j => obtain ⟨t', rfl⟩ := ry; exact eq_str (fin_bl I q dec_str)
    | _ => exact absurd (show false = true from hs) Bool.false_ne_true
  | byt i =>
    obtain ⟨t, rfl⟩ := rx
    cases y with
    | byt j => obtain ⟨t', rfl⟩ := ry; exact PySem.W.eq_bytes (fin_bl I q dec_byt)
    | _ => exact absurd (show false = true from hs) Bool.false_ne_true
  | _ => cases y <;> exact absurd (show false = true from hs) Bool.false_ne_true
theorem op_ne : OpR X (compareOp .NotEq) rNe := by
  intro pins s σ H x y v u Q I rx ry h
  obtain ⟨hs, q⟩ := h
  cases x with
  | non =>
    cases rx
    cases y with
    | non => cases ry; exact PySem.EqNone.ne_none_none (fin_bl I q (by simp))
    | bl j => cases ry; exact PySem.EqNone.ne_none_bool (fin_bl I q (by simp))
    | int j => obtain ⟨t', rfl⟩ := ry; exact PySem.EqNone.ne_none_int (fin_bl I q (by simp))
    | str j => obtain ⟨t', rfl⟩ := ry; exact PySem.EqNone.ne_none_str (fin_bl I q (by simp))
    | _ => exact absurd (show false = true from hs) Bool.false_ne_true
  | bl i =>
    cases rx
    cases y with
    | non => cases ry; exact PySem.EqNone.ne_bool_none (fin_bl I q (by simp))
    | bl j => cases ry; exact ne_bool (fin_bl I q (congrArg not dec_bl))
    | str j => obtain ⟨t', rfl⟩ := ry; exact PySem.EqMixed.ne_bool_str (fin_bl I q (by simp))
    | _ => exact absurd (show false = true from hs) Bool.false_ne_true
  | int i =>
    obtain ⟨t, rfl⟩ := rx
    cases y with
    | non => cases ry; exact PySem.EqNone.ne_int_none (fin_bl I q (by simp))
    | int j => obtain ⟨t', rfl⟩ := ry; exact ne_int (fin_bl I q (congrArg not dec_int))
    | str j => obtain ⟨t', rfl⟩ := ry; exact PySem.EqMixed.ne_int_str (fin_bl I q (by simp))
    | _ => exact absurd (show false = true from hs) Bool.false_ne_true
  | str i =>
    obtain ⟨t, rfl⟩ := rx
    cases y with
    | non => cases ry; exact PySem.EqNone.ne_str_none (fin_bl I q (by simp))
    | bl j => cases ry; exact PySem.EqMixed.ne_str_bool (fin_bl I q (by simp))
    | int j => obtain ⟨t', rfl⟩ := ry; exact PySem.EqMixed.ne_str_int (fin_bl I q (by simp))
    | str j => obtain ⟨t', rfl⟩ := ry; exact ne_str (fin_bl I q (congrArg not dec_str))
    | _ => exact absurd (show false = true from hs) Bool.false_ne_true
  | byt i =>
    obtain ⟨t, rfl⟩ := rx
    cases y with
    | byt j => obtain ⟨t', rfl⟩ := ry; exact PySem.W.ne_bytes (fin_bl I q (congrArg not dec_byt))
    | _ => exact absurd (show false = true from hs) Bool.false_ne_true
  | _ => cases y <;> exact absurd (show false = true from hs) Bool.false_ne_true

theorem op_lt : OpR X (compareOp .Lt) (rI0 fun i j => .bl (decide (i < j))) := opB0 fun _ _ _ _ _ _ _ q => lt_int q
theorem op_le : OpR X (compareOp .LtE) (rI0 fun i j => .bl (decide (i ≤ j))) := opB0 fun _ _ _ _ _ _ _ q => le_int q
theorem op_gt : OpR X (compareOp .Gt) (rI0 fun i j => .bl (decide (j < i))) := opB0 fun _ _ _ _ _ _ _ q => gt_int q
theorem op_ge : OpR X (compareOp .GtE) (rI0 fun i j => .bl (decide (j ≤ i))) := opB0 fun _ _ _ _ _ _ _ q => ge_int q
theorem nomark (b : Expr) {op : CmpOp} (h : op ≠ .In := by decide) (h2 : op ≠ .NotIn := by decide) : behindInMarks op b = false := by
  have e1 : (op == CmpOp.In) = false := by cases op <;> first | rfl | exact absurd rfl h
  have e2 : (op == CmpOp.NotIn) = false := by cases op <;> first | rfl | exact absurd rfl h2
  cases b <;> simp [behindInMarks, e1, e2]
/-- a comparison as a value; hm: nomark b, or (for in, not in) by with_unfolding_all rfl -/
theorem pe_cmpR {op : CmpOp} {r : R2} (ho : OpR X (compareOp op) r) (ha : PE X a ta) (hb : PE X b tb) (hm : behindInMarks op b = false) : PE X (.Compare a [op] [b] pos) (tOp r ta tb) := by
  intro pins s σ H Q I h
  exact wpAny_Compare1 (binT ha hb I h fun v u s2 x y H2 I2 rx ry q => ho pins s2 σ H2 x y v u Q I2 rx ry q) hm
/-- a reading of a value as a test -/
def tTest (t : TE) : TT := fun σ H Q => t σ H fun x H' => ∃ k, x = .bl k ∧ Q k H'
theorem pt_cmpR {op : CmpOp} {r : R2} (ho : OpR X (compareOp op) r) (ha : PE X a ta) (hb : PE X b tb) (hm : behindInMarks op b = false) : PT X (.Compare a [op] [b] pos) (tTest (tOp r ta tb)) := by
  intro pins s σ H Q I h
  refine wpAny_isTrue_Compare1 (thn (ha pins s σ H _ I h) fun v s1 ⟨x, H1, I1, r1, q1⟩ => thn (hb pins s1 σ H1 _ I1 q1) fun u s2 ⟨y, H2, I2, r2, q2⟩ =>
    thn (ho pins s2 σ H2 x y v u _ I2 r1 r2 q2) fun c s3 ⟨z, H3, I3, r3, k, e, q3⟩ => ?_) hm
  subst e
  cases r3
  exact wpAny_truthy_bool ⟨H3, I3, q3⟩
/-- a op1 b op2 c -/
def tChain (r r' : R2) (ta tb tc : TE) : TE := fun σ H Q => ta σ H fun x H1 => tb σ H1 fun y H2 => r x y H2 fun z H3 => ∃ k, z = .bl k ∧
  (if k = true then tc σ H3 fun w' H4 => r' y w' H4 Q else Q (.bl false) H3)
theorem pe_chain {op op' : CmpOp} {r r' : R2} (ho : OpR X (compareOp op) r) (ho' : OpR X (compareOp op') r') (ha : PE X a ta) (hb : PE X b tb) (hc : PE X c tc)
    (hm : lastMarks [op, op'] [b, c] = false := by with_unfolding_all rfl) : PE X (.Compare a [op, op'] [b, c] pos) (tChain r r' ta tb tc) := by
  intro pins s σ H Q I h
  refine Compare_chain (thn (ha pins s σ H _ I h) fun v s1 ⟨x, H1, I1, r1, q1⟩ => chain_link (thn (hb pins s1 σ H1 _ I1 q1) fun u s2 ⟨y, H2, I2, r2, q2⟩ =>
    thn (ho pins s2 σ H2 x y v u _ I2 r1 r2 q2) fun d s3 ⟨z, H3, I3, r3, k, e, q3⟩ => ?_)) hm
  subst e
  cases r3
  refine wpAny_truthy_bool ?_
  cases k with
  | false => exact ite_ff ⟨.bl false, H3, I3, rfl, q3⟩
  | true => exact ite_tt (chain_last (thn (hc pins s3 σ H3 _ I3 q3) fun w' s4 ⟨z', H4, I4, r4, q4⟩ => ho' pins s4 σ H4 y z' u w' Q I4 r2 r4 q4))
theorem pt_chain {op op' : CmpOp} {r r' : R2} (ho : OpR X (compareOp op) r) (ho' : OpR X (compareOp op') r') (ha : PE X a ta) (hb : PE X b tb) (hc : PE X c tc)
    (hm : lastMarks [op, op'] [b, c] = false := by with_unfolding_all rfl) : PT X (.Compare a [op, op'] [b, c] pos) (tTest (tChain r r' ta tb tc)) := by
  intro pins s σ H Q I h
  refine isTrue_chain (thn (ha pins s σ H _ I h) fun v s1 ⟨x, H1, I1, r1, q1⟩ => test_link (thn (hb pins s1 σ H1 _ I1 q1) fun u s2 ⟨y, H2, I2, r2, q2⟩ =>
    thn (ho pins s2 σ H2 x y v u _ I2 r1 r2 q2) fun d s3 ⟨z, H3, I3, r3, k, e, q3⟩ => ?_)) hm
  subst e
  cases r3
  refine wpAny_truthy_bool ?_
  cases k with
  | false =>
    obtain ⟨k', e', q'⟩ := q3
    cases e'
    exact ite_ff ⟨H3, I3, q'⟩
  | true =>
    refine ite_tt (test_last (thn (hc pins s3 σ H3 _ I3 q3) fun w' s4 ⟨z', H4, I4, r4, q4⟩ => thn (ho' pins s4 σ H4 y z' u w' _ I4 r2 r4 q4) fun d' s5 ⟨z2, H5, I5, r5, k2, e2, q5⟩ => ?_))
    subst e2
    cases r5
    exact wpAny_truthy_bool ⟨H5, I5, q5⟩

/-! ### truth -/
theorem line63 : (sizeLine : Nat) < 2 ^ 63 := by rw [sizeLine_eq]; decide
/-! ### strs and bytes -/
/-! ### scalar builtins, by CallR -/
theorem vals1 {x : V} {us : List Value} (r : Vals [x] us) : ∃ u, us = [u] ∧ RelV x u := by
  cases r with
  | cons r1 r2 => cases r2; exact ⟨_, rfl, r1⟩
theorem vals2 {x y : V} {us : List Value} (r : Vals [x, y] us) : ∃ u w', us = [u, w'] ∧ RelV x u ∧ RelV y w' := by
  cases r with
  | cons r1 r2 =>
    cases r2 with
    | cons r3 r4 => cases r4; exact ⟨_, _, rfl, r1, r3⟩
theorem call_abs : CallR X (.builtin "abs") (fun xs H Q => ∃ i, xs = [.int i] ∧ Q (.int (if i < 0 then -i else i)) H) := by
  intro pins s σ H xs us Q I r h
  obtain ⟨i, rfl, q⟩ := h
  obtain ⟨u, rfl, t, rfl⟩ := vals1 r
  exact call_abs_int fun u tk => ⟨.int (if i < 0 then -i else i), H, I.tok _, ⟨_, rfl⟩, q⟩
theorem call_max2 (hc : X.calm = true) : CallR X (.builtin "max") (fun xs H Q => ∃ i j, xs = [.int i, .int j] ∧ Q (.int (if j > i then j else i)) H) := by
  intro pins s σ H xs us Q I r h
  obtain ⟨i, j, rfl, q⟩ := h
  obtain ⟨u, w', rfl, ⟨t, rfl⟩, ⟨t', rfl⟩⟩ := vals2 r
  refine max_two_ints (I.ok.hd hc) fun h' tk k => ⟨_, H, I.kept k, ?_, q⟩
  by_cases hj : j > i
  · rw [if_pos hj, if_pos hj]; exact ⟨_, rfl⟩
  · rw [if_neg hj, if_neg hj]; exact ⟨_, rfl⟩
theorem call_min2 (hc : X.calm = true) : CallR X (.builtin "min") (fun xs H Q => ∃ i j, xs = [.int i, .int j] ∧ Q (.int (if j < i then j else i)) H) := by
  intro pins s σ H xs us Q I r h
  obtain ⟨i, j, rfl, q⟩ := h
  obtain ⟨u, w', rfl, ⟨t, rfl⟩, ⟨t', rfl⟩⟩ := vals2 r
  refine min_two_ints (I.ok.hd hc) fun h' tk k => ⟨_, H, I.kept k, ?_, q⟩
  by_cases hj : j < i
  · rw [if_pos hj, if_pos hj]; exact ⟨_, rfl⟩
  · rw [if_neg hj, if_neg hj]; exact ⟨_, rfl⟩
theorem call_int1 : CallR X (.type "int") (fun xs H Q => (∃ i, xs = [.int i] ∧ Q (.int i) H) ∨ ∃ k, xs = [.bl k] ∧ Q (.int (if k then 1 else 0)) H) := by
  intro pins s σ H xs us Q I r h
  rcases h with ⟨i, rfl, q⟩ | ⟨k, rfl, q⟩
  · obtain ⟨u, rfl, t, rfl⟩ := vals1 r
    exact call_int_int ⟨.int i, H, I, ⟨_, rfl⟩, q⟩
  · obtain ⟨u, rfl, r1⟩ := vals1 r
    cases r1
    exact call_int_bool ⟨.int (if k then 1 else 0), H, I.tok _, ⟨_, rfl⟩, q⟩
end
end L2

namespace L2
open PySem PySem.Spec PyProof.Rows

/-! ### an instance, its attributes a map -/
structure ObjM (h : Heap) (x dx C : Addr) (mA : Str → Option Value) : Prop where
  obj : h.get? x = some (PySem.W.instObj C dx)
  ns : h.Ns1 dx mA
  ne : dx ≠ x

theorem lookIn_ns {h : Heap} {dx : Addr} {mA : Str → Option Value} (n : h.Ns1 dx mA) : ∃ od, h.get? dx = some od ∧ ∀ name, PySem.W.lookIn name od = some (mA name) := by
  obtain ⟨o, es, ep, ho, hd, hk, _, hm⟩ := n
  refine ⟨o, ho, fun name => ?_⟩
  have e := hm name
  unfold nsFind findBy at e
  rw [← Array.find?_toList] at e
  unfold PySem.W.lookIn
  rw [hd]
  dsimp only
  split
  · rename_i y q
    rw [q] at e
    exact congrArg some e
  · rename_i q
    rw [q] at e
    have a : es.toList.any (·.refKey) = false := by
      rw [List.any_eq_false]
      intro y hy
      obtain ⟨z, t, hkey⟩ := hk y (Array.mem_toList_iff.mp hy)
      simp [DictEntry.refKey, hkey]
    have a' : ¬ es.toList.any (·.refKey) = true := by rw [a]; exact Bool.false_ne_true
    rw [if_neg a']
    exact congrArg some e

theorem ObjM.look {h : Heap} {x dx C : Addr} {mA : Str → Option Value} (I : ObjM h x dx C mA) : ∃ od, PySem.W.InstAt h x (PySem.W.instObj C dx) C (some od) ∧ ∀ name, PySem.W.lookIn name od = some (mA name) :=
  let ⟨od, ho, hl⟩ := lookIn_ns I.ns
  ⟨od, ⟨I.obj, rfl, rfl, ho⟩, hl⟩

section
variable {prog : Program} {w : World} {A : Around} {E : Value → Shared → Prop} {s : Shared} {K : PySem.W.Frag} {x dx C f : Addr} {mA : Str → Option Value} {name : Str} {v : Value}

theorem get_map {expr : Bool} {Q : Value → Shared → Prop} (X : K.In s.heap) (I : ObjM s.heap x dx C mA) (hg : PySem.W.plainGet K C name = true) (hh : PySem.W.hasDictIn K C = true)
    (ha : PySem.W.findIn K (.ref C) name = some none) (hv : mA name = some v) (hv' : PySem.W.handedIn v = true) (h : Q v { s with toks := s.toks + 1 }) :
    wpAny (model prog w) A (getAttr (.ref x) name expr) Q E s := by
  obtain ⟨od, J, hl⟩ := I.look
  exact PySem.W.get_value X J (PySem.W.plainGet_of hg).1 (PySem.W.findObj_own hh ha rfl (by rw [hl, hv])) hv' h

theorem set_map {ns : List Str} {Q : Unit → Shared → Prop} (X : K.In s.heap) (I : ObjM s.heap x dx C mA)
    (hs : PySem.W.findIn K (.ref C) "__setattr__" = some (some (.builtin "object.__setattr__"))) (hp : PySem.W.plainOver K C = true) (ht : PySem.W.takerIn K C name = some none) (hh : PySem.W.hasDictIn K C = true)
    (hw : PySem.Within mA ns) (hsz : ns.length ≤ sizeLine)
    (h : ∀ h', ObjM h' x dx C (fun y => if y = name then some v else mA y) → Heap.SameBut dx s.heap h' → Q () { s with heap := h', toks := s.toks + 2 }) :
    wpAny (model prog w) A (setAttr (.ref x) name v) Q E s := by
  obtain ⟨od, J, hl⟩ := I.look
  refine PySem.W.set_plain X J hs (PySem.W.osa_open (s := { s with toks := s.toks + 1 }) (r := none) X J hp ht fun b => ?_)
  obtain ⟨cd, hc, hd'⟩ := PySem.W.any_some hh
  have hx : s.heap.get? x = some ⟨.ref C, some dx, .plain, #[]⟩ := I.obj
  refine wpAny_bind (wpAny_pure (wpAny_bind (wpAny_bind (wpAny_loadPart hx (wpAny_bind (PySem.W.Looks.here (s := { s with toks := s.toks + 1 }) (PySem.W.looks_clsIn X hc) ?_))))))
  rw [hd']
  refine wpAny_pure (a := some dx) (wpAny_bind (wpAny_pure (wpAny_bind ?_)))
  refine wpAny_nsSet1 (s := { s with toks := s.toks + 1 }) I.ns fun h' hn2 hs2 => ?_
  obtain ⟨oD, esD, epD, hoD, hdD, hcD⟩ := hn2.count (PySem.Within.cons name v hw)
  refine wpAny_bind (wpAny_lookBehind hoD (by rw [hdD]; exact pastItsLine_dict (Nat.le_trans hcD (by rw [List.length_cons]; omega))) ?_)
  exact wpAny_pure (h _ ⟨(hs2.2 _ (Ne.symm I.ne)).trans I.obj, hn2, I.ne⟩ hs2)

/-- C(..): the dict at the heap's end, the instance behind it; then its __init__ -/
theorem make_map {R : Result → Shared → Prop} {vs : List Value} {kw : List (Str × Value)} (X : K.In s.heap) (hm : PySem.W.makesIn K C = true)
    (hi : PySem.W.findIn K (.ref C) "__init__" = some (some (.ref f))) (hf : PySem.W.typeIn K (.ref f) = some (.type "function"))
    (h : codeAny (model prog w) (A.under (.builtin "type.__call__" ⟨.ref C :: vs, kw⟩)) (.call (.ref f) ⟨.ref (s.heap.objs.size + 1) :: vs, kw⟩) (PySem.W.InitBack (s.heap.objs.size + 1) R)
      { s with heap := (s.heap.push PySem.W.emptyDict).push (PySem.W.instObj C s.heap.objs.size) }) :
    codeAny (model prog w) A (.call (.ref C) ⟨vs, kw⟩) R s := by
  obtain ⟨hh, g, d, t, os⟩ := s
  exact PySem.W.make_core (PySem.W.makes_of X hm) (PySem.W.looks_findIn X hi) (fun self => PySem.W.bind_fn X self hf) (.inl rfl) h
end

/-! ### the attributes as a list of pairs -/
def putF (f : Str) (v : V) : List (Str × V) → List (Str × V)
  | [] => [(f, v)]
  | (g, x) :: r => if g = f then (g, v) :: r else (g, x) :: putF f v r
theorem lookup_putF (f g : Str) (v : V) : ∀ fs : List (Str × V), (putF f v fs).lookup g = if g = f then some v else fs.lookup g
  | [] => by
    show List.lookup g [(f, v)] = _
    by_cases h : g = f
    · have hb : (g == f) = true := beq_iff_eq.mpr h
      simp only [List.lookup, hb, if_pos h]
    · have hb : (g == f) = false := beq_eq_false_iff_ne.mpr h
      simp only [List.lookup, hb, if_neg h]
  | (k, x) :: r => by
    have ih := lookup_putF f g v r
    rw [show putF f v ((k, x) :: r) = (if k = f then (k, v) :: r else (k, x) :: putF f v r) from rfl]
    by_cases hk : k = f
    · rw [if_pos hk]
      by_cases h : g = k
      · have hb : (g == k) = true := beq_iff_eq.mpr h
        simp only [List.lookup, hb, if_pos (h.trans hk)]
      · have hb : (g == k) = false := beq_eq_false_iff_ne.mpr h
        simp only [List.lookup, hb, if_neg (fun e : g = f => h (e.trans hk.symm))]
    · rw [if_neg hk]
      by_cases h : g = k
      · have hb : (g == k) = true := beq_iff_eq.mpr h
        simp only [List.lookup, hb, if_neg (fun e : g = f => hk (h.symm.trans e))]
      · have hb : (g == k) = false := beq_eq_false_iff_ne.mpr h
        simp only [List.lookup, hb]
        exact ih
theorem keys_putF (f : Str) (v : V) : ∀ fs : List (Str × V), f ∈ (putF f v fs).map (·.1) ∧ ∀ g, g ∈ fs.map (·.1) → g ∈ (putF f v fs).map (·.1)
  | [] => ⟨by simp [putF], fun g h => by simp at h⟩
  | (k, x) :: r => by
    obtain ⟨i1, i2⟩ := keys_putF f v r
    rw [show putF f v ((k, x) :: r) = (if k = f then (k, v) :: r else (k, x) :: putF f v r) from rfl]
    by_cases hk : k = f
    · rw [if_pos hk]
      subst hk
      exact ⟨by simp, fun g h => by simpa using h⟩
    · rw [if_neg hk]
      refine ⟨?_, fun g h => ?_⟩
      · rw [List.map_cons]
        exact List.mem_cons_of_mem _ i1
      · rw [List.map_cons] at h ⊢
        rcases List.mem_cons.mp h with e | e
        · exact List.mem_cons.mpr (.inl e)
        · exact List.mem_cons_of_mem _ (i2 g e)
theorem length_putF (f : Str) (v : V) : ∀ fs : List (Str × V), (putF f v fs).length ≤ fs.length + 1
  | [] => by simp [putF]
  | (k, x) :: r => by
    have ih := length_putF f v r
    rw [show putF f v ((k, x) :: r) = (if k = f then (k, v) :: r else (k, x) :: putF f v r) from rfl]
    by_cases hk : k = f
    · rw [if_pos hk, List.length_cons, List.length_cons]; omega
    · rw [if_neg hk, List.length_cons, List.length_cons]; omega

theorem RelO.some_of {v : V} {o : Option Value} (r : RelO (some v) o) : ∃ u, o = some u ∧ RelV v u := by
  cases o with
  | none => exact (show False from r).elim
  | some u => exact ⟨u, rfl, r⟩
theorem RelO.none_of {o : Option Value} (r : RelO none o) : o = none := by
  cases o with
  | none => rfl
  | some u => exact (show False from r).elim
theorem handed_of {v : V} {u : Value} (r : RelV v u) : PySem.W.handedIn u = true := by
  cases v with
  | non => cases (show u = Value.none from r); rfl
  | bl b => cases (show u = Value.bool b from r); rfl
  | int i => obtain ⟨t, e⟩ := (show ∃ t, u = Value.int i t from r); cases e; rfl
  | str x => obtain ⟨t, e⟩ := (show ∃ t, u = Value.str x t from r); cases e; rfl
  | byt b => obtain ⟨t, e⟩ := (show ∃ t, u = Value.bytes b t from r); cases e; rfl
  | flt b => obtain ⟨t, e⟩ := (show ∃ t, u = Value.float b t from r); cases e; rfl
  | ref a => cases (show u = Value.ref a from r); rfl
  | ty n => cases (show u = Value.type n from r); rfl

section
variable {P : Program} {w : World} {H H' : Hp} {h h' : Heap} {a C dx : Addr} {fs fs' : List (Str × V)}
theorem ins_get (hok : HOk P w H h) (e : H a = some (.ins C dx fs)) : ∃ mA, ObjM h a dx C mA ∧ (∀ f, RelO (fs.lookup f) (mA f)) ∧ PySem.Within mA (fs.map (·.1)) ∧ fs.length ≤ 1000 ∧ H dx = some (.own a) := by
  obtain ⟨d, z, ne, ob, mA, n, r, q⟩ := (show ObjOk P w H h a (.ins C dx fs) from hok a _ e)
  exact ⟨mA, ⟨ob, n, ne⟩, r, q, z, d⟩
end

/-! ### what of the text a class must have -/
structure Cls (K : PySem.W.Frag) (C : Addr) : Prop where
  pg : PySem.W.plainGet K C Str.empty = true
  hd : PySem.W.hasDictIn K C = true
  po : PySem.W.plainOver K C = true
  sa : PySem.W.findIn K (.ref C) "__setattr__" = some (some (.builtin "object.__setattr__"))
theorem Cls.get {K : PySem.W.Frag} {C : Addr} (c : Cls K C) (f : Str) : PySem.W.plainGet K C f = true := c.pg
/-- no class of it has the name -/
def NoAttr (K : PySem.W.Frag) (C : Addr) (f : Str) : Prop := PySem.W.findIn K (.ref C) f = some none
theorem NoAttr.taker {K : PySem.W.Frag} {C : Addr} {f : Str} (n : NoAttr K C f) : PySem.W.takerIn K C f = some none := by
  unfold PySem.W.takerIn
  rw [show PySem.W.findIn K (.ref C) f = some none from n]
  rfl
section
variable {X : Cx} {pins : List (Addr × Obj)} {σ : St} {H : Hp} {s : Shared} {a C dx : Addr} {fs : List (Str × V)} {f : Str} {v : V} {A : Around} {E : Value → Shared → Prop}

theorem getattr_ok {b : Bool} {Q : Value → Shared → Prop} (I : Inv X pins σ H s) (e : H a = some (.ins C dx fs)) (c : Cls X.K C) (n : NoAttr X.K C f) (l : fs.lookup f = some v)
    (h : ∀ u s', Inv X pins σ H s' → RelV v u → Q u s') : wpAny (model X.prog X.w) A (getAttr (.ref a) f b) Q E s := by
  obtain ⟨mA, O, r, _, _, _⟩ := ins_get I.hok e
  obtain ⟨u, hu, ru⟩ := RelO.some_of (v := v) (o := mA f) (by rw [← l]; exact r f)
  exact get_map I.kIn O (c.get f) c.hd n hu (handed_of ru) (h u _ (I.tok _) ru)

theorem setattr_ok {y : V} {u : Value} {Q : Unit → Shared → Prop} (I : Inv X pins σ H s) (e : H a = some (.ins C dx fs)) (c : Cls X.K C) (n : NoAttr X.K C f) (hl : fs.length < 1000) (ry : RelV y u)
    (h : ∀ s', Inv X pins σ (upd H a (.ins C dx (putF f y fs))) s' → Q () s') : wpAny (model X.prog X.w) A (setAttr (.ref a) f u) Q E s := by
  obtain ⟨mA, O, r, wi, _, ho⟩ := ins_get I.hok e
  have hz : (fs.map (·.1)).length ≤ sizeLine := by rw [List.length_map, sizeLine_eq]; omega
  refine set_map I.kIn O c.sa c.po n.taker c.hd wi hz fun h' O' sb => h _ ?_
  have hd : ∃ o, h'.get? dx = some o := let ⟨o, _, _, e', _⟩ := O'.ns; ⟨o, e'⟩
  refine I.write (x := a) (e := dx) (by rw [e]; exact True.intro) (.inr ho) (fun b q hb z => (sb.2 b hb).trans z) hd ?_
  refine ⟨by rw [upd_ne O.ne]; exact ho, ?_, O.ne, O'.obj, _, O'.ns, fun g => ?_, fun g hg => ?_⟩
  · have := length_putF f y fs; omega
  · show RelO ((putF f y fs).lookup g) (if g = f then some u else mA g)
    rw [lookup_putF]
    by_cases q : g = f
    · rw [if_pos q, if_pos q]; exact ry
    · rw [if_neg q, if_neg q]; exact r g
  · by_cases q : g = f
    · rw [q]; exact (keys_putF f y fs).1
    · refine (keys_putF f y fs).2 g (wi g fun z => hg ?_)
      show (if g = f then some u else mA g) = none
      rw [if_neg q]; exact z

/-- a new instance, tracked, without attributes -/
theorem Inv.made (I : Inv X pins σ H s) : Inv X pins σ (upd (upd H s.heap.objs.size (.own (s.heap.objs.size + 1))) (s.heap.objs.size + 1) (.ins C s.heap.objs.size []))
    { s with heap := (s.heap.push PySem.W.emptyDict).push (PySem.W.instObj C s.heap.objs.size) } := by
  have e1 : (s.heap.push PySem.W.emptyDict).get? s.heap.objs.size = some PySem.W.emptyDict := Heap.get?_push_size s.heap rfl
  have e2 : ((s.heap.push PySem.W.emptyDict).push (PySem.W.instObj C s.heap.objs.size)).get? (s.heap.objs.size + 1) = some (PySem.W.instObj C s.heap.objs.size) := by
    have := Heap.get?_push_size (s.heap.push PySem.W.emptyDict) (o := PySem.W.instObj C s.heap.objs.size) rfl
    rwa [Heap.size_push] at this
  have e3 : (s.heap.push PySem.W.emptyDict).Ns s.heap.objs.size (fun _ => none) := ⟨PySem.W.emptyDict, #[], _, e1, rfl, (fun e he => absurd he (by simp)), fun _ => rfl⟩
  have I1 := I.laid (a := s.heap.objs.size) (o := .own (s.heap.objs.size + 1)) (h' := s.heap.push PySem.W.emptyDict) (t' := s.toks) (fun b u q => Heap.get?_push_of_some _ q) (Nat.le_refl _) ⟨_, e1⟩
  refine I1.laid (a := s.heap.objs.size + 1) (o := .ins C s.heap.objs.size []) (t' := s.toks) (fun b u q => Heap.get?_push_of_some _ q) (Nat.le_of_eq (Heap.size_push _ _)) ?_
  have ne : s.heap.objs.size ≠ s.heap.objs.size + 1 := Nat.ne_of_lt (Nat.lt_succ_self _)
  refine ⟨by rw [upd_ne ne, upd_same], Nat.zero_le _, ne, e2, fun _ => none, (Heap.Ns1.of_empty e3).at fun o q => Heap.get?_push_of_some _ q, fun _ => True.intro, fun y hy => absurd rfl hy⟩

/-- e.f where nothing but the object is asked: through attributeBase (super) and the last hold -/
theorem attr_of {prog : Program} {w : World} {env : Env} {e : Expr} {f : Str} {pos : Pos} {s : Shared} {Q : Value → Shared → Prop} (hb : attributeBase e f env (eval e env) = eval e env)
    (h : wpAny (model prog w) A (eval e env) (fun o s₁ => wpAny (model prog w) A (getAttr o f true) Q E s₁) E s) : wpAny (model prog w) A (eval (.Attribute e f pos) env) Q E s :=
  Attribute_any_ h (by rw [arm_eval_Attribute, hb])
end

/-! ### readings and rules -/
/-- e.f, an attribute of the instance -/
def tFld (K : PySem.W.Frag) (ta : TE) (f : Str) : TE := fun σ H Q => ta σ H fun x H1 => ∃ a C dx fs v, x = .ref a ∧ H1 a = some (.ins C dx fs) ∧ Cls K C ∧ NoAttr K C f ∧ fs.lookup f = some v ∧ Q v H1
/-- e.f = value -/
def sFld (K : PySem.W.Frag) (ta tv : TE) (f : Str) : TS := fun D σ H => tv σ H fun y H1 => ta σ H1 fun x H2 => ∃ a C dx fs, x = .ref a ∧ H2 a = some (.ins C dx fs) ∧ Cls K C ∧ NoAttr K C f ∧ fs.length < 1000 ∧
  D.nx σ (upd H2 a (.ins C dx (putF f y fs)))
/-- an augmented operator on two values -/
def InOp (X : Cx) (op : Operator) (rd : V → V → Hp → VK → Prop) : Prop :=
  ∀ (pins : List (Addr × Obj)) (s : Shared) (σ : St) (H : Hp) (x y : V) (u v : Value) (Q : VK), Inv X pins σ H s → RelV x u → RelV y v → rd x y H Q → wpAny (model X.prog X.w) X.A (inplaceOp op u v) (EP X pins σ Q) X.xe s
section
variable {X : Cx} {o e value : Expr} {f : Str} {pos pos' tpos : Pos} {ta tv : TE}
theorem pe_fld (he : PE X e ta) (hb : attributeBase e f X.env (eval e X.env) = eval e X.env) : PE X (.Attribute e f pos) (tFld X.K ta f) := by
  intro pins s σ H Q I h
  refine attr_of hb (thn (he pins s σ H _ I h) fun u s1 ⟨x, H1, I1, rx, a, C, dx, fs, v, ex, ea, c, n, l, q⟩ => ?_)
  subst ex
  obtain rfl : u = Value.ref a := rx
  exact getattr_ok I1 ea c n l fun u' s2 I2 ru => ⟨v, H1, I2, ru, q⟩
theorem ps_fld (ha : PE X o ta) (hv : PE X value tv) (hs : swapsWith value (some (.Attribute o f pos')) pos.line X.env = pure false) : PS X (.Assign [.Attribute o f pos'] value pos) (sFld X.K ta tv f) := by
  intro pins s σ H D I h
  refine plainObj_wpAny_Assign_Attribute (thn (hv pins s σ H _ I h) fun u s1 ⟨y, H1, I1, ry, q⟩ => thn (ha pins s1 σ H1 _ I1 q) fun ov s2 ⟨x, H2, I2, rx, a, C, dx, fs, ex, ea, c, n, l, q2⟩ => ?_) hs
  subst ex
  obtain rfl : ov = Value.ref a := rx
  exact setattr_ok I2 ea c n l ry fun s3 I3 => ⟨σ, _, I3, q2⟩
end

/-! ### isinstance -/
section
variable {X : Cx} {pins : List (Addr × Obj)} {σ : St} {H : Hp} {s : Shared} {A : Around} {E : Value → Shared → Prop} {Q : Value → Shared → Prop} {c : Value} {b : Bool}
/-- the type of a value, as the fragment's deciders take it; for an instance its class -/
inductive TyOf (K : PySem.W.Frag) (H : Hp) : V → Value → Prop where
  | non : TyOf K H .non (.type "NoneType")
  | bl (x : Bool) : TyOf K H (.bl x) (.type "bool")
  | int (i : Int) : TyOf K H (.int i) (.type "int")
  | str (x : Str) : TyOf K H (.str x) (.type "str")
  | flt (x : UInt64) : TyOf K H (.flt x) (.type "float")
  | lst {a : Addr} {xs : List V} (e : H a = some (.lst xs)) : TyOf K H (.ref a) (.type "list")
  | frz {a : Addr} {o : Obj} {xs : List V} (e : H a = some (.frz o (.lst xs))) : TyOf K H (.ref a) (.type "list")
  | tup {a : Addr} {xs : List V} (e : H a = some (.tup xs)) : TyOf K H (.ref a) (.type "tuple")
  | dK {a : Addr} {kvs : List (Key × V)} (e : H a = some (.dK kvs)) : TyOf K H (.ref a) (.type "dict")
  | dT {a : Addr} {kvs : List (List Key × V)} (e : H a = some (.dT kvs)) : TyOf K H (.ref a) (.type "dict")
  | ins {a C dx : Addr} {fs : List (Str × V)} (e : H a = some (.ins C dx fs)) (cl : Cls K C) (ha : PySem.W.findIn K (.ref C) "__class__" = some (some (.builtin "object.__class__")))
      (hn : PySem.W.specialIn K (.builtin "object.__class__") "__get__" = some (some (.builtin "getset_descriptor.__get__"))) (htk : PySem.W.takesIn K (.builtin "object.__class__") = some true)
      (hm : PySem.W.mroIn K C (.type "object") = some true) : TyOf K H (.ref a) (.ref C)
/-- isinstance(x, c) for one class c, a built-in or an own one: kitOne's answer -/
theorem isinst_ok {x : V} {u t : Value} (I : Inv X pins σ H s) (rx : RelV x u) (ty : TyOf X.K H x t) (e : PySem.W.kitOne X.K t c = some b) (h : ∀ tk, Q (.bool b) { s with toks := tk }) :
    wpAny (model X.prog X.w) A (call (.builtin "isinstance") [u, c]) Q E s := by
  cases ty with
  | non => cases (show u = Value.none from rx); exact PySem.W.kia_one PySem.W.kitx_none I.kIn True.intro e (fun z => nomatch z) h
  | bl y => cases (show u = Value.bool y from rx); exact PySem.W.kia_one PySem.W.kitx_bool I.kIn True.intro e (fun z => nomatch z) h
  | int i => obtain ⟨t, q⟩ := (show ∃ t, u = Value.int i t from rx); cases q; exact PySem.W.kia_one PySem.W.kitx_int I.kIn True.intro e (fun z => nomatch z) h
  | str y => obtain ⟨t, q⟩ := (show ∃ t, u = Value.str y t from rx); cases q; exact PySem.W.kia_one PySem.W.kitx_str I.kIn True.intro e (fun z => nomatch z) h
  | flt y => obtain ⟨t, q⟩ := (show ∃ t, u = Value.float y t from rx); cases q; exact PySem.W.kia_one PySem.W.kitx_float I.kIn True.intro e (fun z => nomatch z) h
  | @lst a xs ea =>
    cases (show u = Value.ref a from rx)
    obtain ⟨_, _, n, _, h1⟩ := (show ObjOk X.prog X.w H s.heap a (.lst xs) from I.hok a _ ea)
    exact PySem.W.kia_one PySem.W.kitx_list I.kIn ⟨_, h1, rfl⟩ e (fun z => nomatch z) h
  | @frz a ob xs ea =>
    cases (show u = Value.ref a from rx)
    obtain ⟨_, _, _, n, _, h1⟩ := (show ObjOk X.prog X.w H s.heap a (.frz ob (.lst xs)) from I.hok a _ ea)
    exact PySem.W.kia_one PySem.W.kitx_list I.kIn ⟨_, h1, rfl⟩ e (fun z => nomatch z) h
  | @tup a xs ea =>
    cases (show u = Value.ref a from rx)
    obtain ⟨_, _, _, p⟩ := (show ObjOk X.prog X.w H s.heap a (.tup xs) from I.hok a _ ea)
    obtain ⟨o, h1, h2, _⟩ := p
    exact PySem.W.kia_one PySem.W.kitx_tuple I.kIn ⟨o, h1, h2⟩ e (fun z => nomatch z) h
  | @dK a kvs ea =>
    cases (show u = Value.ref a from rx)
    obtain ⟨_, _, vs, _, p⟩ := (show ObjOk X.prog X.w H s.heap a (.dK kvs) from I.hok a _ ea)
    obtain ⟨o, es, ep, h1, h2, _⟩ := p
    exact PySem.W.kia_one PySem.W.kitx_dict I.kIn ⟨o, h1, h2.1⟩ e (fun z => nomatch z) h
  | @dT a kvs ea =>
    cases (show u = Value.ref a from rx)
    obtain ⟨_, _, xs, _, o, es, ep, h1, h2, _⟩ := (show ObjOk X.prog X.w H s.heap a (.dT kvs) from I.hok a _ ea)
    exact PySem.W.kia_one PySem.W.kitx_dict I.kIn ⟨o, h1, h2.1⟩ e (fun z => nomatch z) h
  | @ins a C dx fs ea cl ha hn htk hm =>
    cases (show u = Value.ref a from rx)
    obtain ⟨mA, O, _⟩ := ins_get I.hok ea
    obtain ⟨od, J, _⟩ := O.look
    exact PySem.W.kia_one (PySem.W.kitx_own (cl.get _) cl.hd ha hn htk hm) I.kIn J e (fun z => nomatch z) h
end
end L2

namespace L2
open PySem PySem.Spec PyProof.Rows

/-! ### room -/
structure Room (k : Nat) (A : Around) : Prop where
  hd : A.handled = none
  dp : A.depth + 3 * k + 5 < recursionLimit
  un : A.units + 16 * k + 200 < cLine
  gd : A.guards = some []
theorem Room.mono {j k : Nat} {A : Around} (r : Room k A) (h : j ≤ k) : Room j A := ⟨r.hd, by have := r.dp; omega, by have := r.un; omega, r.gd⟩
theorem Room.deeper {k : Nat} {A : Around} (r : Room (k + 1) A) (env : Env) : Room k (A.deeper env) :=
  ⟨r.hd, by have := r.dp; show A.depth + 1 + 3 * k + 5 < _; omega, by have := r.un; show A.units + 3 + 16 * k + 200 < _; omega, r.gd⟩
theorem make_depth {A : Around} {C : Addr} {us : List Value} {kw : List (Str × Value)} : (A.under (.builtin "type.__call__" ⟨.ref C :: us, kw⟩)).depth = A.depth + 1 := by
  first | rfl | simp [Around.under, Code.weight, Code.isCreation, Code.isGuard, Code.isCaller, Code.frames, Code.isFrame, guardIds]
theorem make_units {A : Around} {C : Addr} {us : List Value} {kw : List (Str × Value)} : (A.under (.builtin "type.__call__" ⟨.ref C :: us, kw⟩)).units = A.units + 1 := by
  first | rfl | simp [Around.under, Code.cUnits, Code.frames, Code.isFrame]
theorem make_guards {A : Around} {C : Addr} {us : List Value} {kw : List (Str × Value)} : (A.under (.builtin "type.__call__" ⟨.ref C :: us, kw⟩)).guards = A.guards := by
  have e : (Code.builtin "type.__call__" ⟨.ref C :: us, kw⟩).isGuard = false := by
    show guardIds.contains "type.__call__" = false
    decide +kernel
  cases h : A.guards <;> simp [Around.under, Code.guards, pushGuards, e, h]
theorem Room.make {k : Nat} {A : Around} (r : Room (k + 1) A) (C : Addr) (us : List Value) (kw : List (Str × Value)) : Room k (A.under (.builtin "type.__call__" ⟨.ref C :: us, kw⟩)) :=
  ⟨r.hd, by have := r.dp; rw [make_depth]; omega, by have := r.un; rw [make_units]; omega, make_guards.trans r.gd⟩
theorem Room.depth {k : Nat} {A : Around} (r : Room k A) : A.depth < recursionLimit := by have := r.dp; omega
theorem Room.units {k : Nat} {A : Around} (r : Room k A) : A.units + 64 < cLine := by have := r.un; omega
/-! ### argument lists and displays -/
def tNil : TA := fun _ H Q => Q [] H
def tCons (ta : TE) (tr : TA) : TA := fun σ H Q => ta σ H fun x H1 => tr σ H1 fun xs H2 => Q (x :: xs) H2
section
variable {X : Cx} {e : Expr} {es : List Expr} {te : TE} {t : TA} {pos : Pos}
theorem pa_nil : PA X [] tNil := fun _ _ _ _ H Q I h => Calls.spliced_nil ⟨[], H, I, .nil, h⟩
theorem pa_cons (ha : PE X e te) (hr : PA X es t) (hs : starEach (e :: es) X.env = (false, eval e X.env) :: starEach es X.env := by rfl) : PA X (e :: es) (tCons te t) := by
  intro pos pins s σ H Q I h
  rw [hs]
  show wpAny _ _ (spliced ((false, eval e X.env) :: backTo pos (starEach es X.env))) _ _ s
  refine Calls.spliced_cons (thn (ha pins s σ H _ I h) fun u s1 ⟨x, H1, I1, r1, q1⟩ => ?_)
  exact thn (hr pos pins s1 σ H1 _ I1 q1) fun us s2 ⟨xs, H2, I2, r2, q2⟩ => ⟨x :: xs, H2, I2, .cons r1 r2, q2⟩

/-- a tuple, a list of written items -/
def tTup (t : TA) : TE := fun σ H Q => t σ H fun xs H1 => xs.length ≤ sizeLine ∧ ∀ p, H1 p = none → Q (.ref p) (upd H1 p (.tup xs))
def tLst (t : TA) : TE := fun σ H Q => t σ H fun xs H1 => xs.length ≤ sizeLine ∧ ∀ p, H1 p = none → Q (.ref p) (upd H1 p (.lst xs))
theorem pe_tup {x1} (h : PA X es t) : PE X (.Tuple es x1 pos) (tTup t) := by
  intro pins s σ H Q I hq
  refine wpAny_Tuple_spliced (thn (h pos pins s σ H _ I hq) fun us s1 ⟨xs, H1, I1, r, z, q⟩ => ⟨by rw [← r.length]; exact z, ?_⟩)
  have hf : H1 s1.heap.objs.size = none := I1.hok.fresh (Nat.le_refl _)
  refine ⟨.ref s1.heap.objs.size, upd H1 s1.heap.objs.size (.tup xs), I1.laid (t' := s1.toks) (fun b u e => Heap.get?_push_of_some _ e) (Nat.le_refl _) ?_, rfl, q _ hf⟩
  exact ⟨z, us, r, ⟨_, Heap.get?_push_size _ rfl, rfl, _, rfl, rfl⟩⟩
theorem pe_lst (h : PA X es t) : PE X (.List es pos) (tLst t) := by
  intro pins s σ H Q I hq
  refine wpAny_List_spliced (thn (h pos pins s σ H _ I hq) fun us s1 ⟨xs, H1, I1, r, z, q⟩ => ⟨by rw [← r.length]; exact z, ?_⟩)
  have hf : H1 s1.heap.objs.size = none := I1.hok.fresh (Nat.le_refl _)
  refine ⟨.ref s1.heap.objs.size, upd H1 s1.heap.objs.size (.lst xs), I1.laid (t' := s1.toks) (fun b u e => Heap.get?_push_of_some _ e) (Nat.le_refl _) ?_, rfl, q _ hf⟩
  exact ⟨z, us, 0, r, Heap.get?_push_size _ rfl⟩
end

/-! ### what a def promises -/
/-- a def's promise: the bound arguments in the parameters' order, the heap, the wanted end, the wanted exception -/
abbrev Sp := List V → Hp → VK → XK → Prop
/-- how an exception lies behind a call (file 08 gives it): the callers' frames, abstract heap and state ahead of the call, the wish, the exception, the state -/
abbrev CXT := List Env → Hp → Shared → XK → Value → Shared → Prop

/-- the state at a call -/
structure Env0 (P : Program) (w : World) (K : PySem.W.Frag) (mg : Str → Option Value) (base : Heap) (A : Around) (outer : List Env) (s : Shared) (H : Hp) : Prop where
  frames : A.frames = some outer
  mod : Mod K mg base
  bs : ∀ b o, base.get? b = some o → s.heap.get? b = some o ∧ H b = none
  bsz : base.objs.size ≤ s.heap.objs.size
  funs : s.heap.FunFrames base outer
  frf : ∀ b ∈ frs outer, H b = none
  hok : HOk P w H s.heap
  bare : AllBare s.gens
/-- a call's end -/
def CE (outer : List Env) (P : Program) (w : World) (H : Hp) (s : Shared) (Q : VK) (u : Value) (s' : Shared) : Prop :=
  ∃ v H', s'.os = s.os ∧ AllBare s'.gens ∧ Un (frs outer) [] H H' s.heap s'.heap ∧ HOk P w H' s'.heap ∧ RelV v u ∧ Q v H'
def CR (CX : CXT) (outer : List Env) (P : Program) (w : World) (H : Hp) (s : Shared) (Q : VK) (E : XK) (r : Result) (s' : Shared) : Prop :=
  match r with
  | .ok (.ret u) => CE outer P w H s Q u s'
  | .ok _ => False
  | .error e => CX outer H s E e s'
structure FnOk (P : Program) (w : World) (K : PySem.W.Frag) (mg : Str → Option Value) (base : Heap) (CX : CXT) (k : Nat) (f : Addr) (fd : FuncData) (ps : List Str) (sp : Sp) : Prop where
  len : ∀ vs H Q E, sp vs H Q E → vs.length = ps.length
  run : ∀ (A : Around) (outer : List Env) (s : Shared) (H : Hp) (args : Args) (us : List Value) (vs : List V) (Q : VK) (E : XK), Room k A → Env0 P w K mg base A outer s H → BindsTo s fd args (ps.zip us) → Vals vs us → sp vs H Q E →
    codeAny (model P w) A (.call (.ref f) args) (CR CX outer P w H s Q E) s
theorem Env0.make {P : Program} {w : World} {K : PySem.W.Frag} {mg : Str → Option Value} {base : Heap} {A : Around} {outer : List Env} {s : Shared} {H : Hp} (e : Env0 P w K mg base A outer s H) (C : Addr) (us : List Value) (kw : List (Str × Value)) :
    Env0 P w K mg base (A.under (.builtin "type.__call__" ⟨.ref C :: us, kw⟩)) outer s H := ⟨by first | exact e.frames | (simpa [Around.under, Code.envs, Code.isFrame, pushEnvs] using e.frames), e.mod, e.bs, e.bsz, e.funs, e.frf, e.hok, e.bare⟩
section
variable {X : Cx} {pins : List (Addr × Obj)} {σ : St} {H : Hp} {s s' : Shared}
/-- from a body: what a callee wants -/
theorem Inv.env0 (I : Inv X pins σ H s) : Env0 X.prog X.w X.K X.mg X.base X.A X.stack s H :=
  ⟨I.ok.frames, I.ok.mod, I.bs, Nat.le_trans I.ok.bsz I.sz, I.stack, I.stkFree, I.hok, I.bare⟩
/-- behind a call -/
theorem Inv.after {Q : VK} {u : Value} (I : Inv X pins σ H s) (h : CE X.stack X.prog X.w H s Q u s') : EP X pins σ Q u s' := by
  obtain ⟨v, H', os, bare, un, hok, r, q⟩ := h
  obtain ⟨hh, g, d, t, os'⟩ := s'
  obtain rfl : os' = s.os := os
  exact ⟨v, H', I.call (h' := hh) (g' := g) (d' := d) (t' := t) (ch := []) un hok bare (fun b z => absurd z (by simp)), r, q⟩
end

/-! ### calls -/
/-- f(..): the written arguments, then the defaults dvs; E: what is wanted of an exception -/
def tCall (sp : Sp) (dvs : List V) (E : XK) (t : TA) : TE := fun σ H Q => t σ H fun vs H1 => sp (vs ++ dvs) H1 Q E
/-- C(..): a new instance and its dict, then __init__ -/
def tMake (C : Addr) (sp : Sp) (dvs : List V) (E : XK) (t : TA) : TE := fun σ H Q => t σ H fun vs H1 => ∀ x dx, H1 x = none → H1 dx = none → dx ≠ x →
  sp (.ref x :: (vs ++ dvs)) (upd (upd H1 dx (.own x)) x (.ins C dx [])) (fun v H2 => v = .non ∧ Q (.ref x) H2) E

/-- how the parameters are bound: us the positional arguments, kw the keywords' values by name, ds the defaults that fill up -/
def Binds (K : PySem.W.Frag) (fd : FuncData) (ps : List Str) (ds : List Value) : Prop :=
  ∀ (s : Shared) (us : List Value), K.In s.heap → (us ++ ds).length = ps.length → BindsTo s fd ⟨us, []⟩ (ps.zip (us ++ ds))
/-- every parameter is given -/
theorem Binds.all {K : PySem.W.Frag} {fd : FuncData} {ps : List Str} (h : ∀ us : List Value, us.length = ps.length → bindArgs fd ⟨us, []⟩ = pure (ps.zip us)) : Binds K fd ps [] := fun s us _ hl => by
  rw [List.append_nil] at hl ⊢
  exact .of_eq (h us hl)

/-- an exception of a callee reaches what this body wants of exceptions -/
def Passes (CX : CXT) (X : Cx) (E : XK) : Prop := ∀ (pins : List (Addr × Obj)) (σ : St) (H : Hp) (s : Shared) (e : Value) (s' : Shared), Inv X pins σ H s → CX X.stack H s E e s' → X.xe e s'

section
variable {X : Cx} {CX : CXT} {k : Nat} {f C : Addr} {fd : FuncData} {ps : List Str} {sp : Sp} {dvs : List V} {ds : List Value} {E : XK} {x m : Str} {p pos apos : Pos} {e o : Expr} {es : List Expr} {ta : TE} {t : TA}

/-- the callee runs -/
theorem run_fn {pins : List (Addr × Obj)} {σ : St} {H : Hp} {s : Shared} {Q : VK} {us : List Value} {vs : List V} (F : FnOk X.prog X.w X.K X.mg X.base CX k f fd ps sp) (hr : Room k X.A) (hb : Binds X.K fd ps ds) (hd : Vals dvs ds) (hx : Passes CX X E)
    (I : Inv X pins σ H s) (r : Vals vs us) (h : sp (vs ++ dvs) H Q E) : wpAny (model X.prog X.w) X.A (call (.ref f) us) (EP X pins σ Q) X.xe s := by
  have r2 : Vals (vs ++ dvs) (us ++ ds) := r.append hd
  have hl : (us ++ ds).length = ps.length := by rw [← r2.length]; exact F.len _ _ _ _ h
  refine wpAny_call (codeAny_mono (F.run X.A X.stack s H ⟨us, []⟩ (us ++ ds) (vs ++ dvs) Q E hr I.env0 (hb s us I.kIn hl) r2 h) fun r s' hq => ?_)
  cases r with
  | error e => exact hx pins σ H s e s' I hq
  | ok fl =>
    cases fl with
    | ret u => exact I.after hq
    | next => exact False.elim hq
    | brk => exact False.elim hq
    | cont => exact False.elim hq

theorem pe_call (F : FnOk X.prog X.w X.K X.mg X.base CX k f fd ps sp) (hr : Room k X.A) (hg : Gl X x) (hm : X.mg x = some (.ref f)) (hk : PySem.W.keepIn X.K (.ref f) = true) (hb : Binds X.K fd ps ds) (hd : Vals dvs ds) (hx : Passes CX X E)
    (ha : PA X (e :: es) t) (hdb : (x == ("__debug__" : Str)) = false := by decide) (he : starEach (e :: es) X.env = (false, eval e X.env) :: starEach es X.env := by rfl) (hpl : (backTo pos (starEach es X.env)).any (·.1) = false := by rfl) :
    PE X (.Call (.Name x p) (e :: es) [] pos) (tCall sp dvs E t) := by
  intro pins s σ H Q I h
  refine wpAny_Call_Name_kw (ld_glob I hg hm ?_ hdb)
  refine PySem.W.callWith_K (h₀ := X.base) I.ok.mod.kin hk (thn (ha pos pins s σ H _ I h) fun us s1 ⟨vs, H1, I1, r, q⟩ => ⟨I1.kIn, ?_⟩) he hpl
  exact run_fn F hr hb hd hx I1 r q
/-- what a class must have to be made -/
structure Mk (K : PySem.W.Frag) (C f : Addr) : Prop where
  makes : PySem.W.makesIn K C = true
  init : PySem.W.findIn K (.ref C) "__init__" = some (some (.ref f))
  fn : PySem.W.isFn K (.ref f) = true
  kp : PySem.W.keepIn K (.ref C) = true

theorem run_make {pins : List (Addr × Obj)} {σ : St} {H : Hp} {s : Shared} {Q : VK} {us : List Value} {vs : List V} (M : Mk X.K C f) (F : FnOk X.prog X.w X.K X.mg X.base CX k f fd ps sp) (hr : Room (k + 1) X.A) (hb : Binds X.K fd ps ds) (hd : Vals dvs ds)
    (hx : Passes CX X E) (I : Inv X pins σ H s) (r : Vals vs us)
    (h : ∀ x dx, H x = none → H dx = none → dx ≠ x → sp (.ref x :: (vs ++ dvs)) (upd (upd H dx (.own x)) x (.ins C dx [])) (fun v H2 => v = .non ∧ Q (.ref x) H2) E) :
    wpAny (model X.prog X.w) X.A (call (.ref C) us) (EP X pins σ Q) X.xe s := by
  have hq := h (s.heap.objs.size + 1) s.heap.objs.size (I.hok.fresh (Nat.le_succ _)) (I.hok.fresh (Nat.le_refl _)) (Nat.ne_of_lt (Nat.lt_succ_self _))
  have I2 := Inv.made (C := C) I
  have r2 : Vals (V.ref (s.heap.objs.size + 1) :: (vs ++ dvs)) (Value.ref (s.heap.objs.size + 1) :: (us ++ ds)) := .cons rfl (r.append hd)
  have hl : (Value.ref (s.heap.objs.size + 1) :: us ++ ds).length = ps.length := by
    have e := r2.length
    rw [F.len _ _ _ _ hq] at e
    exact e.symm
  refine wpAny_call (make_map (f := f) I.kIn M.makes M.init (beq_iff_eq.mp M.fn) (codeAny_mono (F.run _ X.stack _ _ ⟨Value.ref (s.heap.objs.size + 1) :: us, []⟩ (Value.ref (s.heap.objs.size + 1) :: (us ++ ds)) _ _ E (hr.make C us [])
    (I2.env0.make C us []) (hb _ (Value.ref (s.heap.objs.size + 1) :: us) I2.kIn hl) r2 hq) fun r s' hq' => ?_))
  cases r with
  | error e => exact hx pins σ _ _ e s' I2 hq'
  | ok fl =>
    cases fl with
    | ret u =>
      obtain ⟨v, H', I3, rv, ev, q3⟩ := I2.after hq'
      subst ev
      exact ⟨rv, ⟨V.ref (s.heap.objs.size + 1), H', I3, rfl, q3⟩⟩
    | next => exact False.elim hq'
    | brk => exact False.elim hq'
    | cont => exact False.elim hq'
theorem pe_make (M : Mk X.K C f) (F : FnOk X.prog X.w X.K X.mg X.base CX k f fd ps sp) (hr : Room (k + 1) X.A) (hg : Gl X x) (hm : X.mg x = some (.ref C)) (hb : Binds X.K fd ps ds) (hd : Vals dvs ds) (hx : Passes CX X E)
    (ha : PA X (e :: es) t) (hdb : (x == ("__debug__" : Str)) = false := by decide) (he : starEach (e :: es) X.env = (false, eval e X.env) :: starEach es X.env := by rfl) (hpl : (backTo pos (starEach es X.env)).any (·.1) = false := by rfl) :
    PE X (.Call (.Name x p) (e :: es) [] pos) (tMake C sp dvs E t) := by
  intro pins s σ H Q I h
  refine wpAny_Call_Name_kw (ld_glob I hg hm ?_ hdb)
  refine PySem.W.callWith_K (h₀ := X.base) I.ok.mod.kin M.kp (thn (ha pos pins s σ H _ I h) fun us s1 ⟨vs, H1, I1, r, q⟩ => ⟨I1.kIn, ?_⟩) he hpl
  exact run_make M F hr hb hd hx I1 r q
end

/-! ### keywords -/
section
variable {X : Cx} {CX : CXT} {k : Nat} {f C : Addr} {fd : FuncData} {ps ks : List Str} {sp : Sp} {E : XK} {x m : Str} {p pos apos kpos : Pos} {e o : Expr} {es : List Expr} {kws : List Keyword} {te ta : TE} {t tk : TA} {nm : Option Str}
variable {g : List Value → List Value → List Value} {gV : List V → List V → List V}
end

/-! ### a def's body keeps its promise -/
/-- names: the parameters first -/
structure FnScope (N P : List Str) (sc : Scope) : Prop where
  kind : sc.kind = .function
  co : sc.isCoroutine = false
  gen : sc.isGenerator = false
  nd : N.Nodup
  pre : N.take P.length = P
  par : ∀ x ∈ P, sc.names.lookup x = some .local ∨ sc.names.lookup x = some .cell
  nofree : ∀ y ∈ sc.names, y.2 ≠ .free

theorem bindL_out {kindOf : Str → Option NameKind} {x : Str} : ∀ {binds : List (Str × Value)} {m : Str → Option Value}, (∀ v, (x, v) ∉ binds) → bindL kindOf binds m x = m x
  | [], _, _ => rfl
  | (n, v) :: r, m, h => by
    unfold bindL
    rw [bindL_out fun w hw => h w (List.mem_cons_of_mem _ hw)]
    split
    · have : x ≠ n := by rintro rfl; exact h v List.mem_cons_self
      simp [this]
    · rfl
theorem bindC_out {kindOf : Str → Option NameKind} {x : Str} : ∀ {binds : List (Str × Value)} {m : Str → Option Value}, (∀ v, (x, v) ∉ binds) → bindC kindOf binds m x = m x
  | [], _, _ => rfl
  | (n, v) :: r, m, h => by
    unfold bindC
    rw [bindC_out fun w hw => h w (List.mem_cons_of_mem _ hw)]
    split
    · rfl
    · have : x ≠ n := by rintro rfl; exact h v List.mem_cons_self
      simp [this]
theorem bindL_get {kindOf : Str → Option NameKind} {x : Str} {v : Value} : ∀ {P : List Str} {vs : List Value} {i : Nat} {m : Str → Option Value}, P.Nodup → P[i]? = some x → vs[i]? = some v → kindOf x = some .local →
    bindL kindOf (P.zip vs) m x = some v
  | [], _, _, _, _, h, _, _ => by simp at h
  | _ :: _, [], _, _, _, _, h, _ => by simp at h
  | p :: P, w :: vs, 0, m, nd, h1, h2, hk => by
    simp at h1 h2; subst h1; subst h2
    show bindL kindOf ((p, w) :: P.zip vs) m p = _
    unfold bindL
    rw [bindL_out fun v hv => (List.nodup_cons.mp nd).1 (List.of_mem_zip hv).1, if_pos hk]
    simp
  | p :: P, w :: vs, i + 1, m, nd, h1, h2, hk => by
    show bindL kindOf ((p, w) :: P.zip vs) m x = _
    unfold bindL
    exact bindL_get (i := i) (List.nodup_cons.mp nd).2 (by simpa using h1) (by simpa using h2) hk
theorem bindC_get {kindOf : Str → Option NameKind} {x : Str} {v : Value} : ∀ {P : List Str} {vs : List Value} {i : Nat} {m : Str → Option Value}, P.Nodup → P[i]? = some x → vs[i]? = some v → kindOf x ≠ some .local →
    bindC kindOf (P.zip vs) m x = some v
  | [], _, _, _, _, h, _, _ => by simp at h
  | _ :: _, [], _, _, _, _, h, _ => by simp at h
  | p :: P, w :: vs, 0, m, nd, h1, h2, hk => by
    simp at h1 h2; subst h1; subst h2
    show bindC kindOf ((p, w) :: P.zip vs) m p = _
    unfold bindC
    rw [bindC_out fun v hv => (List.nodup_cons.mp nd).1 (List.of_mem_zip hv).1, if_neg hk]
    simp
  | p :: P, w :: vs, i + 1, m, nd, h1, h2, hk => by
    show bindC kindOf ((p, w) :: P.zip vs) m x = _
    unfold bindC
    exact bindC_get (i := i) (List.nodup_cons.mp nd).2 (by simpa using h1) (by simpa using h2) hk

/-- the names' values at the entry -/
def start (N : List Str) (vs : List V) : St := vs.map some ++ List.replicate (N.length - vs.length) none

/-- the context of a def's body, at its entry; an exception leaves the frame, then lies as CX says -/
def cxOf (CX : CXT) (P : Program) (w : World) (K : PySem.W.Frag) (mg : Str → Option Value) (base : Heap) (N : List Str) (qual : Str) (scope : Scope) (f : Addr) (cd : Value) (A : Around) (outer : List Env) (s : Shared) (H : Hp) (E : XK) : Cx where
  prog := P
  w := w
  K := K
  mg := mg
  base := base
  A := A.deeper (envOfC qual scope s.heap.objs.size f cd)
  N := N
  s₀ := s
  H₀ := H
  env := envOfC qual scope s.heap.objs.size f cd
  outer := outer
  stack := envOfC qual scope s.heap.objs.size f cd :: outer
  ex := []
  calm := true
  fn := fun _ => true
  pn := []
  xe := fun e s' => wpAny (model P w) (A.deeper (envOfC qual scope s.heap.objs.size f cd)) (leaving (envOfC qual scope s.heap.objs.size f cd) e) (fun _ s'' => CX outer H s E e s'') (fun e' s'' => CX outer H s E e' s'') s'

theorem cell_has {sc : Scope} {n : Nat} {x : Str} (h : sc.names.lookup x = some .cell) : ∃ c, (cellsFrom n sc.names []).lookup x = some c := by
  have q := PySem.W.cellsFrom_some sc.names n [] (.inl h)
  exact Option.isSome_iff_exists.mp q

theorem inv_start {CX : CXT} {P : Program} {w : World} {K : PySem.W.Frag} {mg : Str → Option Value} {base : Heap} {N ps : List Str} {qual : Str} {scope : Scope} {f : Addr} {cd : Value} {A : Around} {outer : List Env} {s s1 : Shared} {H : Hp} {E : XK} {us : List Value} {vs : List V}
    (S : FnScope N ps scope) (hd : A.handled = none) (e0 : Env0 P w K mg base A outer s H) (hl : vs.length = ps.length) (r : Vals vs us)
    (x : InCallC s s.heap.objs.size (bindL (envOfC qual scope s.heap.objs.size f cd).kindOf (ps.zip us) fun _ => none) (cellsFrom (s.heap.objs.size + 1) scope.names []) (bindC (envOfC qual scope s.heap.objs.size f cd).kindOf (ps.zip us) fun _ => none) s1) :
    Inv (cxOf CX P w K mg base N qual scope f cd A outer s H E) [] (start N vs) H s1 := by
  have hpl : ps.length ≤ N.length := by have := congrArg List.length S.pre; rw [List.length_take] at this; omega
  obtain ⟨h1, tk, rfl, hk⟩ := x.done
  have noA : ∀ b : Addr, b ∉ (cxOf CX P w K mg base N qual scope f cd A outer s H E).ex := fun b z => absurd (show b ∈ ([] : List Addr) from z) (by simp)
  refine ⟨⟨e0.mod, S.kind, rfl, rfl, Nat.le_refl _, fun y z c h1 h2 => ?_, fun y hy => ?_, fun y c _ h => ?_, fun _ => hd, Around.frames_deeper e0.frames, .inr ⟨rfl, rfl⟩, fun b z => absurd z (noA b), e0.bs, e0.bsz, fun b _ _ => noA b, fun b z => absurd z (noA b), e0.funs, e0.frf⟩,
    rfl, e0.bare, Un.kept hk, ⟨_, x.toInCall.ns, fun i y v h1 h2 h3 => ?_⟩, fun y c h => ⟨_, x.cell y c h⟩, e0.hok.fresh (Nat.le_refl _), fun y c h => ?_, fun p hp => absurd (show p ∈ ([] : List (Addr × Obj)) from hp) (by simp), e0.hok.kept hk, ?_⟩
  · exact name_of_addr x.apart (PySem.mem_of_lookup h1) (PySem.mem_of_lookup h2)
  · have hy : scope.names.lookup y = some .cell ∨ scope.names.lookup y = some .free := hy
    rcases hy with hy | hy
    · exact cell_has hy
    · exact absurd rfl (S.nofree _ (PySem.mem_of_lookup hy))
  · exact Nat.le_of_lt (x.above y c (PySem.mem_of_lookup h))
  · have hi : i < vs.length := by
      unfold start at h2
      by_cases hi : i < vs.length
      · exact hi
      · rw [List.getElem?_append_right (by simpa using hi)] at h2
        rw [List.getElem?_replicate] at h2
        split at h2 <;> cases h2
    have ha : vs[i]? = some v := by
      unfold start at h2
      rw [List.getElem?_append_left (by simpa using hi), List.getElem?_map] at h2
      cases e : vs[i]? with
      | none => rw [e] at h2; cases h2
      | some a => rw [e] at h2; cases h2; rfl
    obtain ⟨u, hu, rv⟩ := r.get ha
    have hp : ps[i]? = some y := by
      rw [← S.pre, List.getElem?_take_of_lt (by omega)]; exact h1
    have ndP : ps.Nodup := by rw [← S.pre]; exact S.nd.sublist (List.take_sublist _ _)
    refine ⟨u, rv, ?_⟩
    rcases S.par y (List.mem_of_getElem? hp) with k | k
    · exact .inl ⟨k, bindL_get ndP hp hu k⟩
    · obtain ⟨c, e⟩ := cell_has (n := s.heap.objs.size + 1) k
      refine .inr ⟨.inl k, c, e, ?_⟩
      have q := x.cell y c e
      rw [bindC_get ndP hp hu (by show scope.names.lookup y ≠ _; rw [k]; decide)] at q
      exact q
  · exact e0.hok.fresh (Nat.le_of_lt (x.above y c (PySem.mem_of_lookup h)))
  · unfold start
    show _ = N.length
    rw [List.length_append, List.length_map, List.length_replicate]
    omega

/-- THE RULE: a def (or a method) of the text, by its body. The body's reading t is chosen for each entry; it is run at the parameters' values -/
theorem fn_of {CX : CXT} {P : Program} {w : World} {K : PySem.W.Frag} {mg : Str → Option Value} {base : Heap} {k : Nat} {f : Addr} {name qual : Str} {params : Arguments} {body : List Stmt} {scope : Scope} {dV kV doc pm cdv ct oc : Value} {an od : Option Addr}
    {osl : Array (Option Value)} {N ps : List Str} {sp : Sp} (lk : K.lookup f = some ⟨oc, od, .func (PySem.W.fnOf name qual params body scope dV kV doc pm an cdv ct), osl⟩) (hcd : PySem.W.codeIn K cdv qual = true) (S : FnScope N ps scope)
    (len : ∀ vs H Q E, sp vs H Q E → vs.length = ps.length)
    (hbody : ∀ (A : Around) (outer : List Env) (s : Shared) (H : Hp) (vs : List V) (Q : VK) (E : XK), Room k (A.deeper (envOfC qual scope s.heap.objs.size f cdv)) → sp vs H Q E →
      ∃ t, PSs (cxOf CX P w K mg base N qual scope f cdv A outer s H E) body t ∧ t { nx := fun _ H' => Q .non H', rt := Q } (start N vs) H) :
    FnOk P w K mg base CX (k + 1) f (PySem.W.fnOf name qual params body scope dV kV doc pm an cdv ct) ps sp := by
  refine ⟨len, fun A outer s H args us vs Q E hr e0 hb r hsp => ?_⟩
  have hl := len _ _ _ _ hsp
  have KX : K.In s.heap := e0.mod.kin.keeps fun b o e => (e0.bs b o e).1
  have lim : s.heap.NoLimit := e0.mod.nolimit.keeps fun b o e => (e0.bs b o e).1
  have hkind : ∀ y ∈ ps.zip us, scope.names.lookup y.1 = some .local ∨ (scope.names.lookup y.1 = some .cell ∧ ((cellsFrom (s.heap.objs.size + 1) scope.names []).lookup y.1).isSome = true) := fun ⟨n, v⟩ hy => by
    rcases S.par n (List.of_mem_zip hy).1 with q | q
    · exact .inl q
    · exact .inr ⟨q, PySem.W.cellsFrom_some _ _ _ (.inl q)⟩
  refine codeAny_call_function hr.depth (KX _ _ lk) rfl S.co S.gen rfl (PySem.W.codeRec_of KX hcd) (hb _ _ _ _ ?_)
  refine wpAny_newFunctionEnv_cells S.kind hkind fun env he s1 x => ?_
  subst he
  refine ⟨lim.keeps x.toInCall.keep, codeAny_func ?_⟩
  obtain ⟨t, ht, hq⟩ := hbody A outer s H vs Q E (hr.deeper _) hsp
  have I : Inv (cxOf CX P w K mg base N qual scope f cdv A outer s H E) [] (start N vs) H s1 := inv_start S hr.hd e0 hl r x
  refine wpAny_mono (ht [] s1 (start N vs) H _ I hq) (fun fl s' hs => ?_) fun e s' hs => hs
  have fin : ∀ {σ' : St} {H' : Hp} {v : V} {u : Value}, Inv (cxOf CX P w K mg base N qual scope f cdv A outer s H E) [] σ' H' s' → RelV v u → Q v H' → CE outer P w H s Q u s' :=
    fun {σ' H' v u} J rv q => ⟨v, H', J.os, J.bare, J.base, J.hok, rv, q⟩
  cases fl with
  | ret u =>
    obtain ⟨v, σ', H', J, rv, q⟩ := hs
    exact fin J rv q
  | next =>
    obtain ⟨σ', H', J, q⟩ := hs
    exact fin (v := V.non) (u := Value.none) J rfl q
  | brk =>
    obtain ⟨_, _, _, q⟩ := hs
    exact False.elim q
  | cont =>
    obtain ⟨_, _, _, q⟩ := hs
    exact False.elim q
end L2

namespace L2
open PySem PySem.Spec PyProof.Rows
section
variable {X : Cx} {x : Str} {p pos : Pos} {e : Expr} {es : List Expr} {t : TA} {id T : String} {r : List V → Hp → VK → Prop}

def tCB (r : List V → Hp → VK → Prop) (t : TA) : TE := fun σ H Q => t σ H fun vs H1 => r vs H1 Q
/-- f(e, ..), f a built-in function -/
theorem pe_callB (hc : CallR X (.builtin id) r) (hg : Gl X x) (hm : X.mg x = none) (hv : bootBuiltins x = some (.builtin id)) (ha : PA X (e :: es) t) (hn : x ≠ "__name__" := by decide) (hdb : (x == ("__debug__" : Str)) = false := by decide)
    (he : starEach (e :: es) X.env = (false, eval e X.env) :: starEach es X.env := by rfl) (hpl : (backTo pos (starEach es X.env)).any (·.1) = false := by rfl) : PE X (.Call (.Name x p) (e :: es) [] pos) (tCB r t) := by
  intro pins s σ H Q I h
  refine wpAny_Call_Name_kw (ld_blt I hg hm hv ?_ hn hdb)
  exact PyProof.Rows.callWith_builtin1 (thn (ha pos pins s σ H _ I h) fun us s1 ⟨vs, H1, I1, r1, q1⟩ => hc pins s1 σ H1 vs us Q I1 r1 q1) he hpl
/-- T(e, ..), T a built-in type -/
theorem pe_callTy (hc : CallR X (.type T) r) (hg : Gl X x) (hm : X.mg x = none) (hv : bootBuiltins x = some (.type T)) (ha : PA X (e :: es) t) (hn : x ≠ "__name__" := by decide) (hdb : (x == ("__debug__" : Str)) = false := by decide)
    (he : starEach (e :: es) X.env = (false, eval e X.env) :: starEach es X.env := by rfl) (hpl : (backTo pos (starEach es X.env)).any (·.1) = false := by rfl) : PE X (.Call (.Name x p) (e :: es) [] pos) (tCB r t) := by
  intro pins s σ H Q I h
  refine wpAny_Call_Name_kw (ld_blt I hg hm hv ?_ hn hdb)
  exact PyProof.Rows.callWith_type1 (thn (ha pos pins s σ H _ I h) fun us s1 ⟨vs, H1, I1, r1, q1⟩ => hc pins s1 σ H1 vs us Q I1 r1 q1) he hpl
end
end L2

namespace L2
open PySem PySem.Spec PyProof.Rows

/-! ### lists of pairs as tables -/
section
variable {κ : Type} [DecidableEq κ]
def valV (kvs : List (κ × V)) (k : κ) : Option V := (kvs.find? fun kv => decide (kv.1 = k)).map (·.2)
/-- in its place, or at the end -/
def putK (kvs : List (κ × V)) (k : κ) (v : V) : List (κ × V) :=
  if (kvs.any fun kv => decide (kv.1 = k)) = true then kvs.map (fun kv => if kv.1 = k then (kv.1, v) else kv) else kvs ++ [(k, v)]
theorem valV_nil {k : κ} : valV ([] : List (κ × V)) k = none := rfl
theorem valV_pos {p : κ × V} {r : List (κ × V)} {k : κ} (e : p.1 = k) : valV (p :: r) k = some p.2 := by simp [valV, List.find?_cons, e]
theorem valV_neg {p : κ × V} {r : List (κ × V)} {k : κ} (e : ¬ p.1 = k) : valV (p :: r) k = valV r k := by simp [valV, List.find?_cons, e]
theorem valV_any (k : κ) : ∀ kvs : List (κ × V), (kvs.any fun kv => decide (kv.1 = k)) = (valV kvs k).isSome
  | [] => rfl
  | p :: r => by
    rw [List.any_cons]
    by_cases e : p.1 = k
    · simp only [valV_pos e, decide_eq_true e, Bool.true_or, Option.isSome_some]
    · rw [valV_neg e, decide_eq_false e, Bool.false_or]; exact valV_any k r
theorem length_putK (kvs : List (κ × V)) (k : κ) (v : V) : (putK kvs k v).length ≤ kvs.length + 1 := by
  unfold putK
  split
  · rw [List.length_map]; omega
  · rw [List.length_append, List.length_cons, List.length_nil]; omega
theorem putK_new {kvs : List (κ × V)} {k : κ} (v : V) (h : valV kvs k = none) : putK kvs k v = kvs ++ [(k, v)] := by
  unfold putK
  rw [valV_any, h]
  exact if_neg (by decide)

theorem RelO.isSome_eq {o : Option V} {u : Option Value} (r : RelO o u) : o.isSome = u.isSome := by
  cases o with
  | none => cases u with
    | none => rfl
    | some _ => exact (show False from r).elim
  | some _ => cases u with
    | none => exact (show False from r).elim
    | some _ => rfl
theorem RelO.getD {o : Option V} {u : Option Value} {d : V} {d' : Value} (r : RelO o u) (rd : RelV d d') : RelV (o.getD d) (u.getD d') := by
  cases o with
  | none => cases u with
    | none => exact rd
    | some _ => exact (show False from r).elim
  | some _ => cases u with
    | none => exact (show False from r).elim
    | some _ => exact r

/-- raw tables of the same keys -/
theorem KV.val {kvs : List (κ × V)} {vs : List (κ × Value)} (r : KV kvs vs) (k : κ) : RelO (valV kvs k) (valueAt vs k) := by
  unfold KV at r
  induction r with
  | nil => exact True.intro
  | @cons p q ps qs h t ih =>
    obtain ⟨h1, h2⟩ := h
    by_cases e : p.1 = k
    · have e' : q.1 = k := h1.symm.trans e
      have b : valueAt (q :: qs) k = some q.2 := by simp [valueAt, List.find?_cons, e']
      rw [valV_pos e, b]; exact h2
    · have e' : ¬ q.1 = k := fun z => e (h1.trans z)
      have b : valueAt (q :: qs) k = valueAt qs k := by simp [valueAt, List.find?_cons, e']
      rw [valV_neg e, b]; exact ih
theorem KV.any {kvs : List (κ × V)} {vs : List (κ × Value)} (r : KV kvs vs) (k : κ) : (kvs.any fun kv => decide (kv.1 = k)) = vs.any fun kv => decide (kv.1 = k) := by
  unfold KV at r
  induction r with
  | nil => rfl
  | cons h t ih => rw [List.any_cons, List.any_cons, ih, h.1]
theorem KV.repl {kvs : List (κ × V)} {vs : List (κ × Value)} (r : KV kvs vs) (k : κ) {y : V} {u : Value} (ry : RelV y u) :
    KV (kvs.map fun kv => if kv.1 = k then (kv.1, y) else kv) (vs.map fun kv => if kv.1 = k then (kv.1, u) else kv) := by
  unfold KV at r ⊢
  induction r with
  | nil => exact .nil
  | @cons p q ps qs h t ih =>
    rw [List.map_cons, List.map_cons]
    refine .cons ?_ ih
    obtain ⟨h1, h2⟩ := h
    by_cases e : p.1 = k
    · rw [if_pos e, if_pos (h1.symm.trans e)]; exact ⟨h1, ry⟩
    · rw [if_neg e, if_neg (fun z => e (h1.trans z))]; exact ⟨h1, h2⟩
theorem KV.put {kvs : List (κ × V)} {vs : List (κ × Value)} (r : KV kvs vs) (k : κ) {y : V} {u : Value} (ry : RelV y u) : KV (putK kvs k y) (stored vs k u) := by
  unfold putK stored
  rw [r.any k]
  by_cases e : (vs.any fun kv => decide (kv.1 = k)) = true
  · rw [if_pos e, if_pos e]; exact r.repl k ry
  · rw [if_neg e, if_neg e]; exact Paired.snoc r ⟨rfl, ry⟩
theorem KV.length {kvs : List (κ × V)} {vs : List (κ × Value)} (r : KV kvs vs) : kvs.length = vs.length := Paired.length r
end


/-! ### a tracked dict, its keys ints and texts or tuples of these -/
theorem kV_is {P : Program} {w : World} {k : Key} {u : Value} (r : RelV (kV k) u) : (mixKind P w).is k u = true := by
  cases k with
  | inl i => obtain ⟨t, e⟩ := (show ∃ t, u = Value.int i t from r); subst e; exact mixKind_int P w i t
  | inr x => obtain ⟨t, e⟩ := (show ∃ t, u = Value.str x t from r); subst e; exact mixKind_str P w x t
theorem items_are {P : Program} {w : World} : ∀ {ks : List Key} {us : List Value}, Vals (ks.map kV) us → ItemsAre (mixKind P w) ks us
  | [], _, r => by rw [List.map_nil] at r; cases r; exact .nil
  | k :: ks, _, r => by
    rw [List.map_cons] at r
    cases r with
    | cons h t => exact .cons (kV_is h) (items_are t)

/-- raw entries of a dict with tuple keys -/
abbrev KT (H : Hp) : List (List Key × V) → List (List Key × Addr × Value) → Prop := Paired fun p q => p.1 = q.1 ∧ H q.2.1 = some (.tup (p.1.map kV)) ∧ RelV p.2 q.2.2
theorem KT.val {H : Hp} {kvs : List (List Key × V)} {xs : List (List Key × Addr × Value)} (r : KT H kvs xs) (k : List Key) : RelO (valV kvs k) ((atKey xs k).map (·.2)) := by
  induction r with
  | nil => exact True.intro
  | @cons p q ps qs h t ih =>
    obtain ⟨h1, _, h2⟩ := h
    by_cases e : p.1 = k
    · have e' : q.1 = k := h1.symm.trans e
      have b : atKey (q :: qs) k = some q.2 := by simp [atKey, List.find?_cons, e']
      rw [valV_pos e, b]; exact h2
    · have e' : ¬ q.1 = k := fun z => e (h1.trans z)
      have b : atKey (q :: qs) k = atKey qs k := by simp [atKey, List.find?_cons, e']
      rw [valV_neg e, b]; exact ih
theorem KT.repl {H : Hp} {kvs : List (List Key × V)} {xs : List (List Key × Addr × Value)} (r : KT H kvs xs) (k : List Key) {y : V} {u : Value} (ry : RelV y u) :
    KT H (kvs.map fun kv => if kv.1 = k then (kv.1, y) else kv) (xs.map (putAt k u)) := by
  induction r with
  | nil => exact .nil
  | @cons p q ps qs h t ih =>
    rw [List.map_cons, List.map_cons]
    refine .cons ?_ ih
    obtain ⟨h1, h2, h3⟩ := h
    unfold putAt
    by_cases e : p.1 = k
    · rw [if_pos e, if_pos (h1.symm.trans e)]; exact ⟨h1, h2, ry⟩
    · rw [if_neg e, if_neg (fun z => e (h1.trans z))]; exact ⟨h1, h2, h3⟩
theorem KT.put {H : Hp} {kvs : List (List Key × V)} {xs : List (List Key × Addr × Value)} (r : KT H kvs xs) (k : List Key) {b : Addr} {y : V} {u : Value} (hb : H b = some (.tup (k.map kV))) (ry : RelV y u) :
    KT H (putK kvs k y) (storedH xs k b u) := by
  have e : (kvs.any fun kv => decide (kv.1 = k)) = (atKey xs k).isSome := by
    rw [valV_any, (r.val k).isSome_eq, Option.isSome_map]
  unfold putK storedH
  rw [e]
  by_cases q : (atKey xs k).isSome = true
  · rw [if_pos q, if_pos q]; exact r.repl k ry
  · rw [if_neg q, if_neg q]; exact Paired.snoc r ⟨rfl, hb, ry⟩
theorem KT.keeps {H H' : Hp} {kvs : List (List Key × V)} {xs : List (List Key × Addr × Value)} (r : KT H kvs xs) (ht : ∀ b ys, H b = some (.tup ys) → H' b = some (.tup ys)) : KT H' kvs xs :=
  Paired.mapP r fun _ _ z => ⟨z.1, ht _ _ z.2.1, z.2.2⟩

section
variable {P : Program} {w : World} {H : Hp} {h : Heap} {a : Addr}
theorem rd_of {u : HO} (ok : HOk P w H h) (e : Rd H a u) : ObjOk P w H h a u := e.ok ok
theorem dk_rd {kvs : List (Key × V)} (ok : HOk P w H h) (e : Rd H a (.dK kvs)) : kvs.length ≤ sizeLine ∧ (a == sysModules) = false ∧ ∃ vs, KV kvs vs ∧ h.DictOf (mixKind P w) a vs :=
  show ObjOk P w H h a (.dK kvs) from rd_of ok e
theorem dk_of {kvs : List (Key × V)} (ok : HOk P w H h) (e : H a = some (.dK kvs)) : kvs.length ≤ sizeLine ∧ (a == sysModules) = false ∧ ∃ vs, KV kvs vs ∧ h.DictOf (mixKind P w) a vs := dk_rd ok (.inl e)
/-- a tracked tuple of ints and texts is a key -/
theorem key_of {ks : List Key} (ok : HOk P w H h) (e : H a = some (.tup (ks.map kV))) : (tupleKind (mixKind P w)).is h ks a := by
  obtain ⟨_, its, r, o, h1, h2, n, h3, _⟩ := (show ObjOk P w H h a (.tup (ks.map kV)) from ok a _ e)
  exact ⟨o, its.toArray, n, h1, h2, h3, by simpa using items_are r⟩
theorem dt_rd {kvs : List (List Key × V)} (ok : HOk P w H h) (e : Rd H a (.dT kvs)) : kvs.length ≤ sizeLine ∧ (a == sysModules) = false ∧
    ∃ xs, KT H kvs xs ∧ h.DictOfH (tupleKind (mixKind P w)) a xs := by
  obtain ⟨z, y, xs, r, o, es, ep, h1, h2, h3, h4, h5⟩ := (show ObjOk P w H h a (.dT kvs) from rd_of ok e)
  refine ⟨z, y, xs, r, o, es, ep, h1, h2, h3, h4, fun x hx => ?_, h5⟩
  have all : ∀ {l : List (List Key × V)} {m : List (List Key × Addr × Value)}, KT H l m → ∀ x ∈ m, (tupleKind (mixKind P w)).is h x.1 x.2.1 := by
    intro l m q
    induction q with
    | nil => intro x hx; exact nomatch hx
    | @cons p q ps qs hq t ih =>
      intro x hx
      rcases List.mem_cons.mp hx with e | hx
      · subst e
        exact key_of ok (by rw [← hq.1]; exact hq.2.1)
      · exact ih x hx
  exact all r x hx
theorem dt_of {kvs : List (List Key × V)} (ok : HOk P w H h) (e : H a = some (.dT kvs)) : kvs.length ≤ sizeLine ∧ (a == sysModules) = false ∧
    ∃ xs, KT H kvs xs ∧ h.DictOfH (tupleKind (mixKind P w)) a xs := dt_rd ok (.inl e)
end

/-- what the dict at a holds at the key y -/
def DGet (H : Hp) (a : Addr) (y : V) (r : Option V) : Prop :=
  (∃ kvs k, Rd H a (.dK kvs) ∧ y = kV k ∧ r = valV kvs k) ∨ ∃ kvs k b, Rd H a (.dT kvs) ∧ y = .ref b ∧ H b = some (.tup (k.map kV)) ∧ r = valV kvs k
/-- the heap behind a[y] = v -/
def DPut (H : Hp) (a : Addr) (y v : V) (H' : Hp) : Prop :=
  (∃ kvs k, H a = some (.dK kvs) ∧ y = kV k ∧ kvs.length < sizeLine ∧ H' = upd H a (.dK (putK kvs k v))) ∨
  ∃ kvs k b, H a = some (.dT kvs) ∧ y = .ref b ∧ H b = some (.tup (k.map kV)) ∧ kvs.length < sizeLine ∧ H' = upd H a (.dT (putK kvs k v))
theorem DGet.k {H : Hp} {a : Addr} {kvs : List (Key × V)} {k : Key} (e : H a = some (.dK kvs)) : DGet H a (kV k) (valV kvs k) := .inl ⟨kvs, k, .inl e, rfl, rfl⟩
theorem DGet.t {H : Hp} {a b : Addr} {kvs : List (List Key × V)} {k : List Key} (e : H a = some (.dT kvs)) (eb : H b = some (.tup (k.map kV))) : DGet H a (.ref b) (valV kvs k) := .inr ⟨kvs, k, b, .inl e, rfl, eb, rfl⟩
theorem DPut.k {H : Hp} {a : Addr} {kvs : List (Key × V)} {k : Key} {v : V} (e : H a = some (.dK kvs)) (hl : kvs.length < sizeLine) : DPut H a (kV k) v (upd H a (.dK (putK kvs k v))) := .inl ⟨kvs, k, e, rfl, hl, rfl⟩
theorem DPut.t {H : Hp} {a b : Addr} {kvs : List (List Key × V)} {k : List Key} {v : V} (e : H a = some (.dT kvs)) (eb : H b = some (.tup (k.map kV))) (hl : kvs.length < sizeLine) :
    DPut H a (.ref b) v (upd H a (.dT (putK kvs k v))) := .inr ⟨kvs, k, b, e, rfl, eb, hl, rfl⟩


section
variable {X : Cx} {pins : List (Addr × Obj)} {σ : St} {H : Hp} {s : Shared} {a : Addr} {y v : V} {u r : Value} {o : Option V} {A : Around} {E : Value → Shared → Prop}

theorem Inv.big (I : Inv X pins σ H s) : sysModules < s.heap.objs.size := by
  have h : mainGlobals < s.heap.objs.size := (I.mod.glob.keeps I.bk).lt
  exact Nat.lt_trans (by decide) h

/-- d[y], there -/
theorem d_getItem {Q : Value → Shared → Prop} (hu : A.units + 1 < cLine) (I : Inv X pins σ H s) (g : DGet H a y (some v)) (ry : RelV y u) (h : ∀ w' s', Inv X pins σ H s' → RelV v w' → Q w' s') :
    wpAny (model X.prog X.w) A (getItem (.ref a) u) Q E s := by
  rcases g with ⟨kvs, k, e, ey, l⟩ | ⟨kvs, k, b, e, ey, eb, l⟩
  · subst ey
    obtain ⟨z, hd, vs, rel, dd⟩ := dk_rd I.hok e
    obtain ⟨w', hw, rw'⟩ := RelO.some_of (v := v) (o := valueAt vs k) (by rw [l]; exact rel.val k)
    exact wpAny_getItem_of (kV_is ry) dd.mapOf hw (h w' _ (I.tok _) rw')
  · subst ey
    cases (show u = Value.ref b from ry)
    obtain ⟨z, hd, xs, rel, dd⟩ := dt_rd I.hok e
    obtain ⟨w', hw, rw'⟩ := RelO.some_of (v := v) (o := (atKey xs k).map (·.2)) (by rw [l]; exact rel.val k)
    obtain ⟨p, hp, hp2⟩ := Option.map_eq_some_iff.mp hw
    refine wpAny_getItem_heap (tupleKind_room_in1 hu) (key_of I.hok eb) dd hp ?_
    rw [hp2]
    exact h w' _ (I.tok _) rw'
theorem d_notIn {Q : Value → Shared → Prop} (hu : A.units + 1 < cLine) (I : Inv X pins σ H s) (g : DGet H a y o) (ry : RelV y u) (h : ∀ s', Inv X pins σ H s' → Q (.bool (!o.isSome)) s') :
    wpAny (model X.prog X.w) A (compareOp .NotIn u (.ref a)) Q E s := by
  rcases g with ⟨kvs, k, e, ey, l⟩ | ⟨kvs, k, b, e, ey, eb, l⟩
  · subst ey
    obtain ⟨z, hd, vs, rel, dd⟩ := dk_rd I.hok e
    refine wpAny_notIn_of (kV_is ry) hd dd.mapOf ?_
    rw [← (rel.val k).isSome_eq, ← l]
    exact h _ (I.tok _)
  · subst ey
    cases (show u = Value.ref b from ry)
    obtain ⟨z, hd, xs, rel, dd⟩ := dt_rd I.hok e
    refine wpAny_notIn_heap (tupleKind_room_in1 hu) (key_of I.hok eb) hd dd ?_
    have q := (rel.val k).isSome_eq
    rw [Option.isSome_map] at q
    rw [← q, ← l]
    exact h _ (I.tok _)
/-- a dict's object is replaced -/
theorem d_write {h' : Heap} {t' : Nat} {ob : HO} (I : Inv X pins σ H s) (mu : Mut (H a)) (hs : Heap.SameBut a s.heap h') (he : ∃ q, h'.get? a = some q) (new : ObjOk X.prog X.w (upd H a ob) h' a ob) :
    Inv X pins σ (upd H a ob) { s with heap := h', toks := t' } :=
  I.write (x := a) (e := a) mu (.inl rfl) (fun b q hb z => (hs.2 b hb).trans z) he new
theorem dk_new {P : Program} {w : World} {H' : Hp} {h' : Heap} {kvs : List (Key × V)} {vs : List (Key × Value)} (z : kvs.length ≤ sizeLine) (hd : (a == sysModules) = false) (rel : KV kvs vs) (dd : h'.DictOf (mixKind P w) a vs) :
    ObjOk P w H' h' a (.dK kvs) := ⟨z, hd, vs, rel, dd⟩
/-- d[y] = v -/
theorem d_setItem {H' : Hp} {Q : Unit → Shared → Prop} (hu : A.units + 1 < cLine) (I : Inv X pins σ H s) (g : DPut H a y v H') (ry : RelV y u) (rv : RelV v r) (h : ∀ s', Inv X pins σ H' s' → Q () s') :
    wpAny (model X.prog X.w) A (setItem (.ref a) u r) Q E s := by
  rcases g with ⟨kvs, k, e, ey, l, eH⟩ | ⟨kvs, k, b, e, ey, eb, l, eH⟩
  · subst ey eH
    obtain ⟨z, hd, vs, rel, dd⟩ := dk_of I.hok e
    have hz : vs.length ≤ sizeLine := by rw [← rel.length]; exact z
    have hl : (putK kvs k v).length ≤ sizeLine := by have := length_putK kvs k v; omega
    refine wpAny_setItem_pairs (hsz := hz) (kV_is ry) dd fun h' dd' hs => h _ ?_
    have he : ∃ q, h'.get? a = some q := let ⟨q, _, _, hq, _⟩ := dd'; ⟨q, hq⟩
    exact d_write I (by rw [e]; exact True.intro) hs he (dk_new hl hd (rel.put k rv) dd')
  · subst ey eH
    cases (show u = Value.ref b from ry)
    obtain ⟨z, hd, xs, rel, dd⟩ := dt_of I.hok e
    have hz : xs.length ≤ sizeLine := by rw [← Paired.length rel]; exact z
    have hl : (putK kvs k v).length ≤ sizeLine := by have := length_putK kvs k v; omega
    refine wpAny_setItem_heap (hsz := hz) (tupleKind_room_in1 hu) (key_of I.hok eb) dd fun h' dd' hs => h _ ?_
    obtain ⟨q, es, ep, hq, h2, h3, h4, _, h5⟩ := dd'
    refine d_write I (by rw [e]; exact True.intro) hs ⟨q, hq⟩ ⟨hl, hd, _, (rel.put k eb rv).keeps fun c ys ec => ?_, q, es, ep, hq, h2, h3, h4, h5⟩
    rw [upd_ne (ne_of ec e (fun z => nomatch z))]
    exact ec
end

section
variable {X : Cx} {pins : List (Addr × Obj)} {σ : St} {H : Hp} {s : Shared} {a : Addr} {kvs : List (Key × V)} {k : Key} {u : Value} {A : Around} {E : Value → Shared → Prop}
end


/-! ### readings and rules -/
/-- the element of a subscription, not a slice -/
def NoSl (i : Expr) : Prop := ∀ ov iv, subscripted i false ov iv = operate [ov, iv] (getItem ov iv)
theorem subD_of {prog : Program} {w : World} {A : Around} {E : Value → Shared → Prop} {s : Shared} {env : Env} {value slice : Expr} {pos : Pos} {T id : String} {Q : Value → Shared → Prop}
    (hl : typeLookup (.type T) "__getitem__" = pure (some (.builtin id))) (hs : NoSl slice)
    (h : wpAny (model prog w) A (eval value env) (fun o s₁ => wpAny (model prog w) A (eval slice env) (fun i s₂ => s₂.TypeIs o T ∧ wpAny (model prog w) A (getItem o i) Q E s₂) E s₁) E s) :
    wpAny (model prog w) A (eval (.Subscript value slice pos) env) Q E s := by
  refine Subscript_ (wpAny_mono h (fun o s₁ h₁ => wpAny_mono h₁ (fun i s₂ h₂ => ?_) fun _ _ x => x) fun _ _ x => x)
  obtain ⟨hT, h₂⟩ := h₂
  unfold subscriptTail
  refine wpAny_bind ?_
  rw [getitemInPython_of_ne hT.not_modules]
  refine wpAny_bind (wpAny_specialOf hT hl ?_)
  have fin : wpAny (model prog w) A (subscripted slice false o i) (fun r s₃ => wpAny (model prog w) A (letTemporaryGo value o r >>= fun _ => pure r) Q E s₃) E s₂ := by
    rw [hs o i]
    exact wpAny_operating (wpAny_mono h₂ (fun r s₃ h₃ => wpAny_bind (wpAny_letTemporaryGo (wpAny_pure h₃))) fun _ _ x => x)
  first
    | exact wpAny_pure (wpAny_bind fin)
    | exact wpAny_bind (wpAny_pure (wpAny_bind fin))
    | exact wpAny_bind fin

theorem dict_typeIs {X : Cx} {pins : List (Addr × Obj)} {σ : St} {H : Hp} {s : Shared} {a : Addr} {y : V} {o : Option V} (I : Inv X pins σ H s) (g : DGet H a y o) : s.TypeIs (.ref a) "dict" := by
  rcases g with ⟨kvs, k, e, _, _⟩ | ⟨kvs, k, b, e, _, _, _⟩
  · obtain ⟨_, _, vs, _, dd⟩ := dk_rd I.hok e
    exact dd.typeIs
  · obtain ⟨_, _, xs, _, dd⟩ := dt_rd I.hok e
    exact dd.typeIs
/-- d[y] -/
def tDGet (td ty : TE) : TE := fun σ H Q => td σ H fun x H1 => ty σ H1 fun y H2 => ∃ a v, x = .ref a ∧ DGet H2 a y (some v) ∧ Q v H2
def tDNotIn (ty td : TE) : TE := fun σ H Q => ty σ H fun y H1 => td σ H1 fun x H2 => ∃ a o, x = .ref a ∧ DGet H2 a y o ∧ Q (.bl (!o.isSome)) H2
/-- d[y] = v -/
def sDPut (td ty tv : TE) : TS := fun D σ H => tv σ H fun v H1 => td σ H1 fun x H2 => ty σ H2 fun y H3 => ∃ a H4, x = .ref a ∧ DPut H3 a y v H4 ∧ D.nx σ H4
/-- d[y] op= v -/
def sDAug (td ty tv : TE) (rd : V → V → Hp → VK → Prop) : TS := fun D σ H => td σ H fun x H1 => ty σ H1 fun y H2 => ∃ a v, x = .ref a ∧ DGet H2 a y (some v) ∧
  tv σ H2 fun y2 H3 => rd v y2 H3 fun z H4 => ∃ H5, DPut H4 a y z H5 ∧ D.nx σ H5
section
variable {X : Cx} {o i e value : Expr} {pos pos' tpos : Pos} {td ty tv : TE}
theorem pe_dget (hu : X.A.units + 1 < cLine) (ho : PE X o td) (hi : PE X i ty) (hs : NoSl i) : PE X (.Subscript o i pos) (tDGet td ty) := by
  intro pins s σ H Q I h
  refine subD_of PySem.F.slot_dict_getitem.lookup hs (thn (ho pins s σ H _ I h) fun u s1 ⟨x, H1, I1, rx, q1⟩ => thn (hi pins s1 σ H1 _ I1 q1) fun iv s2 ⟨y, H2, I2, ry, a, v, ex, g, q2⟩ => ?_)
  subst ex
  obtain rfl : u = Value.ref a := rx
  exact ⟨dict_typeIs I2 g, d_getItem hu I2 g ry fun w' s3 I3 rw' => ⟨v, H2, I3, rw', q2⟩⟩
theorem pc_dnotin (hu : X.A.units + 1 < cLine) (hi : PE X i ty) (ho : PE X o td) : PC X .NotIn i o (tDNotIn ty td) := by
  intro pins s σ H Q I h
  refine thn (hi pins s σ H _ I h) fun iv s1 ⟨y, H1, I1, ry, q1⟩ => thn (ho pins s1 σ H1 _ I1 q1) fun u s2 ⟨x, H2, I2, rx, a, ov, ex, g, q2⟩ => ?_
  subst ex
  obtain rfl : u = Value.ref a := rx
  exact d_notIn hu I2 g ry fun s3 I3 => ⟨.bl (!ov.isSome), H2, I3, rfl, q2⟩
theorem ps_dput (hu : X.A.units + 1 < cLine) (ho : PE X o td) (hi : PE X i ty) (hv : PE X value tv) (hs : swapsWith value (some (.Subscript o i pos')) pos.line X.env = pure false) :
    PS X (.Assign [.Subscript o i pos'] value pos) (sDPut td ty tv) := by
  intro pins s σ H D I h
  refine wpAny_Assign_Subscript (thn (hv pins s σ H _ I h) fun r s1 ⟨v, H1, I1, rv, q1⟩ => thn (ho pins s1 σ H1 _ I1 q1) fun u s2 ⟨x, H2, I2, rx, q2⟩ => thn (hi pins s2 σ H2 _ I2 q2) fun iv s3 ⟨y, H3, I3, ry, a, H4, ex, g, q3⟩ => ?_) hs
  subst ex
  obtain rfl : u = Value.ref a := rx
  exact d_setItem hu I3 g ry rv fun s4 I4 => ⟨σ, H4, I4, q3⟩
theorem ps_daug {op : Operator} {rd : V → V → Hp → VK → Prop} (hu : X.A.units + 1 < cLine) (ho : PE X o td) (hi : PE X i ty) (hv : PE X value tv) (hop : InOp X op rd)
    (ha : ∀ ov iv new, augStore i ov iv new = (do holding [new, ov, iv] (setItem ov iv new); release [new, ov, iv] []; pure .next)) : PS X (.AugAssign (.Subscript o i tpos) op value pos) (sDAug td ty tv rd) := by
  intro pins s σ H D I h
  refine wpAny_AugAssign_SubscriptAny (thn (ho pins s σ H _ I h) fun u s1 ⟨x, H1, I1, rx, q1⟩ => thn (hi pins s1 σ H1 _ I1 q1) fun iv s2 ⟨y, H2, I2, ry, a, v, ex, g, q2⟩ => ?_) ha
  subst ex
  obtain rfl : u = Value.ref a := rx
  refine d_getItem hu I2 g ry fun w' s3 I3 rw' => thn (hv pins s3 σ H2 _ I3 q2) fun w2 s4 ⟨y2, H3, I4, ry2, q3⟩ => thn (hop pins s4 σ H3 v y2 w' w2 _ I4 rw' ry2 q3) fun w3 s5 ⟨z, H4, I5, rz, H5, g5, q4⟩ => ?_
  exact d_setItem hu I5 g5 ry rz fun s6 I6 => ⟨σ, H5, I6, q4⟩
end


/-! ### displays -/
theorem dk_empty {P : Program} {w : World} {H : Hp} (h : Heap) (hb : sysModules < h.objs.size) : ObjOk P w H (h.push { cls := .type "dict", data := .dict #[] }) h.objs.size (.dK []) :=
  ⟨Nat.zero_le _, beq_eq_false_iff_ne.mpr (Ne.symm (Nat.ne_of_lt hb)), [], .nil, Heap.DictOf.new h⟩
theorem dt_empty {P : Program} {w : World} {H : Hp} (h : Heap) (hb : sysModules < h.objs.size) : ObjOk P w H (h.push { cls := .type "dict", data := .dict #[] }) h.objs.size (.dT []) :=
  ⟨Nat.zero_le _, beq_eq_false_iff_ne.mpr (Ne.symm (Nat.ne_of_lt hb)), [], .nil, _, #[], 0, Heap.get?_push_size _ rfl, ⟨rfl, rfl, rfl⟩, rfl, rfl, List.nodup_nil⟩
/-- {}, to be a dict of the kind that is wanted -/
def tDNewK : TE := fun _ H Q => ∀ p, H p = none → Q (.ref p) (upd H p (.dK []))
section
variable {X : Cx} {pos : Pos}
theorem pe_dnewK : PE X (.Dict [] [] pos) tDNewK := fun pins s σ H Q I h =>
  wpAny_Dict_empty ⟨.ref s.heap.objs.size, _, I.laid (a := s.heap.objs.size) (o := .dK []) (t' := s.toks) (fun _ _ q => Heap.get?_push_of_some _ q) (Nat.le_refl _) (dk_empty s.heap I.big), rfl, h _ (I.hok.fresh (Nat.le_refl _))⟩
end

/-- the pairs of a display, from the left -/
def tPairs : List (TE × TE) → St → Hp → (List (V × V) → Hp → Prop) → Prop
  | [], _, H, Q => Q [] H
  | (tk, tv) :: r, σ, H, Q => tk σ H fun x H1 => tv σ H1 fun y H2 => tPairs r σ H2 fun ps H3 => Q ((x, y) :: ps) H3
abbrev VV : List (V × V) → List (Value × Value) → Prop := Paired fun p q => RelV p.1 q.1 ∧ RelV p.2 q.2
def PPs (X : Cx) (pos : Pos) (keys : List (Option Expr)) (values : List Expr) (trs : List (TE × TE)) : Prop :=
  ∀ (pins : List (Addr × Obj)) (s : Shared) (σ : St) (H : Hp) (Q : List (V × V) → Hp → Prop), Inv X pins σ H s → tPairs trs σ H Q →
    wpAny (model X.prog X.w) X.A (evalPairs (pairTrees keys values X.env pos)) (fun vs s' => ∃ ps H', Inv X pins σ H' s' ∧ VV ps vs ∧ Q ps H') X.xe s
theorem pps_nil {X : Cx} {pos : Pos} : PPs X pos [] [] [] := fun pins s σ H Q I h => pairTrees_nil_walk ⟨[], H, I, .nil, h⟩
theorem pps_cons {X : Cx} {pos : Pos} {k v : Expr} {ks : List (Option Expr)} {vs : List Expr} {tk tv : TE} {trs : List (TE × TE)} (hk : PE X k tk) (hv : PE X v tv) (hr : PPs X pos ks vs trs) :
    PPs X pos (some k :: ks) (v :: vs) ((tk, tv) :: trs) := fun pins s σ H Q I h =>
  pairTrees_cons_walk (thn (hk pins s σ H _ I h) fun u s1 ⟨x, H1, I1, rx, q1⟩ => thn (hv pins s1 σ H1 _ I1 q1) fun w2 s2 ⟨y, H2, I2, ry, q2⟩ =>
    thn (hr pins s2 σ H2 _ I2 q2) fun ws s3 ⟨ps, H3, I3, rel, q3⟩ => ⟨(x, y) :: ps, H3, I3, .cons ⟨rx, ry⟩ rel, q3⟩)

def mergeK (kvs more : List (Key × V)) : List (Key × V) := more.foldl (fun acc kv => putK acc kv.1 kv.2) kvs
theorem KV.merge : ∀ {more : List (Key × V)} {rs : List (Key × Value)} {kvs : List (Key × V)} {vs : List (Key × Value)}, KV more rs → KV kvs vs → KV (mergeK kvs more) (merged vs rs) := by
  intro more rs kvs vs r
  unfold KV at r
  induction r generalizing kvs vs with
  | nil => intro q; exact q
  | @cons p q ps qs h t ih =>
    intro r0
    have e : KV (putK kvs p.1 p.2) (stored vs q.1 q.2) := by
      have := r0.put p.1 h.2
      rw [← h.1]; exact this
    exact ih e
theorem length_mergeK : ∀ (more kvs : List (Key × V)), (mergeK kvs more).length ≤ kvs.length + more.length
  | [], kvs => by show kvs.length ≤ kvs.length + 0; omega
  | p :: r, kvs => by
    have h1 := length_mergeK r (putK kvs p.1 p.2)
    have h2 := length_putK kvs p.1 p.2
    show (mergeK (putK kvs p.1 p.2) r).length ≤ _
    rw [List.length_cons]; omega
theorem carries_of {P : Program} {w : World} : ∀ {kvs : List (Key × V)} {ws : List (Value × Value)}, VV (kvs.map fun kv => (kV kv.1, kv.2)) ws → ∃ rs, Carries (mixKind P w) ws rs ∧ KV kvs rs
  | [], _, r => by rw [List.map_nil] at r; cases r; exact ⟨[], True.intro, .nil⟩
  | p :: kvs, _, r => by
    rw [List.map_cons] at r
    cases r with
    | @cons a b as bs h t =>
      obtain ⟨rs, c, q⟩ := carries_of (P := P) (w := w) t
      obtain ⟨b1, b2⟩ := b
      exact ⟨(p.1, b2) :: rs, ⟨kV_is h.1, rfl, c⟩, .cons ⟨rfl, h.2⟩ q⟩
/-- {k: v, ..} with keys ints and texts; the new dict stands empty while the pairs are made -/
def tDisp (trs : List (TE × TE)) : TE := fun σ H Q => ∀ p, H p = none → tPairs trs σ (upd H p (.dK [])) fun ps H2 => H2 p = some (.dK []) ∧ ∃ kvs : List (Key × V), ps = kvs.map (fun kv => (kV kv.1, kv.2)) ∧ kvs.length ≤ 15 ∧ Q (.ref p) (upd H2 p (.dK (mergeK [] kvs)))
theorem pe_disp {X : Cx} {pos : Pos} {keys : List (Option Expr)} {values : List Expr} {trs : List (TE × TE)} (h : PPs X pos keys values trs) (hall : keys.all (·.isSome) = true) (hl : keys.length = values.length) (h0 : keys ≠ [])
    (h15 : keys.length ≤ 15) : PE X (.Dict keys values pos) (tDisp trs) := by
  intro pins s σ H Q I q
  have hn := I.hok.fresh (Nat.le_refl s.heap.objs.size)
  have I1 := I.laid (a := s.heap.objs.size) (o := .dK []) (h' := s.heap.push { cls := .type "dict", data := .dict #[] }) (t' := s.toks) (fun _ _ q => Heap.get?_push_of_some _ q) (Nat.le_refl _) (dk_empty s.heap I.big)
  refine wpAny_Dict_walk (knd := mixKind X.prog X.w) hall hl h0 h15 (thn (h pins _ σ _ _ I1 (q _ hn)) fun ws s2 ⟨ps, H2, I2, rel, e, kvs, ep, lk, q2⟩ => ?_)
  subst ep
  obtain ⟨rs, c, rk⟩ := carries_of (P := X.prog) (w := X.w) rel
  obtain ⟨z, hd, vs0, r0, dd⟩ := dk_of I2.hok e
  cases r0
  refine ⟨rs, c, dd, fun h' dd' hs => ⟨.ref s.heap.objs.size, _, ?_, rfl, q2⟩⟩
  have hz : (mergeK [] kvs).length ≤ sizeLine := by
    have h1 := length_mergeK kvs []
    rw [List.length_nil] at h1
    rw [sizeLine_eq]; omega
  have he : ∃ q, h'.get? s.heap.objs.size = some q := let ⟨q, _, _, hq, _⟩ := dd'; ⟨q, hq⟩
  exact d_write I2 (by rw [e]; exact True.intro) hs he (dk_new hz hd (rk.merge .nil) dd')


/-! ### methods -/
/-- a method call o.m(e) of a built-in, with one argument: what must be seen of the text -/
structure M1 (X : Cx) (o : Expr) (m : Str) (apos : Pos) (e : Expr) (cpos : Pos) : Prop where
  base : attributeBase o m X.env (eval o X.env) = eval o X.env
  few : ((backTo cpos (starEach [e] X.env)).all (fun x => !x.1) && (backToKw cpos (keywordEach [] X.env)).all (fun x => x.1.isSome)
    && decide (([e] : List Expr).length + ([] : List Keyword).length + (if ([] : List Keyword).isEmpty then 0 else 1) < 30)) = true
  line : (apos.endLine == cpos.line) = true
  trees : backTo cpos (starEach [e] X.env) = [(false, eval e X.env)]
structure M2 (X : Cx) (o : Expr) (m : Str) (apos : Pos) (e f : Expr) (cpos : Pos) : Prop where
  base : attributeBase o m X.env (eval o X.env) = eval o X.env
  few : ((backTo cpos (starEach [e, f] X.env)).all (fun x => !x.1) && (backToKw cpos (keywordEach [] X.env)).all (fun x => x.1.isSome)
    && decide (([e, f] : List Expr).length + ([] : List Keyword).length + (if ([] : List Keyword).isEmpty then 0 else 1) < 30)) = true
  line : (apos.endLine == cpos.line) = true
  trees : backTo cpos (starEach [e, f] X.env) = [(false, eval e X.env), (false, eval f X.env)]

/-- a is a dict, whatever its keys -/
def IsD (H : Hp) (a : Addr) : Prop := (∃ kvs, Rd H a (.dK kvs)) ∨ ∃ kvs, Rd H a (.dT kvs)
theorem isD_at {X : Cx} {pins : List (Addr × Obj)} {σ : St} {H : Hp} {s : Shared} {a : Addr} (I : Inv X pins σ H s) (d : IsD H a) :
    s.TypeIs (.ref a) "dict" ∧ (∀ b, Value.ref a = .ref b → ∃ ob, s.heap.get? b = some ob ∧ ob.dict = none) ∧ (a == sysModules) = false := by
  rcases d with ⟨kvs, e⟩ | ⟨kvs, e⟩
  · obtain ⟨_, hd, vs, _, dd⟩ := dk_rd I.hok e
    refine ⟨dd.typeIs, fun b q => ?_, hd⟩
    cases q
    obtain ⟨ob, _, _, h1, h2, _⟩ := dd
    exact ⟨ob, h1, h2.2.1⟩
  · obtain ⟨_, hd, xs, _, dd⟩ := dt_rd I.hok e
    refine ⟨dd.typeIs, fun b q => ?_, hd⟩
    cases q
    obtain ⟨ob, _, _, h1, h2, _⟩ := dd
    exact ⟨ob, h1, h2.2.1⟩

section
variable {X : Cx} {pins : List (Addr × Obj)} {σ : St} {H : Hp} {s : Shared} {a : Addr} {y d : V} {u r : Value} {o : Option V} {A : Around} {E : Value → Shared → Prop}
/-- d.get(y, x) -/
theorem d_get2 {Q : Value → Shared → Prop} (hu : A.units + 1 < cLine) (I : Inv X pins σ H s) (g : DGet H a y o) (ry : RelV y u) (rd : RelV d r) (h : ∀ w' s', Inv X pins σ H s' → RelV (o.getD d) w' → Q w' s') :
    wpAny (model X.prog X.w) A (call (.builtin "dict.get") [.ref a, u, r]) Q E s := by
  rcases g with ⟨kvs, k, e, ey, l⟩ | ⟨kvs, k, b, e, ey, eb, l⟩
  · subst ey
    obtain ⟨z, hd, vs, rel, dd⟩ := dk_rd I.hok e
    refine call_meetsIn PySem.F.slot_dict_get dd.typeIs PySem.F.entry_dict_get (PySem.F.args_dict_get_3 _ _ _) (meets_dict_get_default (mixKind X.prog X.w) a (kV_is ry) hd r) ⟨_, dd.mapOf, h _ _ (I.tok _) ?_⟩
    rw [l]
    exact (rel.val k).getD rd
  · subst ey
    cases (show u = Value.ref b from ry)
    obtain ⟨z, hd, xs, rel, dd⟩ := dt_rd I.hok e
    refine call_meetsIn PySem.F.slot_dict_get dd.typeIs PySem.F.entry_dict_get (PySem.F.args_dict_get_3 _ _ _) (meetsH_dict_get_default (tupleKind (mixKind X.prog X.w)) a b hd r) ⟨tupleKind_room_in1 hu, k, xs, key_of I.hok eb, dd, h _ _ (I.tok _) ?_⟩
    rw [l]
    exact (rel.val k).getD rd
end

def tDGet2 (td ty tx : TE) : TE := fun σ H Q => td σ H fun x H1 => ∃ a, x = .ref a ∧ IsD H1 a ∧ ty σ H1 fun y H2 => tx σ H2 fun z H3 => ∃ o, DGet H3 a y o ∧ Q (o.getD z) H3
section
variable {X : Cx} {o e f : Expr} {apos cpos : Pos} {td ty tx : TE}
theorem pe_dget2 (hu : X.A.units + 1 < cLine) (ho : PE X o td) (he : PE X e ty) (hf : PE X f tx) (m : M2 X o "get" apos e f cpos) : PE X (.Call (.Attribute o "get" apos) [e, f] [] cpos) (tDGet2 td ty tx) := by
  intro pins s σ H Q I h
  refine wpAny_Call_method m.base m.few m.line PySem.F.plainAttrs_dict PySem.F.slot_dict_get PySem.F.type_dict_get (thn (ho pins s σ H _ I h) fun u s1 ⟨x, H1, I1, rx, a, ex, d, q1⟩ => ?_)
  subst ex
  obtain rfl : u = Value.ref a := rx
  obtain ⟨t1, t2, _⟩ := isD_at I1 d
  refine ⟨t1, t2, ?_⟩
  rw [m.trees]
  refine Calls.callWith_builtin rfl (Calls.evalArgs_plain (Calls.spliced_cons (thn (he pins s1 σ H1 _ I1 q1) fun iv s2 ⟨y, H2, I2, ry, q2⟩ =>
    Calls.spliced_cons (thn (hf pins s2 σ H2 _ I2 q2) fun fv s3 ⟨z, H3, I3, rz, ov, g, q3⟩ => Calls.spliced_nil ?_))))
  exact d_get2 hu I3 g ry rz fun w' s4 I4 rw' => ⟨_, H3, I4, rw', q3⟩
end

/-! ### dict(d): a copy -/
section
variable {X : Cx} {pins : List (Addr × Obj)} {σ : St} {H : Hp} {s : Shared} {a : Addr} {kvs : List (Key × V)} {A : Around} {E : Value → Shared → Prop}
end


section
variable {X : Cx} {pins : List (Addr × Obj)} {σ : St} {H : Hp} {s : Shared} {a : Addr} {y : V} {u : Value} {A : Around} {E : Value → Shared → Prop}
end
end L2

namespace HT
open PySem PyProof.Rows

section
open PySem.SeqAt
open PySem.AutoSeq1 (wpAny_loadPart')
open PySem.MeetsSeq PySem.MeetsSeq2 PySem.MeetsSeq3

end

section
variable {prog : Program} {w : World} {A : Around} {E : Value → Shared → Prop} {s : Shared}

/-! ### t[a:b], not the whole -/
/-- a slice's bound as a place among n (d where it is left out) -/
def sIx (n d : Nat) : Option Int → Nat
  | none => d
  | some v => if v < 0 then (v + (n : Int)).toNat else min v.toNat n
end
end HT

namespace L2
open PySem PySem.Spec PyProof.Rows

/-! ### the parts of a slice -/
abbrev TO := St → Hp → (Option Int → Hp → Prop) → Prop
/-- a slice's part (left out, or an int) -/
def PO (X : Cx) (e : Option Expr) (t : TO) : Prop :=
  ∀ (pins : List (Addr × Obj)) (s : Shared) (σ : St) (H : Hp) (Q : Option Int → Hp → Prop), Inv X pins σ H s → t σ H Q →
    wpAny (model X.prog X.w) X.A (evalPart e X.env) (fun u s' => ∃ o H', Inv X pins σ H' s' ∧ IsPart u o ∧ Q o H') X.xe s
def tPart (t : TE) : TO := fun σ H Q => t σ H fun x H1 => ∃ i, x = .int i ∧ Q (some i) H1

section
variable {X : Cx} {e : Expr} {te : TE} {lo hi : Option Expr} {tl th : TO} {pos p2 : Pos}

theorem po_some (h : PE X e te) : PO X (some e) (tPart te) := by
  intro pins s σ H Q I hw
  rw [evalPart_some]
  refine thn (h pins s σ H _ I hw) fun u s1 ⟨x, H1, I1, r1, q1⟩ => ?_
  obtain ⟨i, rfl, q⟩ := q1
  obtain ⟨t, rfl⟩ := r1
  exact ⟨some i, H1, I1, .int i t, q⟩

/-- what a slice of a value is, by values: the slice object stands at sl -/
def SlR (X : Cx) (r : V → Option Int → Option Int → Hp → VK → Prop) : Prop :=
  ∀ (pins : List (Addr × Obj)) (s : Shared) (σ : St) (H : Hp) (x : V) (v vl vu : Value) (lo hi : Option Int) (sl : Addr) (Q : VK), Inv X pins σ H s → RelV x v → s.heap.IsSliceOf sl vl vu .none → IsPart vl lo → IsPart vu hi → r x lo hi H Q →
    ∃ T id, typeLookup (.type T) "__getitem__" = pure (some (.builtin id)) ∧ s.TypeIs v T ∧ wpAny (model X.prog X.w) X.A (getItem v (.ref sl)) (EP X pins σ Q) X.xe s
def tSl (r : V → Option Int → Option Int → Hp → VK → Prop) (te : TE) (tl th : TO) : TE := fun σ H Q => te σ H fun x H1 => tl σ H1 fun l H2 => th σ H2 fun u H3 => r x l u H3 Q
/-- a[lo:hi], any a -/
theorem pe_slice {r : V → Option Int → Option Int → Hp → VK → Prop} (hr : SlR X r) (he : PE X e te) (hl : PO X lo tl) (hu : PO X hi th) : PE X (.Subscript e (.Slice lo hi none p2) pos) (tSl r te tl th) := by
  intro pins s σ H Q I h
  refine Subscript_ (thn (he pins s σ H _ I h) fun v s1 ⟨x, H1, I1, r1, q1⟩ => ?_)
  refine wpAny_Slice (thn (hl pins s1 σ H1 _ I1 q1) fun vl s2 ⟨l, H2, I2, pl, q2⟩ => thn (hu pins s2 σ H2 _ I2 q2) fun vu s3 ⟨u, H3, I3, pu, q3⟩ => ?_)
  rw [evalPart_none]
  refine wpAny_pure ?_
  have I4 : Inv X pins σ H3 { s3 with heap := s3.heap.push { cls := .type "slice", data := .fields #[vl, vu, .none] } } := I3.kept (t' := s3.toks) fun b ob q => Heap.get?_push_of_some _ q
  obtain ⟨T, id, hT, ht, hg⟩ := hr pins { s3 with heap := s3.heap.push { cls := .type "slice", data := .fields #[vl, vu, .none] } } σ H3 x v vl vu l u s3.heap.objs.size Q I4 r1 (Heap.IsSliceOf.new ..) pl pu q3
  show wpAny (model X.prog X.w) X.A (subscriptTail e (.Slice lo hi none p2) v (.ref s3.heap.objs.size)) (EP X pins σ Q) X.xe { s3 with heap := s3.heap.push { cls := .type "slice", data := .fields #[vl, vu, .none] } }
  exact tail_any (ops := [.ref s3.heap.objs.size, v]) ht hT hg (by with_unfolding_all rfl)

/-- the items of xs[lo:hi] -/
def cutV (xs : List V) (lo hi : Option Int) : List V := (xs.drop (HT.sIx xs.length 0 lo)).take (HT.sIx xs.length xs.length hi - HT.sIx xs.length 0 lo)
theorem cutV_length (xs : List V) (lo hi : Option Int) : (cutV xs lo hi).length ≤ xs.length := by
  unfold cutV
  rw [List.length_take, List.length_drop]
  omega
/-! ### t < u, t + u -/
end
end L2

namespace L2
open PySem PySem.Spec PyProof.Rows

/-! ### places -/
/-- the place that an index of any sign means -/
def ixN (n : Nat) (i : Int) : Option Nat := if 0 ≤ i then (if i < n then some i.toNat else none) else if -(n : Int) ≤ i then some (i + n).toNat else none
def atI {α : Type} (xs : List α) (i : Int) : Option α := (ixN xs.length i).bind fun j => xs[j]?
theorem ixN_seq {n : Nat} {i : Int} {j : Nat} (h : ixN n i = some j) : seqIndex? i n = some j ∧ j < n ∧ -(n : Int) ≤ i ∧ i < n := by
  unfold ixN at h
  by_cases h0 : 0 ≤ i
  · rw [if_pos h0] at h
    by_cases h1 : i < n
    · rw [if_pos h1] at h
      have e : i.toNat = j := Option.some.inj h
      exact ⟨by rw [seqIndex_of h0 h1, e], by omega, by omega, h1⟩
    · rw [if_neg h1] at h; cases h
  · rw [if_neg h0] at h
    by_cases h1 : -(n : Int) ≤ i
    · rw [if_pos h1] at h
      have e : (i + n).toNat = j := Option.some.inj h
      exact ⟨by rw [seqIndex_neg (by omega) h1, e], by omega, h1, by omega⟩
    · rw [if_neg h1] at h; cases h
theorem atI_get {α : Type} {xs : List α} {i : Int} {v : α} (h : atI xs i = some v) : ∃ j, seqIndex? i xs.length = some j ∧ xs[j]? = some v ∧ j < xs.length ∧ -(xs.length : Int) ≤ i ∧ i < xs.length := by
  unfold atI at h
  cases e : ixN xs.length i with
  | none => rw [e] at h; cases h
  | some j =>
    rw [e] at h
    obtain ⟨h1, h2, h3, h4⟩ := ixN_seq e
    exact ⟨j, h1, h, h2, h3, h4⟩
theorem atI_nat {α : Type} {xs : List α} {j : Nat} {v : α} (h : xs[j]? = some v) : atI xs (j : Int) = some v := by
  have hj : j < xs.length := (List.getElem?_eq_some_iff.mp h).1
  have e : ixN xs.length (j : Int) = some j := by
    unfold ixN
    rw [if_pos (by omega), if_pos (by omega)]; simp
  unfold atI; rw [e]; exact h
theorem atI_last {α : Type} (xs : List α) (v : α) : atI (xs ++ [v]) (-1) = some v := by
  have hl : (xs ++ [v]).length = xs.length + 1 := by simp
  have e : ixN (xs ++ [v]).length (-1) = some xs.length := by
    unfold ixN
    rw [hl, if_neg (by decide), if_pos (by omega)]
    congr 1
    omega
  unfold atI
  rw [e]
  show (xs ++ [v])[xs.length]? = some v
  simp

/-! ### what may be subscripted -/
/-- what stands as an index of a plain subscript -/
def PlainIx (b : Expr) : Prop := ∀ o i, subscripted b false o i = operate [o, i] (getItem o i)
/-- a subscript by values -/
def IxR (X : Cx) (r : R2) : Prop :=
  ∀ (value slice : Expr) (pins : List (Addr × Obj)) (s : Shared) (σ : St) (H : Hp) (x y : V) (v u : Value) (Q : VK), Inv X pins σ H s → RelV x v → RelV y u → r x y H Q →
    subscripted slice false v u = operate [v, u] (getItem v u) → wpAny (model X.prog X.w) X.A (subscriptTail value slice v u) (EP X pins σ Q) X.xe s
/-- a call of a builtin's method by values: the receiver, the arguments -/
def MtR (X : Cx) (id : String) (r : V → List V → Hp → VK → Prop) : Prop :=
  ∀ (pins : List (Addr × Obj)) (s : Shared) (σ : St) (H : Hp) (x : V) (xs : List V) (v : Value) (us : List Value) (Q : VK), Inv X pins σ H s → RelV x v → Vals xs us → r x xs H Q →
    wpAny (model X.prog X.w) X.A (call (.builtin id) (v :: us)) (EP X pins σ Q) X.xe s
section
variable {X : Cx} {a b : Expr} {ta tb : TE} {pos : Pos}
/-- a[b] -/
theorem pe_ix {r : R2} (hr : IxR X r) (ha : PE X a ta) (hb : PE X b tb) (hs : PlainIx b) : PE X (.Subscript a b pos) (tOp r ta tb) := by
  intro pins s σ H Q I h
  exact Subscript_ (binT ha hb I h fun v u s2 x y H2 I2 rx ry q => hr a b pins s2 σ H2 x y v u Q I2 rx ry q (hs _ _))

def rIxL (K : PySem.W.Frag) : R2 := fun x y H Q => ∃ p xs i v, x = .ref p ∧ y = .int i ∧ SqL K H p xs ∧ atI xs i = some v ∧ Q v H
def rIxT (K : PySem.W.Frag) : R2 := fun x y H Q => ∃ p xs i v, x = .ref p ∧ y = .int i ∧ SqT K H p xs ∧ atI xs i = some v ∧ Q v H
theorem ix_list : IxR X (rIxL X.K) := by
  intro value slice pins s σ H x y v u Q I rx ry h hs
  obtain ⟨p, xs, i, z, rfl, rfl, hq, he, q⟩ := h
  cases rx
  obtain ⟨t, rfl⟩ := ry
  obtain ⟨its, r, pl, hz⟩ := I.list hq
  obtain ⟨j, h1, h2, h3, h4, h5⟩ := atI_get he
  obtain ⟨w, ew, rw'⟩ := r.get h2
  have hl := r.length
  have hn := line63
  have fin : EP X pins σ Q w s := ⟨z, H, I, rw', q⟩
  by_cases h0 : 0 ≤ i
  · have hj : i.toNat = j := by
      rw [seqIndex_of h0 h5] at h1
      exact Option.some.inj h1
    exact item_listR pl.isList h0 (by omega) (by rw [hj]; simpa using ew) fin hs
  · have hj : (i + (its.toArray.size : Int)).toNat = j := by
      rw [seqIndex_neg (by omega) h4] at h1
      rw [List.size_toArray, ← hl]
      exact Option.some.inj h1
    exact subscriptTail_builtinR (x := w) pl.isList.typeIs slot_list_getitem.lookup
      (wpAny_getItem_list_neg (Q := fun r s' => r = w ∧ EP X pins σ Q r s') pl.isList (by omega) (by rw [List.size_toArray] <;> omega) (by omega) (by rw [hj]; simpa using ew) ⟨rfl, fin⟩) hs
theorem ix_tup : IxR X (rIxT X.K) := by
  intro value slice pins s σ H x y v u Q I rx ry h hs
  obtain ⟨p, xs, i, z, rfl, rfl, hq, he, q⟩ := h
  cases rx
  obtain ⟨t, rfl⟩ := ry
  obtain ⟨its, r, pl, hz⟩ := I.tuple hq
  obtain ⟨j, h1, h2, h3, h4, h5⟩ := atI_get he
  obtain ⟨w, ew, rw'⟩ := r.get h2
  have hl := r.length
  have hn := line63
  have fin : EP X pins σ Q w s := ⟨z, H, I, rw', q⟩
  exact subscriptTail_builtinR (x := w) pl.typeIs slot_tuple_getitem.lookup
    (getItem_tuple (j := j) (Q := fun r s' => r = w ∧ EP X pins σ Q r s') pl (by omega) (by omega) (by rw [List.size_toArray, ← hl]; exact h1) (by simpa using ew) ⟨rfl, fin⟩) hs
/-! ### xs[i] = v, any sign -/
/-! ### slices -/
theorem slice_bounds (lo hi : Option Int) (n : Nat) : (sliceBounds lo hi none n).1 = ((HT.sIx n 0 lo : Nat) : Int) ∧ (sliceBounds lo hi none n).2.1 = ((HT.sIx n n hi : Nat) : Int) ∧ (sliceBounds lo hi none n).2.2 = 1 := by
  refine ⟨?_, ?_, rfl⟩
  · cases lo with
    | none => simp [sliceBounds, HT.sIx]
    | some i =>
      simp only [sliceBounds, HT.sIx, Option.getD_none, show (1 : Int) > 0 by decide, if_true]
      by_cases h : i < 0
      · simp only [h, if_true] <;> omega
      · simp only [h, if_false] <;> omega
  · cases hi with
    | none => simp [sliceBounds, HT.sIx]
    | some i =>
      simp only [sliceBounds, HT.sIx, Option.getD_none, show (1 : Int) > 0 by decide, if_true]
      by_cases h : i < 0
      · simp only [h, if_true] <;> omega
      · simp only [h, if_false] <;> omega
theorem slicePick_cut (its : List Value) (lo hi : Option Int) : slicePick its.toArray lo hi none = ((its.drop (HT.sIx its.length 0 lo)).take (HT.sIx its.length its.length hi - HT.sIx its.length 0 lo)).toArray := by
  obtain ⟨h1, h2, h3⟩ := slice_bounds lo hi its.toArray.size
  unfold slicePick
  rw [h1, h2, h3]
  simp only [sliceRange_one, pick_run, List.size_toArray] <;> rfl
/-- xs[lo:hi] of a list: a new list -/
def rSlL (K : PySem.W.Frag) : V → Option Int → Option Int → Hp → VK → Prop := fun x lo hi H Q => ∃ a xs, x = .ref a ∧ SqL K H a xs ∧ ∀ p, H p = none → Q (.ref p) (upd H p (.lst (cutV xs lo hi)))
theorem sl_list : SlR X (rSlL X.K) := by
  intro pins s σ H x v vl vu lo hi sl Q I rx hs pl pu h
  obtain ⟨a, xs, rfl, hx, q⟩ := h
  cases rx
  obtain ⟨its, r, ht, hz⟩ := I.list hx
  have hlen := r.length
  refine ⟨"list", _, slot_list_getitem.lookup, ht.isList.typeIs, ?_⟩
  refine wpAny_getItem_list_slice ht.isList hs pl pu .none (by simp) ?_ (by rw [List.size_toArray] <;> omega)
  rw [slicePick_cut, ← hlen]
  refine ⟨.ref s.heap.objs.size, _, I.laid (t' := s.toks) (o := .lst (cutV xs lo hi)) (fun b ob q => Heap.get?_push_of_some _ q) (Nat.le_refl _) ?_, rfl, q _ (I.hok.fresh (Nat.le_refl _))⟩
  exact ⟨Nat.le_trans (cutV_length xs lo hi) hz, _, 0, (r.drop (HT.sIx xs.length 0 lo)).take (HT.sIx xs.length xs.length hi - HT.sIx xs.length 0 lo), Heap.get?_push_size _ rfl⟩

/-! ### in, not in: flat items -/
def flatV : V → Bool
  | .non => true
  | .bl _ => true
  | .int _ => true
  | .str _ => true
  | _ => false
/-- == of flat values -/
def eqV : V → V → Bool
  | .non, .non => true
  | .bl a, .bl b => a == b
  | .bl a, .int b => (if a then 1 else 0) == b
  | .int a, .bl b => a == (if b then 1 else 0)
  | .int a, .int b => a == b
  | .str a, .str b => a == b
  | _, _ => false
theorem eqAt_V {A : Around} {s : Shared} {y x : V} {u v : Value} (ry : RelV y u) (rx : RelV x v) (fy : flatV y = true) (fx : flatV x = true) : SeqAt.EqAt A s u v (eqV y x) := by
  cases y with
  | non =>
    cases ry
    cases x with
    | non => cases rx; exact SeqAt.EqAt.same _
    | bl b => cases rx; exact SeqAt.EqAt.none_bool b
    | int b => obtain ⟨t, rfl⟩ := rx; exact SeqAt.EqAt.none_int b t
    | str b => obtain ⟨t, rfl⟩ := rx; exact SeqAt.EqAt.none_str b t
    | _ => exact absurd (show false = true from fx) Bool.false_ne_true
  | bl a =>
    cases ry
    cases x with
    | non => cases rx; exact SeqAt.EqAt.bool_none a
    | bl b => cases rx; exact SeqAt.EqAt.bool_bool a b
    | int b => obtain ⟨t, rfl⟩ := rx; exact SeqAt.EqAt.bool_int a b t
    | str b => obtain ⟨t, rfl⟩ := rx; exact SeqAt.EqAt.bool_str a b t
    | _ => exact absurd (show false = true from fx) Bool.false_ne_true
  | int a =>
    obtain ⟨t', rfl⟩ := ry
    cases x with
    | non => cases rx; exact SeqAt.EqAt.int_none a t'
    | bl b => cases rx; exact SeqAt.EqAt.int_bool a t' b
    | int b => obtain ⟨t, rfl⟩ := rx; exact SeqAt.EqAt.int_int a t' b t
    | str b => obtain ⟨t, rfl⟩ := rx; exact SeqAt.EqAt.int_str a t' b t
    | _ => exact absurd (show false = true from fx) Bool.false_ne_true
  | str a =>
    obtain ⟨t', rfl⟩ := ry
    cases x with
    | non => cases rx; exact SeqAt.EqAt.str_none a t'
    | bl b => cases rx; exact SeqAt.EqAt.str_bool a t' b
    | int b => obtain ⟨t, rfl⟩ := rx; exact SeqAt.EqAt.str_int a t' b t
    | str b => obtain ⟨t, rfl⟩ := rx; exact SeqAt.EqAt.str_str a t' b t
    | _ => exact absurd (show false = true from fx) Bool.false_ne_true
  | _ => exact absurd (show false = true from fy) Bool.false_ne_true
/-- the items' answers, read off the values (a value's own answer does not lean on its token) -/
def eqU (x : V) (u : Value) : Bool := match u with
  | .none => eqV .non x
  | .bool b => eqV (.bl b) x
  | .int i _ => eqV (.int i) x
  | .str z _ => eqV (.str z) x
  | _ => false
theorem eqU_of {x y : V} {u : Value} (r : RelV y u) (f : flatV y = true) : eqU x u = eqV y x := by
  cases y with
  | non => cases r; rfl
  | bl b => cases r; rfl
  | int i => obtain ⟨t, rfl⟩ := r; rfl
  | str z => obtain ⟨t, rfl⟩ := r; rfl
  | _ => exact absurd (show false = true from f) Bool.false_ne_true
theorem any_eqU {x : V} : ∀ {xs : List V} {us : List Value}, Vals xs us → xs.all flatV = true → us.any (eqU x) = xs.any fun y => eqV y x
  | _, _, .nil, _ => rfl
  | y :: xs, u :: us, .cons r t, f => by
    rw [List.all_cons, Bool.and_eq_true] at f
    rw [List.any_cons, List.any_cons, eqU_of r f.1, any_eqU t f.2]
theorem mem_eqAt {A : Around} {s : Shared} {x : V} {v : Value} (rx : RelV x v) (fx : flatV x = true) : ∀ {xs : List V} {us : List Value}, Vals xs us → xs.all flatV = true → ∀ u ∈ us, SeqAt.EqAt A s u v (eqU x u)
  | _, _, .nil, _ => fun u hu => by cases hu
  | y :: xs, u :: us, .cons r t, f => fun u' hu => by
    rw [List.all_cons, Bool.and_eq_true] at f
    rcases List.mem_cons.mp hu with rfl | hu
    · rw [eqU_of r f.1]; exact eqAt_V r rx f.1 fx
    · exact mem_eqAt rx fx t f.2 u' hu
def inV (x : V) (xs : List V) : Bool := xs.any fun y => eqV y x
/-- x in a list or tuple of flat items -/
def rIn (K : PySem.W.Frag) (neg : Bool) : R2 := fun x y H Q => ∃ p xs, y = .ref p ∧ (SqL K H p xs ∨ SqT K H p xs) ∧ flatV x = true ∧ xs.all flatV = true ∧ Q (.bl (if neg then !inV x xs else inV x xs)) H
theorem op_in_seq : OpR X (compareOp .In) (rIn X.K false) := by
  intro pins s σ H x y v u Q I rx ry h
  obtain ⟨p, xs, rfl, hq, fx, fs, q⟩ := h
  cases ry
  rcases hq with hq | hq
  · obtain ⟨its, r, pl, hz⟩ := I.list hq
    refine SeqAt.in_listAt (eqU x) pl.isList (fun w hw => mem_eqAt rx fx r fs w (by simpa using hw)) ⟨.bl _, H, I, rfl, ?_⟩
    rw [show its.toArray.any (eqU x) = its.any (eqU x) by simp, any_eqU r fs]
    exact q
  · obtain ⟨its, r, pl, hz⟩ := I.tuple hq
    refine SeqAt.in_tupleAt (eqU x) pl (fun w hw => mem_eqAt rx fx r fs w (by simpa using hw)) ⟨.bl _, H, I, rfl, ?_⟩
    rw [show its.toArray.any (eqU x) = its.any (eqU x) by simp, any_eqU r fs]
    exact q
/-! ### len, list(x), tuple(x) of any list or tuple that is read -/
theorem call_len_seq : CallR X (.builtin "len") (fun xs H Q => ∃ p ys, xs = [.ref p] ∧ (SqL X.K H p ys ∨ SqT X.K H p ys) ∧ Q (.int ys.length) H) := by
  intro pins s σ H xs us Q I r h
  obtain ⟨p, ys, rfl, hq, q⟩ := h
  obtain ⟨u, rfl, rx⟩ := vals1 r
  cases rx
  have hn := line63
  rcases hq with hq | hq
  · obtain ⟨its, r', pl, hz⟩ := I.list hq
    have hlen := r'.length
    exact Calls.call_len_list pl.isList (by simp only [List.size_toArray] <;> omega) ⟨.int ys.length, H, I.tok _, ⟨s.toks + 1, by rw [List.size_toArray, hlen]⟩, q⟩
  · obtain ⟨its, r', pl, hz⟩ := I.tuple hq
    have hlen := r'.length
    exact len_tuple pl (by simp only [List.size_toArray] <;> omega) ⟨.int ys.length, H, I.tok _, ⟨s.toks + 1, by rw [List.size_toArray, hlen]⟩, q⟩
theorem call_list_of : CallR X (.type "list") (fun xs H Q => ∃ p ys, xs = [.ref p] ∧ (SqL X.K H p ys ∨ SqT X.K H p ys) ∧ ∀ l, H l = none → Q (.ref l) (upd H l (.lst ys))) := by
  intro pins s σ H xs us Q I r h
  obtain ⟨p, ys, rfl, hq, q⟩ := h
  obtain ⟨u, rfl, rx⟩ := vals1 r
  cases rx
  have fin : ∀ (its : List Value), Vals ys its → ys.length ≤ sizeLine → ∀ (h' : Heap) (c' : Nat), (∀ b o', s.heap.get? b = some o' → h'.get? b = some o') →
      h'.get? s.heap.objs.size = some { cls := .type "list", dict := none, data := .seq its.toArray c', slots := #[] } → EP X pins σ Q (.ref s.heap.objs.size) { s with heap := h' } := fun its r' hz h' c' kp e =>
    ⟨.ref s.heap.objs.size, _, I.laid (t' := s.toks) kp (Nat.le_refl _) (show ObjOk X.prog X.w _ h' _ (.lst ys) from ⟨hz, its, c', r', e⟩), rfl, q _ (I.hok.fresh (Nat.le_refl _))⟩
  rcases hq with hq | hq
  · obtain ⟨its, r', pl, hz⟩ := I.list hq
    have hlen := r'.length
    obtain ⟨o, ho, hc, n, hd⟩ := pl.isList
    exact call_list_seq p (.inl rfl) ho hc hd (fun h' c' kp e => fin its r' hz h' c' kp e) (by simp only [List.size_toArray] <;> omega)
  · obtain ⟨its, r', pl, hz⟩ := I.tuple hq
    have hlen := r'.length
    obtain ⟨o, ho, hc, n, hd⟩ := pl
    exact call_list_seq p (.inr rfl) ho hc hd (fun h' c' kp e => fin its r' hz h' c' kp e) (by simp only [List.size_toArray] <;> omega)
theorem call_tuple_of : CallR X (.type "tuple") (fun xs H Q => ∃ p ys, xs = [.ref p] ∧ ((SqL X.K H p ys ∧ ∀ l, H l = none → Q (.ref l) (upd H l (.tup ys))) ∨ (SqT X.K H p ys ∧ Q (.ref p) H))) := by
  intro pins s σ H xs us Q I r h
  obtain ⟨p, ys, rfl, h⟩ := h
  obtain ⟨u, rfl, rx⟩ := vals1 r
  cases rx
  rcases h with ⟨hq, q⟩ | ⟨hq, q⟩
  · obtain ⟨its, r', pl, hz⟩ := I.list hq
    have hlen := r'.length
    refine call_tuple_list pl.isList (fun h' kp => ?_) (by simp only [List.size_toArray] <;> omega)
    have I1 : Inv X pins σ H { s with heap := h' } := I.kept (t' := s.toks) kp
    have I2 : Inv X pins σ (upd H h'.objs.size (.tup ys)) { s with heap := h'.push { cls := .type "tuple", data := .seq its.toArray } } :=
      I1.laid (t' := s.toks) (fun b o e => Heap.get?_push_of_some _ e) (Nat.le_refl _) (show ObjOk X.prog X.w _ _ _ (.tup ys) from ⟨hz, its, r', IsTupD.new _ _⟩)
    exact ⟨.ref h'.objs.size, _, I2, rfl, q _ (I1.hok.fresh (Nat.le_refl _))⟩
  · obtain ⟨its, r', pl, hz⟩ := I.tuple hq
    exact call_tuple_same pl ⟨.ref p, H, I, rfl, q⟩

/-! ### the call of a builtin's method: o.m(..) -/
/-- the value is of that builtin type -/
def tyV (K : PySem.W.Frag) (T : String) (x : V) (H : Hp) : Prop := match x with
  | .str _ => T = "str"
  | .int _ => T = "int"
  | .ref p => (T = "list" ∧ ∃ xs, SqL K H p xs) ∨ (T = "tuple" ∧ ∃ o, K.lookup p = some o ∧ o.cls = .type "tuple" ∧ o.dict = none) ∨
      (T = "dict" ∧ ((∃ kvs, H p = some (.dK kvs)) ∨ ∃ kvs, H p = some (.dT kvs))) ∨ (T = "set" ∧ ∃ S n, H p = some (.set S n))
  | _ => False
theorem tyV_is {pins : List (Addr × Obj)} {σ : St} {H : Hp} {s : Shared} {T : String} {x : V} {v : Value} (I : Inv X pins σ H s) (r : RelV x v) (ty : tyV X.K T x H) :
    s.TypeIs v T ∧ ∀ a, v = .ref a → ∃ ob, s.heap.get? a = some ob ∧ ob.dict = none := by
  cases x with
  | str z =>
    obtain ⟨t, rfl⟩ := r
    cases (show T = "str" from ty)
    exact ⟨typeIs_str s z t, fun _ e => nomatch e⟩
  | int i =>
    obtain ⟨t, rfl⟩ := r
    cases (show T = "int" from ty)
    exact ⟨typeIs_int s i t, fun _ e => nomatch e⟩
  | ref p =>
    cases r
    rcases ty with ⟨rfl, xs, hq⟩ | ⟨rfl, o, hk, hc, hd⟩ | ⟨rfl, hk⟩ | ⟨rfl, S, n, hk⟩
    · obtain ⟨its, _, pl, _⟩ := I.list hq
      refine ⟨pl.isList.typeIs, fun a e => ?_⟩
      cases e
      obtain ⟨o, n, e, c, hd, _⟩ := pl
      exact ⟨o, e, hd⟩
    · refine ⟨⟨o, I.kIn p o hk, hc⟩, fun a e => ?_⟩
      cases e
      exact ⟨o, I.kIn _ o hk, hd⟩
    · have z : ∃ o, s.heap.get? p = some o ∧ o.ExactDict := by
        rcases hk with ⟨kvs, hk⟩ | ⟨kvs, hk⟩
        · obtain ⟨_, _, _, _, o, _, _, e, ex, _⟩ := I.hok p _ hk
          exact ⟨o, e, ex⟩
        · obtain ⟨_, _, _, _, o, _, _, e, ex, _⟩ := I.hok p _ hk
          exact ⟨o, e, ex⟩
      obtain ⟨o, e, ex⟩ := z
      refine ⟨⟨o, e, ex.1⟩, fun a e2 => ?_⟩
      cases e2
      exact ⟨o, e, ex.2.1⟩
    · obtain ⟨o, _, _, _, e, ex, _⟩ := I.hok p _ hk
      refine ⟨⟨o, e, ex.1⟩, fun a e2 => ?_⟩
      cases e2
      exact ⟨o, e, ex.2.1⟩
  | _ => exact False.elim ty
def tBM0 (K : PySem.W.Frag) (T : String) (r : V → List V → Hp → VK → Prop) (to : TE) : TE := fun σ H Q => to σ H fun x H1 => tyV K T x H1 ∧ r x [] H1 Q
def tBM (K : PySem.W.Frag) (T : String) (r : V → List V → Hp → VK → Prop) (to : TE) (t : TA) : TE := fun σ H Q => to σ H fun x H1 => tyV K T x H1 ∧ t σ H1 fun xs H2 => r x xs H2 Q
variable {o e : Expr} {es : List Expr} {to : TE} {t : TA} {name : Str} {apos cpos : Pos} {T id : String} {r : V → List V → Hp → VK → Prop}
theorem pe_bm0 (pa : PlainAttrs T) (slot : Slot T name id) (hty : typeOf (.builtin id) = pure (.type "method_descriptor")) (hm : MtR X id r) (ho : PE X o to)
    (hbase : attributeBase o name X.env (eval o X.env) = eval o X.env := by rfl) (hline : (apos.endLine == cpos.line) = true := by rfl) : PE X (.Call (.Attribute o name apos) [] [] cpos) (tBM0 X.K T r to) := by
  intro pins s σ H Q I h
  refine wpAny_Call_method0_late hbase hline (thn (ho pins s σ H _ I h) fun v s1 ⟨x, H1, I1, r1, ty, q1⟩ => ?_)
  obtain ⟨h1, h2⟩ := tyV_is I1 r1 ty
  exact ⟨T, id, pa, slot, hty, h1, h2, Calls.callWith_builtin rfl (PySem.evalArgs_none (hm pins s1 σ H1 x [] v [] Q I1 r1 .nil q1))⟩
theorem pe_bm (pa : PlainAttrs T) (slot : Slot T name id) (hty : typeOf (.builtin id) = pure (.type "method_descriptor")) (hm : MtR X id r) (ho : PE X o to) (ha : PA X (e :: es) t)
    (hbase : attributeBase o name X.env (eval o X.env) = eval o X.env := by rfl)
    (hfew : ((backTo cpos (starEach (e :: es) X.env)).all (fun x => !x.1) && (backToKw cpos (keywordEach [] X.env)).all (fun x => x.1.isSome)
      && decide ((e :: es).length + ([] : List Keyword).length + (if ([] : List Keyword).isEmpty then 0 else 1) < 30)) = true := by rfl)
    (hline : (apos.endLine == cpos.line) = true := by rfl) (hs : starEach (e :: es) X.env = (false, eval e X.env) :: starEach es X.env := by rfl) (hplain : (backTo cpos (starEach es X.env)).any (·.1) = false := by rfl) :
    PE X (.Call (.Attribute o name apos) (e :: es) [] cpos) (tBM X.K T r to t) := by
  intro pins s σ H Q I h
  refine wpAny_Call_method_late hbase hfew hline rfl (thn (ho pins s σ H _ I h) fun v s1 ⟨x, H1, I1, r1, ty, q1⟩ => ?_)
  obtain ⟨h1, h2⟩ := tyV_is I1 r1 ty
  refine ⟨T, id, pa, slot, hty, h1, h2, ?_⟩
  have hA := ha cpos pins s1 σ H1 _ I1 q1
  rw [hs] at hA ⊢
  refine Calls.callWith_builtin (by show (false || (backTo cpos (starEach es X.env)).any (·.1)) = false; rw [hplain] <;> rfl) (Calls.evalArgs_plain ?_)
  exact thn hA fun us s2 ⟨vs, H2, I2, r2, q2⟩ => hm pins s2 σ H2 x vs v us Q I2 r1 r2 q2
/- xs.append(e), list.index on a module's tuple .. are MtR facts of 06m -/
end
end L2

namespace L2
open PySem PySem.Spec PyProof.Rows

def MtM (X : Cx) (id : String) (r : V → List V → Hp → VK → Prop) : Prop :=
  ∀ (pins : List (Addr × Obj)) (s : Shared) (σ : St) (H : Hp) (x : V) (xs : List V) (v : Value) (us : List Value) (Q : VK), Inv X pins σ H s → RelV x v → Vals xs us → r x xs H Q →
    wpAny (model X.prog X.w) X.A (call (.builtin id) (v :: us)) (EP X pins σ Q) X.xe s

/-! ### lists of values -/
theorem Vals.one : ∀ {x : V} {us : List Value}, Vals [x] us → ∃ u, us = [u] ∧ RelV x u
  | _, _, .cons r .nil => ⟨_, rfl, r⟩
theorem Vals.zero : ∀ {us : List Value}, Vals [] us → us = []
  | _, .nil => rfl
theorem Vals.dropLast {xs : List V} {us : List Value} (h : Vals xs us) : Vals xs.dropLast us.dropLast := by
  induction h with
  | nil => exact .nil
  | cons r t ih =>
    cases t with
    | nil => exact .nil
    | cons q t' => exact .cons r ih
theorem Vals.reverse {xs : List V} {us : List Value} (h : Vals xs us) : Vals xs.reverse us.reverse := by
  induction h with
  | nil => exact .nil
  | cons r t ih => rw [List.reverse_cons, List.reverse_cons]; exact Vals.append ih (.cons r .nil)
theorem erase_last {α : Type} (l : List α) : l.eraseIdx (l.length - 1) = l.dropLast := by
  induction l with
  | nil => rfl
  | cons a r ih =>
    cases r with
    | nil => rfl
    | cons b r =>
      have e : (a :: b :: r).length - 1 = ((b :: r).length - 1) + 1 := by
        have h1 : (a :: b :: r).length = r.length + 2 := rfl
        have h2 : (b :: r).length = r.length + 1 := rfl
        omega
      rw [e, List.eraseIdx_cons_succ, ih]
      all_goals rfl
section
variable {X : Cx} {pins : List (Addr × Obj)} {σ : St} {H : Hp} {s : Shared} {l b : Addr} {xs ys zs : List V}

/-! ### the two steps: a tracked list is rewritten, a new list is laid -/
theorem Inv.lset {its its' : List Value} {n : Nat} {f : Array Value → Array Value} {t' : Nat} (I : Inv X pins σ H s) (hH : H l = some (.lst xs))
    (e : s.heap.get? l = some { cls := .type "list", data := .seq its.toArray n }) (hf : f its.toArray = its'.toArray) (hv : Vals ys its') (hz : ys.length ≤ sizeLine) :
    Inv X pins σ (upd H l (.lst ys)) { s with heap := s.heap.update l (Obj.mapSeq f), toks := t' } := by
  have q := PySem.IsL.update e f
  rw [hf] at q
  refine I.write (x := l) (e := l) (by rw [hH]; exact trivial) (.inl rfl) (fun b' u hb hu => (Heap.get?_update_other s.heap (Obj.mapSeq f) (Ne.symm hb)).trans hu) ⟨_, q⟩ ?_
  exact ⟨hz, its', _, hv, q⟩
theorem Inv.lnew {its : List Value} {t' : Nat} (I : Inv X pins σ H s) (hv : Vals ys its) (hz : ys.length ≤ sizeLine) :
    Inv X pins σ (upd H s.heap.objs.size (.lst ys)) { s with heap := s.heap.push { cls := .type "list", data := .seq its.toArray }, toks := t' } :=
  I.laid (fun _ _ q => Heap.get?_push_of_some _ q) (Nat.le_refl _) ⟨hz, its, 0, hv, Heap.get?_push_size _ rfl⟩
theorem Inv.fresh (I : Inv X pins σ H s) : H s.heap.objs.size = none := I.hok.fresh (Nat.le_refl _)
theorem Inv.lstM (I : Inv X pins σ H s) (hH : H l = some (.lst xs)) : xs.length ≤ sizeLine ∧ ∃ (its : List Value) (n : Nat), Vals xs its ∧ xs.length = its.length ∧ s.heap.get? l = some { cls := .type "list", data := .seq its.toArray n } := by
  obtain ⟨z, its, n, r, e⟩ := I.hok l _ hH
  exact ⟨z, its, n, r, r.length, e⟩

theorem notLongL {n : Nat} (h : n ≤ sizeLine) : Builtin.List.listTooLong n = false := by
  unfold Builtin.List.listTooLong
  exact decide_eq_false (by omega)
end

section
variable {X : Cx}

/-! ### methods -/
def rAppend : V → List V → Hp → VK → Prop := fun x vs H Q => ∃ l xs y, x = .ref l ∧ vs = [y] ∧ H l = some (.lst xs) ∧ xs.length < sizeLine ∧ Q .non (upd H l (.lst (xs ++ [y])))
theorem mt_append : MtM X "list.append" rAppend := by
  intro pins s σ H x vs v us Q I rx rv h
  obtain ⟨l, xs, y, rfl, rfl, hH, hz, q⟩ := h
  cases rx
  obtain ⟨u, rfl, ru⟩ := rv.one
  obtain ⟨z, its, n, r, hl, e⟩ := I.lstM hH
  refine call_meets F.slot_list_append ⟨_, e, rfl⟩ F.entry_list_append (F.args_list_append_2 _ _) (PySem.list_append l its.toArray n u (by rw [List.size_toArray]; omega)) ⟨e, ?_⟩
  refine ⟨.non, _, I.lset (its' := its ++ [u]) hH e (by simp) (r.append (.cons ru .nil)) ?_, rfl, q⟩
  rw [List.length_append, List.length_singleton]
  omega

def rExtend : V → List V → Hp → VK → Prop := fun x vs H Q => ∃ l b xs zs, x = .ref l ∧ vs = [.ref b] ∧ H l = some (.lst xs) ∧ H b = some (.lst zs) ∧ xs.length + zs.length ≤ sizeLine ∧ Q .non (upd H l (.lst (xs ++ zs)))
theorem mt_extend : MtM X "list.extend" rExtend := by
  intro pins s σ H x vs v us Q I rx rv h
  obtain ⟨l, b, xs, zs, rfl, rfl, hH, hB, hz, q⟩ := h
  cases rx
  obtain ⟨u, rfl, ru⟩ := rv.one
  cases ru
  obtain ⟨z, its, n, r, hl, e⟩ := I.lstM hH
  obtain ⟨z2, its2, n2, r2, hl2, e2⟩ := I.lstM hB
  have hsz : its.toArray.size + its2.toArray.size ≤ sizeLine := by rw [List.size_toArray, List.size_toArray]; omega
  have hlong : ¬ (!its.toArray.isEmpty && Builtin.List.listTooLong (its.toArray.size + its2.toArray.size)) = true := by
    rw [notLongL hsz, Bool.and_false]
    exact Bool.false_ne_true
  refine call_meets F.slot_list_extend ⟨_, e, rfl⟩ F.entry_list_extend (F.args_list_extend_2 _ _)
    (AutoSeq1.list_extend_list_list_0 l its.toArray n b its2.toArray n2 hlong (by rw [List.size_toArray]; omega) (by omega)) ⟨e, e2, ?_⟩
  refine ⟨.non, _, I.lset (its' := its ++ its2) hH e (by simp) (r.append r2) ?_, rfl, q⟩
  rw [List.length_append]
  omega

def rPop : V → List V → Hp → VK → Prop := fun x vs H Q => ∃ l xs y, x = .ref l ∧ vs = [] ∧ H l = some (.lst xs) ∧ xs[xs.length - 1]? = some y ∧ Q y (upd H l (.lst xs.dropLast))
theorem mt_pop : MtM X "list.pop" rPop := by
  intro pins s σ H x vs v us Q I rx rv h
  obtain ⟨l, xs, y, rfl, rfl, hH, hy, q⟩ := h
  cases rx
  have hus := rv.zero
  subst hus
  obtain ⟨z, its, n, r, hl, e⟩ := I.lstM hH
  obtain ⟨u, hu, ru⟩ := r.get hy
  have hy' : its.toArray[its.toArray.size - 1]? = some u := by
    show its.toArray[its.length - 1]? = some u
    rw [← Array.getElem?_toList, ← hl]
    exact hu
  refine call_meets F.slot_list_pop ⟨_, e, rfl⟩ F.entry_list_pop (F.args_list_pop_1 _) (MeetsSeq.list_pop_last l its.toArray n u hy' (by rw [List.size_toArray]; omega)) ⟨e, ?_⟩
  refine ⟨y, _, I.lset (its' := its.dropLast) hH e ?_ r.dropLast ?_, ru, q⟩
  · show its.toArray.eraseIdxIfInBounds (its.toArray.size - 1) = its.dropLast.toArray
    rw [List.size_toArray, List.eraseIdxIfInBounds_toArray, erase_last]
  · rw [List.length_dropLast]
    omega

/-! ### list + list, list += list, list * int -/
def rCat : R2 := fun x y H Q => ∃ l b xs zs, x = .ref l ∧ y = .ref b ∧ H l = some (.lst xs) ∧ H b = some (.lst zs) ∧ xs.length + zs.length ≤ sizeLine ∧ ∀ p, H p = none → Q (.ref p) (upd H p (.lst (xs ++ zs)))
theorem op_cat : OpR X (binaryOp .Add) rCat := by
  intro pins s σ H x y v u Q I rx ry h
  obtain ⟨l, b, xs, zs, rfl, rfl, hH, hB, hz, q⟩ := h
  cases rx
  cases ry
  obtain ⟨z, its, n, r, hl, e⟩ := I.lstM hH
  obtain ⟨z2, its2, n2, r2, hl2, e2⟩ := I.lstM hB
  refine PySem.P.add_list e e2 ?_ (by rw [List.size_toArray, List.size_toArray]; omega)
  have ea : its.toArray ++ its2.toArray = (its ++ its2).toArray := by simp
  rw [ea]
  exact ⟨.ref _, _, I.lnew (t' := s.toks) (r.append r2) (by rw [List.length_append]; omega), rfl, q _ I.fresh⟩
/-! ### del xs[i] -/
end

/-! ### xs[a:b] = ys -/
section
variable {prog : Program} {w : World} {A : Around} {E : Value → Shared → Prop} {s : Shared}
end

section
variable {X : Cx}
end
end L2

namespace Att
open PySem PySem.W PySem.Calls PyProof.Rows

/-! ### the script -/
theorem ints_of_wellAll {P : Params} {h : Heap} : ∀ (ns : List Int) (vs : List Value), WellAll P h vs (ns.map WData.int) → IntsAre vs ns := by
  intro ns
  induction ns with
  | nil =>
    intro vs w
    rw [List.map_nil] at w
    cases w
    exact .nil
  | cons n ns ih =>
    intro vs w
    rw [List.map_cons] at w
    cases w with
    | cons a b =>
      cases a
      exact .cons _ _ (ih _ b)

theorem script_of {l : OpenLaw} {n : Nat} (hn : l.most = some n) {P : Params} {h : Heap} {args : List WData} {vals : List Value}
    (hpre : l.row.toRowW.claim.pre args = true) (hwl : WellAll P h vals args) :
    ∃ a vs ns, vals = [Value.ref a] ∧ args = [WData.list (ns.map WData.int)] ∧ h.get? a = some { cls := .type "list", data := .seq vs.toArray } ∧ IntsAre vs ns ∧ ns.length ≤ n := by
  have hsh : WShape.hasAll [] args [.list .int] = true := (pre_splitW hpre).1
  have hc : l.pre.holds [] { args := args } = true := (pre_splitW hpre).2
  obtain ⟨d, r, rfl, h1, h2⟩ := hasAllW_cons hsh
  obtain rfl := hasAllW_nil h2
  obtain ⟨xs, rfl, h3⟩ := hasW_list h1
  obtain ⟨ns, rfl⟩ := items_int h3
  have hlen : ns.length ≤ n := by
    unfold OpenLaw.pre at hc
    have h4 : (WTm.not (.lt (.lit (.int (n : Int))) (.len (.arg 0)))).holds [] { args := [.list (ns.map .int)] } = true := by
      have h4 := (holds_andW hc).1
      rw [hn] at h4
      exact h4
    have h5 := condW_of h4 (w_not (w_lt w_lit (w_len_list (w_arg rfl))))
    rw [List.length_map] at h5
    refine Nat.le_of_not_lt fun q => ?_
    have q' : (n : Int) < ((ns.length : Nat) : Int) := by omega
    first
      | (rw [decide_eq_true q'] at h5; exact absurd h5 (by decide))
      | (simp at h5; omega)
  cases hwl with
  | cons w1 w2 =>
    cases w2
    cases w1 with
    | list ho hall => exact ⟨_, _, ns, rfl, rfl, ho, ints_of_wellAll ns _ hall, hlen⟩

theorem post_true (l : OpenLaw) (args : List WData) : l.row.toRowW.claim.post args (.bool true) args = true :=
  postW_of (r := l.row.toRowW) (X := (true == true))
    (show WShape.has [] (.bool true) .bool = true by first | rfl | decide | simp [WShape.has, WShape.arms, WShape.armsAll])
    (show (WTm.eq .res (.lit (.bool true))).value [] { args := args, res := some (.bool true), after := args } = some (.bool (true == true)) from w_eq_bool (w_res rfl) w_lit) rfl

/-! ### the attachment: holds_open's last premise (the goal 'hc' behind k_head) from a wpAny of the law's body -/
/-- the same from a codeAny of the CALL (for a layer whose function contracts speak of calls) -/
theorem attach_call {l : OpenLaw} {n : Nat} {q : Program} {loose : List Str} {XP : (Str → Option Value) → Heap → Prop} {YP : World → Heap → Prop} {d : DefRec}
    (hn : l.most = some n) (hdf : d.params.defaults = [])
    (call : ∀ (w : World) (s₀ s₁ : Shared) (mg mb : Str → Option Value) (fa : Addr) (o : Obj) (pm cd doc : Value) (a : Addr) (vs : List Value) (ns : List Int),
      Ground q loose [] XP w s₀ mg mb s₁.heap → YP w s₁.heap →
      s₁.heap.get? fa = some o → o.data = .func (docDef d.name d.params d.body d.scope pm cd doc) → s₁.heap.CodeRec cd d.name → mg d.name = some (.ref fa) →
      s₁.heap.get? a = some { cls := .type "list", data := .seq vs.toArray } → IntsAre vs ns → ns.length ≤ n → s₁.gens = #[] →
      codeAny (model l.prog w) callerA (.call (.ref fa) ⟨[.ref a], []⟩) (fun r s' => r = .ok (.ret (.bool true)) ∧ OldK s₁.heap s'.heap ∧ s'.os = s₁.os ∧ AllBare s'.gens) s₁) :
    WalkO q loose XP YP l.row.toRowW d [] (fun f vs => PySem.call f vs) := by
  intro w s₀ s₁ mg mb G Y fa o pm cd doc dV kV ho hd hcd hD hmg hg args vals as hpre hlay hrd hwl hlo
  obtain rfl : dV = .none := Dflts.none hD hdf
  obtain rfl : kV = .none := Dflts.noKw hD
  obtain ⟨a, vs, ns, rfl, rfl, hobj, hints, hlen⟩ := script_of hn hpre hwl
  refine enter_call (codeAny_mono (call w s₀ s₁ mg mb fa o pm cd doc a vs ns G Y ho (fd_plain hd) hcd hmg hobj hints hlen hg) fun r s' hq => ?_)
  obtain ⟨rfl, h2, h3, h4⟩ := hq
  exact ⟨.inl ⟨.bool true, .bool true, [], rfl, fun _ => rfl, .bool true, post_true l _, fun _ => ⟨List.Pairwise.nil, fun _ hm => (nomatch hm)⟩⟩, h2, h3, h4⟩

/-! ### rules over ANY heap (no ledger) from facts about the written part K: the library's own take a ledger (News) for what they write -/
section
variable {prog : Program} {w : World} {A : Around} {E : Value → Shared → Prop} {s : Shared} {K : Frag}

/-! the whole heap as the ledger: makes every rule that writes through a ledger a rule over any heap -/
def ledger (h : Heap) (L d : Addr) : List (Addr × Obj) := (List.range h.objs.size).filterMap fun a => if a = L ∨ a = d then none else (h.get? a).map fun o => (a, o)
end
end Att

namespace L2
open PySem PySem.Spec PyProof.Rows

theorem vals_ints : ∀ {vs : List Value} {ns : List Int}, IntsAre vs ns → Vals (ns.map V.int) vs
  | _, _, .nil => .nil
  | _, _, .cons n t h => .cons ⟨t, rfl⟩ (vals_ints h)

/-- nothing is tracked but the script, known to the object (or it is an object of the module) -/
def Only (H : Hp) : Prop := ∀ b, H b = none ∨ ∃ o xs, H b = some (.frz o (.lst xs))

/-- THE HEAD: the law's promise, at the heap behind the top. F, the promise of the law's def, may use that base is part of the heap (so K.In base, base.Ns mainGlobals mg stand in Mod) -/
theorem law_call {P : Program} {w : World} {K : PySem.W.Frag} {mg mb : Str → Option Value} {CX : CXT} {k : Nat} {fa a : Addr} {fd : FuncData} {x : Str} {sp : Sp} {s₁ : Shared} {vs : List Value} {ns : List Int}
    (KX : K.In s₁.heap) (hns : s₁.heap.Ns mainGlobals mg) (hb : s₁.heap.Ns builtinsNs mb) (hbb : ∀ x : Str, x ≠ "__name__" → mb x = bootBuiltins x) (hlim : s₁.heap.NoLimit) (hg : s₁.gens = #[])
    (ha : s₁.heap.get? a = some { cls := .type "list", data := .seq vs.toArray }) (hi : IntsAre vs ns) (hl : ns.length ≤ sizeLine) (hr : Room k callerA)
    (F : ∀ base : Heap, K.In base → base.Ns mainGlobals mg → FnOk P w K mg base CX k fa fd [x] sp) (hbind : ∀ (s : Shared) (u : Value), BindsTo s fd ⟨[u], []⟩ [(x, u)])
    (hsp : ∀ H : Hp, Only H → SqL K H a (ns.map V.int) → sp [.ref a] H (fun v _ => v = .bl true) fun _ _ _ => False)
    (hCX : ∀ H e s', CX [] H s₁ (fun _ _ _ => False) e s' → False) :
    codeAny (model P w) callerA (.call (.ref fa) ⟨[.ref a], []⟩) (fun r s' => r = .ok (.ret (.bool true)) ∧ OldK s₁.heap s'.heap ∧ s'.os = s₁.os ∧ AllBare s'.gens) s₁ := by
  have rv := vals_ints hi
  have lenV := hi.length
  -- from an abstract heap in which nothing but the script may be tracked
  have core : ∀ H : Hp, Only H → SqL K H a (ns.map V.int) → HOk P w H s₁.heap → (∀ b, H b ≠ none → b = a) → (H a ≠ none → K.lookup a = none) →
      codeAny (model P w) callerA (.call (.ref fa) ⟨[.ref a], []⟩) (fun r s' => r = .ok (.ret (.bool true)) ∧ OldK s₁.heap s'.heap ∧ s'.os = s₁.os ∧ AllBare s'.gens) s₁ := by
    intro H hO hS hok hA hK
    have base_of : ∀ {b : Addr} {o : Obj}, s₁.heap.get? b = some o → H b = none → (hidT s₁.heap H).get? b = some o := fun e n => hidT_get e n
    have noA : ∀ {b : Addr} {o : Obj} {es : Array DictEntry} {ep : Nat}, s₁.heap.get? b = some o → o.data = .dict es ep → H b = none := fun {b o es ep} e d => by
      cases q : H b with
      | none => rfl
      | some u =>
        have e' : b = a := hA b (by rw [q]; simp)
        subst e'
        rw [ha] at e; cases e
        have d' : Data.seq vs.toArray _ = Data.dict es ep := d
        cases d'
    have nsK : ∀ {b : Addr} {m : Str → Option Value}, s₁.heap.Ns b m → (hidT s₁.heap H).Ns b m := fun {b m} ⟨o, es, ep, e, d, r⟩ => ⟨o, es, ep, base_of e (noA e d), d, r⟩
    have hKb : K.In (hidT s₁.heap H) := fun b o e => base_of (KX b o e) (by
      cases q : H b with
      | none => rfl
      | some u =>
        have e' : b = a := hA b (by rw [q]; simp)
        subst e'
        rw [hK (by rw [q]; simp)] at e; cases e)
    have hM : Mod K mg (hidT s₁.heap H) := ⟨hKb, nsK hns, ⟨mb, nsK hb, hbb⟩, let ⟨mc, h1, h2⟩ := hlim; ⟨mc, nsK h1, h2⟩⟩
    have e0 : Env0 P w K mg (hidT s₁.heap H) callerA [] s₁ H := ⟨rfl, hM, fun b o e => of_hidT e, Nat.le_of_eq (hidT_size _ _), trivial, fun b hb => absurd (show b ∈ ([] : List Addr) from hb) (by simp), hok, .of_eq hg⟩
    refine codeAny_mono ((F _ hKb (nsK hns)).run callerA [] s₁ H ⟨[.ref a], []⟩ [.ref a] [.ref a] _ _ hr e0 (hbind s₁ (.ref a)) (.cons rfl .nil) (hsp H hO hS)) fun r s' h => ?_
    cases r with
    | error e => exact (hCX H e s' h).elim
    | ok fl =>
      cases fl with
      | next => exact False.elim h
      | brk => exact False.elim h
      | cont => exact False.elim h
      | ret u =>
        obtain ⟨v, H', os, bare, un, hok', r', q⟩ := h
        have q' : v = .bl true := q
        subst q'
        obtain rfl : u = Value.bool true := r'
        refine ⟨rfl, OldK.of_keep fun b o e => ?_, os, bare⟩
        cases q : H b with
        | none => exact un.keep b o e q (by intro z; exact absurd (show b ∈ ([] : List Addr) from z) (by simp)) (by simp)
        | some u =>
          rcases hO b with z | ⟨ob, xs, z⟩
          · rw [q] at z; cases z
          · have z2 := un.frzs b ob _ z
            obtain ⟨e1, _⟩ := hok b _ z
            obtain ⟨e2, _⟩ := hok' b _ z2
            rw [e] at e1; cases e1
            exact e2
  cases hk : K.lookup a with
  | some o =>
    -- the script is one of the module's own objects
    have e := KX a o hk
    rw [ha] at e
    cases e
    refine core (fun _ => none) (fun _ => .inl rfl) (.inr ⟨_, vs.toArray, _, hk, rfl, rfl, rfl, by rw [List.size_toArray, lenV]; exact hl, by simpa using rv⟩) (fun b u z => by have z' : (none : Option HO) = some u := z; cases z') (fun b z => absurd rfl z) fun z => absurd rfl z
  | none =>
    refine core (fun b => if b = a then some (.frz { cls := .type "list", data := .seq vs.toArray } (.lst (ns.map V.int))) else none) (fun b => ?_) (.inl (.inr ⟨{ cls := .type "list", data := .seq vs.toArray }, if_pos rfl⟩)) (fun b u z => ?_) (fun b z => ?_) fun _ => hk
    · by_cases hb : b = a
      · exact .inr ⟨_, _, if_pos hb⟩
      · exact .inl (if_neg hb)
    · by_cases hb : b = a
      · have z' := (if_pos hb).symm.trans z
        cases z'
        subst hb
        exact ⟨ha, by rw [List.length_map]; exact hl, vs, _, rv, ha⟩
      · have z' := (if_neg hb).symm.trans z
        cases z'
    · by_cases hb : b = a
      · exact hb
      · exact absurd (if_neg hb) z
end L2

namespace L2
open PySem PySem.Spec PyProof.Rows

/-- the goal that k_head leaves (case hc), from the law's promise. F gives the function object fd (K's own) once, then the promise over every base -/
theorem walk_of {l : PySem.W.OpenLaw} {n k : Nat} {q : Program} {loose : List Str} {XP : (Str → Option Value) → Heap → Prop} {YP : World → Heap → Prop} {d : DefRec} {K : Params → PySem.W.Frag} {CX : World → CXT} {sp : World → Sp} {x : Str}
    (hn : l.most = some n) (hn2 : n ≤ sizeLine) (hdf : d.params.defaults = []) (hr : Room k callerA)
    (hY : ∀ (w : World) (h : Heap), YP w h → (K w.params).In h)
    (F : ∀ (w : World) (mg : Str → Option Value) (fa : Addr) (h : Heap), (K w.params).In h → h.Ns mainGlobals mg → mg d.name = some (.ref fa) →
      ∃ fd : FuncData, (∀ (s : Shared) (u : Value), BindsTo s fd ⟨[u], []⟩ [(x, u)]) ∧
        ∀ base : Heap, (K w.params).In base → base.Ns mainGlobals mg → FnOk l.prog w (K w.params) mg base (CX w) k fa fd [x] (sp w))
    (hsp : ∀ (w : World) (H : Hp) (a : Addr) (ns : List Int), ns.length ≤ n → Only H → SqL (K w.params) H a (ns.map V.int) → sp w [.ref a] H (fun v _ => v = .bl true) fun _ _ _ => False)
    (hCX : ∀ (w : World) (H : Hp) (s : Shared) (e : Value) (s' : Shared), CX w [] H s (fun _ _ _ => False) e s' → False) :
    PySem.W.WalkO q loose XP YP l.row.toRowW d [] (fun f vs => PySem.call f vs) := by
  refine Att.attach_call hn hdf fun w s₀ s₁ mg mb fa o pm cd doc a vs ns G Y ho hd hcd hmg hobj hints hlen hg => ?_
  have KX := hY w _ Y
  obtain ⟨fd, hb, hF⟩ := F w mg fa _ KX G.T.g hmg
  exact law_call KX G.T.g G.T.b G.T.builtins G.T.nolimit hg hobj hints (Nat.le_trans hlen hn2) hr hF hb (fun H hO hS => hsp w H a ns hlen hO hS) fun H e s' => hCX w H s₁ e s'
end L2

/- THE LAST THEOREM (shape; LID, My.* are yours):
   My.Adr: a structure of the addresses that your layer names (classes, functions); My.Txt K t: a structure (Prop) of the equations over K;
   My.txt_mk : {K} {implicit addresses ..} (e1 : nsIn K mainGlobals "law" = some (some (.ref f))) (e2 : K.lookup f = some ⟨oc, od, .func (fnOf "law" "law" params body scope dV kV doc pm an cdv ct), sl⟩) (e3 : codeIn K cdv "law" = true) .. : ∃ t, My.Txt K t

set_option maxRecDepth 100000 in
set_option maxHeartbeats 0 in
theorem PySem.Challenge.cw_LID_holds : PySem.Challenge.rw_LID.Holds := by
  w_on; o_law; k_head; (case hw => w_witness2)
  k_fill
  refine L2.walk_of (l := PySem.Challenge.rw_LID) (n := 63) (k := 40) (x := "script") (CX := fun w => ..) (sp := fun _ => My.sp_law) rfl (by decide) rfl ⟨rfl, by decide, by decide⟩ (fun w h Y => PySem.W.kIn_of Y) ?F ?S ?C
  case F =>
    intro w mg fa h KX G hmg
    have T : ∃ t, My.Txt (L2.KOf KX) t := by
      dsimp only [L2.KOf]                          -- K must stand as «<heap const> w.params» for k_is
      refine' My.txt_mk ?e1 ?e2 ?e3 ..
      (case e1 => PySem.W.k_is)                    -- in the order: a name -> its address -> its object -> its parts
      (case e2 => PySem.W.k_is)
      ..
    obtain ⟨t, T⟩ := T
    have e0 := hmg.symm.trans (PySem.W.mg_of KX G T.law)
    cases e0                                       -- fa is the law's own address
    exact ⟨_, fun s u => .of_eq rfl, fun base kb nb => My.law_fn T kb nb⟩     -- if «.of_eq rfl» comes too early: refine' ⟨_, ?b, fun base kb nb => My.law_fn T kb nb⟩; exact fun s u => .of_eq rfl
  case S => exact fun w H a ns hl hO hS => ..
  case C => exact ..
(the tactic k_is has no namespace: write k_is) -/

/-! SHORT WORDS over the layer: a def of the text, its body, what a loop and a test want. -/
namespace L2
open PySem PySem.Spec PyProof.Rows

/-! ### the text by places -/
def defArgs (s : Stmt) : Arguments := match s with
  | .FunctionDef _ a _ _ _ _ _ _ _ _ => a
  | _ => { posonlyargs := [], args := [], vararg := none, kwonlyargs := [], kw_defaults := [], kwarg := none, defaults := [] }
def defBody (s : Stmt) : List Stmt := match s with
  | .FunctionDef _ _ b _ _ _ _ _ _ _ => b
  | _ => []
def defScope (s : Stmt) : Scope := match s with
  | .FunctionDef _ _ _ _ _ _ sc _ _ _ => sc
  | _ => { kind := .function, names := [], isGenerator := false, isCoroutine := false }

/-! ### no exception leaves a def -/
abbrev CX0 : CXT := fun _ _ _ _ _ _ => False
abbrev E0 : XK := fun _ _ _ => False
theorem pass0 {X : Cx} : Passes CX0 X E0 := fun _ _ _ _ _ _ _ h => h.elim

/-! ### a def (or method) of the text as it stands behind the top -/
structure Fun (K : PySem.W.Frag) (x qual : Str) (st : Stmt) (f : Addr) (fd : FuncData) : Prop where
  ex : ∃ (oc : Value) (od : Option Addr) (kV doc pm : Value) (an : Option Addr) (cdv ct : Value) (osl : Array (Option Value)),
    fd = PySem.W.fnOf x qual (defArgs st) (defBody st) (defScope st) .none kV doc pm an cdv ct ∧ K.lookup f = some ⟨oc, od, .func fd, osl⟩ ∧ PySem.W.codeIn K cdv qual = true
  kp : PySem.W.keepIn K (.ref f) = true
section
variable {P : Program} {w : World} {K : PySem.W.Frag} {mg : Str → Option Value} {base : Heap}
/-- THE RULE for a def: its body as a term of rules, and the reading of that term -/
theorem Fun.ok {x qual : Str} {st : Stmt} {f : Addr} {fd : FuncData} {N ps : List Str} {k : Nat} {sp : Sp} (F : Fun K x qual st f fd) (S : FnScope N ps (defScope st)) (len : ∀ vs H Q E, sp vs H Q E → vs.length = ps.length)
    (hbody : ∀ (cdv : Value) (A : Around) (outer : List Env) (s : Shared) (H : Hp) (vs : List V) (Q : VK) (E : XK), Room k (A.deeper (envOfC qual (defScope st) s.heap.objs.size f cdv)) → sp vs H Q E →
      ∃ t, PSs (cxOf CX0 P w K mg base N qual (defScope st) f cdv A outer s H E).nox (defBody st) t ∧ t { nx := fun _ H' => Q .non H', rt := Q } (start N vs) H) : FnOk P w K mg base CX0 (k + 1) f fd ps sp := by
  obtain ⟨oc, od, kV, doc, pm, an, cdv, ct, osl, rfl, lk, hcd⟩ := F.ex
  refine fn_of lk hcd S len fun A outer s H vs Q E hr hsp => ?_
  obtain ⟨t, h, q⟩ := hbody cdv A outer s H vs Q E hr hsp
  exact ⟨t, h.nox, q⟩
/-- how its arguments bind (no defaults): h is «fun _ _ _ _ _ _ us hl => match us, hl with | [_, _], _ => rfl», one _ a parameter -/
theorem Fun.binds {x qual : Str} {st : Stmt} {f : Addr} {fd : FuncData} {ps : List Str} (F : Fun K x qual st f fd)
    (h : ∀ (kV doc pm : Value) (an : Option Addr) (cdv ct : Value) (us : List Value), us.length = ps.length → bindArgs (PySem.W.fnOf x qual (defArgs st) (defBody st) (defScope st) .none kV doc pm an cdv ct) ⟨us, []⟩ = pure (ps.zip us)) : Binds K fd ps [] := by
  obtain ⟨oc, od, kV, doc, pm, an, cdv, ct, osl, rfl, lk, hcd⟩ := F.ex
  exact .all (h kV doc pm an cdv ct)
theorem fun_mk {x qual : Str} {st : Stmt} {f : Addr} {oc : Value} {od an : Option Addr} {osl : Array (Option Value)} {kV doc pm cdv ct : Value} (l : K.lookup f = some ⟨oc, od, .func (PySem.W.fnOf x qual (defArgs st) (defBody st) (defScope st) .none kV doc pm an cdv ct), osl⟩)
    (c : PySem.W.codeIn K cdv qual = true) (k : PySem.W.keepIn K (.ref f) = true) : Fun K x qual st f (PySem.W.fnOf x qual (defArgs st) (defBody st) (defScope st) .none kV doc pm an cdv ct) := ⟨⟨oc, od, kV, doc, pm, an, cdv, ct, osl, rfl, l, c⟩, k⟩
end
theorem hu_of {A : Around} {k : Nat} (hr : Room k A) : A.units + 1 < cLine := Nat.lt_of_le_of_lt (Nat.add_le_add_left (by decide : 1 ≤ 64) _) hr.units
theorem small1000 {n : Nat} (h : n ≤ 1000) : n < sizeLine := Nat.lt_of_le_of_lt h (by decide)

/-! ### expressions in short: the name that stands in the i-th slot -/
section
variable {X : Cx}
theorem pv (i : Nat) {x : Str} {pos : Pos} (hN : X.N[i]? = some x := by rfl) (hv : Vis X.env.scope x := by first | exact Or.inl rfl | exact Or.inr (Or.inl rfl) | exact Or.inr (Or.inr rfl)) (hd : (x == ("__debug__" : Str)) = false := by decide)
    (hcd : (x == ("__classdict__" : Str)) = false := by decide) : PE X (.Name x pos) (tVar i) := pe_var hN hv hd hcd
end

/-! ### tests -/
theorem iteF {A B : Prop} (h : B) : if false = true then A else B := by
  rw [if_neg Bool.false_ne_true]
  exact h
theorem ite2 {c A B : Prop} [Decidable c] (h1 : c → A) (h2 : ¬ c → B) : if c then A else B := by
  by_cases h : c
  · rw [if_pos h]
    exact h1 h
  · rw [if_neg h]
    exact h2 h
theorem iteNS {c A B : Prop} [Decidable c] (hc : c) (h : B) : if (!decide c) = true then A else B := by
  rw [decide_eq_true hc]
  exact iteF h

/-! ### heaps -/
/-- all that was tracked is as it was -/
def Same (H H' : Hp) : Prop := ∀ b o, H b = some o → H' b = some o
theorem Same.refl (H : Hp) : Same H H := fun _ _ h => h
theorem Same.trans {H H1 H2 : Hp} (a : Same H H1) (b : Same H1 H2) : Same H H2 := fun c o h => b c o (a c o h)
theorem Same.free {H H' : Hp} (e : Same H H') {l : Addr} (h : H' l = Option.none) : H l = Option.none := by
  cases q : H l with
  | none => rfl
  | some o =>
    rw [e l o q] at h
    cases h
theorem Same.seq {K : PySem.W.Frag} {H H' : Hp} {a : Addr} {xs : List V} (e : Same H H') (h : SqL K H a xs) : SqL K H' a xs := by
  rcases h with (h | ⟨o, h⟩) | h
  · exact .inl (.inl (e _ _ h))
  · exact .inl (.inr ⟨o, e _ _ h⟩)
  · exact .inr h

/-! ### a dict's pairs: keys that differ -/
section
variable {κ : Type} [DecidableEq κ]
end
end L2
set_option maxHeartbeats 4000000
namespace L2
open PySem PySem.Spec PyProof.Rows

/-! ### what a block closes over -/
def clOf (env : Env) (names : List (Str × NameKind)) : List (Str × Addr) :=
  names.foldl (fun cs y => if y.2 == NameKind.free then (y.1, (env.cells.lookup y.1).getD 0) :: cs else cs) []
theorem clFold {env : Env} : ∀ (names : List (Str × NameKind)) (cs : List (Str × Addr)), (∀ y ∈ names, y.2 = .free → ∃ c, env.cells.lookup y.1 = some c) →
    (forIn names cs fun (y : Str × NameKind) (r : List (Str × Addr)) => (if y.2 == NameKind.free then (do let a ← cellOf env y.1; pure (ForInStep.yield ((y.1, a) :: r))) else pure (ForInStep.yield r) : Sem (ForInStep (List (Str × Addr))))) =
      pure (names.foldl (fun cs y => if y.2 == NameKind.free then (y.1, (env.cells.lookup y.1).getD 0) :: cs else cs) cs)
  | [], cs, _ => rfl
  | (n, k) :: r, cs, h => by
    have ih := fun cs' => clFold (env := env) r cs' fun y hy => h y (List.mem_cons_of_mem _ hy)
    rw [List.forIn_cons, List.foldl_cons]
    by_cases hk : k = .free
    · subst hk
      obtain ⟨c, hc⟩ := h (n, .free) List.mem_cons_self rfl
      have e : cellOf env n = pure c := by unfold cellOf; rw [hc]
      simp only [beq_self_eq_true, if_true, e, pure_bind, hc, Option.getD_some]
      exact ih _
    · have hb : (k == NameKind.free) = false := by simpa using hk
      simp only [hb, Bool.false_eq_true, if_false, pure_bind]
      exact ih _
theorem closure_of {scope : Scope} {env : Env} (h : ∀ y ∈ scope.names, y.2 = .free → ∃ c, env.cells.lookup y.1 = some c) : closureFor scope env = pure (clOf env scope.names) := by
  unfold closureFor
  have e := clFold (env := env) scope.names [] h
  simp only [] at e ⊢
  refine Eq.trans ?_ (congrArg (fun m : Sem (List (Str × Addr)) => m >>= fun cs => pure cs) e)
  rfl
theorem cl_get {env : Env} {x : Str} {c : Addr} : ∀ (names : List (Str × NameKind)) (cs : List (Str × Addr)), (∀ y ∈ names, y.2 = .free → ∃ c, env.cells.lookup y.1 = some c) →
    (names.foldl (fun cs y => if y.2 == NameKind.free then (y.1, (env.cells.lookup y.1).getD 0) :: cs else cs) cs).lookup x = some c → cs.lookup x = some c ∨ env.cells.lookup x = some c
  | [], _, _, e => .inl e
  | (n, k) :: r, cs, h, e => by
    rw [List.foldl_cons] at e
    have ih := cl_get r _ (fun y hy => h y (List.mem_cons_of_mem _ hy)) e
    rcases ih with q | q
    · by_cases hk : k = .free
      · subst hk
        obtain ⟨c', hc⟩ := h (n, .free) List.mem_cons_self rfl
        simp only [beq_self_eq_true, if_true, hc, Option.getD_some, List.lookup_cons] at q
        cases hx : x == n with
        | true =>
          rw [hx] at q
          have : x = n := by simpa using hx
          subst this
          simp only [Option.some.injEq] at q
          subst q
          exact .inr hc
        | false =>
          rw [hx] at q
          exact .inl q
      · have hb : (k == NameKind.free) = false := by simpa using hk
        simp only [hb, Bool.false_eq_true, if_false] at q
        exact .inl q
    · exact .inr q
theorem cl_has {env : Env} {x : Str} : ∀ (names : List (Str × NameKind)) (cs : List (Str × Addr)), ((x, NameKind.free) ∈ names ∨ ∃ c, cs.lookup x = some c) →
    ∃ c, (names.foldl (fun cs y => if y.2 == NameKind.free then (y.1, (env.cells.lookup y.1).getD 0) :: cs else cs) cs).lookup x = some c
  | [], _, e => by rcases e with e | e; exact absurd e (by simp); exact e
  | (n, k) :: r, cs, e => by
    rw [List.foldl_cons]
    refine cl_has r _ ?_
    rcases e with e | ⟨c, e⟩
    · rcases List.mem_cons.mp e with z | z
      · cases z
        right
        simp only [beq_self_eq_true, if_true, List.lookup_cons]
        exact ⟨_, rfl⟩
      · exact .inl z
    · right
      by_cases hk : k = .free
      · subst hk
        simp only [beq_self_eq_true, if_true, List.lookup_cons]
        cases hx : x == n with
        | true => exact ⟨_, rfl⟩
        | false => exact ⟨c, e⟩
      · have hb : (k == NameKind.free) = false := by simpa using hk
        simp only [hb, Bool.false_eq_true, if_false]
        exact ⟨c, e⟩
/-- a name that the block holds as a cell or as free was free there -/
theorem relabel_free {env : Env} {x : Str} : ∀ {names : List (Str × NameKind)}, (∀ y ∈ names, y.2 ≠ .cell) →
    ((names.map fun (n, k) => if (k == NameKind.free && env.scope.kind == .function && env.kindOf n == some .cell) then (n, NameKind.cell) else (n, k)).lookup x = some .cell ∨
     (names.map fun (n, k) => if (k == NameKind.free && env.scope.kind == .function && env.kindOf n == some .cell) then (n, NameKind.cell) else (n, k)).lookup x = some .free) → (x, NameKind.free) ∈ names
  | [], _, h => by simp at h
  | (n, k) :: r, hc, h => by
    have ih := @relabel_free env x r fun y hy => hc y (List.mem_cons_of_mem _ hy)
    have hk := hc (n, k) List.mem_cons_self
    simp only [List.map_cons] at h
    by_cases cc : (k == NameKind.free && env.scope.kind == .function && env.kindOf n == some .cell) = true
    · rw [if_pos cc] at h
      have kf : k = .free := by
        simp only [Bool.and_eq_true, beq_iff_eq] at cc
        exact cc.1.1
      subst kf
      simp only [List.lookup_cons] at h
      cases hx : x == n with
      | true =>
        have : x = n := by simpa using hx
        subst this
        exact List.mem_cons_self
      | false => rw [hx] at h; exact List.mem_cons_of_mem _ (ih h)
    · rw [if_neg cc] at h
      simp only [List.lookup_cons] at h
      cases hx : x == n with
      | true =>
        rw [hx] at h
        have : x = n := by simpa using hx
        subst this
        rcases h with h | h
        · simp only [Option.some.injEq] at h
          exact absurd h hk
        · simp only [Option.some.injEq] at h
          subst h
          exact List.mem_cons_self
      | false => rw [hx] at h; exact List.mem_cons_of_mem _ (ih h)

/-- the tests of a clause, as one tree -/
abbrev testsT (ifs : List Expr) (env : Env) : Sem Bool := forIn ifs true fun c r =>
  if r = true then do
    let ok ← isTrue c env (eval c env)
    pure (ForInStep.yield ok)
  else pure (ForInStep.yield r)
/-! ### the tests of a clause -/
def PIfs (X : Cx) (ifs : List Expr) (t : TT) : Prop :=
  ∀ (pins : List (Addr × Obj)) (s : Shared) (σ : St) (H : Hp) (Q : Bool → Hp → Prop), Inv X pins σ H s → t σ H Q →
    wpAny (model X.prog X.w) X.A (testsT ifs X.env) (TP X pins σ Q) X.xe s
def tYes : TT := fun _ H Q => Q true H
theorem pf_nil {X : Cx} : PIfs X [] tYes := fun _ _ _ H _ I h => wpAny_tests_nil ⟨H, I, h⟩
theorem pf_one {X : Cx} {c : Expr} {t : TT} (h : PT X c t) : PIfs X [c] t := fun pins s σ H Q I q => wpAny_tests_one (h pins s σ H Q I q)

abbrev Nope : Value → Shared → Prop := fun _ _ => False
/-- the loop of a comprehension, with the step ahead of the store; nothing is raised -/
theorem comp_loop {prog : Program} {w : World} {A : Around} {R : Result → Shared → Prop} {s0 : Shared} {elt target iter : Expr} {ifs : List Expr} {scope : Scope} {pos : Pos} {it acc : Value} {env : Env} (W : Nat → Shared → Prop)
    (one : ∀ k t, W k t → wpAny (model prog w) A (pyNext it) (fun r t1 => match r with
      | none => R (.ok .next) t1
      | some v => wpAny (model prog w) A (letOwnedTupleGo target it v) (fun _ t2 => wpAny (model prog w) A (assign target env v) (fun _ t3 => wpAny (model prog w) A (testsT ifs env) (fun ok t4 =>
          if ok = true then wpAny (model prog w) A (eval elt env) (fun x t5 => wpAny (model prog w) A (call (.builtin "list.append") [acc, x]) (fun _ t6 => ∃ j, j < k ∧ W j t6) Nope t5) Nope t4
          else ∃ j, j < k ∧ W j t4) Nope t3) Nope t2) Nope t1) Nope t)
    (k0 : Nat) (h0 : W k0 s0) : codeAny (model prog w) A (.compLoop (.ListComp elt [⟨target, iter, ifs, 0⟩] scope pos) 0 it acc env) R s0 := by
  refine codeAny_loop rfl W (fun k t hW => ?_) k0 h0
  refine wpAny_noted (m := compTurn (.ListComp elt [⟨target, iter, ifs, 0⟩] scope pos) 0 it acc env) ?_
  have no : ∀ {P : Prop} {e : Value} {t : Shared}, Nope e t → P := fun z => z.elim
  rw [compTurn_list]
  refine wpAny_bind (wpAny_standAt (wpAny_bind (wpAny_mono (one k t hW) (fun r t1 q1 => ?_) fun _ _ => no)))
  match r with
  | none => exact wpAny_pure q1
  | some v =>
    refine wpAny_bind (wpAny_mono q1 (fun _ t2 q2 => wpAny_bind (wpAny_mono q2 (fun _ t3 q3 => wpAny_bind (wpAny_mono q3 (fun ok t4 q4 => ?_) fun _ _ => no)) fun _ _ => no)) fun _ _ => no)
    match ok with
    | false => exact wpAny_pure ⟨rfl, q4⟩
    | true =>
      rw [if_pos rfl] at q4
      refine wpAny_bind (wpAny_bind (wpAny_mono q4 (fun x t5 q5 => wpAny_bind (wpAny_mono q5 (fun _ t6 q6 => ?_) fun _ _ => no)) fun _ _ => no))
      exact wpAny_pure (wpAny_pure ⟨rfl, q6⟩)

/-! ### the block of a comprehension -/
/-- the block's names' values at its start: none, or those of the def's names -/
def entV (ix : List (Option Nat)) (σ : St) : St := ix.map fun o => o.bind fun j => σ[j]?.join
theorem entV_get {ix : List (Option Nat)} {σ : St} {i : Nat} {v : V} (h : (entV ix σ)[i]? = some (some v)) : ∃ j, ix[i]? = some (some j) ∧ σ[j]? = some (some v) := by
  unfold entV at h
  rw [List.getElem?_map] at h
  cases e : ix[i]? with
  | none => rw [e] at h; cases h
  | some o =>
    rw [e] at h
    cases o with
    | none => cases h
    | some j =>
      have h : some (σ[j]?.join) = some (some v) := h
      refine ⟨j, rfl, ?_⟩
      cases q : σ[j]? with
      | none => rw [q] at h; cases h
      | some z => rw [q] at h; cases h; rfl
/-- N': the block's names; ix: for each of them where it stands among the def's names (or none: a target) -/
def compOk (N : List Str) (sc scope : Scope) (N' : List Str) (ix : List (Option Nat)) : Bool :=
  ix.length == N'.length && (ix.zip N').all (fun p => match p.1 with | none => true | some j => N[j]? == some p.2 && scope.names.lookup p.2 == some NameKind.free) &&
  scope.names.all (fun y => y.2 != NameKind.cell && (y.2 != NameKind.free || sc.names.lookup y.1 == some NameKind.cell || sc.names.lookup y.1 == some NameKind.free) && (y.2 != NameKind.local || scope.names.lookup y.1 == some NameKind.local)) &&
  scope.kind == ScopeKind.function
structure CompOk (N : List Str) (sc scope : Scope) (N' : List Str) (ix : List (Option Nat)) : Prop where
  len : ix.length = N'.length
  at_ : ∀ (i j : Nat) (x : Str), ix[i]? = some (some j) → N'[i]? = some x → N[j]? = some x ∧ scope.names.lookup x = some .free
  nocell : ∀ y ∈ scope.names, y.2 ≠ .cell
  free : ∀ y ∈ scope.names, y.2 = .free → sc.names.lookup y.1 = some .cell ∨ sc.names.lookup y.1 = some .free
  loc : ∀ y ∈ scope.names, y.2 = .local → scope.names.lookup y.1 = some .local
  kind : scope.kind = .function
theorem CompOk.of {N : List Str} {sc scope : Scope} {N' : List Str} {ix : List (Option Nat)} (h : compOk N sc scope N' ix = true) : CompOk N sc scope N' ix := by
  unfold compOk at h
  simp only [Bool.and_eq_true, beq_iff_eq, List.all_eq_true] at h
  obtain ⟨⟨⟨h1, h2⟩, h3⟩, h4⟩ := h
  refine ⟨h1, fun i j x a b => ?_, fun y hy e => ?_, fun y hy e => ?_, fun y hy e => ?_, h4⟩
  · have hm : (some j, x) ∈ ix.zip N' := List.mem_of_getElem? (i := i) (by rw [List.getElem?_zip_eq_some]; exact ⟨a, b⟩)
    have q := h2 _ hm
    simp only [Bool.and_eq_true, beq_iff_eq] at q
    exact q
  · have q := h3 y hy
    simp only [Bool.and_eq_true, bne_iff_ne, ne_eq] at q
    exact q.1.1 e
  · have q := (h3 y hy).1.2
    rw [e] at q
    simpa using q
  · have q := (h3 y hy).2
    rw [e] at q
    simpa using q

/-- the context of the block: its frame at C, entered at s₂, H₂, its iterator's records fp -/
def compCx (X : Cx) (N' : List Str) (scope : Scope) (C : Addr) (s₂ : Shared) (H₂ : Hp) (fp : List Addr) : Cx where
  prog := X.prog
  w := X.w
  K := X.K
  mg := X.mg
  base := X.base
  A := X.A
  N := N'
  s₀ := s₂
  H₀ := H₂
  env := compEnvC scope (clOf X.env scope.names) C X.env
  outer := X.stack
  stack := X.stack
  ex := fp
  fn := fun _ => false
  calm := X.calm
  pn := []
  xe := fun _ _ => False
section
variable {X : Cx} {N' : List Str} {ix : List (Option Nat)} {scope : Scope} {pins : List (Addr × Obj)} {σ : St} {H₂ : Hp} {s₂ : Shared} {fp : List Addr} {C : Addr}
theorem CompOk.cells (S : CompOk X.N X.env.scope scope N' ix) (I : Inv X pins σ H₂ s₂) : ∀ y ∈ scope.names, y.2 = .free → ∃ c, X.env.cells.lookup y.1 = some c := fun y hy e => I.ok.has y.1 (S.free y hy e)
theorem CompOk.get (S : CompOk X.N X.env.scope scope N' ix) (I : Inv X pins σ H₂ s₂) {x : Str} {c : Addr} (h : (clOf X.env scope.names).lookup x = some c) : X.env.cells.lookup x = some c := by
  rcases cl_get scope.names [] (S.cells I) h with q | q
  · exact absurd q (by simp)
  · exact q
theorem compCx_ok (S : CompOk X.N X.env.scope scope N' ix) (I : Inv X pins σ H₂ s₂) (hf : ∀ b ∈ fp, FpOk X pins H₂ b) (hC : s₂.heap.objs.size ≤ C) (hfC : ∀ b ∈ fp, b < s₂.heap.objs.size) : (compCx X N' scope C s₂ H₂ fp).Ok where
  mod := I.ok.mod
  kind := S.kind
  glob := I.ok.glob
  blt := I.ok.blt
  above := hC
  inj := fun x y c a b => I.ok.inj x y c (S.get I a) (S.get I b)
  has := fun x h => cl_has scope.names [] (.inl (relabel_free S.nocell h))
  cab := fun x c h => by cases h
  hd := I.ok.hd
  frames := I.ok.frames
  stk := .inl rfl
  exf := fun b hb => ⟨Nat.ne_of_lt (Nat.lt_of_lt_of_le (hfC b hb) hC), fun x c e => (hf b hb).2.2.2.2.1 x c (S.get I e)⟩
  bs := I.bs
  bsz := Nat.le_trans I.ok.bsz I.sz
  noex := fun b o e hb => by
    rcases (hf b hb).2.2.2.1 with z | z
    · exact I.ok.noex b o e z
    · exact absurd (Nat.lt_of_lt_of_le (Heap.lt_size e) (Nat.le_trans I.ok.bsz z)) (Nat.lt_irrefl _)
  exfs := fun b hb hm => by
    rcases List.mem_cons.mp (I.stkSub b hm) with z | z
    · exact (hf b hb).2.1 z
    · exact (hf b hb).2.2.1 z
  funs := I.stack
  frf := I.stkFree
/-- the block is entered: a list D and its frame C are laid, both untracked -/
theorem comp_start (S : CompOk X.N X.env.scope scope N' ix) (I : Inv X pins σ H₂ s₂) (hf : ∀ b ∈ fp, FpOk X pins H₂ b) (hfC : ∀ b ∈ fp, b < s₂.heap.objs.size) {D : Addr} {h₁ : Heap} {tk : Nat} {m : Str → Option Value} {ob : Obj}
    (hC : s₂.heap.objs.size ≤ C) (hD : s₂.heap.objs.size ≤ D) (hDC : D ≠ C) (old : ∀ b o, s₂.heap.get? b = some o → h₁.get? b = some o) (hn : h₁.Ns C m) (hob : h₁.get? D = some ob) (hd : ∀ v, ob.data ≠ .cell v) :
    Inv (compCx X N' scope C s₂ H₂ fp) [(D, ob)] (entV ix σ) H₂ { s₂ with heap := h₁, toks := tk } := by
  have fr : ∀ a, s₂.heap.objs.size ≤ a → H₂ a = none := fun a ha => I.hok.fresh ha
  have cOf : ∀ x c, (clOf X.env scope.names).lookup x = some c → X.env.cells.lookup x = some c := fun x c e => S.get I e
  refine ⟨compCx_ok S I hf hC hfC, rfl, I.bare, Un.kept old, ⟨m, hn, fun i x v e1 e2 e3 => ?_⟩, fun x c e => ?_, fr C hC, fun x c e => I.freeC x c (cOf x c e), fun p hp => ?_, I.hok.kept old, ?_⟩
  · obtain ⟨j, q1, q2⟩ := entV_get e2
    obtain ⟨n1, n2⟩ := S.at_ i j x q1 e1
    have hm : (x, NameKind.free) ∈ scope.names := PySem.mem_of_lookup n2
    have hv : Vis X.env.scope x := by
      rcases S.free _ hm rfl with z | z
      · exact .inr (.inl z)
      · exact .inr (.inr z)
    obtain ⟨m0, _, hl⟩ := I.loc
    obtain ⟨u, r, l⟩ := hl j x v n1 q2 hv
    refine ⟨u, r, ?_⟩
    have hne : ¬ X.env.kindOf x = some .local := fun z => by
      have z : X.env.scope.names.lookup x = some .local := z
      rcases S.free _ hm rfl with y | y
      · rw [y] at z; cases z
      · rw [y] at z; cases z
    rcases l with ⟨k, _⟩ | ⟨k, c, e, z⟩
    · exact absurd k hne
    · obtain ⟨c', hc'⟩ := cl_has (env := X.env) (x := x) scope.names [] (.inl hm)
      have hc'' := cOf x c' hc'
      rw [e] at hc''
      cases hc''
      have kk : (compCx X N' scope C s₂ H₂ fp).env.kindOf x = some .cell ∨ (compCx X N' scope C s₂ H₂ fp).env.kindOf x = some .free := by
        rcases e3 with y | y | y
        · exfalso
          have : ∀ {names : List (Str × NameKind)}, names.lookup x = some .free →
            (names.map fun (n, k) => if (k == NameKind.free && X.env.scope.kind == .function && X.env.kindOf n == some .cell) then (n, NameKind.cell) else (n, k)).lookup x = some .local → False := by
            intro names
            induction names with
            | nil => intro a; simp at a
            | cons p r ih =>
              obtain ⟨n, k⟩ := p
              intro a b
              simp only [List.map_cons] at b
              simp only [List.lookup_cons] at a
              cases hx : x == n with
              | true =>
                rw [hx] at a
                simp only [Option.some.injEq] at a
                subst a
                split at b
                · simp [List.lookup_cons, hx] at b
                · simp [List.lookup_cons, hx] at b
              | false =>
                rw [hx] at a
                split at b
                · simp only [List.lookup_cons, hx] at b; exact ih a b
                · simp only [List.lookup_cons, hx] at b; exact ih a b
          exact this n2 y
        · exact .inl y
        · exact .inr y
      obtain ⟨oc, ho, hod⟩ := z
      exact .inr ⟨kk, c, hc', oc, old _ _ ho, hod⟩
  · obtain ⟨v, o, ho, hod⟩ := I.cell x c (cOf x c e)
    exact ⟨v, o, old _ _ ho, hod⟩
  · have hp : p ∈ [(D, ob)] := hp
    have e : p = (D, ob) := by simpa using hp
    subst e
    refine ⟨hob, fr D hD, hDC, fun hb => ?_, hd⟩
    have hb : D ∈ frs X.stack := hb
    rcases List.mem_cons.mp (I.stkSub D hb) with z | z
    · exact absurd I.lt (by rw [← z]; exact Nat.not_lt.mpr hD)
    · exact I.nofs hD z
  · show (entV ix σ).length = N'.length
    unfold entV
    rw [List.length_map, S.len]
/-- the block is left: the list is tracked -/
theorem comp_leave (I : Inv X pins σ H₂ s₂) (hf : ∀ b ∈ fp, FpOk X pins H₂ b) {pins' : List (Addr × Obj)} {σ' : St} {H' : Hp} {s' : Shared} {D : Addr} {ys : List V} {its : List Value} (hC : s₂.heap.objs.size ≤ C) (hD : s₂.heap.objs.size ≤ D)
    (J : Inv (compCx X N' scope C s₂ H₂ fp) pins' σ' H' s') (hn : H' D = none) (hl : s'.heap.PlainList D its.toArray) (r : Vals ys its) (hz : ys.length ≤ sizeLine) : Inv X pins σ (upd H' D (.lst ys)) s' := by
  have sb : Un (frs X.stack) fp H₂ H' s₂.heap s'.heap := J.base
  have nD : ∀ b u, H' b = some u → b ≠ D := fun b u e => ne_of_none e hn
  refine I.call' (ch := fp) J.os ⟨sb.keep, sb.slot, fun b o e n hx => ?_, sb.there, fun b xs e => ?_, fun b o u e => ?_, fun b ps e => ?_⟩ (fun b u e => ?_) J.bare (fun b hb => ?_)
  · rw [upd_ne (Nat.ne_of_lt (Nat.lt_of_lt_of_le (Heap.lt_size e) hD))]
    exact sb.free b o e n hx
  · have q := sb.tups b xs e
    rw [upd_ne (nD b _ q)]; exact q
  · have q := sb.frzs b o u e
    rw [upd_ne (nD b _ q)]; exact q
  · obtain ⟨more, q⟩ := sb.tbls b ps e
    exact ⟨more, by rw [upd_ne (nD b _ q)]; exact q⟩
  · by_cases hb : b = D
    · subst hb
      rw [upd_same] at e
      cases e
      obtain ⟨n, hg⟩ := hl
      exact ⟨hz, its, n, r, hg⟩
    · rw [upd_ne hb] at e
      exact (J.hok b u e).stay (fun c v _ q => q) (fun c q => by rw [upd_ne (nD c _ q)]; exact q) fun c xs q => by rw [upd_ne (nD c _ q)]; exact q
  · obtain ⟨_, f1, _, f3, f4, f5⟩ := hf b hb
    exact ⟨f3, f1, f4, f5⟩
end
end L2
namespace L2
open PySem PySem.Spec PyProof.Rows

/-- a comprehension: W is what holds between two turns, ys the items so far -/
def CompW (J : It) (g : TG) (tc : TT) (te : TE) (Kf : List V → Hp → Prop) (σ0 : St) (H1 : Hp) : Prop :=
  ∃ W : Nat → Nat → List V → St → Hp → Prop, (∃ m, W 0 m [] σ0 H1) ∧ ∀ i m ys σ' H', W i m ys σ' H' → ys.length < sizeLine ∧
    ((J.stop i H' ∧ Kf ys H') ∨ (J.go i H' ∧ ∃ N : List V → St → Hp → Prop, (∀ ys' σ2 H2, N ys' σ2 H2 → ∃ m', m' < m ∧ W (i + 1) m' ys' σ2 H2) ∧ ∀ x H'', J.yld i H' x H'' → g x σ' H'' fun σ2 H2 => tc σ2 H2 fun b H3 =>
      if b = true then te σ2 H3 fun y H4 => N (ys ++ [y]) σ2 H4 else N ys σ2 H3))
def tComp (wi : TI) (ix : List (Option Nat)) (g : TG) (tc : TT) (te : TE) : TE := fun σ H Q =>
  wi σ H fun J H1 => CompW J g tc te (fun ys H' => ∀ l, H' l = none → Q (.ref l) (upd H' l (.lst ys))) (entV ix σ) H1

section
variable {X : Cx} {tg elt iter : Expr} {ifs : List Expr} {scope : Scope} {pos : Pos} {N' : List Str} {ix : List (Option Nat)} {wi : TI} {g : TG} {tc : TT} {te : TE}

/-- where the block ends -/
def CompEnd (X : Cx) (pins : List (Addr × Obj)) (σ : St) (Kf : List V → Hp → Prop) (acc : Value) (C : Addr) (s' : Shared) : Prop :=
  ∃ D H' ys, acc = .ref D ∧ H' D = none ∧ Inv X pins σ (upd H' D (.lst ys)) s' ∧ (∃ m, s'.heap.Ns C m) ∧ H' C = none ∧ D ≠ C ∧ C ≠ X.env.locals ∧ X.s₀.heap.objs.size ≤ C ∧ (∀ x c, X.env.cells.lookup x = some c → c ≠ C) ∧ (∀ p ∈ X.pn ++ pins, p.1 ≠ C) ∧ Kf ys H'

theorem comp_core {pins : List (Addr × Obj)} {s₂ : Shared} {σ : St} {H₂ : Hp} {it : Addr} {fp : List Addr} {tn : Nat → Heap → Prop} {J : It} {Kf : List V → Hp → Prop} {RR : Value → Addr → Result → Shared → Prop} {E : Value → Shared → Prop}
    (S : CompOk X.N X.env.scope scope N' ix) (hc : X.calm = true)
    (hg : ∀ C s₂ H₂ fp, PG (compCx X N' scope C s₂ H₂ fp) tg g) (ht : ∀ C s₂ H₂ fp, PIfs (compCx X N' scope C s₂ H₂ fp) ifs tc) (he : ∀ C s₂ H₂ fp, PE (compCx X N' scope C s₂ H₂ fp) elt te)
    (I2 : Inv X pins σ H₂ s₂) (T : Turn X.prog X.w X.K tg J fp it tn) (st2 : tn 0 s₂.heap) (f2 : ∀ b ∈ fp, FpOk X pins H₂ b) (w : CompW J g tc te Kf (entV ix σ) H₂)
    (hR : ∀ acc C s', CompEnd X pins σ Kf acc C s' → RR acc C (.ok .next) s') :
    wpAny (model X.prog X.w) X.A (newList []) (fun acc s₃ => wpAny (model X.prog X.w) X.A (newFunctionEnv scope X.env.globals (clOf X.env scope.names) [] X.env.qual none .none (some X.env)) (fun cenv s₄ =>
      codeAny (model X.prog X.w) X.A (.compStart (.ListComp elt [⟨tg, iter, ifs, 0⟩] scope pos) 0 (.ref it) acc { cenv with scope := relabel scope X.env }) (RR acc cenv.locals) s₄) E s₃) E s₂ := by
  obtain ⟨W, ⟨m0, w0⟩, turn⟩ := w
  refine wpAny_newObj_type (wpAny_newFunctionEnv S.nocell (by intro y hy; simp at hy) (fun h₁ nsN sbN => ?_) S.kind)
  dsimp only at nsN sbN ⊢
  generalize eH : s₂.heap.push { cls := .type "list", dict := none, data := .seq ([] : List Value).toArray } = G2 at nsN sbN ⊢
  have sizeC : G2.objs.size = s₂.heap.objs.size + 1 := by rw [← eH, Heap.size_push]
  have neDC : s₂.heap.objs.size ≠ G2.objs.size := by rw [sizeC]; exact Nat.ne_of_lt (Nat.lt_succ_self _)
  have leC : s₂.heap.objs.size ≤ G2.objs.size := by rw [sizeC]; exact Nat.le_succ _
  have older : ∀ b, b < s₂.heap.objs.size → b ≠ G2.objs.size ∧ b ≠ s₂.heap.objs.size := fun b hb => ⟨by rw [sizeC]; exact Nat.ne_of_lt (Nat.lt_succ_of_lt hb), Nat.ne_of_lt hb⟩
  have keepOld : ∀ b o, s₂.heap.get? b = some o → h₁.get? b = some o := fun b o e => sbN.extBut b o (older b (Heap.lt_size e)).1 (Heap.get?_push_of_some _ (eH ▸ Heap.get?_push_of_some _ e))
  have accNew : h₁.PlainList s₂.heap.objs.size #[] := ⟨_, sbN.extBut _ _ neDC (Heap.get?_push_of_some _ (eH ▸ Heap.get?_push_size _ rfl))⟩
  generalize eC : G2.objs.size = C at *
  generalize eD : s₂.heap.objs.size = D at *
  have hfC : ∀ b ∈ fp, b < s₂.heap.objs.size := fun b hb => by
    obtain ⟨o, e, _⟩ := T.obj 0 _ st2 b hb
    exact Heap.lt_size e
  have hfD : ∀ b ∈ fp, b ≠ D := fun b hb => by have := hfC b hb; rw [eD] at this; exact Nat.ne_of_lt this
  have hfC' : ∀ b ∈ fp, b ≠ C := fun b hb => by have := hfC b hb; rw [eD] at this; exact Nat.ne_of_lt (Nat.lt_of_lt_of_le this leC)
  have geD : s₂.heap.objs.size ≤ D := by rw [eD]; exact Nat.le_refl _
  have geC : s₂.heap.objs.size ≤ C := by rw [eD]; exact leC
  obtain ⟨nn, hob⟩ := id accNew
  have J1 : Inv (compCx X N' scope C s₂ H₂ fp) [] (entV ix σ) H₂ { s₂ with heap := h₁, toks := s₂.toks + ([] : List (Str × Value)).length } :=
    (comp_start S I2 f2 hfC geC geD neDC keepOld nsN hob (fun v z => by cases z)).pins_of (fun p hp => absurd hp (by simp))
  have nfsD : D ∉ frs X.stack := fun hb => by
    rcases List.mem_cons.mp (I2.stkSub D hb) with z | z
    · exact absurd I2.lt (by rw [← z]; exact Nat.not_lt.mpr geD)
    · exact I2.nofs geD z
  have cOf : ∀ x c, (clOf X.env scope.names).lookup x = some c → c ≠ D ∧ c ≠ C := fun x c e => by
    obtain ⟨v, z⟩ := I2.cell x c (S.get I2 e)
    have := z.lt
    rw [eD] at this
    exact ⟨Nat.ne_of_lt this, Nat.ne_of_lt (Nat.lt_of_lt_of_le this leC)⟩
  -- the records may turn, whatever is pinned besides
  have fpk : ∀ {pl : List (Addr × Obj)} {H' : Hp}, (∀ b ∈ fp, H' b = none) → (∀ p ∈ pl, p.1 ∉ fp) → ∀ b ∈ fp, FpOk (compCx X N' scope C s₂ H₂ fp) pl H' b := fun {pl H'} hn hp b hb =>
    ⟨hn b hb, hfC' b hb, fun z => by
        rcases List.mem_cons.mp (I2.stkSub b z) with q | q
        · exact (f2 b hb).2.1 q
        · exact (f2 b hb).2.2.1 q,
      .inl hb, fun x c e => (f2 b hb).2.2.2.2.1 x c (S.get I2 e), fun p hp' z => hp p (by simpa [compCx] using hp') (by rw [z]; exact hb)⟩
  have dpk : ∀ {H' : Hp}, H' D = none → ∀ b ∈ [D], FpOk (compCx X N' scope C s₂ H₂ fp) [] H' b := fun {H'} hn b hb => by
    have e : b = D := by simpa using hb
    subst e
    exact ⟨hn, neDC, nfsD, .inr geD, fun x c e => (cOf x c e).1, fun p hp => absurd hp (by simp [compCx])⟩
  have loop : codeAny (model X.prog X.w) X.A (.compLoop (.ListComp elt [⟨tg, iter, ifs, 0⟩] scope pos) 0 (.ref it) (.ref D) (compEnvC scope (clOf X.env scope.names) C X.env)) (RR (.ref D) C) { s₂ with heap := h₁, toks := s₂.toks + ([] : List (Str × Value)).length } := by
    refine comp_loop (fun n s' => ∃ i ys σ' H' its, Inv (compCx X N' scope C s₂ H₂ fp) [] σ' H' s' ∧ tn i s'.heap ∧ (∀ b ∈ fp, H' b = none) ∧ H' D = none ∧ s'.heap.PlainList D its.toArray ∧ Vals ys its ∧ W i n ys σ' H') ?_ m0
      ⟨0, [], _, H₂, [], J1, T.keep _ _ _ st2 fun b _ o e => keepOld b o e, fun b hb => (f2 b hb).1, I2.hok.fresh geD, accNew, .nil, w0⟩
    rintro n s3 ⟨i, ys, σ3, H3, its, I3, st3, fr3, dn3, pl3, rv3, w3⟩
    obtain ⟨nn3, hob3⟩ := id pl3
    have oD : ∀ b ∈ [D], ∃ o, s3.heap.get? b = some o ∧ ∀ v, o.data ≠ .cell v := fun b hb => by
      have e : b = D := by simpa using hb
      subst e
      exact ⟨_, hob3, fun v z => by cases z⟩
    have I3' : Inv (compCx X N' scope C s₂ H₂ fp) (pinsAt [D] s3.heap) σ3 H3 s3 := by
      have := I3.pinned (dpk dn3) oD
      simpa using this
    have pD : (D, ({ cls := .type "list", data := .seq its.toArray nn3 } : Obj)) ∈ pinsAt [D] s3.heap := mem_pinsAt (by simp) hob3
    have npD : ∀ p ∈ pinsAt [D] s3.heap, p.1 ∉ fp := fun p hp z => by
      have e : p.1 = D := by simpa using (of_pinsAt hp).1
      exact hfD _ z e
    obtain ⟨hys, tt⟩ := turn i n ys σ3 H3 w3
    rcases tt with ⟨stop, qn⟩ | ⟨go, N, hN, step⟩
    · refine wpAny_mono (T.done (compCx X N' scope C s₂ H₂ fp) rfl rfl rfl hc i (pinsAt [D] s3.heap) s3 σ3 H3 (fun _ _ => False) I3' (fpk fr3 npD) st3 stop) (fun r s4 ⟨hr, I4⟩ => ?_) fun _ _ z => z
      subst hr
      have g4 := (I4.pin _ (List.mem_append_right _ pD)).1
      refine hR _ _ _ ⟨D, H3, ys, rfl, dn3, comp_leave I2 f2 geC geD I4 dn3 ⟨nn3, g4⟩ rv3 (Nat.le_of_lt hys), ?_, ?_, neDC, ?_, ?_, ?_, ?_, qn⟩
      · obtain ⟨m, hm, _⟩ := I4.loc
        exact ⟨m, hm⟩
      · exact I4.free
      · exact Nat.ne_of_gt (Nat.lt_of_lt_of_le I2.lt geC)
      · exact Nat.le_trans I2.sz geC
      · intro x c e z
        obtain ⟨v, q⟩ := I2.cell x c e
        exact absurd (Nat.lt_of_lt_of_le q.lt geC) (by rw [z]; exact Nat.lt_irrefl _)
      · intro p hp z
        exact absurd (Nat.lt_of_lt_of_le (Heap.lt_size (I2.pin p hp).1) geC) (by rw [z]; exact Nat.lt_irrefl _)
    · refine wpAny_mono (T.item (compCx X N' scope C s₂ H₂ fp) rfl rfl rfl hc i (pinsAt [D] s3.heap) s3 σ3 H3 (fun _ _ => False) I3' (fpk fr3 npD) st3 go) (fun r s4 ⟨u, hr, h4⟩ => ?_) fun _ _ z => z
      subst hr
      refine wpAny_mono h4 (fun _ s5 ⟨x, H5, I5, r5, y5, st5, fr5⟩ => ?_) fun _ _ z => z
      have I5' := I5.pinned (fpk fr5 npD) (T.obj _ _ st5)
      refine wpAny_mono (hg C s₂ H₂ fp _ s5 σ3 H5 x u _ I5' r5 (step x H5 y5)) (fun _ s6 ⟨σ6, H6, I6, q6⟩ => ?_) fun _ _ z => z
      refine wpAny_mono (ht C s₂ H₂ fp _ s6 σ6 H6 _ I6 q6) (fun b s7 ⟨H7, I7, q7⟩ => ?_) fun _ _ z => z
      have fin : ∀ {s8 : Shared} {σ8 : St} {H8 : Hp}, Inv (compCx X N' scope C s₂ H₂ fp) (pinsAt [D] s3.heap ++ pinsAt fp s5.heap) σ8 H8 s8 → s8.heap.get? D = some { cls := .type "list", data := .seq its.toArray nn3 } ∧ H8 D = none ∧
          tn (i + 1) s8.heap ∧ ∀ b ∈ fp, H8 b = none := fun {s8 σ8 H8} I8 => by
        have q := I8.pin _ (List.mem_append_right _ (List.mem_append_left _ pD))
        refine ⟨q.1, q.2.1, T.keep _ _ _ st5 fun b hb o e => (I8.pin (b, o) (List.mem_append_right _ (List.mem_append_right _ (mem_pinsAt hb e)))).1, fun b hb => ?_⟩
        obtain ⟨o, e, d⟩ := T.obj _ _ st5 b hb
        exact (I8.pin (b, o) (List.mem_append_right _ (List.mem_append_right _ (mem_pinsAt hb e)))).2.1
      cases b with
      | false =>
        obtain ⟨m', hm, w7⟩ := hN _ _ _ q7
        obtain ⟨a1, a2, a3, a4⟩ := fin I7
        exact ⟨m', hm, i + 1, ys, σ6, H7, its, I7.pins_of fun p hp => absurd hp (by simp), a3, a4, a2, ⟨nn3, a1⟩, rv3, w7⟩
      | true =>
        refine wpAny_mono (he C s₂ H₂ fp _ s7 σ6 H7 _ I7 q7) (fun v s8 ⟨y, H8, I8, r8, n8⟩ => ?_) fun _ _ z => z
        obtain ⟨m', hm, w8⟩ := hN _ _ _ n8
        obtain ⟨a1, a2, a3, a4⟩ := fin I8
        have hsz : its.toArray.size ≤ sizeLine := by
          have := rv3.length
          rw [List.size_toArray]
          omega
        refine wpAny_list_append_plain (hsz := hsz) ⟨nn3, a1⟩ fun h9 hl9 hs9 => ?_
        have I9 : Inv (compCx X N' scope C s₂ H₂ fp) [] σ6 H8 { s8 with heap := h9 } :=
          (I8.pins_of (pins' := []) fun p hp => absurd hp (by simp)).turned (t' := s8.toks) (fun b o hb e => (hs9.2 b hb).trans e) a2 neDC (.inr geD) (fun x c e => (cOf x c e).1) fun p hp => absurd hp (by simp [compCx])
        refine ⟨m', hm, i + 1, ys ++ [y], σ6, H8, its ++ [v], I9, T.keep _ _ _ a3 fun b hb o e => (hs9.2 b (hfD b hb)).trans e, a4, a2, ?_, rv3.append (.cons r8 .nil), w8⟩
        have e : (its ++ [v]).toArray = its.toArray.push v := by simp
        rw [e]; exact hl9
  exact codeAny_compStart_list loop (T.self _ 0 _ _ _ (T.keep _ _ _ st2 fun b _ o e => keepOld b o e) loop)

/-- [elt for tg in iter if ..] -/
theorem pe_comp (N' : List Str) (ix : List (Option Nat)) (hi : PI X tg iter wi) (hg : ∀ C s₂ H₂ fp, PG (compCx X N' scope C s₂ H₂ fp) tg g) (ht : ∀ C s₂ H₂ fp, PIfs (compCx X N' scope C s₂ H₂ fp) ifs tc)
    (he : ∀ C s₂ H₂ fp, PE (compCx X N' scope C s₂ H₂ fp) elt te) (S : compOk X.N X.env.scope scope N' ix = true := by rfl) (hc : X.calm = true := by rfl) (hs : ∀ x, foldedSetIterable iter X.env x = pure x := by intro _; rfl) :
    PE X (.ListComp elt [⟨tg, iter, ifs, 0⟩] scope pos) (tComp wi ix g tc te) := by
  intro pins s σ H Q I h
  have S := CompOk.of S
  rw [eval_ListComp]
  refine wpAny_comprehension_free (use := none) (cl := clOf X.env scope.names) rfl hs (closure_of fun y hy e => I.ok.has y.1 (S.free y hy e)) S.kind S.loc (thn (hi pins s σ H _ I h) fun xv s₁ h₁ => thn h₁ fun itv s₂ h₂ => ?_)
  obtain ⟨it, fp, tn, J, H₂, rfl, I2, T, st2, f2, w⟩ := h₂
  refine comp_core (RR := fun acc C => compPost (model X.prog X.w) X.A X.xe none (EP X pins σ Q) acc C) S hc hg ht he I2 T st2 f2 w fun acc C s' ce => ?_
  obtain ⟨D, H', ys, rfl, dn, J', hm, cn, dc, c1, c2, c3, c4, kf⟩ := ce
  obtain ⟨m, hm⟩ := hm
  refine ⟨m, hm, fun h' hs' => ⟨.ref D, _, J'.turned (t' := s'.toks) (fun b o hb e => (hs'.2 b hb).trans e) (by rw [upd_ne dc.symm]; exact cn) c1 (.inr c2) c3 c4, rfl, kf D dn⟩⟩

/-- x = [elt for tg in iter if ..] where the list goes right into its name -/
theorem ps_setC (N' : List Str) (ix : List (Option Nat)) {i : Nat} {x : Str} {pos' spos : Pos} (hN : X.N.Nodup) (hxi : X.N[i]? = some x) (hx : Loc X.env.scope x) (hi : PI X tg iter wi) (hg : ∀ C s₂ H₂ fp, PG (compCx X N' scope C s₂ H₂ fp) tg g) (ht : ∀ C s₂ H₂ fp, PIfs (compCx X N' scope C s₂ H₂ fp) ifs tc)
    (he : ∀ C s₂ H₂ fp, PE (compCx X N' scope C s₂ H₂ fp) elt te) (S : compOk X.N X.env.scope scope N' ix = true := by rfl) (hc : X.calm = true := by rfl) (hs : ∀ x, foldedSetIterable iter X.env x = pure x := by intro _; rfl)
    (hsw : swapsWith (.ListComp elt [⟨tg, iter, ifs, 0⟩] scope pos) (some (.Name x pos')) spos.line X.env = pure true := by rfl) (hf : X.fn x = true ∨ X.env.scope.names.lookup x = some .local := by first | exact .inl rfl | exact .inr rfl | assumption) :
    PS X (.Assign [.Name x pos'] (.ListComp elt [⟨tg, iter, ifs, 0⟩] scope pos) spos) (tAsg (tComp wi ix g tc te) (gName i)) := by
  intro pins s σ H D I h
  have S := CompOk.of S
  rw [exec_Assign_Name_used _ _ _ _ hsw]
  refine wpAny_bind (wpAny_standAt (wpAny_bind ?_))
  show wpAny _ X.A (do let _ ← comprehension (.ListComp elt [⟨tg, iter, ifs, 0⟩] scope pos) scope X.env _ (newList []) false (eval iter X.env) (some (assign (.Name x pos') X.env))) _ _ s
  refine wpAny_bind (wpAny_mono (wpAny_comprehension_free (use := some (assign (.Name x pos') X.env)) (cl := clOf X.env scope.names) (Q := fun _ s' => SP X pins D .next s') rfl hs (closure_of fun y hy e => I.ok.has y.1 (S.free y hy e)) S.kind S.loc
    (thn (hi pins s σ H _ I h) fun xv s₁ h₁ => thn h₁ fun itv s₂ h₂ => ?_)) (fun _ s' hq => wpAny_pure (wpAny_pure hq)) fun _ _ e => e)
  obtain ⟨it, fp, tn, J, H₂, rfl, I2, T, st2, f2, w⟩ := h₂
  refine comp_core (RR := fun acc C => compPost (model X.prog X.w) X.A X.xe (some (assign (.Name x pos') X.env)) (fun _ s' => SP X pins D .next s') acc C) S hc hg ht he I2 T st2 f2 w fun acc C s' ce => ?_
  obtain ⟨D', H', ys, rfl, dn, J', hm, cn, dc, c1, c2, c3, c4, kf⟩ := ce
  obtain ⟨m, hm⟩ := hm
  show wpAny _ X.A (assign (.Name x pos') X.env (.ref D')) _ _ _
  refine wpAny_assign_Name (store_ok2 (v := .ref D') J' hN hxi hx rfl (fun s2 J2 hsb => ?_) hf)
  obtain ⟨a, hsb, ha⟩ := hsb
  have hCa : C ≠ a := by
    rcases ha with z | z
    · rw [z]; exact c1
    · exact (c3 x a z).symm
  refine ⟨m, hm.sameBut hsb hCa, fun h' hs' => ?_⟩
  exact ⟨_, _, J2.turned (t' := s2.toks) (fun b o hb e => (hs'.2 b hb).trans e) (by rw [upd_ne dc.symm]; exact cn) c1 (.inr c2) c3 c4, kf D' dn⟩

/-- over a list that stays -/
theorem comp_list {K : PySem.W.Frag} {a : Addr} {xs : List V} {Kf : List V → Hp → Prop} {σ0 : St} {H1 : Hp} (Pv : Nat → List V → St → Hp → Prop) (hz : xs.length < sizeLine) (h0 : Pv 0 [] σ0 H1) (hb : ∀ i ys σ H, Pv i ys σ H → ys.length ≤ i) (hl : ∀ i ys σ H, i ≤ xs.length → Pv i ys σ H → SqL K H a xs)
    (hs : ∀ i x ys σ H, xs[i]? = some x → Pv i ys σ H → g x σ H fun σ2 H2 => tc σ2 H2 fun b H3 => if b = true then te σ2 H3 fun y H4 => Pv (i + 1) (ys ++ [y]) σ2 H4 else Pv (i + 1) ys σ2 H3) (hd : ∀ ys σ H, Pv xs.length ys σ H → Kf ys H) : CompW (Itl K a) g tc te Kf σ0 H1 := by
  refine ⟨fun i m ys σ H => m = xs.length - i ∧ i ≤ xs.length ∧ Pv i ys σ H, ⟨xs.length, by simp, Nat.zero_le _, h0⟩, ?_⟩
  rintro i m ys σ H ⟨rfl, hi, p⟩
  have q := hl i ys σ H hi p
  refine ⟨Nat.lt_of_le_of_lt (hb _ _ _ _ p) (Nat.lt_of_le_of_lt hi hz), ?_⟩
  by_cases hlt : i < xs.length
  · refine .inr ⟨⟨xs, xs[i], q, by simp [hlt]⟩, Pv (i + 1), fun ys' σ' H' p' => ⟨xs.length - (i + 1), Nat.sub_lt_sub_left hlt (Nat.lt_succ_self i), rfl, hlt, p'⟩, fun x H' y => ?_⟩
    obtain ⟨e, y⟩ := y
    subst e
    exact hs i x ys σ _ (y xs q) p
  · have e : i = xs.length := by omega
    subst e
    exact .inl ⟨⟨xs, q, Nat.le_refl _⟩, hd ys σ H p⟩
theorem comp_tup {K : PySem.W.Frag} {a : Addr} {xs : List V} {Kf : List V → Hp → Prop} {σ0 : St} {H1 : Hp} (Pv : Nat → List V → St → Hp → Prop) (hz : xs.length < sizeLine) (h0 : Pv 0 [] σ0 H1) (hb : ∀ i ys σ H, Pv i ys σ H → ys.length ≤ i) (hl : ∀ i ys σ H, i ≤ xs.length → Pv i ys σ H → SqT K H a xs)
    (hs : ∀ i x ys σ H, xs[i]? = some x → Pv i ys σ H → g x σ H fun σ2 H2 => tc σ2 H2 fun b H3 => if b = true then te σ2 H3 fun y H4 => Pv (i + 1) (ys ++ [y]) σ2 H4 else Pv (i + 1) ys σ2 H3) (hd : ∀ ys σ H, Pv xs.length ys σ H → Kf ys H) : CompW (Itt K a) g tc te Kf σ0 H1 := by
  refine ⟨fun i m ys σ H => m = xs.length - i ∧ i ≤ xs.length ∧ Pv i ys σ H, ⟨xs.length, by simp, Nat.zero_le _, h0⟩, ?_⟩
  rintro i m ys σ H ⟨rfl, hi, p⟩
  have q := hl i ys σ H hi p
  refine ⟨Nat.lt_of_le_of_lt (hb _ _ _ _ p) (Nat.lt_of_le_of_lt hi hz), ?_⟩
  by_cases hlt : i < xs.length
  · refine .inr ⟨⟨xs, xs[i], q, by simp [hlt]⟩, Pv (i + 1), fun ys' σ' H' p' => ⟨xs.length - (i + 1), Nat.sub_lt_sub_left hlt (Nat.lt_succ_self i), rfl, hlt, p'⟩, fun x H' y => ?_⟩
    obtain ⟨e, y⟩ := y
    subst e
    exact hs i x ys σ _ (y xs q) p
  · have e : i = xs.length := by omega
    subst e
    exact .inl ⟨⟨xs, q, Nat.le_refl _⟩, hd ys σ H p⟩
theorem comp_range {lo : Int} {n : Nat} {Kf : List V → Hp → Prop} {σ0 : St} {H1 : Hp} (Pv : Nat → List V → St → Hp → Prop) (hz : n < sizeLine) (h0 : Pv 0 [] σ0 H1) (hb : ∀ i ys σ H, Pv i ys σ H → ys.length ≤ i)
    (hs : ∀ i ys σ H, i < n → Pv i ys σ H → g (.int (lo + i)) σ H fun σ2 H2 => tc σ2 H2 fun b H3 => if b = true then te σ2 H3 fun y H4 => Pv (i + 1) (ys ++ [y]) σ2 H4 else Pv (i + 1) ys σ2 H3) (hd : ∀ ys σ H, Pv n ys σ H → Kf ys H) : CompW (Itr lo n) g tc te Kf σ0 H1 := by
  refine ⟨fun i m ys σ H => m = n - i ∧ i ≤ n ∧ Pv i ys σ H, ⟨n, by simp, Nat.zero_le _, h0⟩, ?_⟩
  rintro i m ys σ H ⟨rfl, hi, p⟩
  refine ⟨Nat.lt_of_le_of_lt (hb _ _ _ _ p) (Nat.lt_of_le_of_lt hi hz), ?_⟩
  by_cases hlt : i < n
  · refine .inr ⟨hlt, Pv (i + 1), fun ys' σ' H' p' => ⟨n - (i + 1), Nat.sub_lt_sub_left hlt (Nat.lt_succ_self i), rfl, hlt, p'⟩, fun x H' y => ?_⟩
    obtain ⟨e, y⟩ := y
    subst e y
    exact hs i ys σ _ hlt p
  · have e : i = n := by omega
    subst e
    exact .inl ⟨Nat.le_refl _, hd ys σ H p⟩
end
end L2
namespace L2
open PySem PySem.Spec PyProof.Rows
theorem revNoLen : typeLookup (.type "list_reverseiterator") "__len__" = pure none := by rw [typeLookup_type, builtinLookup_eq_fast]; kernel_rfl
theorem revHint : typeLookup (.type "list_reverseiterator") "__length_hint__" = pure (some (.builtin "list_reverseiterator.__length_hint__")) := by rw [typeLookup_type, builtinLookup_eq_fast]; kernel_rfl
/-- the new list at S, as the call of list leaves it empty -/
abbrev newL : Obj := { cls := .type "list", data := .seq #[] }
section
variable {prog : Program} {w : World} {A : Around} {E : Value → Shared → Prop} {Q : Value → Shared → Prop} {s : Shared} {it p : Addr} {items : Array Value}
/-- list(it) where it walks the list at p from its end -/
theorem list_of_rev (hh : A.handled = none) (ne : p ≠ it) (hi : s.heap.IsRevIter it p ((items.size : Int) - 1)) (hp : s.heap.IsList p items) (hz : items.size ≤ sizeLine)
    (k : ∀ t got c, (∀ b o, b ≠ it → s.heap.get? b = some o → t.heap.get? b = some o) → t.gens = s.gens → t.os = s.os →
      t.heap.get? s.heap.objs.size = some { cls := .type "list", dict := none, data := .seq got c, slots := #[] } → got.toList = items.toList.reverse → Q (.ref s.heap.objs.size) t) :
    wpAny (model prog w) A (call (.type "list") [.ref it]) Q E s := by
  let W := (Walks.listRev (prog := prog) (w := w) (A := A.in1.in1) hh it p ne items).toS
  have st0 : 0 ≤ items.size ∧ s.heap.IsRevIter it p ((items.size : Int) - 1 - ((0 : Nat) : Int)) ∧ s.heap.IsList p items := ⟨Nat.zero_le _, by simpa using hi, hp⟩
  have itLt : it < s.heap.objs.size := by
    obtain ⟨o, e, _⟩ := hi
    exact Heap.lt_size e
  have pLt : p < s.heap.objs.size := by
    obtain ⟨o, e, _⟩ := hp
    exact Heap.lt_size e
  have fresh : s.heap.objs.size ∉ [it, p] := fun m => by
    rcases List.mem_cons.mp m with z | z
    · exact Nat.lt_irrefl _ (z ▸ itLt)
    · exact Nat.lt_irrefl _ ((List.mem_singleton.mp z) ▸ pLt)
  have neS : s.heap.objs.size ≠ it := fun z => fresh (by rw [z]; exact List.mem_cons_self)
  refine callType_codes (Q₁ := fun o t => o = .ref s.heap.objs.size ∧ t = { s with heap := s.heap.push newL }) F.called_list (F.typeCall_list_1 _) F.entry_list_init (code_list_new _ ⟨rfl, rfl⟩) ?_
  rintro _ _ ⟨rfl, rfl⟩
  have hS : (s.heap.push newL).get? s.heap.objs.size = some newL := Heap.get?_push_size _ rfl
  refine ⟨⟨_, hS, rfl⟩, F.args_list_init_2 _ _, ?_⟩
  -- list.__init__: emptied, then extended
  refine wpAny_bind (m := Builtin.List.listItems (.ref s.heap.objs.size)) (wpAny_bind (wpAny_seqItems hS rfl (wpAny_pure ?_)))
  refine wpAny_bind (m := updateSeq s.heap.objs.size fun _ => #[]) (wpAny_updateSeq hS rfl (wpAny_bind (wpAny_letGo ?_)))
  have hS2 := Heap.get?_update_self (Obj.mapSeq fun _ => (#[] : Array Value)) hS rfl
  have older : ∀ b o, s.heap.get? b = some o → ((s.heap.push newL).update s.heap.objs.size (Obj.mapSeq fun _ => (#[] : Array Value))).get? b = some o := fun b o e =>
    (Heap.get?_update_other _ _ (Nat.ne_of_gt (Heap.lt_size e))).trans (Heap.get?_push_of_some _ e)
  have st1 := W.frame 0 s ((s.heap.push newL).update s.heap.objs.size (Obj.mapSeq fun _ => (#[] : Array Value))) s.toks st0 (Nat.le_refl _) fun b _ o e => older b o e
  have ty : ∀ i t, (fun (i : Nat) (t : Shared) => i ≤ items.size ∧ t.heap.IsRevIter it p ((items.size : Int) - 1 - (i : Int)) ∧ t.heap.IsList p items) i t → t.TypeIs (.ref it) "list_reverseiterator" := fun i t z => z.2.1.typeIs
  unfold Builtin.List.listExtendWith
  refine wpAny_bind (wpAny_typeOf (ty 0 _ st1) ?_)
  have same : Builtin.List.listSameRef (.ref s.heap.objs.size) (.ref it) = false := by simp [Builtin.List.listSameRef, neS]
  rw [if_neg (by rw [same]; decide)]
  refine wpAny_bind (W.self 0 _ _ _ st1 (wpAny_bind (wpAny_holding ?_)))
  unfold Builtin.List.listLengthHint
  refine wpAny_bind (wpAny_specialOf (ty 0 _ st1) revNoLen ?_)
  refine wpAny_bind (m := specialOf (Value.ref it) (Str.ofString "__length_hint__")) (wpAny_specialOf (ty 0 _ st1) revHint ?_)
  generalize hid : ("list_reverseiterator.__length_hint__" : String) = id0
  wp_delta
  rw [show splitId id0 = some ("list_reverseiterator", "__length_hint__") from by subst hid; decide +kernel]
  subst hid
  refine wpAny_bind (wpAny_isInstance (b := true) (ty 0 _ st1) (by rw [isSubtype_type]; kernel_rfl) (wpAny_pure ?_))
  rw [if_neg (by decide)]
  refine wpAny_pure ⟨plainId_quiet F.plain_extend_loop _, codeAny_extend_loopS W hz _ fresh _ items.size 0 _ _ _ rfl (Nat.zero_le _) st1 hS2 (ItemsOf.nil _) fun t got c mv at' its => ⟨rfl, ?_⟩⟩
  refine k t got c (fun b o hb e => mv.heap b o (fun m => ?_) (older b o e)) mv.gens mv.os at' ?_
  · rcases List.mem_cons.mp m with z | z
    · exact absurd (Heap.lt_size e) (by rw [z]; exact Nat.lt_irrefl _)
    · exact hb (List.mem_singleton.mp z)
  · obtain ⟨len, each⟩ := its
    refine List.ext_getElem? fun j => ?_
    by_cases hj : j < items.size
    · have g : got[j]? = some got[j] := Array.getElem?_eq_getElem (by omega)
      rw [List.getElem?_reverse (by simpa using hj), Array.getElem?_toList, Array.getElem?_toList, g, ← each j _ g]
      simp
    · rw [List.getElem?_eq_none (by simp; omega), List.getElem?_eq_none (by simp; omega)]
end
/-- list(reversed(e)), e a list -/
def tListRev (K : PySem.W.Frag) (te : TE) : TE := fun σ H Q => te σ H fun x H1 => ∃ a ys, x = .ref a ∧ SqL K H1 a ys ∧ ∀ l, H1 l = none → Q (.ref l) (upd H1 l (.lst ys.reverse))
theorem pe_listrev {X : Cx} {e : Expr} {te : TE} {p1 p2 pos1 pos2 : Pos} (he : PE X e te) (g1 : Gl X "list") (m1 : X.mg "list" = none) (g2 : Gl X "reversed") (m2 : X.mg "reversed" = none) (hc : X.calm = true := by rfl)
    (hs1 : starEach [.Call (.Name "reversed" p2) [e] [] pos2] X.env = [(false, eval (.Call (.Name "reversed" p2) [e] [] pos2) X.env)] := by rfl) (hs2 : starEach [e] X.env = [(false, eval e X.env)] := by rfl) :
    PE X (.Call (.Name "list" p1) [.Call (.Name "reversed" p2) [e] [] pos2] [] pos1) (tListRev X.K te) := by
  intro pins s σ H Q I h
  refine wpAny_Call_Name_kw (ld_blt I g1 m1 PyProof.Rows.boot_list ?_)
  refine PyProof.Rows.callWith_type1 ?_ hs1 rfl
  rw [hs1]
  refine Calls.spliced_cons (wpAny_Call_Name_kw (ld_blt I g2 m2 PyProof.Rows.boot_reversed ?_))
  refine PyProof.Rows.callWith_type1 ?_ hs2 rfl
  rw [hs2]
  refine Calls.spliced_cons (thn (he pins s σ H _ I h) fun u s1 ⟨x, H1, I1, r1, a, ys, ex, hq, q⟩ => Calls.spliced_nil ?_)
  subst ex
  cases r1
  obtain ⟨its, rv, pl, hz⟩ := I1.list hq
  have il := pl.isList
  refine call_reversed_list il (Calls.spliced_nil ?_)
  have I2 : Inv X pins σ H1 { s1 with heap := s1.heap.push (revObj a ((its.toArray.size : Int) - 1)) } := I1.kept (t' := s1.toks) fun b o e => Heap.get?_push_of_some _ e
  have aLt : a < s1.heap.objs.size := by
    obtain ⟨o, e, _⟩ := il
    exact Heap.lt_size e
  have len := rv.length
  obtain ⟨f0, f1, f2, f3, f4, f5⟩ : FpOk X pins H1 s1.heap.objs.size := I1.fpOk (Nat.le_refl _) (I1.hok.fresh (Nat.le_refl _))
  refine list_of_rev (p := a) (items := its.toArray) (I.ok.hd hc) (Nat.ne_of_lt aLt) ⟨_, Heap.get?_push_size _ rfl, rfl, rfl⟩ (il.at fun o e => Heap.get?_push_of_some _ e) (by rw [List.size_toArray]; omega) ?_
  intro t got c keep gens os at' eg
  obtain ⟨D, eD⟩ : ∃ D, (s1.heap.push (revObj a ((its.toArray.size : Int) - 1))).objs.size = D := ⟨_, rfl⟩
  have hD : (s1.heap.push (revObj a ((its.toArray.size : Int) - 1))).objs.size ≤ D := Nat.le_of_eq eD
  dsimp only at at' ⊢
  rw [eD] at at' ⊢
  have fD : H1 D = none := I2.hok.fresh hD
  have neT : ∀ b u, H1 b = some u → b ≠ s1.heap.objs.size := fun b u e z => by rw [z, f0] at e; cases e
  refine ⟨.ref D, upd H1 D (.lst ys.reverse), I2.call' (ch := [s1.heap.objs.size]) os ⟨fun b o e n _ hx => keep b o (fun z => hx (by simp [z])) e, fun b o e n _ hx => ⟨o.slots, keep b o (fun z => hx (by simp [z])) e⟩, fun b o e n _ => ?_, fun b o e hx => ⟨o, keep b o (fun z => hx (by simp [z])) e⟩, fun b xs e => ?_, fun b o u e => ?_, fun b ps e => ⟨#[], ?_⟩⟩ (fun b u e => ?_) (by rw [gens]; exact I2.bare) (fun b hb => ?_), rfl, q D fD⟩
  · rw [upd_ne (fun z => absurd (Heap.lt_size e) (by rw [z]; exact Nat.not_lt.mpr hD))]; exact n
  · rw [upd_ne (ne_of_none e fD)]; exact e
  · rw [upd_ne (ne_of_none e fD)]; exact e
  · rw [upd_ne (ne_of_none e fD), e]; simp
  · by_cases hb : b = D
    · subst hb
      rw [upd_same] at e
      cases e
      have at2 : t.heap.get? b = some { cls := .type "list", dict := none, data := .seq its.reverse.toArray c, slots := #[] } := by
        rw [at', ← Array.toArray_toList (xs := got), eg]
      exact ⟨by rw [List.length_reverse]; exact hz, its.reverse, c, Vals.reverse rv, at2⟩
    · rw [upd_ne hb] at e
      refine (I2.hok b u e).stay (fun c' v hc' q' => keep c' v ?_ q') (fun c' q' => by rw [upd_ne (ne_of_none q' fD)]; exact q') fun c' xs q' => by rw [upd_ne (ne_of_none q' fD)]; exact q'
      rcases hc' with z | z
      · rw [z]; exact neT b u e
      · exact neT c' _ z
  · have z : b = s1.heap.objs.size := by simpa using hb
    subst z
    exact ⟨f3, f1, f4, f5⟩
end L2
namespace L2
open PySem PySem.Spec PyProof.Rows
/-- // by a number of at most 250 bits -/
def CDivB (i j : Int) : Prop := 0 < j ∧ j < 2 ^ 250
theorem op_fdivB {X : Cx} : OpR X (binaryOp .FloorDiv) (rI CDivB fun i j => .int (i / j)) := opI fun i j _ _ _ _ _ hc q => by
  obtain ⟨h0, h1⟩ := hc
  refine floordiv_int (by omega) ?_ (.inl (PyProof.noPylong_of_log2 ?_))
  · rw [Int.fdiv_eq_ediv_of_nonneg i (by omega)]; exact q
  · have h2 : j.natAbs < 2 ^ 250 := by
      have e : ((j.natAbs : Nat) : Int) = j := Int.natAbs_of_nonneg (by omega)
      have : ((j.natAbs : Nat) : Int) < ((2 ^ 250 : Nat) : Int) := by rw [e]; exact_mod_cast h1
      exact Int.ofNat_lt.mp this
    have h3 : j.natAbs ≠ 0 := by omega
    have h4 : j.natAbs.log2 < 250 := (Nat.log2_lt h3).mpr h2
    exact Nat.lt_of_lt_of_le h4 (by decide)

/-! ### a deal and its draws -/
def dealK (sd n : Int) (l : Addr) : List (Key × V) := [(.inr "seed", .int sd), (.inr "number", .int n), (.inr "left", .ref l)]
theorem ksn : ¬ ((Sum.inr ("seed" : Str) : Key) = Sum.inr ("number" : Str)) := by decide +kernel
theorem ksl : ¬ ((Sum.inr ("seed" : Str) : Key) = Sum.inr ("left" : Str)) := by decide +kernel
theorem knl : ¬ ((Sum.inr ("number" : Str) : Key) = Sum.inr ("left" : Str)) := by decide +kernel
theorem kns : ¬ ((Sum.inr ("number" : Str) : Key) = Sum.inr ("seed" : Str)) := by decide +kernel
theorem kls : ¬ ((Sum.inr ("left" : Str) : Key) = Sum.inr ("seed" : Str)) := by decide +kernel
theorem kln : ¬ ((Sum.inr ("left" : Str) : Key) = Sum.inr ("number" : Str)) := by decide +kernel
theorem deal_seed (sd n : Int) (l : Addr) : valV (dealK sd n l) (Sum.inr "seed" : Key) = some (.int sd) := by unfold dealK; rw [valV_pos rfl]
theorem deal_number (sd n : Int) (l : Addr) : valV (dealK sd n l) (Sum.inr "number" : Key) = some (.int n) := by unfold dealK; rw [valV_neg ksn, valV_pos rfl]
theorem deal_left (sd n : Int) (l : Addr) : valV (dealK sd n l) (Sum.inr "left" : Key) = some (.ref l) := by unfold dealK; rw [valV_neg ksl, valV_neg knl, valV_pos rfl]
theorem put_seed (sd n v : Int) (l : Addr) : putK (dealK sd n l) (Sum.inr "seed" : Key) (.int v) = dealK v n l := by
  unfold putK dealK
  simp
  exact ⟨fun z => absurd (congrArg Sum.inr z) kns, fun z => absurd (congrArg Sum.inr z) kls⟩
theorem put_number (sd n v : Int) (l : Addr) : putK (dealK sd n l) (Sum.inr "number" : Key) (.int v) = dealK sd v l := by
  unfold putK dealK
  simp
  exact ⟨fun z => absurd (congrArg Sum.inr z) ksn, fun z => absurd (congrArg Sum.inr z) kln⟩
structure DealAt (H : Hp) (d l : Addr) (sd n : Int) (ls : List Int) : Prop where
  dc : H d = some (.dK (dealK sd n l))
  lc : H l = some (.lst (ls.map V.int))
  s0 : 0 ≤ sd
  s1 : sd < 2147483647
  n0 : 0 ≤ n
  l0 : ∀ x ∈ ls, 0 ≤ x
def Deal (H : Hp) (d l : Addr) : Prop := ∃ sd n ls, DealAt H d l sd n ls
theorem DealAt.ne {H : Hp} {d l : Addr} {sd n : Int} {ls : List Int} (D : DealAt H d l sd n ls) : d ≠ l := ne_of D.dc D.lc (by intro z; cases z)
/-- all but the deal is as it was -/
def Out (d l : Addr) (H H' : Hp) : Prop := ∀ b o, H b = some o → b ≠ d → b ≠ l → H' b = some o
theorem Out.refl {d l : Addr} (H : Hp) : Out d l H H := fun _ _ e _ _ => e
theorem Out.trans {d l : Addr} {H H1 H2 : Hp} (a : Out d l H H1) (b : Out d l H1 H2) : Out d l H H2 := fun c o e h1 h2 => b c o (a c o e h1 h2) h1 h2
theorem Out.of {d l : Addr} {H H' : Hp} (s : Same H H') : Out d l H H' := fun c o e _ _ => s c o e
theorem Out.upd_d {d l : Addr} {H : Hp} {o : HO} : Out d l H (upd H d o) := fun b u e h1 _ => by rw [upd_ne h1]; exact e
theorem Out.upd_l {d l : Addr} {H : Hp} {o : HO} : Out d l H (upd H l o) := fun b u e _ h1 => by rw [upd_ne h1]; exact e
theorem same_new {H : Hp} {p : Addr} (h : H p = none) (o : HO) : Same H (upd H p o) := fun b u q => by rw [upd_ne (ne_of_none q h)]; exact q
theorem DealAt.seed {H : Hp} {d l : Addr} {sd n : Int} {ls : List Int} (D : DealAt H d l sd n ls) {v : Int} (h0 : 0 ≤ v) (h1 : v < 2147483647) : DealAt (upd H d (.dK (dealK v n l))) d l v n ls :=
  ⟨upd_same, by rw [upd_ne D.ne.symm]; exact D.lc, h0, h1, D.n0, D.l0⟩
theorem DealAt.number {H : Hp} {d l : Addr} {sd n : Int} {ls : List Int} (D : DealAt H d l sd n ls) {v : Int} (h0 : 0 ≤ v) : DealAt (upd H d (.dK (dealK sd v l))) d l sd v ls :=
  ⟨upd_same, by rw [upd_ne D.ne.symm]; exact D.lc, D.s0, D.s1, h0, D.l0⟩
theorem DealAt.left {H : Hp} {d l : Addr} {sd n : Int} {ls ls' : List Int} (D : DealAt H d l sd n ls) (h : ∀ x ∈ ls', 0 ≤ x) : DealAt (upd H l (.lst (ls'.map V.int))) d l sd n ls' :=
  ⟨by rw [upd_ne D.ne]; exact D.dc, upd_same, D.s0, D.s1, D.n0, h⟩
theorem DealAt.out {H H' : Hp} {d l : Addr} {sd n : Int} {ls : List Int} (D : DealAt H d l sd n ls) (s : Same H H') : DealAt H' d l sd n ls := ⟨s _ _ D.dc, s _ _ D.lc, D.s0, D.s1, D.n0, D.l0⟩
theorem Deal.same {H H' : Hp} {d l : Addr} (D : Deal H d l) (s : Same H H') : Deal H' d l := let ⟨sd, n, ls, q⟩ := D; ⟨sd, n, ls, q.out s⟩
theorem DealAt.gs {H : Hp} {d l : Addr} {sd n : Int} {ls : List Int} (D : DealAt H d l sd n ls) : DGet H d (.str "seed") (some (.int sd)) := by rw [← deal_seed sd n l]; exact DGet.k (k := Sum.inr "seed") D.dc
theorem DealAt.gn {H : Hp} {d l : Addr} {sd n : Int} {ls : List Int} (D : DealAt H d l sd n ls) : DGet H d (.str "number") (some (.int n)) := by rw [← deal_number sd n l]; exact DGet.k (k := Sum.inr "number") D.dc
theorem DealAt.gl {H : Hp} {d l : Addr} {sd n : Int} {ls : List Int} (D : DealAt H d l sd n ls) : DGet H d (.str "left") (some (.ref l)) := by rw [← deal_left sd n l]; exact DGet.k (k := Sum.inr "left") D.dc
theorem DealAt.ps {H : Hp} {d l : Addr} {sd n : Int} {ls : List Int} (D : DealAt H d l sd n ls) (v : Int) : DPut H d (.str "seed") (.int v) (upd H d (.dK (dealK v n l))) := by
  rw [← put_seed sd n v l]; exact DPut.k (k := Sum.inr "seed") D.dc (small1000 (by show 3 ≤ 1000; decide))
theorem DealAt.pn {H : Hp} {d l : Addr} {sd n : Int} {ls : List Int} (D : DealAt H d l sd n ls) (v : Int) : DPut H d (.str "number") (.int v) (upd H d (.dK (dealK sd v l))) := by
  rw [← put_number sd n v l]; exact DPut.k (k := Sum.inr "number") D.dc (small1000 (by show 3 ≤ 1000; decide))
/-- a draw below m: some number, the deal turned, nothing else -/
def spDraw : Sp := fun vs H Q _ => ∃ (d l : Addr) (m : Int), vs = [.ref d, .int m] ∧ Deal H d l ∧ 0 < m ∧ m < 2 ^ 64 ∧
  ∀ (r : Int) (H' : Hp), 0 ≤ r → r < m → Deal H' d l → Out d l H H' → Q (.int r) H'
/-- a deal of the script -/
def spDeal (K : PySem.W.Frag) : Sp := fun vs H Q _ => ∃ (a : Addr) (ns : List Int) (b : Int), vs = [.ref a, .int b] ∧ SqL K H a (ns.map V.int) ∧ ns.length ≤ 63 ∧ 0 ≤ b ∧ b ≤ 1000 ∧
  ∀ (d l : Addr) (H' : Hp), H d = none → H l = none → Deal H' d l → Same H H' → Q (.ref d) H'
theorem ints_at {ns : List Int} {i : Nat} {y : V} (h : (ns.map V.int)[i]? = some y) : ∃ z, y = V.int z ∧ ns[i]? = some z := by
  rw [List.getElem?_map] at h
  cases e : ns[i]? with
  | none => rw [e] at h; cases h
  | some z => rw [e] at h; exact ⟨z, (Option.some.inj h).symm, rfl⟩
end L2
namespace L2
open PySem PySem.Spec PyProof.Rows
/-! ### plain data: ints, texts, bools, None, tuples, lists -/
mutual
def RepD (K : PySem.W.Frag) (H : Hp) : PyData → V → Prop
  | .none, v => v = .non
  | .bool b, v => v = .bl b
  | .int i, v => v = .int i
  | .str x, v => v = .str x
  | .tuple ds, v => ∃ a vs, v = .ref a ∧ SqT K H a vs ∧ RepL K H ds vs
  | .list ds, v => ∃ a vs, v = .ref a ∧ SqL K H a vs ∧ RepL K H ds vs
  | .dict _, _ => False
def RepL (K : PySem.W.Frag) (H : Hp) : List PyData → List V → Prop
  | [], vs => vs = []
  | d :: ds, vs => ∃ v r, vs = v :: r ∧ RepD K H d v ∧ RepL K H ds r
end
section
variable {X : Cx} {pins : List (Addr × Obj)} {σ : St} {H : Hp} {s : Shared}
mutual
theorem RepD.reads (I : Inv X pins σ H s) : ∀ (d : PyData) (v : V) (u : Value), RepD X.K H d v → RelV v u → ∃ as, Reads s.heap u d as
  | .none, v, u, h, r => by
    have h : v = .non := h
    subst h; cases r; exact ⟨_, .none⟩
  | .bool b, v, u, h, r => by
    have h : v = .bl b := h
    subst h; cases r; exact ⟨_, .bool b⟩
  | .int i, v, u, h, r => by
    have h : v = .int i := h
    subst h; obtain ⟨t, rfl⟩ := r; exact ⟨_, .int i t⟩
  | .str x, v, u, h, r => by
    have h : v = .str x := h
    subst h; obtain ⟨t, rfl⟩ := r; exact ⟨_, .str x t⟩
  | .tuple ds, v, u, h, r => by
    obtain ⟨a, vs, rfl, hs, hl⟩ := h
    cases r
    obtain ⟨its, rv, ⟨o, ho, hc, n, hd⟩, _⟩ := I.tuple hs
    obtain ⟨as, ra⟩ := RepL.reads I ds vs its hl rv
    exact ⟨_, .tuple ho hc hd (by simpa using ra)⟩
  | .list ds, v, u, h, r => by
    obtain ⟨a, vs, rfl, hs, hl⟩ := h
    cases r
    obtain ⟨its, rv, pl, _⟩ := I.list hs
    obtain ⟨o, ho, hc, n, hd⟩ := pl.isList
    obtain ⟨as, ra⟩ := RepL.reads I ds vs its hl rv
    exact ⟨_, .list ho hc hd (by simpa using ra)⟩
  | .dict _, v, u, h, r => h.elim
theorem RepL.reads (I : Inv X pins σ H s) : ∀ (ds : List PyData) (vs : List V) (us : List Value), RepL X.K H ds vs → Vals vs us → ∃ as, ReadsAll s.heap us ds as
  | [], vs, us, h, r => by
    have h : vs = [] := h
    subst h; cases r; exact ⟨_, .nil⟩
  | d :: ds, vs, us, h, r => by
    obtain ⟨v, t, rfl, hd, ht⟩ := h
    cases r with
    | cons r1 r2 =>
      obtain ⟨as, ra⟩ := RepD.reads I d v _ hd r1
      obtain ⟨bs, rb⟩ := RepL.reads I ds t _ ht r2
      exact ⟨_, .cons ra rb⟩
end
end
section
variable {X : Cx}
def rEqD (K : PySem.W.Frag) (neg : Bool) : R2 := fun x y H Q => ∃ d e, RepD K H d x ∧ RepD K H e y ∧ SeqAt.shaped d = true ∧ SeqAt.shaped e = true ∧ SeqAt.noMix d e = true ∧ Q (.bl (if neg then !Spec.same d e else Spec.same d e)) H
theorem op_eqD {k : Nat} (hr : Room k X.A) : OpR X (compareOp .Eq) (rEqD X.K false) := by
  intro pins s σ H x y v u Q I rx ry h
  obtain ⟨d, e, hd, he, sd, se, mx, q⟩ := h
  obtain ⟨as, ra⟩ := RepD.reads I d x v hd rx
  obtain ⟨bs, rb⟩ := RepD.reads I e y u he ry
  exact eq_dataH_same ra rb sd se hr.units mx ⟨.bl _, H, I, rfl, q⟩
theorem op_neD {k : Nat} (hr : Room k X.A) : OpR X (compareOp .NotEq) (rEqD X.K true) := by
  intro pins s σ H x y v u Q I rx ry h
  obtain ⟨d, e, hd, he, sd, se, mx, q⟩ := h
  obtain ⟨as, ra⟩ := RepD.reads I d x v hd rx
  obtain ⟨bs, rb⟩ := RepD.reads I e y u he ry
  exact ne_dataH_same ra rb sd se hr.units mx ⟨.bl _, H, I, rfl, q⟩
/-! tuples of ints -/
/-! isinstance, all -/
theorem call_isinst : CallR X (.builtin "isinstance") (fun xs H Q => ∃ x n t b, xs = [x, .ty n] ∧ TyOf X.K H x t ∧ PySem.W.kitOne X.K t (.type n) = some b ∧ Q (.bl b) H) := by
  intro pins s σ H xs us Q I r h
  obtain ⟨x, n, t, b, rfl, ty, e, q⟩ := h
  obtain ⟨u, w', rfl, ru, rw'⟩ := vals2 r
  cases rw'
  exact isinst_ok I ru ty e fun tk => ⟨.bl b, H, I.tok tk, rfl, q⟩
theorem call_all (hc : X.calm = true := by rfl) : CallR X (.builtin "all") (fun xs H Q => ∃ (p : Addr) (bs : List Bool), xs = [.ref p] ∧ SqL X.K H p (bs.map V.bl) ∧ Q (.bl (bs.all id)) H) := by
  intro pins s σ H xs us Q I r h
  obtain ⟨p, bs, rfl, hq, q⟩ := h
  obtain ⟨u, rfl, ru⟩ := vals1 r
  cases ru
  obtain ⟨its, rv, pl, hz⟩ := I.list hq
  have lp : p < s.heap.objs.size := by
    obtain ⟨o, e, _⟩ := pl.isList
    exact Heap.lt_size e
  refine call_all_walk (wpAny_pyIter_list pl.isList ⟨s.heap.objs.size, _, _, _, _, _, fun i => bs.getD i true, rfl, Walks.list (A := X.A.in1) (I.ok.hd hc) s.heap.objs.size p (Nat.ne_of_lt lp) its.toArray, ⟨⟨_, Heap.get?_push_size _ rfl, rfl, rfl⟩, pl.isList.at fun o e => Heap.get?_push_of_some _ e⟩, ?_, ?_⟩)
  · intro i v s1 Q1 E1 hv hq1
    have hi : its[i]? = some v := by simpa using hv
    have hl := rv.length
    rw [List.length_map] at hl
    have hb : i < bs.length := by
      have := (List.getElem?_eq_some_iff.mp hi).1
      omega
    obtain ⟨u, hu, ru⟩ := rv.get (i := i) (x := V.bl bs[i]) (by rw [List.getElem?_map, List.getElem?_eq_getElem hb]; rfl)
    rw [hi] at hu
    cases hu
    cases ru
    have e : bs.getD i true = bs[i] := by simp [List.getD, hb]
    dsimp only at hq1
    rw [e] at hq1
    exact wpAny_truthy_bool hq1
  · intro h' tk hk
    have kept : ∀ b o, s.heap.get? b = some o → h'.get? b = some o := fun b o e => hk b o (by
      intro z
      have z : b = s.heap.objs.size := by simpa using z
      exact absurd (Heap.lt_size e) (by rw [z]; exact Nat.lt_irrefl _)) (Heap.get?_push_of_some _ e)
    refine ⟨.bl (bs.all id), H, I.kept kept, ?_, q⟩
    show Value.bool _ = Value.bool _
    have hl := rv.length
    rw [List.length_map] at hl
    have e : ((List.range its.toArray.size).all fun i => bs.getD i true) = bs.all id := by
      rw [List.size_toArray, ← hl]
      clear q hq rv pl hk hz hl
      rw [Bool.eq_iff_iff, List.all_eq_true, List.all_eq_true]
      constructor
      · intro h b hb
        obtain ⟨i, hi, e⟩ := List.getElem_of_mem hb
        have := h i (List.mem_range.mpr hi)
        simp [List.getD, hi] at this
        rw [← e]; exact this
      · intro h i hi
        have hi := List.mem_range.mp hi
        simp [List.getD, hi]
        exact h _ (List.getElem_mem hi)
    rw [e]
end
end L2
namespace L2
open PySem PySem.Spec PyProof.Rows
/-! ### the rules that name the fragment, with the fragment told: for a comprehension's block -/
section
variable {X : Cx} (K : PySem.W.Frag)
theorem isinstK (hK : X.K = K := by rfl) : CallR X (.builtin "isinstance") (fun xs H Q => ∃ x n t b, xs = [x, .ty n] ∧ TyOf K H x t ∧ PySem.W.kitOne K t (.type n) = some b ∧ Q (.bl b) H) := by subst hK; exact call_isinst
theorem ixlK (hK : X.K = K := by rfl) : IxR X (rIxL K) := by subst hK; exact ix_list
theorem ixtK (hK : X.K = K := by rfl) : IxR X (rIxT K) := by subst hK; exact ix_tup
end
end L2
namespace L2
open PySem PySem.Spec PyProof.Rows
theorem iteP {c A B : Prop} [Decidable c] (hc : c) (h : A) : if c then A else B := by rw [if_pos hc]; exact h
theorem iteN {c A B : Prop} [Decidable c] (hc : ¬ c) (h : B) : if c then A else B := by rw [if_neg hc]; exact h
/-! ### list(range(a, b)) -/
def rangeI (lo : Int) (n : Nat) : List Int := (List.range n).map fun (i : Nat) => lo + (i : Int)
theorem rangeI_len (lo : Int) (n : Nat) : (rangeI lo n).length = n := by simp [rangeI]
theorem rangeI_succ (lo : Int) (n : Nat) : rangeI lo (n + 1) = rangeI lo n ++ [lo + n] := by simp [rangeI, List.range_succ]
theorem rangeI_get {lo : Int} {n i : Nat} (h : i < n) : (rangeI lo n)[i]? = some (lo + i) := by
  unfold rangeI
  rw [List.getElem?_map, List.getElem?_range h]
  rfl
theorem mem_rangeI {lo z : Int} {n : Nat} : z ∈ rangeI lo n ↔ lo ≤ z ∧ z < lo + n := by
  unfold rangeI
  rw [List.mem_map]
  constructor
  · rintro ⟨i, hi, rfl⟩
    have := List.mem_range.mp hi
    omega
  · rintro ⟨h1, h2⟩
    exact ⟨(z - lo).toNat, List.mem_range.mpr (by omega), by omega⟩
theorem filt (low : Int) (p : Int → Bool) (a : Int) (ha : low ≤ a) : ∀ (n : Nat) (b : Int), b < low + n → (∀ z, low ≤ z → z < low + n → (p z = true ↔ a ≤ z ∧ z ≤ b)) → (rangeI low n).filter p = rangeI a (b + 1 - a).toNat
  | 0, b, hb, _ => by
    have e : (b + 1 - a).toNat = 0 := by simp at hb; omega
    rw [e]; rfl
  | n + 1, b, hb, hp => by
    rw [rangeI_succ, List.filter_append]
    have hl := hp (low + n) (by (first | with_reducible exact Int.le_add_of_nonneg_right (Int.natCast_nonneg _) | omega)) (by omega)
    have hp' : ∀ z, low ≤ z → z < low + n → (p z = true ↔ a ≤ z ∧ z ≤ b) := fun z h1 h2 => hp z h1 (by omega)
    by_cases c : b = low + n
    · have ih := filt low p a ha n (b - 1) (by omega) fun z h1 h2 => by rw [hp' z h1 h2]; omega
      rw [ih]
      by_cases c2 : a ≤ b
      · have e1 : p (low + n) = true := hl.mpr (by omega)
        have e2 : (b + 1 - a).toNat = (b - 1 + 1 - a).toNat + 1 := by omega
        rw [e2, rangeI_succ]
        have e3 : a + ((b - 1 + 1 - a).toNat : Nat) = low + n := by omega
        rw [e3]
        simp [e1]
      · have e1 : p (low + n) = false := by
          cases q : p (low + n) with
          | false => rfl
          | true => have := hl.mp q; omega
        have e2 : (b + 1 - a).toNat = 0 := by omega
        have e3 : (b - 1 + 1 - a).toNat = 0 := by omega
        rw [e2, e3]
        simp [e1, rangeI]
    · have ih := filt low p a ha n b (by omega) hp'
      rw [ih]
      have e1 : p (low + n) = false := by
        cases q : p (low + n) with
        | false => rfl
        | true => have := hl.mp q; omega
      simp [e1]
theorem vals_at : ∀ {xs : List V} {us : List Value}, xs.length = us.length → (∀ (i : Nat) (x : V) (u : Value), xs[i]? = some x → us[i]? = some u → RelV x u) → Vals xs us
  | [], [], _, _ => .nil
  | [], _ :: _, h, _ => by simp at h
  | _ :: _, [], h, _ => by simp at h
  | x :: xs, u :: us, h, k => .cons (k 0 x u rfl rfl) (vals_at (by simpa using h) fun i y w e1 e2 => k (i + 1) y w (by simpa using e1) (by simpa using e2))
def tListRng (ta : TA) : TE := fun σ H Q => ta σ H fun vs H1 => ∃ i j : Int, vs = [.int i, .int j] ∧ (-(2 ^ 62) ≤ i ∧ i < 2 ^ 62 ∧ -(2 ^ 62) ≤ j ∧ j < 2 ^ 62) ∧ (j - i).toNat ≤ sizeLine ∧
  ∀ l, H1 l = none → Q (.ref l) (upd H1 l (.lst ((rangeI i (j - i).toNat).map V.int)))
theorem pe_listrng {X : Cx} {a b : Expr} {ta : TA} {p1 p2 pos1 pos2 : Pos} (g1 : Gl X "list") (m1 : X.mg "list" = none) (g2 : Gl X "range") (m2 : X.mg "range" = none) (ha : PA X [a, b] ta) (hc : X.calm = true := by rfl)
    (hs1 : starEach [.Call (.Name "range" p2) [a, b] [] pos2] X.env = [(false, eval (.Call (.Name "range" p2) [a, b] [] pos2) X.env)] := by rfl)
    (hs : starEach [a, b] X.env = [(false, eval a X.env), (false, eval b X.env)] := by rfl) (hs2 : starEach [b] X.env = [(false, eval b X.env)] := by rfl) :
    PE X (.Call (.Name "list" p1) [.Call (.Name "range" p2) [a, b] [] pos2] [] pos1) (tListRng ta) := by
  intro pins s σ H Q I h
  refine wpAny_Call_Name_kw (ld_blt I g1 m1 PyProof.Rows.boot_list ?_)
  refine PyProof.Rows.callWith_type1 ?_ hs1 rfl
  rw [hs1]
  refine Calls.spliced_cons (wpAny_Call_Name_kw (ld_blt I g2 m2 boot_range ?_))
  refine PyProof.Rows.callWith_type1 (thn (ha pos2 pins s σ H _ I h) fun us s1 ⟨vs, H1, I1, r1, q1⟩ => ?_) (by rw [hs, hs2]) (by rw [hs2]; rfl)
  obtain ⟨i, j, e, ⟨q1, q2, q3, q4⟩, hz, q⟩ := q1
  subst e
  obtain ⟨u, w', rfl, ⟨t, rfl⟩, ⟨t', rfl⟩⟩ := vals2 r1
  refine call_range_2 (Calls.spliced_nil ?_)
  have I2 : Inv X pins σ H1 { s1 with heap := s1.heap.push { cls := .type "range", data := .fields #[.int i t, .int j t', .int 1 s1.toks] }, toks := s1.toks + 1 } := I1.kept fun b o e => Heap.get?_push_of_some _ e
  refine call_list_range (n := (j - i).toNat) (I.ok.hd hc) (IsRange.new ..) (small_one q1 q2 q3 q4) (by rw [rangeSize_one]; split <;> omega) (by rw [sizeLine_eq] at hz; (first | with_reducible assumption | omega)) fun h' tk acc' c' keep at' its => ?_
  have hl : acc'.size = (j - i).toNat := its.1
  refine ⟨.ref _, upd H1 _ (.lst ((rangeI i (j - i).toNat).map V.int)), I2.laid (t' := tk) keep (Nat.le_refl _) ⟨by rw [List.length_map, rangeI_len]; exact hz, acc'.toList, c', ?_, by rw [Array.toArray_toList]; exact at'⟩, rfl, q _ (I2.hok.fresh (Nat.le_refl _))⟩
  refine vals_at (by rw [List.length_map, rangeI_len, Array.length_toList, hl]) fun k x u e1 e2 => ?_
  obtain ⟨t2, rfl⟩ := its.2 k u (by simpa using e2)
  obtain ⟨z, rfl, hk⟩ := ints_at e1
  have hlt : k < (j - i).toNat := by
    have := (List.getElem?_eq_some_iff.mp hk).1
    rwa [rangeI_len] at this
  rw [rangeI_get hlt] at hk
  cases hk
  exact ⟨t2, by rw [Int.mul_one]⟩
/-! ### any -/
section
variable {X : Cx}
theorem pgtK {es : List Expr} {k : Nat} {t : TGs} {n : Nat} {pos : Pos} (K : PySem.W.Frag) (hc : X.calm = true) (h : PGs X es t) (hK : X.K = K := by rfl)
    (hn : (assignEach es X.env).length = n := by rfl) (hst : (assignEach es X.env).findIdx? (·.1) = none := by rfl) : PG X (.Tuple es k pos) (gTup K n t) := by subst hK; exact pg_tup hc h hn hst
end
/-! ### pairs of ints, as tuples on the heap -/
def Prs (H : Hp) : List V → List (Int × Int) → Prop
  | [], [] => True
  | v :: vs, p :: ps => (∃ a, v = .ref a ∧ H a = some (.tup [.int p.1, .int p.2])) ∧ Prs H vs ps
  | _, _ => False
theorem Prs.mono {H H' : Hp} (h : ∀ a xs, H a = some (.tup xs) → H' a = some (.tup xs)) : ∀ {vs : List V} {ps : List (Int × Int)}, Prs H vs ps → Prs H' vs ps
  | [], [], _ => trivial
  | _ :: _, _ :: _, ⟨⟨a, e, t⟩, r⟩ => ⟨⟨a, e, h _ _ t⟩, Prs.mono h r⟩
  | [], _ :: _, z => z.elim
  | _ :: _, [], z => z.elim
theorem Prs.same {H H' : Hp} {vs : List V} {ps : List (Int × Int)} (s : Same H H') (r : Prs H vs ps) : Prs H' vs ps := r.mono fun _ _ e => s _ _ e
theorem Prs.append {H : Hp} : ∀ {vs ws : List V} {ps qs : List (Int × Int)}, Prs H vs ps → Prs H ws qs → Prs H (vs ++ ws) (ps ++ qs)
  | [], _, [], _, _, r => r
  | _ :: _, _, _ :: _, _, ⟨e, r⟩, r2 => ⟨e, Prs.append r r2⟩
  | [], _, _ :: _, _, z, _ => z.elim
  | _ :: _, _, [], _, z, _ => z.elim
theorem Prs.length {H : Hp} : ∀ {vs : List V} {ps : List (Int × Int)}, Prs H vs ps → vs.length = ps.length
  | [], [], _ => rfl
  | _ :: _, _ :: _, ⟨_, r⟩ => by simp [Prs.length r]
  | [], _ :: _, z => z.elim
  | _ :: _, [], z => z.elim
end L2
namespace L2
open PySem PySem.Spec PyProof.Rows
/-! ### products of great numbers -/
def Below (i : Int) : Prop := -(2 ^ 250) < i ∧ i < 2 ^ 250
def CMulB (i j : Int) : Prop := Below i ∧ Below j
theorem Below.bits {i : Int} (h : Below i) : Builtin.Int.intBits i ≤ 2 ^ 20 := by
  have h1 : i.natAbs < 2 ^ 250 := by
    have := h.1; have := h.2; omega
  exact Nat.le_trans (PyProof.Rows.intBits_le h1) (by decide)
theorem op_mulB {X : Cx} : OpR X (binaryOp .Mult) (rI CMulB fun i j => .int (i * j)) := opI fun _ _ _ _ _ _ _ hc q => mul_int q (IntMulOk.of_bits hc.1.bits hc.2.bits)
/-! ### repr of plain data -/
section
variable {X : Cx}
end
/-! ### a, b, c = x, y, z with plain local names -/
end L2
namespace L2
open PySem PySem.Spec PyProof.Rows
section
variable {X : Cx} {pins : List (Addr × Obj)} {σ : St} {H : Hp} {s : Shared} {h' : Heap}
end
/-! ### zip of two tuples of one length: its records stand at n .. n + 4 -/
section
variable {prog : Program} {w : World} {A : Around} {E : Value → Shared → Prop} {s : Shared}
end
end L2
namespace L2
open PySem PySem.Spec PyProof.Rows
section
variable {prog : Program} {w : World} {A : Around} {E : Value → Shared → Prop} {s : Shared}
end
/-! ### the walk over a zip of two tuples of one length -/
section
variable {g : TG} {tc : TT} {te : TE}
end
end L2
namespace L2
open PySem PySem.Spec PyProof.Rows
/-! ### texts -/
section
variable {X : Cx} {tg : Expr}
end
end L2
namespace L2
open PySem PySem.Spec PyProof.Rows
/-! ### enumerate of a list, walked -/
/-! ### sum of a list of ints -/
theorem pre_sum (ns : List Int) : ∀ j, j ≤ ns.length → preSum (fun i => ns.getD i 0) j = (ns.take j).sum
  | 0, _ => by simp [preSum]
  | j + 1, h => by
    have ih := pre_sum ns j (by omega)
    have e : ns[j]? = some ns[j] := by simp [show j < ns.length by omega]
    have q : ns.take (j + 1) = ns.take j ++ [ns[j]] := by rw [List.take_succ, e]; rfl
    rw [q, List.sum_append, ← ih]
    simp [preSum, List.getD, e]
section
variable {X : Cx}
end
end L2
namespace L2
open PySem PySem.Spec PyProof.Rows
end L2
namespace L2
open PySem PySem.Spec PyProof.Rows
/-! ### a dict's keys, walked: the dict is frozen from then on -/
theorem Inv.freeze {X : Cx} {pins : List (Addr × Obj)} {σ : St} {H : Hp} {s : Shared} {d : Addr} {o : Obj} {kvs : List (Key × V)} (I : Inv X pins σ H s) (h : H d = some (.dK kvs)) (ho : s.heap.get? d = some o) :
    Inv X pins σ (upd H d (.frz o (.dK kvs))) s := by
  have nd : ∀ b u, H b = some u → (∀ z, u ≠ .dK z) → b ≠ d := fun b u e hu z => by
    rw [z, h] at e
    exact hu _ (Option.some.inj e).symm
  refine I.step (g' := s.gens) (d' := s.drawn) (t' := s.toks) (h' := s.heap) (ch := []) (fun _ z => nomatch z) (fun b u _ _ _ e _ => e) (fun b u _ _ _ e _ => ⟨u.slots, e⟩) (fun b u _ e n => by rw [upd_ne (fun z => by rw [z, h] at n; cases n)]; exact n)
    (fun b u _ e => ⟨u, e⟩) (fun b xs e => by rw [upd_ne (nd b _ e (by intro z c; cases c))]; exact e) (fun b u v e => by rw [upd_ne (nd b _ e (by intro z c; cases c))]; exact e)
    (fun b ps e => ⟨#[], by rw [upd_ne (nd b _ e (by intro z c; cases c)), e]; simp⟩) (fun m hm => hm) (fun b u e => ?_) I.bare
  by_cases hb : b = d
  · subst hb
    rw [upd_same] at e
    cases e
    exact ⟨ho, I.hok b _ h⟩
  · rw [upd_ne hb] at e
    exact (I.hok b u e).stay (fun c v _ q => q) (fun c q => by rw [upd_ne (nd c _ q (by intro z w; cases w))]; exact q) fun c xs q => by rw [upd_ne (nd c _ q (by intro z w; cases w))]; exact q
theorem kv_get {κ : Type} : ∀ {kvs : List (κ × V)} {vs : List (κ × Value)} {i : Nat} {k : κ} {v : V}, KV kvs vs → kvs[i]? = some (k, v) → ∃ u, vs[i]? = some (k, u) ∧ RelV v u
  | _, _, _, _, _, .nil, e => by simp at e
  | _, _, 0, _, _, .cons r _, e => by
    simp at e
    subst e
    obtain ⟨r1, r2⟩ := r
    exact ⟨_, by simp; exact Prod.ext r1.symm rfl, r2⟩
  | _, _, i + 1, _, _, .cons _ r, e => by
    obtain ⟨u, e1, e2⟩ := kv_get (i := i) r (by simpa using e)
    exact ⟨u, by simpa using e1, e2⟩
theorem key_rel {k : Key} {u : Value} (h : keyIs k u = true) : RelV (kV k) u := by
  rcases keyIs_shape h with ⟨i, t, rfl, rfl⟩ | ⟨x, t, rfl, rfl⟩
  · exact ⟨t, rfl⟩
  · exact ⟨t, rfl⟩
def Itd (d : Addr) (o : Obj) (kvs : List (Key × V)) : It :=
  ⟨fun i H => i < kvs.length ∧ H d = some (.frz o (.dK kvs)), fun i H x H' => H' = H ∧ ∃ k v, kvs[i]? = some (k, v) ∧ x = kV k, fun i H => kvs.length ≤ i ∧ H d = some (.frz o (.dK kvs))⟩
theorem frz_at {X : Cx} {pins : List (Addr × Obj)} {σ : St} {H : Hp} {s : Shared} {d : Addr} {o : Obj} {kvs : List (Key × V)} {es : Array DictEntry} {ep : Nat} (I : Inv X pins σ H s) (ho : o.data = .dict es ep) (h : H d = some (.frz o (.dK kvs))) :
    ∃ vs, KV kvs vs ∧ s.heap.DictAt (mixKind X.prog X.w) d vs ep ∧ (d == sysModules) = false := by
  obtain ⟨e, z, ns, vs, rel, o', es', ep', h1, h2, h3, h4, h5, h6⟩ := (show ObjOk X.prog X.w H s.heap d (.frz o (.dK kvs)) from I.hok d _ h)
  rw [e] at h1
  cases h1
  rw [ho] at h3
  cases h3
  exact ⟨vs, rel, ⟨o, es, e, h2, ho, h4, h5, h6⟩, ns⟩
theorem turn_dict {P : Program} {w : World} {K : PySem.W.Frag} {tg : Expr} (d it : Addr) (o : Obj) (kvs : List (Key × V)) {es : Array DictEntry} {ep : Nat} (ho : o.data = .dict es ep) :
    Turn P w K tg (Itd d o kvs) [it] it (fun i h => i ≤ kvs.length ∧ h.IsKeyIter it d i kvs.length ep) where
  mem := by simp
  obj := fun i h st b hb => by
    have e : b = it := by simpa using hb
    subst e
    obtain ⟨o, e, c, q⟩ := st.2
    exact ⟨o, e, fun v z => by rw [q] at z; cases z⟩
  keep := fun i h h' st k => ⟨st.1, st.2.at fun o e => k it (by simp) o e⟩
  item := by
    intro X hP hw hK hc i pins s σ H E I hf st hg
    subst hP hw hK
    obtain ⟨hi, hd⟩ := hg
    obtain ⟨f0, f1, f2, f3, f4, f5⟩ := hf it (by simp)
    obtain ⟨vs, rel, da, ns⟩ := frz_at I ho hd
    have hl : kvs.length = vs.length := Paired.length rel
    obtain ⟨u, hu, _⟩ := kv_get (i := i) (k := kvs[i].1) (v := kvs[i].2) rel (by simp [hi])
    have st2 := st.2
    rw [hl] at st2
    refine wpAny_pyNext_dict_item st2 da hu fun key h' hk st' sb => ?_
    have I1 : Inv X pins σ H { s with heap := h' } := I.turned (t' := s.toks) (fun b o hb e => (sb.2 b hb).trans e) f0 f1 f3 f4 f5
    obtain ⟨o2, e2, c2, d2⟩ := id st'
    rw [← hl] at st'
    exact ⟨key, rfl, go_of (s := { s with heap := h' }) e2 c2 d2 (by decide) ⟨kV kvs[i].1, H, I1, key_rel hk, ⟨rfl, kvs[i].1, kvs[i].2, by simp [hi], rfl⟩, ⟨hi, st'⟩, fun b hb => (hf b hb).1⟩⟩
  done := by
    intro X hP hw hK hc i pins s σ H E I hf st hg
    subst hP hw hK
    obtain ⟨hi, hd⟩ := hg
    obtain ⟨f0, f1, f2, f3, f4, f5⟩ := hf it (by simp)
    obtain ⟨vs, rel, da, ns⟩ := frz_at I ho hd
    have hl : kvs.length = vs.length := Paired.length rel
    have st2 := st.2
    rw [hl] at st2
    exact wpAny_pyNext_dict_end (I.ok.hd hc) st2 da (by simp; omega) fun h' eb => ⟨rfl, I.turned (t' := s.toks) (fun b o hb e => eb b o hb e) f0 f1 f3 f4 f5⟩
  self := fun _ _ _ _ _ st h => wpAny_pyIter_keyiter st.2 h
def iDict (tl : TE) : TI := fun σ H R => tl σ H fun x H1 => ∃ d kvs, x = .ref d ∧ H1 d = some (.dK kvs) ∧ ∀ o, R (Itd d o kvs) (upd H1 d (.frz o (.dK kvs)))
theorem pi_dict {X : Cx} {tg l : Expr} {tl : TE} (hl : PE X l tl) : PI X tg l (iDict tl) := by
  intro pins s σ H R I h
  refine thn (hl pins s σ H _ I h) fun v s1 ⟨x, H1, I1, r1, q1⟩ => ?_
  obtain ⟨d, kvs, e, hd, q⟩ := q1
  subst e
  cases r1
  obtain ⟨z, ns, vs, rel, o, es, ep, h1, h2, h3, h4, h5, h6⟩ := dk_of I1.hok hd
  have hl : kvs.length = vs.length := Paired.length rel
  have I2 := I1.freeze hd h1
  refine wpAny_pyIter_dict (knd := mixKind X.prog X.w) ns ⟨o, es, h1, h2, h3, h4, h5, h6⟩ ?_
  have f : (upd H1 d (.frz o (.dK kvs))) s1.heap.objs.size = none := I2.hok.fresh (Nat.le_refl _)
  refine ⟨s1.heap.objs.size, [s1.heap.objs.size], _, _, _, rfl, I2.kept (t' := s1.toks) fun b o e => Heap.get?_push_of_some _ e, turn_dict d _ o kvs h3, ⟨Nat.zero_le _, ⟨_, Heap.get?_push_size _ rfl, rfl, by rw [hl]; rfl⟩⟩, fun b hb => ?_, q o⟩
  have e : b = s1.heap.objs.size := by simpa using hb
  subst e
  exact I2.fpOk (Nat.le_refl _) f
theorem comp_dict {d : Addr} {o : Obj} {kvs : List (Key × V)} {g : TG} {tc : TT} {te : TE} {Kf : List V → Hp → Prop} {σ0 : St} {H1 : Hp} (Pv : Nat → List V → St → Hp → Prop) (hz : kvs.length < sizeLine) (h0 : Pv 0 [] σ0 H1) (hb : ∀ i zs σ H, Pv i zs σ H → zs.length ≤ i)
    (hl : ∀ i zs σ H, i ≤ kvs.length → Pv i zs σ H → H d = some (.frz o (.dK kvs)))
    (hs : ∀ i k v zs σ H, kvs[i]? = some (k, v) → Pv i zs σ H → g (kV k) σ H fun σ2 H2 => tc σ2 H2 fun b H3 => if b = true then te σ2 H3 fun y H4 => Pv (i + 1) (zs ++ [y]) σ2 H4 else Pv (i + 1) zs σ2 H3)
    (hd : ∀ zs σ H, Pv kvs.length zs σ H → Kf zs H) : CompW (Itd d o kvs) g tc te Kf σ0 H1 := by
  refine ⟨fun i m zs σ H => m = kvs.length - i ∧ i ≤ kvs.length ∧ Pv i zs σ H, ⟨kvs.length, by simp, Nat.zero_le _, h0⟩, ?_⟩
  rintro i m zs σ H ⟨rfl, hi, p⟩
  have q1 := hl i zs σ H hi p
  refine ⟨Nat.lt_of_le_of_lt (hb _ _ _ _ p) (Nat.lt_of_le_of_lt hi hz), ?_⟩
  by_cases hlt : i < kvs.length
  · refine .inr ⟨⟨hlt, q1⟩, Pv (i + 1), fun zs' σ' H' p' => ⟨kvs.length - (i + 1), Nat.sub_lt_sub_left hlt (Nat.lt_succ_self i), rfl, hlt, p'⟩, fun x H' y => ?_⟩
    obtain ⟨rfl, k, v, e1, rfl⟩ := y
    exact hs i k v zs σ _ e1 p
  · have e : i = kvs.length := by omega
    subst e
    exact .inl ⟨⟨Nat.le_refl _, q1⟩, hd zs σ H p⟩
end L2
namespace L2
open PySem PySem.Spec PyProof.Rows
section
variable {X : Cx}
variable {g : TG} {tc : TT} {te : TE}
end
end L2
namespace L2
open PySem PySem.Spec PyProof.Rows
open AutoSeq1 (wpAny_loadPart')
/-! ### enumerate of a tuple, walked -/
section
variable {prog : Program} {w : World} {A : Around} {E : Value → Shared → Prop} {s : Shared}
end
section
variable {prog : Program} {w : World} {A : Around} {E : Value → Shared → Prop} {s : Shared}
end
/-- // by a number of at most 400 bits -/
def CDivC (i j : Int) : Prop := 0 < j ∧ j < 2 ^ 200 * 2 ^ 200
theorem op_fdivC {X : Cx} : OpR X (binaryOp .FloorDiv) (rI CDivC fun i j => .int (i / j)) := opI fun i j _ _ _ _ _ hc q => by
  obtain ⟨h0, h1⟩ := hc
  refine floordiv_int (by (first | exact Int.ne_of_gt (by with_reducible assumption) | omega)) ?_ (.inl (PyProof.noPylong_of_log2 ?_))
  · rw [Int.fdiv_eq_ediv_of_nonneg i (by (first | exact Int.le_of_lt (by with_reducible assumption) | omega))]; exact q
  · have h2 : j.natAbs < 2 ^ 200 * 2 ^ 200 := by omega
    rw [← Nat.pow_add] at h2
    have h3 : j.natAbs ≠ 0 := by omega
    have h4 : j.natAbs.log2 < 200 + 200 := (Nat.log2_lt h3).mpr h2
    exact Nat.lt_of_lt_of_le h4 (by decide)
end L2
namespace Mine
open PySem L2
def gI (a b : Int) : Int := (Nat.gcd a.toNat b.toNat : Nat)
def low1 (a b : Int) : Int := a / gI a b
def low2 (a b : Int) : Int := b / gI a b
theorem gI_pos {a b : Int} (hb : 1 ≤ b) : 0 < gI a b := by
  have : 0 < Nat.gcd a.toNat b.toNat := Nat.gcd_pos_of_pos_right _ (by omega)
  unfold gI; omega
theorem gI_mul {a b c : Int} (ha : 0 ≤ a) (hb : 0 ≤ b) (hc : 0 ≤ c) : gI (c * a) (c * b) = c * gI a b := by
  obtain ⟨x, rfl⟩ := Int.eq_ofNat_of_zero_le ha
  obtain ⟨y, rfl⟩ := Int.eq_ofNat_of_zero_le hb
  obtain ⟨z, rfl⟩ := Int.eq_ofNat_of_zero_le hc
  unfold gI
  rw [← Int.natCast_mul, ← Int.natCast_mul, Int.toNat_natCast, Int.toNat_natCast, Int.toNat_natCast, Int.toNat_natCast, Nat.gcd_mul_left, Int.natCast_mul]
theorem low_mul {a b c : Int} (ha : 0 ≤ a) (hb : 1 ≤ b) (hc : 1 ≤ c) : low1 (c * a) (c * b) = low1 a b ∧ low2 (c * a) (c * b) = low2 a b := by
  unfold low1 low2
  rw [gI_mul ha (by omega) (by omega), Int.mul_ediv_mul_of_pos _ _ (by omega), Int.mul_ediv_mul_of_pos _ _ (by omega)]
  exact ⟨rfl, rfl⟩
theorem low_eq {a b c d : Int} (ha : 0 ≤ a) (hb : 1 ≤ b) (hc : 0 ≤ c) (hd : 1 ≤ d) (h : a * d = c * b) : low1 a b = low1 c d ∧ low2 a b = low2 c d := by
  have e1 := low_mul ha hb hd
  have e2 := low_mul hc hd hb
  have q1 : d * a = b * c := by rw [Int.mul_comm d a, h, Int.mul_comm]
  have q2 : d * b = b * d := Int.mul_comm _ _
  rw [q1, q2] at e1
  exact ⟨e1.1.symm.trans e2.1, e1.2.symm.trans e2.2⟩
theorem gI_dvd1 {a b : Int} (ha : 0 ≤ a) : gI a b ∣ a := by
  obtain ⟨x, rfl⟩ := Int.eq_ofNat_of_zero_le ha
  unfold gI
  rw [Int.toNat_natCast]
  exact Int.natCast_dvd_natCast.mpr (Nat.gcd_dvd_left _ _)
theorem gI_dvd2 {a b : Int} (hb : 0 ≤ b) : gI a b ∣ b := by
  obtain ⟨x, rfl⟩ := Int.eq_ofNat_of_zero_le hb
  unfold gI
  rw [Int.toNat_natCast]
  exact Int.natCast_dvd_natCast.mpr (Nat.gcd_dvd_right _ _)
theorem low_ratio {a b : Int} (ha : 0 ≤ a) (hb : 1 ≤ b) : low1 a b * b = a * low2 a b := by
  have h1 := Int.ediv_mul_cancel (gI_dvd1 (b := b) ha)
  have h2 := Int.ediv_mul_cancel (gI_dvd2 (a := a) (b := b) (by omega))
  unfold low1 low2
  generalize a / gI a b = x at h1 ⊢
  generalize b / gI a b = y at h2 ⊢
  rw [← h1, ← h2]
  generalize gI (x * gI a b) (y * gI a b) = g
  grind
theorem low1_nonneg {a b : Int} (ha : 0 ≤ a) : 0 ≤ low1 a b := Int.ediv_nonneg ha (by unfold gI; omega)
theorem low2_pos {a b : Int} (hb : 1 ≤ b) : 1 ≤ low2 a b := by
  have h2 := Int.ediv_mul_cancel (gI_dvd2 (a := a) (b := b) (by omega))
  have g := gI_pos (a := a) hb
  unfold low2
  generalize b / gI a b = y at h2 ⊢
  by_cases z : 0 < y
  · omega
  · have := Int.mul_nonneg (show 0 ≤ -y by omega) (Int.le_of_lt g)
    rw [Int.neg_mul] at this
    omega
theorem low1_le {a b : Int} (ha : 0 ≤ a) (hb : 1 ≤ b) : low1 a b ≤ a := Int.ediv_le_self _ ha
theorem low2_le {a b : Int} (hb : 1 ≤ b) : low2 a b ≤ b := Int.ediv_le_self _ (by omega)
/-- low terms again -/
theorem low_low {a b : Int} (ha : 0 ≤ a) (hb : 1 ≤ b) : low1 (low1 a b) (low2 a b) = low1 a b ∧ low2 (low1 a b) (low2 a b) = low2 a b := by
  have := low_eq (low1_nonneg (b := b) ha) (low2_pos (a := a) hb) ha hb (by rw [low_ratio ha hb])
  exact this
/-! the shares and the tails of a steepness p/q -/
def shN (p q : Int) (n : Nat) : Int := (q - p) * p ^ n
def shD (p q : Int) (n : Nat) : Int := (q + p) * q ^ n
def tlN (p q : Int) (n : Nat) : Int := q * p ^ n
/-- the tail from k on, as top and bottom -/
def tN (p q k : Int) : Int := if 0 ≤ k then tlN p q k.toNat else shD p q (1 - k).toNat - tlN p q (1 - k).toNat
def tD (p q k : Int) : Int := if 0 ≤ k then shD p q k.toNat else shD p q (1 - k).toNat
/-- as the law says it: for k at 0 and below it is what is left of the other end -/
def lN (p q k : Int) : Int := if k < 1 - k then shD p q (1 - k).toNat - tlN p q (1 - k).toNat else tlN p q k.toNat
theorem pow_le {p q : Int} (hp : 0 ≤ p) (h : p ≤ q) : ∀ n : Nat, p ^ n ≤ q ^ n
  | 0 => by simp
  | n + 1 => by
    rw [Int.pow_succ, Int.pow_succ]
    exact Int.mul_le_mul (pow_le hp h n) h hp (Int.pow_nonneg (by omega))
theorem tl_le {p q : Int} (hp : 1 ≤ p) (h : p < q) (n : Nat) : tlN p q n ≤ shD p q n := by
  unfold tlN shD
  have h1 := pow_le (p := p) (q := q) (by omega) (by omega) n
  have h2 : 0 ≤ p ^ n := Int.pow_nonneg (by omega)
  exact Int.mul_le_mul (by omega) h1 h2 (by omega)
theorem shD_pos {p q : Int} (hp : 1 ≤ p) (h : p < q) (n : Nat) : 1 ≤ shD p q n := by
  have h1 : 0 < q ^ n := Int.pow_pos (by omega)
  have := Int.mul_pos (show 0 < q + p by omega) h1
  unfold shD; omega
theorem low_le {a b : Int} (ha : a ≤ b) (hb : 1 ≤ b) : low1 a b ≤ low2 a b := Int.ediv_le_ediv (gI_pos hb) ha
theorem step_gcd {x y : Int} (hx : 0 ≤ x) (hy : 0 < y) : gI y (x % y) = gI x y := by
  obtain ⟨m, rfl⟩ := Int.eq_ofNat_of_zero_le hx
  obtain ⟨n, rfl⟩ := Int.eq_ofNat_of_zero_le (Int.le_of_lt hy)
  unfold gI
  rw [← Int.natCast_emod, Int.toNat_natCast, Int.toNat_natCast, Int.toNat_natCast, Nat.gcd_comm m n, Nat.gcd_rec n m, Nat.gcd_comm]
theorem gcd_end {x : Int} (hx : 0 ≤ x) : gI x 0 = x := by
  unfold gI
  simp
  omega
theorem gI_le {a b : Int} (hb : 1 ≤ b) : gI a b ≤ b := by
  have : Nat.gcd a.toNat b.toNat ≤ b.toNat := Nat.gcd_le_right _ (by omega)
  unfold gI; omega
theorem pow9 {a : Int} {n : Nat} (h0 : 0 ≤ a) (h9 : a ≤ 9) (hn : n ≤ 21) : 0 ≤ a ^ n ∧ a ^ n < 2 ^ 67 := by
  refine ⟨Int.pow_nonneg h0, ?_⟩
  have h1 := pow_le h0 h9 n
  obtain ⟨m, hm⟩ : ∃ m, n + m = 21 := ⟨21 - n, by omega⟩
  have h2 : (9 : Int) ^ 21 = 9 ^ n * 9 ^ m := by rw [← hm, Int.pow_add]
  have h3 : (1 : Int) ≤ 9 ^ m := by have : (0 : Int) < 9 ^ m := Int.pow_pos (by decide); omega
  have h4 : (0 : Int) ≤ 9 ^ n := Int.pow_nonneg (by decide)
  have h5 : (9 : Int) ^ n * 1 ≤ 9 ^ n * 9 ^ m := Int.mul_le_mul_of_nonneg_left h3 h4
  have h6 : (9 : Int) ^ 21 < 2 ^ 67 := by decide
  omega
theorem mul_bd {a b : Int} {m n : Nat} (a0 : 0 ≤ a) (a1 : a < 2 ^ m) (b0 : 0 ≤ b) (b1 : b < 2 ^ n) : 0 ≤ a * b ∧ a * b < 2 ^ (m + n) := by
  refine ⟨Int.mul_nonneg a0 b0, ?_⟩
  rw [Int.pow_add]
  have hp : (0 : Int) < 2 ^ n := Int.pow_pos (by decide)
  have h1 : a * b ≤ a * 2 ^ n := Int.mul_le_mul_of_nonneg_left (Int.le_of_lt b1) a0
  have h2 : a * 2 ^ n < 2 ^ m * 2 ^ n := Int.mul_lt_mul_of_pos_right a1 hp
  omega
/-! ### steepnesses and the promises -/
structure Steep (p q : Int) : Prop where
  p1 : 1 ≤ p
  pq : p < q
  q9 : q ≤ 9
def TupAt (H : Hp) (p : Addr) (a b : Int) : Prop := H p = some (.tup [.int a, .int b])
theorem ix0 (a b : Int) : atI [V.int a, V.int b] 0 = some (.int a) := rfl
theorem ix1 (a b : Int) : atI [V.int a, V.int b] 1 = some (.int b) := rfl
def lowI (a b : Int) : List V := [.int (low1 a b), .int (low2 a b)]
/-- at least 0 and below 2^72 -/
def B72 (a : Int) : Prop := 0 ≤ a ∧ a < 2 ^ 180
theorem B72.below {a : Int} (h : B72 a) : Below a := ⟨by have := h.1; omega, by have := h.2; omega⟩
theorem sh_bd {p q : Int} (s : Steep p q) {n : Nat} (hn : n ≤ 21) : B72 (shN p q n) ∧ B72 (shD p q n) ∧ B72 (tlN p q n) := by
  obtain ⟨h1, h2, h3⟩ := s
  have e1 := pow9 (a := p) (by omega) (by omega) hn
  have e2 := pow9 (a := q) (by omega) (by omega) hn
  have q1 := mul_bd (a := q - p) (m := 5) (by omega) (by omega) e1.1 e1.2
  have q2 := mul_bd (a := q + p) (m := 5) (by omega) (by omega) e2.1 e2.2
  have q3 := mul_bd (a := q) (m := 5) (by omega) (by omega) e1.1 e1.2
  have up : (2 : Int) ^ (5 + 67) < 2 ^ 180 := by decide
  exact ⟨⟨q1.1, Int.lt_trans q1.2 up⟩, ⟨q2.1, Int.lt_trans q2.2 up⟩, ⟨q3.1, Int.lt_trans q3.2 up⟩⟩
theorem low_bd {a b : Int} (ha : B72 a) (hb : B72 b) (h1 : 1 ≤ b) : B72 (low1 a b) ∧ B72 (low2 a b) := by
  have q1 := low1_nonneg (b := b) ha.1
  have q2 := low2_pos (a := a) h1
  have q3 := low1_le ha.1 h1
  have q4 := low2_le (a := a) h1
  have := ha.2; have := hb.2
  exact ⟨⟨q1, by omega⟩, ⟨by omega, by omega⟩⟩
theorem tup_out {H H' : Hp} {d l p : Addr} {xs : List V} (D : Deal H d l) (o : Out d l H H') (h : H p = some (.tup xs)) : H' p = some (.tup xs) := by
  obtain ⟨sd, n, ls, D⟩ := D
  exact o _ _ h (ne_of h D.dc (by intro z; cases z)) (ne_of h D.lc (by intro z; cases z))
def spGcd : Sp := fun vs H Q _ => ∃ a b : Int, vs = [.int a, .int b] ∧ 0 ≤ a ∧ 0 ≤ b ∧ Q (.int (gI a b)) H
def spLow : Sp := fun vs H Q _ => ∃ a b : Int, vs = [.int a, .int b] ∧ 0 ≤ a ∧ 1 ≤ b ∧ b < 2 ^ 200 * 2 ^ 200 ∧ ∀ p, H p = none → Q (.ref p) (upd H p (.tup (lowI a b)))
def spTimes : Sp := fun vs H Q _ => ∃ (p q : Addr) (a b c d : Int), vs = [.ref p, .ref q] ∧ TupAt H p a b ∧ TupAt H q c d ∧ B72 a ∧ B72 b ∧ B72 c ∧ B72 d ∧ 1 ≤ b ∧ 1 ≤ d ∧ ∀ r, H r = none → Q (.ref r) (upd H r (.tup (lowI (a * c) (b * d))))
def spMinus : Sp := fun vs H Q _ => ∃ (p q : Addr) (a b c d : Int), vs = [.ref p, .ref q] ∧ TupAt H p a b ∧ TupAt H q c d ∧ B72 a ∧ B72 b ∧ B72 c ∧ B72 d ∧ 1 ≤ b ∧ 1 ≤ d ∧ c * b ≤ a * d ∧ ∀ r, H r = none → Q (.ref r) (upd H r (.tup (lowI (a * d - c * b) (b * d))))
/-- a new fraction of the steepness at st -/
def spFr (lo hi : Int) (f g : Int → Int → Int → Int) : Sp := fun vs H Q _ => ∃ (st : Addr) (p q k : Int), vs = [.ref st, .int k] ∧ TupAt H st p q ∧ Steep p q ∧ lo ≤ k ∧ k ≤ hi ∧
  ∀ H' r, Same H H' → TupAt H' r (low1 (f p q k) (g p q k)) (low2 (f p q k) (g p q k)) → Q (.ref r) H'
def spLaw (K : PySem.W.Frag) : Sp := fun vs H Q _ => ∃ (a : Addr) (ns : List Int), vs = [.ref a] ∧ SqL K H a (ns.map V.int) ∧ ns.length ≤ 63 ∧ ∀ H', Q (.bl true) H'

/-! ### two lists, item by item -/
def cutI (n lo hi : Int) : Int := if hi < (if lo > n then lo else n) then hi else (if lo > n then lo else n)
theorem cut_in {n lo hi : Int} (h : lo ≤ hi) : lo ≤ cutI n lo hi ∧ cutI n lo hi ≤ hi := by
  unfold cutI
  split <;> split <;> omega
def Two {α : Type} (R : V → α → Prop) : List V → List α → Prop
  | [], [] => True
  | v :: vs, a :: as => R v a ∧ Two R vs as
  | _, _ => False
theorem Two.mono {α : Type} {R R' : V → α → Prop} (h : ∀ v a, R v a → R' v a) : ∀ {vs : List V} {as : List α}, Two R vs as → Two R' vs as
  | [], [], _ => trivial
  | _ :: _, _ :: _, ⟨e, r⟩ => ⟨h _ _ e, Two.mono h r⟩
  | [], _ :: _, z => z.elim
  | _ :: _, [], z => z.elim
theorem Two.append {α : Type} {R : V → α → Prop} : ∀ {vs ws : List V} {as bs : List α}, Two R vs as → Two R ws bs → Two R (vs ++ ws) (as ++ bs)
  | [], _, [], _, _, r => r
  | _ :: _, _, _ :: _, _, ⟨e, r⟩, r2 => ⟨e, Two.append r r2⟩
  | [], _, _ :: _, _, z, _ => z.elim
  | _ :: _, _, [], _, z, _ => z.elim
theorem Two.length {α : Type} {R : V → α → Prop} : ∀ {vs : List V} {as : List α}, Two R vs as → vs.length = as.length
  | [], [], _ => rfl
  | _ :: _, _ :: _, ⟨_, r⟩ => by simp [Two.length r]
  | [], _ :: _, z => z.elim
  | _ :: _, [], z => z.elim
def TS (H H' : Hp) : Prop := ∀ a xs, H a = some (.tup xs) → H' a = some (.tup xs)
theorem TS.of {H H' : Hp} (s : Same H H') : TS H H' := fun _ _ e => s _ _ e
theorem TS.trans {H H1 H2 : Hp} (a : TS H H1) (b : TS H1 H2) : TS H H2 := fun c o h => b c o (a c o h)
theorem TS.lst {H : Hp} {l : Addr} {xs ys : List V} (h : H l = some (.lst xs)) : TS H (upd H l (.lst ys)) := fun a o e => by
  rw [upd_ne (ne_of e h (by intro z; cases z))]; exact e
theorem TS.out {H H' : Hp} {d l : Addr} (D : Deal H d l) (o : Out d l H H') : TS H H' := fun p xs h => tup_out D o h
theorem same_lst {H H1 : Hp} {l : Addr} {ys : List V} (s : Same H H1) (h : H l = none) : Same H (upd H1 l (.lst ys)) := fun b o e => by
  rw [upd_ne (ne_of_none e h)]; exact s b o e
theorem take_snoc {α : Type} {l : List α} {i : Nat} {x : α} (h : l[i]? = some x) : l.take (i + 1) = l.take i ++ [x] := by
  rw [List.take_succ, h]
  rfl
/-! ### tables: rung, top, bottom -/
def Ent (H : Hp) (v : V) (e : Int × Int × Int) : Prop := ∃ p q, v = .ref p ∧ H p = some (.tup [.int e.1, .ref q]) ∧ TupAt H q e.2.1 e.2.2
theorem Ent.ts {H H' : Hp} {v : V} {e : Int × Int × Int} (t : TS H H') (h : Ent H v e) : Ent H' v e := let ⟨p, q, a, b, c⟩ := h; ⟨p, q, a, t _ _ b, t _ _ c⟩
theorem tab_ts {H H' : Hp} {vs : List V} {es : List (Int × Int × Int)} (t : TS H H') (h : Two (Ent H) vs es) : Two (Ent H') vs es := h.mono fun _ _ z => z.ts t
/-! ### a ladder's table -/
def eN (p q lo hi n y : Int) : Int := if y = lo ∨ y = hi then tlN p q (y - n).natAbs else shN p q (y - n).natAbs
def eD (p q n y : Int) : Int := shD p q (y - n).natAbs
def ent (p q lo hi n y : Int) : Int × Int × Int := (y, low1 (eN p q lo hi n y) (eD p q n y), low2 (eN p q lo hi n y) (eD p q n y))
def tableI (p q lo hi n : Int) : List (Int × Int × Int) := if lo = hi then [(lo, 1, 1)] else (rangeI lo (hi + 1 - lo).toNat).map (ent p q lo hi n)
theorem rangeI_cons (lo : Int) : ∀ n : Nat, rangeI lo (n + 1) = lo :: rangeI (lo + 1) n
  | 0 => by simp [rangeI]
  | n + 1 => by
    rw [rangeI_succ, rangeI_cons lo n, rangeI_succ]
    simp
    omega
theorem range_parts {lo hi : Int} (h : lo < hi) : rangeI lo (hi + 1 - lo).toNat = [lo] ++ rangeI (lo + 1) (hi - (lo + 1)).toNat ++ [hi] := by
  obtain ⟨m, hm⟩ : ∃ m : Nat, hi = lo + 1 + m := ⟨(hi - lo - 1).toNat, by omega⟩
  subst hm
  have e1 : (lo + 1 + (m : Int) + 1 - lo).toNat = m + 1 + 1 := by omega
  have e2 : (lo + 1 + (m : Int) - (lo + 1)).toNat = m := by omega
  rw [e1, e2, rangeI_succ, rangeI_cons]
  simp
  omega
/-! ### the promises -/
structure Ends (lo hi : Int) : Prop where
  a : 0 ≤ lo
  b : lo ≤ hi
  c : hi ≤ 9
def spCut : Sp := fun vs H Q _ => ∃ n lo hi : Int, vs = [.int n, .int lo, .int hi] ∧ Q (.int (cutI n lo hi)) H
def spLad : Sp := fun vs H Q _ => ∃ st p q n lo hi, vs = [.int n, .ref st, .int lo, .int hi] ∧ TupAt H st p q ∧ Steep p q ∧ Ends lo hi ∧ lo ≤ n ∧ n ≤ hi ∧ ∀ H' t us, Same H H' → H' t = some (.tup us) → Two (Ent H') us (tableI p q lo hi n) → Q (.ref t) H'
def taken : List Str := ["kinds", "ladder", "flat", "choose", "first", "let", "tell", "when", "else", "times", "end", "of"]
end Mine
namespace Mine
open PySem L2
/-! ### totals: a dict of fractions by whole numbers -/
def Fr72 (u : Int × Int) : Prop := B72 u.1 ∧ B72 u.2 ∧ 1 ≤ u.2
end Mine
namespace Mine
open PySem L2
/-! ### how often a key comes -/
/-! ### chooses -/
end Mine
namespace Mine
open PySem L2
/-! ### rows of flats and chooses, and the promises -/
/-! ### what is shown -/
/-! ### what is asked -/
end Mine
namespace Mine
open PySem L2
theorem Two.at {α : Type} {R : V → α → Prop} : ∀ {vs : List V} {as : List α} {i : Nat} {v : V}, Two R vs as → vs[i]? = some v → ∃ a, as[i]? = some a ∧ R v a
  | [], [], _, _, _, h => by simp at h
  | v :: vs, a :: as, 0, w, ⟨h1, _⟩, h => by
    have e : v = w := by simpa using h
    subst e
    exact ⟨a, by simp, h1⟩
  | v :: vs, a :: as, i + 1, w, ⟨_, h2⟩, h => by
    obtain ⟨b, hb, r⟩ := Two.at (i := i) h2 (by simpa using h)
    exact ⟨b, by simpa using hb, r⟩
theorem set_map (g : Int → Int) (lo : Int) {m j : Nat} (hj : j < m) : (((rangeI lo m).map g).map V.int).set j (.int (g (lo + j) + 1)) = ((rangeI lo m).map fun y => if y = lo + j then g y + 1 else g y).map V.int := by
  apply List.ext_getElem?
  intro i
  rw [List.getElem?_set]
  by_cases hi : i < m
  · simp only [List.getElem?_map, rangeI_get hi, Option.map_some, List.length_map, rangeI_len]
    by_cases c : j = i
    · subst c
      simp [hj]
    · have : ¬ (lo + (i : Int) = lo + (j : Int)) := by omega
      simp [c, this]
  · have e0 : (rangeI lo m)[i]? = none := List.getElem?_eq_none (by rw [rangeI_len]; omega)
    have c : ¬ j = i := by omega
    rw [if_neg c]
    simp only [List.getElem?_map, e0, Option.map_none]
theorem low1_pos {S P : Int} (hS : 1 ≤ S) (hP : 1 ≤ P) : 1 ≤ low1 S P := by
  have r := low_ratio (a := S) (by (first | exact Int.le_trans (b := 1) (by decide +kernel) (by with_reducible assumption) | omega)) hP
  have n2 := low2_pos (a := S) hP
  have a := low1_nonneg (a := S) (b := P) (by (first | exact Int.le_trans (b := 1) (by decide +kernel) (by with_reducible assumption) | omega))
  by_cases z : low1 S P = 0
  · rw [z, Int.zero_mul] at r
    have := Int.mul_pos (show 0 < S by (first | exact Int.lt_of_lt_of_le (b := 1) (by decide +kernel) (by with_reducible assumption) | omega)) (show 0 < low2 S P by (first | exact Int.lt_of_lt_of_le (b := 1) (by decide +kernel) (by with_reducible assumption) | omega))
    omega
  · omega
end Mine
namespace Mine
open PySem L2
/-! ### the tails of a ladder are the sums of its shares -/
/-! ### who says yes at a mark -/
def lowP (c w : Int) : Int × Int := (low1 c w, low2 c w)
theorem lowP_eq {a b c d : Int} (ha : 0 ≤ a) (hb : 1 ≤ b) (hc : 0 ≤ c) (hd : 1 ≤ d) (h : a * d = c * b) : lowP a b = lowP c d := by
  have e := low_eq ha hb hc hd h
  unfold lowP
  rw [e.1, e.2]
theorem lowP_one {w : Int} (h : 1 ≤ w) : lowP w w = (1, 1) := by
  have e := lowP_eq (a := w) (b := w) (c := 1) (d := 1) (by (first | exact Int.le_trans (b := 1) (by decide +kernel) (by with_reducible assumption) | omega)) h (by decide) (by decide) (by omega)
  rw [e]
  decide
end Mine
namespace Mine
open PySem L2
/-! ### products and sums of fractions over a common bottom -/
/-! ### totals over a common bottom -/
end Mine
namespace Mine
open PySem L2
/-! ### the cells of a first -/
end Mine
namespace L2
open PySem PySem.Spec PyProof.Rows
/-! ### loops whose turns neither break nor return: the rest of the def is out of their sight -/
end L2
namespace L2
open PySem PySem.Spec PyProof.Rows
/-! ### numbers of many bits, by how many -/
def Bits (n : Nat) (i : Int) : Prop := i.natAbs < 2 ^ n
theorem Bits.mono {m n : Nat} {i : Int} (h : Bits m i) (le : m ≤ n) : Bits n i := Nat.lt_of_lt_of_le h (Nat.pow_le_pow_right (by decide) le)
theorem Bits.mul {m n : Nat} {i j : Int} (h : Bits m i) (k : Bits n j) : Bits (m + n) (i * j) := by
  unfold Bits at *
  rw [Int.natAbs_mul, Nat.pow_add]
  exact Nat.mul_lt_mul'' h k
theorem Bits.add {n : Nat} {i j : Int} (h : Bits n i) (k : Bits n j) : Bits (n + 1) (i + j) := by
  unfold Bits at *
  rw [Nat.pow_succ]
  have := Int.natAbs_add_le i j
  omega
theorem Bits.pow {n : Nat} {i : Int} (h : Bits n i) : ∀ k : Nat, Bits (n * k + 1) (i ^ k)
  | 0 => by unfold Bits; rw [Int.pow_zero, Nat.mul_zero]; decide
  | k + 1 => by
    rw [Int.pow_succ]
    exact ((Bits.pow h k).mul h).mono (by rw [Nat.mul_succ]; omega)
theorem Bits.of {n : Nat} {i : Int} (h0 : 0 ≤ i) (h1 : i < 2 ^ n) : Bits n i := by
  unfold Bits
  have e : ((i.natAbs : Nat) : Int) = i := Int.natAbs_of_nonneg h0
  have : ((i.natAbs : Nat) : Int) < ((2 ^ n : Nat) : Int) := by rw [e]; exact_mod_cast h1
  exact Int.ofNat_lt.mp this
def CMulX (i j : Int) : Prop := ∃ m n, Bits m i ∧ Bits n j ∧ m ≤ 100000 ∧ n ≤ 100000
theorem op_mulX {X : Cx} : OpR X (binaryOp .Mult) (rI CMulX fun i j => .int (i * j)) := opI fun _ _ _ _ _ _ _ hc q => by
  obtain ⟨m, n, a, b, hm, hn⟩ := hc
  exact mul_int q (IntMulOk.of_bits (Nat.le_trans (PyProof.Rows.intBits_le a) (Nat.le_trans hm (by decide))) (Nat.le_trans (PyProof.Rows.intBits_le b) (Nat.le_trans hn (by decide))))
def CDivX (i j : Int) : Prop := 0 < j ∧ ∃ n, Bits n j ∧ n ≤ 8990
theorem op_fdivX {X : Cx} : OpR X (binaryOp .FloorDiv) (rI CDivX fun i j => .int (i / j)) := opI fun i j _ _ _ _ _ hc q => by
  obtain ⟨h0, n, h1, hn⟩ := hc
  refine floordiv_int (by omega) ?_ (.inl (PyProof.noPylong_of_log2 ?_))
  · rw [Int.fdiv_eq_ediv_of_nonneg i (by omega)]; exact q
  · have h3 : j.natAbs ≠ 0 := by omega
    exact Nat.lt_of_lt_of_le ((Nat.log2_lt h3).mpr h1) (Nat.le_trans hn (by decide))
end L2
namespace L2
open PySem PySem.Spec PyProof.Rows
/-! ### dict(t), t a tuple of pairs -/
section
variable {prog : Program} {w : World} {A : Around} {E : Value → Shared → Prop} {s : Shared}
end
section
variable {X : Cx} {pins : List (Addr × Obj)} {σ : St} {H : Hp} {s : Shared} {a : Addr} {y v : V} {u r : Value} {A : Around} {E : Value → Shared → Prop}
theorem d_dictSet {H' : Hp} {Q : Unit → Shared → Prop} (hu : A.units < cLine) (I : Inv X pins σ H s) (g : DPut H a y v H') (ry : RelV y u) (rv : RelV v r) (h : ∀ s', Inv X pins σ H' s' → Heap.SameBut a s.heap s'.heap → Q () s') :
    wpAny (model X.prog X.w) A (dictSet a u r) Q E s := by
  rcases g with ⟨kvs, k, e, ey, l, eH⟩ | ⟨kvs, k, b, e, ey, eb, l, eH⟩
  · subst ey eH
    obtain ⟨z, hd, vs, rel, dd⟩ := dk_of I.hok e
    refine wpAny_dictSet_pairs (hsz := by rw [← rel.length]; exact z) (kV_is ry) dd fun h' dd' hs => h _ (d_write I (by rw [e]; exact True.intro) hs (let ⟨q, _, _, hq, _⟩ := dd'; ⟨q, hq⟩) (dk_new ?_ hd (rel.put k rv) dd')) hs
    have := length_putK kvs k v
    omega
  · subst ey eH
    cases (show u = Value.ref b from ry)
    obtain ⟨z, hd, xs, rel, dd⟩ := dt_of I.hok e
    have hl : (putK kvs k v).length ≤ sizeLine := by have := length_putK kvs k v; omega
    refine wpAny_dictSet_heap (hsz := by rw [← Paired.length rel]; exact z) (show (tupleKind (mixKind X.prog X.w)).room A from hu) (key_of I.hok eb) dd fun h' dd' hs => h _ ?_ hs
    obtain ⟨q, es, ep, hq, h2, h3, h4, _, h5⟩ := dd'
    refine d_write I (by rw [e]; exact True.intro) hs ⟨q, hq⟩ ⟨hl, hd, _, (rel.put k eb rv).keeps fun c ys ec => ?_, q, es, ep, hq, h2, h3, h4, h5⟩
    rw [upd_ne (ne_of ec e (fun z => nomatch z))]
    exact ec
end
end L2
namespace L2
open PySem PySem.Spec PyProof.Rows
theorem entry_dul : entryFor table "dict.update.loop" = some Builtin.«dict.update.loop» := entryFor_of_tree (by kernel_rfl)
/-- what each pair of the tuple does to the dict at d, o i being the dict when i of them are in it -/
def DChain (H : Hp) (d : Addr) (ys : List V) (o : Nat → HO) : Prop := ∀ i, i < ys.length → ∃ t k v, ys[i]? = some (.ref t) ∧ H t = some (.tup [k, v]) ∧ DPut (upd H d (o i)) d k v (upd H d (o (i + 1)))
section
variable {X : Cx} {pins : List (Addr × Obj)} {σ : St} {H : Hp} {s : Shared} {A : Around} {E : Value → Shared → Prop}
end
end L2
namespace L2
open PySem PySem.Spec PyProof.Rows PySem.W
/-! ### sorted of a list of tuples of ints: some order of the same ones -/
section
variable {n : Nat} (h0 : 0 < n)
include h0
end
end L2
namespace L2
open PySem PySem.Spec PyProof.Rows PySem.W HT
section
variable {prog : Program} {w : World} {A : Around} {E : Value → Shared → Prop} {s : Shared}
end
end L2
namespace L2
open PySem PySem.Spec PyProof.Rows PySem.W HT
section
variable {prog : Program} {w : World} {A : Around} {E : Value → Shared → Prop} {s : Shared}
end
/-! ### x in a list of plain data -/
end L2
namespace Mine
open PySem L2
/-! ### answers: a whole number, or a tuple of them; tables of answers -/
/-! dict(table) -/
end Mine
namespace Mine
open PySem L2
/-! ### what is above, by how much, and the greatest quotient -/
theorem lowP_ratio {a b : Int} (ha : 0 ≤ a) (hb : 1 ≤ b) : (lowP a b).1 * b = a * (lowP a b).2 := low_ratio ha hb
/-! the greatest quotient -/
/-! a table against itself -/
end Mine
namespace L2
open PySem PySem.Spec PyProof.Rows
/-! ### zip of two tuples of one length: its records stand at n .. n + 4 -/
section
variable {prog : Program} {w : World} {A : Around} {E : Value → Shared → Prop} {s : Shared}
end
section
variable {prog : Program} {w : World} {A : Around} {E : Value → Shared → Prop} {s : Shared}
end
/-! ### the walk over a zip of two tuples of one length -/
section
variable {g : TG} {tc : TT} {te : TE}
end
end L2
namespace L2
open PySem PySem.Spec PyProof.Rows
/-! ### t + u, u not empty -/
section
variable {X : Cx}
/-! ### repr of plain data, None too -/
end
end L2
namespace Mine
open PySem L2
end Mine
namespace Mine
open PySem L2
/-! answers as plain data -/
/-! answers told -/
theorem nodup_snoc {α : Type} {l : List α} {a : α} (nd : l.Nodup) (h : a ∉ l) : (l ++ [a]).Nodup := by
  rw [List.nodup_append]
  refine ⟨nd, by simp, fun x hx y hy z => ?_⟩
  have : y = a := by simpa using hy
  subst this
  exact h (z ▸ hx)
end Mine
namespace Mine
open PySem L2
/-! ### laying along paths, as lists and functions -/
section
variable {α : Type} [DecidableEq α]
abbrev Pl (α : Type) := Bool × α
structure Lay (α : Type) where
  o : α → Int
  p : α → Int
  l : α × α → Int
def partsOf (prs : List (α × α)) (x : α) : List α := (prs.filter fun e => decide (e.1 = x)).map (·.2)
def giveOf (prs : List (α × α)) (y : α) : List α := (prs.filter fun e => decide (e.2 = y)).map (·.1)
def nexts (prs : List (α × α)) (S : Lay α) : Pl α → List (Pl α)
  | (true, x) => (partsOf prs x).map fun y => (false, y)
  | (false, y) => ((giveOf prs y).filter fun x => decide (0 < S.l (x, y))).map fun x => (true, x)
def roomB (S : Lay α) : Pl α → Bool
  | (true, _) => false
  | (false, y) => decide (0 < S.p y)
abbrev Ah (α : Type) := List (Pl α × Option (Pl α))
def keysA (ah : Ah α) : List (Pl α) := ah.map (·.1)
def scan (S : Lay α) (cur : Pl α) : List (Pl α) → Ah α → Ah α × Option (Pl α)
  | [], ah => (ah, none)
  | z :: zs, ah => if z ∈ keysA ah then scan S cur zs ah else if roomB S z = true then (ah ++ [(z, some cur)], some z) else scan S cur zs (ah ++ [(z, some cur)])
def srch (prs : List (α × α)) (S : Lay α) : Nat → Nat → Ah α → Ah α × Option (Pl α)
  | 0, _, ah => (ah, none)
  | f + 1, d, ah => match (keysA ah)[d]? with
    | none => (ah, none)
    | some cur => match scan S cur (nexts prs S cur) ah with
      | (ah', some z) => (ah', some z)
      | (ah', none) => srch prs S f (d + 1) ah'
def ah0 (ks : List α) (S : Lay α) : Ah α := (ks.filter fun x => decide (0 < S.o x)).map fun x => ((true, x), none)
/-- what stands behind a place -/
def lookA (ah : Ah α) (z : Pl α) : Option (Option (Pl α)) := (ah.find? fun e => decide (e.1 = z)).map (·.2)
def backP (ah : Ah α) : Nat → Pl α → List (Pl α)
  | 0, _ => []
  | f + 1, z => z :: match lookA ah z with
    | some (some c) => backP ah f c
    | _ => []
/-- ahead's own order: a place's forerunner stands before it, and leads to it -/
inductive Wf (prs : List (α × α)) (S : Lay α) (ks : List α) : Ah α → Prop where
  | nil : Wf prs S ks []
  | root {ah : Ah α} {x : α} : Wf prs S ks ah → (true, x) ∉ keysA ah → x ∈ ks → 0 < S.o x → Wf prs S ks (ah ++ [((true, x), none)])
  | step {ah : Ah α} {z c : Pl α} : Wf prs S ks ah → z ∉ keysA ah → c ∈ keysA ah → z ∈ nexts prs S c → Wf prs S ks (ah ++ [(z, some c)])
theorem keysA_snoc (ah : Ah α) (e : Pl α × Option (Pl α)) : keysA (ah ++ [e]) = keysA ah ++ [e.1] := by unfold keysA; rw [List.map_append]; rfl
theorem lookA_old {ah : Ah α} {e : Pl α × Option (Pl α)} {z : Pl α} (h : z ∈ keysA ah) : lookA (ah ++ [e]) z = lookA ah z := by
  unfold lookA
  rw [List.find?_append]
  obtain ⟨x, hx, ex⟩ := List.mem_map.mp h
  cases q : ah.find? fun e => decide (e.1 = z) with
  | none => exact absurd (decide_eq_true ex) (List.find?_eq_none.mp q x hx)
  | some y => rfl
theorem lookA_new {ah : Ah α} {e : Pl α × Option (Pl α)} (h : e.1 ∉ keysA ah) : lookA (ah ++ [e]) e.1 = some e.2 := by
  unfold lookA
  rw [List.find?_append]
  have : (ah.find? fun x => decide (x.1 = e.1)) = none := List.find?_eq_none.mpr fun x hx z => h (List.mem_map.mpr ⟨x, hx, of_decide_eq_true z⟩)
  rw [this]
  simp
theorem Wf.nodup {prs : List (α × α)} {S : Lay α} {ks : List α} {ah : Ah α} (w : Wf prs S ks ah) : (keysA ah).Nodup := by
  induction w with
  | nil => exact List.nodup_nil
  | root _ h _ _ ih => rw [keysA_snoc]; exact nodup_snoc ih h
  | step _ h _ _ ih => rw [keysA_snoc]; exact nodup_snoc ih h
/-- the way back from a place: each leads to the one before, the last has something left -/
inductive Path (prs : List (α × α)) (S : Lay α) (ks : List α) : List (Pl α) → Prop where
  | root {x : α} : x ∈ ks → 0 < S.o x → Path prs S ks [(true, x)]
  | step {z c : Pl α} {r : List (Pl α)} : Path prs S ks (c :: r) → z ∈ nexts prs S c → z ∉ c :: r → Path prs S ks (z :: c :: r)
inductive Tr (ah : Ah α) : List (Pl α) → Prop where
  | last {z : Pl α} : lookA ah z = some none → Tr ah [z]
  | cons {z c : Pl α} {r : List (Pl α)} : lookA ah z = some (some c) → Tr ah (c :: r) → Tr ah (z :: c :: r)
theorem lookA_key {ah : Ah α} {z : Pl α} {o : Option (Pl α)} (h : lookA ah z = some o) : z ∈ keysA ah := by
  unfold lookA at h
  obtain ⟨e, h1, _⟩ := Option.map_eq_some_iff.mp h
  exact List.mem_map.mpr ⟨e, List.mem_of_find?_eq_some h1, by have q := List.find?_some h1; exact of_decide_eq_true q⟩
theorem Tr.keys {ah : Ah α} {zs : List (Pl α)} (t : Tr ah zs) : ∀ c ∈ zs, c ∈ keysA ah := by
  induction t with
  | last h => intro c hc; rw [List.mem_singleton.mp hc]; exact lookA_key h
  | cons h _ ih =>
    intro c hc
    rcases List.mem_cons.mp hc with e | e
    · rw [e]; exact lookA_key h
    · exact ih c e
theorem Tr.more {ah : Ah α} {zs : List (Pl α)} (e : Pl α × Option (Pl α)) (t : Tr ah zs) : Tr (ah ++ [e]) zs := by
  induction t with
  | last h => exact .last (by rw [lookA_old (lookA_key h)]; exact h)
  | cons h _ ih => exact .cons (by rw [lookA_old (lookA_key h)]; exact h) ih
theorem Tr.back {ah : Ah α} {z : Pl α} {r : List (Pl α)} (t : Tr ah (z :: r)) : ∀ f, r.length < f → backP ah f z = z :: r := by
  generalize hz : z :: r = zs at t
  induction t generalizing z r with
  | last h =>
    intro f hf
    cases hz
    cases f with
    | zero => omega
    | succ f => simp only [backP, h]
  | cons h _ ih =>
    intro f hf
    cases hz
    cases f with
    | zero => omega
    | succ f =>
      simp only [backP, h]
      rw [ih rfl f (by simpa using hf)]
theorem Path.nodup {prs : List (α × α)} {S : Lay α} {ks : List α} {zs : List (Pl α)} (p : Path prs S ks zs) : zs.Nodup := by
  induction p with
  | root => simp
  | step _ _ h ih => exact List.nodup_cons.mpr ⟨h, ih⟩
theorem Wf.path {prs : List (α × α)} {S : Lay α} {ks : List α} {ah : Ah α} (w : Wf prs S ks ah) : ∀ z ∈ keysA ah, ∃ r, Path prs S ks (z :: r) ∧ Tr ah (z :: r) := by
  induction w with
  | nil => intro z hz; exact absurd hz List.not_mem_nil
  | @root ah x _ h hk ho ih =>
    intro z hz
    rw [keysA_snoc] at hz
    rcases List.mem_append.mp hz with q | q
    · obtain ⟨r, p, t⟩ := ih z q
      exact ⟨r, p, t.more _⟩
    · rw [List.mem_singleton.mp q]
      exact ⟨[], .root hk ho, .last (lookA_new h)⟩
  | @step ah w c _ h hc hn ih =>
    intro z hz
    rw [keysA_snoc] at hz
    rcases List.mem_append.mp hz with q | q
    · obtain ⟨r, p, t⟩ := ih z q
      exact ⟨r, p, t.more _⟩
    · rw [List.mem_singleton.mp q]
      obtain ⟨r, p, t⟩ := ih c hc
      exact ⟨c :: r, .step p hn fun z => h (t.keys _ z), .cons (lookA_new h) (t.more _)⟩
/-! the search -/
theorem scan_ok {prs : List (α × α)} {S : Lay α} {ks : List α} {cur : Pl α} : ∀ (zs : List (Pl α)) (ah : Ah α), Wf prs S ks ah → cur ∈ keysA ah → (∀ z ∈ zs, z ∈ nexts prs S cur) →
    Wf prs S ks (scan S cur zs ah).1 ∧ (∃ more, (scan S cur zs ah).1 = ah ++ more) ∧
    (∀ z, (scan S cur zs ah).2 = some z → z ∈ keysA (scan S cur zs ah).1 ∧ roomB S z = true) ∧
    ((scan S cur zs ah).2 = none → (∀ z ∈ zs, z ∈ keysA (scan S cur zs ah).1) ∧ ∀ z ∈ keysA (scan S cur zs ah).1, z ∈ keysA ah ∨ roomB S z = false)
  | [], ah, w, _, _ => ⟨w, ⟨[], by simp [scan]⟩, fun z h => (by cases h), fun _ => ⟨fun z h => absurd h List.not_mem_nil, fun z h => .inl h⟩⟩
  | z :: zs, ah, w, hc, hn => by
    have hz := hn z List.mem_cons_self
    have hn' : ∀ y ∈ zs, y ∈ nexts prs S cur := fun y hy => hn y (List.mem_cons_of_mem _ hy)
    unfold scan
    by_cases c : z ∈ keysA ah
    · rw [if_pos c]
      obtain ⟨i1, ⟨m, i2⟩, i3, i4⟩ := scan_ok zs ah w hc hn'
      refine ⟨i1, ⟨m, i2⟩, i3, fun q => ⟨fun y hy => ?_, (i4 q).2⟩⟩
      rcases List.mem_cons.mp hy with e | e
      · rw [e, i2]; unfold keysA; rw [List.map_append]; exact List.mem_append_left _ c
      · exact (i4 q).1 y e
    · rw [if_neg c]
      have w' : Wf prs S ks (ah ++ [(z, some cur)]) := .step w c hc hz
      by_cases d : roomB S z = true
      · rw [if_pos d]
        refine ⟨w', ⟨_, rfl⟩, fun y e => ?_, fun e => by cases e⟩
        cases e
        rw [keysA_snoc]
        exact ⟨List.mem_append_right _ (List.mem_singleton.mpr rfl), d⟩
      · rw [if_neg d]
        obtain ⟨i1, ⟨m, i2⟩, i3, i4⟩ := scan_ok zs (ah ++ [(z, some cur)]) w' (by rw [keysA_snoc]; exact List.mem_append_left _ hc) hn'
        refine ⟨i1, ⟨(z, some cur) :: m, by rw [i2, List.append_assoc]; rfl⟩, i3, fun q => ⟨fun y hy => ?_, fun y hy => ?_⟩⟩
        · rcases List.mem_cons.mp hy with e | e
          · rw [e, i2]
            unfold keysA
            rw [List.map_append, List.map_append]
            exact List.mem_append_left _ (List.mem_append_right _ (List.mem_singleton.mpr rfl))
          · exact (i4 q).1 y e
        · rcases (i4 q).2 y hy with e | e
          · rw [keysA_snoc] at e
            rcases List.mem_append.mp e with e | e
            · exact .inl e
            · rw [List.mem_singleton.mp e]; exact .inr (Bool.eq_false_iff.mpr d)
          · exact .inr e
/-- all places that can ever be reached -/
def allP (ks qs : List α) : List (Pl α) := ks.map (fun x => (true, x)) ++ qs.map fun y => (false, y)
theorem Wf.sub {prs : List (α × α)} {S : Lay α} {ks qs : List α} (hp : ∀ e ∈ prs, e.1 ∈ ks ∧ e.2 ∈ qs) {ah : Ah α} (w : Wf prs S ks ah) : ∀ z ∈ keysA ah, z ∈ allP ks qs := by
  have nx : ∀ c z, z ∈ nexts prs S c → z ∈ allP ks qs := fun c z hz => by
    obtain ⟨b, a⟩ := c
    unfold allP
    cases b
    · obtain ⟨x, hx, rfl⟩ := List.mem_map.mp hz
      obtain ⟨e, he, rfl⟩ := List.mem_map.mp (List.mem_filter.mp hx).1
      exact List.mem_append_left _ (List.mem_map.mpr ⟨e.1, (hp e (List.mem_filter.mp he).1).1, rfl⟩)
    · obtain ⟨y, hy, rfl⟩ := List.mem_map.mp hz
      obtain ⟨e, he, rfl⟩ := List.mem_map.mp hy
      exact List.mem_append_right _ (List.mem_map.mpr ⟨e.2, (hp e (List.mem_filter.mp he).1).2, rfl⟩)
  induction w with
  | nil => intro z hz; exact absurd hz List.not_mem_nil
  | @root ah x _ h hk ho ih =>
    intro z hz
    rw [keysA_snoc] at hz
    rcases List.mem_append.mp hz with q | q
    · exact ih z q
    · rw [List.mem_singleton.mp q]
      exact List.mem_append_left _ (List.mem_map.mpr ⟨x, hk, rfl⟩)
  | @step ah w c _ h hc hn ih =>
    intro z hz
    rw [keysA_snoc] at hz
    rcases List.mem_append.mp hz with q | q
    · exact ih z q
    · rw [List.mem_singleton.mp q]; exact nx c w hn
theorem nodup_le {β : Type} [DecidableEq β] : ∀ {l m : List β}, l.Nodup → (∀ x ∈ l, x ∈ m) → l.length ≤ m.length
  | [], m, _, _ => Nat.zero_le _
  | x :: r, m, nd, hs => by
    have hx := hs x List.mem_cons_self
    have nd := List.nodup_cons.mp nd
    have ih := nodup_le (m := m.erase x) nd.2 fun y hy => (List.mem_erase_of_ne fun e => nd.1 (by rw [← e]; exact hy)).mpr (hs y (List.mem_cons_of_mem _ hy))
    rw [List.length_erase_of_mem hx] at ih
    have := List.length_pos_of_mem hx
    rw [List.length_cons]; omega
theorem srch_ok {prs : List (α × α)} {S : Lay α} {ks qs : List α} (hp : ∀ e ∈ prs, e.1 ∈ ks ∧ e.2 ∈ qs) : ∀ (f d : Nat) (ah : Ah α), Wf prs S ks ah → (allP ks qs).length < f + d → (∀ i c, i < d → (keysA ah)[i]? = some c → ∀ z ∈ nexts prs S c, z ∈ keysA ah) → (∀ z ∈ keysA ah, roomB S z = false) →
    Wf prs S ks (srch prs S f d ah).1 ∧ (∃ more, (srch prs S f d ah).1 = ah ++ more) ∧
    (∀ z, (srch prs S f d ah).2 = some z → z ∈ keysA (srch prs S f d ah).1 ∧ roomB S z = true) ∧
    ((srch prs S f d ah).2 = none → (∀ c ∈ keysA (srch prs S f d ah).1, ∀ z ∈ nexts prs S c, z ∈ keysA (srch prs S f d ah).1) ∧ ∀ z ∈ keysA (srch prs S f d ah).1, roomB S z = false)
  | 0, d, ah, w, hf, hd, hr => by
    have l := nodup_le w.nodup (w.sub hp)
    have e0 : srch prs S 0 d ah = (ah, none) := rfl
    rw [e0]
    dsimp only
    refine ⟨w, ⟨[], by simp⟩, fun z e => (by cases e), fun _ => ⟨fun c hc => ?_, hr⟩⟩
    obtain ⟨i, hi, e⟩ := List.mem_iff_getElem.mp hc
    exact hd i c (by omega) (by rw [List.getElem?_eq_getElem hi, e])
  | f + 1, d, ah, w, hf, hd, hr => by
    cases q : (keysA ah)[d]? with
    | none =>
      have e0 : srch prs S (f + 1) d ah = (ah, none) := by simp only [srch, q]
      rw [e0]
      dsimp only
      have l : (keysA ah).length ≤ d := List.getElem?_eq_none_iff.mp q
      refine ⟨w, ⟨[], by simp⟩, fun z e => (by cases e), fun _ => ⟨fun c hc => ?_, hr⟩⟩
      obtain ⟨i, hi, e⟩ := List.mem_iff_getElem.mp hc
      exact hd i c (by omega) (by rw [List.getElem?_eq_getElem hi, e])
    | some cur =>
      have mc := List.mem_of_getElem? q
      obtain ⟨i1, ⟨m, i2⟩, i3, i4⟩ := scan_ok (nexts prs S cur) ah w mc fun z hz => hz
      cases r : scan S cur (nexts prs S cur) ah with
      | mk ah' o =>
        rw [r] at i1 i2 i3 i4
        dsimp only at i1 i2 i3 i4
        cases o with
        | some z =>
          have e0 : srch prs S (f + 1) d ah = (ah', some z) := by simp only [srch, q, r]
          rw [e0]
          exact ⟨i1, ⟨m, i2⟩, i3, fun e => by cases e⟩
        | none =>
          obtain ⟨j1, j2⟩ := i4 rfl
          have e0 : srch prs S (f + 1) d ah = srch prs S f (d + 1) ah' := by simp only [srch, q, r]
          rw [e0]
          have ke : keysA ah' = keysA ah ++ keysA m := by rw [i2]; unfold keysA; rw [List.map_append]
          have ind := srch_ok hp f (d + 1) ah' i1 (by omega) (fun i c hi hc z hz => ?_) fun z hz => ?_
          · obtain ⟨k1, ⟨m', k2⟩, k3, k4⟩ := ind
            exact ⟨k1, ⟨m ++ m', by rw [k2, i2, List.append_assoc]⟩, k3, k4⟩
          · by_cases e : i = d
            · subst e
              rw [ke, List.getElem?_append_left (List.getElem?_eq_some_iff.mp q).1, q] at hc
              cases hc
              exact j1 z hz
            · have li := (List.getElem?_eq_some_iff.mp q).1
              rw [ke, List.getElem?_append_left (by omega)] at hc
              rw [ke]
              exact List.mem_append_left _ (hd i c (by omega) hc z hz)
          · rcases j2 z hz with e | e
            · exact hr z e
            · exact e
theorem ah0_ok {prs : List (α × α)} {S : Lay α} {ks : List α} (nd : ks.Nodup) : Wf prs S ks (ah0 ks S) ∧ keysA (ah0 ks S) = (ks.filter fun x => decide (0 < S.o x)).map fun x => (true, x) := by
  refine ⟨?_, by unfold ah0 keysA; rw [List.map_map]; rfl⟩
  unfold ah0
  have key : ∀ l : List α, l.Nodup → (∀ x ∈ l, x ∈ ks ∧ 0 < S.o x) → ∀ r : List α, (∀ x ∈ l, x ∉ r) → Wf prs S ks (r.map fun x => ((true, x), (none : Option (Pl α)))) → Wf prs S ks ((r ++ l).map fun x => ((true, x), none)) := by
    intro l
    induction l with
    | nil => intro _ _ r _ w; simpa using w
    | cons x l ih =>
      intro nd hk r hr w
      have nd := List.nodup_cons.mp nd
      have := ih nd.2 (fun y hy => hk y (List.mem_cons_of_mem _ hy)) (r ++ [x]) (fun y hy => ?_) ?_
      · simpa using this
      · rw [List.mem_append, not_or]
        refine ⟨hr y (List.mem_cons_of_mem _ hy), fun z => nd.1 (by rw [← List.mem_singleton.mp z]; exact hy)⟩
      · rw [List.map_append]
        refine .root w (fun z => ?_) (hk x List.mem_cons_self).1 (hk x List.mem_cons_self).2
        unfold keysA at z
        rw [List.map_map] at z
        obtain ⟨y, hy, e⟩ := List.mem_map.mp z
        cases e
        exact hr x List.mem_cons_self hy
  have := key (ks.filter fun x => decide (0 < S.o x)) (nd.sublist List.filter_sublist) (fun x hx => ⟨(List.mem_filter.mp hx).1, of_decide_eq_true (List.mem_filter.mp hx).2⟩) [] (fun _ _ => List.not_mem_nil) .nil
  simpa using this
end
end Mine
namespace Mine
open PySem L2
section
variable {α : Type} [DecidableEq α]
/-! ### laying along a way -/
def thereL : List α → List (α × α)
  | y :: x :: r => (x, y) :: thereL r
  | _ => []
def backL : List α → List (α × α)
  | _ :: x :: y :: r => (x, y) :: backL (y :: r)
  | _ => []
/-- what the way adds at each pair; true: the list begins at a giver -/
def dl : Bool → List α → α × α → Int
  | false, y :: x :: r, p => (if p = (x, y) then 1 else 0) + dl true (x :: r) p
  | true, x :: y :: r, p => -(if p = (x, y) then 1 else 0) + dl false (y :: r) p
  | _, _, _ => 0
def rowS (prs : List (α × α)) (l : α × α → Int) (x : α) : Int := ((prs.filter fun e => decide (e.1 = x)).map l).sum
def colS (prs : List (α × α)) (l : α × α → Int) (y : α) : Int := ((prs.filter fun e => decide (e.2 = y)).map l).sum
theorem sum_add {β : Type} (f g : β → Int) : ∀ l : List β, (l.map fun x => f x + g x).sum = (l.map f).sum + (l.map g).sum
  | [] => rfl
  | x :: r => by rw [List.map_cons, List.sum_cons, sum_add f g r, List.map_cons, List.sum_cons, List.map_cons, List.sum_cons]; omega
theorem sum_mul {β : Type} (a : Int) (f : β → Int) : ∀ l : List β, (l.map fun x => a * f x).sum = a * (l.map f).sum
  | [] => by simp
  | x :: r => by rw [List.map_cons, List.sum_cons, sum_mul a f r, List.map_cons, List.sum_cons, Int.mul_add]
theorem sum_zero {β : Type} {f : β → Int} : ∀ {l : List β}, (∀ x ∈ l, f x = 0) → (l.map f).sum = 0
  | [], _ => rfl
  | x :: r, h => by rw [List.map_cons, List.sum_cons, h x List.mem_cons_self, sum_zero fun y hy => h y (List.mem_cons_of_mem _ hy)]; rfl
theorem sum_one {β : Type} [DecidableEq β] {p : β} : ∀ {l : List β}, l.Nodup → p ∈ l → (l.map fun x => if x = p then (1 : Int) else 0).sum = 1
  | x :: r, nd, h => by
    obtain ⟨n1, n2⟩ := List.nodup_cons.mp nd
    rw [List.map_cons, List.sum_cons]
    by_cases c : x = p
    · rw [if_pos c, sum_zero fun y hy => if_neg fun e => n1 (by rw [c, ← e]; exact hy)]
      rfl
    · have hr : p ∈ r := by
        rcases List.mem_cons.mp h with e | e
        · exact absurd e.symm c
        · exact e
      rw [if_neg c, sum_one n2 hr]
      rfl
theorem ind_sum {prs : List (α × α)} (nd : prs.Nodup) {x y : α} (h : (x, y) ∈ prs) (q : α × α → Bool) : ((prs.filter q).map fun p => if p = (x, y) then (1 : Int) else 0).sum = if q (x, y) = true then 1 else 0 := by
  by_cases c : q (x, y) = true
  · rw [if_pos c]
    exact sum_one (nd.sublist List.filter_sublist) (List.mem_filter.mpr ⟨h, c⟩)
  · rw [if_neg c]
    exact sum_zero fun p hp => if_neg fun e => c (by rw [← e]; exact (List.mem_filter.mp hp).2)
theorem rowS_add (prs : List (α × α)) (f g : α × α → Int) (x : α) : rowS prs (fun p => f p + g p) x = rowS prs f x + rowS prs g x := sum_add f g _
theorem colS_add (prs : List (α × α)) (f g : α × α → Int) (x : α) : colS prs (fun p => f p + g p) x = colS prs f x + colS prs g x := sum_add f g _
theorem nexts_one {prs : List (α × α)} {S : Lay α} {x y : α} (h : (false, y) ∈ nexts prs S (true, x)) : (x, y) ∈ prs := by
  obtain ⟨z, hz, e⟩ := List.mem_map.mp h
  cases e
  obtain ⟨e, he, rfl⟩ := List.mem_map.mp hz
  obtain ⟨h1, h2⟩ := List.mem_filter.mp he
  have : e.1 = x := of_decide_eq_true h2
  rw [← this]
  exact h1
theorem nexts_oth {prs : List (α × α)} {S : Lay α} {x y : α} (h : (true, x) ∈ nexts prs S (false, y)) : (x, y) ∈ prs ∧ 0 < S.l (x, y) := by
  obtain ⟨z, hz, e⟩ := List.mem_map.mp h
  cases e
  obtain ⟨h1, h2⟩ := List.mem_filter.mp hz
  obtain ⟨e, he, rfl⟩ := List.mem_map.mp h1
  obtain ⟨h3, h4⟩ := List.mem_filter.mp he
  have : e.2 = y := of_decide_eq_true h4
  refine ⟨by rw [← this]; exact h3, of_decide_eq_true h2⟩
theorem nexts_side {prs : List (α × α)} {S : Lay α} {z c : Pl α} (h : z ∈ nexts prs S c) : z.1 = !c.1 := by
  obtain ⟨b, a⟩ := c
  cases b
  · obtain ⟨x, _, rfl⟩ := List.mem_map.mp h; rfl
  · obtain ⟨x, _, rfl⟩ := List.mem_map.mp h; rfl
theorem two_cases {b : Bool} {a c : α} {r : List α} : dl b (a :: c :: r) = fun p => match b with
    | false => (if p = (c, a) then 1 else 0) + dl true (c :: r) p
    | true => -(if p = (a, c) then 1 else 0) + dl false (c :: r) p := by
  cases b <;> rfl
/-- the rows' and the columns' sums of what a way adds -/
theorem Path.sums {prs : List (α × α)} {S : Lay α} {ks : List α} (nd : prs.Nodup) {zs : List (Pl α)} (p : Path prs S ks zs) : ∃ z r w, zs = z :: r ∧ (zs.map (·.2)).getLast? = some w ∧ w ∈ ks ∧ 0 < S.o w ∧
    (∀ u, rowS prs (dl z.1 (zs.map (·.2))) u = (if u = w then 1 else 0) - (if z.1 = true ∧ u = z.2 then 1 else 0)) ∧ (∀ v, colS prs (dl z.1 (zs.map (·.2))) v = if z.1 = false ∧ v = z.2 then 1 else 0) := by
  induction p with
  | @root x hx ho =>
    refine ⟨(true, x), [], x, rfl, rfl, hx, ho, fun u => ?_, fun v => ?_⟩
    · have : rowS prs (dl true [x]) u = 0 := sum_zero fun _ _ => rfl
      rw [show (([(true, x)] : List (Pl α)).map (·.2)) = [x] from rfl, this]
      by_cases c : u = x
      · simp [c]
      · simp [c]
    · have : colS prs (dl true [x]) v = 0 := sum_zero fun _ _ => rfl
      rw [show (([(true, x)] : List (Pl α)).map (·.2)) = [x] from rfl, this]
      simp
  | @step z c r _ hn hz ih =>
    obtain ⟨z', r', w, e, e1, e2, e3, ir, ic⟩ := ih
    cases e
    have sd := nexts_side hn
    refine ⟨z, c :: r, w, rfl, ?_, e2, e3, ?_⟩
    · rw [List.map_cons, List.map_cons, List.getLast?_cons_cons]
      exact e1
    obtain ⟨bc, ac⟩ := c
    obtain ⟨bz, az⟩ := z
    have sd : bz = !bc := sd
    subst sd
    cases bc
    · obtain ⟨h1, _⟩ := nexts_oth hn
      have es : ((((true, az) : Pl α) :: (false, ac) :: r).map (·.2)) = az :: ac :: r.map (·.2) := rfl
      refine ⟨fun u => ?_, fun v => ?_⟩
      · have := ir u
        show rowS prs (dl true (((true, az) :: (false, ac) :: r).map (·.2))) u = _
        rw [es, two_cases, rowS_add]
        have e4 : rowS prs (fun p => -(if p = (az, ac) then (1 : Int) else 0)) u = -(if u = az then 1 else 0) := by
          have := ind_sum nd h1 fun e => decide (e.1 = u)
          have m := sum_mul (-1) (fun p : α × α => if p = (az, ac) then (1 : Int) else 0) (prs.filter fun e => decide (e.1 = u))
          unfold rowS
          rw [show (fun p : α × α => -(if p = (az, ac) then (1 : Int) else 0)) = fun p => -1 * (if p = (az, ac) then (1 : Int) else 0) from funext fun p => by rw [Int.neg_one_mul], m, this]
          by_cases c : u = az
          · simp [c]
          · simp [c, Ne.symm c, eq_comm]
        rw [e4]
        have : rowS prs (dl false (ac :: r.map (·.2))) u = _ := this
        rw [this]
        by_cases c : u = az
        · simp [c]; omega
        · simp [c]
      · have := ic v
        show colS prs (dl true (((true, az) :: (false, ac) :: r).map (·.2))) v = _
        rw [es, two_cases, colS_add]
        have e4 : colS prs (fun p => -(if p = (az, ac) then (1 : Int) else 0)) v = -(if v = ac then 1 else 0) := by
          have := ind_sum nd h1 fun e => decide (e.2 = v)
          have m := sum_mul (-1) (fun p : α × α => if p = (az, ac) then (1 : Int) else 0) (prs.filter fun e => decide (e.2 = v))
          unfold colS
          rw [show (fun p : α × α => -(if p = (az, ac) then (1 : Int) else 0)) = fun p => -1 * (if p = (az, ac) then (1 : Int) else 0) from funext fun p => by rw [Int.neg_one_mul], m, this]
          by_cases c : v = ac
          · simp [c]
          · simp [c, Ne.symm c, eq_comm]
        rw [e4]
        have : colS prs (dl false (ac :: r.map (·.2))) v = _ := this
        rw [this]
        by_cases c : v = ac
        · simp [c]
        · simp [c]
    · have h1 := nexts_one hn
      have es : ((((false, az) : Pl α) :: (true, ac) :: r).map (·.2)) = az :: ac :: r.map (·.2) := rfl
      refine ⟨fun u => ?_, fun v => ?_⟩
      · have := ir u
        show rowS prs (dl false (((false, az) :: (true, ac) :: r).map (·.2))) u = _
        rw [es, two_cases, rowS_add]
        have e4 : rowS prs (fun p => if p = (ac, az) then (1 : Int) else 0) u = if u = ac then 1 else 0 := by
          have := ind_sum nd h1 fun e => decide (e.1 = u)
          unfold rowS
          rw [this]
          by_cases c : u = ac
          · simp [c]
          · simp [c]; exact fun z => c z.symm
        rw [e4]
        have : rowS prs (dl true (ac :: r.map (·.2))) u = _ := this
        rw [this]
        by_cases c : u = ac
        · simp [c]; omega
        · simp [c]
      · have := ic v
        show colS prs (dl false (((false, az) :: (true, ac) :: r).map (·.2))) v = _
        rw [es, two_cases, colS_add]
        have e4 : colS prs (fun p => if p = (ac, az) then (1 : Int) else 0) v = if v = az then 1 else 0 := by
          have := ind_sum nd h1 fun e => decide (e.2 = v)
          unfold colS
          rw [this]
          by_cases c : v = az
          · simp [c]
          · simp [c]; exact fun z => c z.symm
        rw [e4]
        have : colS prs (dl true (ac :: r.map (·.2))) v = _ := this
        rw [this]
        by_cases c : v = az
        · simp [c]
        · simp [c]
end
end Mine
namespace Mine
open PySem L2
section
variable {α : Type} [DecidableEq α]
theorem cnt_cons (e p : α × α) (l : List (α × α)) : ((List.count e (p :: l) : Nat) : Int) = (if e = p then 1 else 0) + ((List.count e l : Nat) : Int) := by
  by_cases c : e = p
  · subst c
    rw [List.count_cons_self, if_pos rfl]
    omega
  · rw [List.count_cons_of_ne (Ne.symm c), if_neg c, Int.zero_add]
theorem dl_count : ∀ (as : List α) (e : α × α), dl false as e = ((thereL as).count e : Int) - ((backL as).count e : Int)
  | [], e => rfl
  | [_], e => rfl
  | [y, x], e => by
    show (if e = (x, y) then (1 : Int) else 0) + 0 = (((List.count e ((x, y) :: ([] : List (α × α)))) : Nat) : Int) - 0
    rw [cnt_cons]
    simp
  | y :: x :: y' :: r, e => by
    have ih := dl_count (y' :: r) e
    show (if e = (x, y) then (1 : Int) else 0) + (-(if e = (x, y') then 1 else 0) + dl false (y' :: r) e) = (((List.count e ((x, y) :: thereL (y' :: r))) : Nat) : Int) - (((List.count e ((x, y') :: backL (y' :: r))) : Nat) : Int)
    rw [ih, cnt_cons, cnt_cons]
    omega
def alt : Bool → List (Pl α) → Prop
  | _, [] => True
  | b, z :: r => z.1 = b ∧ alt (!b) r
theorem Path.alt {prs : List (α × α)} {S : Lay α} {ks : List α} {zs : List (Pl α)} (p : Path prs S ks zs) : ∀ z r, zs = z :: r → Mine.alt z.1 zs := by
  induction p with
  | root => intro z r e; cases e; exact ⟨rfl, trivial⟩
  | @step z c r _ hn _ ih =>
    intro z' r' e
    cases e
    have := ih c r rfl
    have sd := nexts_side hn
    refine ⟨rfl, ?_⟩
    rw [sd, Bool.not_not]
    exact this
theorem back_mem : ∀ {zs : List (Pl α)}, alt false zs → ∀ e ∈ backL (zs.map (·.2)), (true, e.1) ∈ zs
  | [], _, e, h => by simp [backL] at h
  | [_], _, e, h => by simp [backL] at h
  | [_, _], _, e, h => by simp [backL] at h
  | z0 :: z1 :: z2 :: r, ⟨_, a1, a2, a3⟩, e, h => by
    have h : e ∈ (z1.2, z2.2) :: backL ((z2 :: r).map (·.2)) := h
    rcases List.mem_cons.mp h with q | q
    · have : (true, e.1) = z1 := by
        rw [q]
        exact Prod.ext a1.symm rfl
      rw [this]
      exact List.mem_cons_of_mem _ List.mem_cons_self
    · exact List.mem_cons_of_mem _ (List.mem_cons_of_mem _ (back_mem (zs := z2 :: r) ⟨a2, a3⟩ e q))
theorem back_nodup : ∀ {zs : List (Pl α)}, alt false zs → zs.Nodup → (backL (zs.map (·.2))).Nodup
  | [], _, _ => List.nodup_nil
  | [_], _, _ => List.nodup_nil
  | [_, _], _, _ => List.nodup_nil
  | z0 :: z1 :: z2 :: r, ⟨_, a1, a2, a3⟩, nd => by
    have nd2 := (List.nodup_cons.mp (List.nodup_cons.mp nd).2)
    refine List.nodup_cons.mpr ⟨fun h => nd2.1 ?_, back_nodup (zs := z2 :: r) ⟨a2, a3⟩ nd2.2⟩
    have := back_mem (zs := z2 :: r) ⟨a2, a3⟩ _ h
    have e : z1 = (true, z1.2) := Prod.ext a1 rfl
    rw [e]
    exact this
theorem Path.prs {prs : List (α × α)} {S : Lay α} {ks : List α} {zs : List (Pl α)} (p : Path prs S ks zs) : ∀ z r, zs = z :: r →
    (z.1 = false → (∀ e ∈ thereL (zs.map (·.2)), e ∈ prs) ∧ ∀ e ∈ backL (zs.map (·.2)), e ∈ prs ∧ 0 < S.l e) ∧
    (z.1 = true → (∀ e ∈ thereL (r.map (·.2)), e ∈ prs) ∧ ∀ e ∈ backL (z.2 :: zs.map (·.2)), e ∈ prs ∧ 0 < S.l e) := by
  induction p with
  | @root x _ _ =>
    intro z r e
    cases e
    exact ⟨fun h => (by cases h), fun _ => ⟨fun e h => by simp [thereL] at h, fun e h => by simp [backL] at h⟩⟩
  | @step z c r _ hn _ ih =>
    intro z' r' e
    cases e
    obtain ⟨i1, i2⟩ := ih c r rfl
    obtain ⟨bc, ac⟩ := c
    obtain ⟨bz, az⟩ := z
    have sd : bz = !bc := nexts_side hn
    subst sd
    cases bc
    · obtain ⟨j1, j2⟩ := i1 rfl
      obtain ⟨h1, h2⟩ := nexts_oth hn
      refine ⟨fun h => (by cases h), fun _ => ⟨j1, fun e he => ?_⟩⟩
      have he : e ∈ (az, ac) :: backL (ac :: r.map (·.2)) := he
      rcases List.mem_cons.mp he with q | q
      · rw [q]; exact ⟨h1, h2⟩
      · exact j2 e q
    · obtain ⟨j1, j2⟩ := i2 rfl
      have h1 := nexts_one hn
      refine ⟨fun _ => ⟨fun e he => ?_, fun e he => ?_⟩, fun h => (by cases h)⟩
      · have he : e ∈ (ac, az) :: thereL (r.map (·.2)) := he
        rcases List.mem_cons.mp he with q | q
        · rw [q]; exact h1
        · exact j1 e q
      · cases r with
        | nil => simp [backL] at he
        | cons c2 r2 => exact j2 e he
/-! ### the state behind it -/
def amtL (S : Lay α) (as : List α) (y w : α) : Int := (S.p y :: (backL as).map S.l).foldl min (S.o w)
def laidS (S : Lay α) (as : List α) (y w : α) (a : Int) : Lay α := ⟨fun x => if x = w then S.o x - a else S.o x, fun z => if z = y then S.p z - a else S.p z, fun e => S.l e + a * dl false as e⟩
structure Fl (prs : List (α × α)) (ks qs : List α) (o0 p0 : α → Int) (S : Lay α) : Prop where
  o : ∀ x ∈ ks, 0 ≤ S.o x
  p : ∀ y ∈ qs, 0 ≤ S.p y
  l : ∀ e ∈ prs, 0 ≤ S.l e
  ro : ∀ x, S.o x + rowS prs S.l x = o0 x
  co : ∀ y, S.p y + colS prs S.l y = p0 y
theorem foldl_min : ∀ (l : List Int) (a : Int), (l.foldl min a ≤ a) ∧ (∀ x ∈ l, l.foldl min a ≤ x) ∧ (l.foldl min a = a ∨ l.foldl min a ∈ l)
  | [], a => ⟨Int.le_refl _, fun _ h => absurd h List.not_mem_nil, .inl rfl⟩
  | x :: r, a => by
    obtain ⟨h1, h2, h3⟩ := foldl_min r (min a x)
    rw [List.foldl_cons]
    refine ⟨by omega, fun y hy => ?_, ?_⟩
    · rcases List.mem_cons.mp hy with e | e
      · omega
      · exact h2 y e
    · rcases h3 with e | e
      · by_cases c : a ≤ x
        · left; omega
        · right; rw [e]; exact List.mem_cons.mpr (.inl (by omega))
      · exact .inr (List.mem_cons_of_mem _ e)
theorem Fl.step {prs : List (α × α)} {ks qs : List α} {o0 p0 : α → Int} {S : Lay α} (F : Fl prs ks qs o0 p0 S) (nd : prs.Nodup) {y : α} {r : List (Pl α)} (p : Path prs S ks ((false, y) :: r)) (hy : 0 < S.p y) :
    ∃ w, (((false, y) :: r).map (·.2)).getLast? = some w ∧ w ∈ ks ∧ 1 ≤ amtL S (((false, y) :: r).map (·.2)) y w ∧ Fl prs ks qs o0 p0 (laidS S (((false, y) :: r).map (·.2)) y w (amtL S (((false, y) :: r).map (·.2)) y w)) := by
  obtain ⟨z, r', w, e, e1, e2, e3, hr, hc⟩ := p.sums nd
  cases e
  obtain ⟨pt, pb⟩ := (p.prs _ _ rfl).1 rfl
  have bn := back_nodup (p.alt _ _ rfl) p.nodup
  generalize ((false, y) :: r).map (·.2) = as at *
  obtain ⟨m1, m2, m3⟩ := foldl_min (S.p y :: (backL as).map S.l) (S.o w)
  have a1 : 1 ≤ amtL S as y w := by
    unfold amtL
    rcases m3 with q | q
    · rw [q]; omega
    · rcases List.mem_cons.mp q with q | q
      · rw [q]; omega
      · obtain ⟨e, he, eq⟩ := List.mem_map.mp q
        have := (pb e he).2
        rw [← eq]; omega
  refine ⟨w, e1, e2, a1, ?_⟩
  have mo : amtL S as y w ≤ S.o w := m1
  have mp : amtL S as y w ≤ S.p y := m2 _ List.mem_cons_self
  have mb : ∀ e ∈ backL as, amtL S as y w ≤ S.l e := fun e he => m2 _ (List.mem_cons_of_mem _ (List.mem_map.mpr ⟨e, he, rfl⟩))
  generalize amtL S as y w = a at *
  refine ⟨fun x hx => ?_, fun v hv => ?_, fun e he => ?_, fun x => ?_, fun v => ?_⟩
  · show 0 ≤ if x = w then S.o x - a else S.o x
    have := F.o x hx
    split
    · rename_i q; rw [q]; omega
    · exact this
  · show 0 ≤ if v = y then S.p v - a else S.p v
    have := F.p v hv
    split
    · rename_i q; rw [q]; omega
    · exact this
  · show 0 ≤ S.l e + a * dl false as e
    have l0 := F.l e he
    rw [dl_count]
    have c1 := List.nodup_iff_count.mp bn e
    by_cases q : e ∈ backL as
    · have := mb e q
      have h0 : (-1 : Int) ≤ ((thereL as).count e : Int) - ((backL as).count e : Int) := by omega
      have := Int.mul_le_mul_of_nonneg_left h0 (show 0 ≤ a by omega)
      omega
    · rw [List.count_eq_zero_of_not_mem q]
      have : 0 ≤ a * (((thereL as).count e : Int) - ((0 : Nat) : Int)) := Int.mul_nonneg (by omega) (by omega)
      omega
  · show (if x = w then S.o x - a else S.o x) + rowS prs (fun e => S.l e + a * dl false as e) x = o0 x
    have h1 := hr x
    have h2 : rowS prs (dl false as) x = (if x = w then 1 else 0) := by
      have : rowS prs (dl false as) x = (if x = w then 1 else 0) - (if ((false, y) : Pl α).1 = true ∧ x = y then 1 else 0) := h1
      rw [this]
      simp
    rw [rowS_add]
    have h3 : rowS prs (fun e => a * dl false as e) x = a * rowS prs (dl false as) x := sum_mul a _ _
    rw [h3, h2]
    have := F.ro x
    split
    · omega
    · omega
  · show (if v = y then S.p v - a else S.p v) + colS prs (fun e => S.l e + a * dl false as e) v = p0 v
    have h1 := hc v
    have h2 : colS prs (dl false as) v = (if v = y then 1 else 0) := by
      have : colS prs (dl false as) v = (if ((false, y) : Pl α).1 = false ∧ v = y then 1 else 0) := h1
      rw [this]
      simp
    rw [colS_add]
    have h3 : colS prs (fun e => a * dl false as e) v = a * colS prs (dl false as) v := sum_mul a _ _
    rw [h3, h2]
    have := F.co v
    split
    · omega
    · omega
end
end Mine
namespace Mine
open PySem L2
section
variable {α : Type} [DecidableEq α]
def sumO (ks : List α) (S : Lay α) : Int := (ks.map S.o).sum
def stepS (ah : Ah α) (N : Nat) (S : Lay α) (z : Pl α) : Lay α :=
  laidS S ((backP ah N z).map (·.2)) z.2 ((((backP ah N z).map (·.2)).getLast?).getD z.2) (amtL S ((backP ah N z).map (·.2)) z.2 ((((backP ah N z).map (·.2)).getLast?).getD z.2))
def layAll (prs : List (α × α)) (ks : List α) (N : Nat) : Nat → Lay α → Lay α × Ah α
  | 0, S => (S, (srch prs S N 0 (ah0 ks S)).1)
  | f + 1, S => match srch prs S N 0 (ah0 ks S) with
    | (ah, none) => (S, ah)
    | (ah, some z) => layAll prs ks N f (stepS ah N S z)
theorem sum_if {β : Type} (q : β → Bool) (f : β → Int) : ∀ l : List β, ((l.filter q).map f).sum = (l.map fun x => if q x = true then f x else 0).sum
  | [] => rfl
  | x :: r => by
    rw [List.filter_cons, List.map_cons, List.sum_cons, ← sum_if q f r]
    by_cases c : q x = true
    · rw [if_pos c, if_pos c, List.map_cons, List.sum_cons]
    · rw [if_neg c, if_neg c, Int.zero_add]
theorem sum_congr {β : Type} {f g : β → Int} : ∀ {l : List β}, (∀ x ∈ l, f x = g x) → (l.map f).sum = (l.map g).sum
  | [], _ => rfl
  | x :: r, h => by rw [List.map_cons, List.map_cons, List.sum_cons, List.sum_cons, h x List.mem_cons_self, sum_congr fun y hy => h y (List.mem_cons_of_mem _ hy)]
theorem sum_at {β : Type} [DecidableEq β] {p : β} {c : Int} {l : List β} (nd : l.Nodup) : (l.map fun x => if p = x then c else 0).sum = if p ∈ l then c else 0 := by
  induction l with
  | nil => simp
  | cons x r ih =>
    obtain ⟨n1, n2⟩ := List.nodup_cons.mp nd
    rw [List.map_cons, List.sum_cons, ih n2]
    by_cases e : p = x
    · rw [if_pos e, if_neg (by rw [e]; exact n1), if_pos (by rw [e]; exact List.mem_cons_self), Int.add_zero]
    · rw [if_neg e, Int.zero_add]
      by_cases m : p ∈ r
      · rw [if_pos m, if_pos (List.mem_cons_of_mem _ m)]
      · rw [if_neg m, if_neg fun z => by rcases List.mem_cons.mp z with q | q; exact e q; exact m q]
theorem sum_rows {L : List α} (nd : L.Nodup) (l : α × α → Int) : ∀ prs : List (α × α), (L.map (rowS prs l)).sum = (prs.map fun e => if e.1 ∈ L then l e else 0).sum
  | [] => sum_zero fun _ _ => rfl
  | e :: r => by
    have h : ∀ x, rowS (e :: r) l x = (if e.1 = x then l e else 0) + rowS r l x := fun x => by
      unfold rowS
      rw [List.filter_cons]
      by_cases c : e.1 = x
      · rw [if_pos (decide_eq_true c), if_pos c, List.map_cons, List.sum_cons]
      · rw [if_neg (by simpa using c), if_neg c, Int.zero_add]
    rw [List.map_cons, List.sum_cons, ← sum_rows nd l r, sum_congr fun x _ => h x, sum_add, sum_at nd]
theorem sum_cols {L : List α} (nd : L.Nodup) (l : α × α → Int) : ∀ prs : List (α × α), (L.map (colS prs l)).sum = (prs.map fun e => if e.2 ∈ L then l e else 0).sum
  | [] => sum_zero fun _ _ => rfl
  | e :: r => by
    have h : ∀ x, colS (e :: r) l x = (if e.2 = x then l e else 0) + colS r l x := fun x => by
      unfold colS
      rw [List.filter_cons]
      by_cases c : e.2 = x
      · rw [if_pos (decide_eq_true c), if_pos c, List.map_cons, List.sum_cons]
      · rw [if_neg (by simpa using c), if_neg c, Int.zero_add]
    rw [List.map_cons, List.sum_cons, ← sum_cols nd l r, sum_congr fun x _ => h x, sum_add, sum_at nd]
/-- where the laying ends: nothing more can be reached -/
structure Ended (prs : List (α × α)) (ks : List α) (S : Lay α) (ah : Ah α) : Prop where
  cl : ∀ c ∈ keysA ah, ∀ z ∈ nexts prs S c, z ∈ keysA ah
  rm : ∀ z ∈ keysA ah, roomB S z = false
  up : ∀ x ∈ ks, 0 < S.o x → (true, x) ∈ keysA ah
theorem srch_end {prs : List (α × α)} {S : Lay α} {ks qs : List α} (hp : ∀ e ∈ prs, e.1 ∈ ks ∧ e.2 ∈ qs) (nk : ks.Nodup) :
    ((srch prs S ((allP ks qs).length + 1) 0 (ah0 ks S)).2 = none → Ended prs ks S (srch prs S ((allP ks qs).length + 1) 0 (ah0 ks S)).1) ∧
    ∀ z, (srch prs S ((allP ks qs).length + 1) 0 (ah0 ks S)).2 = some z → ∃ y r, z = (false, y) ∧ 0 < S.p y ∧ Path prs S ks ((false, y) :: r) ∧ Tr (srch prs S ((allP ks qs).length + 1) 0 (ah0 ks S)).1 ((false, y) :: r) ∧ backP (srch prs S ((allP ks qs).length + 1) 0 (ah0 ks S)).1 ((allP ks qs).length + 1) z = (false, y) :: r := by
  obtain ⟨w0, k0⟩ := ah0_ok (prs := prs) (S := S) nk
  obtain ⟨h1, ⟨m, h2⟩, h3, h4⟩ := srch_ok hp ((allP ks qs).length + 1) 0 (ah0 ks S) w0 (by omega) (fun i c hi => absurd hi (Nat.not_lt_zero i)) fun z hz => by
    rw [k0] at hz
    obtain ⟨x, _, rfl⟩ := List.mem_map.mp hz
    rfl
  refine ⟨fun e => ⟨(h4 e).1, (h4 e).2, fun x hx ho => ?_⟩, fun z e => ?_⟩
  · rw [h2]
    unfold keysA
    rw [List.map_append]
    refine List.mem_append_left _ ?_
    have : (true, x) ∈ keysA (ah0 ks S) := by rw [k0]; exact List.mem_map.mpr ⟨x, List.mem_filter.mpr ⟨hx, decide_eq_true ho⟩, rfl⟩
    exact this
  · obtain ⟨j1, j2⟩ := h3 z e
    obtain ⟨b, y⟩ := z
    cases b
    · obtain ⟨r, p, t⟩ := h1.path _ j1
      refine ⟨y, r, rfl, of_decide_eq_true j2, p, t, t.back _ ?_⟩
      have l1 := nodup_le p.nodup (m := allP ks qs) fun c hc => h1.sub hp c (t.keys c hc)
      rw [List.length_cons] at l1
      omega
    · cases j2
theorem sumO_step {ks : List α} (nk : ks.Nodup) {S : Lay α} {as : List α} {y w : α} {a : Int} (hw : w ∈ ks) : sumO ks (laidS S as y w a) = sumO ks S - a := by
  unfold sumO
  have e : (ks.map (laidS S as y w a).o).sum = (ks.map fun x => S.o x + (if w = x then -a else 0)).sum := sum_congr fun x _ => by
    show (if x = w then S.o x - a else S.o x) = _
    by_cases c : x = w
    · rw [if_pos c, if_pos c.symm]; omega
    · rw [if_neg c, if_neg fun z => c z.symm, Int.add_zero]
  rw [e, sum_add, sum_at nk, if_pos hw]
  omega
theorem sumO_nn {ks : List α} {S : Lay α} (h : ∀ x ∈ ks, 0 ≤ S.o x) : 0 ≤ sumO ks S := by
  unfold sumO
  induction ks with
  | nil => exact Int.le_refl _
  | cons x r ih =>
    rw [List.map_cons, List.sum_cons]
    have := h x List.mem_cons_self
    have := ih fun y hy => h y (List.mem_cons_of_mem _ hy)
    omega
theorem layAll_ok {prs : List (α × α)} {ks qs : List α} {o0 p0 : α → Int} (hp : ∀ e ∈ prs, e.1 ∈ ks ∧ e.2 ∈ qs) (nk : ks.Nodup) (nd : prs.Nodup) : ∀ (f : Nat) (S : Lay α), Fl prs ks qs o0 p0 S → sumO ks S ≤ (f : Int) →
    Fl prs ks qs o0 p0 (layAll prs ks ((allP ks qs).length + 1) f S).1 ∧ Ended prs ks (layAll prs ks ((allP ks qs).length + 1) f S).1 (layAll prs ks ((allP ks qs).length + 1) f S).2
  | 0, S, F, h => by
    have nn := sumO_nn F.o
    obtain ⟨h1, h2⟩ := srch_end hp nk (S := S) (qs := qs)
    cases q : (srch prs S ((allP ks qs).length + 1) 0 (ah0 ks S)).2 with
    | none => exact ⟨F, h1 q⟩
    | some z =>
      exfalso
      obtain ⟨y, r, rfl, hy, p, _, _⟩ := h2 z q
      obtain ⟨w, e1, e2, a1, F'⟩ := F.step nd p hy
      have n2 := sumO_nn F'.o
      rw [sumO_step nk e2] at n2
      omega
  | f + 1, S, F, h => by
    obtain ⟨h1, h2⟩ := srch_end hp nk (S := S) (qs := qs)
    unfold layAll
    cases q : srch prs S ((allP ks qs).length + 1) 0 (ah0 ks S) with
    | mk ah o =>
      rw [q] at h1 h2
      cases o with
      | none => exact ⟨F, h1 rfl⟩
      | some z =>
        obtain ⟨y, r, rfl, hy, p, _, eb⟩ := h2 z rfl
        obtain ⟨w, e1, e2, a1, F'⟩ := F.step nd p hy
        have es : stepS ah ((allP ks qs).length + 1) S (false, y) = laidS S (((false, y) :: r).map (·.2)) y w (amtL S (((false, y) :: r).map (·.2)) y w) := by
          unfold stepS
          have eb : backP ah ((allP ks qs).length + 1) (false, y) = (false, y) :: r := eb
          rw [eb, e1]
          rfl
        have := layAll_ok hp nk nd f (stepS ah ((allP ks qs).length + 1) S (false, y)) (by rw [es]; exact F') (by rw [es, sumO_step nk e2]; omega)
        exact this
/-- what is reached, and its partners -/
def inR (ah : Ah α) (x : α) : Bool := decide ((true, x) ∈ keysA ah)
def inN (prs : List (α × α)) (ah : Ah α) (y : α) : Bool := prs.any fun e => decide (e.2 = y) && inR ah e.1
theorem cut_sum {prs : List (α × α)} {ks qs : List α} {o0 p0 : α → Int} {S : Lay α} {ah : Ah α} (hp : ∀ e ∈ prs, e.1 ∈ ks ∧ e.2 ∈ qs) (nk : ks.Nodup) (nq : qs.Nodup) (F : Fl prs ks qs o0 p0 S) (E : Ended prs ks S ah) :
    ((ks.filter (inR ah)).map o0).sum = sumO ks S + ((qs.filter (inN prs ah)).map p0).sum := by
  have a1 : ((ks.filter (inR ah)).map o0).sum = ((ks.filter (inR ah)).map S.o).sum + ((ks.filter (inR ah)).map (rowS prs S.l)).sum := by
    rw [← sum_add]
    exact sum_congr fun x _ => (F.ro x).symm
  have a2 : ((qs.filter (inN prs ah)).map p0).sum = ((qs.filter (inN prs ah)).map S.p).sum + ((qs.filter (inN prs ah)).map (colS prs S.l)).sum := by
    rw [← sum_add]
    exact sum_congr fun x _ => (F.co x).symm
  have nbk : ∀ y, inN prs ah y = true → (false, y) ∈ keysA ah := fun y h => by
    obtain ⟨e, he, h⟩ := List.any_eq_true.mp h
    rw [Bool.and_eq_true] at h
    have e2 : e.2 = y := of_decide_eq_true h.1
    refine E.cl _ (of_decide_eq_true h.2) _ ?_
    refine List.mem_map.mpr ⟨y, List.mem_map.mpr ⟨e, List.mem_filter.mpr ⟨he, decide_eq_true rfl⟩, e2⟩, rfl⟩
  have b1 : ((ks.filter (inR ah)).map S.o).sum = sumO ks S := by
    rw [sum_if]
    refine sum_congr fun x hx => ?_
    by_cases c : inR ah x = true
    · rw [if_pos c]
    · rw [if_neg c]
      have := F.o x hx
      by_cases d : 0 < S.o x
      · exact absurd (decide_eq_true (E.up x hx d)) c
      · omega
  have b2 : ((qs.filter (inN prs ah)).map S.p).sum = 0 := sum_zero fun y hy => by
    obtain ⟨h1, h2⟩ := List.mem_filter.mp hy
    have r := E.rm _ (nbk y h2)
    have := of_decide_eq_false (show decide (0 < S.p y) = false from r)
    have := F.p y h1
    omega
  rw [a1, a2, b1, b2, sum_rows (nk.sublist List.filter_sublist), sum_cols (nq.sublist List.filter_sublist), Int.zero_add]
  congr 1
  refine sum_congr fun e he => ?_
  obtain ⟨q1, q2⟩ := hp e he
  by_cases c : inR ah e.1 = true
  · have n : inN prs ah e.2 = true := List.any_eq_true.mpr ⟨e, he, by rw [Bool.and_eq_true]; exact ⟨decide_eq_true rfl, c⟩⟩
    rw [if_pos (List.mem_filter.mpr ⟨q1, c⟩), if_pos (List.mem_filter.mpr ⟨q2, n⟩)]
  · rw [if_neg fun z => c (List.mem_filter.mp z).2]
    by_cases n : inN prs ah e.2 = true
    · rw [if_pos (List.mem_filter.mpr ⟨q2, n⟩)]
      have l0 := F.l e he
      by_cases d : 0 < S.l e
      · exfalso
        refine c (decide_eq_true (E.cl _ (nbk _ n) _ ?_))
        exact List.mem_map.mpr ⟨e.1, List.mem_filter.mpr ⟨List.mem_map.mpr ⟨e, List.mem_filter.mpr ⟨he, decide_eq_true rfl⟩, rfl⟩, decide_eq_true d⟩, rfl⟩
      · omega
    · rw [if_neg fun z => n (List.mem_filter.mp z).2]
end
end Mine
namespace Mine
open PySem L2
def endI (lo hi x : Int) : Int := if (if x < hi then x else hi) > lo then (if x < hi then x else hi) else lo
theorem end_cut {n lo hi : Int} (h : lo ≤ hi) : endI lo hi n = cutI n lo hi := by
  unfold cutI endI
  repeat' split
  all_goals omega
def partners (lo hi s r : Int) : List Int :=
  if 0 < s ∧ r = lo then rangeI lo (cutI (r + s) lo hi + 1 - lo).toNat
  else if s < 0 ∧ r = hi then rangeI (cutI (r + s) lo hi) (hi + 1 - cutI (r + s) lo hi).toNat
  else [cutI (r + s) lo hi]
def mayB (lo hi s y z : Int) : Bool :=
  if 0 < s ∧ y = lo then decide (z ≤ endI lo hi (y + s))
  else if s < 0 ∧ y = hi then decide (endI lo hi (y + s) ≤ z)
  else decide (z = endI lo hi (y + s))
theorem part_len {lo hi s r : Int} (h0 : 0 ≤ lo) (h : lo ≤ hi) (h9 : hi ≤ 9) : (partners lo hi s r).length ≤ 10 := by
  have := cut_in (n := r + s) h
  unfold partners
  split
  · rw [rangeI_len]; omega
  split
  · rw [rangeI_len]; omega
  · simp
theorem part_is {lo hi s r : Int} (h : lo ≤ hi) : partners lo hi s r = (rangeI lo (hi + 1 - lo).toNat).filter (mayB lo hi s r) := by
  have hc := cut_in (n := r + s) h
  have he := end_cut (n := r + s) h
  unfold partners
  by_cases c1 : 0 < s ∧ r = lo
  · rw [if_pos c1]
    refine (filt lo _ lo (Int.le_refl _) _ _ (by omega) fun z h1 h2 => ?_).symm
    unfold mayB
    rw [if_pos c1, he, decide_eq_true_eq]
    omega
  rw [if_neg c1]
  by_cases c2 : s < 0 ∧ r = hi
  · rw [if_pos c2]
    refine (filt lo _ _ hc.1 _ hi (by omega) fun z h1 h2 => ?_).symm
    unfold mayB
    rw [if_neg c1, if_pos c2, he, decide_eq_true_eq]
    omega
  rw [if_neg c2]
  have e : [cutI (r + s) lo hi] = rangeI (cutI (r + s) lo hi) (cutI (r + s) lo hi + 1 - cutI (r + s) lo hi).toNat := by
    have e1 : (cutI (r + s) lo hi + 1 - cutI (r + s) lo hi).toNat = 1 := by omega
    rw [e1]
    simp [rangeI]
  rw [e]
  refine (filt lo _ _ hc.1 _ _ (by omega) fun z h1 h2 => ?_).symm
  unfold mayB
  rw [if_neg c1, if_neg c2, he, decide_eq_true_eq]
  omega
def mayN (lo hi s : Int) : Nat → List (Int × Int)
  | 0 => []
  | i + 1 => mayN lo hi s i ++ (partners lo hi s (lo + i)).map fun z => (lo + i, z)
theorem may_len {lo hi s : Int} (h0 : 0 ≤ lo) (h : lo ≤ hi) (h9 : hi ≤ 9) : ∀ i, (mayN lo hi s i).length ≤ 10 * i
  | 0 => by simp [mayN]
  | i + 1 => by
    have := may_len (s := s) h0 h h9 i
    have := part_len (s := s) (r := lo + i) h0 h h9
    unfold mayN
    rw [List.length_append, List.length_map]
    omega
structure Ok3 (lo hi s : Int) : Prop where
  a : 0 ≤ lo
  b : lo ≤ hi
  c : hi ≤ 9
  d : -20 ≤ s
  e : s ≤ 20
def spPart : Sp := fun vs H Q _ => ∃ r lo hi s : Int, vs = [.int r, .int lo, .int hi, .int s] ∧ Ok3 lo hi s ∧ lo ≤ r ∧ r ≤ hi ∧ ∀ l, H l = none → Q (.ref l) (upd H l (.lst ((partners lo hi s r).map V.int)))
def spMay : Sp := fun vs H Q _ => ∃ lo hi s : Int, vs = [.int lo, .int hi, .int s] ∧ Ok3 lo hi s ∧ ∀ H' p ws, Same H H' → H' p = some (.tup ws) → Prs H' ws (mayN lo hi s (hi + 1 - lo).toNat) → Q (.ref p) H'
end Mine
namespace Mine
open PySem L2
/-! ### two ladders coupled: tails and shares in whole numbers over (q + p) * q ^ E -/
def ztlN (p q : Int) (E : Nat) (k : Int) : Int := if 0 ≤ k then p ^ k.toNat * q ^ (E + 1 - k.toNat) else (q + p) * q ^ E - p ^ (1 - k).toNat * q ^ (E + 1 - (1 - k).toNat)
def zshN (p q : Int) (E : Nat) (k : Int) : Int := (q - p) * (p ^ k.natAbs * q ^ (E - k.natAbs))
theorem zpw_pos {p : Int} (h : 1 ≤ p) : ∀ n : Nat, 1 ≤ p ^ n
  | 0 => by simp
  | n + 1 => by
    rw [Int.pow_succ]
    have := Int.mul_le_mul (zpw_pos h n) h (by omega) (by have := zpw_pos h n; omega)
    omega
theorem zpw_le {p q : Int} (h : 1 ≤ p) (hq : p ≤ q) : ∀ n : Nat, p ^ n ≤ q ^ n
  | 0 => by simp
  | n + 1 => by
    rw [Int.pow_succ, Int.pow_succ]
    exact Int.mul_le_mul (zpw_le h hq n) hq (by omega) (by have := zpw_pos (p := q) (by omega) n; omega)
theorem ztl_at {p q : Int} {E : Nat} {k : Nat} : ztlN p q E k = p ^ k * q ^ (E + 1 - k) := by
  unfold ztlN
  rw [if_pos (by omega), Int.toNat_natCast]
theorem ztl_neg {p q : Int} {E : Nat} {k : Nat} : ztlN p q E (-(k : Int)) = (q + p) * q ^ E - p ^ (k + 1) * q ^ (E - k) := by
  cases k with
  | zero =>
    have : ztlN p q E (-((0 : Nat) : Int)) = ztlN p q E ((0 : Nat) : Int) := rfl
    rw [this, ztl_at]
    have e : q ^ (E + 1 - 0) = q ^ E * q := by rw [← Int.pow_succ]; rfl
    rw [e]
    simp only [Nat.zero_add, Int.pow_zero, Nat.sub_zero, Int.pow_one]
    grind
  | succ k =>
    unfold ztlN
    rw [if_neg (by omega)]
    have e1 : (1 - -(((k + 1 : Nat)) : Int)).toNat = k + 2 := by omega
    rw [e1]
    have e2 : E + 1 - (k + 2) = E - (k + 1) := by omega
    rw [e2]
theorem ztl_sym {p q : Int} {E : Nat} (k : Int) : ztlN p q E k + ztlN p q E (1 - k) = (q + p) * q ^ E := by
  rcases Int.lt_or_le 0 k with h | h
  · obtain ⟨n, rfl⟩ : ∃ n : Nat, k = ((n + 1 : Nat) : Int) := ⟨(k - 1).toNat, by omega⟩
    have e : (1 - ((n + 1 : Nat) : Int)) = -(n : Int) := by omega
    rw [e, ztl_neg, ztl_at]
    have e2 : E + 1 - (n + 1) = E - n := by omega
    rw [e2]
    omega
  · obtain ⟨n, rfl⟩ : ∃ n : Nat, k = -(n : Int) := ⟨(-k).toNat, by omega⟩
    have e : (1 - -(n : Int)) = ((n + 1 : Nat) : Int) := by omega
    rw [e, ztl_neg, ztl_at]
    have e2 : E + 1 - (n + 1) = E - n := by omega
    rw [e2]
    omega
theorem ztl_sh {p q : Int} {E : Nat} {k : Int} (h1 : -(E : Int) ≤ k) (h2 : k ≤ E) : ztlN p q E k - ztlN p q E (k + 1) = zshN p q E k := by
  unfold zshN
  rcases Int.lt_or_le k 0 with h | h
  · obtain ⟨n, rfl⟩ : ∃ n : Nat, k = -((n + 1 : Nat) : Int) := ⟨(-k - 1).toNat, by omega⟩
    have e : -((n + 1 : Nat) : Int) + 1 = -(n : Int) := by omega
    have e2 : (-((n + 1 : Nat) : Int)).natAbs = n + 1 := by omega
    rw [e, e2, ztl_neg, ztl_neg]
    have e3 : q ^ (E - n) = q ^ (E - (n + 1)) * q := by rw [← Int.pow_succ]; congr 1; omega
    rw [e3, Int.pow_succ p (n + 1)]
    generalize p ^ (n + 1) = a
    generalize q ^ (E - (n + 1)) = b
    grind
  · obtain ⟨n, rfl⟩ := Int.eq_ofNat_of_zero_le h
    have e : (n : Int) + 1 = ((n + 1 : Nat) : Int) := by omega
    rw [e, ztl_at, ztl_at, Int.natAbs_natCast, Int.pow_succ p n]
    have e3 : q ^ (E + 1 - n) = q ^ (E - n) * q := by rw [← Int.pow_succ]; congr 1; omega
    have e4 : E + 1 - (n + 1) = E - n := by omega
    rw [e3, e4]
    generalize p ^ n = a
    generalize q ^ (E - n) = b
    grind
theorem zsh_nn {p q : Int} {E : Nat} (hp : 1 ≤ p) (hq : p ≤ q) (k : Int) : 0 ≤ zshN p q E k := by
  unfold zshN
  exact Int.mul_nonneg (by omega) (Int.mul_nonneg (by have := zpw_pos hp k.natAbs; omega) (by have := zpw_pos (p := q) (by omega) (E - k.natAbs); omega))
theorem ztl_top {p q : Int} {E : Nat} (hp : 1 ≤ p) (hq : p ≤ q) (k : Int) (h : k ≤ 0) : ztlN p q E k ≤ (q + p) * q ^ E := by
  obtain ⟨n, rfl⟩ : ∃ n : Nat, k = -(n : Int) := ⟨(-k).toNat, by omega⟩
  rw [ztl_neg]
  have := Int.mul_nonneg (a := p ^ (n + 1)) (b := q ^ (E - n)) (by have := zpw_pos hp (n + 1); omega) (by have := zpw_pos (p := q) (by omega) (E - n); omega)
  omega
theorem ztl_nn {p q : Int} {E : Nat} (hp : 1 ≤ p) (hq : p ≤ q) {k : Int} (h1 : 0 ≤ k) : 0 ≤ ztlN p q E k := by
  obtain ⟨n, rfl⟩ := Int.eq_ofNat_of_zero_le h1
  rw [ztl_at]
  exact Int.mul_nonneg (by have := zpw_pos hp n; omega) (by have := zpw_pos (p := q) (by omega) (E + 1 - n); omega)
theorem ztl_mono {p q : Int} {E : Nat} (hp : 1 ≤ p) (hq : p ≤ q) {k : Int} (h1 : -(E : Int) ≤ k) (h2 : k ≤ E) : ztlN p q E (k + 1) ≤ ztlN p q E k := by
  have := ztl_sh (p := p) (q := q) h1 h2
  have := zsh_nn (E := E) hp hq k
  omega
/-- one rung further: at most q / p times as much -/
theorem ztl_up {p q : Int} {E : Nat} (hp : 1 ≤ p) (hq : p ≤ q) {k : Int} (h1 : -(E : Int) ≤ k) (h2 : k ≤ E) : p * ztlN p q E k ≤ q * ztlN p q E (k + 1) := by
  rcases Int.lt_or_le k 0 with h | h
  · obtain ⟨n, rfl⟩ : ∃ n : Nat, k = -((n + 1 : Nat) : Int) := ⟨(-k - 1).toNat, by omega⟩
    have e : -((n + 1 : Nat) : Int) + 1 = -(n : Int) := by omega
    rw [e, ztl_neg, ztl_neg]
    have hm := zpw_le hp hq (n + 1)
    have e3 : q ^ E = q ^ (E - (n + 1)) * q ^ (n + 1) := by rw [← Int.pow_add]; congr 1; omega
    have e4 : q ^ (E - n) = q ^ (E - (n + 1)) * q := by rw [← Int.pow_succ]; congr 1; omega
    rw [e3, e4, Int.pow_succ p (n + 1)]
    have hb := zpw_pos (p := q) (by omega) (E - (n + 1))
    generalize p ^ (n + 1) = a at hm
    generalize q ^ (n + 1) = c at hm
    generalize q ^ (E - (n + 1)) = b at hb
    have h1 : 0 ≤ (q - p) * (q + p) * (b * (c - a)) := Int.mul_nonneg (Int.mul_nonneg (by omega) (by omega)) (Int.mul_nonneg (by omega) (by omega))
    have h2 : q * ((q + p) * (b * c) - a * (b * q)) - p * ((q + p) * (b * c) - a * p * b) = (q - p) * (q + p) * (b * (c - a)) := by grind
    omega
  · obtain ⟨n, rfl⟩ := Int.eq_ofNat_of_zero_le h
    have e : (n : Int) + 1 = ((n + 1 : Nat) : Int) := by omega
    rw [e, ztl_at, ztl_at, Int.pow_succ p n]
    have e3 : q ^ (E + 1 - n) = q ^ (E - n) * q := by rw [← Int.pow_succ]; congr 1; omega
    have e4 : E + 1 - (n + 1) = E - n := by omega
    rw [e3, e4]
    generalize p ^ n = a
    generalize q ^ (E - n) = b
    have : p * (a * (b * q)) = q * (a * p * b) := by grind
    omega
theorem ztl_ups {p q : Int} {E : Nat} (hp : 1 ≤ p) (hq : p ≤ q) : ∀ (d : Nat) {k : Int}, -(E : Int) ≤ k → k + d ≤ E + 1 → p ^ d * ztlN p q E k ≤ q ^ d * ztlN p q E (k + d)
  | 0, k, _, _ => by simp
  | d + 1, k, h1, h2 => by
    have i := ztl_ups hp hq d (k := k) h1 (by omega)
    have u := ztl_up (E := E) hp hq (k := k + d) (by omega) (by omega)
    have e : k + (d + 1 : Nat) = k + d + 1 := by omega
    rw [e, Int.pow_succ, Int.pow_succ]
    have i2 := Int.mul_le_mul_of_nonneg_left i (show 0 ≤ p by omega)
    have u2 := Int.mul_le_mul_of_nonneg_left u (show 0 ≤ q ^ d by have := zpw_pos (p := q) (by omega) d; omega)
    have e1 : p ^ d * p * ztlN p q E k = p * (p ^ d * ztlN p q E k) := by grind
    have e2 : q ^ d * q * ztlN p q E (k + d + 1) = q ^ d * (q * ztlN p q E (k + d + 1)) := by grind
    have e3 : q ^ d * (p * ztlN p q E (k + d)) = p * (q ^ d * ztlN p q E (k + d)) := by grind
    rw [e1, e2]
    omega
theorem ztl_downs {p q : Int} {E : Nat} (hp : 1 ≤ p) (hq : p ≤ q) : ∀ (d : Nat) {k : Int}, -(E : Int) ≤ k → k + d ≤ E + 1 → ztlN p q E (k + d) ≤ ztlN p q E k
  | 0, k, _, _ => by simp
  | d + 1, k, h1, h2 => by
    have i := ztl_downs hp hq d (k := k) h1 (by omega)
    have u := ztl_mono (E := E) hp hq (k := k + d) (by omega) (by omega)
    have e : k + (d + 1 : Nat) = k + d + 1 := by omega
    rw [e]
    omega
/-- tails that lie at most d rungs apart -/
theorem ztl_near {p q : Int} {E : Nat} (hp : 1 ≤ p) (hq : p ≤ q) {d : Nat} {k k' : Int} (hk : 0 ≤ k) (hk2 : k ≤ E) (h1 : -(E : Int) ≤ k') (h2 : k' ≤ E) (hd : (k - k').natAbs ≤ d) : p ^ d * ztlN p q E k' ≤ q ^ d * ztlN p q E k := by
  have n0 := ztl_nn (E := E) hp hq hk
  have key : ∀ e : Nat, e ≤ d → p ^ e * ztlN p q E k' ≤ q ^ e * ztlN p q E k → p ^ d * ztlN p q E k' ≤ q ^ d * ztlN p q E k := fun e he h => by
    obtain ⟨r, rfl⟩ := Nat.exists_eq_add_of_le he
    rw [Int.pow_add, Int.pow_add]
    have a := Int.mul_le_mul_of_nonneg_left h (show 0 ≤ p ^ r by have := zpw_pos hp r; omega)
    have b := Int.mul_le_mul_of_nonneg_right (zpw_le hp hq r) (show 0 ≤ q ^ e * ztlN p q E k from Int.mul_nonneg (by have := zpw_pos (p := q) (by omega) e; omega) n0)
    have e1 : p ^ e * p ^ r * ztlN p q E k' = p ^ r * (p ^ e * ztlN p q E k') := by grind
    have e2 : q ^ e * q ^ r * ztlN p q E k = q ^ r * (q ^ e * ztlN p q E k) := by grind
    rw [e1, e2]
    omega
  rcases Int.lt_or_le k k' with c | c
  · have := ztl_downs (E := E) hp hq (k' - k).toNat (k := k) (by omega) (by omega)
    have e : k + ((k' - k).toNat : Int) = k' := by omega
    rw [e] at this
    exact key 0 (Nat.zero_le _) (by simpa using this)
  · have := ztl_ups (E := E) hp hq (k - k').toNat (k := k') (by omega) (by omega)
    have e : k' + ((k - k').toNat : Int) = k := by omega
    rw [e] at this
    exact key _ (by omega) this
theorem zsh_near {p q : Int} {E : Nat} (hp : 1 ≤ p) (hq : p ≤ q) {d : Nat} {k k' : Int} (hk : k.natAbs ≤ E) (h1 : k'.natAbs ≤ E) (hd : (k - k').natAbs ≤ d) : p ^ d * zshN p q E k' ≤ q ^ d * zshN p q E k := by
  unfold zshN
  have hi : k.natAbs ≤ k'.natAbs + d := by omega
  generalize k.natAbs = j at hk hi
  generalize k'.natAbs = i at h1 hi
  obtain ⟨r, hr⟩ := Nat.exists_eq_add_of_le hi
  have e1 : p ^ d * ((q - p) * (p ^ i * q ^ (E - i))) = (q - p) * (p ^ (i + d) * q ^ (E - i)) := by rw [Int.pow_add]; grind
  have e2 : q ^ d * ((q - p) * (p ^ j * q ^ (E - j))) = (q - p) * (p ^ j * q ^ (d + (E - j))) := by rw [Int.pow_add]; grind
  have e3 : q ^ (d + (E - j)) = q ^ r * q ^ (E - i) := by rw [← Int.pow_add]; congr 1; omega
  rw [e1, e2, hr, e3, Int.pow_add]
  have := zpw_le hp hq r
  have a := zpw_pos hp j
  have b := zpw_pos (p := q) (by omega) (E - i)
  have c : p ^ j * p ^ r * q ^ (E - i) ≤ p ^ j * (q ^ r * q ^ (E - i)) := by
    rw [Int.mul_assoc]
    exact Int.mul_le_mul_of_nonneg_left (Int.mul_le_mul_of_nonneg_right this (by omega)) (by omega)
  exact Int.mul_le_mul_of_nonneg_left c (by omega)
/-! sums over the steps k from -M on -/
def zkS (U : Int → Int) (M : Nat) (P : Int → Bool) : Nat → Int
  | 0 => 0
  | N + 1 => zkS U M P N + (if P ((N : Int) - M) = true then U ((N : Int) - M) - U ((N : Int) - M + 1) else 0)
theorem zkS_mono {U : Int → Int} {M : Nat} (hU : ∀ k, U (k + 1) ≤ U k) {P Q : Int → Bool} (h : ∀ k, P k = true → Q k = true) : ∀ N : Nat, zkS U M P N ≤ zkS U M Q N
  | 0 => Int.le_refl _
  | N + 1 => by
    have i := zkS_mono hU h (M := M) N
    have u := hU ((N : Int) - M)
    unfold zkS
    by_cases c : P ((N : Int) - M) = true
    · rw [if_pos c, if_pos (h _ c)]; omega
    · rw [if_neg c]
      split <;> omega
theorem zkS_congr {U : Int → Int} {M : Nat} {P Q : Int → Bool} : ∀ N : Nat, (∀ i : Nat, i < N → P ((i : Int) - M) = Q ((i : Int) - M)) → zkS U M P N = zkS U M Q N
  | 0, _ => rfl
  | N + 1, h => by
    unfold zkS
    rw [zkS_congr N fun i hi => h i (by omega), h N (by omega)]
theorem zkS_sum {U : Int → Int} {M : Nat} {f : Int → Int} {R : List Int} (nd : R.Nodup) : ∀ N, (R.map fun y => zkS U M (fun k => decide (f k = y)) N).sum = zkS U M (fun k => decide (f k ∈ R)) N
  | 0 => by unfold zkS; exact sum_zero fun _ _ => rfl
  | N + 1 => by
    have i := zkS_sum (U := U) (M := M) (f := f) nd N
    unfold zkS
    rw [sum_add, i]
    have := sum_at (p := f ((N : Int) - M)) (c := U ((N : Int) - M) - U ((N : Int) - M + 1)) nd
    simp only [decide_eq_true_eq]
    rw [this]
theorem zkS_ge {U : Int → Int} {M : Nat} {a : Int} : ∀ N : Nat, -(M : Int) ≤ a → zkS U M (fun k => decide (a ≤ k)) N = if a ≤ (N : Int) - M then U a - U ((N : Int) - M) else 0
  | 0, h => by
    unfold zkS
    split
    · have : a = ((0 : Nat) : Int) - M := by omega
      rw [this]; omega
    · rfl
  | N + 1, h => by
    unfold zkS
    rw [zkS_ge N h]
    have e : ((N + 1 : Nat) : Int) - M = (N : Int) - M + 1 := by omega
    rw [e]
    simp only [decide_eq_true_eq]
    rcases Int.lt_trichotomy a ((N : Int) - M + 1) with c | c | c
    · rw [if_pos (by omega), if_pos (by omega), if_pos (by omega)]; omega
    · rw [if_neg (by omega), if_neg (by omega), if_pos (by omega), c]; omega
    · rw [if_neg (by omega), if_neg (by omega), if_neg (by omega)]; omega
theorem zkS_le {U : Int → Int} {M : Nat} {b : Int} : ∀ N : Nat, -(M : Int) - 1 ≤ b → zkS U M (fun k => decide (k ≤ b)) N = if (N : Int) - M ≤ b + 1 then U (-(M : Int)) - U ((N : Int) - M) else U (-(M : Int)) - U (b + 1)
  | 0, h => by
    unfold zkS
    rw [if_pos (by omega)]
    have : ((0 : Nat) : Int) - M = -(M : Int) := by omega
    rw [this]; omega
  | N + 1, h => by
    unfold zkS
    rw [zkS_le N h]
    have e : ((N + 1 : Nat) : Int) - M = (N : Int) - M + 1 := by omega
    rw [e]
    simp only [decide_eq_true_eq]
    rcases Int.lt_trichotomy ((N : Int) - M) (b + 1) with c | c | c
    · rw [if_pos (by omega), if_pos (by omega), if_pos (by omega)]; omega
    · rw [if_pos (by omega), if_neg (by omega), if_neg (by omega), c]; omega
    · rw [if_neg (by omega), if_neg (by omega), if_neg (by omega)]; omega
theorem zkS_at {U : Int → Int} {M : Nat} {a : Int} : ∀ N : Nat, -(M : Int) ≤ a → zkS U M (fun k => decide (k = a)) N = if a < (N : Int) - M then U a - U (a + 1) else 0
  | 0, h => by
    unfold zkS
    rw [if_neg (by omega)]
  | N + 1, h => by
    unfold zkS
    rw [zkS_at N h]
    have e : ((N + 1 : Nat) : Int) - M = (N : Int) - M + 1 := by omega
    rw [e]
    simp only [decide_eq_true_eq]
    rcases Int.lt_trichotomy a ((N : Int) - M) with c | c | c
    · rw [if_pos (by omega), if_neg (by omega), if_pos (by omega)]; omega
    · rw [if_neg (by omega), if_pos (by omega), if_pos (by omega), c]; omega
    · rw [if_neg (by omega), if_neg (by omega), if_neg (by omega)]; omega
/-- the tails, ended at both ends -/
def zUU (p q : Int) (M : Nat) (k : Int) : Int := if k ≤ -(M : Int) then (q + p) * q ^ (M + 1) else if k ≤ M then ztlN p q (M + 1) k else 0
theorem zUU_mono {p q : Int} {M : Nat} (hp : 1 ≤ p) (hq : p ≤ q) (k : Int) : zUU p q M (k + 1) ≤ zUU p q M k := by
  have t0 : 0 ≤ (q + p) * q ^ (M + 1) := Int.mul_nonneg (by omega) (by have := zpw_pos (p := q) (by omega) (M + 1); omega)
  have m1 : -(M : Int) ≤ k → k + 1 ≤ M → ztlN p q (M + 1) (k + 1) ≤ ztlN p q (M + 1) k := fun a b => ztl_mono hp hq (by omega) (by omega)
  have m2 : k ≤ 0 → ztlN p q (M + 1) k ≤ (q + p) * q ^ (M + 1) := fun a => ztl_top hp hq k a
  have m3 : 0 ≤ k → 0 ≤ ztlN p q (M + 1) k := fun a => ztl_nn hp hq a
  unfold zUU
  repeat' split
  all_goals first | omega | exact t0 | exact m1 (by omega) (by omega) | exact m3 (by omega) | exact Int.le_trans (m1 (by omega) (by omega)) (m2 (by omega))
/-- the table of a ladder with its marks at lo and hi, standing at n -/
def zldN (p q : Int) (E : Nat) (lo hi n y : Int) : Int :=
  if lo = hi then (q + p) * q ^ E else if y = lo then ztlN p q E (n - lo) else if y = hi then ztlN p q E (hi - n) else zshN p q E (y - n)
theorem zcutI_lo {x lo hi : Int} (h : lo < hi) : cutI x lo hi = lo ↔ x ≤ lo := by
  unfold cutI; split <;> split <;> omega
theorem zcutI_hi {x lo hi : Int} (h : lo < hi) : cutI x lo hi = hi ↔ hi ≤ x := by
  unfold cutI; split <;> split <;> omega
theorem zcutI_mid {x lo hi y : Int} (h1 : lo < y) (h2 : y < hi) : cutI x lo hi = y ↔ x = y := by
  unfold cutI; split <;> split <;> omega
theorem zld_sum {p q : Int} {M : Nat} {lo hi n y : Int} (hl : lo ≤ hi) (h1 : lo ≤ y) (h2 : y ≤ hi) (b1 : (lo - n).natAbs < M) (b2 : (hi - n).natAbs < M) :
    zldN p q (M + 1) lo hi n y = zkS (zUU p q M) M (fun k => decide (cutI (n + k) lo hi = y)) (2 * M + 1) := by
  unfold zldN
  have ua : ∀ k : Int, -(M : Int) < k → k ≤ M → zUU p q M k = ztlN p q (M + 1) k := fun k a b => by
    unfold zUU; rw [if_neg (by omega), if_pos b]
  have u0 : zUU p q M (-(M : Int)) = (q + p) * q ^ (M + 1) := by unfold zUU; rw [if_pos (Int.le_refl _)]
  have u9 : zUU p q M (((2 * M + 1 : Nat) : Int) - M) = 0 := by unfold zUU; rw [if_neg (by omega), if_neg (by omega)]
  by_cases c0 : lo = hi
  · rw [if_pos c0, zkS_congr (Q := fun k => decide (-(M : Int) ≤ k)) _ fun i _hi => ?_, zkS_ge _ (Int.le_refl _), if_pos (by omega), u0, u9]
    · omega
    · have := cut_in (n := n + ((i : Int) - M)) (lo := lo) (hi := hi) hl
      rw [decide_eq_true (by omega), decide_eq_true (by omega)]
  rw [if_neg c0]
  have lt : lo < hi := by omega
  by_cases c1 : y = lo
  · rw [if_pos c1, zkS_congr (Q := fun k => decide (k ≤ lo - n)) _ fun i _hi => ?_, zkS_le _ (by omega), if_neg (by omega), u0, ua _ (by omega) (by omega)]
    · have := ztl_sym (p := p) (q := q) (E := M + 1) (n - lo)
      have e : 1 - (n - lo) = lo - n + 1 := by omega
      rw [e] at this
      omega
    · rw [c1]
      exact decide_eq_decide.mpr ((zcutI_lo lt).trans (by omega))
  rw [if_neg c1]
  by_cases c2 : y = hi
  · rw [if_pos c2, zkS_congr (Q := fun k => decide (hi - n ≤ k)) _ fun i _hi => ?_, zkS_ge _ (by omega), if_pos (by omega), u9, ua _ (by omega) (by omega)]
    · omega
    · rw [c2]
      exact decide_eq_decide.mpr ((zcutI_hi lt).trans (by omega))
  rw [if_neg c2, zkS_congr (Q := fun k => decide (k = y - n)) _ fun i _hi => ?_, zkS_at _ (by omega), if_pos (by omega), ua _ (by omega) (by omega), ua _ (by omega) (by omega), ztl_sh (by omega) (by omega)]
  exact decide_eq_decide.mpr ((zcutI_mid (by omega) (by omega)).trans (by omega))
/-- the coupling: what stands upon R is no more than d rungs' worth of what stands upon R's partners -/
theorem zld_hall {p q : Int} (hp : 1 ≤ p) (hq : p ≤ q) {M : Nat} {lo hi n m s : Int} {d : Nat} (hl : lo ≤ hi) (hn1 : lo ≤ n + m) (hn2 : n + m ≤ hi) (hd : (m - s).natAbs ≤ d)
    (b1 : (lo - n).natAbs < M) (b2 : (hi - n).natAbs < M) (b3 : (lo - (n + s)).natAbs < M) (b4 : (hi - (n + s)).natAbs < M) (b5 : (hi - lo).natAbs < M)
    {R Z : List Int} (nR : R.Nodup) (nZ : Z.Nodup) (hR : ∀ y ∈ R, lo ≤ y ∧ y ≤ hi) (hZ : ∀ z ∈ Z, lo ≤ z ∧ z ≤ hi) (hN : ∀ y ∈ R, ∀ z, lo ≤ z → z ≤ hi → mayB lo hi s y z = true → z ∈ Z) :
    p ^ d * (R.map (zldN p q (M + 1) lo hi n)).sum ≤ q ^ d * (Z.map (zldN p q (M + 1) lo hi (n + m))).sum := by
  have e1 : (R.map (zldN p q (M + 1) lo hi n)).sum = zkS (zUU p q M) M (fun k => decide (cutI (n + k) lo hi ∈ R)) (2 * M + 1) := by
    rw [← zkS_sum nR]
    exact sum_congr fun y hy => zld_sum hl (hR y hy).1 (hR y hy).2 b1 b2
  have e2 : (Z.map (zldN p q (M + 1) lo hi (n + s))).sum = zkS (zUU p q M) M (fun k => decide (cutI (n + s + k) lo hi ∈ Z)) (2 * M + 1) := by
    rw [← zkS_sum nZ]
    exact sum_congr fun y hy => zld_sum hl (hZ y hy).1 (hZ y hy).2 b3 b4
  have e3 : zkS (zUU p q M) M (fun k => decide (cutI (n + k) lo hi ∈ R)) (2 * M + 1) ≤ zkS (zUU p q M) M (fun k => decide (cutI (n + s + k) lo hi ∈ Z)) (2 * M + 1) := by
    refine zkS_mono (zUU_mono hp hq) (fun k hk => ?_) _
    have hk := of_decide_eq_true hk
    have c := cut_in (n := n + s + k) hl
    refine decide_eq_true (hN _ hk _ c.1 c.2 ?_)
    unfold mayB
    simp only [end_cut hl]
    unfold cutI
    repeat' split
    all_goals simp only [decide_eq_true_eq]
    all_goals omega
  have e4 : ∀ z ∈ Z, p ^ d * zldN p q (M + 1) lo hi (n + s) z ≤ q ^ d * zldN p q (M + 1) lo hi (n + m) z := fun z hz => by
    have hz := hZ z hz
    unfold zldN
    split
    · exact Int.mul_le_mul_of_nonneg_right (zpw_le hp hq d) (Int.mul_nonneg (by omega) (by have := zpw_pos (p := q) (by omega) (M + 1); omega))
    split
    · exact ztl_near hp hq (by omega) (by omega) (by omega) (by omega) (by omega)
    split
    · exact ztl_near hp hq (by omega) (by omega) (by omega) (by omega) (by omega)
    · exact zsh_near hp hq (by omega) (by omega) (by omega)
  have e5 : p ^ d * (Z.map (zldN p q (M + 1) lo hi (n + s))).sum ≤ q ^ d * (Z.map (zldN p q (M + 1) lo hi (n + m))).sum := by
    clear e2 e3 nZ hZ hN
    induction Z with
    | nil => simp
    | cons z r ih =>
      rw [List.map_cons, List.map_cons, List.sum_cons, List.sum_cons, Int.mul_add, Int.mul_add]
      have a := e4 z List.mem_cons_self
      have b := ih fun y hy => e4 y (List.mem_cons_of_mem _ hy)
      omega
  have e6 := Int.mul_le_mul_of_nonneg_left e3 (show 0 ≤ p ^ d by have := zpw_pos hp d; omega)
  rw [e1]
  rw [e2] at e5
  exact Int.le_trans e6 e5
end Mine
namespace L2
open PySem PySem.Spec PyProof.Rows
/-! ### the walk over reversed(a list) -/
end L2
namespace L2
open PySem PySem.Spec PyProof.Rows
section
variable {X : Cx}
/-! ### xs[::-1] -/
end
end L2
namespace L2
open PySem PySem.Spec PyProof.Rows
section
variable {X : Cx}
/-! ### z.index(y) -/
/-! ### dict(d), d a dict of ints and texts -/
/-! ### a display of pairs of numbers -/
/-! ### t + u, any tuples -/
end
end L2
namespace L2
open PySem PySem.Spec PyProof.Rows
theorem lk_keysL : typeLookup (.type "list") "keys" = pure none := by rw [typeLookup_type, builtinLookup_eq_fast]; kernel_rfl
section
variable {prog : Program} {w : World} {A : Around} {E : Value → Shared → Prop} {s : Shared}
/-- a list has no keys -/
theorem keys_missL {a : Addr} {xs : Array Value} {k : Nat} {sl : Array (Option Value)} {Q : Option Value → Shared → Prop} (hx : s.heap.get? a = some { cls := .type "list", dict := none, data := .seq xs k, slots := sl }) (hA : A.handled = none)
    (h : ∀ h' tk, (∀ b o, s.heap.get? b = some o → h'.get? b = some o) → Q none { s with heap := h', toks := tk }) : wpAny (model prog w) A (getAttr? (.ref a) "keys") Q E s := by
  obtain ⟨hp, g, d, tk, os⟩ := s
  have hT : ∀ tk', (⟨hp, g, d, tk', os⟩ : Shared).TypeIs (.ref a) "list" := fun _ => ⟨_, hx, rfl⟩
  have f1 := sub_AttributeError
  have f3 := F.slot_list_getattribute.lookup
  have f4 := F.slot_list_getattribute.bind (.ref a)
  have f5 := am_list_getattr_none
  unfold getAttr? getAttrBy? getAttrBy
  repeat (any_goals (first | assumption | exact hT _ |
    ((with_reducible show wpAny _ _ (call (Value.builtin "list.__getattribute__") _ _) _ _ _)
     refine call_meets F.slot_list_getattribute (hT _) am_entry_list_getattribute (F.args_list_getattribute_2 _ _) (meets_getattribute_miss_list a xs k sl "keys" _ lk_keysL (by decide +kernel)) ⟨hx, hA, fun h' tk' e ne => ?_⟩) | wp_step))
  obtain ⟨t', u', he⟩ := ne.there
  show wpAny _ _ (getattributeRaised _ _ _ _ _ _ _) _ _ _
  unfold getattributeRaised
  repeat (any_goals (first | assumption | wp_step))
  exact h _ _ ne.keeps
end
section
variable {X : Cx} {pins : List (Addr × Obj)} {σ : St} {H : Hp} {s : Shared} {A : Around} {E : Value → Shared → Prop}
theorem dict_loopL {p d it : Addr} {ys : List V} {o : Nat → HO} {Q : Value → Shared → Prop} (hu : A.in1.units < cLine) (hA : A.in1.handled = none) (hp : H p = some (.lst ys)) (hd : H d = none) (hi0 : H it = none) (hid : it ≠ d) (C : DChain H d ys o)
    (q : ∀ s', Inv X pins σ (upd H d (o ys.length)) s' → Q .none s') : ∀ (n i : Nat) (tk : Tok) (s : Shared), n + i = ys.length → Inv X pins σ (upd H d (o i)) s → FpOk X pins (upd H d (o i)) it → s.heap.IsListIter it p i →
    codeAny (model X.prog X.w) A (.builtin "dict.update.loop" ⟨[.ref d, .ref it, .int i tk, .none], []⟩) (wants Q E) s := by
  intro n
  induction n with
  | zero =>
    intro i tk s hn I hf st
    have e : i = ys.length := by omega
    subst e
    have hp' : upd H d (o ys.length) p = some (.lst ys) := by rw [upd_ne (ne_of_none hp hd)]; exact hp
    obtain ⟨its, rv, tp, hz⟩ := I.list (SqL.of hp')
    obtain ⟨f0, f1, f2, f3, f4, f5⟩ := hf
    have hl := rv.length
    refine codeAny_builtin entry_dul ?_
    unfold Builtin.«dict.update.loop»
    refine wpAny_bind (wpAny_pyNext_list_end hA st tp.isList (by simp; omega) fun h' eb => ?_)
    have I1 := I.turned (h' := h') (t' := s.toks) (fun b o hb e => eb b o hb e) f0 f1 f3 f4 f5
    show wpAny _ _ (Builtin.Dict.addKeywords d [] >>= fun _ => ret Value.none) _ _ _
    exact wpAny_bind (wpAny_pure (wpAny_pure (q _ I1)))
  | succ n ih =>
    intro i tk s hn I hf st
    have hi : i < ys.length := by omega
    obtain ⟨t, k, v, ey, ht, g⟩ := C i hi
    have hp' : upd H d (o i) p = some (.lst ys) := by rw [upd_ne (ne_of_none hp hd)]; exact hp
    have ht' : upd H d (o i) t = some (.tup [k, v]) := by rw [upd_ne (ne_of_none ht hd)]; exact ht
    obtain ⟨its, rv, tp, hz⟩ := I.list (SqL.of hp')
    obtain ⟨u, hu', ru⟩ := rv.get ey
    cases ru
    obtain ⟨f0, f1, f2, f3, f4, f5⟩ := id hf
    refine codeAny_builtin entry_dul ?_
    unfold Builtin.«dict.update.loop»
    refine wpAny_bind (wpAny_pyNext_list_item st tp.isList (x := .ref t) (by simpa using hu') fun h' st' sb => ?_)
    have I1 := I.turned (h' := h') (t' := s.toks) (fun b o hb e => (sb.2 b hb).trans e) f0 f1 f3 f4 f5
    obtain ⟨its2, rv2, ⟨o2, e2, c2, m2, d2⟩, _⟩ := I1.tuple (SqT.of ht')
    obtain ⟨uk, uv, rfl, rk, rV⟩ := vals2 rv2
    refine wpAny_bind (wpAny_holding (wpAny_bind (wpAny_tryCatch ?_)))
    refine (show wpAny _ _ (typeOf (.ref t) >>= _) _ _ _ from wpAny_bind (wpAny_typeOf (T := "tuple") ⟨o2, e2, c2⟩ ?_))
    refine (show wpAny _ _ (seqItems? (.ref t) >>= _) _ _ _ from wpAny_bind (wpAny_seqItems e2 d2 (wpAny_pure ?_)))
    show wpAny _ _ (holding [uk, uv] (dictSet d uk uv)) _ _ _
    refine wpAny_holding (d_dictSet hu I1 g rk rV fun s2 I2 sb2 => ?_)
    refine (show wpAny _ _ (again _) _ _ _ from wpAny_pure ⟨Code.quiet_builtin _ (by decide +kernel), ?_⟩)
    have ni : upd H d (o (i + 1)) it = none := by rw [upd_ne hid]; exact hi0
    exact ih (i + 1) _ s2 (by omega) I2 ⟨ni, f1, f2, f3, f4, f5⟩ (st'.at fun ob e => (sb2.2 it hid).trans e)
/-- dict(t), t a list of pairs -/
theorem call_dictL {k : Nat} (hr : Room k X.A) : CallR X (.type "dict") (fun xs H Q => ∃ (p : Addr) (ys : List V) (o : Nat → HO), xs = [.ref p] ∧ H p = some (.lst ys) ∧ (o 0 = .dK [] ∨ o 0 = .dT []) ∧ ∀ d, H d = none → DChain H d ys o ∧ Q (.ref d) (upd H d (o ys.length))) := by
  intro pins s σ H xs us Q I r h
  obtain ⟨p, ys, o, rfl, hp, h0, h⟩ := h
  obtain ⟨u, rfl, ru⟩ := vals1 r
  cases ru
  have hf : H s.heap.objs.size = none := I.hok.fresh (Nat.le_refl _)
  obtain ⟨C, q⟩ := h _ hf
  have hu := hr.units
  have ty : (⟨s.heap.push { cls := .type "dict", data := .dict #[] }, s.gens, s.drawn, s.toks, s.os⟩ : Shared).TypeIs (.ref s.heap.objs.size) "dict" := ⟨_, Heap.get?_push_size _ rfl, rfl⟩
  have I1 : Inv X pins σ (upd H s.heap.objs.size (o 0)) { s with heap := s.heap.push { cls := .type "dict", data := .dict #[] } } := by
    rcases h0 with e | e
    · rw [e]
      exact I.laid (a := s.heap.objs.size) (o := .dK []) (t' := s.toks) (fun _ _ q => Heap.get?_push_of_some _ q) (Nat.le_refl _) (dk_empty s.heap I.big)
    · rw [e]
      exact I.laid (a := s.heap.objs.size) (o := .dT []) (t' := s.toks) (fun _ _ q => Heap.get?_push_of_some _ q) (Nat.le_refl _) (dt_empty s.heap I.big)
  refine callType_codes (Q₁ := fun obj s₁ => obj = .ref s.heap.objs.size ∧ s₁ = { s with heap := s.heap.push { cls := .type "dict", data := .dict #[] } }) F.kt_called_dict (F.kt_typeCall_dict_1 _) F.entry_dict_init (kt_code_dict_new _ ⟨rfl, rfl⟩) ?_
  rintro obj s₁ ⟨rfl, rfl⟩
  refine ⟨ty, F.args_dict_init_2 _ _, ?_⟩
  unfold Builtin.«dict.__init__»
  refine wpAny_bind ?_
  unfold Builtin.Dict.selfAndRest
  refine wpAny_bind (wpAny_notOrdered_dict ty ?_)
  show wpAny _ _ (pure (s.heap.objs.size, [Value.ref p])) _ _ _
  refine wpAny_pure ?_
  show wpAny _ _ (Builtin.Dict.updateFrom "dict.__init__" s.heap.objs.size (.ref p) [] .none) _ _ _
  unfold Builtin.Dict.updateFrom
  generalize hd0 : s.heap.objs.size = d at hf C q I1 ⊢
  have hp1 : upd H d (o 0) p = some (.lst ys) := by rw [upd_ne (ne_of_none hp hf)]; exact hp
  obtain ⟨_, its, n1, rv, e1⟩ := (show ObjOk X.prog X.w _ _ p (.lst ys) from I1.hok p _ hp1)
  refine wpAny_bind (wpAny_typeOf (T := "list") ⟨_, e1, rfl⟩ ?_)
  rw [if_pos (by decide)]
  refine wpAny_bind (keys_missL e1 (show X.A.handled = none from hr.hd) fun h' tk kp => ?_)
  have I2 := I1.kept (h' := h') (t' := tk) kp
  rw [if_pos (by rfl)]
  refine wpAny_bind (wpAny_rule (wpAny_bind (wpAny_pyIter_list (items := its.toArray) ⟨_, kp _ _ e1, rfl, _, rfl⟩ ?_)))
  have I3 := I2.kept (h' := h'.push { cls := .type "list_iterator", data := .fields #[.ref p, .int 0 0] }) (t' := tk) fun b o e => Heap.get?_push_of_some _ e
  have hit : upd H d (o 0) h'.objs.size = none := I2.hok.fresh (Nat.le_refl _)
  have hid : h'.objs.size ≠ d := fun z => by rw [z, upd_same] at hit; cases hit
  have hi0 : H h'.objs.size = none := by rw [upd_ne hid] at hit; exact hit
  refine wpAny_pure ⟨Code.quiet_builtin _ (by decide +kernel), ?_⟩
  refine dict_loopL (A := X.A.in1) (Q := fun r s₂ => r = Value.none ∧ EP X pins σ Q (.ref d) s₂) (H := H) (p := p) (ys := ys) (o := o) (by show X.A.units + 1 + 1 < cLine; omega) (show X.A.handled = none from hr.hd) hp hf hi0 hid C (fun s' I' => ⟨rfl, .ref d, _, I', rfl, q⟩) ys.length 0 _ _ (by omega) I3 ⟨hit, ?_⟩ ⟨_, Heap.get?_push_size _ rfl, rfl, rfl⟩
  exact (I2.fpOk (H' := upd H d (o 0)) (Nat.le_refl _) hit).2
end
end L2
namespace L2
open PySem PySem.Spec PyProof.Rows
section
variable {prog : Program} {w : World} {K : Type} [DecidableEq K] {knd : KeyKind prog w K} {A : Around} {E : Value → Shared → Prop} {s : Shared}
end
section
variable {X : Cx}
end
end L2
namespace L2
open PySem PySem.Spec PyProof.Rows
section
variable {X : Cx}
end
end L2
namespace L2
open PySem PySem.Spec PyProof.Rows
theorem pe_m1 {X : Cx} {j : Nat} {p p2 : Pos} : PE X (.UnaryOp .USub (.Constant (.int 1) j p) p2) (tC (.int (-1))) := fun pins s σ H Q I h =>
  pe_un (X := X) un_neg pe_int pins s σ H Q I ⟨1, rfl, h⟩
end L2
namespace L2
open PySem PySem.Spec PyProof.Rows
section
variable {X : Cx}
/-- a statement whose ways on are joined behind it -/
def sPost (t : TS) : TS := fun D σ H => ∃ P : St → Hp → Prop, t { D with nx := P } σ H ∧ ∀ σ' G, P σ' G → D.nx σ' G
theorem ps_post {st : Stmt} {t : TS} (h : PS X st t) : PS X st (sPost t) := by
  intro pins s σ H D I ⟨P, h1, h2⟩
  refine thn (h pins s σ H _ I h1) fun f s' q => ?_
  cases f with
  | next =>
    obtain ⟨σ', G, I', p⟩ := q
    exact ⟨σ', G, I', h2 σ' G p⟩
  | ret v => exact q
  | brk => exact q
  | cont => exact q
end
end L2
namespace L2
open PySem PySem.Spec PyProof.Rows
section
variable {X : Cx} {o e : Expr} {es : List Expr} {to : TE} {t : TA} {name : Str} {apos cpos : Pos} {T id : String} {r : V → List V → Hp → VK → Prop}
end
end L2
namespace L2
open PySem PySem.Spec PyProof.Rows
/-! ### set(t), its items ints or texts -/
def hasK (σ : List Key) (k : Key) : Bool := σ.any fun j => decide (j = k)
def ddS (σ : List Key) (k : Key) : List Key := if hasK σ k = true then σ else σ ++ [k]
def dd (ks : List Key) : List Key := ks.foldl ddS []
section
variable {prog : Program} {w : World} {A : Around} {R : Result → Shared → Prop} {I : Addr} {fp wr : List Addr} {G : Array GenState → Array GenState → Prop} {n : Nat} {P : Nat → Value → Prop} {St : Nat → Shared → Prop}
end
section
variable {prog : Program} {w : World} {A : Around} {E : Value → Shared → Prop} {s : Shared}
end
end L2
namespace L2
open PySem PySem.Spec PyProof.Rows
section
variable {X : Cx}
end
end L2
namespace L2
open PySem PySem.Spec PyProof.Rows
end L2
namespace L2
open PySem PySem.Spec PyProof.Rows
/-! ### sets of texts, with the marks of their tables -/
section
variable {prog : Program} {w : World} {A : Around} {E : Value → Shared → Prop} {s : Shared} {a : Addr} {S : Key → Bool} {n : Nat} {led : Bool}
end
end L2
namespace L2
open PySem PySem.Spec PyProof.Rows
/-! ### sorted(d), d a dict with ints for its keys -/
end L2
namespace L2
open PySem PySem.Spec PyProof.Rows
section
variable {prog : Program} {w : World} {A : Around} {E : Value → Shared → Prop} {s : Shared}
end
end L2
namespace L2
open PySem PySem.Spec PyProof.Rows
section
variable {prog : Program} {w : World} {A : Around} {E : Value → Shared → Prop} {s : Shared} {a : Addr} {o : Obj} {es : Array (Int × Value)} {ep : Nat} {t : SetTable}
end
end L2
namespace L2
open PySem PySem.Spec PyProof.Rows
section
variable {prog : Program} {w : World} {A : Around} {E : Value → Shared → Prop} {s : Shared} {a it tp : Addr} {o : Obj} {es : Array (Int × Value)} {ep : Nat} {t : SetTable}
theorem raise_stop {α : Type} {R : α → Shared → Prop} (hh : A.handled = none) (k : ∀ e g, (∀ c o, s.heap.get? c = some o → g.get? c = some o) → (∃ oe, g.get? e = some oe ∧ oe.cls = .type "StopIteration") → E (.ref e) { s with heap := g }) :
    wpAny (model prog w) A (newExc (.type "StopIteration") [] >>= fun e => raiseNew (α := α) e) R E s := by
  refine wpAny_bind ?_
  simp only [newExc, newTuple]
  refine wpAny_bind (wpAny_newObj_type (wpAny_bind (m := firstArgMember _ _) (wpAny_of_eq (a := Value.none) (by first | rfl | (simp only [firstArgMember]; rfl)) (wpAny_newObj_type ?_ (by size_fits)))) (by size_fits))
  unfold raiseNew
  refine wpAny_bind (wpAny_handled ?_)
  rw [hh]
  refine wpAny_bind (wpAny_pure (wpAny_throw (k _ _ (fun c o e => Heap.get?_push_of_some _ (Heap.get?_push_of_some _ e)) ⟨_, Heap.get?_push_size _ rfl, rfl⟩)))
end
end L2
namespace L2
open PySem PySem.Spec PyProof.Rows
/-! ### a dict's keys walked, whatever they are -/
theorem entry_dkNext : entryFor table "dict_keyiterator.__next__" = some Builtin.«dict_keyiterator.__next__» := entryFor_of_tree (by kernel_rfl)
theorem entry_dkIter : entryFor table "dict.__iter__" = some Builtin.«dict.__iter__» := entryFor_of_tree (by kernel_rfl)
section
variable {prog : Program} {w : World} {A : Around} {E : Value → Shared → Prop} {s : Shared} {d it : Addr} {o : Obj} {es : Array DictEntry} {ep i : Nat}
theorem next_dkH {e : DictEntry} {Q : Option Value → Shared → Prop} (hit : s.heap.IsKeyIter it d i es.size ep) (h1 : s.heap.get? d = some o) (h3 : o.data = .dict es ep) (he : es[i]? = some e)
    (hQ : ∀ h', h'.IsKeyIter it d (i + 1) es.size ep → Heap.SameBut it s.heap h' → Q (some e.key) { s with heap := h' }) : wpAny (model prog w) A (pyNext (.ref it)) Q E s := by
  obtain ⟨oi, ho, hc, hd⟩ := id hit
  unfold pyNext
  refine wpAny_bind (wpAny_attempt (wpAny_callSpecial?_slot (name := Str.ofString "__next__") hit.typeIs F.slot_dict_keyiterator_next (wpAny_call_entry F.slot_dict_keyiterator_next hit.typeIs entry_dkNext ?_ (F.args_dict_keyiterator_next_1 _))))
  refine (show wpAny _ _ (Builtin.Dict_items.slot0 "__next__" ⟨[.ref it], []⟩ >>= _) _ _ _ from wpAny_bind ?_)
  unfold Builtin.Dict_items.slot0 slotArgs
  simp only [List.isEmpty_nil, Bool.not_true, Bool.false_eq_true, if_false, bind_assoc, List.length_nil, bne_self_eq_false]
  refine wpAny_bind (wpAny_pure (wpAny_pure (wpAny_bind ?_)))
  refine (show wpAny _ _ ((typeNameOfWhole (.ref it) >>= fun _ => _) >>= fun _ => _) _ _ _ from wpAny_bind (wpAny_bind (wpAny_typeNameOfWhole_keyiter hit.typeIs (wpAny_pure ?_))))
  refine wpAny_bind (wpAny_fieldsOf ho hd ?_)
  dsimp only
  refine (show wpAny _ _ (dictEntries d >>= fun _ => _) _ _ _ from wpAny_bind (wpAny_dictEntries h1 h3 ?_))
  rw [if_neg (by simp)]
  refine (show wpAny _ _ (dictEpoch d >>= fun _ => _) _ _ _ from wpAny_bind (wpAny_dictEpoch h1 h3 ?_))
  rw [if_neg (by simp)]
  refine wpAny_pure ?_
  refine (show wpAny _ _ (match if (i : Int) < 0 then none else es[(i : Int).toNat]? with | some e => _ | none => _) _ _ _ from ?_)
  rw [if_neg (by omega), Int.toNat_natCast, he]
  dsimp only
  refine (show wpAny _ _ ((typeNameOfWhole (.ref it) >>= fun _ => _) >>= fun _ => _) _ _ _ from wpAny_bind (wpAny_bind (wpAny_typeNameOfWhole_keyiter hit.typeIs (wpAny_pure ?_))))
  refine wpAny_bind (wpAny_isOneOf_keyiter hit.typeIs ?_)
  refine wpAny_bind (wpAny_setField ho hd (by show (1 : Nat) < 4; decide) ?_)
  have hit' : (s.heap.update it (Obj.mapFields (·.setIfInBounds 1 (rawInt ((i : Int) + 1))))).IsKeyIter it d (i + 1) es.size ep :=
    ⟨_, Heap.get?_update_self _ ho (Obj.isFreed_of_fields (Obj.data_mapFields hd _)), (Obj.cls_mapFields ..).trans hc, by rw [Obj.data_mapFields hd]; simp [rawInt]⟩
  refine wpAny_bind (wpAny_holding ?_)
  refine (show wpAny _ _ (Builtin.Dict_items.isOneOf (.ref it) _ >>= fun _ => _) _ _ _ from wpAny_bind (wpAny_isOneOf_keyiter (s := { s with heap := s.heap.update it (Obj.mapFields (·.setIfInBounds 1 (rawInt ((i : Int) + 1)))) }) hit'.typeIs ?_))
  refine (show wpAny _ _ (pure e.key) _ _ _ from wpAny_pure ?_)
  exact wpAny_pure ⟨_, rfl, wpAny_pure (hQ _ hit' (Heap.SameBut.update ..))⟩
theorem end_dkH {Q : Option Value → Shared → Prop} (hh : A.handled = none) (hit : s.heap.IsKeyIter it d i es.size ep) (h1 : s.heap.get? d = some o) (h3 : o.data = .dict es ep) (he : es[i]? = none)
    (hQ : ∀ h', (∀ c u, c ≠ it → s.heap.get? c = some u → h'.get? c = some u) → Q none { s with heap := h' }) : wpAny (model prog w) A (pyNext (.ref it)) Q E s := by
  obtain ⟨oi, ho, hc, hd⟩ := id hit
  unfold pyNext
  refine wpAny_bind (wpAny_attempt (wpAny_callSpecial?_slot (name := Str.ofString "__next__") hit.typeIs F.slot_dict_keyiterator_next (wpAny_call_entry F.slot_dict_keyiterator_next hit.typeIs entry_dkNext ?_ (F.args_dict_keyiterator_next_1 _))))
  refine (show wpAny _ _ (Builtin.Dict_items.slot0 "__next__" ⟨[.ref it], []⟩ >>= _) _ _ _ from wpAny_bind ?_)
  unfold Builtin.Dict_items.slot0 slotArgs
  simp only [List.isEmpty_nil, Bool.not_true, Bool.false_eq_true, if_false, bind_assoc, List.length_nil, bne_self_eq_false]
  refine wpAny_bind (wpAny_pure (wpAny_pure (wpAny_bind ?_)))
  refine (show wpAny _ _ ((typeNameOfWhole (.ref it) >>= fun _ => _) >>= fun _ => _) _ _ _ from wpAny_bind (wpAny_bind (wpAny_typeNameOfWhole_keyiter hit.typeIs (wpAny_pure ?_))))
  refine wpAny_bind (wpAny_fieldsOf ho hd ?_)
  dsimp only
  refine (show wpAny _ _ (dictEntries d >>= fun _ => _) _ _ _ from wpAny_bind (wpAny_dictEntries h1 h3 ?_))
  rw [if_neg (by simp)]
  refine (show wpAny _ _ (dictEpoch d >>= fun _ => _) _ _ _ from wpAny_bind (wpAny_dictEpoch h1 h3 ?_))
  rw [if_neg (by simp)]
  refine wpAny_pure ?_
  refine (show wpAny _ _ (match if (i : Int) < 0 then none else es[(i : Int).toNat]? with | some e => _ | none => _) _ _ _ from ?_)
  rw [if_neg (by omega), Int.toNat_natCast, he]
  dsimp only
  refine (show wpAny _ _ ((typeNameOfWhole (.ref it) >>= fun _ => _) >>= fun _ => _) _ _ _ from wpAny_bind (wpAny_bind (wpAny_typeNameOfWhole_keyiter hit.typeIs (wpAny_pure ?_))))
  refine wpAny_bind (wpAny_setField ho hd (by show (0 : Nat) < 4; decide) ?_)
  refine raise_stop (show A.in1.handled = none from hh) fun e g kp ex => ?_
  obtain ⟨oe, e1, e2⟩ := ex
  refine wpAny_bind (wpAny_isInstance (T := "StopIteration") (b := true) ⟨oe, e1, e2⟩ isSubtype_stop ?_)
  exact wpAny_pure (hQ _ fun c u hc e => kp c u (by rw [Heap.get?_update_ne _ _ _ _ hc]; exact e))
theorem iter_dkH {Q : Value → Shared → Prop} (ns : (d == sysModules) = false) (h1 : s.heap.get? d = some o) (h2 : o.ExactDict) (h3 : o.data = .dict es ep)
    (h : Q (.ref s.heap.objs.size) { s with heap := s.heap.push { cls := .type "dict_keyiterator", data := .fields #[.ref d, .int 0 0, .int (es.size : Nat) 0, .int (ep : Nat) 0] } }) : wpAny (model prog w) A (pyIter (.ref d)) Q E s := by
  have hT : s.TypeIs (.ref d) "dict" := ⟨o, h1, h2.1⟩
  refine wpAny_pyIter_slot hT F.slot_dict_iter (wpAny_call_entry F.slot_dict_iter hT entry_dkIter ?_ (F.args_dict_iter_1 _))
  unfold Builtin.«dict.__iter__» Builtin.Dict.dictSlotNone
  simp only [bind_assoc]
  refine wpAny_bind (wpAny_notOrdered_dict hT ?_)
  unfold slotArgs
  simp only [List.isEmpty_nil, Bool.not_true, Bool.false_eq_true, if_false, bind_assoc, List.length_nil, bne_self_eq_false]
  refine wpAny_bind (wpAny_pure (wpAny_bind (wpAny_pure ?_)))
  refine (show wpAny _ _ (pure d >>= fun _ => _) _ _ _ from wpAny_bind (wpAny_pure ?_))
  unfold Builtin.Dict.showsAll
  rw [ns, if_neg (by decide)]
  refine wpAny_bind (wpAny_pure ?_)
  refine wpAny_bind (wpAny_dictEntries h1 h3 ?_)
  refine wpAny_bind (wpAny_dictEpoch h1 h3 ?_)
  refine wpAny_bind ?_
  unfold newFields
  refine wpAny_newObj_type (wpAny_pure ⟨_, rfl, "dict_keyiterator", _, ⟨_, Heap.get?_push_size _ rfl, rfl⟩, F.slot_dict_keyiterator_next.lookup, h⟩)
end
end L2
namespace L2
open PySem PySem.Spec PyProof.Rows
/-! ### a dict whose keys are tuples, walked: it is frozen from then on -/
theorem Inv.freezeT {X : Cx} {pins : List (Addr × Obj)} {σ : St} {H : Hp} {s : Shared} {d : Addr} {o : Obj} {kvs : List (List Key × V)} (I : Inv X pins σ H s) (h : H d = some (.dT kvs)) (ho : s.heap.get? d = some o) :
    Inv X pins σ (upd H d (.frz o (.dT kvs))) s := by
  have nd : ∀ b u, H b = some u → (∀ z, u ≠ .dT z) → b ≠ d := fun b u e hu z => by
    rw [z, h] at e
    exact hu _ (Option.some.inj e).symm
  refine I.step (g' := s.gens) (d' := s.drawn) (t' := s.toks) (h' := s.heap) (ch := []) (fun _ z => nomatch z) (fun b u _ _ _ e _ => e) (fun b u _ _ _ e _ => ⟨u.slots, e⟩) (fun b u _ e n => by rw [upd_ne (fun z => by rw [z, h] at n; cases n)]; exact n)
    (fun b u _ e => ⟨u, e⟩) (fun b xs e => by rw [upd_ne (nd b _ e (by intro z c; cases c))]; exact e) (fun b u v e => by rw [upd_ne (nd b _ e (by intro z c; cases c))]; exact e)
    (fun b ps e => ⟨#[], by rw [upd_ne (nd b _ e (by intro z c; cases c)), e]; simp⟩) (fun m hm => hm) (fun b u e => ?_) I.bare
  by_cases hb : b = d
  · subst hb
    rw [upd_same] at e
    cases e
    refine ⟨ho, ?_⟩
    exact (show ObjOk X.prog X.w H s.heap b (.dT kvs) from I.hok b _ h).stay (fun c v _ q => q) (fun c q => by rw [upd_ne (nd c _ q (by intro z w; cases w))]; exact q) fun c xs q => by rw [upd_ne (nd c _ q (by intro z w; cases w))]; exact q
  · rw [upd_ne hb] at e
    exact (I.hok b u e).stay (fun c v _ q => q) (fun c q => by rw [upd_ne (nd c _ q (by intro z w; cases w))]; exact q) fun c xs q => by rw [upd_ne (nd c _ q (by intro z w; cases w))]; exact q
def ItdT (d : Addr) (o : Obj) (kvs : List (List Key × V)) : It :=
  ⟨fun i H => i < kvs.length ∧ H d = some (.frz o (.dT kvs)), fun i H x H' => H' = H ∧ ∃ k v b, kvs[i]? = some (k, v) ∧ H b = some (.tup (k.map kV)) ∧ x = .ref b, fun i H => kvs.length ≤ i ∧ H d = some (.frz o (.dT kvs))⟩
theorem pair_get {α β : Type} {F : α → β → Prop} : ∀ {l : List α} {m : List β} {i : Nat} {a : α}, Paired F l m → l[i]? = some a → ∃ b, m[i]? = some b ∧ F a b
  | _, _, _, _, .nil, e => by simp at e
  | _, _, 0, _, .cons r _, e => by
    simp at e
    subst e
    exact ⟨_, by simp, r⟩
  | _, _, i + 1, _, .cons _ r, e => by
    obtain ⟨u, e1, e2⟩ := pair_get (i := i) r (by simpa using e)
    exact ⟨u, by simpa using e1, e2⟩
theorem frzT_at {X : Cx} {pins : List (Addr × Obj)} {σ : St} {H : Hp} {s : Shared} {d : Addr} {o : Obj} {kvs : List (List Key × V)} {es : Array DictEntry} {ep : Nat} (I : Inv X pins σ H s) (ho : o.data = .dict es ep) (h : H d = some (.frz o (.dT kvs))) :
    s.heap.get? d = some o ∧ o.ExactDict ∧ (d == sysModules) = false ∧ es.size = kvs.length ∧ ∀ (i : Nat) (k : List Key) (v : V), kvs[i]? = some (k, v) → ∃ (e : DictEntry) (b : Addr), es[i]? = some e ∧ e.key = .ref b ∧ H b = some (.tup (k.map kV)) := by
  obtain ⟨e, z, ns, xs, rel, o', es', ep', h1, h2, h3, h4, h5⟩ := (show ObjOk X.prog X.w H s.heap d (.frz o (.dT kvs)) from I.hok d _ h)
  rw [e] at h1
  cases h1
  rw [ho] at h3
  cases h3
  refine ⟨e, h2, ns, ?_, fun i k v hk => ?_⟩
  · rw [← Array.length_toList, h4, List.length_map, Paired.length rel]
  · obtain ⟨q, hq, r⟩ := pair_get rel hk
    refine ⟨_, q.2.1, by rw [← Array.getElem?_toList, h4, List.getElem?_map, hq]; rfl, rfl, r.2.1⟩
theorem turn_dictT {P : Program} {w : World} {K : PySem.W.Frag} {tg : Expr} (d it : Addr) (o : Obj) (kvs : List (List Key × V)) {es : Array DictEntry} {ep : Nat} (ho : o.data = .dict es ep) :
    Turn P w K tg (ItdT d o kvs) [it] it (fun i h => i ≤ kvs.length ∧ h.IsKeyIter it d i kvs.length ep) where
  mem := by simp
  obj := fun i h st b hb => by
    have e : b = it := by simpa using hb
    subst e
    obtain ⟨o, e, c, q⟩ := st.2
    exact ⟨o, e, fun v z => by rw [q] at z; cases z⟩
  keep := fun i h h' st k => ⟨st.1, st.2.at fun o e => k it (by simp) o e⟩
  item := by
    intro X hP hw hK hc i pins s σ H E I hf st hg
    subst hP hw hK
    obtain ⟨hi, hd⟩ := hg
    obtain ⟨f0, f1, f2, f3, f4, f5⟩ := hf it (by simp)
    obtain ⟨h1, h2, ns, sz, at'⟩ := frzT_at I ho hd
    obtain ⟨e, b, he, kb, hb⟩ := at' i kvs[i].1 kvs[i].2 (by simp [hi])
    have st2 := st.2
    rw [← sz] at st2
    refine next_dkH st2 h1 ho he fun h' st' sb => ?_
    have I1 : Inv X pins σ H { s with heap := h' } := I.turned (t' := s.toks) (fun b o hb e => (sb.2 b hb).trans e) f0 f1 f3 f4 f5
    obtain ⟨o2, e2, c2, d2⟩ := id st'
    rw [sz] at st'
    refine ⟨e.key, rfl, go_of (s := { s with heap := h' }) e2 c2 d2 (by decide) ⟨.ref b, H, I1, kb, ⟨rfl, kvs[i].1, kvs[i].2, b, by simp [hi], hb, rfl⟩, ⟨hi, st'⟩, fun b hb => (hf b hb).1⟩⟩
  done := by
    intro X hP hw hK hc i pins s σ H E I hf st hg
    subst hP hw hK
    obtain ⟨hi, hd⟩ := hg
    obtain ⟨f0, f1, f2, f3, f4, f5⟩ := hf it (by simp)
    obtain ⟨h1, h2, ns, sz, at'⟩ := frzT_at I ho hd
    have st2 := st.2
    rw [← sz] at st2
    exact end_dkH (I.ok.hd hc) st2 h1 ho (Array.getElem?_eq_none (by omega)) fun h' eb => ⟨rfl, I.turned (t' := s.toks) (fun b o hb e => eb b o hb e) f0 f1 f3 f4 f5⟩
  self := fun _ _ _ _ _ st h => wpAny_pyIter_keyiter st.2 h
def iDictT (tl : TE) : TI := fun σ H R => tl σ H fun x H1 => ∃ d kvs, x = .ref d ∧ H1 d = some (.dT kvs) ∧ ∀ o, R (ItdT d o kvs) (upd H1 d (.frz o (.dT kvs)))
theorem pi_dictT {X : Cx} {tg l : Expr} {tl : TE} (hl : PE X l tl) : PI X tg l (iDictT tl) := by
  intro pins s σ H R I h
  refine thn (hl pins s σ H _ I h) fun v s1 ⟨x, H1, I1, r1, q1⟩ => ?_
  obtain ⟨d, kvs, e, hd, q⟩ := q1
  subst e
  cases r1
  obtain ⟨z, ns, xs, rel, o, es, ep, h1, h2, h3, h4, h5⟩ := (show ObjOk X.prog X.w H1 s1.heap d (.dT kvs) from I1.hok d _ hd)
  have I2 := I1.freezeT hd h1
  obtain ⟨_, _, _, sz, _⟩ := frzT_at I2 h3 upd_same
  refine iter_dkH ns h1 h2 h3 ?_
  have f : (upd H1 d (.frz o (.dT kvs))) s1.heap.objs.size = none := I2.hok.fresh (Nat.le_refl _)
  refine ⟨s1.heap.objs.size, [s1.heap.objs.size], _, _, _, rfl, I2.kept (t' := s1.toks) fun b o e => Heap.get?_push_of_some _ e, turn_dictT d _ o kvs h3, ⟨Nat.zero_le _, ⟨_, Heap.get?_push_size _ rfl, rfl, by rw [sz]; rfl⟩⟩, fun b hb => ?_, q o⟩
  have e : b = s1.heap.objs.size := by simpa using hb
  subst e
  exact I2.fpOk (Nat.le_refl _) f
theorem comp_dictT {d : Addr} {o : Obj} {kvs : List (List Key × V)} {g : TG} {tc : TT} {te : TE} {Kf : List V → Hp → Prop} {σ0 : St} {H1 : Hp} (Pv : Nat → List V → St → Hp → Prop) (hz : kvs.length < sizeLine) (h0 : Pv 0 [] σ0 H1) (hb : ∀ i zs σ H, Pv i zs σ H → zs.length ≤ i)
    (hl : ∀ i zs σ H, i ≤ kvs.length → Pv i zs σ H → H d = some (.frz o (.dT kvs)))
    (hs : ∀ i k v b zs σ H, kvs[i]? = some (k, v) → H b = some (.tup (k.map kV)) → Pv i zs σ H → g (.ref b) σ H fun σ2 H2 => tc σ2 H2 fun b H3 => if b = true then te σ2 H3 fun y H4 => Pv (i + 1) (zs ++ [y]) σ2 H4 else Pv (i + 1) zs σ2 H3)
    (hd : ∀ zs σ H, Pv kvs.length zs σ H → Kf zs H) : CompW (ItdT d o kvs) g tc te Kf σ0 H1 := by
  refine ⟨fun i m zs σ H => m = kvs.length - i ∧ i ≤ kvs.length ∧ Pv i zs σ H, ⟨kvs.length, by simp, Nat.zero_le _, h0⟩, ?_⟩
  rintro i m zs σ H ⟨rfl, hi, p⟩
  have q1 := hl i zs σ H hi p
  refine ⟨Nat.lt_of_le_of_lt (hb _ _ _ _ p) (Nat.lt_of_le_of_lt hi hz), ?_⟩
  by_cases hlt : i < kvs.length
  · refine .inr ⟨⟨hlt, q1⟩, Pv (i + 1), fun zs' σ' H' p' => ⟨kvs.length - (i + 1), Nat.sub_lt_sub_left hlt (Nat.lt_succ_self i), rfl, hlt, p'⟩, fun x H' y => ?_⟩
    obtain ⟨rfl, k, v, b, e1, e2, rfl⟩ := y
    exact hs i k v b zs σ _ e1 e2 p
  · have e : i = kvs.length := by omega
    subst e
    exact .inl ⟨⟨Nat.le_refl _, q1⟩, hd zs σ H p⟩
theorem DGet.ft {H : Hp} {a b : Addr} {o : Obj} {kvs : List (List Key × V)} {k : List Key} (e : H a = some (.frz o (.dT kvs))) (eb : H b = some (.tup (k.map kV))) : DGet H a (.ref b) (valV kvs k) := .inr ⟨kvs, k, b, .inr ⟨o, e⟩, rfl, eb, rfl⟩
end L2
namespace L2
open PySem PySem.Spec PyProof.Rows
/-! ### what was frozen here is itself again -/
theorem Inv.thaw {X : Cx} {pins : List (Addr × Obj)} {σ : St} {H : Hp} {s : Shared} {a : Addr} {o : Obj} {u : HO} (I : Inv X pins σ H s) (e : H a = some (.frz o u)) (n : ∀ o' u', X.H₀ a ≠ some (.frz o' u')) (nt : ∀ xs, u ≠ .tup xs) (nw : ∀ y, u ≠ .own y) : Inv X pins σ (upd H a u) s := by
  have ne : ∀ {b v}, H b = some v → (∀ o' u', v ≠ .frz o' u') → b ≠ a := fun {b v} h hv z => by
    rw [z, e] at h
    exact hv _ _ (Option.some.inj h).symm
  have nn : ∀ {b}, H b = none → b ≠ a := fun {b} h z => by rw [z, e] at h; cases h
  refine ⟨I.ok, I.os, I.bare, ⟨I.base.keep, I.base.slot, fun b v q m x => ?_, I.base.there, fun b xs q => ?_, fun b v w q => ?_, fun b ps q => ?_⟩, I.loc, I.cell, ?_, fun x c q => ?_, fun p hp => ?_, fun b v q => ?_, I.len⟩
  · have := I.base.free b v q m x
    rw [upd_ne (nn this)]; exact this
  · have := I.base.tups b xs q
    rw [upd_ne (ne this (by intro _ _ c; cases c))]; exact this
  · have z := I.base.frzs b v w q
    rw [upd_ne (fun c => by rw [c] at q; exact n _ _ q)]; exact z
  · obtain ⟨m, z⟩ := I.base.tbls b ps q
    exact ⟨m, by rw [upd_ne (ne z (by intro _ _ c; cases c))]; exact z⟩
  · rw [upd_ne (nn I.free)]; exact I.free
  · rw [upd_ne (nn (I.freeC x c q))]; exact I.freeC x c q
  · have z := I.pin p hp
    exact ⟨z.1, by rw [upd_ne (nn z.2.1)]; exact z.2.1, z.2.2⟩
  · have tk : ∀ c xs, H c = some (.tup xs) → upd H a u c = some (.tup xs) := fun c xs q => by rw [upd_ne (ne q (by intro _ _ z; cases z))]; exact q
    have wk : ∀ c, H c = some (.own b) → upd H a u c = some (.own b) := fun c q => by rw [upd_ne (ne q (by intro _ _ z; cases z))]; exact q
    by_cases hb : b = a
    · subst hb
      rw [upd_same] at q
      cases q
      exact (show ObjOk X.prog X.w H s.heap b u from (I.hok b _ e).2).stay (fun c v _ q => q) wk tk
    · rw [upd_ne hb] at q
      exact (I.hok b v q).stay (fun c v _ q => q) wk tk
def sThaw (H0 : Hp) (t : TS) : TS := fun D σ H => t { D with nx := fun σ' G => D.nx σ' G ∨ ∃ a o u, G a = some (.frz o u) ∧ (∀ o' u', H0 a ≠ some (.frz o' u')) ∧ (∀ xs, u ≠ .tup xs) ∧ (∀ y, u ≠ .own y) ∧ D.nx σ' (upd G a u) } σ H
theorem ps_thaw {X : Cx} {st : Stmt} {t : TS} (h : PS X st t) : PS X st (sThaw X.H₀ t) := by
  intro pins s σ H D I q
  refine thn (h pins s σ H _ I q) fun f s' q => ?_
  cases f with
  | next =>
    obtain ⟨σ', G, I', p | ⟨a, o, u, e1, n, nt, nw, p⟩⟩ := q
    · exact ⟨σ', G, I', p⟩
    · exact ⟨σ', _, I'.thaw e1 n nt nw, p⟩
  | ret v => exact q
  | brk => exact q
  | cont => exact q
end L2
namespace L2
open PySem PySem.Spec PyProof.Rows
/-! ### range(a, b, 2) -/
def Itr2 (lo : Int) (n : Nat) : It := ⟨fun i _ => i < n, fun i H x H' => H' = H ∧ x = .int (lo + (i : Nat) * 2), fun i _ => n ≤ i⟩
theorem turn_range2 {P : Program} {w : World} {K : PySem.W.Frag} {tg : Expr} (it : Addr) (lo : Int) (n : Nat) : Turn P w K tg (Itr2 lo n) [it] it (fun i h => IsRangeIter h it (lo + (i : Nat) * 2) ((n : Int) - (i : Nat)) 2) where
  mem := by simp
  obj := fun i h st b hb => by
    have e : b = it := by simpa using hb
    subst e
    exact ⟨_, st, fun v z => by
      have z' : Data.fields _ = Data.cell v := z
      cases z'⟩
  keep := fun i h h' st k => k it (by simp) _ st
  item := by
    intro X hP hw hK hc i pins s σ H E I hf st hg
    subst hP hw hK
    obtain ⟨f0, f1, f2, f3, f4, f5⟩ := hf it (by simp)
    have W := Walks.range (prog := X.prog) (w := X.w) (I.ok.hd hc) it lo 2 n
    refine W.item i s _ _ hg st fun v h' tk hv st' kk => ?_
    obtain ⟨t, rfl⟩ := hv
    have I1 : Inv X pins σ H { s with heap := h', toks := tk } := I.turned (fun b o hb e => kk b o (by simpa using hb) e) f0 f1 f3 f4 f5
    exact ⟨_, rfl, go_of (s := { s with heap := h', toks := tk }) (n := "range_iterator") st' rfl rfl (by decide) ⟨.int (lo + (i : Nat) * 2), H, I1, ⟨t, rfl⟩, ⟨rfl, rfl⟩, st', fun b hb => (hf b hb).1⟩⟩
  done := by
    intro X hP hw hK hc i pins s σ H E I hf st hg
    subst hP hw hK
    obtain ⟨f0, f1, f2, f3, f4, f5⟩ := hf it (by simp)
    exact wpAny_pyNext_range_end (I.ok.hd hc) st (by have : n ≤ i := hg; omega) fun h' eb => ⟨rfl, I.turned (t' := s.toks) (fun b o hb e => eb b o hb e) f0 f1 f3 f4 f5⟩
  self := fun _ _ _ _ _ st h => wpAny_pyIter_rangeiter st h
/-- how many -/
def half (lo hi : Int) : Nat := ((hi - lo + 1) / 2).toNat
section
variable {X : Cx} {tg : Expr}
theorem range_it2 {pins : List (Addr × Obj)} {σ : St} {H : Hp} {s : Shared} {R : It → Hp → Prop} {E : Value → Shared → Prop} {lo hi : Int} {t u v : Tok} {tk : Nat} (I : Inv X pins σ H s) (h1 : 0 ≤ lo) (h2 : lo < 1000000) (h3 : -1000000 ≤ hi) (h4 : hi < 1000000)
    (q : R (Itr2 lo (half lo hi)) H) : wpAny (model X.prog X.w) X.A (pyIter (.ref s.heap.objs.size)) (PIE X pins σ tg R) E { s with heap := s.heap.push { cls := .type "range", data := .fields #[.int lo t, .int hi u, .int 2 v] }, toks := tk } := by
  refine wpAny_pyIter_range (IsRange.new ..) ?_ ?_
  · unfold Builtin.Range.small Builtin.Range.rangeSize
    rw [if_pos (show (2 : Int) > 0 by decide)]
    simp only [Builtin.Range.rangeFitsLong, Bool.and_eq_true, Bool.or_eq_true, decide_eq_true_eq, beq_iff_eq, show (2 : Int) > 0 by decide, if_true]
    split <;> omega
  have I1 : Inv X pins σ H { s with heap := s.heap.push { cls := .type "range", data := .fields #[.int lo t, .int hi u, .int 2 v] }, toks := tk } := I.kept fun b o e => Heap.get?_push_of_some _ e
  refine ⟨(s.heap.push { cls := .type "range", data := .fields #[.int lo t, .int hi u, .int 2 v] }).objs.size, [(s.heap.push { cls := .type "range", data := .fields #[.int lo t, .int hi u, .int 2 v] }).objs.size], _, _, H, rfl,
    I1.kept (t' := tk) fun b o e => Heap.get?_push_of_some _ e, turn_range2 _ lo (half lo hi), ?_, fun b hb => ?_, q⟩
  · have e1 : lo + ((0 : Nat) : Int) * 2 = lo := by simp
    have e2 : (((half lo hi : Nat) : Int)) - ((0 : Nat) : Int) = Builtin.Range.rangeSize lo hi 2 := by unfold half Builtin.Range.rangeSize; rw [if_pos (by decide)]; split <;> omega
    show IsRangeIter _ _ (lo + ((0 : Nat) : Int) * 2) (((half lo hi : Nat) : Int) - ((0 : Nat) : Int)) 2
    rw [e1, e2]
    exact Heap.get?_push_size _ rfl
  · have e : b = (s.heap.push { cls := .type "range", data := .fields #[.int lo t, .int hi u, .int 2 v] }).objs.size := by simpa using hb
    subst e
    exact I1.fpOk (Nat.le_refl _) (I1.hok.fresh (Nat.le_refl _))
def iRng3 (ta : TA) : TI := fun σ H R => ta σ H fun vs H1 => ∃ i j : Int, vs = [.int i, .int j, .int 2] ∧ 0 ≤ i ∧ i < 1000000 ∧ -1000000 ≤ j ∧ j < 1000000 ∧ R (Itr2 i (half i j)) H1
theorem pi_range3 {a b c : Expr} {ta : TA} {p pos : Pos} (hg : Gl X "range") (hm : X.mg "range" = none) (ha : PA X [a, b, c] ta) (hs : starEach [a, b, c] X.env = (false, eval a X.env) :: starEach [b, c] X.env := by rfl) (hs2 : (backTo pos (starEach [b, c] X.env)).any (·.1) = false := by rfl) :
    PI X tg (.Call (.Name "range" p) [a, b, c] [] pos) (iRng3 ta) := by
  intro pins s σ H R I h
  refine Call_ (ld_blt I hg hm boot_range (PyProof.Rows.callWith_type1 (thn (ha pos pins s σ H _ I h) fun us s1 ⟨vs, H1, I1, r1, q1⟩ => ?_) hs hs2))
  obtain ⟨i, j, e, q1, q2, q3, q4, q⟩ := q1
  subst e
  cases r1 with
  | cons r rr =>
    cases rr with
    | cons r' rr =>
      cases rr with
      | cons r'' rr =>
        cases rr
        obtain ⟨t, rfl⟩ := r
        obtain ⟨t', rfl⟩ := r'
        obtain ⟨t'', rfl⟩ := r''
        exact call_range_3 (by decide) (range_it2 I1 q1 q2 q3 q4 q) (Or.inl (PyProof.noPylong_small (by omega)))
end
section
variable {g : TG} {tc : TT} {te : TE}
theorem comp_range2 {lo : Int} {n : Nat} {Kf : List V → Hp → Prop} {σ0 : St} {H1 : Hp} (Pv : Nat → List V → St → Hp → Prop) (hz : n < sizeLine) (h0 : Pv 0 [] σ0 H1) (hb : ∀ i ys σ H, Pv i ys σ H → ys.length ≤ i)
    (hs : ∀ i ys σ H, i < n → Pv i ys σ H → g (.int (lo + (i : Nat) * 2)) σ H fun σ2 H2 => tc σ2 H2 fun b H3 => if b = true then te σ2 H3 fun y H4 => Pv (i + 1) (ys ++ [y]) σ2 H4 else Pv (i + 1) ys σ2 H3) (hd : ∀ ys σ H, Pv n ys σ H → Kf ys H) : CompW (Itr2 lo n) g tc te Kf σ0 H1 := by
  refine ⟨fun i m ys σ H => m = n - i ∧ i ≤ n ∧ Pv i ys σ H, ⟨n, by simp, Nat.zero_le _, h0⟩, ?_⟩
  rintro i m ys σ H ⟨rfl, hi, p⟩
  refine ⟨Nat.lt_of_le_of_lt (hb _ _ _ _ p) (Nat.lt_of_le_of_lt hi hz), ?_⟩
  by_cases hlt : i < n
  · refine .inr ⟨hlt, Pv (i + 1), fun ys' σ' H' p' => ⟨n - (i + 1), Nat.sub_lt_sub_left hlt (Nat.lt_succ_self i), rfl, hlt, p'⟩, fun x H' y => ?_⟩
    obtain ⟨e, y⟩ := y
    subst e y
    exact hs i ys σ _ hlt p
  · have e : i = n := by omega
    subst e
    exact .inl ⟨Nat.le_refl _, hd ys σ H p⟩
end
end L2
namespace L2
open PySem PySem.Spec PyProof.Rows
end L2
namespace L2
open PySem PySem.Spec PyProof.Rows
section
variable {X : Cx}
end
end L2
namespace L2
open PySem PySem.Spec PyProof.Rows
/-! ### (a, b, ..) = a list of that length -/
section
variable {prog : Program} {w : World} {A : Around} {E : Value → Shared → Prop} {s : Shared}
theorem draw_lst {it l : Addr} {its : Array Value} (ne : l ≠ it) : ∀ (n i : Nat) (s : Shared) (Q : List Value → Shared → Prop), s.heap.IsListIter it l i → s.heap.IsList l its → i + n ≤ its.size →
    (∀ g, g.IsListIter it l (i + n) → Heap.SameBut it s.heap g → Q ((its.toList.drop i).take n) { s with heap := g }) → wpAny (model prog w) A (draw (.ref it) n) Q E s
  | 0, i, s, Q, st, _, _, k => by
    show wpAny _ _ (pure []) Q E s
    exact wpAny_pure (by simpa using k s.heap st (Heap.SameBut.refl ..))
  | n + 1, i, s, Q, st, pl, hn, k => by
    have lt : i < its.size := by omega
    show wpAny _ _ (pyNext (.ref it) >>= _) Q E s
    refine wpAny_bind (wpAny_pyNext_list_item st pl (x := its[i]) (by simp [lt]) fun g1 st1 sb1 => ?_)
    refine wpAny_bind (wpAny_holding (draw_lst ne n (i + 1) _ _ st1 (pl.at fun o e => (sb1.2 l ne).trans e) (by omega) fun g2 st2 sb2 => wpAny_pure ?_))
    have dr : its.toList.drop i = its[i] :: its.toList.drop (i + 1) := by simp [List.drop_eq_getElem_cons, lt]
    have fin := k g2 (by rw [show i + (n + 1) = i + 1 + n by omega]; exact st2) (sb1.trans sb2)
    rw [dr, List.take_succ_cons] at fin
    exact fin
theorem unpack_lst {l : Addr} {its : Array Value} {Q : List Value → Shared → Prop} (hh : A.handled = none) (pl : s.heap.IsList l its) (k : ∀ g, Heap.ExtBut s.heap.objs.size s.heap g → Q its.toList { s with heap := g }) :
    wpAny (model prog w) A (unpackItems (.ref l) its.size none) Q E s := by
  have ne : l ≠ s.heap.objs.size := by obtain ⟨o, ho, _⟩ := pl; exact Nat.ne_of_lt (Heap.lt_size ho)
  unfold unpackItems notIterableAtAll
  refine wpAny_bind (wpAny_bind (wpAny_specialOf pl.typeIs PySem.F.slot_list_iter.lookup (wpAny_pure ?_)))
  simp only [Bool.false_eq_true, if_false]
  refine wpAny_bind (wpAny_holding (wpAny_pyIter_list pl ?_))
  have pl1 : (s.heap.push { cls := .type "list_iterator", data := .fields #[.ref l, .int 0 0] }).IsList l its := pl.at fun o e => Heap.get?_push_of_some _ e
  refine wpAny_bind (wpAny_holding (draw_lst ne its.size 0 _ _ ⟨_, Heap.get?_push_size _ rfl, rfl, rfl⟩ pl1 (by omega) fun g1 st1 sb1 => ?_))
  rw [List.drop_zero, List.take_of_length_le (by simp), if_neg (by simp)]
  refine wpAny_bind (wpAny_holding (wpAny_pyNext_list_end hh st1 (pl1.at fun o e => (sb1.2 l ne).trans e) (by simp) fun g2 eb => ?_))
  simp only [Option.isSome_none, Bool.false_eq_true, if_false]
  exact wpAny_pure (k g2 fun b o hb e => eb b o hb ((sb1.2 b hb).trans (Heap.get?_push_of_some _ e)))
theorem assign_lst {env : Env} {elts : List Expr} {x1} {pos : Pos} {l : Addr} {its : Array Value} {Q : Unit → Shared → Prop} (hh : A.handled = none) (pl : s.heap.IsList l its)
    (hn : (assignEach elts env).length = its.size) (hst : (assignEach elts env).findIdx? (·.1) = none)
    (k : ∀ g, Heap.ExtBut s.heap.objs.size s.heap g → wpAny (model prog w) A (assignInOrder ((assignEach elts env).map (·.2)) its.toList) Q E { s with heap := g }) : wpAny (model prog w) A (assign (.Tuple elts x1 pos) env (.ref l)) Q E s := by
  rw [assign_Tuple]
  refine wpAny_bind (wpAny_standAt ?_)
  unfold unpack
  rw [hn, hst]
  exact wpAny_bind (wpAny_holding (unpack_lst hh pl k))
end
section
variable {X : Cx} {pos : Pos}
def gLst (K : PySem.W.Frag) (n : Nat) (t : TGs) : TG := fun v σ H Q => ∃ a xs, v = .ref a ∧ SqL K H a xs ∧ xs.length = n ∧ t xs σ H Q
theorem pg_lst {es : List Expr} {k : Nat} {t : TGs} {n : Nat} (hc : X.calm = true) (h : PGs X es t) (hn : (assignEach es X.env).length = n := by rfl) (hst : (assignEach es X.env).findIdx? (·.1) = none := by rfl) : PG X (.Tuple es k pos) (gLst X.K n t) := by
  intro pins s σ H v u Q I r hw
  obtain ⟨a, xs, e1, hq, hl, hw⟩ := hw
  subst e1
  cases r
  obtain ⟨its, rv, pl, hz⟩ := I.list hq
  refine assign_lst (I.ok.hd hc) pl.isList (by simp [hn, ← hl, rv.length]) hst fun g eb => ?_
  exact h pins _ σ H xs _ Q (I.kept (t' := s.toks) fun b o e => eb b o (Nat.ne_of_lt (Heap.lt_size e)) e) (by simpa using rv) hw
end
end L2
namespace L2
open PySem PySem.Spec PyProof.Rows
end L2
namespace L2
open PySem PySem.Spec PyProof.Rows
theorem best_min (f : Nat → Int) : ∀ k i, i ≤ k → f (argBest (fun i j => decide (f i < f j)) k) ≤ f i
  | 0, i, h => by
    have : i = 0 := by omega
    subst this
    exact Int.le_refl _
  | k + 1, i, h => by
    have ih := best_min f k
    rw [argBest]
    by_cases c : f (k + 1) < f (argBest (fun i j => decide (f i < f j)) k)
    · rw [if_pos (decide_eq_true c)]
      by_cases e : i = k + 1
      · rw [e]; exact Int.le_refl _
      · have := ih i (by omega); omega
    · rw [if_neg (by simpa using c)]
      by_cases e : i = k + 1
      · rw [e]; omega
      · exact ih i (by omega)
/-- min of a list of ints: the least of them -/
theorem call_min_l {X : Cx} (hc : X.calm = true := by rfl) : CallR X (.builtin "min") (fun xs H Q => ∃ (p : Addr) (ns : List Int), xs = [.ref p] ∧ SqL X.K H p (ns.map V.int) ∧ ns ≠ [] ∧ ∀ i ∈ ns, (∀ n ∈ ns, i ≤ n) → Q (.int i) H) := by
  intro pins s σ H xs us Q I r h
  obtain ⟨p, ns, rfl, hq, hne, q⟩ := h
  obtain ⟨u, rfl, ru⟩ := vals1 r
  cases ru
  obtain ⟨its, rv, pl, hz⟩ := I.list hq
  have it := pl.isList
  have lp : p < s.heap.objs.size := by
    obtain ⟨o, e, _⟩ := it
    exact Heap.lt_size e
  have hl := rv.length
  rw [List.length_map] at hl
  have val : ∀ i v, its.toArray[i]? = some v → ∃ t, v = Value.int (ns.getD i 0) t := fun i v hv => by
    have hi : its[i]? = some v := by simpa using hv
    have hb : i < ns.length := by
      have := (List.getElem?_eq_some_iff.mp hi).1
      omega
    obtain ⟨u, hu, ru⟩ := rv.get (i := i) (x := V.int ns[i]) (by rw [List.getElem?_map, List.getElem?_eq_getElem hb]; rfl)
    rw [hi] at hu
    cases hu
    obtain ⟨t, e⟩ := ru
    exact ⟨t, by rw [e]; simp [List.getD, hb]⟩
  have hpos : 0 < its.toArray.size := by
    rw [List.size_toArray, ← hl]
    cases ns with
    | nil => exact absurd rfl hne
    | cons _ _ => simp
  refine call_min_walk (wpAny_pyIter_list it ⟨s.heap.objs.size, _, _, _, _, _, _, rfl, Walks.list (A := X.A.in1) (I.ok.hd hc) s.heap.objs.size p (Nat.ne_of_lt lp) its.toArray, ⟨⟨_, Heap.get?_push_size _ rfl, rfl, rfl⟩, it.at fun o e => Heap.get?_push_of_some _ e⟩, ?_, hpos, CmpOf.ints_lt (fun i => ns.getD i 0) val, ?_⟩)
  · intro b hb
    rw [Heap.size_push]
    rcases List.mem_cons.mp hb with z | z
    · rw [z]; exact Nat.lt_succ_self _
    · have z : b = p := by simpa using z
      rw [z]; exact Nat.lt_succ_of_lt lp
  · intro v h' tk hv hk
    have kept : ∀ b o, s.heap.get? b = some o → h'.get? b = some o := fun b o e => hk b o (by
      intro z
      have z : b = s.heap.objs.size := by simpa using z
      exact absurd (Heap.lt_size e) (by rw [z]; exact Nat.lt_irrefl _)) (Heap.get?_push_of_some _ e)
    have hv2 : its.toArray[argBest (fun i j => decide (ns.getD i 0 < ns.getD j 0)) (its.toArray.size - 1)]? = some v := hv
    have hin : argBest (fun i j => decide (ns.getD i 0 < ns.getD j 0)) (its.toArray.size - 1) < ns.length := by
      have : its[argBest (fun i j => decide (ns.getD i 0 < ns.getD j 0)) (its.toArray.size - 1)]? = some v := by simpa using hv2
      have := (List.getElem?_eq_some_iff.mp this).1
      omega
    obtain ⟨t, rfl⟩ := val _ _ hv
    refine ⟨.int _, H, I.kept kept, ⟨t, rfl⟩, q _ ?_ fun n hn => ?_⟩
    · rw [List.getD_eq_getElem?_getD, List.getElem?_eq_getElem hin]
      exact List.getElem_mem hin
    obtain ⟨i, hi, e⟩ := List.mem_iff_getElem.mp hn
    have := best_min (fun i => ns.getD i 0) (its.toArray.size - 1) i (by rw [List.size_toArray, ← hl]; omega)
    rw [show ns.getD i 0 = n by simp [List.getD, hi, e]] at this
    exact this

end L2
namespace L2
open PySem PySem.Spec PyProof.Rows
/-! ### sum(d.values()) -/
def valsO (v d : Addr) : HO := .ext fun h => h.IsValuesView v d
theorem IsValuesView.at' {h h' : Heap} {v d : Addr} (x : h.IsValuesView v d) (e : ∀ o, h.get? v = some o → h'.get? v = some o) : h'.IsValuesView v d := let ⟨o, ho, r⟩ := x; ⟨o, e _ ho, r⟩
section
variable {X : Cx}
theorem dk_at {H : Hp} {s : Shared} {pins : List (Addr × Obj)} {σ : St} {d : Addr} {kvs : List (Key × V)} (I : Inv X pins σ H s) (e : Rd H d (.dK kvs)) : (d == sysModules) = false ∧ ∃ vs ep, KV kvs vs ∧ s.heap.DictOf (mixKind X.prog X.w) d vs ∧ s.heap.DictAt (mixKind X.prog X.w) d vs ep := by
  obtain ⟨z, hd, vs, rel, dd⟩ := dk_rd I.hok e
  obtain ⟨o, es, ep, a, b, c, f, g, h⟩ := id dd
  exact ⟨hd, vs, ep, rel, dd, ⟨o, es, a, b, c, f, g, h⟩⟩
def tVals (td : TE) : TE := fun σ H Q => td σ H fun x H1 => ∃ d kvs, x = .ref d ∧ Rd H1 d (.dK kvs) ∧ ∀ v, H1 v = none → Q (.ref v) (upd H1 v (valsO v d))
theorem pe_vals {o : Expr} {apos cpos : Pos} {td : TE} (ho : PE X o td) (hbase : attributeBase o "values" X.env (eval o X.env) = eval o X.env := by rfl) (hline : (apos.endLine == cpos.line) = true := by rfl) : PE X (.Call (.Attribute o "values" apos) [] [] cpos) (tVals td) := by
  intro pins s σ H Q I h
  refine wpAny_Call_method0_late hbase hline (thn (ho pins s σ H _ I h) fun v s1 ⟨x, H1, I1, r1, d, kvs, ex, hd, q1⟩ => ?_)
  subst ex
  obtain rfl : v = Value.ref d := r1
  obtain ⟨hs, vs, ep, rel, dd, da⟩ := dk_at I1 hd
  refine ⟨"dict", "dict.values", PySem.F.plainAttrs_dict, PySem.F.slot_dict_values, PySem.F.type_dict_values, dd.typeIs, fun b q => ?_, Calls.callWith_builtin rfl (PySem.evalArgs_none ?_)⟩
  · cases q
    obtain ⟨ob, _, _, h1, h2, _⟩ := dd
    exact ⟨ob, h1, h2.2.1⟩
  refine call_meetsIn PySem.F.slot_dict_values dd.typeIs PySem.F.entry_dict_values (PySem.F.args_dict_values_1 _) (meets_dict_values (mixKind X.prog X.w) d hs) ⟨⟨vs, dd⟩, ?_⟩
  have f := I1.hok.fresh (Nat.le_refl s1.heap.objs.size)
  have e1 : (s1.heap.push { cls := .type "dict_values", data := .fields #[.ref d] }).get? s1.heap.objs.size = some { cls := .type "dict_values", data := .fields #[.ref d] } := Heap.get?_push_size _ rfl
  refine ⟨.ref s1.heap.objs.size, _, I1.laid (o := valsO s1.heap.objs.size d) (t' := s1.toks) (fun b u e => Heap.get?_push_of_some _ e) (Nat.le_refl _) ⟨⟨_, e1, rfl, rfl⟩, ⟨_, e1⟩, fun h1 h2 a b => IsValuesView.at' a b⟩, rfl, q1 _ f⟩
theorem call_sumV (hc : X.calm = true := by rfl) : CallR X (.builtin "sum") (fun xs H Q => ∃ (v d : Addr) (kvs : List (Key × V)) (ns : List Int), xs = [.ref v] ∧ H v = some (valsO v d) ∧ Rd H d (.dK kvs) ∧ kvs.map (·.2) = ns.map V.int ∧ Q (.int ns.sum) H) := by
  intro pins s σ H xs us Q I r h
  obtain ⟨p, d, kvs, ns, rfl, hp, hd, hn, q⟩ := h
  obtain ⟨u, rfl, ru⟩ := vals1 r
  cases ru
  obtain ⟨hs, vs, ep, rel, dd, da⟩ := dk_at I hd
  have vw : s.heap.IsValuesView p d := (show ObjOk X.prog X.w H s.heap p (valsO p d) from I.hok p _ hp).1
  have ld : d < s.heap.objs.size := by
    obtain ⟨o, _, e, _⟩ := da
    exact Heap.lt_size e
  have hl : kvs.length = vs.length := Paired.length rel
  have hl2 : kvs.length = ns.length := by
    have := congrArg List.length hn
    rwa [List.length_map, List.length_map] at this
  have val : ∀ i v, (∃ k, vs[i]? = some (k, v)) → ∃ t, v = Value.int (ns.getD i 0) t := fun i v ⟨k, hv⟩ => by
    have hb : i < kvs.length := by
      have := (List.getElem?_eq_some_iff.mp hv).1
      omega
    obtain ⟨w', hw, rw'⟩ := kv_get (i := i) (k := kvs[i].1) (v := kvs[i].2) rel (by rw [List.getElem?_eq_getElem hb])
    rw [hv] at hw
    injection hw with hw
    injection hw with hw1 hw2
    subst hw2
    have e : kvs[i].2 = V.int (ns.getD i 0) := by
      have := congrArg (fun l => l[i]?) hn
      simp only [List.getElem?_map, List.getElem?_eq_getElem hb, List.getElem?_eq_getElem (show i < ns.length by omega), Option.map_some, Option.some.injEq] at this
      rw [this]
      simp [List.getD, show i < ns.length by omega]
    rw [e] at rw'
    exact rw'
  refine call_sum_walkG (wpAny_pyIter_values (knd := mixKind X.prog X.w) vw da ⟨s.heap.objs.size, _, _, _, _, _, fun i => ns.getD i 0, rfl, Walks.dictValues (knd := mixKind X.prog X.w) (A := X.A.in1) (I.ok.hd hc) s.heap.objs.size d (Nat.ne_of_lt ld) vs ep, ⟨⟨_, Heap.get?_push_size _ rfl, rfl, rfl⟩, da.at' fun o e => Heap.get?_push_of_some _ e⟩, ?_, val, ?_⟩)
  · intro b hb
    rw [Heap.size_push]
    rcases List.mem_cons.mp hb with z | z
    · rw [z]; exact Nat.lt_succ_self _
    · have z : b = d := by simpa using z
      rw [z]; exact Nat.lt_succ_of_lt ld
  · intro h' tk t' hk
    have kept : ∀ b o, s.heap.get? b = some o → h'.get? b = some o := fun b o e => hk b o (by
      intro z
      have z : b = s.heap.objs.size := by simpa using z
      exact absurd (Heap.lt_size e) (by rw [z]; exact Nat.lt_irrefl _)) (Heap.get?_push_of_some _ e)
    refine ⟨.int ns.sum, H, I.kept kept, ⟨t', ?_⟩, q⟩
    rw [← hl, hl2, pre_sum ns _ (Nat.le_refl _), List.take_length]
end
end L2
namespace L2
open PySem PySem.Spec PyProof.Rows
/-! ### dict(d), d a dict whose keys are tuples of unlike hashes -/
def hashT (P : Program) (w : World) (k : List Key) : Int := (tupleKind (mixKind P w)).hash k
section
variable {prog : Program} {w : World} {A : Around} {E : Value → Shared → Prop} {s : Shared}
theorem filter_one {α : Type} (f : α → Int) : ∀ {l : List α}, (l.map f).Nodup → ∀ e ∈ l, (l.filter fun x => f x == f e).length ≤ 1
  | [], _, e, he => absurd he List.not_mem_nil
  | a :: r, h, e, he => by
    rw [List.map_cons, List.nodup_cons] at h
    rw [List.filter_cons]
    by_cases c : f a = f e
    · rw [if_pos (by rw [c, beq_self_eq_true])]
      have : (r.filter fun x => f x == f e) = [] := by
        rw [List.filter_eq_nil_iff]
        intro x hx q
        have q : f x = f e := by simpa using q
        exact h.1 (List.mem_map.mpr ⟨x, hx, by rw [q, c]⟩)
      rw [this]
      exact Nat.le_refl _
    · rw [if_neg (by simpa using c)]
      rcases List.mem_cons.mp he with rfl | he
      · exact absurd rfl c
      · exact filter_one f h.2 e he
theorem empty_tup {id : String} {d : Addr} {xs : List (List Key × Addr × Value)} {o : Obj} {es : Array DictEntry} {ep : Nat} {Q : Array DictEntry → Shared → Prop} (ho : s.heap.get? d = some o) (hd : o.data = .dict es ep)
    (he : es.toList = xs.map (entryOfKey (tupleKind (mixKind prog w)))) (hk : ∀ x ∈ xs, (tupleKind (mixKind prog w)).is s.heap x.1 x.2.1) (nh : (xs.map fun x => hashT prog w x.1).Nodup) (h : Q es s) :
    wpAny (model prog w) A (Builtin.Dict.entriesForEmpty id d) Q E s := by
  unfold Builtin.Dict.entriesForEmpty
  refine wpAny_bind (wpAny_dictEntries ho hd ?_)
  have one : ∀ e ∈ es.toList, ¬ ((es.filter (·.hash == e.hash)).size > 1) := fun e hm => by
    have q : (es.filter (·.hash == e.hash)).size = (es.toList.filter (·.hash == e.hash)).length := by rw [← Array.length_toList, Array.toList_filter]
    rw [q]
    have := filter_one (fun e : DictEntry => e.hash) (l := es.toList) (by rw [he, List.map_map]; exact nh) e hm
    omega
  have tup : ∀ e ∈ es.toList, ∃ a, e.key = .ref a ∧ s.TypeIs (.ref a) "tuple" := fun e hm => by
    rw [he] at hm
    obtain ⟨x, hx, rfl⟩ := List.mem_map.mp hm
    obtain ⟨ob, items, n, a, b, c, d⟩ := hk x hx
    exact ⟨x.2.1, rfl, ob, a, b⟩
  refine wpAny_bind ?_
  rw [← Array.forIn_toList]
  have loop : ∀ l : List DictEntry, (∀ e ∈ l, e ∈ es.toList) → wpAny (model prog w) A (forIn l PUnit.unit fun e (_ : PUnit) => (do
      let q ← Builtin.Dict.quietEq e.key
      if (!q) = true then
        if (es.filter (·.hash == e.hash)).size > 1 then (do let _ ← (unsupported s!"{id}:keys-of-equal-hash" : Sem PUnit); pure (ForInStep.yield PUnit.unit)) else pure (ForInStep.yield PUnit.unit)
      else pure (ForInStep.yield PUnit.unit) : Sem (ForInStep PUnit))) (fun _ s' => s' = s) E s := by
    intro l
    induction l with
    | nil => exact fun _ => wpAny_pure rfl
    | cons e r ih =>
      intro hl
      rw [List.forIn_cons]
      obtain ⟨a, ea, ta⟩ := tup e (hl e List.mem_cons_self)
      refine wpAny_bind (wpAny_bind ?_)
      rw [ea]
      show wpAny _ _ (do return (← specialOf (.ref a) "__eq__") == some (.builtin "object.__eq__")) _ _ s
      refine wpAny_bind (wpAny_specialOf ta F.slot_tuple_eq.lookup (wpAny_pure ?_))
      rw [if_pos (by decide), if_neg (one e (hl e List.mem_cons_self))]
      exact wpAny_pure (ih fun x hx => hl x (List.mem_cons_of_mem _ hx))
  exact thn (loop es.toList fun _ h => h) fun _ s' e => by subst e; exact wpAny_pure h
theorem copy_tup {o : Addr} {xs : List (List Key × Addr × Value)} {Q : Value → Shared → Prop} (hoS : (o == sysModules) = false) (ho : s.heap.DictOfH (tupleKind (mixKind prog w)) o xs) (hsz : xs.length ≤ sizeLine) (nh : (xs.map fun x => hashT prog w x.1).Nodup)
    (h : ∀ h' od es ep, h'.get? s.heap.objs.size = some od → od.ExactDict → od.data = .dict es ep → es.toList = xs.map (entryOfKey (tupleKind (mixKind prog w))) → (∀ b q, s.heap.get? b = some q → h'.get? b = some q) → Q (.ref s.heap.objs.size) { s with heap := h' }) :
    wpAny (model prog w) A (call (.type "dict") [.ref o]) Q E s := by
  obtain ⟨oo, eo, po, g1, g2, g3, g4, g5, g6⟩ := ho
  have nw : (s.heap.push { cls := .type "dict", data := .dict #[] }).get? s.heap.objs.size = some { cls := .type "dict", data := .dict #[] } := Heap.get?_push_size _ rfl
  have old : (s.heap.push { cls := .type "dict", data := .dict #[] }).get? o = some oo := Heap.get?_push_of_some _ g1
  have ap : s.heap.objs.size ≠ o := fun e => absurd (Heap.lt_size g1) (by rw [e]; exact Nat.lt_irrefl _)
  refine callType_codes (Q₁ := fun ob sx => ob = .ref s.heap.objs.size ∧ sx = { s with heap := s.heap.push { cls := .type "dict", data := .dict #[] } }) F.kt_called_dict (F.kt_typeCall_dict_1 _) F.entry_dict_init (kt_code_dict_new _ ⟨rfl, rfl⟩) ?_
  rintro ob sx ⟨rfl, rfl⟩
  have tn : Shared.TypeIs { s with heap := s.heap.push { cls := .type "dict", data := .dict #[] } } (.ref s.heap.objs.size) "dict" := ⟨_, nw, rfl⟩
  have to : Shared.TypeIs { s with heap := s.heap.push { cls := .type "dict", data := .dict #[] } } (.ref o) "dict" := ⟨_, old, g2.1⟩
  refine ⟨tn, F.args_dict_init_2 _ _, ?_⟩
  unfold Builtin.«dict.__init__» Builtin.Dict.selfAndRest
  refine wpAny_bind (wpAny_bind (wpAny_notOrdered_dict tn ?_))
  show wpAny _ _ (pure (s.heap.objs.size, [Value.ref o])) _ _ _
  refine wpAny_pure ?_
  show wpAny _ _ (Builtin.Dict.updateFrom "dict.__init__" s.heap.objs.size (.ref o) [] .none) _ _ _
  unfold Builtin.Dict.updateFrom
  refine wpAny_bind (wpAny_typeOf to ?_)
  rw [if_neg (by decide)]
  unfold Builtin.Dict.merge Builtin.Dict.readDirectly
  refine wpAny_bind (wpAny_bind (wpAny_bind (wpAny_isInstance to isSubtype_dict_dict ?_)))
  simp only [Bool.not_true, Bool.false_eq_true, if_false]
  refine wpAny_bind (wpAny_specialOf to F.slot_dict_iter.lookup (wpAny_pure ?_))
  simp only [beq_self_eq_true, if_true]
  refine wpAny_bind (wpAny_pure ?_)
  unfold Builtin.Dict.mergeDict Builtin.Dict.showsAll
  rw [if_neg (by simpa using ap), if_neg (by rw [hoS]; exact Bool.false_ne_true)]
  refine wpAny_bind (wpAny_pure ?_)
  refine wpAny_bind (wpAny_dictEntries old g3 ?_)
  have le : eo.size = xs.length := by rw [← Array.length_toList, g4, List.length_map]
  dsimp only
  have fin : ∀ {h' : Heap} {od : Obj} {es : Array DictEntry} {ep : Nat}, h'.get? s.heap.objs.size = some od → od.ExactDict → od.data = .dict es ep → es.toList = xs.map (entryOfKey (tupleKind (mixKind prog w))) → (∀ b q, s.heap.get? b = some q → h'.get? b = some q) → Q (.ref s.heap.objs.size) { s with heap := h' } := fun a b c d e => h _ _ _ _ a b c d e
  by_cases em : xs = []
  · have e0 : eo = #[] := Array.toList_inj.mp (by rw [g4, em]; rfl)
    subst e0
    rw [if_neg (by simp)]
    refine wpAny_bind (wpAny_dictEpoch old g3 (wpAny_bind (wpAny_dictEntries old g3 ?_)))
    rw [Std.Legacy.Range.forIn_eq_forIn_range']
    refine wpAny_bind (wpAny_pure (wpAny_pure ?_))
    exact wpAny_bind (wpAny_pure (wpAny_pure ⟨rfl, fin nw ⟨rfl, rfl, rfl⟩ rfl (by rw [em]; rfl) fun b q e => Heap.get?_push_of_some _ e⟩))
  · obtain ⟨x0, xr, ex⟩ : ∃ a r, xs = a :: r := by
      cases xs with
      | nil => exact absurd rfl em
      | cons a r => exact ⟨a, r, rfl⟩
    have na : (eo.all fun e => (keyPart e.key).isSome) = false := by
      rw [← Array.all_toList, g4, ex]
      rfl
    have ne : (!eo.isEmpty) = true := by
      cases q : eo.isEmpty with
      | false => rfl
      | true =>
        have : eo.size = 0 := by rw [Array.isEmpty_iff.mp q]; rfl
        rw [le, ex] at this
        cases this
    rw [if_pos (by rw [na, Bool.and_false]; rfl)]
    refine wpAny_bind (wpAny_dictEntries nw rfl ?_)
    rw [if_pos (show (#[] : Array DictEntry).isEmpty = true from rfl)]
    refine wpAny_bind (empty_tup (s := { s with heap := s.heap.push { cls := .type "dict", data := .dict #[] } }) old g3 g4 (fun x hx => ?_) nh ?_)
    · obtain ⟨ob, it, n, a, b, c, d⟩ := g5 x hx
      exact ⟨ob, it, n, Heap.get?_push_of_some _ a, b, c, d⟩
    rw [if_pos ne]
    refine wpAny_bind (wpAny_updateDictKeysTo nw rfl (wpAny_pure ?_) (by omega))
    refine wpAny_bind (wpAny_pure (wpAny_pure ⟨rfl, fin (Heap.get?_update_self _ nw (Obj.isFreed_of_dict (Obj.data_mapDictKeys rfl _))) (Obj.ExactDict.mapDictKeys ⟨rfl, rfl, rfl⟩ _) (Obj.data_mapDictKeys rfl _) g4 fun b q e => ?_⟩))
    exact ((Heap.SameBut.update ..).2 b (Nat.ne_of_lt (Heap.lt_size e))).trans (Heap.get?_push_of_some _ e)
end
section
variable {X : Cx}
theorem kt_keys {H : Hp} : ∀ {kvs : List (List Key × V)} {xs : List (List Key × Addr × Value)}, KT H kvs xs → xs.map (·.1) = kvs.map (·.1)
  | _, _, .nil => rfl
  | _, _, .cons h r => by rw [List.map_cons, List.map_cons, kt_keys r, h.1]
theorem call_dictT : CallR X (.type "dict") (fun xs H Q => ∃ (p : Addr) (kvs : List (List Key × V)), xs = [.ref p] ∧ Rd H p (.dT kvs) ∧ (kvs.map fun e => hashT X.prog X.w e.1).Nodup ∧ ∀ d, H d = none → Q (.ref d) (upd H d (.dT kvs))) := by
  intro pins s σ H xs us Q I r h
  obtain ⟨p, kvs, rfl, hp, nh, q⟩ := h
  obtain ⟨u, rfl, ru⟩ := vals1 r
  cases ru
  obtain ⟨z, hd, ys, rel, dd⟩ := dt_rd I.hok hp
  have ky := kt_keys rel
  have ln : ys.length ≤ sizeLine := by rw [← List.length_map (f := fun x : List Key × Addr × Value => x.1) (as := ys), ky, List.length_map]; exact z
  refine copy_tup hd dd ln ?_ fun h' od es ep a b c e kp => ?_
  · have : (ys.map fun x => hashT X.prog X.w x.1) = (kvs.map fun e => hashT X.prog X.w e.1) := by
      have := congrArg (List.map (hashT X.prog X.w)) ky
      rw [List.map_map, List.map_map] at this
      exact this
    rw [this]
    exact nh
  have f := I.hok.fresh (Nat.le_refl s.heap.objs.size)
  obtain ⟨_, _, _, _, _, _, _, _, nd⟩ := dd
  refine ⟨.ref s.heap.objs.size, _, I.laid (t' := s.toks) (o := .dT kvs) kp (Nat.le_refl _) ⟨z, beq_eq_false_iff_ne.mpr (Ne.symm (Nat.ne_of_lt I.big)), ys, Paired.mapP rel fun x y t => ⟨t.1, by rw [upd_ne (ne_of_none t.2.1 f)]; exact t.2.1, t.2.2⟩, od, es, ep, a, b, c, e, nd⟩, rfl, q _ f⟩
end
end L2
namespace L2
open PySem PySem.Spec PyProof.Rows
/-! ### d.clear(), d a dict whose keys are tuples -/
def tClr (td : TE) : TE := fun σ H Q => td σ H fun x H1 => ∃ d kvs, x = .ref d ∧ H1 d = some (.dT kvs) ∧ Q .non (upd H1 d (.dT []))
section
variable {X : Cx}
theorem pe_clr {o : Expr} {apos cpos : Pos} {td : TE} (ho : PE X o td) (hbase : attributeBase o "clear" X.env (eval o X.env) = eval o X.env := by rfl) (hline : (apos.endLine == cpos.line) = true := by rfl) : PE X (.Call (.Attribute o "clear" apos) [] [] cpos) (tClr td) := by
  intro pins s σ H Q I h
  refine wpAny_Call_method0_late hbase hline (thn (ho pins s σ H _ I h) fun v s1 ⟨x, H1, I1, r1, d, kvs, ex, hd, q1⟩ => ?_)
  subst ex
  obtain rfl : v = Value.ref d := r1
  obtain ⟨z, hs, ys, rel, dd⟩ := dt_of I1.hok hd
  obtain ⟨ob, es, ep, g1, g2, g3, g4, g5, g6⟩ := id dd
  have ty : s1.TypeIs (.ref d) "dict" := ⟨ob, g1, g2.1⟩
  refine ⟨"dict", "dict.clear", PySem.F.plainAttrs_dict, PySem.F.slot_dict_clear, PySem.F.type_dict_clear, ty, fun b q => ?_, Calls.callWith_builtin rfl (PySem.evalArgs_none ?_)⟩
  · cases q
    exact ⟨ob, g1, g2.2.1⟩
  refine wpAny_call_entry PySem.F.slot_dict_clear ty PySem.F.entry_dict_clear ?_ (PySem.F.args_dict_clear_1 _)
  unfold Builtin.«dict.clear» Builtin.Dict.noArgs
  refine wpAny_bind (wpAny_bind (wpAny_notOrdered_dict ty ?_))
  show wpAny _ _ (pure d) _ _ s1
  refine wpAny_pure (wpAny_bind (wpAny_dictEntries g1 g3 (wpAny_bind ?_)))
  unfold bearsInstanceDictMark
  refine wpAny_bind (wpAny_load g1 (wpAny_pure ?_))
  rw [show (ob.cls == Value.type "dict" && !ob.slots.isEmpty) = false by rw [g2.2.2]; simp]
  refine wpAny_bind (wpAny_updateDictKeysTo g1 g3 ?_ (Nat.zero_le _))
  simp only [Bool.not_false, if_true]
  refine wpAny_bind (wpAny_letGo (wpAny_pure ?_))
  refine ⟨_, rfl, .non, _, I1.write (x := d) (e := d) (o := .dT []) (t' := s1.toks) (by rw [hd]; exact True.intro) (.inl rfl) (fun b u hb e => ((Heap.SameBut.update ..).2 b hb).trans e) ⟨_, Heap.get?_update_self _ g1 (Obj.isFreed_of_dict (Obj.data_mapDictKeys g3 _))⟩ ?_, rfl, q1⟩
  exact ⟨Nat.zero_le _, hs, [], .nil, _, _, _, Heap.get?_update_self _ g1 (Obj.isFreed_of_dict (Obj.data_mapDictKeys g3 _)), g2.mapDictKeys _, Obj.data_mapDictKeys g3 _, rfl, List.nodup_nil⟩
end
end L2
namespace L2
open PySem PySem.Spec PyProof.Rows PySem.MeetsSeq
section
variable {prog : Program} {w : World} {A : Around} {E : Value → Shared → Prop} {s : Shared}
/-- two values are equal, seen in one world -/
def EqW (prog : Program) (w : World) (A : Around) (s : Shared) (x y : Value) : Prop := ∀ (R : Bool → Shared → Prop) (F : Value → Shared → Prop), R true s → wpAny (model prog w) A (eqBool x y) R F s
theorem tup_two (l b : Addr) (x1 x2 y1 y2 : Value) (n n2 : Nat) (dd dd2 : Option Addr) (sl sl2 : Array (Option Value)) : MeetsIn prog w (Builtin.«tuple.__eq__» ⟨[.ref l, .ref b], []⟩)
    (fun A R s => s.heap.get? l = some { cls := .type "tuple", dict := dd, data := .seq #[x1, x2] n, slots := sl } ∧ s.heap.get? b = some { cls := .type "tuple", dict := dd2, data := .seq #[y1, y2] n2, slots := sl2 } ∧ EqW prog w A.in1 s x1 y1 ∧ EqW prog w A.in1 s x2 y2 ∧ R (.ok (.ret (.bool true))) s) :=
  .of_wp fun A R s h => by
    obtain ⟨hp, g, d, tk, os⟩ := s
    obtain ⟨hl, hb, e1, e2, h⟩ := h
    have f2 := AutoSeq1.sub_tuple_tuple
    wp_walk using wpAny_loadPart' hl, wpAny_loadPart' hb, wpAny_forIn_list _ (fun rest b s' => b.1 = none ∧ s' = ⟨hp, g, d, tk, os⟩ ∧ (rest = [(x1, y1), (x2, y2)] ∨ rest = [(x2, y2)] ∨ rest = [])) _
    case turn =>
      rintro ⟨y, x⟩ rest b s' ⟨hb', rfl, hz⟩
      rcases hz with hz | hz | hz
      · cases hz
        refine wpAny_bind (e1 _ _ ?_)
        wp_walk
        exact ⟨rfl, rfl, .inr (.inl rfl)⟩
      · cases hz
        refine wpAny_bind (e2 _ _ ?_)
        wp_walk
        exact ⟨rfl, rfl, .inr (.inr rfl)⟩
      · cases hz
    case fin =>
      rintro ⟨b1, b2⟩ s' ⟨hb', rfl, _⟩
      simp only at hb'
      subst hb'
      wp_walk
      exact ⟨_, rfl, by simpa [Builtin.Tuple.tupleCompareSizes] using h⟩
    case h => exact ⟨rfl, rfl, .inl rfl⟩
theorem eq_two {l b : Addr} {x1 x2 y1 y2 : Value} {Q : Value → Shared → Prop} (hl : s.heap.IsTuple l #[x1, x2]) (hb : s.heap.IsTuple b #[y1, y2]) (hu : A.units < cLine)
    (h1 : EqW prog w A.in1 s x1 y1) (h2 : EqW prog w A.in1 s x2 y2) (q : Q (.bool true) s) :
    wpAny (model prog w) A (compareOp .Eq (.ref l) (.ref b)) Q E s := by
  obtain ⟨⟨cls, dd, data, sl⟩, ho, hc, n, hd⟩ := id hl
  obtain ⟨⟨cls2, dd2, data2, sl2⟩, ho2, hc2, n2, hd2⟩ := id hb
  simp only at hc hd hc2 hd2
  subst hc hd hc2 hd2
  show wpAny _ _ (richCompare .Eq (.ref l) (.ref b)) _ _ _
  have t1 : s.TypeIs (.ref l) "tuple" := ⟨_, ho, rfl⟩
  have t2 : s.TypeIs (.ref b) "tuple" := ⟨_, ho2, rfl⟩
  refine wpAny_richCompare_same_room t1 t2 PySem.F.slot_tuple_eq ?_ hu
  exact call_meetsIn PySem.F.slot_tuple_eq t1 PySem.F.entry_tuple_eq (PySem.F.args_tuple_eq_2 _ _) (tup_two l b x1 x2 y1 y2 n n2 dd dd2 sl sl2) ⟨ho, ho2, h1, h2, (fun x => nomatch x), q⟩
end
end L2
namespace L2
open PySem PySem.Spec PyProof.Rows PySem.MeetsSeq
section
variable {prog : Program} {w : World} {A : Around} {E : Value → Shared → Prop} {s : Shared}
theorem eqW_same (v : Value) : EqW prog w A s v v := fun R F q => SeqAt.EqAt.same v prog w F R q
theorem eqW_refs {a b : Addr} (hne : a ≠ b) (h : ∀ (Q : Value → Shared → Prop) (F : Value → Shared → Prop), Q (.bool true) s → wpAny (model prog w) A (richCompare .Eq (.ref a) (.ref b)) Q F s) : EqW prog w A s (.ref a) (.ref b) := fun R F q => by
  unfold eqBool
  refine wpAny_holding ?_
  refine wpAny_ite_split (fun hab => absurd (by simpa using hab) hne) (fun _ => ?_)
  exact wpAny_bind (h _ _ (wpAny_truthy_bool q))
theorem atKey_i {K : Type} [DecidableEq K] {xs : List (K × Addr × Value)} (nd : (xs.map (·.1)).Nodup) {i j : Nat} {k : K} {p q : Addr × Value} (h1 : xs[i]? = some (k, p)) (h2 : xs[j]? = some (k, q)) : i = j := idxH_unique nd h1 h2
theorem same_heap {nm : String} {a b : Addr} {xs ys : List (List Key × Addr × Value)} {Q : Bool → Shared → Prop} (hu : A.units < cLine) (haS : (a == sysModules) = false) (hbS : (b == sysModules) = false) (ha : s.heap.DictOfH (tupleKind (mixKind prog w)) a xs) (hb : s.heap.DictOfH (tupleKind (mixKind prog w)) b ys)
    (hk : xs.map (·.1) = ys.map (·.1)) (hv : ∀ (i : Nat) p q, xs[i]? = some p → ys[i]? = some q → EqW prog w A s p.2.2 q.2.2) (hQ : Q true s) : wpAny (model prog w) A (Builtin.Dict.samePairs nm a b) Q E s := by
  obtain ⟨oa, esa, epa, hoa, hca, hda, hea, hia, hna⟩ := id ha
  obtain ⟨ob, esb, epb, hob, hcb, hdb, heb, hib, hnb⟩ := id hb
  have la : esa.size = xs.length := size_of_entries hea
  have lb : esb.size = ys.length := size_of_entries heb
  have lk : xs.length = ys.length := by have := congrArg List.length hk; simpa using this
  unfold Builtin.Dict.samePairs Builtin.Dict.showsAll
  rw [if_neg (by rw [haS]; exact Bool.false_ne_true), if_neg (by rw [hbS]; exact Bool.false_ne_true)]
  refine wpAny_bind (wpAny_pure (wpAny_bind (wpAny_pure (wpAny_bind (wpAny_dictEntries hoa hda (wpAny_bind (wpAny_dictEntries hob hdb ?_)))))))
  rw [if_neg (by simp; omega)]
  refine wpAny_bind (wpAny_dictEpoch hoa hda ?_)
  rw [Std.Legacy.Range.forIn_eq_forIn_range']
  simp only [Std.Legacy.Range.size, Nat.sub_zero, Nat.add_sub_cancel, Nat.div_one]
  refine wpAny_bind ?_
  refine wpAny_forIn_list _ (fun rest b s' => s' = s ∧ b = (none, ()) ∧ ∃ i, rest = List.range' i (esa.size - i) ∧ i ≤ esa.size) _ ?_ ?_ _ _ ⟨rfl, rfl, 0, by simp, Nat.zero_le _⟩
  · rintro x rest b s' ⟨rfl, rfl, i, hr, hi⟩
    have hlt : i < esa.size := by
      rcases Nat.lt_or_ge i esa.size with h | h
      · exact h
      · rw [Nat.sub_eq_zero_of_le h] at hr; simp at hr
    obtain ⟨rfl, hrest⟩ : x = i ∧ rest = List.range' (i + 1) (esa.size - (i + 1)) := by
      rw [show esa.size - i = (esa.size - (i + 1)) + 1 by omega, List.range'_succ] at hr
      injection hr with h1 h2
      exact ⟨h1, h2⟩
    obtain ⟨⟨k, pa, v⟩, hx⟩ : ∃ e, xs[x]? = some e := ⟨xs[x]'(by omega), List.getElem?_eq_getElem _⟩
    obtain ⟨⟨k2, pb, u⟩, hy⟩ : ∃ e, ys[x]? = some e := ⟨ys[x]'(by omega), List.getElem?_eq_getElem _⟩
    have ek : k = k2 := by
      have e1 := congrArg (fun l => l[x]?) hk
      simp only [List.getElem?_map, hx, hy, Option.map_some, Option.some.injEq] at e1
      exact e1
    subst ek
    have ea := entry_at hea x
    have eb := entry_at heb x
    rw [hx] at ea
    rw [hy] at eb
    refine wpAny_bind (wpAny_dictEntries hoa hda ?_)
    rw [ea]
    show wpAny _ _ (holding _ (dictFind _ (.ref pa) ((tupleKind (mixKind prog w)).hash k) >>= _) >>= _) _ _ _
    refine wpAny_bind (wpAny_holding (wpAny_bind (wpAny_dictFind_heap hu (hia _ (List.mem_of_getElem? hx)) hob hdb heb hib hnb (fun z => absurd hy (z x _)) fun j p hj => ?_)))
    have ej := atKey_i hnb hj hy
    subst ej
    refine (show wpAny _ _ (dictEntries _ >>= _) _ _ _ from wpAny_bind (wpAny_dictEntries hob hdb ?_))
    rw [eb]
    refine (show wpAny _ _ (holding [u] (eqBool v u)) _ _ _ from wpAny_holding (hv _ _ _ hx hy _ _ ?_))
    rw [if_neg (by decide)]
    refine wpAny_bind (wpAny_dictEpoch hoa hda ?_)
    rw [if_neg (by simp)]
    exact wpAny_pure ⟨rfl, rfl, _, hrest, hlt⟩
  · rintro b s' ⟨rfl, rfl, i, hr, hi⟩
    exact wpAny_pure hQ
end
end L2
namespace L2
open PySem PySem.Spec PyProof.Rows
section
variable {prog : Program} {w : World} {A : Around} {E : Value → Shared → Prop} {s : Shared} {a it tp : Addr} {o : Obj} {es : Array (Int × Value)} {ep : Nat} {t : SetTable}
end
end L2
namespace L2
open PySem PySem.Spec PyProof.Rows
section
variable {prog : Program} {w : World} {A : Around} {E : Value → Shared → Prop} {s : Shared} {a tp : Addr} {o : Obj} {es : Array (Int × Value)} {ep : Nat} {t : SetTable}
end
end L2
namespace L2
open PySem PySem.Spec PyProof.Rows
section
variable {prog : Program} {w : World} {A : Around} {E : Value → Shared → Prop} {s : Shared} {a : Addr} {o : Obj} {es : Array (Int × Value)} {ep : Nat} {t : SetTable}
end
end L2
namespace L2
open PySem PySem.Spec PyProof.Rows
/-- the keys of texts -/
abbrev tk (ts : List Str) : List Key := ts.map Sum.inr
section
variable {prog : Program} {w : World} {A : Around} {R : Result → Shared → Prop} {I : Addr} {fp wr : List Addr} {G : Array GenState → Array GenState → Prop} {n : Nat} {P : Nat → Value → Prop} {St : Nat → Shared → Prop} {led : Bool}
end
section
variable {prog : Program} {w : World} {A : Around} {E : Value → Shared → Prop} {s : Shared}
end
end L2
namespace L2
open PySem PySem.Spec PyProof.Rows
/-! ### texts in their order -/
section
variable {X : Cx} {k : Nat}
end
end L2
namespace L2
open PySem PySem.Spec PyProof.Rows
/-! ### d.setdefault(k, x) -/
def tDSet (td ty tx : TE) : TE := fun σ H Q => td σ H fun x H1 => ∃ a, x = .ref a ∧ IsD H1 a ∧ ty σ H1 fun y H2 => tx σ H2 fun z H3 => ∃ kvs k, H3 a = some (.dK kvs) ∧ y = kV k ∧ kvs.length < sizeLine ∧
  (∀ v, valV kvs k = some v → Q v H3) ∧ (valV kvs k = none → Q z (upd H3 a (.dK (putK kvs k z))))
theorem d_setdef {X : Cx} {pins : List (Addr × Obj)} {σ : St} {H : Hp} {s : Shared} {a : Addr} {kvs : List (Key × V)} {k : Key} {x : V} {u r : Value} {A : Around} {E : Value → Shared → Prop} {Q : VK} (I : Inv X pins σ H s) (e : H a = some (.dK kvs)) (ry : RelV (kV k) u) (rx : RelV x r) (hz : kvs.length < sizeLine)
    (h1 : ∀ v, valV kvs k = some v → Q v H) (h2 : valV kvs k = none → Q x (upd H a (.dK (putK kvs k x)))) : wpAny (model X.prog X.w) A (call (.builtin "dict.setdefault") [.ref a, u, r]) (EP X pins σ Q) E s := by
  obtain ⟨z, hd, vs, rel, dd⟩ := dk_of I.hok e
  refine call_meetsIn PySem.F.slot_dict_setdefault dd.typeIs PySem.F.entry_dict_setdefault (PySem.F.args_dict_setdefault_3 _ _ _) (kt_meets_setdefault (mixKind X.prog X.w) a (kV_is ry) hd r) ⟨vs, dd, by rw [← rel.length]; exact z, fun v' hv => ?_, fun hn h' dd' hs => ?_⟩
  · cases l : valV kvs k with
    | none =>
      have q : valueAt vs k = none := RelO.none_of (by rw [← l]; exact rel.val k)
      rw [q] at hv; cases hv
    | some v =>
      obtain ⟨w', hw, rw'⟩ := RelO.some_of (v := v) (o := valueAt vs k) (by rw [← l]; exact rel.val k)
      rw [hw] at hv
      cases hv
      exact ⟨v, H, I.tok _, rw', h1 v l⟩
  · cases l : valV kvs k with
    | some v =>
      obtain ⟨w', hw, rw'⟩ := RelO.some_of (v := v) (o := valueAt vs k) (by rw [← l]; exact rel.val k)
      rw [hn] at hw; cases hw
    | none =>
      have hl : (putK kvs k x).length ≤ sizeLine := by have := length_putK kvs k x; omega
      have he : ∃ q, h'.get? a = some q := let ⟨q, _, _, hq, _⟩ := dd'; ⟨q, hq⟩
      exact ⟨x, _, d_write I (by rw [e]; exact True.intro) hs he (dk_new hl hd (rel.put k rx) dd'), rx, h2 l⟩
theorem pe_dset {X : Cx} {o e f : Expr} {apos cpos : Pos} {td ty tx : TE} (ho : PE X o td) (he : PE X e ty) (hf : PE X f tx) (m : M2 X o "setdefault" apos e f cpos) : PE X (.Call (.Attribute o "setdefault" apos) [e, f] [] cpos) (tDSet td ty tx) := by
  intro pins s σ H Q I h
  refine wpAny_Call_method m.base m.few m.line PySem.F.plainAttrs_dict PySem.F.slot_dict_setdefault PySem.F.type_dict_setdefault (thn (ho pins s σ H _ I h) fun u s1 ⟨x, H1, I1, rx, a, ex, d, q1⟩ => ?_)
  subst ex
  obtain rfl : u = Value.ref a := rx
  obtain ⟨t1, t2, _⟩ := isD_at I1 d
  refine ⟨t1, t2, ?_⟩
  rw [m.trees]
  refine Calls.callWith_builtin rfl (Calls.evalArgs_plain (Calls.spliced_cons (thn (he pins s1 σ H1 _ I1 q1) fun iv s2 ⟨y, H2, I2, ry, q2⟩ => Calls.spliced_cons (thn (hf pins s2 σ H2 _ I2 q2) fun fv s3 ⟨z, H3, I3, rz, kvs, k, ea, ey, hz, q3, q4⟩ => Calls.spliced_nil ?_))))
  subst ey
  exact d_setdef I3 ea ry rz hz q3 q4
end L2
namespace L2
open PySem PySem.Spec PyProof.Rows
/-! ### keys that are tuples of keys and of tuples of keys -/
section
variable {prog : Program} {w : World}
variable {A : Around} {E : Value → Shared → Prop} {s : Shared}
end
end L2
namespace L2
open PySem PySem.Spec PyProof.Rows
/-! ### dicts whose keys are tuples that may hold tuples -/
section
variable {P : Program} {w : World} {H : Hp} {h : Heap} {a : Addr}
end
section
variable {P : Program} {w : World} {H : Hp} {h : Heap} {a : Addr}
end
section
variable {X : Cx} {pins : List (Addr × Obj)} {σ : St} {H : Hp} {s : Shared} {a : Addr} {y v : V} {u r : Value} {o : Option V} {A : Around} {E : Value → Shared → Prop}
end
section
variable {X : Cx} {o i e value : Expr} {pos pos' tpos : Pos} {td ty tv : TE} {k : Nat}
end
end L2
namespace L2
open PySem PySem.Spec PyProof.Rows
/-! ### a set's places rise: what the table's walk goes by -/
/-! the places rise whatever is put in -/
/-! ### the walk by the table's places -/
section
variable {prog : Program} {w : World} {A : Around} {E : Value → Shared → Prop} {s : Shared} {a : Addr} {o : Obj} {es : Array (Int × Value)} {ep : Nat} {t : SetTable}
/-- where the walk stands behind i items -/
def stand (t : SetTable) (i : Nat) : Nat := match i with
  | 0 => 0
  | i + 1 => t.place.getD i 0 + 1
end
end L2
namespace L2
open PySem PySem.Spec PyProof.Rows
section
variable {prog : Program} {w : World} {A : Around} {E : Value → Shared → Prop} {s : Shared} {a : Addr} {o : Obj} {es : Array (Int × Value)} {ep : Nat} {t : SetTable}
end
end L2
namespace L2
open PySem PySem.Spec PyProof.Rows
section
variable {prog : Program} {w : World} {A : Around} {E : Value → Shared → Prop} {s : Shared} {a : Addr} {o : Obj} {es : Array (Int × Value)} {ep : Nat} {t : SetTable}
end
end L2
namespace L2
open PySem PySem.Spec PyProof.Rows PySem.W
/-! ### the sort, asked by a rank: it rises -/
section
variable {n : Nat} {f : Nat → Nat}
def kk (f : Nat → Nat) (p : Array Nat) (k : Nat) : Nat := f (p.getD k 0)
variable (hf : ∀ i j, i < n → j < n → f i = f j → i = j)
include hf
end
end L2
namespace L2
open PySem PySem.Spec PyProof.Rows
/-! ### sets of ints, the places of whose table rise -/
section
variable {prog : Program} {w : World} {A : Around} {E : Value → Shared → Prop} {s : Shared} {a : Addr} {S : Key → Bool} {n : Nat} {led : Bool}
end
section
variable {prog : Program} {w : World} {A : Around} {R : Result → Shared → Prop} {I : Addr} {fp wr : List Addr} {G : Array GenState → Array GenState → Prop} {n : Nat} {P : Nat → Value → Prop} {St : Nat → Shared → Prop} {led : Bool}
end
section
variable {prog : Program} {w : World} {A : Around} {E : Value → Shared → Prop} {s : Shared}
end
end L2
namespace L2
open PySem PySem.Spec PyProof.Rows
/-! ### how a set is searched: the steps go by the mask and the hash alone, and they come to every place -/
def tb (m : Nat) : SetTable := { SetTable.fresh 0 0 true with mask := m }
/-- the n-th step -/
def Pn (m : Nat) (h : Int) : Nat → SetTable.Probe
  | 0 => (tb m).probeStart h
  | n + 1 => (tb m).advance (Pn m h n)
/-- the base and the rest behind L leaps -/
def bs (m : Nat) (h : Int) : Nat → Nat × Nat
  | 0 => (SetTable.bits h % (m + 1), SetTable.bits h)
  | L + 1 => SetTable.leap m (bs m h L).1 (bs m h L).2
def lf (m i : Nat) : Nat := (i * 5 + 1) % (m + 1)
/-! ### what a search meets -/
end L2
namespace L2
open PySem PySem.Spec PyProof.Rows
/-! ### a table laid anew -/
/-- the place has an owner -/
def Own (o : Array (Option Nat)) (x : Nat) : Prop := (o.getD x (some 0)).isNone = false
/-- the owners behind so many hashes -/
structure Lay (m : Nat) (hs : List Int) (o : Array (Option Nat)) : Prop where
  size : o.size = m + 1
  perm : ((List.range (m + 1)).filterMap fun j => o.getD j none).Perm (List.range hs.length)
  rch : ∀ j k h, o.getD j none = some k → hs[k]? = some h → ∃ n, (Pn m h n).j = j ∧ ∀ c, c < n → Own o (Pn m h c).j
end L2
namespace L2
open PySem PySem.Spec PyProof.Rows
section
variable {prog : Program} {w : World} {A : Around} {E : Value → Shared → Prop} {s : Shared} {K : Type} [DecidableEq K] {knd : KeyKind prog w K}
variable (knd) in
end
end L2
namespace L2
open PySem PySem.Spec PyProof.Rows
section
variable {prog : Program} {w : World} {A : Around} {E : Value → Shared → Prop} {s : Shared} {K : Type} [DecidableEq K] {knd : KeyKind prog w K}
end
end L2
namespace L2
open PySem PySem.Spec PyProof.Rows
section
variable {prog : Program} {w : World} {A : Around} {E : Value → Shared → Prop} {s : Shared} {K : Type} [DecidableEq K] {knd : KeyKind prog w K}
end
end L2
namespace L2
open PySem PySem.Spec PyProof.Rows
section
variable {prog : Program} {w : World} {A : Around} {K : Type} [DecidableEq K] {knd : KeyKind prog w K} {I : Addr} {fp wr : List Addr} {G : Array GenState → Array GenState → Prop} {n : Nat} {P : Nat → Value → Prop} {St : Nat → Shared → Prop} {R : Result → Shared → Prop}
variable (knd) in
end
end L2
namespace L2
open PySem PySem.Spec PyProof.Rows
section
variable {prog : Program} {w : World} {A : Around} {E : Value → Shared → Prop} {s : Shared} {K : Type} [DecidableEq K] {knd : KeyKind prog w K}
end
end L2
namespace L2
open PySem PySem.Spec PyProof.Rows
end L2
namespace L2
open PySem PySem.Spec PyProof.Rows PySem.W HT
/-! ### sorted of tuples of ints: it rises -/
section
variable {prog : Program} {w : World} {A : Around} {E : Value → Shared → Prop} {s : Shared}
end
end L2
namespace L2
open PySem PySem.Spec PyProof.Rows PySem.W HT
section
variable {X : Cx} {k : Nat}
end
end L2
namespace L2
open PySem PySem.Spec PyProof.Rows
end L2
namespace L2
open PySem PySem.Spec PyProof.Rows
/-! ### one rule or another -/
section
variable {X : Cx}
theorem pi_or {tg l : Expr} {t1 t2 : TI} (h1 : PI X tg l t1) (h2 : PI X tg l t2) : PI X tg l (fun σ H R => t1 σ H R ∨ t2 σ H R) := fun pins s σ H R I h => h.elim (h1 pins s σ H R I) (h2 pins s σ H R I)
end
end L2
namespace L2
open PySem PySem.Spec PyProof.Rows
/-! ### how arguments bind, by their number -/
theorem len_cons {α : Type} {n : Nat} {us : List α} (h : us.length = n + 1) : ∃ u r, us = u :: r ∧ r.length = n := by
  cases us with
  | nil => cases h
  | cons u r => exact ⟨u, r, rfl, Nat.succ.inj h⟩
section
variable {K : PySem.W.Frag} {x qual : Str} {st : Stmt} {f : Addr} {fd : FuncData} {p1 p2 p3 p4 p5 : Str}
theorem Fun.b1 (F : Fun K x qual st f fd) (h : ∀ (kV doc pm : Value) (an : Option Addr) (cdv ct u1 : Value), bindArgs (PySem.W.fnOf x qual (defArgs st) (defBody st) (defScope st) .none kV doc pm an cdv ct) ⟨[u1], []⟩ = pure [(p1, u1)]) : Binds K fd [p1] [] := by
  refine F.binds fun kV doc pm an cdv ct us h0 => ?_
  obtain ⟨u1, r1, rfl, h1⟩ := len_cons (n := 0) h0
  cases List.length_eq_zero_iff.mp h1
  exact h kV doc pm an cdv ct u1
theorem Fun.b2 (F : Fun K x qual st f fd) (h : ∀ (kV doc pm : Value) (an : Option Addr) (cdv ct u1 u2 : Value), bindArgs (PySem.W.fnOf x qual (defArgs st) (defBody st) (defScope st) .none kV doc pm an cdv ct) ⟨[u1, u2], []⟩ = pure [(p1, u1), (p2, u2)]) : Binds K fd [p1, p2] [] := by
  refine F.binds fun kV doc pm an cdv ct us h0 => ?_
  obtain ⟨u1, r1, rfl, h1⟩ := len_cons (n := 1) h0
  obtain ⟨u2, r2, rfl, h2⟩ := len_cons (n := 0) h1
  cases List.length_eq_zero_iff.mp h2
  exact h kV doc pm an cdv ct u1 u2
theorem Fun.b3 (F : Fun K x qual st f fd) (h : ∀ (kV doc pm : Value) (an : Option Addr) (cdv ct u1 u2 u3 : Value), bindArgs (PySem.W.fnOf x qual (defArgs st) (defBody st) (defScope st) .none kV doc pm an cdv ct) ⟨[u1, u2, u3], []⟩ = pure [(p1, u1), (p2, u2), (p3, u3)]) : Binds K fd [p1, p2, p3] [] := by
  refine F.binds fun kV doc pm an cdv ct us h0 => ?_
  obtain ⟨u1, r1, rfl, h1⟩ := len_cons (n := 2) h0
  obtain ⟨u2, r2, rfl, h2⟩ := len_cons (n := 1) h1
  obtain ⟨u3, r3, rfl, h3⟩ := len_cons (n := 0) h2
  cases List.length_eq_zero_iff.mp h3
  exact h kV doc pm an cdv ct u1 u2 u3
theorem Fun.b4 (F : Fun K x qual st f fd) (h : ∀ (kV doc pm : Value) (an : Option Addr) (cdv ct u1 u2 u3 u4 : Value), bindArgs (PySem.W.fnOf x qual (defArgs st) (defBody st) (defScope st) .none kV doc pm an cdv ct) ⟨[u1, u2, u3, u4], []⟩ = pure [(p1, u1), (p2, u2), (p3, u3), (p4, u4)]) : Binds K fd [p1, p2, p3, p4] [] := by
  refine F.binds fun kV doc pm an cdv ct us h0 => ?_
  obtain ⟨u1, r1, rfl, h1⟩ := len_cons (n := 3) h0
  obtain ⟨u2, r2, rfl, h2⟩ := len_cons (n := 2) h1
  obtain ⟨u3, r3, rfl, h3⟩ := len_cons (n := 1) h2
  obtain ⟨u4, r4, rfl, h4⟩ := len_cons (n := 0) h3
  cases List.length_eq_zero_iff.mp h4
  exact h kV doc pm an cdv ct u1 u2 u3 u4
theorem Fun.b5 (F : Fun K x qual st f fd) (h : ∀ (kV doc pm : Value) (an : Option Addr) (cdv ct u1 u2 u3 u4 u5 : Value), bindArgs (PySem.W.fnOf x qual (defArgs st) (defBody st) (defScope st) .none kV doc pm an cdv ct) ⟨[u1, u2, u3, u4, u5], []⟩ = pure [(p1, u1), (p2, u2), (p3, u3), (p4, u4), (p5, u5)]) : Binds K fd [p1, p2, p3, p4, p5] [] := by
  refine F.binds fun kV doc pm an cdv ct us h0 => ?_
  obtain ⟨u1, r1, rfl, h1⟩ := len_cons (n := 4) h0
  obtain ⟨u2, r2, rfl, h2⟩ := len_cons (n := 3) h1
  obtain ⟨u3, r3, rfl, h3⟩ := len_cons (n := 2) h2
  obtain ⟨u4, r4, rfl, h4⟩ := len_cons (n := 1) h3
  obtain ⟨u5, r5, rfl, h5⟩ := len_cons (n := 0) h4
  cases List.length_eq_zero_iff.mp h5
  exact h kV doc pm an cdv ct u1 u2 u3 u4 u5
end
end L2
namespace L2
open PySem PySem.Spec PyProof.Rows
section
variable {K : PySem.W.Frag} {x qual : Str} {st : Stmt} {f : Addr} {fd : FuncData} {p1 p2 p3 p4 p5 p6 : Str}
theorem Fun.b6 (F : Fun K x qual st f fd) (h : ∀ (kV doc pm : Value) (an : Option Addr) (cdv ct u1 u2 u3 u4 u5 u6 : Value), bindArgs (PySem.W.fnOf x qual (defArgs st) (defBody st) (defScope st) .none kV doc pm an cdv ct) ⟨[u1, u2, u3, u4, u5, u6], []⟩ = pure [(p1, u1), (p2, u2), (p3, u3), (p4, u4), (p5, u5), (p6, u6)]) : Binds K fd [p1, p2, p3, p4, p5, p6] [] := by
  refine F.binds fun kV doc pm an cdv ct us h0 => ?_
  obtain ⟨u1, r1, rfl, h1⟩ := len_cons (n := 5) h0
  obtain ⟨u2, r2, rfl, h2⟩ := len_cons (n := 4) h1
  obtain ⟨u3, r3, rfl, h3⟩ := len_cons (n := 3) h2
  obtain ⟨u4, r4, rfl, h4⟩ := len_cons (n := 2) h3
  obtain ⟨u5, r5, rfl, h5⟩ := len_cons (n := 1) h4
  obtain ⟨u6, r6, rfl, h6⟩ := len_cons (n := 0) h5
  cases List.length_eq_zero_iff.mp h6
  exact h kV doc pm an cdv ct u1 u2 u3 u4 u5 u6
end
end L2
namespace L2
open PySem PySem.Spec PyProof.Rows
section
variable {P : Program} {w : World} {K : PySem.W.Frag} {mg : Str → Option Value} {base : Heap}
/-- a def that can be called by its name -/
def Cl (P : Program) (w : World) (K : PySem.W.Frag) (mg : Str → Option Value) (base : Heap) (n : Nat) (sp : Sp) (x : Str) : Prop := ∃ f d ps, FnOk P w K mg base CX0 n f d ps sp ∧ Binds K d ps [] ∧ PySem.W.keepIn K (.ref f) = true ∧ mg x = some (.ref f)
/-- a def of the text keeps its promise -/
def Okk (P : Program) (w : World) (K : PySem.W.Frag) (mg : Str → Option Value) (base : Heap) (x q : Str) (st : Stmt) (n : Nat) (ps : List Str) (sp : Sp) : Prop := ∀ {f : Addr} {d : FuncData}, Fun K x q st f d → FnOk P w K mg base CX0 n f d ps sp
theorem okk {x q : Str} {st : Stmt} {k : Nat} {ps : List Str} {sp : Sp} (N : List Str)
    (hb : ∀ {f : Addr} {cdv : Value} {A : Around} {outer : List Env} {s : Shared} {vs : List V} {E : XK} (H : Hp) (Q : VK), N.Nodup → Room k (A.deeper (envOfC q (defScope st) s.heap.objs.size f cdv)) → sp vs H Q E →
      ∃ t, PSs (cxOf CX0 P w K mg base N q (defScope st) f cdv A outer s H E).nox (defBody st) t ∧ t { nx := fun _ H' => Q .non H', rt := Q } (start N vs) H)
    (len : ∀ vs H Q E, sp vs H Q E → vs.length = ps.length := by intro _ _ _ _ h; (repeat obtain ⟨_, h⟩ := h); subst_vars; rfl)
    (S : FnScope N ps (defScope st) := by refine ⟨rfl, rfl, rfl, ?_, rfl, ?_, ?_⟩ <;> decide +kernel) : Okk P w K mg base x q st (k + 1) ps sp :=
  fun F => F.ok S len fun _ _ _ _ H _ Q _ hr h => hb H Q S.nd hr h
/-- where a def stands in the text -/
def DefAt (K : PySem.W.Frag) (x q : Str) (st : Stmt) (f : Addr) : Prop := ∃ (oc : Value) (od : Option Addr) (kV dc pm : Value) (an : Option Addr) (cd ct : Value) (sl : Array (Option Value)), K.lookup f = some ⟨oc, od, .func (PySem.W.fnOf x q (defArgs st) (defBody st) (defScope st) .none kV dc pm an cd ct), sl⟩ ∧ PySem.W.codeIn K cd q = true ∧ PySem.W.keepIn K (.ref f) = true
def TopAt (K : PySem.W.Frag) (x : Str) (st : Stmt) : Prop := ∃ f, PySem.W.nsIn K mainGlobals x = some (some (.ref f)) ∧ DefAt K x x st f
theorem DefAt.of {x q : Str} {st : Stmt} {f : Addr} {oc : Value} {od : Option Addr} {kV dc pm : Value} {an : Option Addr} {cd ct : Value} {sl : Array (Option Value)} (l : K.lookup f = some ⟨oc, od, .func (PySem.W.fnOf x q (defArgs st) (defBody st) (defScope st) .none kV dc pm an cd ct), sl⟩) (c : PySem.W.codeIn K cd q = true) (k : PySem.W.keepIn K (.ref f) = true) : DefAt K x q st f := ⟨_, _, _, _, _, _, _, _, _, l, c, k⟩
theorem TopAt.of {x : Str} {st : Stmt} {f : Addr} {oc : Value} {od : Option Addr} {kV dc pm : Value} {an : Option Addr} {cd ct : Value} {sl : Array (Option Value)} (a : PySem.W.nsIn K mainGlobals x = some (some (.ref f))) (l : K.lookup f = some ⟨oc, od, .func (PySem.W.fnOf x x (defArgs st) (defBody st) (defScope st) .none kV dc pm an cd ct), sl⟩) (c : PySem.W.codeIn K cd x = true) (k : PySem.W.keepIn K (.ref f) = true) : TopAt K x st := ⟨_, a, .of l c k⟩
theorem DefAt.fn {x q : Str} {st : Stmt} {f : Addr} : DefAt K x q st f → ∃ d, Fun K x q st f d
  | ⟨_, _, _, _, _, _, _, _, _, l, c, k⟩ => ⟨_, fun_mk l c k⟩
/-- the text as it is at hand -/
structure Zx (P : Program) (w : World) (K : PySem.W.Frag) (mg : Str → Option Value) (base : Heap) : Prop where
  ns : ∀ x u, PySem.W.nsIn K mainGlobals x = some (some u) → mg x = some u
  no : ∀ x, PySem.W.nsIn K mainGlobals x = some none → mg x = none
theorem Zx.of {h : Heap} (X : K.In h) (G : h.Ns mainGlobals mg) : Zx P w K mg base := ⟨fun _ _ e => PySem.W.mg_of X G e, fun _ e => PySem.W.mg_none_of X G e⟩
variable {x p1 p2 p3 p4 p5 p6 : Str} {st : Stmt} {n : Nat} {sp : Sp}
theorem Zx.cl (Z : Zx P w K mg base) (t : TopAt K x st) {ps : List Str} (ok : Okk P w K mg base x x st n ps sp) (b : ∀ {f d}, Fun K x x st f d → Binds K d ps []) : Cl P w K mg base n sp x :=
  let ⟨_, a, t⟩ := t; let ⟨_, F⟩ := t.fn; ⟨_, _, _, ok F, b F, F.kp, Z.ns _ _ a⟩
theorem Zx.c1 (Z : Zx P w K mg base) (t : TopAt K x st) (ok : Okk P w K mg base x x st n [p1] sp) (h : ∀ (kV doc pm : Value) (an : Option Addr) (cdv ct u1 : Value), bindArgs (PySem.W.fnOf x x (defArgs st) (defBody st) (defScope st) .none kV doc pm an cdv ct) ⟨[u1], []⟩ = pure [(p1, u1)] := by intros; rfl) : Cl P w K mg base n sp x := Z.cl t ok fun F => F.b1 h
theorem Zx.c2 (Z : Zx P w K mg base) (t : TopAt K x st) (ok : Okk P w K mg base x x st n [p1, p2] sp) (h : ∀ (kV doc pm : Value) (an : Option Addr) (cdv ct u1 u2 : Value), bindArgs (PySem.W.fnOf x x (defArgs st) (defBody st) (defScope st) .none kV doc pm an cdv ct) ⟨[u1, u2], []⟩ = pure [(p1, u1), (p2, u2)] := by intros; rfl) : Cl P w K mg base n sp x := Z.cl t ok fun F => F.b2 h
theorem Zx.c3 (Z : Zx P w K mg base) (t : TopAt K x st) (ok : Okk P w K mg base x x st n [p1, p2, p3] sp) (h : ∀ (kV doc pm : Value) (an : Option Addr) (cdv ct u1 u2 u3 : Value), bindArgs (PySem.W.fnOf x x (defArgs st) (defBody st) (defScope st) .none kV doc pm an cdv ct) ⟨[u1, u2, u3], []⟩ = pure [(p1, u1), (p2, u2), (p3, u3)] := by intros; rfl) : Cl P w K mg base n sp x := Z.cl t ok fun F => F.b3 h
theorem Zx.c4 (Z : Zx P w K mg base) (t : TopAt K x st) (ok : Okk P w K mg base x x st n [p1, p2, p3, p4] sp) (h : ∀ (kV doc pm : Value) (an : Option Addr) (cdv ct u1 u2 u3 u4 : Value), bindArgs (PySem.W.fnOf x x (defArgs st) (defBody st) (defScope st) .none kV doc pm an cdv ct) ⟨[u1, u2, u3, u4], []⟩ = pure [(p1, u1), (p2, u2), (p3, u3), (p4, u4)] := by intros; rfl) : Cl P w K mg base n sp x := Z.cl t ok fun F => F.b4 h
theorem Zx.c5 (Z : Zx P w K mg base) (t : TopAt K x st) (ok : Okk P w K mg base x x st n [p1, p2, p3, p4, p5] sp) (h : ∀ (kV doc pm : Value) (an : Option Addr) (cdv ct u1 u2 u3 u4 u5 : Value), bindArgs (PySem.W.fnOf x x (defArgs st) (defBody st) (defScope st) .none kV doc pm an cdv ct) ⟨[u1, u2, u3, u4, u5], []⟩ = pure [(p1, u1), (p2, u2), (p3, u3), (p4, u4), (p5, u5)] := by intros; rfl) : Cl P w K mg base n sp x := Z.cl t ok fun F => F.b5 h
theorem Zx.c6 (Z : Zx P w K mg base) (t : TopAt K x st) (ok : Okk P w K mg base x x st n [p1, p2, p3, p4, p5, p6] sp) (h : ∀ (kV doc pm : Value) (an : Option Addr) (cdv ct u1 u2 u3 u4 u5 u6 : Value), bindArgs (PySem.W.fnOf x x (defArgs st) (defBody st) (defScope st) .none kV doc pm an cdv ct) ⟨[u1, u2, u3, u4, u5, u6], []⟩ = pure [(p1, u1), (p2, u2), (p3, u3), (p4, u4), (p5, u5), (p6, u6)] := by intros; rfl) : Cl P w K mg base n sp x := Z.cl t ok fun F => F.b6 h
end
section
variable {X : Cx} {x : Str} {p pos pos' : Pos} {e : Expr} {es : List Expr} {t : TA} {te : TE}
theorem pcl {k : Nat} {sp : Sp} (C : Cl X.prog X.w X.K X.mg X.base k sp x) {n : Nat} (hr : Room n X.A) (ha : PA X (e :: es) t) (hn : k ≤ n := by first | decide | omega) (hg : Gl X x := by rfl) (hdb : (x == ("__debug__" : Str)) = false := by decide) (he : starEach (e :: es) X.env = (false, eval e X.env) :: starEach es X.env := by rfl)
    (hpl : (backTo pos (starEach es X.env)).any (·.1) = false := by rfl) : PE X (.Call (.Name x p) (e :: es) [] pos) (tCall sp [] E0 t) := let ⟨_, _, _, g, b, k, m⟩ := C; pe_call g (hr.mono hn) hg m k b .nil pass0 ha hdb he hpl
theorem psq (i : Nat) {rest : List Stmt} {u : TS} (hN : X.N.Nodup) (he : PE X e te) (h2 : PSs X rest u) (hi : X.N[i]? = some x := by rfl) (hx : Loc X.env.scope x := by first | exact Or.inl rfl | exact Or.inr rfl) (hs : swapsWith e (some (.Name x pos')) pos.line X.env = pure false := by rfl)
    (hf : X.fn x = true ∨ X.env.scope.names.lookup x = some .local := by first | exact .inl rfl | exact .inr rfl | assumption) : PSs X (.Assign [.Name x pos'] e pos :: rest) (tSeq (tAsg te (gName i)) u) := pss_cons (ps_set hN hi hx he hs hf) h2
theorem psz (i : Nat) (hN : X.N.Nodup) (he : PE X e te) (hi : X.N[i]? = some x := by rfl) (hx : Loc X.env.scope x := by first | exact Or.inl rfl | exact Or.inr rfl) (hs : swapsWith e (some (.Name x pos')) pos.line X.env = pure false := by rfl)
    (hf : X.fn x = true ∨ X.env.scope.names.lookup x = some .local := by first | exact .inl rfl | exact .inr rfl | assumption) : PS X (.Assign [.Name x pos'] e pos) (tAsg te (gName i)) := ps_set hN hi hx he hs hf
theorem pgn (i : Nat) (hN : X.N.Nodup := by dsimp only [compCx]; decide +kernel) (hi : X.N[i]? = some x := by rfl) (hx : Loc X.env.scope x := by first | exact Or.inl rfl | exact Or.inr rfl) (hf : X.fn x = true ∨ X.env.scope.names.lookup x = some .local := by first | exact .inl rfl | exact .inr rfl | assumption) : PG X (.Name x pos) (gName i) := pg_name hN hi hx hf
theorem pfr {tg iter : Expr} {body : List Stmt} {wi : TI} {g : TG} {tb : TS} (hi : PI X tg iter wi) (hg : PG X tg g) (hb : PSs X body tb) (hp : PassesOwn (model X.prog X.w) X.A X.env X.xe := by exact PassesOwn.never) (hc : X.calm = true := by rfl)
    (hs : ∀ x, foldedSetIterable iter X.env x = pure x := by intro _; rfl) : PS X (.For tg iter body [] pos) (tFor wi g tb) := ps_for hp hc hi hg hb hs
variable {id T : String} {r : List V → Hp → VK → Prop}
theorem pcb (hc : CallR X (.builtin id) r) (hm : X.mg x = none) (hv : bootBuiltins x = some (.builtin id)) (ha : PA X (e :: es) t) (hg : Gl X x := by rfl) (hn : x ≠ "__name__" := by decide) (hdb : (x == ("__debug__" : Str)) = false := by decide)
    (he : starEach (e :: es) X.env = (false, eval e X.env) :: starEach es X.env := by rfl) (hpl : (backTo pos (starEach es X.env)).any (·.1) = false := by rfl) : PE X (.Call (.Name x p) (e :: es) [] pos) (tCB r t) := pe_callB hc hg hm hv ha hn hdb he hpl
theorem pct (hc : CallR X (.type T) r) (hm : X.mg x = none) (hv : bootBuiltins x = some (.type T)) (ha : PA X (e :: es) t) (hg : Gl X x := by rfl) (hn : x ≠ "__name__" := by decide) (hdb : (x == ("__debug__" : Str)) = false := by decide)
    (he : starEach (e :: es) X.env = (false, eval e X.env) :: starEach es X.env := by rfl) (hpl : (backTo pos (starEach es X.env)).any (·.1) = false := by rfl) : PE X (.Call (.Name x p) (e :: es) [] pos) (tCB r t) := pe_callTy hc hg hm hv ha hn hdb he hpl
variable {a b : Expr} {ta tb : TE}
theorem pix {r : R2} (hr : IxR X r) (ha : PE X a ta) (hb : PE X b tb) (hs : PlainIx b := by exact fun _ _ => rfl) : PE X (.Subscript a b pos) (tOp r ta tb) := pe_ix hr ha hb hs
theorem ptc {op : CmpOp} {r : R2} (ho : OpR X (compareOp op) r) (ha : PE X a ta) (hb : PE X b tb) (hm : behindInMarks op b = false := by first | exact nomark _ | rfl) : PT X (.Compare a [op] [b] pos) (tTest (tOp r ta tb)) := pt_cmpR ho ha hb hm
theorem pec {op : CmpOp} {r : R2} (ho : OpR X (compareOp op) r) (ha : PE X a ta) (hb : PE X b tb) (hm : behindInMarks op b = false := by first | exact nomark _ | rfl) : PE X (.Compare a [op] [b] pos) (tOp r ta tb) := pe_cmpR ho ha hb hm
theorem pdg (hu : X.A.units + 1 < cLine) (ho : PE X a ta) (hi : PE X b tb) (hs : NoSl b := by exact fun _ _ => rfl) : PE X (.Subscript a b pos) (tDGet ta tb) := pe_dget hu ho hi hs
theorem pdp {tv : TE} (hu : X.A.units + 1 < cLine) (ho : PE X a ta) (hi : PE X b tb) (hv : PE X e tv) (hs : swapsWith e (some (.Subscript a b pos')) pos.line X.env = pure false := by rfl) : PS X (.Assign [.Subscript a b pos'] e pos) (sDPut ta tb tv) := ps_dput hu ho hi hv hs
theorem pa1 (ha : PE X a ta) (h : starEach [a] X.env = [(false, eval a X.env)] := by rfl) : PA X [a] (tCons ta tNil) := pa_cons ha pa_nil h
end
end L2
namespace Mine
open PySem L2
/-! ### how a laying lies in the heap -/
structure LyT (K : PySem.W.Frag) (C : Addr) : Prop where
  cl : Cls K C
  n1 : NoAttr K C "one_left"
  n2 : NoAttr K C "other_left"
  n3 : NoAttr K C "partners"
  n4 : NoAttr K C "givers"
  n5 : NoAttr K C "laid"
def lyF (a b g v d : Addr) : List (Str × V) := [("one_left", .ref a), ("other_left", .ref b), ("partners", .ref g), ("givers", .ref v), ("laid", .ref d)]
theorem ly_put (a b g v d : Addr) : putF "laid" (.ref d) (putF "givers" (.ref v) (putF "partners" (.ref g) (putF "other_left" (.ref b) (putF "one_left" (.ref a) [])))) = lyF a b g v d := by
  have h1 : ¬ (("one_left" : Str) = "other_left") := by decide +kernel
  have h2 : ¬ (("one_left" : Str) = "partners") := by decide +kernel
  have h3 : ¬ (("other_left" : Str) = "partners") := by decide +kernel
  have h4 : ¬ (("one_left" : Str) = "givers") := by decide +kernel
  have h5 : ¬ (("other_left" : Str) = "givers") := by decide +kernel
  have h6 : ¬ (("partners" : Str) = "givers") := by decide +kernel
  have h7 : ¬ (("one_left" : Str) = "laid") := by decide +kernel
  have h8 : ¬ (("other_left" : Str) = "laid") := by decide +kernel
  have h9 : ¬ (("partners" : Str) = "laid") := by decide +kernel
  have h0 : ¬ (("givers" : Str) = "laid") := by decide +kernel
  simp only [putF, if_neg h1, if_neg h2, if_neg h3, if_neg h4, if_neg h5, if_neg h6, if_neg h7, if_neg h8, if_neg h9, if_neg h0, lyF]
theorem ly_at (a b g v d : Addr) : (lyF a b g v d).lookup ("one_left" : Str) = some (.ref a) ∧ (lyF a b g v d).lookup ("other_left" : Str) = some (.ref b) ∧ (lyF a b g v d).lookup ("partners" : Str) = some (.ref g) ∧ (lyF a b g v d).lookup ("givers" : Str) = some (.ref v) ∧ (lyF a b g v d).lookup ("laid" : Str) = some (.ref d) := by
  rw [← ly_put]
  simp only [lookup_putF]
  refine ⟨?_, ?_, ?_, ?_, ?_⟩
  · rw [if_neg (by decide +kernel), if_neg (by decide +kernel), if_neg (by decide +kernel), if_neg (by decide +kernel), if_pos trivial]
  · rw [if_neg (by decide +kernel), if_neg (by decide +kernel), if_neg (by decide +kernel), if_pos trivial]
  · rw [if_neg (by decide +kernel), if_neg (by decide +kernel), if_pos trivial]
  · rw [if_neg (by decide +kernel), if_pos trivial]
  · rw [if_pos trivial]
/-! groups -/
def gK (es : List (Int × Addr)) : List (Key × V) := es.map fun e => (.inl e.1, .ref e.2)
structure Grp (H : Hp) (g : Addr) (prs : List (Int × Int)) (es : List (Int × Addr)) : Prop where
  d : H g = some (.dK (gK es))
  n : (es.map (·.2)).Nodup
  m : (es.map (·.1)).Nodup
  z : es.length ≤ prs.length
  l : ∀ e ∈ es, H e.2 = some (.lst ((partsOf prs e.1).map V.int))
  k : ∀ x, x ∉ es.map (·.1) → partsOf prs x = []
theorem parts_snoc (prs : List (Int × Int)) (x y k : Int) : partsOf (prs ++ [(x, y)]) k = if x = k then partsOf prs k ++ [y] else partsOf prs k := by
  unfold partsOf
  rw [List.filter_append, List.map_append]
  by_cases c : x = k
  · rw [if_pos c]; simp [List.filter_cons, c]
  · rw [if_neg c]; simp [List.filter_cons, c]
theorem gK_val : ∀ {es : List (Int × Addr)} {x : Int} {r : Addr}, (es.map (·.1)).Nodup → (x, r) ∈ es → valV (gK es) (Sum.inl x) = some (.ref r)
  | e :: es, x, r, nd, h => by
    have nd := List.nodup_cons.mp nd
    rcases List.mem_cons.mp h with q | q
    · subst q
      exact valV_pos (p := ((Sum.inl x : Key), V.ref r)) rfl
    · have ne : e.1 ≠ x := fun z => nd.1 (List.mem_map.mpr ⟨(x, r), q, z.symm⟩)
      refine (valV_neg (p := ((Sum.inl e.1 : Key), V.ref e.2)) (r := gK es) (k := Sum.inl x) (fun z => ne (Sum.inl.inj z))).trans (gK_val nd.2 q)
theorem gK_none : ∀ {es : List (Int × Addr)} {x : Int}, x ∉ es.map (·.1) → valV (gK es) (Sum.inl x) = none
  | [], _, _ => rfl
  | e :: es, x, h => by
    rw [List.map_cons, List.mem_cons, not_or] at h
    exact (valV_neg (p := ((Sum.inl e.1 : Key), V.ref e.2)) (r := gK es) (k := Sum.inl x) (fun z => h.1 (Sum.inl.inj z).symm)).trans (gK_none h.2)
theorem gK_new {es : List (Int × Addr)} {x : Int} {r : Addr} (h : x ∉ es.map (·.1)) : putK (gK es) (Sum.inl x) (.ref r) = gK (es ++ [(x, r)]) := by
  rw [putK_new _ (gK_none h)]
  unfold gK
  rw [List.map_append]
  rfl
theorem Grp.ne {H : Hp} {g : Addr} {prs : List (Int × Int)} {es : List (Int × Addr)} (G : Grp H g prs es) : ∀ e ∈ es, e.2 ≠ g := fun e he => ne_of (G.l e he) G.d (by intro z; cases z)
theorem Grp.keep {H H' : Hp} {g : Addr} {prs : List (Int × Int)} {es : List (Int × Addr)} (G : Grp H g prs es) (h0 : ∀ o, H g = some o → H' g = some o) (h1 : ∀ e ∈ es, ∀ o, H e.2 = some o → H' e.2 = some o) : Grp H' g prs es :=
  ⟨h0 _ G.d, G.n, G.m, G.z, fun e he => h1 e he _ (G.l e he), G.k⟩
theorem pair_one {es : List (Int × Addr)} (m : (es.map (·.2)).Nodup) {e f : Int × Addr} (he : e ∈ es) (hf : f ∈ es) (h : e.2 = f.2) : e = f := by
  induction es with
  | nil => exact absurd he List.not_mem_nil
  | cons a es ih =>
    have m := List.nodup_cons.mp m
    rcases List.mem_cons.mp he with x | x <;> rcases List.mem_cons.mp hf with y | y
    · rw [x, y]
    · exact absurd (List.mem_map.mpr ⟨f, y, by rw [← h, x]⟩) m.1
    · exact absurd (List.mem_map.mpr ⟨e, x, by rw [h, y]⟩) m.1
    · exact ih m.2 x y
theorem pair_fst {es : List (Int × Addr)} (m : (es.map (·.1)).Nodup) {e f : Int × Addr} (he : e ∈ es) (hf : f ∈ es) (h : e.1 = f.1) : e = f := by
  induction es with
  | nil => exact absurd he List.not_mem_nil
  | cons a es ih =>
    have m := List.nodup_cons.mp m
    rcases List.mem_cons.mp he with x | x <;> rcases List.mem_cons.mp hf with y | y
    · rw [x, y]
    · exact absurd (List.mem_map.mpr ⟨f, y, by rw [← h, x]⟩) m.1
    · exact absurd (List.mem_map.mpr ⟨e, x, by rw [h, y]⟩) m.1
    · exact ih m.2 x y
/-- one more partner of a key that is there -/
theorem Grp.old {H : Hp} {g r : Addr} {prs : List (Int × Int)} {es : List (Int × Addr)} {x y : Int} (G : Grp H g prs es) (h : (x, r) ∈ es) : Grp (upd H r (.lst ((partsOf prs x).map V.int ++ [.int y]))) g (prs ++ [(x, y)]) es := by
  refine ⟨by rw [upd_ne (G.ne _ h).symm]; exact G.d, G.n, G.m, Nat.le_trans G.z (by simp), fun e he => ?_, fun k hk => ?_⟩
  · rw [parts_snoc]
    by_cases c : e.2 = r
    · have q : e = (x, r) := pair_one G.n he h c
      subst q
      rw [upd_same, if_pos rfl, List.map_append]
      rfl
    · rw [upd_ne c, if_neg fun z => c (congrArg (·.2) (pair_fst G.m he h z.symm))]
      exact G.l e he
  · rw [parts_snoc, if_neg fun z => hk (by rw [← z]; exact List.mem_map.mpr ⟨_, h, rfl⟩)]
    exact G.k k hk
/-- a new key -/
theorem Grp.new {H : Hp} {g z : Addr} {prs : List (Int × Int)} {es : List (Int × Addr)} {x y : Int} (G : Grp H g prs es) (hx : x ∉ es.map (·.1)) (zg : z ≠ g) (hz : ∀ e ∈ es, e.2 ≠ z) : Grp (upd (upd H g (.dK (putK (gK es) (Sum.inl x) (.ref z)))) z (.lst [.int y])) g (prs ++ [(x, y)]) (es ++ [(x, z)]) := by
  refine ⟨by rw [upd_ne zg.symm, upd_same, gK_new hx], ?_, ?_, by rw [List.length_append, List.length_append]; exact Nat.add_le_add_right G.z 1, fun e he => ?_, fun k hk => ?_⟩
  · rw [List.map_append]
    exact nodup_snoc G.n fun q => by
      obtain ⟨e, he, q⟩ := List.mem_map.mp q
      exact hz e he q
  · rw [List.map_append]
    exact nodup_snoc G.m hx
  · rw [parts_snoc]
    rcases List.mem_append.mp he with q | q
    · rw [upd_ne (hz e q), upd_ne (G.ne e q), if_neg fun w => hx (by rw [w]; exact List.mem_map.mpr ⟨e, q, rfl⟩)]
      exact G.l e q
    · rw [List.mem_singleton.mp q, upd_same, if_pos rfl, G.k x hx]
      rfl
  · rw [List.map_append, List.mem_append, not_or] at hk
    rw [parts_snoc, if_neg fun w => hk.2 (by rw [← w]; exact List.mem_singleton.mpr rfl)]
    exact G.k k hk.1
/-- a row of pairs of ints, as a list or as a tuple -/
def SqE (K : PySem.W.Frag) (H : Hp) (p : Addr) (ws : List V) : Prop := SqL K H p ws ∨ SqT K H p ws
def spGrp (K : PySem.W.Frag) : Sp := fun vs H Q _ => ∃ (p : Addr) (ws : List V) (prs : List (Int × Int)), vs = [.ref p] ∧ SqE K H p ws ∧ Prs H ws prs ∧ prs.length ≤ 1000 ∧ ∀ H' g es, Same H H' → H g = none → Grp H' g prs es → (∀ e ∈ es, H e.2 = none) → Q (.ref g) H'
def intD (ks : List Int) (f : Int → Int) : List (Key × V) := ks.map fun k => (.inl k, .int (f k))
def prD (prs : List (Int × Int)) (l : Int × Int → Int) : List (List Key × V) := prs.map fun e => ([.inl e.1, .inl e.2], .int (l e))
theorem intD_val {ks : List Int} {f : Int → Int} {x : Int} (h : x ∈ ks) : valV (intD ks f) (Sum.inl x) = some (.int (f x)) := by
  induction ks with
  | nil => exact absurd h List.not_mem_nil
  | cons k ks ih =>
    by_cases c : k = x
    · subst c; exact valV_pos (p := ((Sum.inl k : Key), V.int (f k))) rfl
    · exact (valV_neg (p := ((Sum.inl k : Key), V.int (f k))) (r := intD ks f) (k := Sum.inl x) (fun z => c (Sum.inl.inj z))).trans (ih ((List.mem_cons.mp h).resolve_left fun z => c z.symm))
theorem intD_put {ks : List Int} {f : Int → Int} {x v : Int} (h : x ∈ ks) : putK (intD ks f) (Sum.inl x) (.int v) = intD ks fun k => if k = x then v else f k := by
  unfold putK
  rw [if_pos (by rw [valV_any, intD_val h]; rfl)]
  unfold intD
  rw [List.map_map]
  refine List.map_congr_left fun k _ => ?_
  show (if ((Sum.inl k : Key) = Sum.inl x) then ((Sum.inl k : Key), V.int v) else (Sum.inl k, V.int (f k))) = _
  by_cases c : k = x
  · subst c; simp
  · rw [if_neg (fun z => c (Sum.inl.inj z))]; dsimp only; rw [if_neg c]
theorem key_two {x y u v : Int} (h : ([Sum.inl x, Sum.inl y] : List Key) = [Sum.inl u, Sum.inl v]) : (x, y) = (u, v) := by
  injection h with a b
  injection b with b c
  rw [Sum.inl.inj a, Sum.inl.inj b]
theorem prD_val {prs : List (Int × Int)} {l : Int × Int → Int} {e : Int × Int} (h : e ∈ prs) : valV (prD prs l) [Sum.inl e.1, Sum.inl e.2] = some (.int (l e)) := by
  induction prs with
  | nil => exact absurd h List.not_mem_nil
  | cons k ks ih =>
    by_cases c : k = e
    · subst c; exact valV_pos (p := (([Sum.inl k.1, Sum.inl k.2] : List Key), V.int (l k))) rfl
    · exact (valV_neg (p := (([Sum.inl k.1, Sum.inl k.2] : List Key), V.int (l k))) (r := prD ks l) (k := [Sum.inl e.1, Sum.inl e.2]) (fun z => c (key_two z))).trans (ih ((List.mem_cons.mp h).resolve_left fun z => c z.symm))
theorem prD_put {prs : List (Int × Int)} {l : Int × Int → Int} {e : Int × Int} {v : Int} (h : e ∈ prs) : putK (prD prs l) [Sum.inl e.1, Sum.inl e.2] (.int v) = prD prs fun k => if k = e then v else l k := by
  unfold putK
  rw [if_pos (by rw [valV_any, prD_val h]; rfl)]
  unfold prD
  rw [List.map_map]
  refine List.map_congr_left fun k _ => ?_
  show (if (([Sum.inl k.1, Sum.inl k.2] : List Key) = [Sum.inl e.1, Sum.inl e.2]) then (([Sum.inl k.1, Sum.inl k.2] : List Key), V.int v) else ([Sum.inl k.1, Sum.inl k.2], V.int (l k))) = _
  by_cases c : k = e
  · subst c; simp
  · rw [if_neg (fun z => c (key_two z))]; dsimp only; rw [if_neg c]
/-- a laying: what is left of either side, the partners, what is laid -/
structure LyH (C : Addr) (H : Hp) (x : Addr) (a b g v d : Addr) (prs : List (Int × Int)) (ks qs : List Int) (S : Lay Int) : Prop where
  ob : ∃ dx, H x = some (.ins C dx (lyF a b g v d))
  o : H a = some (.dK (intD ks S.o))
  p : H b = some (.dK (intD qs S.p))
  l : H d = some (.dT (prD prs S.l))
  gp : ∃ es, Grp H g prs es
  gv : ∃ es, Grp H v (prs.map fun e => (e.2, e.1)) es
  ab : a ≠ b
  ag : a ≠ g
  av : a ≠ v
  bg : b ≠ g
  bv : b ≠ v
theorem give_parts (prs : List (Int × Int)) (y : Int) : giveOf prs y = partsOf (prs.map fun e => (e.2, e.1)) y := by
  unfold giveOf partsOf
  rw [List.filter_map, List.map_map]
  rfl
end Mine
namespace Mine
open PySem L2
theorem prs_at {H : Hp} : ∀ {vs : List V} {ps : List (Int × Int)} {i : Nat} {v : V}, Prs H vs ps → vs[i]? = some v → ∃ a x y, v = .ref a ∧ H a = some (.tup [.int x, .int y]) ∧ ps[i]? = some (x, y)
  | [], [], _, _, _, h => by simp at h
  | v :: vs, p :: ps, 0, _, ⟨⟨a, e, h⟩, _⟩, q => by
    simp at q
    exact ⟨a, p.1, p.2, by rw [← q, e], h, rfl⟩
  | v :: vs, p :: ps, i + 1, u, ⟨_, r⟩, q => by
    obtain ⟨a, x, y, e, h, z⟩ := prs_at (i := i) r (by simpa using q)
    exact ⟨a, x, y, e, h, by simpa using z⟩
  | [], _ :: _, _, _, z, _ => z.elim
  | _ :: _, [], _, _, z, _ => z.elim
theorem same_tupK {K : PySem.W.Frag} {H H' : Hp} {a : Addr} {xs : List V} (s : Same H H') (h : SqT K H a xs) : SqT K H' a xs := by
  rcases h with (h | ⟨o, h⟩) | h
  · exact .inl (.inl (s _ _ h))
  · exact .inl (.inr ⟨o, s _ _ h⟩)
  · exact .inr h
/-- what the loop of groups keeps -/
structure GpI (H G : Hp) (g : Addr) (prs : List (Int × Int)) (i : Nat) (es : List (Int × Addr)) : Prop where
  s : Same H G
  q : Grp G g (prs.take i) es
  f : ∀ e ∈ es, H e.2 = none
theorem GpI.start {H : Hp} {g : Addr} {prs : List (Int × Int)} (hg : H g = none) : GpI H (upd H g (.dK [])) g prs 0 [] :=
  ⟨same_new hg _, ⟨upd_same, List.nodup_nil, List.nodup_nil, Nat.zero_le _, fun _ h => absurd h List.not_mem_nil, fun _ _ => rfl⟩, fun _ h => absurd h List.not_mem_nil⟩
theorem same_upd {H G : Hp} {a : Addr} {o : HO} (s : Same H G) (h : H a = none) : Same H (upd G a o) := fun b u e => by rw [upd_ne (ne_of_none e h)]; exact s b u e
/-- the list that was laid for nothing stays in the heap -/
theorem GpI.old {H G : Hp} {g z r : Addr} {prs : List (Int × Int)} {i : Nat} {es : List (Int × Addr)} {x y : Int} (I : GpI H G g prs i es) (hz : G z = none) (h : (x, r) ∈ es) (hi : prs[i]? = some (x, y)) :
    GpI H (upd (upd G z (.lst [])) r (.lst ((partsOf (prs.take i) x).map V.int ++ [.int y]))) g prs (i + 1) es := by
  refine ⟨same_upd (I.s.trans (same_new hz _)) (I.f _ h), ?_, I.f⟩
  rw [take_snoc hi]
  exact (I.q.keep (fun o e => same_new hz _ _ _ e) fun _ _ o e => same_new hz _ _ _ e).old h
theorem GpI.new {H G : Hp} {g z : Addr} {prs : List (Int × Int)} {i : Nat} {es : List (Int × Addr)} {x y : Int} (I : GpI H G g prs i es) (hg : H g = none) (hz : G z = none) (hx : x ∉ es.map (·.1)) (hi : prs[i]? = some (x, y)) :
    GpI H (upd (upd (upd G z (.lst [])) g (.dK (putK (gK es) (Sum.inl x) (.ref z)))) z (.lst [.int y])) g prs (i + 1) (es ++ [(x, z)]) := by
  have z0 := I.s.free hz
  refine ⟨same_upd (same_upd (I.s.trans (same_new hz _)) hg) z0, ?_, fun e he => ?_⟩
  · rw [take_snoc hi]
    have zg : z ≠ g := (ne_of_none I.q.d hz).symm
    exact (I.q.keep (fun o e => same_new hz (.lst []) _ _ e) fun _ _ o e => same_new hz (.lst []) _ _ e).new hx zg fun e he => ne_of_none (I.q.l e he) hz
  · rcases List.mem_append.mp he with q | q
    · exact I.f e q
    · rw [List.mem_singleton.mp q]; exact z0
end Mine
namespace Mine
open PySem L2
/-! ### the least common bottom -/
def lcI (b d : Int) : Int := b * d / gI b d
theorem lcI_eq {b d : Int} (hb : 0 ≤ b) (hd : 0 ≤ d) : lcI b d = (Nat.lcm b.toNat d.toNat : Nat) := by
  obtain ⟨x, rfl⟩ := Int.eq_ofNat_of_zero_le hb
  obtain ⟨y, rfl⟩ := Int.eq_ofNat_of_zero_le hd
  unfold lcI gI Nat.lcm
  rw [Int.toNat_natCast, Int.toNat_natCast, ← Int.natCast_mul, Int.natCast_ediv]
theorem lcI_ok {b d M : Int} (hb : 1 ≤ b) (hd : 1 ≤ d) : 1 ≤ lcI b d ∧ b ∣ lcI b d ∧ d ∣ lcI b d ∧ (b ∣ M → d ∣ M → lcI b d ∣ M) := by
  have e := lcI_eq (show 0 ≤ b by omega) (show 0 ≤ d by omega)
  obtain ⟨x, rfl⟩ := Int.eq_ofNat_of_zero_le (show 0 ≤ b by omega)
  obtain ⟨y, rfl⟩ := Int.eq_ofNat_of_zero_le (show 0 ≤ d by omega)
  rw [Int.toNat_natCast, Int.toNat_natCast] at e
  rw [e]
  have p : 0 < Nat.lcm x y := Nat.lcm_pos (by omega) (by omega)
  refine ⟨by omega, Int.natCast_dvd_natCast.mpr (Nat.dvd_lcm_left x y), Int.natCast_dvd_natCast.mpr (Nat.dvd_lcm_right x y), fun h1 h2 => ?_⟩
  exact Int.dvd_natAbs.mp (Int.natCast_dvd_natCast.mpr (Nat.lcm_dvd (Int.natCast_dvd_natCast.mp (Int.dvd_natAbs.mpr h1)) (Int.natCast_dvd_natCast.mp (Int.dvd_natAbs.mpr h2))))
def lcmL (fs : List (Int × Int)) : Int := fs.foldl (fun b u => lcI b u.2) 1
theorem lcmL_snoc (fs : List (Int × Int)) (u : Int × Int) : lcmL (fs ++ [u]) = lcI (lcmL fs) u.2 := by unfold lcmL; rw [List.foldl_append]; rfl
theorem lcmL_take {fs : List (Int × Int)} {M : Int} (h1 : ∀ u ∈ fs, 1 ≤ u.2) (hM : ∀ u ∈ fs, u.2 ∣ M) : ∀ i, 1 ≤ lcmL (fs.take i) ∧ (∀ u ∈ fs.take i, u.2 ∣ lcmL (fs.take i)) ∧ lcmL (fs.take i) ∣ M
  | 0 => ⟨Int.le_refl 1, fun _ h => absurd h List.not_mem_nil, Int.one_dvd M⟩
  | i + 1 => by
    obtain ⟨a, b, c⟩ := lcmL_take h1 hM i
    cases e : fs[i]? with
    | none =>
      have l := List.getElem?_eq_none_iff.mp e
      rw [List.take_of_length_le (show fs.length ≤ i + 1 by omega)]
      rw [List.take_of_length_le l] at a b c
      exact ⟨a, b, c⟩
    | some u =>
      have hu := List.mem_of_getElem? e
      rw [take_snoc e, lcmL_snoc]
      obtain ⟨p1, p2, p3, p4⟩ := lcI_ok (M := M) a (h1 u hu)
      refine ⟨p1, fun v hv => ?_, p4 c (hM u hu)⟩
      rcases List.mem_append.mp hv with q | q
      · exact Int.dvd_trans (b v q) p2
      · rw [List.mem_singleton.mp q]; exact p3
theorem bits_dvd {n : Nat} {b M : Int} (h : b ∣ M) (h0 : 1 ≤ M) (hM : Bits n M) : Bits n b := by
  unfold Bits at *
  exact Nat.lt_of_le_of_lt (Nat.le_of_dvd (by omega) (Int.natAbs_dvd_natAbs.mpr h)) hM
def FrE (H : Hp) (v : V) (u : Int × Int) : Prop := ∃ q, v = .ref q ∧ TupAt H q u.1 u.2
def spCom (K : PySem.W.Frag) : Sp := fun vs H Q _ => ∃ (p : Addr) (ws : List V) (fs : List (Int × Int)) (M : Int), vs = [.ref p] ∧ SqL K H p ws ∧ Two (FrE H) ws fs ∧ (∀ u ∈ fs, 1 ≤ u.2) ∧ (∀ u ∈ fs, u.2 ∣ M) ∧ 1 ≤ M ∧ Bits 2000 M ∧ Q (.int (lcmL fs)) H
def amtI (u : Int × Int) (b : Int) : Int := u.1 * (b / u.2)
def spAmt : Sp := fun vs H Q _ => ∃ (p : Addr) (u : Int × Int) (b : Int), vs = [.ref p, .int b] ∧ TupAt H p u.1 u.2 ∧ 1 ≤ u.2 ∧ Bits 2000 u.1 ∧ Bits 2000 u.2 ∧ 0 ≤ b ∧ Bits 2000 b ∧ Q (.int (amtI u b)) H
theorem bits_div {n : Nat} {b d : Int} (hb : Bits n b) (h0 : 0 ≤ b) (hd : 1 ≤ d) : Bits n (b / d) := by
  have l := Int.ediv_le_self d h0
  have g := Int.ediv_nonneg h0 (show 0 ≤ d by omega)
  unfold Bits at *
  omega
end Mine
namespace Mine
open PySem L2
/-! ### a dict of amounts -/
def amF (es : List (Int × Int × Int)) (b k : Int) : Int := match es.find? fun e => decide (e.1 = k) with
  | some e => amtI e.2 b
  | none => 0
theorem amF_at {es : List (Int × Int × Int)} {b : Int} (nd : (es.map (·.1)).Nodup) {e : Int × Int × Int} (h : e ∈ es) : amF es b e.1 = amtI e.2 b := by
  unfold amF
  have : es.find? (fun x => decide (x.1 = e.1)) = some e := by
    induction es with
    | nil => exact absurd h List.not_mem_nil
    | cons a r ih =>
      have nd := List.nodup_cons.mp nd
      rcases List.mem_cons.mp h with q | q
      · subst q; rw [List.find?_cons_of_pos (by simp)]
      · have ne : ¬ a.1 = e.1 := fun z => nd.1 (List.mem_map.mpr ⟨e, q, z.symm⟩)
        rw [List.find?_cons_of_neg (by simpa using ne)]
        exact ih nd.2 q
  rw [this]
def amK (es : List (Int × Int × Int)) (b : Int) : List (Key × V) := es.map fun e => (.inl e.1, .int (amtI e.2 b))
theorem amK_eq {es : List (Int × Int × Int)} {b : Int} (nd : (es.map (·.1)).Nodup) : amK es b = intD (es.map (·.1)) (amF es b) := by
  unfold amK intD
  rw [List.map_map]
  exact List.map_congr_left fun e he => by
    show ((Sum.inl e.1 : Key), V.int (amtI e.2 b)) = (Sum.inl e.1, V.int (amF es b e.1))
    rw [amF_at nd he]
theorem amK_none {es : List (Int × Int × Int)} {b x : Int} (h : x ∉ es.map (·.1)) : valV (amK es b) (Sum.inl x) = none := by
  induction es with
  | nil => rfl
  | cons e es ih =>
    rw [List.map_cons, List.mem_cons, not_or] at h
    exact (valV_neg (p := ((Sum.inl e.1 : Key), V.int (amtI e.2 b))) (r := amK es b) (k := Sum.inl x) (fun z => h.1 (Sum.inl.inj z).symm)).trans (ih h.2)
/-- a pair that lies there, key and amount -/
def PrA (H : Hp) (b : Int) (v : V) (e : Int × Int × Int) : Prop := ∃ t, v = .ref t ∧ H t = some (.tup [.int e.1, .int (amtI e.2 b)])
theorem am_chain {H : Hp} {d : Addr} {ys : List V} {es : List (Int × Int × Int)} {b : Int} (tw : Two (PrA H b) ys es) (nd : (es.map (·.1)).Nodup) (hz : es.length < sizeLine) : DChain H d ys fun i => .dK (amK (es.take i) b) := fun i hi => by
  have l := tw.length
  obtain ⟨e, he, t, e1, h1⟩ := tw.at (List.getElem?_eq_getElem hi)
  refine ⟨t, _, _, by rw [List.getElem?_eq_getElem hi, e1], h1, .inl ⟨amK (es.take i) b, Sum.inl e.1, upd_same, rfl, ?_, ?_⟩⟩
  · unfold amK
    rw [List.length_map, List.length_take]
    exact Nat.lt_of_le_of_lt (Nat.min_le_right _ _) hz
  · have n : e.1 ∉ (es.take i).map (·.1) := fun q => by
      have li : i < es.length := by omega
      have s : es.map (·.1) = (es.take i).map (·.1) ++ (es.drop i).map (·.1) := by rw [← List.map_append, List.take_append_drop]
      rw [s] at nd
      have dj := (List.nodup_append.mp nd).2.2
      refine dj _ q _ ?_ rfl
      rw [List.drop_eq_getElem_cons li, List.map_cons]
      have : es[i] = e := by
        have := List.getElem?_eq_getElem li
        rw [he] at this
        exact (Option.some.inj this).symm
      rw [this]
      exact List.mem_cons_self
    dsimp only
    rw [take_snoc he]
    have p : putK (amK (es.take i) b) (Sum.inl e.1) (.int (amtI e.2 b)) = amK (es.take i ++ [e]) b := by
      rw [putK_new _ (amK_none n)]
      unfold amK
      rw [List.map_append]
      rfl
    rw [← p]
    exact (upd_upd ..).symm
structure AmO (es : List (Int × Int × Int)) (b : Int) : Prop where
  nd : (es.map (·.1)).Nodup
  z : es.length ≤ 100
  d : ∀ e ∈ es, 1 ≤ e.2.2
  n : ∀ e ∈ es, Bits 2000 e.2.1
  m : ∀ e ∈ es, Bits 2000 e.2.2
  b0 : 0 ≤ b
  bb : Bits 2000 b
def spAms (K : PySem.W.Frag) : Sp := fun vs H Q _ => ∃ (p : Addr) (ws : List V) (es : List (Int × Int × Int)) (b : Int), vs = [.ref p, .int b] ∧ SqE K H p ws ∧ Two (Ent H) ws es ∧ AmO es b ∧ ∀ H' d, Same H H' → H d = none → H' d = some (.dK (intD (es.map (·.1)) (amF es b))) → Q (.ref d) H'
end Mine
namespace Mine
open PySem L2
/-! ### a new laying -/
def PrZ (H : Hp) (v : V) (e : Int × Int) : Prop := ∃ t q, v = .ref t ∧ H t = some (.tup [.ref q, .int 0]) ∧ H q = some (.tup [.int e.1, .int e.2])
theorem prD_none {prs : List (Int × Int)} {l : Int × Int → Int} {e : Int × Int} (h : e ∉ prs) : valV (prD prs l) [Sum.inl e.1, Sum.inl e.2] = none := by
  induction prs with
  | nil => rfl
  | cons k ks ih =>
    rw [List.mem_cons, not_or] at h
    exact (valV_neg (p := (([Sum.inl k.1, Sum.inl k.2] : List Key), V.int (l k))) (r := prD ks l) (k := [Sum.inl e.1, Sum.inl e.2]) (fun z => h.1 (key_two z).symm)).trans (ih h.2)
theorem prD_new {prs : List (Int × Int)} {l : Int × Int → Int} {e : Int × Int} (h : e ∉ prs) : putK (prD prs l) [Sum.inl e.1, Sum.inl e.2] (.int (l e)) = prD (prs ++ [e]) l := by
  rw [putK_new _ (prD_none h)]
  unfold prD
  rw [List.map_append]
  rfl
theorem pz_chain {H : Hp} {d : Addr} {ys : List V} {prs : List (Int × Int)} (tw : Two (PrZ H) ys prs) (nd : prs.Nodup) (hz : prs.length < sizeLine) (hd : H d = none) : DChain H d ys fun i => .dT (prD (prs.take i) fun _ => 0) := fun i hi => by
  have l := tw.length
  obtain ⟨e, he, t, q, e1, h1, h2⟩ := tw.at (List.getElem?_eq_getElem hi)
  refine ⟨t, _, _, by rw [List.getElem?_eq_getElem hi, e1], h1, .inr ⟨prD (prs.take i) fun _ => 0, [Sum.inl e.1, Sum.inl e.2], q, upd_same, rfl, by rw [upd_ne (ne_of_none h2 hd)]; exact h2, ?_, ?_⟩⟩
  · unfold prD
    rw [List.length_map, List.length_take]
    exact Nat.lt_of_le_of_lt (Nat.min_le_right _ _) hz
  · have n : e ∉ prs.take i := fun w => by
      have li : i < prs.length := by omega
      rw [← List.take_append_drop i prs] at nd
      have dj := (List.nodup_append.mp nd).2.2
      refine dj _ w _ ?_ rfl
      rw [List.drop_eq_getElem_cons li]
      have : prs[i] = e := by
        have := List.getElem?_eq_getElem li
        rw [he] at this
        exact (Option.some.inj this).symm
      rw [this]
      exact List.mem_cons_self
    dsimp only
    rw [take_snoc he, ← prD_new (l := fun _ => 0) n]
    exact (upd_upd ..).symm
def OfX (x : Addr) (H H' : Hp) : Prop := ∀ a o, a ≠ x → H a = some o → H' a = some o
theorem OfX.upd {x : Addr} {H : Hp} {o : HO} : OfX x H (upd H x o) := fun a u n e => by rw [upd_ne n]; exact e
theorem OfX.trans {x : Addr} {H H1 H2 : Hp} (a : OfX x H H1) (b : OfX x H1 H2) : OfX x H H2 := fun c o n e => b c o n (a c o n e)
theorem OfX.same {x : Addr} {H H1 H2 : Hp} (a : OfX x H H1) (b : Same H1 H2) : OfX x H H2 := fun c o n e => b c o (a c o n e)
theorem OfX.ts {x dx C : Addr} {fs : List (Str × V)} {H H' : Hp} (o : OfX x H H') (h : H x = some (.ins C dx fs)) : ∀ a xs, H a = some (.tup xs) → H' a = some (.tup xs) := fun a xs e => o a _ (ne_of e h (by intro z; cases z)) e
theorem fewL {f : Str} {v : V} {fs : List (Str × V)} {n : Nat} (h : fs.length ≤ n) : (putF f v fs).length ≤ n + 1 := by
  induction fs generalizing n with
  | nil => simp [putF]
  | cons a r ih =>
    unfold putF
    split
    · rw [List.length_cons] at h ⊢; omega
    · rw [List.length_cons] at h ⊢
      have := ih (n := n - 1) (by omega)
      omega
def spIniL (K : PySem.W.Frag) (C : Addr) : Sp := fun vs H Q _ => ∃ (x a b p dx : Addr) (ws : List V) (prs : List (Int × Int)) (ks qs : List Int) (f h : Int → Int), vs = [.ref x, .ref a, .ref b, .ref p] ∧ H x = some (.ins C dx []) ∧
  H a = some (.dK (intD ks f)) ∧ H b = some (.dK (intD qs h)) ∧ a ≠ b ∧ H p = some (.tup ws) ∧ Prs H ws prs ∧ prs.Nodup ∧ prs.length ≤ 200 ∧
  ∀ H' g v d, OfX x H H' → H d = none → LyH C H' x a b g v d prs ks qs ⟨f, h, fun _ => 0⟩ → Q .non H'
end Mine
namespace L2
open PySem PySem.Spec PyProof.Rows
theorem pe_fldK {X : Cx} (K : PySem.W.Frag) {e : Expr} {f : Str} {pos : Pos} {ta : TE} (he : PE X e ta) (hb : attributeBase e f X.env (eval e X.env) = eval e X.env) (hK : X.K = K := by rfl) : PE X (.Attribute e f pos) (tFld K ta f) := by subst hK; exact pe_fld he hb
end L2
namespace Mine
open PySem L2
/-! ### places -/
def sideS (b : Bool) : Str := if b then "one" else "other"
def PlT (H : Hp) (t : Addr) (z : Pl Int) : Prop := H t = some (.tup [.str (sideS z.1), .int z.2])
def PlE (H : Hp) (v : V) (z : Pl Int) : Prop := ∃ t, v = .ref t ∧ PlT H t z
structure LyO (prs : List (Int × Int)) (ks qs : List Int) : Prop where
  pr : ∀ e ∈ prs, e.1 ∈ ks ∧ e.2 ∈ qs
  nd : prs.Nodup
  nk : ks.Nodup
  nq : qs.Nodup
  zp : prs.length ≤ 200
  zk : ks.length ≤ 50
  zq : qs.length ≤ 50
theorem give_mem {prs : List (Int × Int)} {n y : Int} (h : n ∈ giveOf prs y) : (n, y) ∈ prs := by
  unfold giveOf at h
  obtain ⟨e, he, q⟩ := List.mem_map.mp h
  obtain ⟨h1, h2⟩ := List.mem_filter.mp he
  have h2 := of_decide_eq_true h2
  rw [← q, ← h2]
  exact h1
def spHas (C : Addr) : Sp := fun vs H Q _ => ∃ (x a b g v d t : Addr) (prs : List (Int × Int)) (ks qs : List Int) (S : Lay Int) (z : Pl Int), vs = [.ref x, .ref t] ∧ LyH C H x a b g v d prs ks qs S ∧ PlT H t z ∧ (z.1 = false → z.2 ∈ qs) ∧ Q (.bl (roomB S z)) H
def spNxt (C : Addr) : Sp := fun vs H Q _ => ∃ (x a b g v d t : Addr) (prs : List (Int × Int)) (ks qs : List Int) (S : Lay Int) (z : Pl Int), vs = [.ref x, .ref t] ∧ LyH C H x a b g v d prs ks qs S ∧ LyO prs ks qs ∧ PlT H t z ∧ (z.1 = false → giveOf prs z.2 ≠ []) ∧
  ∀ H' l ws, Same H H' → H l = none → H' l = some (.lst ws) → Two (PlE H') ws (nexts prs S z) → Q (.ref l) H'
end Mine
namespace Mine
open PySem L2
/-! ### what lies ahead -/
def keyP (z : Pl Int) : List Key := [.inr (sideS z.1), .inl z.2]
theorem keyP_inj {y z : Pl Int} (h : keyP y = keyP z) : y = z := by
  obtain ⟨b, x⟩ := y
  obtain ⟨c, u⟩ := z
  unfold keyP at h
  injection h with h1 h2
  injection h2 with h2 _
  have e1 : sideS b = sideS c := Sum.inr.inj h1
  have e2 : x = u := Sum.inl.inj h2
  subst e2
  have ne : sideS true ≠ sideS false := by decide +kernel
  cases b <;> cases c
  · rfl
  · exact absurd e1.symm ne
  · exact absurd e1 ne
  · rfl
def AhV (H : Hp) (o : Option (Pl Int)) (v : V) : Prop := match o with
  | none => v = .non
  | some c => ∃ t, v = .ref t ∧ PlT H t c
theorem AhV.ts {H H' : Hp} (t : TS H H') {o : Option (Pl Int)} {v : V} (h : AhV H o v) : AhV H' o v := by
  cases o with
  | none => exact h
  | some c => exact let ⟨a, e, q⟩ := h; ⟨a, e, t _ _ q⟩
def AhK (H : Hp) : List (List Key × V) → Ah Int → Prop
  | [], [] => True
  | (k, v) :: r, (z, o) :: s => k = keyP z ∧ AhV H o v ∧ AhK H r s
  | _, _ => False
theorem AhK.ts {H H' : Hp} (t : TS H H') : ∀ {kvs : List (List Key × V)} {ah : Ah Int}, AhK H kvs ah → AhK H' kvs ah
  | [], [], _ => trivial
  | (_, _) :: _, (_, _) :: _, ⟨a, b, c⟩ => ⟨a, b.ts t, AhK.ts t c⟩
  | [], _ :: _, z => z.elim
  | _ :: _, [], z => by cases z
theorem AhK.len {H : Hp} : ∀ {kvs : List (List Key × V)} {ah : Ah Int}, AhK H kvs ah → kvs.length = ah.length
  | [], [], _ => rfl
  | (_, _) :: _, (_, _) :: _, ⟨_, _, c⟩ => by rw [List.length_cons, List.length_cons, AhK.len c]
  | [], _ :: _, z => z.elim
  | _ :: _, [], z => by cases z
theorem AhK.app {H : Hp} : ∀ {k1 k2 : List (List Key × V)} {a1 a2 : Ah Int}, AhK H k1 a1 → AhK H k2 a2 → AhK H (k1 ++ k2) (a1 ++ a2)
  | [], _, [], _, _, h => h
  | (_, _) :: _, _, (_, _) :: _, _, ⟨a, b, c⟩, h => ⟨a, b, AhK.app c h⟩
  | [], _, _ :: _, _, z, _ => z.elim
  | _ :: _, _, [], _, z, _ => by cases z
theorem AhK.look {H : Hp} {z : Pl Int} : ∀ {kvs : List (List Key × V)} {ah : Ah Int}, AhK H kvs ah → (lookA ah z = none → valV kvs (keyP z) = none) ∧ ∀ o, lookA ah z = some o → ∃ v, valV kvs (keyP z) = some v ∧ AhV H o v
  | [], [], _ => ⟨fun _ => rfl, fun o h => (by cases h)⟩
  | (k, v) :: r, (y, o) :: s, ⟨a, b, c⟩ => by
    obtain ⟨i1, i2⟩ := AhK.look (z := z) c
    subst a
    by_cases q : y = z
    · subst q
      have e : lookA ((y, o) :: s) y = some o := by unfold lookA; rw [List.find?_cons_of_pos (by simp)]; rfl
      rw [e]
      exact ⟨fun h => (by cases h), fun o' h => by cases h; exact ⟨v, valV_pos rfl, b⟩⟩
    · have e : lookA ((y, o) :: s) z = lookA s z := by unfold lookA; rw [List.find?_cons_of_neg (by simpa using q)]
      have ne : valV ((keyP y, v) :: r) (keyP z) = valV r (keyP z) := valV_neg fun h => q (keyP_inj h)
      rw [e, ne]
      exact ⟨i1, i2⟩
  | [], _ :: _, z => z.elim
  | _ :: _, [], z => by cases z
def AhH (H : Hp) (d : Addr) (ah : Ah Int) : Prop := ∃ kvs, H d = some (.dT kvs) ∧ AhK H kvs ah
/-- where the way back stands -/
def RV (H : Hp) (rest : List (Pl Int)) (v : V) : Prop := AhV H rest.head? v
theorem Tr.next {ah : Ah Int} {z : Pl Int} {r : List (Pl Int)} (t : Tr ah (z :: r)) : lookA ah z = some r.head? ∧ (r = [] ∨ Tr ah r) := by
  cases t with
  | last h => exact ⟨h, .inl rfl⟩
  | cons h t => exact ⟨h, .inr t⟩
def spBack : Sp := fun vs H Q _ => ∃ (d : Addr) (u : V) (ah : Ah Int) (z : Pl Int) (r : List (Pl Int)), vs = [.ref d, u] ∧ AhH H d ah ∧ AhV H (some z) u ∧ Tr ah (z :: r) ∧ (z :: r).length ≤ 200 ∧
  ∀ H' l, Same H H' → H l = none → H' l = some (.lst ((z :: r).map fun p => V.int p.2)) → Q (.ref l) H'
end Mine
namespace Mine
open PySem L2
/-! ### the search, step by step -/
theorem next_give {prs : List (Int × Int)} {S : Lay Int} {c z : Pl Int} (h : z ∈ nexts prs S c) : z.1 = false → giveOf prs z.2 ≠ [] := fun q => by
  obtain ⟨b, x⟩ := c
  cases b with
  | true =>
    obtain ⟨y, hy, rfl⟩ := List.mem_map.mp h
    have m := nexts_one h
    intro e
    have : x ∈ giveOf prs y := by
      unfold giveOf
      exact List.mem_map.mpr ⟨(x, y), List.mem_filter.mpr ⟨m, decide_eq_true rfl⟩, rfl⟩
    rw [show giveOf prs y = [] from e] at this
    exact List.not_mem_nil this
  | false =>
    obtain ⟨y, _, rfl⟩ := List.mem_map.mp h
    cases q
theorem next_room {prs : List (Int × Int)} {ks qs : List Int} (hp : ∀ e ∈ prs, e.1 ∈ ks ∧ e.2 ∈ qs) {S : Lay Int} {c z : Pl Int} (h : z ∈ nexts prs S c) : z.1 = false → z.2 ∈ qs := fun q => by
  obtain ⟨b, x⟩ := c
  obtain ⟨b', y⟩ := z
  cases b with
  | true =>
    cases q
    exact (hp _ (nexts_one h)).2
  | false =>
    have := nexts_side h
    rw [show b' = false from q] at this
    cases this
theorem wf_give {prs : List (Int × Int)} {S : Lay Int} {ks : List Int} {ah : Ah Int} (w : Wf prs S ks ah) : ∀ z ∈ keysA ah, z.1 = false → giveOf prs z.2 ≠ [] := by
  induction w with
  | nil => intro z hz; exact absurd hz List.not_mem_nil
  | root _ _ _ _ ih =>
    intro z hz q
    rw [keysA_snoc] at hz
    rcases List.mem_append.mp hz with e | e
    · exact ih z e q
    · rw [List.mem_singleton.mp e] at q; cases q
  | step _ _ _ hn ih =>
    intro z hz q
    rw [keysA_snoc] at hz
    rcases List.mem_append.mp hz with e | e
    · exact ih z e q
    · rw [List.mem_singleton.mp e] at q ⊢
      exact next_give hn q
theorem look_none {ah : Ah Int} {z : Pl Int} : z ∉ keysA ah ↔ lookA ah z = none := by
  constructor
  · intro h
    cases e : lookA ah z with
    | none => rfl
    | some o => exact absurd (lookA_key e) h
  · intro h m
    unfold lookA at h
    rw [Option.map_eq_none_iff] at h
    obtain ⟨e, he, q⟩ := List.mem_map.mp m
    exact List.find?_eq_none.mp h e he (decide_eq_true q)
theorem scan_old {S : Lay Int} {cur z : Pl Int} {zs : List (Pl Int)} {ah : Ah Int} (h : z ∈ keysA ah) : scan S cur (z :: zs) ah = scan S cur zs ah := by
  show (if z ∈ keysA ah then _ else _) = _
  rw [if_pos h]
theorem scan_hit {S : Lay Int} {cur z : Pl Int} {zs : List (Pl Int)} {ah : Ah Int} (h : z ∉ keysA ah) (r : roomB S z = true) : scan S cur (z :: zs) ah = (ah ++ [(z, some cur)], some z) := by
  show (if z ∈ keysA ah then _ else if roomB S z = true then _ else _) = _
  rw [if_neg h, if_pos r]
theorem scan_on {S : Lay Int} {cur z : Pl Int} {zs : List (Pl Int)} {ah : Ah Int} (h : z ∉ keysA ah) (r : roomB S z = false) : scan S cur (z :: zs) ah = scan S cur zs (ah ++ [(z, some cur)]) := by
  show (if z ∈ keysA ah then _ else if roomB S z = true then _ else _) = _
  rw [if_neg h, if_neg (by rw [r]; decide)]
theorem srch_end0 {prs : List (Int × Int)} {S : Lay Int} {f d : Nat} {ah : Ah Int} (h : (keysA ah).length ≤ d) : srch prs S f d ah = (ah, none) := by
  cases f with
  | zero => rfl
  | succ f => simp only [srch, List.getElem?_eq_none h]
theorem srch_hit {prs : List (Int × Int)} {S : Lay Int} {f d : Nat} {ah ah' : Ah Int} {cur z : Pl Int} (h : (keysA ah)[d]? = some cur) (r : scan S cur (nexts prs S cur) ah = (ah', some z)) : srch prs S (f + 1) d ah = (ah', some z) := by simp only [srch, h, r]
theorem srch_on {prs : List (Int × Int)} {S : Lay Int} {f d : Nat} {ah ah' : Ah Int} {cur : Pl Int} (h : (keysA ah)[d]? = some cur) (r : scan S cur (nexts prs S cur) ah = (ah', none)) : srch prs S (f + 1) d ah = srch prs S f (d + 1) ah' := by simp only [srch, h, r]
def spSrc (C : Addr) : Sp := fun vs H Q _ => ∃ (x a b g v d : Addr) (prs : List (Int × Int)) (ks qs : List Int) (S : Lay Int), vs = [.ref x] ∧ LyH C H x a b g v d prs ks qs S ∧ LyO prs ks qs ∧
  ∀ H' r dA u, Same H H' → H' r = some (.tup [.ref dA, u]) → AhH H' dA (srch prs S ((allP ks qs).length + 1) 0 (ah0 ks S)).1 → AhV H' (srch prs S ((allP ks qs).length + 1) 0 (ah0 ks S)).2 u → Q (.ref r) H'
end Mine
namespace Mine
open PySem L2
/-! ### the first places -/
def nonK (zs : List (Pl Int)) : List (List Key × V) := zs.map fun z => (keyP z, .non)
def PlN (H : Hp) (v : V) (z : Pl Int) : Prop := ∃ t q, v = .ref t ∧ H t = some (.tup [.ref q, .non]) ∧ PlT H q z
theorem nonK_none {zs : List (Pl Int)} {z : Pl Int} (h : z ∉ zs) : valV (nonK zs) (keyP z) = none := by
  induction zs with
  | nil => rfl
  | cons y zs ih =>
    rw [List.mem_cons, not_or] at h
    exact (valV_neg (p := (keyP y, V.non)) (r := nonK zs) (k := keyP z) (fun q => h.1 (keyP_inj q).symm)).trans (ih h.2)
theorem non_chain {H : Hp} {d : Addr} {ys : List V} {zs : List (Pl Int)} (tw : Two (PlN H) ys zs) (nd : zs.Nodup) (hz : zs.length < sizeLine) (hd : H d = none) : DChain H d ys fun i => .dT (nonK (zs.take i)) := fun i hi => by
  have l := tw.length
  obtain ⟨z, he, t, q, e1, h1, h2⟩ := tw.at (List.getElem?_eq_getElem hi)
  refine ⟨t, _, _, by rw [List.getElem?_eq_getElem hi, e1], h1, .inr ⟨nonK (zs.take i), keyP z, q, upd_same, rfl, by rw [upd_ne (ne_of_none h2 hd)]; exact h2, ?_, ?_⟩⟩
  · unfold nonK
    rw [List.length_map, List.length_take]
    exact Nat.lt_of_le_of_lt (Nat.min_le_right _ _) hz
  · have n : z ∉ zs.take i := fun w => by
      have li : i < zs.length := by omega
      rw [← List.take_append_drop i zs] at nd
      have dj := (List.nodup_append.mp nd).2.2
      refine dj _ w _ ?_ rfl
      rw [List.drop_eq_getElem_cons li]
      have : zs[i] = z := by
        have := List.getElem?_eq_getElem li
        rw [he] at this
        exact (Option.some.inj this).symm
      rw [this]
      exact List.mem_cons_self
    dsimp only
    rw [take_snoc he]
    have p : putK (nonK (zs.take i)) (keyP z) .non = nonK (zs.take i ++ [z]) := by
      rw [putK_new _ (nonK_none n)]
      unfold nonK
      rw [List.map_append]
      rfl
    rw [← p]
    exact (upd_upd ..).symm
theorem non_ah (H : Hp) : ∀ zs : List (Pl Int), AhK H (nonK zs) (zs.map fun z => (z, none))
  | [] => trivial
  | _ :: zs => ⟨rfl, rfl, non_ah H zs⟩
theorem intD_at {ks : List Int} {f : Int → Int} {i : Nat} {k : Key} {v : V} (h : (intD ks f)[i]? = some (k, v)) : ∃ n, ks[i]? = some n ∧ k = Sum.inl n ∧ v = .int (f n) := by
  unfold intD at h
  rw [List.getElem?_map] at h
  cases e : ks[i]? with
  | none => rw [e] at h; cases h
  | some n =>
    rw [e] at h
    cases h
    exact ⟨n, rfl, rfl, rfl⟩
/-- a dict that was frozen is itself again -/
theorem thaw_same {H G : Hp} {a l : Addr} {o : Obj} {u : HO} {w : HO} (ha : H a = some u) (s : Same (upd H a (.frz o u)) G) (hl : G l = none) : Same H (upd (upd G l w) a u) := fun c q e => by
  by_cases ca : c = a
  · subst ca
    rw [ha] at e
    rw [upd_same]
    exact e
  · rw [upd_ne ca]
    exact same_new hl _ _ _ (s _ _ (by rw [upd_ne ca]; exact e))
end Mine
namespace Mine
open PySem L2
theorem LyH.same {C : Addr} {H H' : Hp} {x a b g v d : Addr} {prs : List (Int × Int)} {ks qs : List Int} {S : Lay Int} (Y : LyH C H x a b g v d prs ks qs S) (s : Same H H') : LyH C H' x a b g v d prs ks qs S := by
  obtain ⟨⟨dx, h1⟩, h2, h3, h4, ⟨es, h5⟩, ⟨es', h6⟩, n1, n2, n3, n4, n5⟩ := Y
  exact ⟨⟨dx, s _ _ h1⟩, s _ _ h2, s _ _ h3, s _ _ h4, ⟨es, h5.keep (fun _ e => s _ _ e) fun _ _ _ e => s _ _ e⟩, ⟨es', h6.keep (fun _ e => s _ _ e) fun _ _ _ e => s _ _ e⟩, n1, n2, n3, n4, n5⟩
/-- queue and ahead, as they lie -/
structure SrQ (H G : Hp) (l dA : Addr) (prs : List (Int × Int)) (ks : List Int) (S : Lay Int) (ah : Ah Int) : Prop where
  s : Same H G
  q : ∃ us, G l = some (.lst us) ∧ Two (PlE G) us (keysA ah)
  k : AhH G dA ah
  w : Wf prs S ks ah
theorem SrQ.same {H G G' : Hp} {l dA : Addr} {prs : List (Int × Int)} {ks : List Int} {S : Lay Int} {ah : Ah Int} (Q : SrQ H G l dA prs ks S ah) (s : Same G G') : SrQ H G' l dA prs ks S ah := by
  obtain ⟨s0, ⟨us, h1, h2⟩, ⟨kvs, h3, h4⟩, w⟩ := Q
  exact ⟨s0.trans s, ⟨us, s _ _ h1, h2.mono fun _ _ ⟨c, w1, w2⟩ => ⟨c, w1, s _ _ w2⟩⟩, ⟨kvs, s _ _ h3, h4.ts (TS.of s)⟩, w⟩
/-- a new place is put into ahead -/
theorem SrQ.ahead {H G : Hp} {l dA t : Addr} {prs : List (Int × Int)} {ks : List Int} {S : Lay Int} {ah : Ah Int} {kvs : List (List Key × V)} {z c : Pl Int} (s : Same H G) (hd : H dA = none) (h3 : G dA = some (.dT kvs)) (h4 : AhK G kvs ah) (hz : z ∉ keysA ah) (ht : PlT G t c) :
    AhH (upd G dA (.dT (putK kvs (keyP z) (.ref t)))) dA (ah ++ [(z, some c)]) := by
  have tsd : TS G (upd G dA (.dT (putK kvs (keyP z) (.ref t)))) := fun b ys e => by rw [upd_ne (ne_of e h3 (by intro q; cases q))]; exact e
  have pn := putK_new (V.ref t) ((h4.look (z := z)).1 (look_none.mp hz))
  refine ⟨_, upd_same, ?_⟩
  rw [pn] at tsd ⊢
  exact (h4.ts tsd).app (k2 := [(keyP z, V.ref t)]) (a2 := [(z, some c)]) ⟨rfl, ⟨t, rfl, tsd _ _ ht⟩, trivial⟩
end Mine
namespace Mine
open PySem L2
/-! ### laying along a way -/
section
variable {α : Type} [DecidableEq α]
theorem there_at : ∀ {as : List α} {i : Nat} {e : α × α}, (thereL as)[i]? = some e → as[2 * i + 1]? = some e.1 ∧ as[2 * i]? = some e.2
  | [], i, e, h => by simp [thereL] at h
  | [_], i, e, h => by simp [thereL] at h
  | y :: x :: r, 0, e, h => by
    have h : some (x, y) = some e := h
    cases h
    exact ⟨rfl, rfl⟩
  | y :: x :: r, i + 1, e, h => there_at (as := r) (i := i) h
theorem there_len : ∀ (as : List α), (thereL as).length = as.length / 2
  | [] => by simp [thereL]
  | [_] => by simp [thereL]
  | y :: x :: r => by
    have := there_len r
    show (thereL r).length + 1 = (r.length + 1 + 1) / 2
    omega
theorem back_at : ∀ {as : List α} {i : Nat} {e : α × α}, (backL as)[i]? = some e → as[2 * i + 1]? = some e.1 ∧ as[2 * i + 2]? = some e.2
  | [], i, e, h => by simp [backL] at h
  | [_], i, e, h => by simp [backL] at h
  | [_, _], i, e, h => by simp [backL] at h
  | y :: x :: u :: r, 0, e, h => by
    have h : some (x, u) = some e := h
    cases h
    exact ⟨rfl, rfl⟩
  | y :: x :: u :: r, i + 1, e, h => back_at (as := u :: r) (i := i) h
theorem back_len : ∀ (as : List α), (backL as).length = (as.length - 1) / 2
  | [] => by simp [backL]
  | [_] => by simp [backL]
  | [_, _] => by simp [backL]
  | y :: x :: u :: r => by
    have := back_len (u :: r)
    have e : (u :: r).length = r.length + 1 := rfl
    rw [e] at this
    show (backL (u :: r)).length + 1 = (r.length + 1 + 1 + 1 - 1) / 2
    omega
theorem Path.even {prs : List (α × α)} {S : Lay α} {ks : List α} {zs : List (Pl α)} (p : Path prs S ks zs) : ∀ z r, zs = z :: r → (z.1 = false → zs.length % 2 = 0) ∧ (z.1 = true → zs.length % 2 = 1) := by
  induction p with
  | @root x _ _ =>
    intro z r e
    cases e
    exact ⟨fun h => (by cases h), fun _ => rfl⟩
  | @step z c r _ hn _ ih =>
    intro z' r' e
    cases e
    obtain ⟨i1, i2⟩ := ih c r rfl
    have sd := nexts_side hn
    rw [List.length_cons]
    refine ⟨fun h => ?_, fun h => ?_⟩
    · rw [h] at sd
      have := i2 (by revert sd; cases c.1 <;> simp)
      omega
    · rw [h] at sd
      have := i1 (by revert sd; cases c.1 <;> simp)
      omega
end
theorem Path.inP {prs : List (Int × Int)} {S : Lay Int} {ks qs : List Int} (hp : ∀ e ∈ prs, e.1 ∈ ks ∧ e.2 ∈ qs) {zs : List (Pl Int)} (p : Path prs S ks zs) : ∀ c ∈ zs, c ∈ allP ks qs := by
  induction p with
  | @root x h _ =>
    intro c hc
    rw [List.mem_singleton.mp hc]
    exact List.mem_append.mpr (.inl (List.mem_map.mpr ⟨x, h, rfl⟩))
  | @step z c r _ hn _ ih =>
    intro u hu
    rcases List.mem_cons.mp hu with e | e
    · subst e
      obtain ⟨bc, ac⟩ := c
      obtain ⟨bz, az⟩ := u
      have sd : bz = !bc := nexts_side hn
      subst sd
      cases bc
      · exact List.mem_append.mpr (.inl (List.mem_map.mpr ⟨az, (hp _ (nexts_oth hn).1).1, rfl⟩))
      · exact List.mem_append.mpr (.inr (List.mem_map.mpr ⟨az, (hp _ (nexts_one hn)).2, rfl⟩))
    · exact ih u e
theorem layAll_end {prs : List (Int × Int)} {ks : List Int} {N : Nat} {S : Lay Int} {ah : Ah Int} (h : srch prs S N 0 (ah0 ks S) = (ah, none)) (f : Nat) : layAll prs ks N f S = (S, ah) := by
  cases f with
  | zero => unfold layAll; rw [h]
  | succ f => simp only [layAll, h]
theorem layAll_more {prs : List (Int × Int)} {ks : List Int} {N : Nat} {S : Lay Int} {ah : Ah Int} {z : Pl Int} (h : srch prs S N 0 (ah0 ks S) = (ah, some z)) (f : Nat) : layAll prs ks N (f + 1) S = layAll prs ks N f (stepS ah N S z) := by
  simp only [layAll, h]
theorem upd_id {H : Hp} {d : Addr} {o : HO} (h : H d = some o) : upd H d o = H := by
  funext c
  by_cases e : c = d
  · subst e; rw [upd_same, h]
  · rw [upd_ne e]
theorem atI_of {ws : List V} {k : Int} {n : Nat} {v : V} (e : k = (n : Int)) (h : ws[n]? = some v) : atI ws k = some v := by subst e; exact atI_nat h
theorem at_int {as : List Int} {n : Nat} {z : Int} (h : as[n]? = some z) : (as.map V.int)[n]? = some (.int z) := by rw [List.getElem?_map, h]; rfl
theorem atI_last {as : List Int} {w : Int} (h : as.getLast? = some w) : atI (as.map V.int) (-1) = some (.int w) := by
  have l : 0 < as.length := by
    cases as with
    | nil => cases h
    | cons _ _ => simp
  rw [List.getLast?_eq_getElem?] at h
  unfold atI ixN
  rw [if_neg (by decide), if_pos (by rw [List.length_map]; omega)]
  rw [Option.bind_some, ← at_int h, List.length_map]
  congr 1
  omega
theorem at_head {as : List Int} {y : Int} (h : as.head? = some y) : atI (as.map V.int) 0 = some (.int y) := by
  cases as with
  | nil => cases h
  | cons a r => cases h; exact atI_of (n := 0) rfl rfl
theorem sub_at {f : Int → Int} {w m : Int} : (fun k => if k = w then f w - m else f k) = fun k => if k = w then f k - m else f k := by
  funext k
  by_cases c : k = w
  · rw [if_pos c, if_pos c, c]
  · rw [if_neg c, if_neg c]
/-- what stays when a laying changes -/
def OfL (a b d : Addr) (H H' : Hp) : Prop := ∀ c o, c ≠ a → c ≠ b → c ≠ d → H c = some o → H' c = some o
theorem OfL.trans {a b d : Addr} {H H1 H2 : Hp} (x : OfL a b d H H1) (y : OfL a b d H1 H2) : OfL a b d H H2 := fun c o n1 n2 n3 e => y c o n1 n2 n3 (x c o n1 n2 n3 e)
theorem OfL.same {a b d : Addr} {H H1 H2 : Hp} (x : OfL a b d H H1) (y : Same H1 H2) : OfL a b d H H2 := fun c o n1 n2 n3 e => y c o (x c o n1 n2 n3 e)
theorem OfL.of {a b d : Addr} {H H1 : Hp} (y : Same H H1) : OfL a b d H H1 := fun c o _ _ _ e => y c o e
variable {C : Addr} {H : Hp} {x a b g v d : Addr} {prs : List (Int × Int)} {ks qs : List Int} {S : Lay Int}
theorem OfL.setL {l : HO} : OfL a b d H (upd H d l) := fun c o _ _ n e => by rw [upd_ne n]; exact e
theorem OfL.setO {l : HO} : OfL a b d H (upd H a l) := fun c o n _ _ e => by rw [upd_ne n]; exact e
theorem OfL.setP {l : HO} : OfL a b d H (upd H b l) := fun c o _ n _ e => by rw [upd_ne n]; exact e
theorem LyH.setL (Y : LyH C H x a b g v d prs ks qs S) (l : Int × Int → Int) : LyH C (upd H d (.dT (prD prs l))) x a b g v d prs ks qs ⟨S.o, S.p, l⟩ := by
  obtain ⟨⟨dx, h1⟩, h2, h3, h4, ⟨es, h5⟩, ⟨es', h6⟩, n1, n2, n3, n4, n5⟩ := Y
  have k {c : Addr} {o : HO} (n : o ≠ .dT (prD prs S.l)) (e : H c = some o) : upd H d (.dT (prD prs l)) c = some o := by rw [upd_ne (ne_of e h4 n)]; exact e
  exact ⟨⟨dx, k (by intro z; cases z) h1⟩, k (by intro z; cases z) h2, k (by intro z; cases z) h3, upd_same, ⟨es, h5.keep (fun o e => by cases h5.d.symm.trans e; exact k (by intro z; cases z) e) fun c hc o e => by cases (h5.l c hc).symm.trans e; exact k (by intro z; cases z) e⟩, ⟨es', h6.keep (fun o e => by cases h6.d.symm.trans e; exact k (by intro z; cases z) e) fun c hc o e => by cases (h6.l c hc).symm.trans e; exact k (by intro z; cases z) e⟩, n1, n2, n3, n4, n5⟩
theorem LyH.setO (Y : LyH C H x a b g v d prs ks qs S) (l : Int → Int) : LyH C (upd H a (.dK (intD ks l))) x a b g v d prs ks qs ⟨l, S.p, S.l⟩ := by
  obtain ⟨⟨dx, h1⟩, h2, h3, h4, ⟨es, h5⟩, ⟨es', h6⟩, n1, n2, n3, n4, n5⟩ := Y
  have k {c : Addr} {o : HO} (n : c ≠ a) (e : H c = some o) : upd H a (.dK (intD ks l)) c = some o := by rw [upd_ne n]; exact e
  exact ⟨⟨dx, k (ne_of h1 h2 (by intro z; cases z)) h1⟩, upd_same, k n1.symm h3, k (ne_of h4 h2 (by intro z; cases z)) h4, ⟨es, h5.keep (fun o e => k n2.symm e) fun c hc o e => k (ne_of (h5.l c hc) h2 (by intro z; cases z)) e⟩, ⟨es', h6.keep (fun o e => k n3.symm e) fun c hc o e => k (ne_of (h6.l c hc) h2 (by intro z; cases z)) e⟩, n1, n2, n3, n4, n5⟩
theorem LyH.setP (Y : LyH C H x a b g v d prs ks qs S) (l : Int → Int) : LyH C (upd H b (.dK (intD qs l))) x a b g v d prs ks qs ⟨S.o, l, S.l⟩ := by
  obtain ⟨⟨dx, h1⟩, h2, h3, h4, ⟨es, h5⟩, ⟨es', h6⟩, n1, n2, n3, n4, n5⟩ := Y
  have k {c : Addr} {o : HO} (n : c ≠ b) (e : H c = some o) : upd H b (.dK (intD qs l)) c = some o := by rw [upd_ne n]; exact e
  exact ⟨⟨dx, k (ne_of h1 h3 (by intro z; cases z)) h1⟩, k n1 h2, upd_same, k (ne_of h4 h3 (by intro z; cases z)) h4, ⟨es, h5.keep (fun o e => k n4.symm e) fun c hc o e => k (ne_of (h5.l c hc) h3 (by intro z; cases z)) e⟩, ⟨es', h6.keep (fun o e => k n5.symm e) fun c hc o e => k (ne_of (h6.l c hc) h3 (by intro z; cases z)) e⟩, n1, n2, n3, n4, n5⟩
/-- what is laid behind i pairs there and j back -/
def laidE (S : Lay Int) (t b : List (Int × Int)) (m : Int) (e : Int × Int) : Int := S.l e + m * ((t.count e : Int) - (b.count e : Int))
theorem laidE_nil (S : Lay Int) (m : Int) : laidE S [] [] m = S.l := by
  funext e
  unfold laidE
  simp
theorem laidE_t (S : Lay Int) (t b : List (Int × Int)) (m : Int) (e : Int × Int) : (fun k => if k = e then laidE S t b m e + m else laidE S t b m k) = laidE S (t ++ [e]) b m := by
  funext k
  unfold laidE
  rw [List.count_append]
  by_cases c : k = e
  · subst c
    rw [if_pos rfl, List.count_singleton_self, Int.natCast_add]
    grind
  · rw [if_neg c, List.count_singleton, if_neg (by simpa using fun z => c z.symm)]
    rfl
theorem laidE_b (S : Lay Int) (t b : List (Int × Int)) (m : Int) (e : Int × Int) : (fun k => if k = e then laidE S t b m e - m else laidE S t b m k) = laidE S t (b ++ [e]) m := by
  funext k
  unfold laidE
  rw [List.count_append]
  by_cases c : k = e
  · subst c
    rw [if_pos rfl, List.count_singleton_self, Int.natCast_add]
    grind
  · rw [if_neg c, List.count_singleton, if_neg (by simpa using fun z => c z.symm)]
    rfl
theorem laidE_all (S : Lay Int) (as : List Int) (m : Int) : laidE S (thereL as) (backL as) m = fun e => S.l e + m * dl false as e := by
  funext e
  unfold laidE
  rw [dl_count]
/-- min of a list, as the least -/
theorem amt_is {S : Lay Int} {as : List Int} {y w i : Int} (h1 : i ∈ S.o w :: S.p y :: (backL as).map S.l) (h2 : ∀ n ∈ S.o w :: S.p y :: (backL as).map S.l, i ≤ n) : i = amtL S as y w := by
  obtain ⟨m1, m2, m3⟩ := foldl_min (S.p y :: (backL as).map S.l) (S.o w)
  unfold amtL
  have : i ≤ (S.p y :: (backL as).map S.l).foldl min (S.o w) := by
    rcases m3 with e | e
    · rw [e]; exact h2 _ List.mem_cons_self
    · exact h2 _ (List.mem_cons_of_mem _ e)
  rcases List.mem_cons.mp h1 with e | e
  · have : i = S.o w := e
    omega
  · have := m2 _ e; omega
def AlO (prs : List (Int × Int)) (ks qs as : List Int) (y w : Int) : Prop := as.head? = some y ∧ as.getLast? = some w ∧ as.length % 2 = 0 ∧ as.length ≤ 200 ∧ (∀ e ∈ thereL as, e ∈ prs) ∧ (∀ e ∈ backL as, e ∈ prs) ∧ y ∈ qs ∧ w ∈ ks
def spAlong (C : Addr) : Sp := fun vs H Q _ => ∃ (x a b g v d q : Addr) (prs : List (Int × Int)) (ks qs as : List Int) (S : Lay Int) (y w : Int), vs = [.ref x, .ref q] ∧ LyH C H x a b g v d prs ks qs S ∧ LyO prs ks qs ∧ H q = some (.lst (as.map V.int)) ∧ AlO prs ks qs as y w ∧
  ∀ H', OfL a b d H H' → LyH C H' x a b g v d prs ks qs (laidS S as y w (amtL S as y w)) → Q .non H'
def spLayAll (C : Addr) : Sp := fun vs H Q _ => ∃ (x a b g v d : Addr) (prs : List (Int × Int)) (ks qs : List Int) (S : Lay Int) (o0 p0 : Int → Int) (f : Nat), vs = [.ref x] ∧ LyH C H x a b g v d prs ks qs S ∧ LyO prs ks qs ∧ Fl prs ks qs o0 p0 S ∧ sumO ks S ≤ (f : Int) ∧
  ∀ H' dA, OfL a b d H H' → LyH C H' x a b g v d prs ks qs (layAll prs ks ((allP ks qs).length + 1) f S).1 → AhH H' dA (layAll prs ks ((allP ks qs).length + 1) f S).2 → Q (.ref dA) H'
end Mine
namespace L2
open PySem PySem.Spec PyProof.Rows
/-- a class that can be made by its name -/
def MkL (P : Program) (w : World) (K : PySem.W.Frag) (mg : Str → Option Value) (base : Heap) (n : Nat) (sp : Sp) (C : Addr) (x : Str) : Prop := ∃ f d ps, Mk K C f ∧ FnOk P w K mg base CX0 n f d ps sp ∧ Binds K d ps [] ∧ mg x = some (.ref C)
theorem pml {X : Cx} {x : Str} {p pos : Pos} {e : Expr} {es : List Expr} {t : TA} {C : Addr} {k : Nat} {sp : Sp} (M : MkL X.prog X.w X.K X.mg X.base k sp C x) {n : Nat} (hr : Room n X.A) (ha : PA X (e :: es) t) (hn : k + 1 ≤ n := by first | decide | omega) (hg : Gl X x := by rfl) (hdb : (x == ("__debug__" : Str)) = false := by decide) (he : starEach (e :: es) X.env = (false, eval e X.env) :: starEach es X.env := by rfl)
    (hpl : (backTo pos (starEach es X.env)).any (·.1) = false := by rfl) : PE X (.Call (.Name x p) (e :: es) [] pos) (tMake C sp [] E0 t) := let ⟨_, _, _, m, g, b, h⟩ := M; pe_make m g (hr.mono hn) hg h b .nil pass0 ha hdb he hpl
end L2
namespace Mine
open PySem L2
/-! ### paired -/
def limE (fac : Int × Int) (e : Int × Int × Int) : Int × Int × Int := (e.1, lowP (fac.1 * e.2.1) (fac.2 * e.2.2))
def lims (fac : Int × Int) (es : List (Int × Int × Int)) : List (Int × Int × Int) := es.map (limE fac)
def botP (es1 es2 : List (Int × Int × Int)) (fac : Int × Int) : Int := lcmL ((es1 ++ lims fac es2).map (·.2) ++ [(0, 1)])
def lay0 (es1 es2 : List (Int × Int × Int)) (fac : Int × Int) : Lay Int := ⟨amF es1 (botP es1 es2 fac), amF (lims fac es2) (botP es1 es2 fac), fun _ => 0⟩
def finP (prs : List (Int × Int)) (es1 es2 : List (Int × Int × Int)) (fac : Int × Int) : Lay Int × Ah Int := layAll prs (es1.map (·.1)) ((allP (es1.map (·.1)) (es2.map (·.1))).length + 1) (sumO (es1.map (·.1)) (lay0 es1 es2 fac)).toNat (lay0 es1 es2 fac)
theorem lims_keys (fac : Int × Int) (es : List (Int × Int × Int)) : (lims fac es).map (·.1) = es.map (·.1) := by
  unfold lims
  rw [List.map_map]
  rfl
structure PaO (es1 es2 : List (Int × Int × Int)) (prs : List (Int × Int)) (fac : Int × Int) (M : Int) : Prop where
  ly : LyO prs (es1.map (·.1)) (es2.map (·.1))
  one : ∀ e ∈ es1, Fr72 e.2
  oth : ∀ e ∈ es2, Fr72 e.2
  fc : Fr72 fac
  d1 : ∀ e ∈ es1, e.2.2 ∣ M
  d2 : ∀ e ∈ es2, fac.2 * e.2.2 ∣ M
  m1 : 1 ≤ M
  mb : M < 2 ^ 200 * 2 ^ 200
def pgK (zs : List ((Int × Int) × Addr)) : List (List Key × V) := zs.map fun z => ([.inl z.1.1, .inl z.1.2], .ref z.2)
def PgE (H : Hp) (v : V) (z : (Int × Int) × Addr) : Prop := ∃ t c, v = .ref t ∧ H t = some (.tup [.ref c, .ref z.2]) ∧ H c = some (.tup [.int z.1.1, .int z.1.2])
/-- a dict of fractions, its keys pairs -/
def PgH (H : Hp) (d : Addr) (ps : List (Int × Int)) (f : Int × Int → Int × Int) : Prop := ∃ zs, H d = some (.dT (pgK zs)) ∧ zs.map (·.1) = ps ∧ ∀ z ∈ zs, TupAt H z.2 (f z.1).1 (f z.1).2
theorem pgK_none {zs : List ((Int × Int) × Addr)} {e : Int × Int} (h : e ∉ zs.map (·.1)) : valV (pgK zs) [Sum.inl e.1, Sum.inl e.2] = none := by
  induction zs with
  | nil => rfl
  | cons k ks ih =>
    rw [List.map_cons, List.mem_cons, not_or] at h
    exact (valV_neg (p := (([Sum.inl k.1.1, Sum.inl k.1.2] : List Key), V.ref k.2)) (r := pgK ks) (k := [Sum.inl e.1, Sum.inl e.2]) (fun z => h.1 (key_two z).symm)).trans (ih h.2)
theorem pg_chain {H : Hp} {d : Addr} {ys : List V} {zs : List ((Int × Int) × Addr)} (tw : Two (PgE H) ys zs) (nd : (zs.map (·.1)).Nodup) (hz : zs.length < sizeLine) (hd : H d = none) : DChain H d ys fun i => .dT (pgK (zs.take i)) := fun i hi => by
  have l := tw.length
  obtain ⟨e, he, t, c, e1, h1, h2⟩ := tw.at (List.getElem?_eq_getElem hi)
  refine ⟨t, _, _, by rw [List.getElem?_eq_getElem hi, e1], h1, .inr ⟨pgK (zs.take i), [Sum.inl e.1.1, Sum.inl e.1.2], c, upd_same, rfl, by rw [upd_ne (ne_of_none h2 hd)]; exact h2, ?_, ?_⟩⟩
  · unfold pgK
    rw [List.length_map, List.length_take]
    exact Nat.lt_of_le_of_lt (Nat.min_le_right _ _) hz
  · have n : e.1 ∉ (zs.take i).map (·.1) := fun w => by
      have li : i < zs.length := by omega
      have s : zs.map (·.1) = (zs.take i).map (·.1) ++ (zs.drop i).map (·.1) := by rw [← List.map_append, List.take_append_drop]
      rw [s] at nd
      have dj := (List.nodup_append.mp nd).2.2
      refine dj _ w _ ?_ rfl
      rw [List.drop_eq_getElem_cons li, List.map_cons]
      have : zs[i] = e := by
        have := List.getElem?_eq_getElem li
        rw [he] at this
        exact (Option.some.inj this).symm
      rw [this]
      exact List.mem_cons_self
    dsimp only
    rw [take_snoc he]
    have p : putK (pgK (zs.take i)) [Sum.inl e.1.1, Sum.inl e.1.2] (.ref e.2) = pgK (zs.take i ++ [e]) := by
      rw [putK_new _ (pgK_none n)]
      unfold pgK
      rw [List.map_append]
      rfl
    rw [← p]
    exact (upd_upd ..).symm
def fracP (prs : List (Int × Int)) (es1 es2 : List (Int × Int × Int)) (fac : Int × Int) (e : Int × Int) : Int × Int := lowP ((finP prs es1 es2 fac).1.l e) (botP es1 es2 fac)
def liveP (prs : List (Int × Int)) (es1 es2 : List (Int × Int × Int)) (fac : Int × Int) : List (Int × Int) := prs.filter fun e => decide (0 < (finP prs es1 es2 fac).1.l e)
def spPair (K : PySem.W.Frag) : Sp := fun vs H Q _ => ∃ (p1 p2 p3 p4 p5 : Addr) (ws1 ws2 ws3 : List V) (es1 es2 : List (Int × Int × Int)) (prs : List (Int × Int)) (fac : Int × Int) (M : Int), vs = [.ref p1, .ref p2, .ref p3, .ref p4, .ref p5] ∧
  H p1 = some (.tup ws1) ∧ Two (Ent H) ws1 es1 ∧ H p2 = some (.tup ws2) ∧ Two (Ent H) ws2 es2 ∧ H p3 = some (.tup ws3) ∧ Prs H ws3 prs ∧ TupAt H p4 fac.1 fac.2 ∧ TupAt H p5 0 1 ∧ PaO es1 es2 prs fac M ∧ sumO (es1.map (·.1)) (finP prs es1 es2 fac).1 ≤ 0 ∧
  ∀ H' r d, Same H H' → H d = none → H' r = some (.tup [.str "paired", .ref d]) → PgH H' d (liveP prs es1 es2 fac) (fracP prs es1 es2 fac) → Q (.ref r) H'
/-! numbers -/
theorem bits_of {n : Nat} {a : Int} {m : Nat} (h0 : 0 ≤ a) (h : a < 2 ^ m) (hm : m ≤ n) : Bits n a := by
  unfold Bits
  have : a.natAbs < 2 ^ m := by
    have e : ((2 ^ m : Nat) : Int) = (2 : Int) ^ m := by simp
    omega
  exact Nat.lt_of_lt_of_le this (Nat.pow_le_pow_right (by decide) hm)
theorem lim_ok {fac : Int × Int} {e : Int × Int × Int} (hf : Fr72 fac) (he : Fr72 e.2) : 0 ≤ (limE fac e).2.1 ∧ 1 ≤ (limE fac e).2.2 ∧ (limE fac e).2.1 < 2 ^ 360 ∧ (limE fac e).2.2 < 2 ^ 360 ∧ (limE fac e).2.2 ∣ fac.2 * e.2.2 := by
  obtain ⟨⟨a1, a2⟩, ⟨b1, b2⟩, b3⟩ := hf
  obtain ⟨⟨c1, c2⟩, ⟨d1, d2⟩, d3⟩ := he
  have n1 : 0 ≤ fac.1 * e.2.1 := Int.mul_nonneg a1 c1
  have n2 : 1 ≤ fac.2 * e.2.2 := by have := Int.mul_le_mul b3 d3 (by omega) (by omega); omega
  have u1 : fac.1 * e.2.1 < 2 ^ 360 := by
    have := Int.mul_le_mul (Int.le_of_lt_add_one (by omega : fac.1 < (2 ^ 180 - 1) + 1)) (Int.le_of_lt_add_one (by omega : e.2.1 < (2 ^ 180 - 1) + 1)) c1 (by decide)
    exact Int.lt_of_le_of_lt this (by decide)
  have u2 : fac.2 * e.2.2 < 2 ^ 360 := by
    have := Int.mul_le_mul (Int.le_of_lt_add_one (by omega : fac.2 < (2 ^ 180 - 1) + 1)) (Int.le_of_lt_add_one (by omega : e.2.2 < (2 ^ 180 - 1) + 1)) d1 (by decide)
    exact Int.lt_of_le_of_lt this (by decide)
  have g0 := gI_pos (a := fac.1 * e.2.1) n2
  have dv := gI_dvd2 (a := fac.1 * e.2.1) (b := fac.2 * e.2.2) (by omega)
  have dd : low2 (fac.1 * e.2.1) (fac.2 * e.2.2) ∣ fac.2 * e.2.2 := ⟨gI (fac.1 * e.2.1) (fac.2 * e.2.2), by unfold low2; rw [Int.ediv_mul_cancel dv]⟩
  have l1 : low1 (fac.1 * e.2.1) (fac.2 * e.2.2) ≤ fac.1 * e.2.1 := Int.ediv_le_self _ n1
  have l2 := Int.le_of_dvd (by omega) dd
  have p2 : 1 ≤ low2 (fac.1 * e.2.1) (fac.2 * e.2.2) := by
    have := Int.ediv_pos_of_pos_of_dvd (show 0 < fac.2 * e.2.2 by omega) (by omega) dv
    unfold low2
    omega
  exact ⟨Int.ediv_nonneg n1 (by omega), p2, Int.lt_of_le_of_lt l1 u1, Int.lt_of_le_of_lt l2 u2, dd⟩
variable {es1 es2 : List (Int × Int × Int)} {prs : List (Int × Int)} {fac : Int × Int} {M : Int}
theorem PaO.lim (O : PaO es1 es2 prs fac M) {e : Int × Int × Int} (h : e ∈ lims fac es2) : 0 ≤ e.2.1 ∧ 1 ≤ e.2.2 ∧ e.2.1 < 2 ^ 360 ∧ e.2.2 < 2 ^ 360 ∧ e.2.2 ∣ M := by
  obtain ⟨u, hu, rfl⟩ := List.mem_map.mp h
  obtain ⟨a, b, c, d, f⟩ := lim_ok O.fc (O.oth u hu)
  exact ⟨a, b, c, d, Int.dvd_trans f (O.d2 u hu)⟩
theorem PaO.fr (O : PaO es1 es2 prs fac M) : ∀ u ∈ (es1 ++ lims fac es2).map (·.2) ++ [(0, 1)], 1 ≤ u.2 ∧ u.2 ∣ M := fun u hu => by
  rcases List.mem_append.mp hu with h | h
  · obtain ⟨e, he, rfl⟩ := List.mem_map.mp h
    rcases List.mem_append.mp he with q | q
    · exact ⟨(O.one e q).2.2, O.d1 e q⟩
    · have := O.lim q
      exact ⟨this.2.1, this.2.2.2.2⟩
  · rw [List.mem_singleton.mp h]
    exact ⟨Int.le_refl _, Int.one_dvd _⟩
theorem PaO.bot (O : PaO es1 es2 prs fac M) : 1 ≤ botP es1 es2 fac ∧ botP es1 es2 fac ∣ M ∧ botP es1 es2 fac < 2 ^ 200 * 2 ^ 200 ∧ (∀ e ∈ es1, e.2.2 ∣ botP es1 es2 fac) ∧ ∀ e ∈ lims fac es2, e.2.2 ∣ botP es1 es2 fac := by
  have := lcmL_take (fun u hu => (O.fr u hu).1) (fun u hu => (O.fr u hu).2) ((es1 ++ lims fac es2).map (·.2) ++ [((0 : Int), (1 : Int))]).length
  rw [List.take_length] at this
  obtain ⟨a, b, c⟩ := this
  refine ⟨a, c, Int.lt_of_le_of_lt (Int.le_of_dvd (by have := O.m1; omega) c) O.mb, fun e he => ?_, fun e he => ?_⟩
  · exact b e.2 (List.mem_append.mpr (.inl (List.mem_map.mpr ⟨e, List.mem_append.mpr (.inl he), rfl⟩)))
  · exact b e.2 (List.mem_append.mpr (.inl (List.mem_map.mpr ⟨e, List.mem_append.mpr (.inr he), rfl⟩)))
theorem B72.bits {a : Int} (h : B72 a) : Bits 2000 a := bits_of h.1 h.2 (by decide)
theorem bits400 {a : Int} (h0 : 0 ≤ a) (h : a < 2 ^ 200 * 2 ^ 200) : Bits 2000 a := bits_of (m := 400) h0 (by rw [show (2 : Int) ^ 400 = 2 ^ 200 * 2 ^ 200 by decide]; exact h) (by decide)
theorem PaO.am1 (O : PaO es1 es2 prs fac M) : AmO es1 (botP es1 es2 fac) := by
  obtain ⟨b1, _, b3, _, _⟩ := O.bot
  have z := O.ly.zk
  rw [List.length_map] at z
  exact ⟨O.ly.nk, by omega, fun e he => (O.one e he).2.2, fun e he => (O.one e he).1.bits, fun e he => (O.one e he).2.1.bits, by omega, bits400 (by omega) b3⟩
theorem PaO.am2 (O : PaO es1 es2 prs fac M) : AmO (lims fac es2) (botP es1 es2 fac) := by
  obtain ⟨b1, _, b3, _, _⟩ := O.bot
  have z := O.ly.zq
  rw [List.length_map] at z
  exact ⟨by rw [lims_keys]; exact O.ly.nq, by unfold lims; rw [List.length_map]; omega, fun e he => (O.lim he).2.1, fun e he => bits_of (O.lim he).1 (O.lim he).2.2.1 (by decide), fun e he => bits_of (by have := (O.lim he).2.1; omega) (O.lim he).2.2.2.1 (by decide), by omega, bits400 (by omega) b3⟩
theorem amt_nn {u : Int × Int} {b : Int} (h : 0 ≤ u.1) (h2 : 1 ≤ u.2) (hb : 0 ≤ b) : 0 ≤ amtI u b := Int.mul_nonneg h (Int.ediv_nonneg hb (by omega))
theorem amF_nn {es : List (Int × Int × Int)} {b : Int} (h : ∀ e ∈ es, 0 ≤ e.2.1 ∧ 1 ≤ e.2.2) (hb : 0 ≤ b) (k : Int) : 0 ≤ amF es b k := by
  unfold amF
  cases e : es.find? fun e => decide (e.1 = k) with
  | none => exact Int.le_refl _
  | some u => have := h u (List.mem_of_find?_eq_some e); exact amt_nn this.1 this.2 hb
theorem PaO.fl (O : PaO es1 es2 prs fac M) : Fl prs (es1.map (·.1)) (es2.map (·.1)) (amF es1 (botP es1 es2 fac)) (amF (lims fac es2) (botP es1 es2 fac)) (lay0 es1 es2 fac) := by
  obtain ⟨b1, _, b3, _, _⟩ := O.bot
  have z {q : Int × Int → Bool} : ((prs.filter q).map fun _ => (0 : Int)).sum = 0 := sum_zero fun _ _ => rfl
  exact ⟨fun x _ => amF_nn (fun e he => ⟨(O.one e he).1.1, (O.one e he).2.2⟩) (by omega) x, fun x _ => amF_nn (fun e he => ⟨(O.lim he).1, (O.lim he).2.1⟩) (by omega) x, fun _ _ => Int.le_refl 0, fun x => by unfold rowS lay0; dsimp only; rw [z]; omega, fun x => by unfold colS lay0; dsimp only; rw [z]; omega⟩
theorem PaO.end_ (O : PaO es1 es2 prs fac M) : Fl prs (es1.map (·.1)) (es2.map (·.1)) (amF es1 (botP es1 es2 fac)) (amF (lims fac es2) (botP es1 es2 fac)) (finP prs es1 es2 fac).1 ∧ Ended prs (es1.map (·.1)) (finP prs es1 es2 fac).1 (finP prs es1 es2 fac).2 :=
  layAll_ok O.ly.pr O.ly.nk O.ly.nd _ _ O.fl (by have := sumO_nn O.fl.o; omega)
end Mine
namespace Mine
open PySem L2
/-! ### the pairs that may be -/
theorem mem_mayN {lo hi s : Int} (h : lo ≤ hi) {y z : Int} : ∀ {i : Nat}, (y, z) ∈ mayN lo hi s i ↔ (lo ≤ y ∧ y < lo + i) ∧ (lo ≤ z ∧ z ≤ hi) ∧ mayB lo hi s y z = true
  | 0 => by
    simp [mayN]
    intro a b
    omega
  | i + 1 => by
    unfold mayN
    rw [List.mem_append, mem_mayN h (i := i), List.mem_map]
    have hp : ∀ u, u ∈ partners lo hi s (lo + i) ↔ (lo ≤ u ∧ u ≤ hi) ∧ mayB lo hi s (lo + i) u = true := fun u => by
      rw [part_is h, List.mem_filter, mem_rangeI]
      have : (u < lo + ((hi + 1 - lo).toNat : Int)) ↔ u ≤ hi := by omega
      rw [this]
    constructor
    · rintro (⟨a, b, c⟩ | ⟨u, hu, e⟩)
      · exact ⟨by omega, b, c⟩
      · have e1 : lo + (i : Int) = y := congrArg Prod.fst e
        have e2 : u = z := congrArg Prod.snd e
        subst e1 e2
        obtain ⟨b, c⟩ := (hp u).mp hu
        exact ⟨by omega, b, c⟩
    · rintro ⟨a, b, c⟩
      by_cases e : y = lo + i
      · subst e
        exact .inr ⟨z, (hp z).mpr ⟨b, c⟩, rfl⟩
      · exact .inl ⟨by omega, b, c⟩
theorem nodup_rangeI (lo : Int) : ∀ n : Nat, (rangeI lo n).Nodup
  | 0 => by simp [rangeI]
  | n + 1 => by
    rw [rangeI_succ]
    exact nodup_snoc (nodup_rangeI lo n) fun h => by rw [mem_rangeI] at h; omega
theorem nodup_mayN {lo hi s : Int} (h : lo ≤ hi) : ∀ i : Nat, (mayN lo hi s i).Nodup
  | 0 => by simp [mayN]
  | i + 1 => by
    unfold mayN
    refine List.nodup_append.mpr ⟨nodup_mayN h i, ?_, fun a ha b hb e => ?_⟩
    · have n : (partners lo hi s (lo + i)).Nodup := by rw [part_is h]; exact (nodup_rangeI _ _).sublist List.filter_sublist
      generalize partners lo hi s (lo + i) = ps at n
      clear h
      induction ps with
      | nil => simp
      | cons x r ih =>
        obtain ⟨n1, n2⟩ := List.nodup_cons.mp n
        rw [List.map_cons]
        refine List.nodup_cons.mpr ⟨fun q => ?_, ih n2⟩
        obtain ⟨u, hu, e⟩ := List.mem_map.mp q
        cases e
        exact n1 hu
    · subst e
      obtain ⟨u, _, e⟩ := List.mem_map.mp hb
      subst e
      have := (mem_mayN h).mp ha
      omega
/-! ### a ladder's shares, not brought down -/
def shr (p q lo hi n y : Int) : Int × Int := if lo = hi then (1, 1) else (eN p q lo hi n y, eD p q n y)
theorem tab_eq {p q lo hi n : Int} (h : lo ≤ hi) : tableI p q lo hi n = (rangeI lo (hi + 1 - lo).toNat).map fun y => (y, lowP (shr p q lo hi n y).1 (shr p q lo hi n y).2) := by
  unfold tableI
  by_cases c : lo = hi
  · rw [if_pos c]
    subst c
    have e : (lo + 1 - lo).toNat = 1 := by omega
    rw [e]
    have : rangeI lo 1 = [lo] := by simp [rangeI]
    rw [this, List.map_singleton]
    unfold shr
    rw [if_pos rfl, lowP_one (by decide)]
  · rw [if_neg c]
    refine List.map_congr_left fun y _ => ?_
    unfold ent shr lowP
    rw [if_neg c]
theorem tab_keys {p q lo hi n : Int} (h : lo ≤ hi) : (tableI p q lo hi n).map (·.1) = rangeI lo (hi + 1 - lo).toNat := by
  rw [tab_eq h, List.map_map]
  exact List.map_id _
structure Lo (p q lo hi n y : Int) : Prop where
  st : Steep p q
  en : Ends lo hi
  n0 : lo ≤ n
  n1 : n ≤ hi
  y0 : lo ≤ y
  y1 : y ≤ hi
variable {p q lo hi n y m s : Int}
theorem zpow_split (q : Int) {a b : Nat} (h : a ≤ b) : q ^ b = q ^ a * q ^ (b - a) := by
  rw [← Int.pow_add]
  congr 1
  omega
theorem shr_ok (O : Lo p q lo hi n y) : 1 ≤ (shr p q lo hi n y).1 ∧ 1 ≤ (shr p q lo hi n y).2 ∧ B72 (shr p q lo hi n y).1 ∧ B72 (shr p q lo hi n y).2 ∧ (shr p q lo hi n y).2 ∣ (q + p) * q ^ 9 ∧ (shr p q lo hi n y).1 * ((q + p) * q ^ 41) = zldN p q 41 lo hi n y * (shr p q lo hi n y).2 := by
  obtain ⟨st, en, n0, n1, y0, y1⟩ := O
  have := st.p1
  have := st.pq
  have := en.a
  have := en.c
  unfold shr zldN
  by_cases c : lo = hi
  · rw [if_pos c, if_pos c]
    exact ⟨Int.le_refl _, Int.le_refl _, ⟨by decide, by decide⟩, ⟨by decide, by decide⟩, Int.one_dvd _, by rw [Int.one_mul, Int.mul_one]⟩
  rw [if_neg c, if_neg c]
  dsimp only
  obtain ⟨b1, b2, b3⟩ := sh_bd st (n := (y - n).natAbs) (by omega)
  have pp := zpw_pos st.p1 (y - n).natAbs
  have pq := zpw_pos (show 1 ≤ q by omega) (y - n).natAbs
  have k9 : (y - n).natAbs ≤ 9 := by omega
  have d1 : 1 ≤ eD p q n y := by
    unfold eD shD
    have := Int.mul_le_mul (show 1 ≤ q + p by omega) pq (by omega) (by omega)
    omega
  have dv : eD p q n y ∣ (q + p) * q ^ 9 := by
    unfold eD shD
    rw [zpow_split q k9, ← Int.mul_assoc]
    exact Int.dvd_mul_right _ _
  have bD : B72 (eD p q n y) := b2
  generalize hk : (y - n).natAbs = k at *
  unfold eN
  rw [hk]
  by_cases e : y = lo ∨ y = hi
  · rw [if_pos e]
    have t1 : 1 ≤ tlN p q k := by
      unfold tlN
      have := Int.mul_le_mul (show 1 ≤ q by omega) pp (by omega) (by omega)
      omega
    refine ⟨t1, d1, b3, bD, dv, ?_⟩
    have z : (if y = lo then ztlN p q 41 (n - lo) else if y = hi then ztlN p q 41 (hi - n) else zshN p q 41 (y - n)) = p ^ k * q ^ (42 - k) := by
      by_cases c1 : y = lo
      · rw [if_pos c1, show n - lo = ((k : Nat) : Int) by omega, ztl_at]
      · have c2 : y = hi := e.resolve_left c1
        rw [if_neg c1, if_pos c2, show hi - n = ((k : Nat) : Int) by omega, ztl_at]
    rw [z]
    unfold tlN eD shD
    rw [hk]
    have e1 : q ^ 42 = q ^ k * q ^ (42 - k) := zpow_split q (by omega)
    have e2 : q ^ 42 = q ^ 41 * q := Int.pow_succ ..
    generalize q ^ (42 - k) = A at e1 ⊢
    generalize q ^ 41 = B at e2 ⊢
    generalize q ^ 42 = C at e1 e2
    grind
  · rw [if_neg e]
    have s1 : 1 ≤ shN p q k := by
      unfold shN
      have := Int.mul_le_mul (show 1 ≤ q - p by omega) pp (by omega) (by omega)
      omega
    refine ⟨s1, d1, b1, bD, dv, ?_⟩
    rw [if_neg (fun z => e (.inl z)), if_neg (fun z => e (.inr z))]
    unfold zshN shN eD shD
    rw [hk]
    have e1 : q ^ 41 = q ^ k * q ^ (41 - k) := zpow_split q (by omega)
    generalize q ^ (41 - k) = A at e1 ⊢
    generalize q ^ 41 = B at e1 ⊢
    grind
/-- an entry of the table -/
def entS (p q lo hi n y : Int) : Int × Int := lowP (shr p q lo hi n y).1 (shr p q lo hi n y).2
theorem entS_ok (O : Lo p q lo hi n y) : Fr72 (entS p q lo hi n y) ∧ (entS p q lo hi n y).2 ∣ (q + p) * q ^ 9 ∧ (entS p q lo hi n y).1 * (shr p q lo hi n y).2 = (shr p q lo hi n y).1 * (entS p q lo hi n y).2 ∧ (entS p q lo hi n y).1 * ((q + p) * q ^ 41) = zldN p q 41 lo hi n y * (entS p q lo hi n y).2 := by
  obtain ⟨a, b, c, d, e, f⟩ := shr_ok O
  have lr := lowP_ratio (a := (shr p q lo hi n y).1) (b := (shr p q lo hi n y).2) (by omega) b
  have l2 : (lowP (shr p q lo hi n y).1 (shr p q lo hi n y).2).2 ∣ (shr p q lo hi n y).2 := ⟨gI (shr p q lo hi n y).1 (shr p q lo hi n y).2, by unfold lowP low2; dsimp only; rw [Int.ediv_mul_cancel (gI_dvd2 (by omega))]⟩
  refine ⟨?_, Int.dvd_trans l2 e, lr, ?_⟩
  · obtain ⟨u, v⟩ := low_bd c d b
    exact ⟨u, v, low2_pos b⟩
  · unfold entS
    generalize lowP (shr p q lo hi n y).1 (shr p q lo hi n y).2 = E at lr ⊢
    generalize (q + p) * q ^ 41 = T at f ⊢
    generalize zldN p q 41 lo hi n y = Z at f ⊢
    refine Int.eq_of_mul_eq_mul_right (a := (shr p q lo hi n y).2) (by omega) ?_
    generalize (shr p q lo hi n y).2 = D at *
    generalize (shr p q lo hi n y).1 = N at *
    grind
end Mine
namespace Mine
open PySem L2
structure RgO (p q lo hi n m s : Int) : Prop where
  st : Steep p q
  cp : gI p q = 1
  ok : Ok3 lo hi s
  n0 : lo ≤ n
  n1 : n ≤ hi
  m0 : lo ≤ n + m
  m1 : n + m ≤ hi
abbrev nR (lo hi : Int) : Nat := (hi + 1 - lo).toNat
abbrev fcR (p q m s : Int) : Int × Int := (q ^ (m - s).natAbs, p ^ (m - s).natAbs)
abbrev prR (lo hi s : Int) : List (Int × Int) := mayN lo hi s (nR lo hi)
variable {p q lo hi n m s y z : Int}
theorem RgO.en (R : RgO p q lo hi n m s) : Ends lo hi := ⟨R.ok.a, R.ok.b, R.ok.c⟩
theorem RgO.lo1 (R : RgO p q lo hi n m s) (h0 : lo ≤ y) (h1 : y ≤ hi) : Lo p q lo hi n y := ⟨R.st, R.en, R.n0, R.n1, h0, h1⟩
theorem RgO.lo2 (R : RgO p q lo hi n m s) (h0 : lo ≤ y) (h1 : y ≤ hi) : Lo p q lo hi (n + m) y := ⟨R.st, R.en, R.m0, R.m1, h0, h1⟩
theorem nR_eq (h : lo ≤ hi) : ((nR lo hi : Nat) : Int) = hi + 1 - lo := by unfold nR; omega
theorem mem_nR (h : lo ≤ hi) : y ∈ rangeI lo (nR lo hi) ↔ lo ≤ y ∧ y ≤ hi := by
  rw [mem_rangeI]
  have := nR_eq h
  omega
theorem tab_mem (h : lo ≤ hi) {e : Int × Int × Int} (he : e ∈ tableI p q lo hi n) : lo ≤ e.1 ∧ e.1 ≤ hi ∧ e = (e.1, entS p q lo hi n e.1) := by
  rw [tab_eq h] at he
  obtain ⟨y, hy, rfl⟩ := List.mem_map.mp he
  obtain ⟨a, b⟩ := (mem_nR h).mp hy
  exact ⟨a, b, rfl⟩
theorem pw9 {a : Int} (h0 : 0 ≤ a) (h9 : a ≤ 9) : ∀ {k : Nat}, 0 ≤ a ^ k ∧ a ^ k ≤ 9 ^ k
  | 0 => by simp
  | k + 1 => by
    obtain ⟨u, v⟩ := pw9 h0 h9 (k := k)
    rw [Int.pow_succ, Int.pow_succ]
    exact ⟨Int.mul_nonneg u h0, Int.mul_le_mul v h9 h0 (by omega)⟩
theorem nine_le {k j : Nat} (h : k ≤ j) : (9 : Int) ^ k ≤ 9 ^ j := by
  rw [zpow_split 9 h]
  have := zpw_pos (p := 9) (by decide) (j - k)
  have u := zpw_pos (p := 9) (by decide) k
  have := Int.mul_le_mul_of_nonneg_left this (show (0 : Int) ≤ 9 ^ k by omega)
  rw [Int.mul_one] at this
  exact this
theorem RgO.dl (R : RgO p q lo hi n m s) : (m - s).natAbs ≤ 29 := by
  have := R.ok.a; have := R.ok.c; have := R.ok.d; have := R.ok.e; have := R.n0; have := R.n1; have := R.m0; have := R.m1
  omega
theorem RgO.pb (R : RgO p q lo hi n m s) {a : Int} (h0 : 1 ≤ a) (h9 : a ≤ 9) : 1 ≤ a ^ (m - s).natAbs ∧ a ^ (m - s).natAbs < 2 ^ 92 := by
  refine ⟨zpw_pos h0 _, Int.lt_of_le_of_lt (Int.le_trans (pw9 (by omega) h9).2 (nine_le R.dl)) (by decide)⟩
def mmR (p q m s : Int) : Int := p ^ (m - s).natAbs * ((q + p) * q ^ 9)
theorem RgO.mm (R : RgO p q lo hi n m s) : 1 ≤ mmR p q m s ∧ mmR p q m s < 2 ^ 127 := by
  have := R.st.p1; have := R.st.pq; have := R.st.q9
  obtain ⟨a1, a2⟩ := R.pb (a := p) (by omega) (by omega)
  have b1 := zpw_pos (p := q) (by omega) 9
  have b2 := (pw9 (a := q) (by omega) (by omega) (k := 9)).2
  have c1 : 1 ≤ (q + p) * q ^ 9 := by have := Int.mul_le_mul (show 1 ≤ q + p by omega) b1 (by omega) (by omega); omega
  have c2 : (q + p) * q ^ 9 ≤ 18 * 9 ^ 9 := Int.mul_le_mul (by omega) b2 (by omega) (by decide)
  unfold mmR
  refine ⟨by have := Int.mul_le_mul a1 c1 (by omega) (by omega); omega, ?_⟩
  have := Int.mul_le_mul (show p ^ (m - s).natAbs ≤ 2 ^ 92 by omega) c2 (by omega) (by decide)
  exact Int.lt_of_le_of_lt this (by decide)
theorem RgO.pa (R : RgO p q lo hi n m s) : PaO (tableI p q lo hi n) (tableI p q lo hi (n + m)) (prR lo hi s) (fcR p q m s) (mmR p q m s) := by
  have hl := R.ok.b
  have h0 := R.ok.a
  have h9 := R.ok.c
  have := R.st.p1; have := R.st.pq; have := R.st.q9
  obtain ⟨a1, a2⟩ := R.pb (a := p) (by omega) (by omega)
  obtain ⟨b1, b2⟩ := R.pb (a := q) (by omega) (by omega)
  have w : (2 : Int) ^ 92 < 2 ^ 180 := by decide
  have nn := nR_eq hl
  refine ⟨⟨?_, nodup_mayN hl _, ?_, ?_, ?_, ?_, ?_⟩, ?_, ?_, ⟨⟨by dsimp only; omega, by dsimp only; omega⟩, ⟨by dsimp only; omega, by dsimp only; omega⟩, a1⟩, ?_, ?_, R.mm.1, Int.lt_trans R.mm.2 (by decide)⟩
  · rintro ⟨u, v⟩ he
    obtain ⟨c, d, _⟩ := (mem_mayN hl).mp he
    rw [tab_keys hl, tab_keys hl]
    exact ⟨(mem_nR hl).mpr (by omega), (mem_nR hl).mpr d⟩
  · rw [tab_keys hl]; exact nodup_rangeI _ _
  · rw [tab_keys hl]; exact nodup_rangeI _ _
  · have := may_len (s := s) h0 hl h9 (nR lo hi)
    show (mayN lo hi s (nR lo hi)).length ≤ 200
    omega
  · rw [tab_keys hl, rangeI_len]; show nR lo hi ≤ 50; omega
  · rw [tab_keys hl, rangeI_len]; show nR lo hi ≤ 50; omega
  · intro e he
    obtain ⟨c, d, eq⟩ := tab_mem hl he
    rw [eq]
    exact (entS_ok (R.lo1 c d)).1
  · intro e he
    obtain ⟨c, d, eq⟩ := tab_mem hl he
    rw [eq]
    exact (entS_ok (R.lo2 c d)).1
  · intro e he
    obtain ⟨c, d, eq⟩ := tab_mem hl he
    rw [eq]
    exact Int.dvd_trans (entS_ok (R.lo1 c d)).2.1 (Int.dvd_mul_left _ _)
  · intro e he
    obtain ⟨c, d, eq⟩ := tab_mem hl he
    rw [eq]
    exact Int.mul_dvd_mul (Int.dvd_refl _) (entS_ok (R.lo2 c d)).2.1
/-- an amount is the share of the bottom -/
theorem amt_mul {u : Int × Int} {b : Int} (h : u.2 ∣ b) : amtI u b * u.2 = u.1 * b := by
  unfold amtI
  rw [Int.mul_assoc, Int.ediv_mul_cancel h]
theorem tab_in (h : lo ≤ hi) (h0 : lo ≤ y) (h1 : y ≤ hi) : (y, entS p q lo hi n y) ∈ tableI p q lo hi n := by
  rw [tab_eq h]
  exact List.mem_map.mpr ⟨y, (mem_nR h).mpr ⟨h0, h1⟩, rfl⟩
abbrev btR (p q lo hi n m s : Int) : Int := botP (tableI p q lo hi n) (tableI p q lo hi (n + m)) (fcR p q m s)
abbrev finR (p q lo hi n m s : Int) : Lay Int := (finP (prR lo hi s) (tableI p q lo hi n) (tableI p q lo hi (n + m)) (fcR p q m s)).1
def oR (p q lo hi n m s y : Int) : Int := amF (tableI p q lo hi n) (btR p q lo hi n m s) y
def pR (p q lo hi n m s y : Int) : Int := amF (lims (fcR p q m s) (tableI p q lo hi (n + m))) (btR p q lo hi n m s) y
theorem RgO.o_eq (R : RgO p q lo hi n m s) (h0 : lo ≤ y) (h1 : y ≤ hi) : oR p q lo hi n m s y * (entS p q lo hi n y).2 = (entS p q lo hi n y).1 * btR p q lo hi n m s := by
  obtain ⟨_, _, _, d1, _⟩ := R.pa.bot
  unfold oR
  rw [amF_at R.pa.ly.nk (tab_in R.ok.b h0 h1)]
  exact amt_mul (d1 _ (tab_in R.ok.b h0 h1))
theorem cross1 {A u1 u2 b P Q E1 E2 : Int} (h : 1 ≤ u2) (e2 : A * u2 = u1 * b) (e3 : u1 * (P * E2) = Q * E1 * u2) : A * E2 * P = E1 * Q * b := by
  refine Int.eq_of_mul_eq_mul_right (a := u2) (by omega) ?_
  grind
theorem RgO.p_eq (R : RgO p q lo hi n m s) (h0 : lo ≤ y) (h1 : y ≤ hi) : pR p q lo hi n m s y * (entS p q lo hi (n + m) y).2 * p ^ (m - s).natAbs = (entS p q lo hi (n + m) y).1 * q ^ (m - s).natAbs * btR p q lo hi n m s := by
  obtain ⟨_, _, _, _, d2⟩ := R.pa.bot
  have := R.st.p1; have := R.st.pq; have := R.st.q9
  obtain ⟨a1, a2⟩ := R.pb (a := p) (by omega) (by omega)
  obtain ⟨b1, b2⟩ := R.pb (a := q) (by omega) (by omega)
  have F := (entS_ok (R.lo2 h0 h1)).1
  have mem : limE (fcR p q m s) (y, entS p q lo hi (n + m) y) ∈ lims (fcR p q m s) (tableI p q lo hi (n + m)) := List.mem_map.mpr ⟨_, tab_in R.ok.b h0 h1, rfl⟩
  have nd : ((lims (fcR p q m s) (tableI p q lo hi (n + m))).map (·.1)).Nodup := by rw [lims_keys]; exact R.pa.ly.nq
  have e1 : pR p q lo hi n m s y = amtI (limE (fcR p q m s) (y, entS p q lo hi (n + m) y)).2 (btR p q lo hi n m s) := by
    unfold pR
    exact amF_at nd mem
  have e2 := amt_mul (d2 _ mem)
  rw [e1]
  have n0 : 0 ≤ q ^ (m - s).natAbs * (entS p q lo hi (n + m) y).1 := Int.mul_nonneg (by omega) F.1.1
  have n1 : 1 ≤ p ^ (m - s).natAbs * (entS p q lo hi (n + m) y).2 := by have := Int.mul_le_mul a1 F.2.2 (by omega) (by omega); omega
  have e3 := lowP_ratio n0 n1
  have l2 := low2_pos (a := q ^ (m - s).natAbs * (entS p q lo hi (n + m) y).1) n1
  change 1 ≤ (lowP (q ^ (m - s).natAbs * (entS p q lo hi (n + m) y).1) (p ^ (m - s).natAbs * (entS p q lo hi (n + m) y).2)).2 at l2
  unfold limE at e2 ⊢
  dsimp only at e2 ⊢
  exact cross1 l2 e2 e3
end Mine
namespace Mine
open PySem L2
variable {p q lo hi n m s y z : Int}
theorem sum_lin {f g : Int → Int} {T b : Int} : ∀ {l : List Int}, (∀ y ∈ l, f y * T = b * g y) → (l.map f).sum * T = b * (l.map g).sum
  | [], _ => by simp
  | y :: r, h => by
    have a := h y List.mem_cons_self
    have b' := sum_lin (l := r) fun u hu => h u (List.mem_cons_of_mem _ hu)
    rw [List.map_cons, List.map_cons, List.sum_cons, List.sum_cons, Int.add_mul, Int.mul_add, a, b']
theorem cross2 {O e1 e2 b T Z : Int} (h : 1 ≤ e2) (h1 : O * e2 = e1 * b) (h2 : e1 * T = Z * e2) : O * T = b * Z := by
  refine Int.eq_of_mul_eq_mul_right (a := e2) (by omega) ?_
  grind
theorem cross3 {O e1 e2 b T Z P Q : Int} (h : 1 ≤ e2) (h1 : O * e2 * P = e1 * Q * b) (h2 : e1 * T = Z * e2) : O * (T * P) = (b * Q) * Z := by
  refine Int.eq_of_mul_eq_mul_right (a := e2) (by omega) ?_
  grind
theorem cross4 {A B T b X Y P Q : Int} (hT : 1 ≤ T) (hb : 1 ≤ b) (hP : 1 ≤ P) (h1 : A * T = b * X) (h2 : B * (T * P) = (b * Q) * Y) (h3 : P * X ≤ Q * Y) : A ≤ B := by
  have tp : 0 < T * P := Int.mul_pos (by omega) (by omega)
  refine Int.le_of_mul_le_mul_right (show A * (T * P) ≤ B * (T * P) from ?_) tp
  have e : A * (T * P) = b * (P * X) := by grind
  have f : B * (T * P) = b * (Q * Y) := by grind
  rw [e, f]
  exact Int.mul_le_mul_of_nonneg_left h3 (by omega)
theorem RgO.tpos (R : RgO p q lo hi n m s) : 1 ≤ (q + p) * q ^ 41 := by
  have := R.st.p1; have := R.st.pq
  have b1 := zpw_pos (p := q) (by omega) 41
  have := Int.mul_le_mul (show 1 ≤ q + p by omega) b1 (by omega) (by omega)
  omega
theorem RgO.full (R : RgO p q lo hi n m s) : sumO ((tableI p q lo hi n).map (·.1)) (finR p q lo hi n m s) ≤ 0 := by
  have hl := R.ok.b
  obtain ⟨F, E⟩ := R.pa.end_
  have c := cut_sum R.pa.ly.pr R.pa.ly.nk R.pa.ly.nq F E
  obtain ⟨b1, _⟩ := R.pa.bot
  have := R.st.p1; have := R.st.pq; have := R.st.q9
  obtain ⟨a1, _⟩ := R.pb (a := p) (by omega) (by omega)
  generalize eah : (finP (prR lo hi s) (tableI p q lo hi n) (tableI p q lo hi (n + m)) (fcR p q m s)).2 = ah at c
  have A := sum_lin (l := ((tableI p q lo hi n).map (·.1)).filter (inR ah)) (f := oR p q lo hi n m s) (g := zldN p q 41 lo hi n) (T := (q + p) * q ^ 41) (b := btR p q lo hi n m s) fun y hy => by
    have hy := (List.mem_filter.mp hy).1
    rw [tab_keys hl] at hy
    obtain ⟨h0, h1⟩ := (mem_nR hl).mp hy
    have ok := entS_ok (R.lo1 h0 h1)
    exact cross2 ok.1.2.2 (R.o_eq h0 h1) ok.2.2.2
  have B := sum_lin (l := ((tableI p q lo hi (n + m)).map (·.1)).filter (inN (prR lo hi s) ah)) (f := pR p q lo hi n m s) (g := zldN p q 41 lo hi (n + m)) (T := (q + p) * q ^ 41 * p ^ (m - s).natAbs) (b := btR p q lo hi n m s * q ^ (m - s).natAbs) fun y hy => by
    have hy := (List.mem_filter.mp hy).1
    rw [tab_keys hl] at hy
    obtain ⟨h0, h1⟩ := (mem_nR hl).mp hy
    have ok := entS_ok (R.lo2 h0 h1)
    exact cross3 ok.1.2.2 (R.p_eq h0 h1) ok.2.2.2
  have H := zld_hall (p := p) (q := q) (M := 40) (lo := lo) (hi := hi) (n := n) (m := m) (s := s) (d := (m - s).natAbs) R.st.p1 (by omega) hl R.m0 R.m1 (Nat.le_refl _)
    (by have := R.ok.a; have := R.ok.c; have := R.n0; have := R.n1; omega) (by have := R.ok.a; have := R.ok.c; have := R.n0; have := R.n1; omega)
    (by have := R.ok.a; have := R.ok.c; have := R.n0; have := R.n1; have := R.ok.d; have := R.ok.e; omega) (by have := R.ok.a; have := R.ok.c; have := R.n0; have := R.n1; have := R.ok.d; have := R.ok.e; omega)
    (by have := R.ok.a; have := R.ok.c; omega) (R := ((tableI p q lo hi n).map (·.1)).filter (inR ah)) (Z := ((tableI p q lo hi (n + m)).map (·.1)).filter (inN (prR lo hi s) ah))
    (R.pa.ly.nk.sublist List.filter_sublist) (R.pa.ly.nq.sublist List.filter_sublist)
    (fun y hy => by have hy := (List.mem_filter.mp hy).1; rw [tab_keys hl] at hy; exact (mem_nR hl).mp hy)
    (fun y hy => by have hy := (List.mem_filter.mp hy).1; rw [tab_keys hl] at hy; exact (mem_nR hl).mp hy)
    (fun y hy z z0 z1 hm => by
      obtain ⟨hy1, hy2⟩ := List.mem_filter.mp hy
      rw [tab_keys hl] at hy1
      obtain ⟨h0, h1⟩ := (mem_nR hl).mp hy1
      have nn := nR_eq hl
      refine List.mem_filter.mpr ⟨by rw [tab_keys hl]; exact (mem_nR hl).mpr ⟨z0, z1⟩, List.any_eq_true.mpr ⟨(y, z), (mem_mayN hl).mpr ⟨by omega, ⟨z0, z1⟩, hm⟩, ?_⟩⟩
      rw [Bool.and_eq_true]
      exact ⟨decide_eq_true rfl, hy2⟩)
  have le := cross4 R.tpos b1 a1 A B H
  have c : ((List.filter (inR ah) (List.map (fun x => x.fst) (tableI p q lo hi n))).map (oR p q lo hi n m s)).sum = sumO ((tableI p q lo hi n).map (·.1)) (finR p q lo hi n m s) + ((List.filter (inN (prR lo hi s) ah) (List.map (fun x => x.fst) (tableI p q lo hi (n + m)))).map (pR p q lo hi n m s)).sum := c
  omega
theorem sum_z {f : Int → Int} : ∀ {l : List Int}, (∀ x ∈ l, 0 ≤ f x) → (l.map f).sum ≤ 0 → ∀ x ∈ l, f x = 0
  | a :: r, h, hs, x, hx => by
    rw [List.map_cons, List.sum_cons] at hs
    have h1 := h a List.mem_cons_self
    have h2 : 0 ≤ (r.map f).sum := sumO_nn (S := ⟨f, f, fun _ => 0⟩) fun y hy => h y (List.mem_cons_of_mem _ hy)
    rcases List.mem_cons.mp hx with e | e
    · rw [e]; omega
    · exact sum_z (fun y hy => h y (List.mem_cons_of_mem _ hy)) (by omega) x e
theorem RgO.row (R : RgO p q lo hi n m s) (h0 : lo ≤ y) (h1 : y ≤ hi) : rowS (prR lo hi s) (finR p q lo hi n m s).l y = oR p q lo hi n m s y := by
  obtain ⟨F, _⟩ := R.pa.end_
  have z := sum_z F.o R.full y (by rw [tab_keys R.ok.b]; exact (mem_nR R.ok.b).mpr ⟨h0, h1⟩)
  have this : (finR p q lo hi n m s).o y + rowS (prR lo hi s) (finR p q lo hi n m s).l y = oR p q lo hi n m s y := F.ro y
  rw [z] at this
  omega
theorem RgO.col (R : RgO p q lo hi n m s) (h0 : lo ≤ y) (h1 : y ≤ hi) : colS (prR lo hi s) (finR p q lo hi n m s).l y ≤ pR p q lo hi n m s y := by
  obtain ⟨F, _⟩ := R.pa.end_
  have z := F.p y (by rw [tab_keys R.ok.b]; exact (mem_nR R.ok.b).mpr ⟨h0, h1⟩)
  have this : (finR p q lo hi n m s).p y + colS (prR lo hi s) (finR p q lo hi n m s).l y = pR p q lo hi n m s y := F.co y
  have z : 0 ≤ (finR p q lo hi n m s).p y := z
  omega
/-! ### the law's own sums -/
def sumF (fs : List (Int × Int)) : Int × Int := fs.foldl (fun t u => (t.1 * u.2 + u.1 * t.2, t.2 * u.2)) (0, 1)
theorem sumF_snoc (fs : List (Int × Int)) (u : Int × Int) : sumF (fs ++ [u]) = ((sumF fs).1 * u.2 + u.1 * (sumF fs).2, (sumF fs).2 * u.2) := by unfold sumF; rw [List.foldl_append]; rfl
theorem sumF_ok {l : Int × Int → Int} {b : Int} (hb : 1 ≤ b) {es : List (Int × Int)} (h : ∀ e ∈ es, 0 ≤ l e) : ∀ i, 1 ≤ (sumF ((es.take i).map fun e => lowP (l e) b)).2 ∧ 0 ≤ (sumF ((es.take i).map fun e => lowP (l e) b)).1 ∧ (sumF ((es.take i).map fun e => lowP (l e) b)).1 * b = (sumF ((es.take i).map fun e => lowP (l e) b)).2 * ((es.take i).map l).sum
  | 0 => ⟨Int.le_refl 1, Int.le_refl 0, by simp [sumF]⟩
  | i + 1 => by
    obtain ⟨a, b', c⟩ := sumF_ok hb h i
    cases e : es[i]? with
    | none =>
      have le := List.getElem?_eq_none_iff.mp e
      rw [List.take_of_length_le (show es.length ≤ i + 1 by omega)]
      rw [List.take_of_length_le le] at a b' c
      exact ⟨a, b', c⟩
    | some u =>
      have hu := h u (List.mem_of_getElem? e)
      have r := lowP_ratio hu hb
      have p2 : 1 ≤ (lowP (l u) b).2 := low2_pos hb
      have p1 : 0 ≤ (lowP (l u) b).1 := low1_nonneg hu
      rw [take_snoc e, List.map_append, List.map_append, List.sum_append]
      show 1 ≤ (sumF (_ ++ [lowP (l u) b])).2 ∧ 0 ≤ (sumF (_ ++ [lowP (l u) b])).1 ∧ (sumF (_ ++ [lowP (l u) b])).1 * b = (sumF (_ ++ [lowP (l u) b])).2 * (_ + ([l u] : List Int).sum)
      rw [sumF_snoc]
      dsimp only
      generalize sumF ((es.take i).map fun e => lowP (l e) b) = t at *
      generalize lowP (l u) b = v at *
      rw [show ([l u] : List Int).sum = l u by simp]
      generalize l u = x at *
      generalize ((es.take i).map l).sum = X at *
      refine ⟨by have := Int.mul_le_mul a p2 (by omega) (by omega); omega, Int.add_nonneg (Int.mul_nonneg b' (by omega)) (Int.mul_nonneg p1 (by omega)), ?_⟩
      grind
theorem Bits.add {m : Nat} {i j : Int} (h : Bits m i) (k : Bits m j) : Bits (m + 1) (i + j) := by
  unfold Bits at *
  rw [Nat.pow_succ]
  omega
theorem sumF_bits {fs : List (Int × Int)} {N : Nat} (h : ∀ u ∈ fs, Bits N u.1 ∧ Bits N u.2) : ∀ i, Bits ((N + 2) * i + 1) (sumF (fs.take i)).1 ∧ Bits ((N + 2) * i + 1) (sumF (fs.take i)).2
  | 0 => by
    show Bits _ (0 : Int) ∧ Bits _ (1 : Int)
    unfold Bits
    simp
  | i + 1 => by
    obtain ⟨a, b⟩ := sumF_bits h i
    cases e : fs[i]? with
    | none =>
      have le := List.getElem?_eq_none_iff.mp e
      rw [List.take_of_length_le (show fs.length ≤ i + 1 by omega)]
      rw [List.take_of_length_le le] at a b
      exact ⟨a.mono (by rw [Nat.mul_succ]; omega), b.mono (by rw [Nat.mul_succ]; omega)⟩
    | some u =>
      obtain ⟨c, d⟩ := h u (List.mem_of_getElem? e)
      rw [take_snoc e, sumF_snoc]
      exact ⟨(Bits.add (a.mul d) ((c.mul b).mono (by omega))).mono (by rw [Nat.mul_succ]; omega), (b.mul d).mono (by rw [Nat.mul_succ]; omega)⟩
theorem live_sum {prs : List (Int × Int)} {l : Int × Int → Int} (h : ∀ e ∈ prs, 0 ≤ l e) (r : Int × Int → Bool) : (((prs.filter fun e => decide (0 < l e)).filter r).map l).sum = ((prs.filter r).map l).sum := by
  induction prs with
  | nil => rfl
  | cons e prs ih =>
    have ih := ih fun u hu => h u (List.mem_cons_of_mem _ hu)
    have e0 := h e List.mem_cons_self
    by_cases c : 0 < l e
    · rw [List.filter_cons_of_pos (by simpa using c)]
      by_cases d : r e = true
      · rw [List.filter_cons_of_pos d, List.filter_cons_of_pos d, List.map_cons, List.map_cons, List.sum_cons, List.sum_cons, ih]
      · rw [List.filter_cons_of_neg d, List.filter_cons_of_neg d, ih]
    · rw [List.filter_cons_of_neg (by simpa using c)]
      by_cases d : r e = true
      · rw [List.filter_cons_of_pos d, List.map_cons, List.sum_cons, ih]; omega
      · rw [List.filter_cons_of_neg d, ih]
abbrev lvR (p q lo hi n m s : Int) : List (Int × Int) := liveP (prR lo hi s) (tableI p q lo hi n) (tableI p q lo hi (n + m)) (fcR p q m s)
abbrev frR (p q lo hi n m s : Int) : Int × Int → Int × Int := fracP (prR lo hi s) (tableI p q lo hi n) (tableI p q lo hi (n + m)) (fcR p q m s)
theorem cross5 {t t2 b r s1 s2 e1 e2 : Int} (hb : 1 ≤ b) (he : 1 ≤ e2) (h1 : t * b = t2 * r) (h2 : r * e2 = e1 * b) (h3 : e1 * s2 = s1 * e2) : t * s2 = s1 * t2 := by
  refine Int.eq_of_mul_eq_mul_right (a := b * e2) (by have := Int.mul_pos (show 0 < b by omega) (show 0 < e2 by omega); omega) ?_
  grind
theorem cross6 {t t2 b c r s1 s2 e1 e2 P Q : Int} (hb : 1 ≤ b) (he : 1 ≤ e2) (hP : 1 ≤ P) (hs : 1 ≤ s2) (ht : 1 ≤ t2) (h1 : t * b = t2 * c) (hc : c ≤ r) (h2 : r * e2 * P = e1 * Q * b) (h3 : e1 * s2 = s1 * e2) : t * s2 * P ≤ s1 * Q * t2 := by
  have be : 0 < b * e2 := Int.mul_pos (by omega) (by omega)
  refine Int.le_of_mul_le_mul_right (show t * s2 * P * (b * e2) ≤ s1 * Q * t2 * (b * e2) from ?_) be
  have l : t * s2 * P * (b * e2) = (t2 * s2 * P * e2) * c := by grind
  have u : s1 * Q * t2 * (b * e2) = (t2 * s2 * P * e2) * r := by grind
  rw [l, u]
  refine Int.mul_le_mul_of_nonneg_left hc (Int.mul_nonneg (Int.mul_nonneg (Int.mul_nonneg (by omega) (by omega)) (by omega)) (by omega))
theorem RgO.lnn (R : RgO p q lo hi n m s) : ∀ e ∈ prR lo hi s, 0 ≤ (finR p q lo hi n m s).l e := R.pa.end_.1.l
theorem RgO.chk1 (R : RgO p q lo hi n m s) (h0 : lo ≤ y) (h1 : y ≤ hi) {fs : List (Int × Int)} (e : fs = ((lvR p q lo hi n m s).filter fun e => decide (e.1 = y)).map (frR p q lo hi n m s)) : (sumF fs).1 * (shr p q lo hi n y).2 = (shr p q lo hi n y).1 * (sumF fs).2 := by
  obtain ⟨b1, _⟩ := R.pa.bot
  have k := sumF_ok b1 (l := (finR p q lo hi n m s).l) (es := (lvR p q lo hi n m s).filter fun e => decide (e.1 = y)) (fun e he => R.lnn e (List.mem_filter.mp (List.mem_filter.mp he).1).1) ((lvR p q lo hi n m s).filter fun e => decide (e.1 = y)).length
  rw [List.take_length] at k
  have fe : fs = ((lvR p q lo hi n m s).filter fun e => decide (e.1 = y)).map (fun e => lowP ((finR p q lo hi n m s).l e) (btR p q lo hi n m s)) := e
  rw [← fe] at k
  have ls := live_sum R.lnn (fun e => decide (e.1 = y))
  have k3 := k.2.2
  have r := R.row h0 h1
  unfold rowS at r
  have ls2 : (((lvR p q lo hi n m s).filter fun e => decide (e.1 = y)).map (finR p q lo hi n m s).l).sum = oR p q lo hi n m s y := ls.trans r
  rw [ls2] at k3
  have ok := entS_ok (R.lo1 h0 h1)
  exact cross5 b1 ok.1.2.2 k3 (R.o_eq h0 h1) ok.2.2.1
theorem RgO.chk2 (R : RgO p q lo hi n m s) (h0 : lo ≤ y) (h1 : y ≤ hi) {fs : List (Int × Int)} (e : fs = ((lvR p q lo hi n m s).filter fun e => decide (e.2 = y)).map (frR p q lo hi n m s)) : (sumF fs).1 * (shr p q lo hi (n + m) y).2 * p ^ (m - s).natAbs ≤ (shr p q lo hi (n + m) y).1 * q ^ (m - s).natAbs * (sumF fs).2 := by
  obtain ⟨b1, _⟩ := R.pa.bot
  have := R.st.p1; have := R.st.pq; have := R.st.q9
  obtain ⟨a1, _⟩ := R.pb (a := p) (by omega) (by omega)
  have k := sumF_ok b1 (l := (finR p q lo hi n m s).l) (es := (lvR p q lo hi n m s).filter fun e => decide (e.2 = y)) (fun e he => R.lnn e (List.mem_filter.mp (List.mem_filter.mp he).1).1) ((lvR p q lo hi n m s).filter fun e => decide (e.2 = y)).length
  rw [List.take_length] at k
  have fe : fs = ((lvR p q lo hi n m s).filter fun e => decide (e.2 = y)).map (fun e => lowP ((finR p q lo hi n m s).l e) (btR p q lo hi n m s)) := e
  rw [← fe] at k
  have ls := live_sum R.lnn (fun e => decide (e.2 = y))
  have r := R.col h0 h1
  unfold colS at r
  have k3 := k.2.2
  have ls2 : (((lvR p q lo hi n m s).filter fun e => decide (e.2 = y)).map (finR p q lo hi n m s).l).sum = _ := ls
  rw [ls2] at k3
  have ok := entS_ok (R.lo2 h0 h1)
  exact cross6 b1 ok.1.2.2 a1 (shr_ok (R.lo2 h0 h1)).2.1 k.1 k3 r (R.p_eq h0 h1) ok.2.2.1
theorem le_sum {β : Type} {f : β → Int} : ∀ {l : List β}, (∀ x ∈ l, 0 ≤ f x) → ∀ x ∈ l, f x ≤ (l.map f).sum
  | a :: r, h, x, hx => by
    rw [List.map_cons, List.sum_cons]
    have h1 := h a List.mem_cons_self
    have h2 : 0 ≤ (r.map f).sum := by
      clear hx
      have h := fun y (hy : y ∈ r) => h y (List.mem_cons_of_mem _ hy)
      induction r with
      | nil => exact Int.le_refl _
      | cons b r ih =>
        rw [List.map_cons, List.sum_cons]
        have := h b List.mem_cons_self
        have := ih (fun y hy => by rcases List.mem_cons.mp hy with e | e; · rw [e]; exact h1
                                   exact h y (List.mem_cons_of_mem _ e)) (fun y hy => h y (List.mem_cons_of_mem _ hy))
        omega
    rcases List.mem_cons.mp hx with e | e
    · rw [e]; omega
    · have := le_sum (fun y hy => h y (List.mem_cons_of_mem _ hy)) x e; omega
/-- the fractions that are told: whole, above 0, in lowest terms, not too long -/
theorem RgO.frs (R : RgO p q lo hi n m s) {e : Int × Int} (he : e ∈ lvR p q lo hi n m s) : (lo ≤ e.1 ∧ e.1 ≤ hi) ∧ mayB lo hi s e.1 e.2 = true ∧ 1 ≤ (frR p q lo hi n m s e).1 ∧ 1 ≤ (frR p q lo hi n m s e).2 ∧ (frR p q lo hi n m s e).1 < 2 ^ 155 * 2 ^ 155 ∧ (frR p q lo hi n m s e).2 < 2 ^ 127 ∧ lowP (frR p q lo hi n m s e).1 (frR p q lo hi n m s e).2 = frR p q lo hi n m s e := by
  obtain ⟨h1, h2⟩ := List.mem_filter.mp he
  have h2 : 0 < (finR p q lo hi n m s).l e := of_decide_eq_true h2
  obtain ⟨b1, bM, _⟩ := R.pa.bot
  have bm : btR p q lo hi n m s < 2 ^ 127 := Int.lt_of_le_of_lt (Int.le_of_dvd (by have := R.mm.1; omega) bM) R.mm.2
  have b1 : 1 ≤ btR p q lo hi n m s := b1
  have nn := nR_eq R.ok.b
  obtain ⟨m1, m2, m3⟩ := (mem_mayN (y := e.1) (z := e.2) R.ok.b).mp h1
  have y0 : lo ≤ e.1 := m1.1
  have y1 : e.1 ≤ hi := by have := m1.2; omega
  have le : (finR p q lo hi n m s).l e ≤ oR p q lo hi n m s e.1 := by
    rw [← R.row y0 y1]
    unfold rowS
    exact le_sum (fun x hx => R.lnn x (List.mem_filter.mp hx).1) e (List.mem_filter.mpr ⟨h1, decide_eq_true rfl⟩)
  have ok := entS_ok (R.lo1 y0 y1)
  have oe := R.o_eq y0 y1
  have ob : oR p q lo hi n m s e.1 < 2 ^ 155 * 2 ^ 155 := by
    have f1 := ok.1.1.2
    have f0 := ok.1.1.1
    have f2 := ok.1.2.2
    have o0 : 0 ≤ oR p q lo hi n m s e.1 := by omega
    have a1 : oR p q lo hi n m s e.1 * 1 ≤ oR p q lo hi n m s e.1 * (entS p q lo hi n e.1).2 := Int.mul_le_mul_of_nonneg_left f2 o0
    rw [oe, Int.mul_one] at a1
    have a2 := Int.mul_le_mul (show (entS p q lo hi n e.1).1 ≤ 2 ^ 180 by omega) (show btR p q lo hi n m s ≤ 2 ^ 127 by omega) (by omega) (by decide)
    exact Int.lt_of_le_of_lt (Int.le_trans a1 a2) (by decide)
  have fe : frR p q lo hi n m s e = lowP ((finR p q lo hi n m s).l e) (btR p q lo hi n m s) := rfl
  rw [fe]
  refine ⟨⟨y0, y1⟩, m3, low1_pos (by omega) b1, low2_pos b1, ?_, ?_, ?_⟩
  · exact Int.lt_of_le_of_lt (low1_le (b := btR p q lo hi n m s) (Int.le_of_lt h2) b1) (by omega)
  · exact Int.lt_of_le_of_lt (low2_le (a := (finR p q lo hi n m s).l e) b1) bm
  · obtain ⟨x, y⟩ := low_low (Int.le_of_lt h2) b1
    unfold lowP
    dsimp only
    rw [x, y]
/-- the factor -/
theorem gcd_pow {p q : Int} (h0 : 0 ≤ p) (h1 : 0 ≤ q) (h : gI p q = 1) (k : Nat) : gI (q ^ k) (p ^ k) = 1 := by
  obtain ⟨a, rfl⟩ := Int.eq_ofNat_of_zero_le h0
  obtain ⟨b, rfl⟩ := Int.eq_ofNat_of_zero_le h1
  unfold gI at *
  rw [Int.toNat_natCast, Int.toNat_natCast] at h
  have h : Nat.gcd a b = 1 := by omega
  have e1 : ((b : Int) ^ k).toNat = b ^ k := by rw [← Int.natCast_pow, Int.toNat_natCast]
  have e2 : ((a : Int) ^ k).toNat = a ^ k := by rw [← Int.natCast_pow, Int.toNat_natCast]
  rw [e1, e2, Nat.Coprime.pow k k (Nat.Coprime.symm h)]
  rfl
theorem RgO.fac (R : RgO p q lo hi n m s) : lowP (q ^ (m - s).natAbs) (p ^ (m - s).natAbs) = (q ^ (m - s).natAbs, p ^ (m - s).natAbs) := by
  have := R.st.p1; have := R.st.pq
  unfold lowP low1 low2
  rw [gcd_pow (by omega) (by omega) R.cp, Int.ediv_one, Int.ediv_one]
def spRun : Sp := fun vs H Q _ => ∃ (st : Addr) (p q lo hi n m s : Int), vs = [.ref st, .int lo, .int hi, .int n, .int m, .int s] ∧ TupAt H st p q ∧ RgO p q lo hi n m s ∧
  ∀ H' r f d, Same H H' → H d = none → H' r = some (.tup [.ref f, .ref d]) → TupAt H' f (q ^ (m - s).natAbs) (p ^ (m - s).natAbs) → PgH H' d (lvR p q lo hi n m s) (frR p q lo hi n m s) → Q (.ref r) H'
def spPow40 : Sp := fun vs H Q _ => ∃ (p : Addr) (a b k : Int), vs = [.ref p, .int k] ∧ TupAt H p a b ∧ 0 ≤ a ∧ a ≤ 9 ∧ 0 ≤ b ∧ b ≤ 9 ∧ 0 ≤ k ∧ k ≤ 40 ∧ ∀ r, H r = none → Q (.ref r) (upd H r (.tup [.int (a ^ k.toNat), .int (b ^ k.toNat)]))
end Mine
namespace L2
open PySem PySem.Spec PyProof.Rows PySem.MeetsSeq
theorem for_dictT {d : Addr} {o : Obj} {kvs : List (List Key × V)} {g : TG} {tb : TS} {D : Ends} {σ : St} {H : Hp} (Pv : Nat → St → Hp → Prop) (h0 : Pv 0 σ H) (hl : ∀ i σ H, i ≤ kvs.length → Pv i σ H → H d = some (.frz o (.dT kvs)))
    (hs : ∀ i k v b σ H, kvs[i]? = some (k, v) → H b = some (.tup (k.map kV)) → Pv i σ H → g (.ref b) σ H fun σ2 H2 => tb { D with nx := Pv (i + 1), ct := Pv (i + 1), bk := D.nx } σ2 H2) (hd : ∀ σ H, Pv kvs.length σ H → D.nx σ H) :
    ∃ W : Nat → Nat → St → Hp → Prop, (∃ m, W 0 m σ H) ∧ ∀ i m σ H, W i m σ H →
      ((ItdT d o kvs).stop i H ∧ D.nx σ H) ∨ ((ItdT d o kvs).go i H ∧ ∃ N : St → Hp → Prop, (∀ σ' H', N σ' H' → ∃ m', m' < m ∧ W (i + 1) m' σ' H') ∧ ∀ x H', (ItdT d o kvs).yld i H x H' → g x σ H' fun σ2 H2 => tb { D with nx := N, ct := N, bk := D.nx } σ2 H2) := by
  refine ⟨fun i m σ H => m = kvs.length - i ∧ i ≤ kvs.length ∧ Pv i σ H, ⟨_, rfl, Nat.zero_le _, h0⟩, ?_⟩
  rintro i m σ H ⟨rfl, hi, p⟩
  by_cases c : i < kvs.length
  · right
    refine ⟨⟨c, hl i σ H hi p⟩, Pv (i + 1), fun σ' H' p' => ⟨kvs.length - (i + 1), by omega, rfl, c, p'⟩, ?_⟩
    rintro x H' ⟨rfl, k, v, b, e, eb, rfl⟩
    exact hs i k v b σ _ e eb p
  · left
    have e : i = kvs.length := by omega
    exact ⟨⟨by omega, hl i σ H hi p⟩, hd σ H (by rw [← e]; exact p)⟩
section
variable {X : Cx} {pins : List (Addr × Obj)} {σ : St} {H : Hp} {s : Shared}
theorem eqW_tup {A : Around} (I : Inv X pins σ H s) (hu : A.units + 64 < cLine) {a b : Addr} {i j : Int} (ha : H a = some (.tup [.int i, .int j])) (hb : H b = some (.tup [.int i, .int j])) : EqW X.prog X.w A s (.ref a) (.ref b) := by
  by_cases e : a = b
  · subst e; exact eqW_same _
  · refine eqW_refs e fun Q F q => ?_
    have rp {c : Addr} (hc : H c = some (.tup [.int i, .int j])) : RepD X.K H (.tuple [.int i, .int j]) (.ref c) := ⟨c, _, rfl, SqT.of hc, _, _, rfl, rfl, _, _, rfl, rfl, rfl⟩
    obtain ⟨as, ra⟩ := RepD.reads I _ _ (.ref a) (rp ha) rfl
    obtain ⟨bs, rb⟩ := RepD.reads I _ _ (.ref b) (rp hb) rfl
    refine eq_dataH_same ra rb rfl rfl hu rfl ?_
    have : same (.tuple [.int i, .int j]) (.tuple [.int i, .int j]) = true := by simp [same, sameAll]
    rw [this]
    exact q
theorem eqW_dic {A : Around} (I : Inv X pins σ H s) (hu : A.units + 100 < cLine) {a b : Addr} {kvs kws : List (List Key × V)} (hne : a ≠ b) (ha : H a = some (.dT kvs)) (hb : H b = some (.dT kws)) (hk : kvs.map (·.1) = kws.map (·.1))
    (hv : ∀ (k : Nat) p q, kvs[k]? = some p → kws[k]? = some q → ∃ (c e : Addr) (i j : Int), p.2 = .ref c ∧ q.2 = .ref e ∧ H c = some (.tup [.int i, .int j]) ∧ H e = some (.tup [.int i, .int j])) : EqW X.prog X.w A s (.ref a) (.ref b) := by
  refine eqW_refs hne fun Q F q => ?_
  obtain ⟨za, hda, xs, rela, dda⟩ := dt_of I.hok ha
  obtain ⟨zb, hdb, ys, relb, ddb⟩ := dt_of I.hok hb
  obtain ⟨oa, esa, epa, g1, g2, g3, g4, g5, g6⟩ := id dda
  obtain ⟨ob, esb, epb, f1, f2, f3, f4, f5, f6⟩ := id ddb
  have ta : s.TypeIs (.ref a) "dict" := ⟨oa, g1, g2.1⟩
  have tb : s.TypeIs (.ref b) "dict" := ⟨ob, f1, f2.1⟩
  refine wpAny_richCompare_same_room ta tb PySem.F.slot_dict_eq ?_ (by omega)
  refine wpAny_call_entry PySem.F.slot_dict_eq ta PySem.F.entry_dict_eq ?_ (PySem.F.args_dict_eq_2 _ _)
  refine (show wpAny _ _ (Builtin.Dict.dictSlotArgs "__eq__" ⟨[.ref a, .ref b], []⟩ >>= _) _ _ _ from wpAny_bind ?_)
  unfold Builtin.Dict.dictSlotArgs
  refine wpAny_bind (wpAny_notOrdered_dict ta ?_)
  refine wpAny_bind (wpAny_of_eq (a := (Value.ref a, [Value.ref b])) rfl (wpAny_pure ?_))
  refine (show wpAny _ _ (isInstance (.ref b) (.type "dict") >>= _) _ _ _ from wpAny_bind (wpAny_isInstance tb isSubtype_dict_dict ?_))
  rw [if_neg (by decide)]
  refine wpAny_bind (wpAny_pure (wpAny_bind (wpAny_pure ?_)))
  refine wpAny_bind (same_heap (by show _ + 1 < _; omega) hda hdb dda ddb ?_ (fun i p r h1 h2 => ?_) ?_)
  · rw [kt_keys rela, kt_keys relb, hk]
  · have la := Paired.length rela
    have lb := Paired.length relb
    have i1 := (List.getElem?_eq_some_iff.mp h1).1
    have i2 := (List.getElem?_eq_some_iff.mp h2).1
    obtain ⟨p', e1, r1⟩ := pair_get rela (List.getElem?_eq_getElem (show i < kvs.length by omega))
    obtain ⟨q', e2, r2⟩ := pair_get relb (List.getElem?_eq_getElem (show i < kws.length by omega))
    rw [h1] at e1
    rw [h2] at e2
    cases e1
    cases e2
    obtain ⟨c, e, x, y, w1, w2, w3, w4⟩ := hv i _ _ (List.getElem?_eq_getElem (show i < kvs.length by omega)) (List.getElem?_eq_getElem (show i < kws.length by omega))
    have v1 := r1.2.2
    have v2 := r2.2.2
    rw [w1] at v1
    rw [w2] at v2
    have v1 : p.2.2 = .ref c := v1
    have v2 : r.2.2 = .ref e := v2
    rw [v1, v2]
    exact eqW_tup I (by show _ + 1 + 64 < _; omega) w3 w4
  · exact wpAny_pure ⟨_, rfl, (fun z => nomatch z), q⟩
end
/-- (fraction, dict) == (fraction, dict), the same told twice -/
def rEqFD : R2 := fun x y H Q => ∃ (a b f1 f2 d1 d2 : Addr) (i j : Int) (kvs kws : List (List Key × V)), x = .ref a ∧ y = .ref b ∧ H a = some (.tup [.ref f1, .ref d1]) ∧ H b = some (.tup [.ref f2, .ref d2]) ∧ H f1 = some (.tup [.int i, .int j]) ∧ H f2 = some (.tup [.int i, .int j]) ∧
  H d1 = some (.dT kvs) ∧ H d2 = some (.dT kws) ∧ d1 ≠ d2 ∧ kvs.map (·.1) = kws.map (·.1) ∧ (∀ (k : Nat) p q, kvs[k]? = some p → kws[k]? = some q → ∃ (c e : Addr) (i j : Int), p.2 = .ref c ∧ q.2 = .ref e ∧ H c = some (.tup [.int i, .int j]) ∧ H e = some (.tup [.int i, .int j])) ∧ Q (.bl true) H
theorem op_eqFD {X : Cx} {k : Nat} (hr : Room k X.A) : OpR X (compareOp .Eq) rEqFD := by
  intro pins s σ H x y v u Q I rx ry h
  obtain ⟨a, b, f1, f2, d1, d2, i, j, kvs, kws, rfl, rfl, ha, hb, h1, h2, h3, h4, hne, hk, hv, q⟩ := h
  cases rx
  cases ry
  have hu := hr.un
  obtain ⟨its, rv, it, _⟩ := I.tuple (SqT.of ha)
  obtain ⟨jts, rw', jt, _⟩ := I.tuple (SqT.of hb)
  cases rv with
  | cons r1 r2 => cases r2 with
    | cons r2 r3 =>
      cases r3; cases r1; cases r2
      cases rw' with
      | cons s1 s2 => cases s2 with
        | cons s2 s3 =>
          cases s3; cases s1; cases s2
          exact eq_two it jt (by omega) (eqW_tup I (by show X.A.units + 1 + 64 < _; omega) h1 h2) (eqW_dic I (by show X.A.units + 1 + 100 < _; omega) hne h3 h4 hk hv) ⟨.bl true, H, I, rfl, q⟩
end L2
namespace L2
open PySem PySem.Spec PyProof.Rows
def hash2 (x y : Int) : Int := reduceHash (Builtin.Tuple.tupleHashOf [hashInt x, hashInt y])
theorem hashT_two (P : Program) (w : World) (x y : Int) : hashT P w [.inl x, .inl y] = hash2 x y := rfl
def hash2s : List Int := (List.range 100).map fun i => hash2 ((i / 10 : Nat) : Int) ((i % 10 : Nat) : Int)
theorem hash2s_nd : hash2s.Nodup := by decide +kernel
theorem hash2_inj {a b c d : Int} (ha : 0 ≤ a ∧ a ≤ 9) (hb : 0 ≤ b ∧ b ≤ 9) (hc : 0 ≤ c ∧ c ≤ 9) (hd : 0 ≤ d ∧ d ≤ 9) (h : hash2 a b = hash2 c d) : a = c ∧ b = d := by
  have at_ {a b : Int} (ha : 0 ≤ a ∧ a ≤ 9) (hb : 0 ≤ b ∧ b ≤ 9) : hash2s[(10 * a + b).toNat]? = some (hash2 a b) := by
    unfold hash2s
    rw [List.getElem?_map, List.getElem?_range (by omega)]
    simp only [Option.map_some]
    rw [show (((10 * a + b).toNat / 10 : Nat) : Int) = a by omega, show (((10 * a + b).toNat % 10 : Nat) : Int) = b by omega]
  have e1 := at_ ha hb
  have e2 := at_ hc hd
  rw [h] at e1
  have l1 := (List.getElem?_eq_some_iff.mp e1).1
  have e := (List.getElem?_inj l1 hash2s_nd).mp (e1.trans e2.symm)
  omega
theorem hash_nd (P : Program) (w : World) : ∀ {ps : List (Int × Int)}, ps.Nodup → (∀ e ∈ ps, (0 ≤ e.1 ∧ e.1 ≤ 9) ∧ 0 ≤ e.2 ∧ e.2 ≤ 9) → (ps.map fun e => hashT P w [.inl e.1, .inl e.2]).Nodup
  | [], _, _ => by simp
  | e :: r, nd, h => by
    obtain ⟨n1, n2⟩ := List.nodup_cons.mp nd
    rw [List.map_cons]
    refine List.nodup_cons.mpr ⟨fun q => ?_, hash_nd P w n2 fun u hu => h u (List.mem_cons_of_mem _ hu)⟩
    obtain ⟨u, hu, q⟩ := List.mem_map.mp q
    rw [hashT_two, hashT_two] at q
    have a := h e List.mem_cons_self
    have b := h u (List.mem_cons_of_mem _ hu)
    obtain ⟨c, d⟩ := hash2_inj b.1 b.2 a.1 a.2 q
    exact n1 ((Prod.ext c d : u = e) ▸ hu)
end L2
namespace Mine
open PySem L2
/-! ### promises of the law's own defs -/
theorem PgH.same {H H' : Hp} {d : Addr} {ps : List (Int × Int)} {f : Int × Int → Int × Int} (s : Same H H') (h : PgH H d ps f) : PgH H' d ps f := let ⟨zs, a, b, c⟩ := h; ⟨zs, s _ _ a, b, fun z hz => s _ _ (c z hz)⟩
theorem steep_lowR {a b : Int} (h1 : 1 ≤ a) (h2 : a < b) (h3 : b ≤ 9) : Steep (low1 a b) (low2 a b) ∧ gI (low1 a b) (low2 a b) = 1 := by
  have r := low_ratio (a := a) (b := b) (by omega) (by omega)
  have p1 := low1_pos (S := a) (P := b) h1 (by omega)
  have p2 := low2_pos (a := a) (b := b) (by omega)
  have l2 := low2_le (a := a) (b := b) (by omega)
  have lt : low1 a b < low2 a b := by
    refine Int.lt_of_mul_lt_mul_right (a := b) ?_ (by omega)
    rw [r]
    rw [Int.mul_comm (low2 a b) b]
    exact Int.mul_lt_mul_of_pos_right h2 (by omega)
  refine ⟨⟨p1, lt, by omega⟩, ?_⟩
  obtain ⟨e1, _⟩ := low_low (a := a) (b := b) (by omega) (by omega)
  generalize low1 a b = x at *
  generalize low2 a b = y at *
  have d := gI_dvd1 (a := x) (b := y) (by omega)
  have g := gI_pos (a := x) p2
  unfold low1 at e1
  have c := Int.ediv_mul_cancel d
  rw [e1] at c
  have : x * (gI x y - 1) = 0 := by rw [Int.mul_sub, c]; omega
  rcases Int.mul_eq_zero.mp this with z | z <;> omega
def spStp33 : Sp := fun vs H Q _ => ∃ (d l : Addr), vs = [.ref d, .int 1] ∧ Deal H d l ∧ ∀ (r : Addr) (p q : Int) (H' : Hp), TupAt H' r p q → Steep p q → gI p q = 1 → Deal H' d l → Out d l H H' → Q (.ref r) H'
def spLPow40 : Sp := fun vs H Q _ => ∃ (a k : Int), vs = [.int a, .int k] ∧ 0 ≤ a ∧ a ≤ 9 ∧ 0 ≤ k ∧ k ≤ 40 ∧ Q (.int (a ^ k.toNat)) H
def spLMayR : Sp := fun vs H Q _ => ∃ lo hi s y z : Int, vs = [.int lo, .int hi, .int s, .int y, .int z] ∧ lo ≤ z ∧ z ≤ hi ∧ Q (.bl (mayB lo hi s y z)) H
def spLLad : Sp := fun vs H Q _ => ∃ (st : Addr) (p q lo hi n : Int), vs = [.ref st, .int lo, .int hi, .int n] ∧ TupAt H st p q ∧ Steep p q ∧ Ends lo hi ∧ lo ≤ n ∧ n ≤ hi ∧ ∀ H' l us, Same H H' → H' l = some (.lst us) → Two (FrE H') us ((rangeI lo (nR lo hi)).map (shr p q lo hi n)) → Q (.ref l) H'
def spIsF : Sp := fun vs H Q _ => ∃ (a : Addr) (x y : Int), vs = [.ref a] ∧ TupAt H a x y ∧ 1 ≤ x ∧ 1 ≤ y ∧ y < 2 ^ 200 * 2 ^ 200 ∧ lowP x y = (x, y) ∧ ∀ H', Same H H' → Q (.bl true) H'
def spLSum : Sp := fun vs H Q _ => ∃ (l : Addr) (us : List V) (fs : List (Int × Int)), vs = [.ref l] ∧ H l = some (.lst us) ∧ Two (FrE H) us fs ∧ fs.length ≤ 200 ∧ (∀ u ∈ fs, Bits 310 u.1 ∧ Bits 310 u.2) ∧ ∀ H' r, Same H H' → TupAt H' r (sumF fs).1 (sumF fs).2 → Q (.ref r) H'
def spRight33 : Sp := fun vs H Q _ => ∃ (st : Addr) (p q lo hi n m s : Int), vs = [.ref st, .int lo, .int hi, .int n, .int m, .int s] ∧ TupAt H st p q ∧ RgO p q lo hi n m s ∧ ∀ H', Same H H' → Q (.bl true) H'
structure AskO (p q lo hi n e s : Int) : Prop where
  st : Steep p q
  cp : gI p q = 1
  ok : Ok3 lo hi s
  n0 : lo ≤ n
  n1 : n ≤ hi
  e0 : lo ≤ e
  e1 : e ≤ hi
theorem AskO.rg {p q lo hi n e s : Int} (A : AskO p q lo hi n e s) : RgO p q lo hi n (e - n) s := ⟨A.st, A.cp, A.ok, A.n0, A.n1, by have := A.e0; omega, by have := A.e1; omega⟩
def spOth33 : Sp := fun vs H Q _ => ∃ (d l a st : Addr) (w p q lo hi n e s : Int), vs = [.ref d, .int w, .ref a] ∧ Deal H d l ∧ 0 ≤ w ∧ w < 5 ∧ H a = some (.lst [.ref st, .int lo, .int hi, .int n, .int e, .int s]) ∧ TupAt H st p q ∧ AskO p q lo hi n e s ∧ ∀ H', Deal H' d l → Out d l H H' → Q (.bl true) H'
theorem RgO.snd {p q lo hi n m s : Int} (R : RgO p q lo hi n m s) {e : Int × Int} (he : e ∈ lvR p q lo hi n m s) : lo ≤ e.2 ∧ e.2 ≤ hi := ((mem_mayN (y := e.1) (z := e.2) R.ok.b).mp (List.mem_filter.mp he).1).2.1
theorem bits310 {a : Int} (h0 : 0 ≤ a) (h : a < 2 ^ 155 * 2 ^ 155) : Bits 310 a := bits_of (m := 310) h0 (by rw [show (2 : Int) ^ 310 = 2 ^ 155 * 2 ^ 155 from Int.pow_add 2 155 155]; exact h) (Nat.le_refl _)
/-! the dict's entries -/
theorem pgK_at {zs : List ((Int × Int) × Addr)} {i : Nat} {k : List Key} {v : V} (h : (pgK zs)[i]? = some (k, v)) : ∃ z, zs[i]? = some z ∧ k = [.inl z.1.1, .inl z.1.2] ∧ v = .ref z.2 := by
  unfold pgK at h
  rw [List.getElem?_map] at h
  cases e : zs[i]? with
  | none => rw [e] at h; cases h
  | some z => rw [e] at h; cases h; exact ⟨z, rfl, rfl, rfl⟩
theorem pgK_val {zs : List ((Int × Int) × Addr)} (nd : (zs.map (·.1)).Nodup) {z : (Int × Int) × Addr} (h : z ∈ zs) : valV (pgK zs) [Sum.inl z.1.1, Sum.inl z.1.2] = some (.ref z.2) := by
  induction zs with
  | nil => exact absurd h List.not_mem_nil
  | cons k ks ih =>
    obtain ⟨n1, n2⟩ := List.nodup_cons.mp nd
    rcases List.mem_cons.mp h with e | e
    · subst e; exact valV_pos (p := (([Sum.inl z.1.1, Sum.inl z.1.2] : List Key), V.ref z.2)) rfl
    · refine (valV_neg (p := (([Sum.inl k.1.1, Sum.inl k.1.2] : List Key), V.ref k.2)) (r := pgK ks) (k := [Sum.inl z.1.1, Sum.inl z.1.2]) (fun q => ?_)).trans (ih n2 e)
      exact n1 (List.mem_map.mpr ⟨z, e, (key_two q).symm⟩)
/-- a dict that was frozen is itself again -/
theorem thaw2 {H G : Hp} {a : Addr} {o : Obj} {u : HO} (ha : H a = some u) (s : Same (upd H a (.frz o u)) G) : Same H (upd G a u) := fun c q e => by
  by_cases ca : c = a
  · subst ca
    rw [ha] at e
    rw [upd_same]
    exact e
  · rw [upd_ne ca]
    exact s _ _ (by rw [upd_ne ca]; exact e)
theorem filt_two {zs : List ((Int × Int) × Addr)} {f : Int × Int → Int × Int} {r : Int × Int → Bool} : ((zs.filter fun z => r z.1).map fun z => f z.1) = ((zs.map (·.1)).filter r).map f := by
  rw [List.filter_map, List.map_map]
  rfl
theorem take_filt {α : Type} {l : List α} {i : Nat} {x : α} (h : l[i]? = some x) (r : α → Bool) : (l.take (i + 1)).filter r = (l.take i).filter r ++ (if r x = true then [x] else []) := by
  rw [take_snoc h, List.filter_append]
  congr 1
  by_cases c : r x = true
  · rw [if_pos c, List.filter_cons_of_pos c]; rfl
  · rw [if_neg c, List.filter_cons_of_neg c]; rfl
theorem in_two {y a b : Int} : inV (.int y) [.int a, .int b] = decide (y = a ∨ y = b) := by
  unfold inV
  simp only [List.any_cons, List.any_nil, Bool.or_false]
  unfold eqV
  by_cases c : y = a
  · subst c; simp
  · by_cases d : y = b
    · subst d; simp
    · have : ¬ a = y := fun z => c z.symm
      have : ¬ b = y := fun z => d z.symm
      simp [*]
theorem shr_if {p q lo hi n y : Int} (h : lo ≠ hi) {f : Nat} (hf : (y - n).natAbs = f) : shr p q lo hi n y = ((if y = lo ∨ y = hi then q else q - p) * p ^ f, (q + p) * q ^ f) := by
  unfold shr eN eD tlN shN shD
  rw [if_neg h, hf]
  split <;> rfl
end Mine
namespace Mine
open PySem L2
def top (i : Nat) : Stmt := PySem.Challenge.pw_pairedthrows_k33_whole_rungs_paired.main.body.getD i (.Pass ⟨0, 0, 0, 0⟩)
def inC (s : Stmt) (i : Nat) : Stmt := match s with
  | .ClassDef _ _ _ b _ _ _ _ _ _ _ => b.getD i (.Pass ⟨0, 0, 0, 0⟩)
  | _ => .Pass ⟨0, 0, 0, 0⟩
abbrev sGcd : Stmt := top 1
abbrev sLow : Stmt := top 2
abbrev sTimes : Stmt := top 3
abbrev sMinus : Stmt := top 4
abbrev sPow : Stmt := top 5
abbrev sGpd : Stmt := top 7
abbrev sIni : Stmt := inC (top 8) 0
abbrev sCom : Stmt := top 9
abbrev sAmt : Stmt := top 10
abbrev sAms : Stmt := top 11
abbrev sNxt : Stmt := top 12
abbrev sHas : Stmt := top 13
abbrev sSrc : Stmt := top 14
abbrev sBck : Stmt := top 15
abbrev sAln : Stmt := top 16
abbrev sLal : Stmt := top 17
abbrev sPai : Stmt := top 18
abbrev sCut : Stmt := top 20
abbrev sShare : Stmt := top 21
abbrev sFar : Stmt := top 22
abbrev sTail : Stmt := top 23
abbrev sLad : Stmt := top 24
abbrev sPart : Stmt := top 26
abbrev sMay : Stmt := top 27
abbrev sRun : Stmt := top 28
abbrev sDeal : Stmt := top 30
abbrev sDraw : Stmt := top 31
abbrev sLLow : Stmt := top 32
abbrev sStp : Stmt := top 33
abbrev sLMay : Stmt := top 34
abbrev sLPow : Stmt := top 35
abbrev sLLad : Stmt := top 36
abbrev sIsF : Stmt := top 37
abbrev sLSum : Stmt := top 38
abbrev sRight : Stmt := top 39
abbrev sOth : Stmt := top 40
abbrev sLaw : Stmt := top 41
section
variable {P : Program} {w : World} {K : PySem.W.Frag} {mg : Str → Option Value} {base : Heap}
theorem scDraw : FnScope ["_law_deal_here", "_law_many", "_law_number", "_law_one", "_law_other_here"] ["_law_deal_here", "_law_many"] (defScope sDraw) := ⟨rfl, rfl, rfl, by decide +kernel, rfl, by decide +kernel, by decide +kernel⟩
theorem ok_draw {f : Addr} {fd : FuncData} (F : Fun K "_law_draw" "_law_draw" sDraw f fd) (ml : mg "len" = none) : FnOk P w K mg base CX0 1 f fd ["_law_deal_here", "_law_many"] spDraw := by
  refine F.ok scDraw (fun vs H Q E h => ?_) (fun cdv A outer s H vs Q E hr h => ?_)
  · obtain ⟨d, l, m, rfl, _⟩ := h
    rfl
  obtain ⟨d, l, m, rfl, ⟨sd, n, ls, D⟩, hm0, hm1, k⟩ := h
  have hu := hu_of hr
  refine ⟨_, pss_cons (ps_while PassesOwn.never (pw_and (pt_cmpR op_eq (pe_dget hu (pv 0) pe_str (fun _ _ => rfl)) pe_int (nomark _)) (pw_and1 (pt_cmpR op_gt (pe_callB call_len_seq (by rfl) ml PySem.boot_len (pa_cons (pe_dget hu (pv 0) pe_str (fun _ _ => rfl)) pa_nil)) pe_int (nomark _)))).pt
      (pss_one (ps_dput hu (pv 0) pe_str (pe_bm0 PySem.F.plainAttrs_list PySem.F.slot_list_pop PySem.F.type_list_pop mt_pop (pe_dget hu (pv 0) pe_str (fun _ _ => rfl))) rfl)))
    (pss_cons (ps_set (i := 2) scDraw.nd rfl (Or.inl rfl) (pe_dget hu (pv 0) pe_str (fun _ _ => rfl)))
    (pss_cons (ps_if (pt_cmpR op_gt (pv 2) pe_int (nomark _))
      (pss_cons (ps_dput hu (pv 0) pe_str (pe_op op_fdivB (pv 2) (pv 1)) rfl) (pss_one (ps_ret (pe_op op_mod (pv 2) (pv 1))))) pss_nil)
    (pss_cons (ps_set (i := 3) scDraw.nd rfl (Or.inl rfl) (pe_op op_mod (pe_op op_add (pe_op op_mul (pe_dget hu (pv 0) pe_str (fun _ _ => rfl)) pe_int) pe_int) pe_int))
    (pss_cons (ps_dput hu (pv 0) pe_str (pe_op op_mod (pe_op op_add (pe_op op_mul (pv 3) pe_int) pe_int) pe_int) rfl)
    (pss_cons (ps_set (i := 4) scDraw.nd rfl (Or.inl rfl) (pe_op op_mod (pe_op op_mul (pe_dget hu (pv 0) pe_str (fun _ _ => rfl)) (pe_dget hu (pv 0) pe_str (fun _ _ => rfl))) pe_int))
    (pss_one (ps_ret (pe_op op_mod (pe_op op_add (pe_op op_mul (pe_op op_mod (pe_op op_mul (pv 3) (pv 3)) pe_int) pe_int) (pv 4)) (pv 1))))))))), ?_⟩
  -- the while: numbers are taken until one is above 0, or none is left
  refine ⟨fun j σ H1 => ∃ n' ls', σ = [some (.ref d), some (.int m), none, none, none] ∧ DealAt H1 d l sd n' ls' ∧ j = ls'.length ∧ Out d l H H1, ⟨_, n, ls, rfl, D, rfl, Out.refl H⟩, ?_⟩
  rintro j σ H1 ⟨n', ls', rfl, D1, rfl, o1⟩
  refine ⟨_, rfl, d, _, rfl, D1.gn, rfl, _, rfl, ?_⟩
  refine ite2 (fun c => ?a) (fun c => iteF ?b)
  case' a => refine ⟨_, rfl, d, _, rfl, D1.gl, l, _, rfl, .inl (SqL.of D1.lc), _, _, rfl, rfl, _, rfl, ?_⟩
  case' a => refine ite2 (fun c2 => ?loop) (fun c2 => ?b2)
  case loop =>
      -- one is popped
      have hl : 0 < ls'.length := by
        have := of_decide_eq_true c2
        simpa using this
      obtain ⟨z, hz⟩ : ∃ z, ls'[ls'.length - 1]? = some z := ⟨ls'[ls'.length - 1], by simp⟩
      have hz2 : (ls'.map V.int)[(ls'.map V.int).length - 1]? = some (.int z) := by rw [List.length_map, List.getElem?_map, hz]; rfl
      have z0 : 0 ≤ z := D1.l0 z (List.mem_of_getElem? hz)
      have D2 : DealAt (upd H1 l (.lst (ls'.dropLast.map V.int))) d l sd n' ls'.dropLast := D1.left fun x hx => D1.l0 x (List.dropLast_subset _ hx)
      refine ⟨fun σ' H' => σ' = [some (.ref d), some (.int m), none, none, none] ∧ DealAt H' d l sd z ls'.dropLast ∧ Out d l H H', fun σ' H' q => ⟨_, by rw [List.length_dropLast]; omega, z, ls'.dropLast, q.1, q.2.1, rfl, q.2.2⟩, ?_⟩
      refine ⟨_, rfl, d, _, rfl, D1.gl, .inl ⟨rfl, _, SqL.of D1.lc⟩, l, _, _, rfl, rfl, D1.lc, hz2, ?_⟩
      have e : ∀ (o : List V), (ls'.map V.int).dropLast = o → upd H1 l (.lst (ls'.map V.int).dropLast) = upd H1 l (.lst o) := fun o e => by rw [e]
      rw [e _ List.map_dropLast.symm]
      refine ⟨_, rfl, d, _, rfl, D2.pn z, rfl, D2.number z0, o1.trans (Out.upd_l.trans Out.upd_d)⟩
  all_goals
    refine ⟨_, rfl, d, _, rfl, D1.gn, ?_⟩
    refine ⟨_, rfl, _, _, rfl, rfl, _, rfl, ?_⟩
    refine ite2 (fun c3 => ?_) (fun c3 => ?_)
    · have hp : 0 < n' := of_decide_eq_true c3
      refine ⟨_, rfl, _, rfl, _, _, rfl, rfl, ⟨hm0, by omega⟩, _, rfl, d, _, rfl, D1.pn (n' / m), ?_⟩
      refine ⟨_, rfl, _, rfl, _, _, rfl, rfl, hm0, ?_⟩
      exact k _ _ (Int.emod_nonneg _ (by omega)) (Int.emod_lt_of_pos _ hm0) ⟨_, _, _, D1.number (Int.ediv_nonneg (by omega) (by omega))⟩ (o1.trans Out.upd_d)
    · -- a number by the seed
      have q1 : (0 : Int) < 2147483647 := by decide
      refine ⟨_, rfl, d, _, rfl, D1.gs, _, _, rfl, rfl, .inr ⟨by decide, by decide⟩, _, _, rfl, rfl, _, _, rfl, rfl, q1, ?_⟩
      have q2 : (0 : Int) < 2147483587 := by decide
      refine ⟨_, rfl, _, _, rfl, rfl, .inr ⟨by decide, by decide⟩, _, _, rfl, rfl, _, _, rfl, rfl, q2, _, rfl, d, _, rfl, D1.ps _, ?_⟩
      have D2 := D1.seed (v := ((sd * 48271 + 5003) % 2147483647 * 39373 + 60013) % 2147483587) (by omega) (by omega)
      have q3 : (0 : Int) < 2147483549 := by decide
      have q4 : (0 : Int) < 2147483563 := by decide
      refine ⟨_, rfl, d, _, rfl, D2.gs, _, rfl, d, _, rfl, D2.gs, _, _, rfl, rfl, .inr ⟨by omega, by omega⟩, _, _, rfl, rfl, q3, ?_⟩
      refine ⟨_, rfl, _, rfl, _, _, rfl, rfl, .inr ⟨by omega, by omega⟩, _, _, rfl, rfl, q4, _, _, rfl, rfl, .inr ⟨by decide, by decide⟩, _, rfl, _, _, rfl, rfl, _, rfl, _, _, rfl, rfl, hm0, ?_⟩
      exact k _ _ (Int.emod_nonneg _ (by omega)) (Int.emod_lt_of_pos _ hm0) ⟨_, _, _, D2⟩ (o1.trans Out.upd_d)
end
end Mine
namespace Mine
open PySem L2
theorem merge_deal (x n : Int) (l : Addr) : mergeK [] (dealK x n l) = dealK x n l := by
  unfold mergeK dealK
  simp only [List.foldl_cons, List.foldl_nil]
  have e1 : putK ([] : List (Key × V)) (Sum.inr ("seed" : Str)) (V.int x) = [(Sum.inr ("seed" : Str), V.int x)] := rfl
  have e2 : putK [(Sum.inr ("seed" : Str), V.int x)] (Sum.inr ("number" : Str) : Key) (V.int n) = [(Sum.inr ("seed" : Str), V.int x), (Sum.inr ("number" : Str), V.int n)] := putK_new _ (by rw [valV_neg ksn, valV_nil])
  have e3 : putK [(Sum.inr ("seed" : Str), V.int x), (Sum.inr ("number" : Str), V.int n)] (Sum.inr ("left" : Str) : Key) (V.ref l) = [(Sum.inr ("seed" : Str), V.int x), (Sum.inr ("number" : Str), V.int n)] ++ [(Sum.inr ("left" : Str), V.ref l)] := putK_new _ (by rw [valV_neg ksl, valV_neg knl, valV_nil])
  rw [e1, e2, e3]
  rfl
theorem ndCell : (["_law_cell"] : List Str).Nodup := by decide +kernel
theorem cut_ints (ns : List Int) (lo hi : Option Int) : ∃ ms : List Int, cutV (ns.map V.int) lo hi = ms.map V.int ∧ ms.length ≤ ns.length := by
  refine ⟨(ns.drop (HT.sIx ns.length 0 lo)).take (HT.sIx ns.length ns.length hi - HT.sIx ns.length 0 lo), ?_, ?_⟩
  · unfold cutV
    rw [List.length_map, List.map_take, List.map_drop]
  · rw [List.length_take, List.length_drop]; omega
section
variable {P : Program} {w : World} {K : PySem.W.Frag} {mg : Str → Option Value} {base : Heap}
theorem scDeal : FnScope ["_law_script", "_law_base", "_law_cells", "_law_number", "_law_cell"] ["_law_script", "_law_base"] (defScope sDeal) := ⟨rfl, rfl, rfl, by decide +kernel, rfl, by decide +kernel, by decide +kernel⟩
theorem ok_deal {f : Addr} {fd : FuncData} (F : Fun K "_law_deal" "_law_deal" sDeal f fd) (mm : mg "max" = none) (mr : mg "reversed" = none) (ml : mg "list" = none) : FnOk P w K mg base CX0 1 f fd ["_law_script", "_law_base"] (spDeal K) := by
  refine F.ok scDeal (fun vs H Q E h => ?_) (fun cdv A outer s H vs Q E hr h => ?_)
  · obtain ⟨a, ns, b, rfl, _⟩ := h
    rfl
  obtain ⟨a, ns, b, rfl, hS, hlen, hb0, hb1, k⟩ := h
  refine ⟨_, pss_cons (ps_setC ["_law_cell"] [none] (i := 2) scDeal.nd rfl (Or.inl rfl) (pi_list (pe_slice sl_list (pv 0) (po_some (pv 1)) (po_some pe_int)))
      (fun _ _ _ _ => pg_name (i := 0) ndCell rfl (Or.inl rfl)) (fun _ _ _ _ => pf_nil) (fun _ _ _ _ => pe_callB (call_max2 rfl) (by rfl) mm PyProof.Rows.boot_max (pa_cons (pv 0) (pa_cons (pe_op op_sub pe_int (pv 0)) pa_nil))))
    (pss_cons (ps_set (i := 3) scDeal.nd rfl (Or.inl rfl) (pe_op op_add pe_int (pe_op op_mul pe_int (pv 1))))
    (pss_cons (ps_for PassesOwn.never rfl (pi_list (pv 2)) (pg_name (i := 4) scDeal.nd rfl (Or.inl rfl))
      (pss_one (ps_set (i := 3) scDeal.nd rfl (Or.inl rfl) (pe_op op_mod (pe_op op_add (pe_op op_add (pe_op op_mul (pv 3) pe_int) (pe_op op_mod (pv 4) pe_int)) pe_int) pe_int))))
    (pss_one (ps_ret (pe_disp (pps_cons pe_str (pv 3) (pps_cons pe_str pe_int (pps_cons pe_str (pe_listrev (pe_comp ["_law_cell"] [none] (pi_list (pv 2))
      (fun _ _ _ _ => pg_name (i := 0) ndCell rfl (Or.inl rfl)) (fun _ _ _ _ => pf_one (pt_cmpR op_ge (pv 0) (pe_op op_pow pe_int pe_int) (nomark _))) (fun _ _ _ _ => pv 0)) (by rfl) ml (by rfl) mr) pps_nil))) rfl rfl (by decide) (by decide)))))), ?_⟩
  -- cells: the greatness of each
  refine ⟨_, rfl, _, rfl, _, rfl, _, rfl, a, _, rfl, hS, fun p1 np1 => ?_⟩
  obtain ⟨ms, em, hms⟩ := cut_ints ns (some b) (some 63)
  have g1 : Same H (upd H p1 (.lst (cutV (ns.map V.int) (some b) (some 63)))) := same_new np1 _
  have hp1 : SqL K (upd H p1 (.lst (cutV (ns.map V.int) (some b) (some 63)))) p1 (ms.map V.int) := by rw [em]; exact SqL.of upd_same
  generalize upd H p1 (.lst (cutV (ns.map V.int) (some b) (some 63))) = H1 at g1 hp1 ⊢
  refine ⟨p1, rfl, ⟨_, hp1⟩, comp_list (xs := ms.map V.int) (fun i ys σ H2 => H2 = H1 ∧ (∃ v, σ = [v]) ∧ ∃ cs : List Int, ys = cs.map V.int ∧ cs.length = i ∧ ∀ x ∈ cs, 0 ≤ x)
    (by rw [List.length_map]; exact small1000 (by omega)) ⟨rfl, ⟨_, rfl⟩, [], rfl, rfl, fun _ z => nomatch z⟩ (fun i ys σ H2 ⟨_, _, cs, e1, e2, _⟩ => by rw [e1, List.length_map]; omega) (fun i ys σ H2 _ ⟨e, _⟩ => by rw [e]; exact hp1) ?_ ?_⟩
  · rintro i x ys σ H2 hx ⟨rfl, ⟨v, rfl⟩, cs, rfl, rfl, h0⟩
    obtain ⟨z, rfl, _⟩ := ints_at hx
    refine ⟨_, rfl, _, rfl, _, _, rfl, rfl, _, _, rfl, rfl, ⟨_, rfl⟩, cs ++ [if 0 - z > z then 0 - z else z], by rw [List.map_append]; rfl, by rw [List.length_append]; rfl, fun x hx => ?_⟩
    rcases List.mem_append.mp hx with q | q
    · exact h0 x q
    · have e : x = if 0 - z > z then 0 - z else z := by simpa using q
      rw [e]; split <;> omega
  rintro ys σ H2 ⟨rfl, _, cs, rfl, hcs, h0⟩ p2 np2
  have hm63 : cs.length ≤ 63 := by rw [List.length_map] at hcs; omega
  have g2 : Same H2 (upd H2 p2 (.lst (cs.map V.int))) := same_new np2 _
  have hp2 : SqL K (upd H2 p2 (.lst (cs.map V.int))) p2 (cs.map V.int) := SqL.of upd_same
  generalize upd H2 p2 (.lst (cs.map V.int)) = H3 at g2 hp2 ⊢
  refine ⟨_, rfl, _, _, rfl, rfl, .inl ⟨by decide, by decide⟩, _, _, rfl, rfl, ?_⟩
  -- for cell in cells
  refine ⟨_, rfl, p2, rfl, ⟨_, hp2⟩, for_list (K := K) (a := p2) (xs := cs.map V.int) (fun i σ H4 => H4 = H3 ∧ ∃ (x : Int) (v : Option V), σ = [some (.ref a), some (.int b), some (.ref p2), some (.int x), v] ∧ 0 ≤ x ∧ x < 2147483647)
    ⟨rfl, 6271 + 11 * b, none, rfl, by omega, by omega⟩ (fun i σ H4 _ ⟨e, _⟩ => by rw [e]; exact hp2) ?_ ?_⟩
  · rintro i y σ H4 hi ⟨rfl, x, v, rfl, x0, x1⟩
    obtain ⟨z, rfl, _⟩ := ints_at hi
    have q1 : (0 : Int) < 2147483579 := by decide
    have q2 : (0 : Int) < 2147483647 := by decide
    refine ⟨_, rfl, _, _, rfl, rfl, .inr ⟨by decide, by decide⟩, _, rfl, _, _, rfl, rfl, q1, _, _, rfl, rfl, _, _, rfl, rfl, _, _, rfl, rfl, q2, rfl, _, _, rfl, ?_, ?_⟩
    · exact Int.emod_nonneg _ (by decide)
    · exact Int.emod_lt_of_pos _ q2
  rintro σ H4 ⟨rfl, x, v, rfl, x0, x1⟩
  -- the dict
  intro d nd
  have g4 : Same H4 (upd H4 d (.dK [])) := same_new nd _
  have hd4 : upd H4 d (.dK []) d = some (.dK []) := upd_same
  have hp4 := g4.seq hp2
  refine ⟨_, rfl, _, rfl, p2, rfl, ⟨_, hp4⟩, ?_⟩
  generalize upd H4 d (.dK []) = H5 at g4 hd4 hp4 ⊢
  refine comp_list (xs := cs.map V.int) (fun i ys σ H6 => H6 = H5 ∧ (∃ v, σ = [v]) ∧ ∃ ls : List Int, ys = ls.map V.int ∧ ls.length ≤ i ∧ ∀ x ∈ ls, 0 ≤ x)
    (by rw [List.length_map]; exact small1000 (by omega)) ⟨rfl, ⟨_, rfl⟩, [], rfl, Nat.le_refl _, fun _ z => nomatch z⟩ (fun i ys σ H2 ⟨_, _, cs, e1, e2, _⟩ => by rw [e1, List.length_map]; omega) (fun i ys σ H2 _ ⟨e, _⟩ => by rw [e]; exact hp4) ?_ ?_
  · rintro i y ys σ H6 hy ⟨rfl, ⟨v', rfl⟩, ls, rfl, hl, l0⟩
    obtain ⟨z, rfl, hz⟩ := ints_at hy
    have z0 : 0 ≤ z := h0 z (List.mem_of_getElem? hz)
    refine ⟨_, rfl, _, _, rfl, rfl, ⟨by decide, by decide, by decide⟩, _, _, rfl, rfl, _, rfl, ?_⟩
    refine ite2 (fun c => ?_) (fun c => ?_)
    · refine ⟨_, rfl, rfl, ⟨_, rfl⟩, ls ++ [z], by rw [List.map_append]; rfl, by rw [List.length_append]; show ls.length + 1 ≤ i + 1; omega, fun x hx => ?_⟩
      rcases List.mem_append.mp hx with q | q
      · exact l0 x q
      · have e : x = z := by simpa using q
        rw [e]; exact z0
    · exact ⟨rfl, ⟨_, rfl⟩, ls, rfl, Nat.le_succ_of_le hl, l0⟩
  rintro ys σ H6 ⟨rfl, _, ls, rfl, hl, l0⟩ p3 np3
  have g5 : Same H6 (upd H6 p3 (.lst (ls.map V.int))) := same_new np3 _
  refine ⟨p3, _, rfl, SqL.of upd_same, fun l nl => ?_⟩
  generalize upd H6 p3 (.lst (ls.map V.int)) = H7 at g5 nl ⊢
  have g6 : Same H7 (upd H7 l (.lst (ls.map V.int).reverse)) := same_new nl _
  have hd7 : H7 d = some (.dK []) := g5 _ _ hd4
  refine ⟨g6 _ _ hd7, dealK x 0 l, rfl, by show 3 ≤ 15; decide, ?_⟩
  have em : mergeK [] (dealK x 0 l) = dealK x 0 l := merge_deal _ _ _
  have neld : l ≠ d := fun z => by rw [z] at nl; rw [nl] at hd7; cases hd7
  refine k d l _ ?_ ?_ ⟨x, 0, ls.reverse, ⟨by rw [em]; exact upd_same, by rw [upd_ne neld, upd_same, List.map_reverse], x0, x1, Int.le_refl 0, fun y hy => l0 y (by simpa using hy)⟩⟩ ?_
  · exact (g1.trans g2).free nd
  · exact (g1.trans (g2.trans (g4.trans g5))).free nl
  · intro c o e
    rw [upd_ne (ne_of_none e ((g1.trans g2).free nd))]
    exact (g1.trans (g2.trans (g4.trans (g5.trans g6)))) c o e
end
end Mine
namespace Mine
open PySem L2
section
variable {P : Program} {w : World} {K : PySem.W.Frag} {mg : Str → Option Value} {base : Heap}
theorem ok_Gpd  : Okk P w K mg base "grouped" "grouped" sGpd 2 ["pairs"] (spGrp K) := by
  refine okk ["pairs", "groups", "key", "partner"] fun H Q nd hr h => ?_
  obtain ⟨p, ws, prs, rfl, hp, hw, hz, k⟩ := h
  refine ⟨_, (psq 1 nd pe_dnewK
    (pss_cons (pfr (pi_or (pi_list (pv 0)) (pi_tup (pv 0))) (pg_tup rfl (pgs_cons (pgn 2 nd) (pgs_cons (pgn 3 nd) pgs_nil)))
    (pss_one (ps_expr (pe_bm PySem.F.plainAttrs_list PySem.F.slot_list_append PySem.F.type_list_append mt_append (pe_dset (pv 1) (pv 2) (pe_lst pa_nil) ⟨rfl, rfl, rfl, rfl⟩) (pa1 (pv 3))))))
    (pss_one (ps_ret (pv 1))))), ?_⟩
  refine fun g hg => ?_
  have lw := hw.length
  rcases hp with hp | hp
  · refine .inl ⟨_, rfl, p, rfl, ⟨_, (same_new hg (.dK [])).seq hp⟩, for_list (xs := ws) (fun i σ G => ∃ es v2 v3, σ = [some (.ref p), some (.ref g), v2, v3] ∧ GpI H G g prs i es) ⟨[], none, none, rfl, .start hg⟩ (by rintro i σ G _ ⟨_, _, _, _, I⟩; exact I.s.seq hp) ?_ ?_⟩
    · rintro i v σ G hv ⟨es, v2, v3, rfl, I⟩
      obtain ⟨a, x, y, rfl, ha, hi⟩ := prs_at hw hv
      have hl : i < prs.length := (List.getElem?_eq_some_iff.mp hi).1
      have le := I.q.z
      rw [List.length_take] at le
      refine ⟨a, _, rfl, SqT.of (I.s _ _ ha), rfl, _, _, rfl, _, _, rfl, rfl, ?_⟩
      refine ⟨_, rfl, g, rfl, .inl ⟨_, .inl I.q.d⟩, _, rfl, Nat.zero_le _, fun z hz => ⟨gK es, Sum.inl x, same_new hz _ _ _ I.q.d, rfl, ?_, fun v hv => ?_, fun hv => ?_⟩⟩
      · unfold gK
        rw [List.length_map]
        exact small1000 (by omega)
      · by_cases c : x ∈ es.map (·.1)
        · obtain ⟨⟨x', r⟩, hr, e⟩ := List.mem_map.mp c
          cases e
          rw [gK_val I.q.m hr] at hv
          cases hv
          have gr := same_new hz (.lst []) _ _ (I.q.l _ hr)
          have lp : (partsOf (prs.take i) x').length ≤ 1000 := by
            unfold partsOf
            rw [List.length_map]
            exact Nat.le_trans (List.length_filter_le _ _) (by rw [List.length_take]; omega)
          exact ⟨.inl ⟨rfl, _, SqL.of gr⟩, _, rfl, r, _, .int y, rfl, rfl, gr, by rw [List.length_map]; exact small1000 lp, es, _, _, rfl, I.old hz hr hi⟩
        · rw [gK_none c] at hv
          cases hv
      · by_cases c : x ∈ es.map (·.1)
        · obtain ⟨⟨x', r⟩, hr, e⟩ := List.mem_map.mp c
          cases e
          rw [gK_val I.q.m hr] at hv
          cases hv
        · have zg : z ≠ g := (ne_of_none I.q.d hz).symm
          have gz : upd (upd G z (.lst [])) g (.dK (putK (gK es) (Sum.inl x) (.ref z))) z = some (.lst []) := by rw [upd_ne zg]; exact upd_same
          exact ⟨.inl ⟨rfl, _, SqL.of gz⟩, _, rfl, z, [], .int y, rfl, rfl, gz, by show 0 < sizeLine; decide, _, _, _, rfl, I.new hg hz c hi⟩
    · rintro σ G ⟨es, v2, v3, rfl, I⟩
      have q := I.q
      rw [lw, List.take_length] at q
      exact ⟨_, rfl, k _ g es I.s hg q I.f⟩
  · refine .inr ⟨_, rfl, p, rfl, ⟨_, same_tupK (same_new hg (.dK [])) hp⟩, for_tup (xs := ws) (fun i σ G => ∃ es v2 v3, σ = [some (.ref p), some (.ref g), v2, v3] ∧ GpI H G g prs i es) ⟨[], none, none, rfl, .start hg⟩ (by rintro i σ G _ ⟨_, _, _, _, I⟩; exact same_tupK I.s hp) ?_ ?_⟩
    · rintro i v σ G hv ⟨es, v2, v3, rfl, I⟩
      obtain ⟨a, x, y, rfl, ha, hi⟩ := prs_at hw hv
      have hl : i < prs.length := (List.getElem?_eq_some_iff.mp hi).1
      have le := I.q.z
      rw [List.length_take] at le
      refine ⟨a, _, rfl, SqT.of (I.s _ _ ha), rfl, _, _, rfl, _, _, rfl, rfl, ?_⟩
      refine ⟨_, rfl, g, rfl, .inl ⟨_, .inl I.q.d⟩, _, rfl, Nat.zero_le _, fun z hz => ⟨gK es, Sum.inl x, same_new hz _ _ _ I.q.d, rfl, ?_, fun v hv => ?_, fun hv => ?_⟩⟩
      · unfold gK
        rw [List.length_map]
        exact small1000 (by omega)
      · by_cases c : x ∈ es.map (·.1)
        · obtain ⟨⟨x', r⟩, hr, e⟩ := List.mem_map.mp c
          cases e
          rw [gK_val I.q.m hr] at hv
          cases hv
          have gr := same_new hz (.lst []) _ _ (I.q.l _ hr)
          have lp : (partsOf (prs.take i) x').length ≤ 1000 := by
            unfold partsOf
            rw [List.length_map]
            exact Nat.le_trans (List.length_filter_le _ _) (by rw [List.length_take]; omega)
          exact ⟨.inl ⟨rfl, _, SqL.of gr⟩, _, rfl, r, _, .int y, rfl, rfl, gr, by rw [List.length_map]; exact small1000 lp, es, _, _, rfl, I.old hz hr hi⟩
        · rw [gK_none c] at hv
          cases hv
      · by_cases c : x ∈ es.map (·.1)
        · obtain ⟨⟨x', r⟩, hr, e⟩ := List.mem_map.mp c
          cases e
          rw [gK_val I.q.m hr] at hv
          cases hv
        · have zg : z ≠ g := (ne_of_none I.q.d hz).symm
          have gz : upd (upd G z (.lst [])) g (.dK (putK (gK es) (Sum.inl x) (.ref z))) z = some (.lst []) := by rw [upd_ne zg]; exact upd_same
          exact ⟨.inl ⟨rfl, _, SqL.of gz⟩, _, rfl, z, [], .int y, rfl, rfl, gz, by show 0 < sizeLine; decide, _, _, _, rfl, I.new hg hz c hi⟩
    · rintro σ G ⟨es, v2, v3, rfl, I⟩
      have q := I.q
      rw [lw, List.take_length] at q
      exact ⟨_, rfl, k _ g es I.s hg q I.f⟩
end
end Mine
namespace Mine
open PySem L2
section
variable {P : Program} {w : World} {K : PySem.W.Frag} {mg : Str → Option Value} {base : Heap}
theorem ok_Gcd  : Okk P w K mg base "common_divisor" "common_divisor" sGcd 1 ["one", "other"] spGcd := by
  refine okk ["one", "other", "remainder"] fun H Q nd hr h => ?_
  obtain ⟨a, b, rfl, ha, hb, k⟩ := h
  refine ⟨_, (pss_cons (ps_while PassesOwn.never (ptc op_ne (pv 1) pe_int)
    (psq 2 nd (pe_op op_mod (pv 0) (pv 1))
    (psq 0 nd (pv 1)
    (pss_one (psz 1 nd (pv 2))))))
    (pss_one (ps_ret (pv 0)))), ?_⟩
  refine ⟨fun j σ H1 => H1 = H ∧ ∃ (x y : Int) (r : Option V), σ = [some (.int x), some (.int y), r] ∧ 0 ≤ x ∧ 0 ≤ y ∧ gI x y = gI a b ∧ j = y.toNat, ⟨_, rfl, a, b, none, rfl, ha, hb, rfl, rfl⟩, ?_⟩
  rintro j σ H1 ⟨rfl, x, y, r, rfl, hx, hy, hg, rfl⟩
  refine ⟨_, rfl, rfl, _, rfl, ?_⟩
  by_cases y0 : y = 0
  · subst y0
    refine iteNS rfl ⟨_, rfl, ?_⟩
    rw [← hg, gcd_end hx] at k
    exact k
  · have yp : 0 < y := by omega
    have e : (!decide (V.int y = V.int 0)) = true := by simp [y0]
    rw [e]
    refine ⟨fun σ' H' => H' = H1 ∧ ∃ r', σ' = [some (.int y), some (.int (x % y)), r'], fun σ' H' ⟨e1, r', e2⟩ => ⟨(x % y).toNat, ?_, e1, y, x % y, r', e2, hy, Int.emod_nonneg _ y0, (step_gcd hx yp).trans hg, rfl⟩, ?_⟩
    · have := Int.emod_lt_of_pos x yp
      have := Int.emod_nonneg x y0
      omega
    · exact ⟨_, rfl, _, rfl, _, _, rfl, rfl, yp, _, rfl, _, rfl, rfl, _, rfl⟩
theorem ok_Com (C_Gcd : Cl P w K mg base 1 spGcd "common_divisor") : Okk P w K mg base "common_bottom" "common_bottom" sCom 2 ["fractions"] (spCom K) := by
  refine okk ["fractions", "bottom", "fraction"] fun H Q nd hr h => ?_
  obtain ⟨p, ws, fs, M, rfl, hp, tw, h1, hM, hM1, bM, k⟩ := h
  have hu := hu_of hr
  refine ⟨_, (psq 1 nd pe_int
    (pss_cons (pfr (pi_list (pv 0)) (pgn 2 nd)
    (pss_one (psz 1 nd (pe_op op_fdivX (pe_op op_mulX (pv 1) (pix ix_tup (pv 2) pe_int)) (pcl C_Gcd hr (pa_cons (pv 1) (pa1 (pix ix_tup (pv 2) pe_int))))))))
    (pss_one (ps_ret (pv 1))))), ?_⟩
  have lt := lcmL_take h1 hM
  have lw := tw.length
  refine ⟨_, rfl, p, rfl, ⟨_, hp⟩, for_list (xs := ws) (fun i σ G => ∃ v, σ = [some (.ref p), some (.int (lcmL (fs.take i))), v] ∧ G = H) ⟨none, rfl, rfl⟩ (by rintro i σ G _ ⟨_, _, e⟩; rw [e]; exact hp) ?_ ?_⟩
  · rintro i x σ G hx ⟨v, rfl, rfl⟩
    obtain ⟨u, hu, q, rfl, hq⟩ := tw.at hx
    have mu := List.mem_of_getElem? hu
    obtain ⟨b1, b2, b3⟩ := lt i
    have u1 := h1 u mu
    have bb := bits_dvd b3 hM1 bM
    have bu := bits_dvd (hM u mu) hM1 bM
    have g0 : 0 < gI (lcmL (fs.take i)) u.2 := gI_pos u1
    have gb : Bits 2000 (gI (lcmL (fs.take i)) u.2) := bits_dvd (Int.dvd_trans (gI_dvd2 (show 0 ≤ u.2 by omega)) (hM u mu)) hM1 bM
    refine ⟨_, rfl, _, rfl, q, _, _, _, rfl, rfl, SqT.of hq, ix1 u.1 u.2, _, _, rfl, rfl, ⟨2000, 2000, bb, bu, by decide, by decide⟩, ?_⟩
    refine ⟨_, rfl, _, rfl, q, _, _, _, rfl, rfl, SqT.of hq, ix1 u.1 u.2, _, u.2, rfl, by omega, by omega, _, _, rfl, rfl, ⟨g0, 2000, gb, by decide⟩, ?_⟩
    refine ⟨some (.ref q), ?_, rfl⟩
    rw [take_snoc hu, lcmL_snoc]
    rfl
  · rintro σ G ⟨v, rfl, rfl⟩
    rw [lw, List.take_length]
    exact ⟨_, rfl, k⟩
theorem ok_Amt  : Okk P w K mg base "amount_of" "amount_of" sAmt 1 ["fraction", "bottom"] spAmt := by
  refine okk ["fraction", "bottom"] fun H Q nd hr h => ?_
  obtain ⟨p, u, b, rfl, hp, h1, bn, bd, b0, bb, k⟩ := h
  refine ⟨_, (pss_one (ps_ret (pe_op op_mulX (pix ix_tup (pv 0) pe_int) (pe_op op_fdivX (pv 1) (pix ix_tup (pv 0) pe_int))))), ?_⟩
  exact ⟨_, rfl, p, _, _, _, rfl, rfl, SqT.of hp, ix0 u.1 u.2, _, rfl, _, rfl, p, _, _, _, rfl, rfl, SqT.of hp, ix1 u.1 u.2, _, _, rfl, rfl, ⟨by omega, 2000, bd, by decide⟩, _, _, rfl, rfl, ⟨2000, 2000, bn, bits_div bb b0 h1, by decide, by decide⟩, k⟩
theorem ok_Ams (C_Amt : Cl P w K mg base 1 spAmt "amount_of") (m_dict : mg "dict" = none) : Okk P w K mg base "amounts_of" "amounts_of" sAms 2 ["shares", "bottom"] (spAms K) := by
  refine okk ["shares", "bottom"] fun H Q nd hr h => ?_
  obtain ⟨p, ws, es, b, rfl, hp, tw, A, k⟩ := h
  have hr1 : Room 1 _ := hr.mono (by decide)
  refine ⟨_, (pss_one (ps_ret (pct (call_dictL hr1) m_dict PyProof.Rows.boot_dict (pa1 (pe_comp ["answer", "share", "bottom"] [none, none, some 1] (pi_or (pi_list (pv 0)) (pi_tup (pv 0))) (fun _ _ _ _ => (pgtK K (n := 2) rfl (pgs_cons (pgn 0) (pgs_cons (pgn 1) pgs_nil)))) (fun _ _ _ _ => pf_nil) (fun _ _ _ _ => (pe_tup (pa_cons (pv 0) (pa1 (pcl C_Amt hr (pa_cons (pv 1) (pa1 (pv 2))))))))))))), ?_⟩
  have lw := tw.length
  have lz := A.z
  rcases hp with hp | hp
  · refine .inl ⟨_, rfl, p, rfl, ⟨_, hp⟩, comp_list (xs := ws) (fun i ys σ G => Same H G ∧ (∃ v1 v2, σ = [v1, v2, some (.int b)]) ∧ Two (PrA G b) ys (es.take i)) (small1000 (by omega)) ⟨Same.refl _, ⟨_, _, rfl⟩, trivial⟩ (by rintro i ys σ G ⟨_, _, t⟩; rw [t.length, List.length_take]; omega) (by rintro i ys σ G _ ⟨s, _⟩; exact s.seq hp) ?_ ?_⟩
    · rintro i x ys σ G hx ⟨s, ⟨v1, v2, rfl⟩, t⟩
      obtain ⟨e, he, t1, q, rfl, h1, h2⟩ := tw.at hx
      have me := List.mem_of_getElem? he
      refine ⟨t1, _, rfl, SqT.of (s _ _ h1), rfl, _, _, rfl, _, _, rfl, rfl, ?_⟩
      refine ⟨_, rfl, _, rfl, _, rfl, q, e.2, b, rfl, s _ _ h2, A.d e me, A.n e me, A.m e me, A.b0, A.bb, by show 2 ≤ sizeLine; decide, fun r hr => ?_⟩
      refine ⟨s.trans (same_new hr _), ⟨_, _, rfl⟩, ?_⟩
      rw [take_snoc he]
      exact Two.append (t.mono fun _ _ ⟨c, w1, w2⟩ => ⟨c, w1, same_new hr _ _ _ w2⟩) ⟨⟨r, rfl, upd_same⟩, trivial⟩
    · rintro ys σ G ⟨s, _, t⟩ l hl
      rw [lw, List.take_length] at t
      have ly := t.length
      refine ⟨l, ys, fun i => .dK (amK (es.take i) b), rfl, upd_same, .inl rfl, fun d hd => ⟨am_chain (t.mono fun _ _ ⟨c, w1, w2⟩ => ⟨c, w1, same_new hl _ _ _ w2⟩) A.nd (small1000 (by omega)), ?_⟩⟩
      have s2 := (same_new hl (.lst ys)).trans (same_new hd (.dK (amK es b)))
      rw [ly]
      dsimp only
      rw [List.take_length]
      exact k _ d (s.trans s2) (s.free ((same_new hl (.lst ys)).free hd)) (by rw [upd_same, amK_eq A.nd])
  · refine .inr ⟨_, rfl, p, rfl, ⟨_, hp⟩, comp_tup (xs := ws) (fun i ys σ G => Same H G ∧ (∃ v1 v2, σ = [v1, v2, some (.int b)]) ∧ Two (PrA G b) ys (es.take i)) (small1000 (by omega)) ⟨Same.refl _, ⟨_, _, rfl⟩, trivial⟩ (by rintro i ys σ G ⟨_, _, t⟩; rw [t.length, List.length_take]; omega) (by rintro i ys σ G _ ⟨s, _⟩; exact same_tupK s hp) ?_ ?_⟩
    · rintro i x ys σ G hx ⟨s, ⟨v1, v2, rfl⟩, t⟩
      obtain ⟨e, he, t1, q, rfl, h1, h2⟩ := tw.at hx
      have me := List.mem_of_getElem? he
      refine ⟨t1, _, rfl, SqT.of (s _ _ h1), rfl, _, _, rfl, _, _, rfl, rfl, ?_⟩
      refine ⟨_, rfl, _, rfl, _, rfl, q, e.2, b, rfl, s _ _ h2, A.d e me, A.n e me, A.m e me, A.b0, A.bb, by show 2 ≤ sizeLine; decide, fun r hr => ?_⟩
      refine ⟨s.trans (same_new hr _), ⟨_, _, rfl⟩, ?_⟩
      rw [take_snoc he]
      exact Two.append (t.mono fun _ _ ⟨c, w1, w2⟩ => ⟨c, w1, same_new hr _ _ _ w2⟩) ⟨⟨r, rfl, upd_same⟩, trivial⟩
    · rintro ys σ G ⟨s, _, t⟩ l hl
      rw [lw, List.take_length] at t
      have ly := t.length
      refine ⟨l, ys, fun i => .dK (amK (es.take i) b), rfl, upd_same, .inl rfl, fun d hd => ⟨am_chain (t.mono fun _ _ ⟨c, w1, w2⟩ => ⟨c, w1, same_new hl _ _ _ w2⟩) A.nd (small1000 (by omega)), ?_⟩⟩
      have s2 := (same_new hl (.lst ys)).trans (same_new hd (.dK (amK es b)))
      rw [ly]
      dsimp only
      rw [List.take_length]
      exact k _ d (s.trans s2) (s.free ((same_new hl (.lst ys)).free hd)) (by rw [upd_same, amK_eq A.nd])
end
end Mine
namespace Mine
open PySem L2
section
variable {P : Program} {w : World} {K : PySem.W.Frag} {mg : Str → Option Value} {base : Heap}
theorem ok_Ini {cL : Addr} (T : LyT K cL) (C_Gpd : Cl P w K mg base 2 (spGrp K) "grouped") (m_dict : mg "dict" = none) : Okk P w K mg base "__init__" "Laying.__init__" sIni 3 ["self", "one_left", "other_left", "pairs"] (spIniL K cL) := by
  refine okk ["self", "one_left", "other_left", "pairs"] fun H Q nd hr h => ?_
  obtain ⟨x, a, b, p, dx, ws, prs, ks, qs, f, h, rfl, hx, ha, hb, nab, hp, hw, nd, hz, k⟩ := h
  have hu := hu_of hr
  have hr1 : Room 1 _ := hr.mono (by decide)
  refine ⟨_, (pss_cons (ps_fld (pv 0) (pv 1) rfl)
    (pss_cons (ps_fld (pv 0) (pv 2) rfl)
    (pss_cons (ps_fld (pv 0) (pcl C_Gpd hr (pa1 (pv 3))) rfl)
    (pss_cons (ps_fld (pv 0) (pcl C_Gpd hr (pa1 (pe_comp ["x", "y"] [none, none] (pi_tup (pv 3)) (fun _ _ _ _ => (pgtK K (n := 2) rfl (pgs_cons (pgn 0) (pgs_cons (pgn 1) pgs_nil)))) (fun _ _ _ _ => pf_nil) (fun _ _ _ _ => (pe_tup (pa_cons (pv 1) (pa1 (pv 0)))))))) rfl)
    (pss_one (ps_fld (pv 0) (pct (call_dictL hr1) m_dict PyProof.Rows.boot_dict (pa1 (pe_comp ["pair"] [none] (pi_tup (pv 3)) (fun _ _ _ _ => (pgn 0)) (fun _ _ _ _ => pf_nil) (fun _ _ _ _ => (pe_tup (pa_cons (pv 0) (pa1 pe_int))))))) rfl)))))), ?_⟩
  have lw := hw.length
  have nax := ne_of ha hx (by intro z; cases z)
  have nbx := ne_of hb hx (by intro z; cases z)
  have npx := ne_of hp hx (by intro z; cases z)
  refine ⟨_, rfl, _, rfl, x, cL, dx, _, rfl, hx, T.cl, T.n1, by decide, ?_⟩
  refine ⟨_, rfl, _, rfl, x, cL, dx, _, rfl, upd_same, T.cl, T.n2, by show 1 < 1000; decide, ?_⟩
  rw [upd_upd]
  have o2 : OfX x H (upd H x (.ins cL dx (putF "other_left" (.ref b) (putF "one_left" (.ref a) [])))) := OfX.upd
  have h2 : upd H x (.ins cL dx (putF "other_left" (.ref b) (putF "one_left" (.ref a) []))) x = some (.ins cL dx (putF "other_left" (.ref b) (putF "one_left" (.ref a) []))) := upd_same
  generalize upd H x (.ins cL dx (putF "other_left" (.ref b) (putF "one_left" (.ref a) []))) = H2 at o2 h2 ⊢
  have w2 : Prs H2 ws prs := hw.mono (o2.ts hx)
  refine ⟨_, rfl, p, ws, prs, rfl, .inr (SqT.of (o2 _ _ npx hp)), w2, by omega, fun H3 g es s3 hg G3 hf => ?_⟩
  have h3 := s3 _ _ h2
  have ngx := ne_of G3.d h3 (by intro z; cases z)
  refine ⟨_, rfl, x, cL, dx, _, rfl, h3, T.cl, T.n3, Nat.lt_of_le_of_lt (fewL (fewL (Nat.le_refl 0))) (by decide), ?_⟩
  have o4 : OfX x H (upd H3 x (.ins cL dx (putF "partners" (.ref g) (putF "other_left" (.ref b) (putF "one_left" (.ref a) []))))) := (o2.same s3).trans OfX.upd
  have h4 : upd H3 x (.ins cL dx (putF "partners" (.ref g) (putF "other_left" (.ref b) (putF "one_left" (.ref a) [])))) x = some _ := upd_same
  have G4 : Grp (upd H3 x (.ins cL dx (putF "partners" (.ref g) (putF "other_left" (.ref b) (putF "one_left" (.ref a) []))))) g prs es := G3.keep (fun o e => by rw [upd_ne ngx]; exact e) fun e he o q => by rw [upd_ne (ne_of_none h2 (hf e he)).symm]; exact q
  generalize upd H3 x (.ins cL dx (putF "partners" (.ref g) (putF "other_left" (.ref b) (putF "one_left" (.ref a) [])))) = H4 at o4 h4 G4 ⊢
  have p4 := o4 _ _ npx hp
  have w4 : Prs H4 ws prs := hw.mono (o4.ts hx)
  refine ⟨_, rfl, p, rfl, ⟨_, SqT.of p4⟩, comp_tup (xs := ws) (fun i ys σ G => Same H4 G ∧ (∃ v1 v2, σ = [v1, v2]) ∧ Prs G ys ((prs.take i).map fun e => (e.2, e.1))) (small1000 (by omega)) ⟨Same.refl _, ⟨_, _, rfl⟩, trivial⟩ (by rintro i ys σ G ⟨_, _, t⟩; rw [t.length, List.length_map, List.length_take]; omega) (by rintro i ys σ G _ ⟨s, _⟩; exact SqT.of (s _ _ p4)) ?_ ?_⟩
  · rintro i u ys σ G hu ⟨s, ⟨v1, v2, rfl⟩, t⟩
    obtain ⟨q, y, z, rfl, hq, hi⟩ := prs_at w4 hu
    refine ⟨q, _, rfl, SqT.of (s _ _ hq), rfl, _, _, rfl, _, _, rfl, rfl, ?_⟩
    refine ⟨_, rfl, _, rfl, by show 2 ≤ sizeLine; decide, fun r hr => ⟨s.trans (same_new hr _), ⟨_, _, rfl⟩, ?_⟩⟩
    rw [take_snoc hi, List.map_append]
    exact Prs.append (t.same (same_new hr _)) ⟨⟨r, rfl, upd_same⟩, trivial⟩
  rintro ys σ G ⟨s, _, t⟩ l hl
  rw [lw, List.take_length] at t
  refine ⟨l, ys, prs.map fun e => (e.2, e.1), rfl, .inl (SqL.of upd_same), t.same (same_new hl _), by rw [List.length_map]; omega, fun H5 v es' s5 hv G5 hf' => ?_⟩
  have s45 := (s.trans (same_new hl _)).trans s5
  have h5 := s45 _ _ h4
  have nvx := ne_of G5.d h5 (by intro z; cases z)
  refine ⟨_, rfl, x, cL, dx, _, rfl, h5, T.cl, T.n4, Nat.lt_of_le_of_lt (fewL (fewL (fewL (Nat.le_refl 0)))) (by decide), ?_⟩
  have hs' : ∀ e ∈ es', H4 e.2 = none := fun e he => s.free ((same_new hl _).free (hf' e he))
  have nav := ne_of_none (same_new hl (.lst ys) _ _ (s _ _ (o4 _ _ nax ha))) hv
  have nbv := ne_of_none (same_new hl (.lst ys) _ _ (s _ _ (o4 _ _ nbx hb))) hv
  have nag := ne_of_none (o2 _ _ nax ha) hg
  have nbg := ne_of_none (o2 _ _ nbx hb) hg
  have fx : ∀ e ∈ es, e.2 ≠ x := fun e he => (ne_of_none h2 (hf e he)).symm
  have fx' : ∀ e ∈ es', e.2 ≠ x := fun e he => (ne_of_none h4 (hs' e he)).symm
  have o6 : OfX x H (upd H5 x (.ins cL dx (putF "givers" (.ref v) (putF "partners" (.ref g) (putF "other_left" (.ref b) (putF "one_left" (.ref a) [])))))) := (o4.same s45).trans OfX.upd
  have h6 : upd H5 x (.ins cL dx (putF "givers" (.ref v) (putF "partners" (.ref g) (putF "other_left" (.ref b) (putF "one_left" (.ref a) []))))) x = some _ := upd_same
  have G6 : Grp (upd H5 x (.ins cL dx (putF "givers" (.ref v) (putF "partners" (.ref g) (putF "other_left" (.ref b) (putF "one_left" (.ref a) [])))))) g prs es := G4.keep (fun o e => by rw [upd_ne ngx]; exact s45 _ _ e) fun e he o q => by rw [upd_ne (fx e he)]; exact s45 _ _ q
  have V6 : Grp (upd H5 x (.ins cL dx (putF "givers" (.ref v) (putF "partners" (.ref g) (putF "other_left" (.ref b) (putF "one_left" (.ref a) [])))))) v (prs.map fun e => (e.2, e.1)) es' := G5.keep (fun o e => by rw [upd_ne nvx]; exact e) fun e he o q => by rw [upd_ne (fx' e he)]; exact q
  generalize upd H5 x (.ins cL dx (putF "givers" (.ref v) (putF "partners" (.ref g) (putF "other_left" (.ref b) (putF "one_left" (.ref a) []))))) = H6 at o6 h6 G6 V6 ⊢
  clear t hl
  have p6 := o6 _ _ npx hp
  have w6 : Prs H6 ws prs := hw.mono (o6.ts hx)
  refine ⟨_, rfl, p, rfl, ⟨_, SqT.of p6⟩, comp_tup (xs := ws) (fun i ys σ G => Same H6 G ∧ (∃ v1, σ = [v1]) ∧ Two (PrZ G) ys (prs.take i)) (small1000 (by omega)) ⟨Same.refl _, ⟨_, rfl⟩, trivial⟩ (by rintro i ys σ G ⟨_, _, t⟩; rw [t.length, List.length_take]; omega) (by rintro i ys σ G _ ⟨s, _⟩; exact SqT.of (s _ _ p6)) ?_ ?_⟩
  · rintro i u ys σ G hu ⟨s, ⟨v1, rfl⟩, t⟩
    obtain ⟨q, y, z, rfl, hq, hi⟩ := prs_at w6 hu
    refine ⟨_, rfl, by show 2 ≤ sizeLine; decide, fun r hr => ⟨s.trans (same_new hr _), ⟨_, rfl⟩, ?_⟩⟩
    rw [take_snoc hi]
    exact Two.append (t.mono fun _ _ ⟨c, d, w1, w2, w3⟩ => ⟨c, d, w1, same_new hr _ _ _ w2, same_new hr _ _ _ w3⟩) ⟨⟨r, q, rfl, upd_same, same_new hr _ _ _ (s _ _ hq)⟩, trivial⟩
  rintro ys7 σ7 G7 ⟨s7, _, t7⟩ l7 hl7
  rw [lw, List.take_length] at t7
  have ly := t7.length
  refine ⟨l7, ys7, fun i => .dT (prD (prs.take i) fun _ => 0), rfl, upd_same, .inr rfl, fun d hd => ⟨pz_chain (t7.mono fun _ _ ⟨c, d, w1, w2, w3⟩ => ⟨c, d, w1, same_new hl7 _ _ _ w2, same_new hl7 _ _ _ w3⟩) nd (small1000 (by omega)) hd, ?_⟩⟩
  rw [ly]
  dsimp only
  rw [List.take_length]
  have s8 : Same H6 (upd (upd G7 l7 (.lst ys7)) d (.dT (prD prs fun _ => 0))) := (s7.trans (same_new hl7 _)).trans (same_new hd _)
  have d8 : upd (upd G7 l7 (.lst ys7)) d (.dT (prD prs fun _ => 0)) d = some (.dT (prD prs fun _ => 0)) := upd_same
  have d6 : H6 d = none := s7.free ((same_new hl7 (.lst ys7)).free hd)
  have ndx : d ≠ x := (ne_of_none h6 d6).symm
  have d0 : H d = none := by
    cases e : H d with
    | none => rfl
    | some u => rw [o6 _ _ ndx e] at d6; cases d6
  generalize upd (upd G7 l7 (.lst ys7)) d (.dT (prD prs fun _ => 0)) = H8 at s8 d8 ⊢
  refine ⟨_, rfl, x, cL, dx, _, rfl, s8 _ _ h6, T.cl, T.n5, Nat.lt_of_le_of_lt (fewL (fewL (fewL (fewL (Nat.le_refl 0))))) (by decide), ?_⟩
  rw [ly_put]
  have o9 : OfX x H (upd H8 x (.ins cL dx (lyF a b g v d))) := (o6.same s8).trans OfX.upd
  exact k _ g v d o9 d0 ⟨⟨dx, upd_same⟩, o9 _ _ nax ha, o9 _ _ nbx hb, by rw [upd_ne ndx]; exact d8, ⟨es, G6.keep (fun o e => by rw [upd_ne ngx]; exact s8 _ _ e) fun e he o q => by rw [upd_ne (fx e he)]; exact s8 _ _ q⟩, ⟨es', V6.keep (fun o e => by rw [upd_ne nvx]; exact s8 _ _ e) fun e he o q => by rw [upd_ne (fx' e he)]; exact s8 _ _ q⟩, nab, nag, nav, nbg, nbv⟩
end
end Mine
namespace Mine
open PySem L2
section
variable {P : Program} {w : World} {K : PySem.W.Frag} {mg : Str → Option Value} {base : Heap}
theorem ok_Nxt {cL : Addr} (T : LyT K cL) : Okk P w K mg base "next_places" "next_places" sNxt 1 ["laying", "place"] (spNxt cL) := by
  refine okk ["laying", "place", "answer"] fun H Q nd hr h => ?_
  obtain ⟨x, a, b, g, v, d, t, prs, ks, qs, S, z, rfl, Y, O, ht, hq, k⟩ := h
  have hu := hu_of hr
  refine ⟨_, (psq 2 nd (pix ix_tup (pv 1) pe_int)
    (pss_cons (ps_if (ptc op_eq (pix ix_tup (pv 1) pe_int) pe_str) (pss_one (ps_ret (pe_comp ["y"] [none] (pi_list (pe_dget2 hu (pe_fld (pv 0) rfl) (pv 2) (pe_lst pa_nil) ⟨rfl, rfl, rfl, rfl⟩)) (fun _ _ _ _ => (pgn 0)) (fun _ _ _ _ => pf_nil) (fun _ _ _ _ => (pe_tup (pa_cons pe_str (pa1 (pv 0)))))))) pss_nil)
    (pss_one (ps_ret (pe_comp ["x", "laying", "answer"] [none, some 0, some 2] (pi_list (pdg hu (pe_fld (pv 0) rfl) (pv 2))) (fun _ _ _ _ => (pgn 0)) (fun _ _ _ _ => (pf_one (ptc op_gt (pdg hu (pe_fldK K (pv 1) rfl) (pe_tup (pa_cons (pv 0) (pa1 (pv 2))))) pe_int))) (fun _ _ _ _ => (pe_tup (pa_cons pe_str (pa1 (pv 0)))))))))), ?_⟩
  obtain ⟨dx, hx⟩ := Y.ob
  have la := ly_at a b g v d
  obtain ⟨s, y⟩ := z
  refine ⟨_, rfl, t, _, _, _, rfl, rfl, SqT.of ht, rfl, ?_⟩
  refine ⟨_, rfl, t, _, _, _, rfl, rfl, SqT.of ht, rfl, rfl, _, rfl, ?_⟩
  cases s with
  | true =>
    refine iteP (by show decide (V.str (sideS true) = V.str "one") = true; decide +kernel) ?_
    obtain ⟨es, G⟩ := Y.gp
    refine ⟨_, rfl, x, cL, dx, _, _, rfl, hx, T.cl, T.n3, la.2.2.1, g, rfl, .inl ⟨_, .inl G.d⟩, _, rfl, Nat.zero_le _, fun z hz => ⟨_, DGet.k (k := Sum.inl y) (same_new hz _ _ _ G.d), ?_⟩⟩
    have lp : (partsOf prs y).length ≤ 200 := by
      unfold partsOf
      rw [List.length_map]
      exact Nat.le_trans (List.length_filter_le _ _) O.zp
    have hr : ∃ r, (valV (gK es) (Sum.inl y)).getD (.ref z) = .ref r ∧ upd H z (.lst []) r = some (.lst ((partsOf prs y).map V.int)) := by
      by_cases c : y ∈ es.map (·.1)
      · obtain ⟨⟨y', r⟩, hr, q⟩ := List.mem_map.mp c
        cases q
        exact ⟨r, by rw [gK_val G.m hr]; rfl, same_new hz _ _ _ (G.l _ hr)⟩
      · exact ⟨z, by rw [gK_none c]; rfl, by rw [G.k y c]; exact upd_same⟩
    obtain ⟨r, er, hr⟩ := hr
    have s1 := same_new hz (.lst [])
    generalize upd H z (.lst []) = H1 at hr s1 ⊢
    rw [er]
    refine ⟨r, rfl, ⟨_, SqL.of hr⟩, comp_list (xs := (partsOf prs y).map V.int) (fun i ys σ G => Same H1 G ∧ (∃ v, σ = [v]) ∧ Two (PlE G) ys (((partsOf prs y).take i).map fun y => (false, y))) (by rw [List.length_map]; exact small1000 (by omega)) ⟨Same.refl _, ⟨_, rfl⟩, trivial⟩ (by rintro i ys σ G ⟨_, _, t⟩; rw [t.length, List.length_map, List.length_take]; omega) (by rintro i ys σ G _ ⟨s, _⟩; exact SqL.of (s _ _ hr)) ?_ ?_⟩
    · rintro i u ys σ G hu ⟨s, ⟨v1, rfl⟩, t⟩
      obtain ⟨n, rfl, hn⟩ := ints_at hu
      refine ⟨_, rfl, by show 2 ≤ sizeLine; decide, fun q hq => ⟨s.trans (same_new hq _), ⟨_, rfl⟩, ?_⟩⟩
      rw [take_snoc hn, List.map_append]
      exact Two.append (t.mono fun _ _ ⟨c, w1, w2⟩ => ⟨c, w1, same_new hq _ _ _ w2⟩) ⟨⟨q, rfl, upd_same⟩, trivial⟩
    · rintro ys σ G ⟨s, _, t⟩ l hl
      rw [List.length_map, List.take_length] at t
      exact k _ l ys (s1.trans (s.trans (same_new hl _))) (s1.free (s.free hl)) upd_same (t.mono fun _ _ ⟨c, w1, w2⟩ => ⟨c, w1, same_new hl _ _ _ w2⟩)
  | false =>
    refine iteN (by show ¬ decide (V.str (sideS false) = V.str "one") = true; decide +kernel) ?_
    obtain ⟨es, G⟩ := Y.gv
    have hq := hq rfl
    rw [give_parts] at hq
    have c : y ∈ es.map (·.1) := Classical.byContradiction fun c => hq (G.k y c)
    obtain ⟨⟨y', r⟩, hr, q⟩ := List.mem_map.mp c
    cases q
    have dg := DGet.k (k := Sum.inl y') G.d
    rw [gK_val G.m hr] at dg
    have hl := G.l _ hr
    dsimp only at hl
    rw [← give_parts] at hl
    have lp : (giveOf prs y').length ≤ 200 := by
      unfold giveOf
      rw [List.length_map]
      exact Nat.le_trans (List.length_filter_le _ _) O.zp
    refine ⟨_, rfl, x, cL, dx, _, _, rfl, hx, T.cl, T.n4, la.2.2.2.1, _, rfl, v, _, rfl, dg, r, rfl, ⟨_, SqL.of hl⟩, comp_list (xs := (giveOf prs y').map V.int) (fun i ys σ G => Same H G ∧ (∃ v1, σ = [v1, some (.ref x), some (.int y')]) ∧ Two (PlE G) ys ((((giveOf prs y').take i).filter fun n => decide (0 < S.l (n, y'))).map fun n => (true, n))) (by rw [List.length_map]; exact small1000 (by omega)) ⟨Same.refl _, ⟨_, rfl⟩, trivial⟩ (by rintro i ys σ G ⟨_, _, t⟩; rw [t.length, List.length_map]; exact Nat.le_trans (List.length_filter_le _ _) (by rw [List.length_take]; omega)) (by rintro i ys σ G _ ⟨s, _⟩; exact SqL.of (s _ _ hl)) ?_ ?_⟩
    · rintro i u ys σ G hu ⟨s, ⟨v1, rfl⟩, t⟩
      obtain ⟨n, rfl, hn⟩ := ints_at hu
      have mn : (n, y') ∈ prs := give_mem (List.mem_of_getElem? hn)
      refine ⟨_, rfl, x, cL, dx, _, _, rfl, s _ _ hx, T.cl, T.n5, la.2.2.2.2, _, rfl, _, rfl, by show 2 ≤ sizeLine; decide, fun q hq => ?_⟩
      have dl := DGet.t (k := [Sum.inl n, Sum.inl y']) (same_new hq (.tup [.int n, .int y']) _ _ (s _ _ Y.l)) upd_same
      rw [show valV (prD prs S.l) [Sum.inl n, Sum.inl y'] = some (.int (S.l (n, y'))) from prD_val mn] at dl
      refine ⟨d, _, rfl, dl, _, _, rfl, rfl, _, rfl, ?_⟩
      have s2 := s.trans (same_new hq (.tup [.int n, .int y']))
      have t2 := t.mono fun _ _ (⟨c, w1, w2⟩ : PlE _ _ _) => (⟨c, w1, same_new hq (.tup [.int n, .int y']) _ _ w2⟩ : PlE _ _ _)
      generalize upd G q (.tup [.int n, .int y']) = G2 at s2 t2 ⊢
      rw [take_snoc hn, List.filter_append, List.map_append]
      by_cases c0 : 0 < S.l (n, y')
      · refine iteP (by simpa using c0) ⟨_, rfl, by show 2 ≤ sizeLine; decide, fun q hq => ⟨s2.trans (same_new hq _), ⟨_, rfl⟩, ?_⟩⟩
        rw [List.filter_cons_of_pos (by simpa using c0)]
        exact Two.append (t2.mono fun _ _ ⟨c, w1, w2⟩ => ⟨c, w1, same_new hq _ _ _ w2⟩) ⟨⟨q, rfl, upd_same⟩, trivial⟩
      · refine iteN (by simpa using c0) ⟨s2, ⟨_, rfl⟩, ?_⟩
        rw [List.filter_cons_of_neg (by simpa using c0)]
        rw [List.filter_nil, List.map_nil, List.append_nil]
        exact t2
    · rintro ys σ G ⟨s, _, t⟩ l hl
      rw [List.length_map, List.take_length] at t
      exact k _ l ys (s.trans (same_new hl _)) (s.free hl) upd_same (t.mono fun _ _ ⟨c, w1, w2⟩ => ⟨c, w1, same_new hl _ _ _ w2⟩)
theorem ok_Has {cL : Addr} (T : LyT K cL) : Okk P w K mg base "has_room" "has_room" sHas 1 ["laying", "place"] (spHas cL) := by
  refine okk ["laying", "place"] fun H Q nd hr h => ?_
  obtain ⟨x, a, b, g, v, d, t, prs, ks, qs, S, z, rfl, Y, ht, hq, k⟩ := h
  have hu := hu_of hr
  refine ⟨_, (pss_one (ps_ret (pe_and (pec op_eq (pix ix_tup (pv 1) pe_int) pe_str) (pe_one (pec op_gt (pdg hu (pe_fld (pv 0) rfl) (pix ix_tup (pv 1) pe_int)) pe_int))))), ?_⟩
  obtain ⟨dx, hx⟩ := Y.ob
  have la := ly_at a b g v d
  obtain ⟨s, y⟩ := z
  refine ⟨_, rfl, t, _, _, _, rfl, rfl, SqT.of ht, rfl, ?_⟩
  refine ⟨rfl, _, rfl, ?_⟩
  cases s with
  | true => exact iteN (by show ¬ decide (V.str (sideS true) = V.str "other") = true; decide +kernel) k
  | false =>
    refine iteP (by show decide (V.str (sideS false) = V.str "other") = true; decide +kernel) ?_
    have dg := DGet.k (k := Sum.inl y) Y.p
    rw [intD_val (hq rfl)] at dg
    exact ⟨_, rfl, x, cL, dx, _, _, rfl, hx, T.cl, T.n2, la.2.1, _, rfl, t, _, _, _, rfl, rfl, SqT.of ht, rfl, b, _, rfl, dg, _, _, rfl, rfl, k⟩
end
end Mine
namespace Mine
open PySem L2
section
variable {P : Program} {w : World} {K : PySem.W.Frag} {mg : Str → Option Value} {base : Heap}
theorem ok_Bck  : Okk P w K mg base "answers_back" "answers_back" sBck 1 ["ahead", "place"] spBack := by
  refine okk ["ahead", "place", "answers"] fun H Q nd hr h => ?_
  obtain ⟨d, u, ah, z, r, rfl, ⟨kvs, hd, hk⟩, hu0, tr, hz, k⟩ := h
  have hu := hu_of hr
  refine ⟨_, (psq 2 nd (pe_lst pa_nil)
    (pss_cons (ps_while PassesOwn.never (pt_cmp (pc_notN (pv 1)))
    (pss_cons (ps_expr (pe_bm PySem.F.plainAttrs_list PySem.F.slot_list_append PySem.F.type_list_append mt_append (pv 2) (pa1 (pix ix_tup (pv 1) pe_int))))
    (pss_one (psz 1 nd (pdg hu (pv 0) (pv 1))))))
    (pss_one (ps_ret (pv 2))))), ?_⟩
  refine ⟨Nat.zero_le _, fun l hl => ?_⟩
  refine ⟨fun j σ G => ∃ (dn rest : List (Pl Int)) (pv : V), σ = [some (.ref d), some pv, some (.ref l)] ∧ j = rest.length ∧ dn ++ rest = z :: r ∧ (rest = [] ∨ Tr ah rest) ∧ RV G rest pv ∧ Same H G ∧ G l = some (.lst (dn.map fun p => V.int p.2)), ⟨_, [], z :: r, u, rfl, rfl, rfl, .inr tr, hu0.ts (TS.of (same_new hl _)), same_new hl _, upd_same⟩, ?_⟩
  rintro j σ G ⟨dn, rest, pv, rfl, rfl, e, ht, rv, s, gl⟩
  cases rest with
  | nil =>
    cases (show pv = .non from rv)
    refine ⟨_, rfl, _, rfl, iteN (by decide) ?_⟩
    rw [List.append_nil] at e
    rw [e] at gl
    exact ⟨_, rfl, k G l s hl gl⟩
  | cons c rest =>
    obtain ⟨t, rfl, pt⟩ := rv
    have tr := ht.resolve_left (by intro q; cases q)
    obtain ⟨lk, tr2⟩ := tr.next
    have le : dn.length ≤ 200 := by
      have := congrArg List.length e
      rw [List.length_append] at this
      omega
    have ndl := ne_of_none hd hl
    have ntl : t ≠ l := ne_of pt gl (by intro q; cases q)
    refine ⟨_, rfl, _, rfl, iteP (by rfl) ⟨fun σ' H' => ∃ pv, σ' = [some (.ref d), some pv, some (.ref l)] ∧ RV H' rest pv ∧ Same H H' ∧ H' l = some (.lst ((dn ++ [c]).map fun p => V.int p.2)), fun σ' H' ⟨pv, e1, e2, e3, e4⟩ => ⟨rest.length, Nat.lt_succ_self _, dn ++ [c], rest, pv, e1, rfl, by rw [List.append_assoc]; exact e, tr2, e2, e3, e4⟩, ?_⟩⟩
    refine ⟨_, rfl, .inl ⟨rfl, _, SqL.of gl⟩, _, rfl, t, _, _, _, rfl, rfl, SqT.of pt, rfl, l, _, _, rfl, rfl, gl, by rw [List.length_map]; exact small1000 (by omega), ?_⟩
    have s1 : Same H (upd G l (.lst ((dn.map fun p => V.int p.2) ++ [.int c.2]))) := same_lst s hl
    have l1 : upd G l (.lst ((dn.map fun p => V.int p.2) ++ [.int c.2])) l = some (.lst ((dn ++ [c]).map fun p => V.int p.2)) := by rw [upd_same, List.map_append]; rfl
    have t1 : upd G l (.lst ((dn.map fun p => V.int p.2) ++ [.int c.2])) t = some (.tup ((keyP c).map kV)) := by rw [upd_ne ntl]; exact pt
    generalize upd G l (.lst ((dn.map fun p => V.int p.2) ++ [.int c.2])) = G1 at s1 l1 t1 ⊢
    obtain ⟨v, hv, av⟩ := (hk.look (z := c)).2 _ lk
    have dg := DGet.t (s1 _ _ hd) t1
    rw [hv] at dg
    exact ⟨_, rfl, _, rfl, d, v, rfl, dg, v, rfl, av.ts (TS.of s1), s1, l1⟩
end
end Mine
namespace Mine
open PySem L2
section
variable {P : Program} {w : World} {K : PySem.W.Frag} {mg : Str → Option Value} {base : Heap}
theorem ok_Src {cL : Addr} (T : LyT K cL) (C_Nxt : Cl P w K mg base 1 (spNxt cL) "next_places") (C_Has : Cl P w K mg base 1 (spHas cL) "has_room") (m_dict : mg "dict" = none) (m_len : mg "len" = none) : Okk P w K mg base "searched" "searched" sSrc 2 ["laying"] (spSrc cL) := by
  refine okk ["laying", "queue", "ahead", "done", "place"] fun H Q nd hr h => ?_
  obtain ⟨x, a, b, g, v, d, prs, ks, qs, S, rfl, Y, O, k⟩ := h
  have hu := hu_of hr
  have hr1 : Room 1 _ := hr.mono (by decide)
  refine ⟨_, (pss_cons (ps_thaw (ps_setC ["x", "laying"] [none, some 0] (i := 1) nd rfl (Or.inl rfl) (pi_dict (pe_fld (pv 0) rfl)) (fun _ _ _ _ => (pgn 0)) (fun _ _ _ _ => (pf_one (ptc op_gt (pdg hu (pe_fldK K (pv 1) rfl) (pv 0)) pe_int))) (fun _ _ _ _ => (pe_tup (pa_cons pe_str (pa1 (pv 0)))))))
    (psq 2 nd (pct (call_dictL hr1) m_dict PyProof.Rows.boot_dict (pa1 (pe_comp ["place"] [none] (pi_list (pv 1)) (fun _ _ _ _ => (pgn 0)) (fun _ _ _ _ => pf_nil) (fun _ _ _ _ => (pe_tup (pa_cons (pv 0) (pa1 pe_non)))))))
    (psq 3 nd pe_int
    (pss_cons (ps_while PassesOwn.never (ptc op_lt (pv 3) (pcb call_len_seq m_len PySem.boot_len (pa1 (pv 1))))
    (pss_cons (pfr (pi_list (pcl C_Nxt hr (pa_cons (pv 0) (pa1 (pix ix_list (pv 1) (pv 3)))))) (pgn 4 nd)
    (pss_one (ps_if (pt_cmp (pc_dnotin hu (pv 4) (pv 2))) (pss_cons (pdp hu (pv 2) (pv 4) (pix ix_list (pv 1) (pv 3)))
    (pss_cons (ps_if (pt_val (pcl C_Has hr (pa_cons (pv 0) (pa1 (pv 4))))) (pss_one (ps_ret (pe_tup (pa_cons (pv 2) (pa1 (pv 4)))))) pss_nil)
    (pss_one (ps_expr (pe_bm PySem.F.plainAttrs_list PySem.F.slot_list_append PySem.F.type_list_append mt_append (pv 1) (pa1 (pv 4))))))) pss_nil)))
    (pss_one (ps_aug (i := 3) nd rfl (Or.inl rfl) pe_int ip_add))))
    (pss_one (ps_ret (pe_tup (pa_cons (pv 2) (pa1 pe_non))))))))), ?_⟩
  obtain ⟨dx, hx⟩ := Y.ob
  have la := ly_at a b g v d
  refine ⟨_, rfl, x, cL, dx, _, _, rfl, hx, T.cl, T.n1, la.1, a, _, rfl, Y.o, fun o => ?_⟩
  have ax := ne_of Y.o hx (by intro z; cases z)
  have f0 : upd H a (.frz o (.dK (intD ks S.o))) a = some (.frz o (.dK (intD ks S.o))) := upd_same
  have x0 : upd H a (.frz o (.dK (intD ks S.o))) x = some (.ins cL dx (lyF a b g v d)) := by rw [upd_ne ax.symm]; exact hx
  have zk := O.zk
  refine comp_dict (kvs := intD ks S.o) (fun i ys σ G => Same (upd H a (.frz o (.dK (intD ks S.o)))) G ∧ (∃ v1, σ = [v1, some (.ref x)]) ∧ Two (PlE G) ys (((ks.take i).filter fun n => decide (0 < S.o n)).map fun n => (true, n))) (by unfold intD; rw [List.length_map]; exact small1000 (by omega)) ⟨Same.refl _, ⟨_, rfl⟩, trivial⟩ (by rintro i ys σ G ⟨_, _, t⟩; rw [t.length, List.length_map]; exact Nat.le_trans (List.length_filter_le _ _) (by rw [List.length_take]; omega)) (by rintro i ys σ G _ ⟨s, _⟩; exact s _ _ f0) ?_ ?_
  · rintro i ky w ys σ G hu ⟨s, ⟨v1, rfl⟩, t⟩
    obtain ⟨n, hn, rfl, rfl⟩ := intD_at hu
    have dg : DGet G a (.int n) (some (.int (S.o n))) := .inl ⟨intD ks S.o, Sum.inl n, .inr ⟨o, s _ _ f0⟩, rfl, (intD_val (List.mem_of_getElem? hn)).symm⟩
    refine ⟨_, rfl, x, cL, dx, _, _, rfl, s _ _ x0, T.cl, T.n1, la.1, _, rfl, a, _, rfl, dg, _, _, rfl, rfl, _, rfl, ?_⟩
    rw [take_snoc hn, List.filter_append, List.map_append]
    by_cases c0 : 0 < S.o n
    · refine iteP (by simpa using c0) ⟨_, rfl, by show 2 ≤ sizeLine; decide, fun q hq => ⟨s.trans (same_new hq _), ⟨_, rfl⟩, ?_⟩⟩
      rw [List.filter_cons_of_pos (by simpa using c0)]
      exact Two.append (t.mono fun _ _ ⟨c, w1, w2⟩ => ⟨c, w1, same_new hq _ _ _ w2⟩) ⟨⟨q, rfl, upd_same⟩, trivial⟩
    · refine iteN (by simpa using c0) ⟨s, ⟨_, rfl⟩, ?_⟩
      rw [List.filter_cons_of_neg (by simpa using c0), List.filter_nil, List.map_nil, List.append_nil]
      exact t
  rintro ys σ G ⟨s, _, t⟩ l hl
  have lk : (intD ks S.o).length = ks.length := by unfold intD; rw [List.length_map]
  rw [lk, List.take_length] at t
  have ga : upd G l (.lst ys) a = some (.frz o (.dK (intD ks S.o))) := same_new hl _ _ _ (s _ _ f0)
  refine .inr ⟨a, o, _, ga, (fun o' u' z => by cases Y.o.symm.trans z), (fun _ z => by cases z), (fun _ z => by cases z), ?_⟩
  have s1 := thaw_same (w := .lst ys) Y.o s hl
  have la' := ne_of_none (s _ _ f0) hl
  have l1 : upd (upd G l (.lst ys)) a (.dK (intD ks S.o)) l = some (.lst ys) := by rw [upd_ne la'.symm]; exact upd_same
  have hl0 : H l = none := by
    have := s.free hl
    rw [upd_ne la'.symm] at this
    exact this
  have t1 : Two (PlE (upd (upd G l (.lst ys)) a (.dK (intD ks S.o)))) ys ((ks.filter fun n => decide (0 < S.o n)).map fun n => (true, n)) := t.mono fun _ _ ⟨c, w1, w2⟩ => ⟨c, w1, by
    have n1 : c ≠ a := ne_of w2 (s _ _ f0) (by intro z; cases z)
    have n2 : c ≠ l := ne_of_none w2 hl
    unfold PlT
    rw [upd_ne n1, upd_ne n2]
    exact w2⟩
  clear t s ga
  generalize upd (upd G l (.lst ys)) a (.dK (intD ks S.o)) = H1 at s1 l1 t1 ⊢
  generalize ez : (ks.filter fun n => decide (0 < S.o n)).map (fun n => ((true, n) : Pl Int)) = zs at t1
  have lz : zs.length ≤ 50 := by
    rw [← ez, List.length_map]
    exact Nat.le_trans (List.length_filter_le _ _) zk
  have ly := t1.length
  have nz : zs.Nodup := by
    have w := (ah0_ok (prs := prs) (S := S) O.nk).1.nodup
    rw [(ah0_ok (prs := prs) (S := S) O.nk).2, ez] at w
    exact w
  refine ⟨_, rfl, l, rfl, ⟨_, SqL.of l1⟩, comp_list (xs := ys) (fun i us σ G => Same H1 G ∧ (∃ v, σ = [v]) ∧ Two (PlN G) us (zs.take i)) (small1000 (by omega)) ⟨Same.refl _, ⟨_, rfl⟩, trivial⟩ (by rintro i us σ G ⟨_, _, t⟩; rw [t.length, List.length_take]; omega) (by rintro i us σ G _ ⟨s, _⟩; exact SqL.of (s _ _ l1)) ?_ ?_⟩
  · rintro i u us σ G hu ⟨s, ⟨v1, rfl⟩, t⟩
    obtain ⟨z, hz, tt, rfl, pt⟩ := t1.at hu
    refine ⟨_, rfl, by show 2 ≤ sizeLine; decide, fun q hq => ⟨s.trans (same_new hq _), ⟨_, rfl⟩, ?_⟩⟩
    rw [take_snoc hz]
    exact Two.append (t.mono fun _ _ ⟨c, c2, w1, w2, w3⟩ => ⟨c, c2, w1, same_new hq _ _ _ w2, same_new hq _ _ _ w3⟩) ⟨⟨q, tt, rfl, upd_same, same_new hq _ _ _ (s _ _ pt)⟩, trivial⟩
  rintro us σ2 G2 ⟨s2, _, t2⟩ l2 hl2
  rw [ly, List.take_length] at t2
  have lu := t2.length
  refine ⟨l2, us, fun i => .dT (nonK (zs.take i)), rfl, upd_same, .inr rfl, fun dA hdA => ⟨non_chain (t2.mono fun _ _ ⟨c, c2, w1, w2, w3⟩ => ⟨c, c2, w1, same_new hl2 _ _ _ w2, same_new hl2 _ _ _ w3⟩) nz (small1000 (by omega)) hdA, ?_⟩⟩
  rw [lu]
  dsimp only
  rw [List.take_length]
  have s3 : Same H1 (upd (upd G2 l2 (.lst us)) dA (.dT (nonK zs))) := (s2.trans (same_new hl2 _)).trans (same_new hdA _)
  have d3 : upd (upd G2 l2 (.lst us)) dA (.dT (nonK zs)) dA = some (.dT (nonK zs)) := upd_same
  have d1 : H1 dA = none := s2.free ((same_new hl2 (.lst us)).free hdA)
  generalize upd (upd G2 l2 (.lst us)) dA (.dT (nonK zs)) = H3 at s3 d3 ⊢
  have hd0 := s1.free d1
  have e0 : zs.map (fun z => (z, (none : Option (Pl Int)))) = ah0 ks S := by rw [← ez, List.map_map]; rfl
  obtain ⟨w0, k0⟩ := ah0_ok (prs := prs) (S := S) O.nk
  have Q0 : SrQ H H3 l dA prs ks S (ah0 ks S) := ⟨s1.trans s3, ⟨ys, s3 _ _ l1, by rw [k0, ez]; exact t1.mono fun _ _ ⟨c, w1, w2⟩ => ⟨c, w1, s3 _ _ w2⟩⟩, ⟨nonK zs, d3, by rw [← e0]; exact non_ah H3 zs⟩, w0⟩
  clear t1 t2 s2 s3 d3 l1 e0
  generalize eN : (allP ks qs).length + 1 = N at k
  refine ⟨fun j σ G => ∃ (dn : Nat) (ah : Ah Int) (v4 : Option V), σ = [some (.ref x), some (.ref l), some (.ref dA), some (.int dn), v4] ∧ j = N - dn ∧ SrQ H G l dA prs ks S ah ∧ srch prs S N 0 (ah0 ks S) = srch prs S (N - dn) dn ah, ⟨_, 0, ah0 ks S, none, rfl, rfl, Q0, rfl⟩, ?_⟩
  rintro j σ G ⟨dn, ah, v4, rfl, rfl, R, e⟩
  obtain ⟨us', gl, tq⟩ := R.q
  have lq := tq.length
  have lN := nodup_le R.w.nodup (R.w.sub O.pr)
  refine ⟨_, rfl, _, rfl, l, us', rfl, .inl (SqL.of gl), _, _, rfl, rfl, _, rfl, ?_⟩
  by_cases c : dn < us'.length
  · refine iteP (by simpa using c) ⟨fun σ' H' => ∃ ah' v4, σ' = [some (.ref x), some (.ref l), some (.ref dA), some (.int ((dn + 1 : Nat) : Int)), v4] ∧ SrQ H H' l dA prs ks S ah' ∧ srch prs S N 0 (ah0 ks S) = srch prs S (N - (dn + 1)) (dn + 1) ah', fun σ' H' ⟨ah', v4, e1, e2, e3⟩ => ⟨N - (dn + 1), by omega, dn + 1, ah', v4, e1, rfl, e2, e3⟩, ?_⟩
    have hN : N - dn = N - (dn + 1) + 1 := by omega
    obtain ⟨cur, hc, tt, et, pt⟩ := tq.at (List.getElem?_eq_getElem c)
    rw [hN] at e
    have gat : atI us' (dn : Int) = some (.ref tt) := atI_nat (by rw [List.getElem?_eq_getElem c, et])
    refine ⟨_, rfl, _, rfl, _, rfl, l, _, _, _, rfl, rfl, SqL.of gl, gat, x, a, b, g, v, d, tt, prs, ks, qs, S, cur, rfl, Y.same R.s, O, pt, wf_give R.w _ (List.mem_of_getElem? hc), fun G1 ln ws s4 hln gln tw => ?_⟩
    have R1 := R.same s4
    obtain ⟨kv0, hk0, _⟩ := R.k
    have nl := ne_of_none gl hln
    have nd' := ne_of_none hk0 hln
    refine ⟨ln, rfl, ⟨_, SqL.of gln⟩, for_list (xs := ws) (fun i σ G' => ∃ ah' v4, σ = [some (.ref x), some (.ref l), some (.ref dA), some (.int (dn : Int)), v4] ∧ SrQ H G' l dA prs ks S ah' ∧ G' ln = some (.lst ws) ∧ Two (PlE G') ws (nexts prs S cur) ∧ (keysA ah')[dn]? = some cur ∧ scan S cur ((nexts prs S cur).drop i) ah' = scan S cur (nexts prs S cur) ah) ⟨ah, v4, rfl, R1, gln, tw, hc, rfl⟩ (by rintro i σ G' _ ⟨_, _, _, _, q, _⟩; exact SqL.of q) ?_ ?_⟩
    · rintro i u σ G' hu ⟨ah', v4, rfl, R', gln', tw', hc', es⟩
      obtain ⟨z, hz, t', rfl, pt'⟩ := tw'.at hu
      obtain ⟨kvs, hk, hkk⟩ := R'.k
      obtain ⟨us2, gl2, tq2⟩ := R'.q
      have mz := List.mem_of_getElem? hz
      have li := (List.getElem?_eq_some_iff.mp hz).1
      have dr : (nexts prs S cur).drop i = z :: (nexts prs S cur).drop (i + 1) := by
        rw [List.drop_eq_getElem_cons li, (List.getElem?_eq_some_iff.mp hz).2]
      rw [dr] at es
      refine ⟨_, rfl, _, rfl, dA, _, rfl, DGet.t (k := keyP z) hk pt', _, rfl, ?_⟩
      by_cases m : z ∈ keysA ah'
      · have hv : (valV kvs (keyP z)).isSome = true := by
          cases q : lookA ah' z with
          | none => exact absurd m (look_none.mpr q)
          | some o =>
            obtain ⟨w, hw, _⟩ := (hkk.look (z := z)).2 _ q
            rw [hw]; rfl
        rw [hv]
        rw [scan_old m] at es
        exact iteN (by decide) ⟨ah', _, rfl, R', gln', tw', hc', es⟩
      · have hv : valV kvs (keyP z) = none := (hkk.look (z := z)).1 (look_none.mp m)
        rw [hv]
        have lA := nodup_le R'.w.nodup (R'.w.sub O.pr)
        have lB : (allP ks qs).length ≤ 100 := by
          unfold allP
          rw [List.length_append, List.length_map, List.length_map]
          have := O.zk
          have := O.zq
          omega
        have lC : (keysA ah').length = kvs.length := by rw [hkk.len]; unfold keysA; rw [List.length_map]
        have l2 := tq2.length
        have ld := (List.getElem?_eq_some_iff.mp hc').1
        obtain ⟨cur', hc2, tc, etc, ptc⟩ := tq2.at (List.getElem?_eq_getElem (show dn < us2.length by omega))
        cases Option.some.inj (hc'.symm.trans hc2)
        have gat2 : atI us2 (dn : Int) = some (.ref tc) := atI_nat (by rw [List.getElem?_eq_getElem (show dn < us2.length by omega), etc])
        refine iteP (by decide) ?_
        refine ⟨_, rfl, _, rfl, l, _, _, _, rfl, rfl, SqL.of gl2, gat2, _, rfl, _, rfl, dA, _, rfl, .inr ⟨kvs, keyP z, t', hk, rfl, pt', small1000 (by omega), rfl⟩, ?_⟩
        have A2 := SrQ.ahead (t := tc) R'.s hd0 hk hkk m ptc (l := l) (prs := prs) (ks := ks) (S := S)
        have s5 : Same H (upd G' dA (.dT (putK kvs (keyP z) (.ref tc)))) := same_upd R'.s hd0
        have ts5 : TS G' (upd G' dA (.dT (putK kvs (keyP z) (.ref tc)))) := fun b ys e => by rw [upd_ne (ne_of e hk (by intro q; cases q))]; exact e
        have gl5 : upd G' dA (.dT (putK kvs (keyP z) (.ref tc))) l = some (.lst us2) := by rw [upd_ne (ne_of gl2 hk (by intro q; cases q))]; exact gl2
        have gn5 : upd G' dA (.dT (putK kvs (keyP z) (.ref tc))) ln = some (.lst ws) := by rw [upd_ne (ne_of gln' hk (by intro q; cases q))]; exact gln'
        generalize upd G' dA (.dT (putK kvs (keyP z) (.ref tc))) = G5 at A2 s5 ts5 gl5 gn5 ⊢
        have w5 : Wf prs S ks (ah' ++ [(z, some cur)]) := .step R'.w m (List.mem_of_getElem? hc') mz
        refine ⟨_, rfl, _, rfl, x, a, b, g, v, d, t', prs, ks, qs, S, z, rfl, Y.same s5, ts5 _ _ pt', next_room O.pr mz, _, rfl, ?_⟩
        cases rm : roomB S z with
        | true =>
          refine iteP rfl ?_
          rw [scan_hit m rm] at es
          have ee := e.trans (srch_hit hc es.symm)
          rw [ee] at k
          refine ⟨_, rfl, _, rfl, by show 2 ≤ sizeLine; decide, fun r hr => ?_⟩
          obtain ⟨kv2, h51, h52⟩ := A2
          exact k _ r dA (.ref t') (s5.trans (same_new hr _)) upd_same ⟨kv2, same_new hr _ _ _ h51, h52.ts (TS.of (same_new hr _))⟩ ⟨t', rfl, same_new hr _ _ _ (ts5 _ _ pt')⟩
        | false =>
          refine iteN (by decide) ?_
          rw [scan_on m rm] at es
          refine ⟨_, rfl, .inl ⟨rfl, _, SqL.of gl5⟩, _, rfl, l, _, _, rfl, rfl, gl5, small1000 (by omega), ?_⟩
          have ts6 : TS G5 (upd G5 l (.lst (us2 ++ [.ref t']))) := TS.lst gl5
          obtain ⟨kv2, h51, h52⟩ := A2
          have nla : dA ≠ l := ne_of h51 gl5 (by intro q; cases q)
          refine ⟨ah' ++ [(z, some cur)], _, rfl, ⟨same_upd s5 hl0, ⟨_, upd_same, ?_⟩, ⟨kv2, by rw [upd_ne nla]; exact h51, h52.ts ts6⟩, w5⟩, by rw [upd_ne nl.symm]; exact gn5, tw'.mono fun _ _ ⟨c, w1, w2⟩ => ⟨c, w1, ts6 _ _ (ts5 _ _ w2)⟩, ?_, es⟩
          · rw [keysA_snoc]
            exact Two.append (tq2.mono fun _ _ ⟨c, w1, w2⟩ => ⟨c, w1, ts6 _ _ (ts5 _ _ w2)⟩) ⟨⟨t', rfl, ts6 _ _ (ts5 _ _ pt')⟩, trivial⟩
          · rw [keysA_snoc, List.getElem?_append_left ld]
            exact hc'
    · rintro σ G' ⟨ah', v4, rfl, R', gln', tw', hc', es⟩
      rw [tw.length, List.drop_length] at es
      exact ⟨_, rfl, _, _, rfl, rfl, ah', v4, rfl, R', e.trans (srch_on hc es.symm)⟩
  · refine iteN (by simpa using c) ?_
    have ee := e.trans (srch_end0 (show (keysA ah).length ≤ dn by omega))
    rw [ee] at k
    refine ⟨_, rfl, by show 2 ≤ sizeLine; decide, fun r hr => ?_⟩
    have R2 := R.same (same_new hr (.tup [.ref dA, .non]))
    exact k _ r dA .non R2.s upd_same R2.k rfl
end
end Mine
namespace Mine
open PySem L2
section
variable {P : Program} {w : World} {K : PySem.W.Frag} {mg : Str → Option Value} {base : Heap}
theorem ok_Aln {cL : Addr} (T : LyT K cL) (m_min : mg "min" = none) (m_range : mg "range" = none) (m_len : mg "len" = none) : Okk P w K mg base "lay_along" "lay_along" sAln 1 ["laying", "answers"] (spAlong cL) := by
  refine okk ["laying", "answers", "there", "back", "left", "amount", "pair"] fun H Q nd hr h => ?_
  obtain ⟨x, a, b, g, v, d, q, prs, ks, qs, as, S, y, w, rfl, Y, O, hq, ⟨ah, al, ev, lz, mt, mb, yq, wk⟩, k⟩ := h
  have hu := hu_of hr
  refine ⟨_, (pss_cons (ps_setC ["k", "answers"] [none, some 1] (i := 2) nd rfl (Or.inl rfl) (pi_range3 (by rfl) m_range (pa_cons pe_int (pa_cons (pcb call_len_seq m_len PySem.boot_len (pa1 (pv 1))) (pa1 pe_int)))) (fun _ _ _ _ => (pgn 0)) (fun _ _ _ _ => pf_nil) (fun _ _ _ _ => (pe_tup (pa_cons (pix (ixlK K) (pv 1) (pe_op op_add (pv 0) pe_int)) (pa1 (pix (ixlK K) (pv 1) (pv 0)))))))
    (pss_cons (ps_setC ["k", "answers"] [none, some 1] (i := 3) nd rfl (Or.inl rfl) (pi_range3 (by rfl) m_range (pa_cons pe_int (pa_cons (pe_op op_sub (pcb call_len_seq m_len PySem.boot_len (pa1 (pv 1))) pe_int) (pa1 pe_int)))) (fun _ _ _ _ => (pgn 0)) (fun _ _ _ _ => pf_nil) (fun _ _ _ _ => (pe_tup (pa_cons (pix (ixlK K) (pv 1) (pv 0)) (pa1 (pix (ixlK K) (pv 1) (pe_op op_add (pv 0) pe_int)))))))
    (psq 4 nd (pe_lst (pa_cons (pdg hu (pe_fld (pv 0) rfl) (pix ix_list (pv 1) pe_m1)) (pa1 (pdg hu (pe_fld (pv 0) rfl) (pix ix_list (pv 1) pe_int)))))
    (psq 5 nd (pcb call_min_l m_min PyProof.Rows.boot_min (pa1 (pe_op op_cat (pv 4) (pe_comp ["pair", "laying"] [none, some 0] (pi_list (pv 3)) (fun _ _ _ _ => (pgn 0)) (fun _ _ _ _ => pf_nil) (fun _ _ _ _ => (pdg hu (pe_fldK K (pv 1) rfl) (pv 0)))))))
    (pss_cons (pfr (pi_list (pv 2)) (pgn 6 nd)
    (pss_one (ps_daug hu (pe_fld (pv 0) rfl) (pv 6) (pv 5) ip_add (fun _ _ _ => rfl))))
    (pss_cons (pfr (pi_list (pv 3)) (pgn 6 nd)
    (pss_one (ps_daug hu (pe_fld (pv 0) rfl) (pv 6) (pv 5) ip_sub (fun _ _ _ => rfl))))
    (pss_cons (ps_daug hu (pe_fld (pv 0) rfl) (pix ix_list (pv 1) pe_m1) (pv 5) ip_sub (fun _ _ _ => rfl))
    (pss_one (ps_daug hu (pe_fld (pv 0) rfl) (pix ix_list (pv 1) pe_int) (pv 5) ip_sub (fun _ _ _ => rfl)))))))))), ?_⟩
  obtain ⟨dx, hx⟩ := Y.ob
  have la := ly_at a b g v d
  have lw : (as.map V.int).length = as.length := List.length_map ..
  have tl := there_len as
  have bl := back_len as
  refine ⟨_, rfl, q, _, rfl, .inl (SqL.of hq), _, _, rfl, by decide, by decide, by omega, by omega, comp_range2 (lo := 0) (n := half 0 ((as.map V.int).length : Int)) (fun i ys σ G => Same H G ∧ (∃ v, σ = [v, some (.ref q)]) ∧ Prs G ys ((thereL as).take i)) (small1000 (by unfold half; omega)) ⟨Same.refl _, ⟨_, rfl⟩, trivial⟩ (by rintro i ys σ G ⟨_, _, t⟩; rw [t.length, List.length_take]; omega) ?_ ?_⟩
  · rintro i ys σ G hi ⟨s, ⟨v1, rfl⟩, t⟩
    have li : i < (thereL as).length := by unfold half at hi; omega
    have he := List.getElem?_eq_getElem li
    obtain ⟨e1, e2⟩ := there_at he
    refine ⟨_, rfl, _, rfl, _, _, rfl, rfl, q, _, _, _, rfl, rfl, SqL.of (s _ _ hq), atI_of (n := 2 * i + 1) (by omega) (at_int e1), _, rfl, _, rfl, q, _, _, _, rfl, rfl, SqL.of (s _ _ hq), atI_of (n := 2 * i) (by omega) (at_int e2), by show 2 ≤ sizeLine; decide, fun r hr => ⟨s.trans (same_new hr _), ⟨_, rfl⟩, ?_⟩⟩
    rw [take_snoc he]
    exact Prs.append (t.same (same_new hr _)) ⟨⟨r, rfl, upd_same⟩, trivial⟩
  rintro tws σ G ⟨s, _, t⟩ th hth
  have nt : half 0 ((as.map V.int).length : Int) = (thereL as).length := by unfold half; omega
  rw [nt, List.take_length] at t
  have s1 := s.trans (same_new hth (.lst tws))
  have t1 := t.same (same_new hth (.lst tws))
  have h1 : upd G th (.lst tws) th = some (.lst tws) := upd_same
  generalize upd G th (.lst tws) = H1 at s1 t1 h1 ⊢
  clear t s hth
  refine ⟨_, rfl, q, _, rfl, .inl (SqL.of (s1 _ _ hq)), _, _, rfl, rfl, _, _, rfl, by decide, by decide, by omega, by omega, comp_range2 (lo := 1) (n := half 1 (((as.map V.int).length : Int) - 1)) (fun i ys σ G => Same H1 G ∧ (∃ v, σ = [v, some (.ref q)]) ∧ Prs G ys ((backL as).take i)) (small1000 (by unfold half; omega)) ⟨Same.refl _, ⟨_, rfl⟩, trivial⟩ (by rintro i ys σ G ⟨_, _, t⟩; rw [t.length, List.length_take]; omega) ?_ ?_⟩
  · rintro i ys σ G hi ⟨s, ⟨v1, rfl⟩, t⟩
    have li : i < (backL as).length := by unfold half at hi; omega
    have he := List.getElem?_eq_getElem li
    obtain ⟨e1, e2⟩ := back_at he
    have hq2 := s _ _ (s1 _ _ hq)
    refine ⟨_, rfl, _, rfl, q, _, _, _, rfl, rfl, SqL.of hq2, atI_of (n := 2 * i + 1) (by omega) (at_int e1), _, rfl, _, rfl, _, _, rfl, rfl, q, _, _, _, rfl, rfl, SqL.of hq2, atI_of (n := 2 * i + 2) (by omega) (at_int e2), by show 2 ≤ sizeLine; decide, fun r hr => ⟨s.trans (same_new hr _), ⟨_, rfl⟩, ?_⟩⟩
    rw [take_snoc he]
    exact Prs.append (t.same (same_new hr _)) ⟨⟨r, rfl, upd_same⟩, trivial⟩
  rintro bws σ G ⟨s, _, t⟩ bk hbk
  have nb : half 1 (((as.map V.int).length : Int) - 1) = (backL as).length := by unfold half; omega
  rw [nb, List.take_length] at t
  have s2 := s1.trans (s.trans (same_new hbk (.lst bws)))
  have t2 := t.same (same_new hbk (.lst bws))
  have h2 : upd G bk (.lst bws) bk = some (.lst bws) := upd_same
  have t3 := t1.same (s.trans (same_new hbk (.lst bws)))
  have h3 := (s.trans (same_new hbk (.lst bws))) _ _ h1
  generalize upd G bk (.lst bws) = H2 at s2 t2 h2 t3 h3 ⊢
  clear t s hbk t1 h1
  have Y2 := Y.same s2
  have hq2 := s2 _ _ hq
  have x2 := s2 _ _ hx
  have dgo := DGet.k (k := Sum.inl w) Y2.o
  rw [intD_val wk] at dgo
  have dgp := DGet.k (k := Sum.inl y) Y2.p
  rw [intD_val yq] at dgp
  refine ⟨_, rfl, x, cL, dx, _, _, rfl, x2, T.cl, T.n1, la.1, _, rfl, q, _, _, _, rfl, rfl, SqL.of hq2, atI_last al, a, _, rfl, dgo, _, rfl, x, cL, dx, _, _, rfl, x2, T.cl, T.n2, la.2.1, _, rfl, q, _, _, _, rfl, rfl, SqL.of hq2, at_head ah, b, _, rfl, dgp, by show 2 ≤ sizeLine; decide, fun lf hlf => ?_⟩
  have s3 := s2.trans (same_new hlf (.lst [.int (S.o w), .int (S.p y)]))
  have t4 := t2.same (same_new hlf (.lst [.int (S.o w), .int (S.p y)]))
  have t5 := t3.same (same_new hlf (.lst [.int (S.o w), .int (S.p y)]))
  have h4 := same_new hlf (.lst [.int (S.o w), .int (S.p y)]) _ _ h2
  have h5 := same_new hlf (.lst [.int (S.o w), .int (S.p y)]) _ _ h3
  have h6 : upd H2 lf (.lst [.int (S.o w), .int (S.p y)]) lf = some (.lst [.int (S.o w), .int (S.p y)]) := upd_same
  generalize upd H2 lf (.lst [.int (S.o w), .int (S.p y)]) = H3 at s3 t4 t5 h4 h5 h6 ⊢
  clear t2 t3 h2 h3 hlf Y2 hq2 x2 dgo dgp
  have lb := t4.length
  refine ⟨_, rfl, _, rfl, bk, rfl, ⟨_, SqL.of h4⟩, comp_list (xs := bws) (fun i ys σ G => H3 = G ∧ (∃ v, σ = [v, some (.ref x)]) ∧ ys = (((backL as).take i).map S.l).map V.int) (small1000 (by omega)) ⟨rfl, ⟨_, rfl⟩, rfl⟩ (by rintro i ys σ G ⟨_, _, t⟩; rw [t, List.length_map, List.length_map, List.length_take]; omega) (by rintro i ys σ G _ ⟨e, _⟩; rw [← e]; exact SqL.of h4) ?_ ?_⟩
  · rintro i u ys σ G hu ⟨rfl, ⟨v1, rfl⟩, rfl⟩
    obtain ⟨c, e1, e2, rfl, hc, hi⟩ := prs_at t4 hu
    have dl := DGet.t (k := [Sum.inl e1, Sum.inl e2]) (Y.same s3).l hc
    rw [show valV (prD prs S.l) [Sum.inl e1, Sum.inl e2] = some (.int (S.l (e1, e2))) from prD_val (mb _ (List.mem_of_getElem? hi))] at dl
    refine ⟨_, rfl, x, cL, dx, _, _, rfl, s3 _ _ hx, T.cl, T.n5, la.2.2.2.2, _, rfl, d, _, rfl, dl, rfl, ⟨_, rfl⟩, ?_⟩
    rw [take_snoc hi, List.map_append, List.map_append]
    rfl
  rintro ys σ G ⟨rfl, _, rfl⟩ l hl
  rw [lb, List.take_length]
  refine ⟨lf, l, _, _, rfl, rfl, same_new hl _ _ _ h6, upd_same, (by simp only [List.length_map, List.length_cons, List.length_nil]; exact Nat.le_of_lt (small1000 (by omega))), fun p hp => ⟨p, S.o w :: S.p y :: (backL as).map S.l, rfl, SqL.of upd_same, (by intro z; cases z), fun m m1 m2 => ?_⟩⟩
  cases amt_is m1 m2
  clear m1 m2
  generalize em : amtL S as y w = m
  have s4 : Same H3 (upd (upd H3 l (.lst (((backL as).map S.l).map V.int))) p (.lst ([.int (S.o w), .int (S.p y)] ++ ((backL as).map S.l).map V.int))) := (same_new hl _).trans (same_new hp _)
  generalize upd (upd H3 l (.lst (((backL as).map S.l).map V.int))) p (.lst ([.int (S.o w), .int (S.p y)] ++ ((backL as).map S.l).map V.int)) = H4 at s4 ⊢
  have s5 := s3.trans s4
  have t6 := t4.same s4
  have t7 := t5.same s4
  have h7 := s4 _ _ h4
  have h8 := s4 _ _ h5
  clear t4 t5 h4 h5 h6 hl hp s4 s3
  have Y4 := Y.same s5
  have hq4 := s5 _ _ hq
  have x4 := s5 _ _ hx
  have ku : ∀ {c : Addr} {o : HO} {l : Int × Int → Int}, o ≠ .dT (prD prs S.l) → H4 c = some o → upd H4 d (.dT (prD prs l)) c = some o := fun n e => by rw [upd_ne (ne_of e Y4.l n)]; exact e
  have lp : (prD prs S.l).length ≤ 200 := by unfold prD; rw [List.length_map]; exact O.zp
  refine ⟨_, rfl, th, rfl, ⟨_, SqL.of h8⟩, for_list (xs := tws) (fun i σ G => ∃ v6, σ = [some (.ref x), some (.ref q), some (.ref th), some (.ref bk), some (.ref lf), some (.int m), v6] ∧ G = upd H4 d (.dT (prD prs (laidE S ((thereL as).take i) [] m)))) ⟨none, rfl, by rw [List.take_zero, laidE_nil, upd_id Y4.l]⟩ (by rintro i σ G _ ⟨_, _, e⟩; rw [e]; exact SqL.of (ku (by intro z; cases z) h8)) ?_ ?_⟩
  · rintro i u σ G hu ⟨v6, rfl, rfl⟩
    obtain ⟨c, e1, e2, rfl, hc, hi⟩ := prs_at t7 hu
    have me := mt _ (List.mem_of_getElem? hi)
    have hc2 := ku (l := laidE S ((thereL as).take i) [] m) (by intro z; cases z) hc
    have dl := DGet.t (k := [Sum.inl e1, Sum.inl e2]) (upd_same (H := H4) (a := d) (o := .dT (prD prs (laidE S ((thereL as).take i) [] m)))) hc2
    rw [show valV (prD prs (laidE S ((thereL as).take i) [] m)) [Sum.inl e1, Sum.inl e2] = some (.int (laidE S ((thereL as).take i) [] m (e1, e2))) from prD_val me] at dl
    refine ⟨_, rfl, x, cL, dx, _, _, rfl, ku (by intro z; cases z) x4, T.cl, T.n5, la.2.2.2.2, _, rfl, d, _, rfl, dl, _, rfl, _, _, rfl, rfl, _, DPut.t (k := [Sum.inl e1, Sum.inl e2]) upd_same hc2 (by unfold prD at lp ⊢; rw [List.length_map] at lp ⊢; exact small1000 (by omega)), _, rfl, ?_⟩
    rw [upd_upd, show putK (prD prs (laidE S ((thereL as).take i) [] m)) [Sum.inl e1, Sum.inl e2] (V.int (laidE S ((thereL as).take i) [] m (e1, e2) + m)) = _ from prD_put (e := (e1, e2)) me, laidE_t, take_snoc hi]
  rintro σ G ⟨v6, rfl, rfl⟩
  rw [t7.length, List.take_length]
  refine ⟨_, rfl, bk, rfl, ⟨_, SqL.of (ku (by intro z; cases z) h7)⟩, for_list (xs := bws) (fun i σ G => ∃ v6, σ = [some (.ref x), some (.ref q), some (.ref th), some (.ref bk), some (.ref lf), some (.int m), v6] ∧ G = upd H4 d (.dT (prD prs (laidE S (thereL as) ((backL as).take i) m)))) ⟨v6, rfl, rfl⟩ (by rintro i σ G _ ⟨_, _, e⟩; rw [e]; exact SqL.of (ku (by intro z; cases z) h7)) ?_ ?_⟩
  · rintro i u σ G hu ⟨v6, rfl, rfl⟩
    obtain ⟨c, e1, e2, rfl, hc, hi⟩ := prs_at t6 hu
    have me := mb _ (List.mem_of_getElem? hi)
    have hc2 := ku (l := laidE S (thereL as) ((backL as).take i) m) (by intro z; cases z) hc
    have dl := DGet.t (k := [Sum.inl e1, Sum.inl e2]) (upd_same (H := H4) (a := d) (o := .dT (prD prs (laidE S (thereL as) ((backL as).take i) m)))) hc2
    rw [show valV (prD prs (laidE S (thereL as) ((backL as).take i) m)) [Sum.inl e1, Sum.inl e2] = some (.int (laidE S (thereL as) ((backL as).take i) m (e1, e2))) from prD_val me] at dl
    refine ⟨_, rfl, x, cL, dx, _, _, rfl, ku (by intro z; cases z) x4, T.cl, T.n5, la.2.2.2.2, _, rfl, d, _, rfl, dl, _, rfl, _, _, rfl, rfl, _, DPut.t (k := [Sum.inl e1, Sum.inl e2]) upd_same hc2 (by unfold prD at lp ⊢; rw [List.length_map] at lp ⊢; exact small1000 (by omega)), _, rfl, ?_⟩
    rw [upd_upd, show putK (prD prs (laidE S (thereL as) ((backL as).take i) m)) [Sum.inl e1, Sum.inl e2] (V.int (laidE S (thereL as) ((backL as).take i) m (e1, e2) - m)) = _ from prD_put (e := (e1, e2)) me, laidE_b, take_snoc hi]
  rintro σ G ⟨v6, rfl, rfl⟩
  rw [t6.length, List.take_length, laidE_all]
  have Y5 := Y4.setL (fun e => S.l e + m * dl false as e)
  have q5 : upd H4 d (.dT (prD prs fun e => S.l e + m * dl false as e)) q = some (.lst (as.map V.int)) := ku (by intro z; cases z) hq4
  have x5 : upd H4 d (.dT (prD prs fun e => S.l e + m * dl false as e)) x = some (.ins cL dx (lyF a b g v d)) := ku (by intro z; cases z) x4
  have o5 : OfL a b d H (upd H4 d (.dT (prD prs fun e => S.l e + m * dl false as e))) := (OfL.of s5).trans OfL.setL
  generalize upd H4 d (.dT (prD prs fun e => S.l e + m * dl false as e)) = H5 at Y5 q5 x5 o5 ⊢
  have dgo := DGet.k (k := Sum.inl w) Y5.o
  rw [intD_val wk] at dgo
  have zk := O.zk
  have zq := O.zq
  refine ⟨_, rfl, x, cL, dx, _, _, rfl, x5, T.cl, T.n1, la.1, _, rfl, q, _, _, _, rfl, rfl, SqL.of q5, atI_last al, a, _, rfl, dgo, _, rfl, _, _, rfl, rfl, _, DPut.k (k := Sum.inl w) Y5.o (by unfold intD; rw [List.length_map]; exact small1000 (by omega)), ?_⟩
  rw [show putK (intD ks S.o) (Sum.inl w) (V.int (S.o w - m)) = _ from intD_put wk, sub_at]
  have Y6 := Y5.setO (fun k => if k = w then S.o k - m else S.o k)
  have naq := ne_of q5 Y5.o (by intro z; cases z)
  have nax := ne_of x5 Y5.o (by intro z; cases z)
  have q6 : upd H5 a (.dK (intD ks fun k => if k = w then S.o k - m else S.o k)) q = some (.lst (as.map V.int)) := by rw [upd_ne naq]; exact q5
  have x6 : upd H5 a (.dK (intD ks fun k => if k = w then S.o k - m else S.o k)) x = some (.ins cL dx (lyF a b g v d)) := by rw [upd_ne nax]; exact x5
  have o6 : OfL a b d H (upd H5 a (.dK (intD ks fun k => if k = w then S.o k - m else S.o k))) := o5.trans OfL.setO
  generalize upd H5 a (.dK (intD ks fun k => if k = w then S.o k - m else S.o k)) = H6 at Y6 q6 x6 o6 ⊢
  have dgp := DGet.k (k := Sum.inl y) Y6.p
  rw [intD_val yq] at dgp
  refine ⟨_, rfl, x, cL, dx, _, _, rfl, x6, T.cl, T.n2, la.2.1, _, rfl, q, _, _, _, rfl, rfl, SqL.of q6, at_head ah, b, _, rfl, dgp, _, rfl, _, _, rfl, rfl, _, DPut.k (k := Sum.inl y) Y6.p (by unfold intD; rw [List.length_map]; exact small1000 (by omega)), ?_⟩
  rw [show putK (intD qs S.p) (Sum.inl y) (V.int (S.p y - m)) = _ from intD_put yq, sub_at]
  have Y7 := Y6.setP (fun k => if k = y then S.p k - m else S.p k)
  subst em
  exact k _ (o6.trans OfL.setP) Y7
end
end Mine
namespace Mine
open PySem L2
section
variable {P : Program} {w : World} {K : PySem.W.Frag} {mg : Str → Option Value} {base : Heap}
theorem ok_Lal {cL : Addr} (T : LyT K cL) (C_Src : Cl P w K mg base 2 (spSrc cL) "searched") (C_Aln : Cl P w K mg base 1 (spAlong cL) "lay_along") (C_Bck : Cl P w K mg base 1 spBack "answers_back") : Okk P w K mg base "lay_all" "lay_all" sLal 3 ["laying"] (spLayAll cL) := by
  refine okk ["laying", "search"] fun H Q nd hr h => ?_
  obtain ⟨x, a, b, g, v, d, prs, ks, qs, S, o0, p0, f, rfl, Y, O, F, hf, k⟩ := h
  have hr1 : Room 1 _ := hr.mono (by decide)
  refine ⟨_, (psq 1 nd (pcl C_Src hr (pa1 (pv 0)))
    (pss_cons (ps_while PassesOwn.never (pt_cmp (pc_notN (pix ix_tup (pv 1) pe_int)))
    (pss_cons (ps_expr (pcl C_Aln hr (pa_cons (pv 0) (pa1 (pcl C_Bck hr (pa_cons (pix ix_tup (pv 1) pe_int) (pa1 (pix ix_tup (pv 1) pe_int))))))))
    (pss_one (psz 1 nd (pcl C_Src hr (pa1 (pv 0)))))))
    (pss_one (ps_ret (pix ix_tup (pv 1) pe_int))))), ?_⟩
  refine ⟨_, rfl, x, a, b, g, v, d, prs, ks, qs, S, rfl, Y, O, fun H1 r dA u s1 hr1 hA hu1 => ?_⟩
  generalize eN : (allP ks qs).length + 1 = N at *
  refine ⟨fun j σ G => ∃ (S' : Lay Int) (r dA : Addr) (u : V), σ = [some (.ref x), some (.ref r)] ∧ LyH cL G x a b g v d prs ks qs S' ∧ Fl prs ks qs o0 p0 S' ∧ sumO ks S' ≤ (j : Int) ∧ layAll prs ks N f S = layAll prs ks N j S' ∧ OfL a b d H G ∧ G r = some (.tup [.ref dA, u]) ∧ AhH G dA (srch prs S' N 0 (ah0 ks S')).1 ∧ AhV G (srch prs S' N 0 (ah0 ks S')).2 u, ⟨f, S, r, dA, u, rfl, Y.same s1, F, hf, rfl, OfL.of s1, hr1, hA, hu1⟩, ?_⟩
  rintro j σ G ⟨S', r, dA, u, rfl, Y', F', hj, ej, oG, hr', hA', hu'⟩
  refine ⟨_, rfl, r, _, _, _, rfl, rfl, SqT.of hr', rfl, _, rfl, ?_⟩
  obtain ⟨h1, h2⟩ := srch_end O.pr O.nk (S := S') (qs := qs)
  rw [eN] at h1 h2
  cases es : srch prs S' N 0 (ah0 ks S') with
  | mk ah o =>
    rw [es] at h1 h2 hA' hu'
    cases o with
    | none =>
      cases (show u = .non from hu')
      have e0 := layAll_end es j
      rw [ej, e0] at k
      exact iteN (by decide) ⟨_, rfl, r, _, _, _, rfl, rfl, SqT.of hr', rfl, k G dA oG Y' hA'⟩
    | some z =>
      obtain ⟨t, rfl, pt⟩ := (show ∃ t, u = .ref t ∧ PlT G t z from hu')
      obtain ⟨y, zr, rfl, hy, pp, tr, eb⟩ := h2 z rfl
      obtain ⟨w, e1, e2, a1, F2⟩ := F'.step O.nd pp hy
      have n2 := sumO_nn F2.o
      rw [sumO_step O.nk e2] at n2
      have lP := nodup_le pp.nodup (pp.inP O.pr)
      have lA : (allP ks qs).length ≤ 100 := by
        unfold allP
        rw [List.length_append, List.length_map, List.length_map]
        have := O.zk
        have := O.zq
        omega
      have evn := (pp.even _ _ rfl).1 rfl
      obtain ⟨mt, mb⟩ := (pp.prs _ _ rfl).1 rfl
      have yq : y ∈ qs := by
        have := pp.inP O.pr (false, y) List.mem_cons_self
        rcases List.mem_append.mp this with q | q
        · obtain ⟨_, _, q⟩ := List.mem_map.mp q; cases q
        · obtain ⟨_, hh, q⟩ := List.mem_map.mp q; cases q; exact hh
      have es2 : stepS ah N S' (false, y) = laidS S' (((false, y) :: zr).map (·.2)) y w (amtL S' (((false, y) :: zr).map (·.2)) y w) := by
        unfold stepS
        have eb : backP ah N (false, y) = (false, y) :: zr := eb
        rw [eb, e1]
        rfl
      cases j with
      | zero => exfalso; omega
      | succ j =>
        have em := layAll_more es j
        rw [es2] at em
        refine iteP (by rfl) ⟨fun σ' H' => ∃ (r dA : Addr) (u : V), σ' = [some (.ref x), some (.ref r)] ∧ LyH cL H' x a b g v d prs ks qs (laidS S' (((false, y) :: zr).map (·.2)) y w (amtL S' (((false, y) :: zr).map (·.2)) y w)) ∧ OfL a b d H H' ∧ H' r = some (.tup [.ref dA, u]) ∧ AhH H' dA (srch prs (laidS S' (((false, y) :: zr).map (·.2)) y w (amtL S' (((false, y) :: zr).map (·.2)) y w)) N 0 (ah0 ks (laidS S' (((false, y) :: zr).map (·.2)) y w (amtL S' (((false, y) :: zr).map (·.2)) y w)))).1 ∧ AhV H' (srch prs (laidS S' (((false, y) :: zr).map (·.2)) y w (amtL S' (((false, y) :: zr).map (·.2)) y w)) N 0 (ah0 ks (laidS S' (((false, y) :: zr).map (·.2)) y w (amtL S' (((false, y) :: zr).map (·.2)) y w)))).2 u, fun σ' H' ⟨r, dA, u, i1, i2, i3, i4, i5, i6⟩ => ⟨j, Nat.lt_succ_self _, _, r, dA, u, i1, i2, F2, by rw [sumO_step O.nk e2]; omega, ej.trans em, i3, i4, i5, i6⟩, ?_⟩
        refine ⟨_, rfl, _, rfl, r, _, _, _, rfl, rfl, SqT.of hr', rfl, _, rfl, r, _, _, _, rfl, rfl, SqT.of hr', rfl, dA, .ref t, ah, (false, y), zr, rfl, hA', ⟨t, rfl, pt⟩, tr, by omega, fun G1 l s2 hl gl => ?_⟩
        refine ⟨x, a, b, g, v, d, l, prs, ks, qs, ((false, y) :: zr).map (·.2), S', y, w, rfl, Y'.same s2, O, by rw [List.map_map]; exact gl, ⟨rfl, e1, by rw [List.length_map]; exact evn, by rw [List.length_map]; omega, mt, fun e he => (mb e he).1, yq, e2⟩, fun G2 o2 Y2 => ?_⟩
        refine ⟨_, rfl, x, a, b, g, v, d, prs, ks, qs, _, rfl, Y2, O, fun G3 r3 dA3 u3 s3 hr3 hA3 hu3 => ?_⟩
        rw [eN] at hA3 hu3
        exact ⟨r3, dA3, u3, rfl, Y2.same s3, ((oG.same s2).trans o2).same s3, hr3, hA3, hu3⟩
end
end Mine
namespace Mine
open PySem L2
section
variable {P : Program} {w : World} {K : PySem.W.Frag} {mg : Str → Option Value} {base : Heap}
theorem ok_Low (C_Gcd : Cl P w K mg base 1 spGcd "common_divisor") : Okk P w K mg base "lowest" "lowest" sLow 2 ["top", "bottom"] spLow := by
  refine okk ["top", "bottom", "divisor"] fun H Q nd hr h => ?_
  obtain ⟨a, b, rfl, ha, hb, hz, k⟩ := h
  refine ⟨_, (psq 2 nd (pcl C_Gcd hr (pa_cons (pv 0) (pa1 (pv 1))))
    (pss_one (ps_ret (pe_tup (pa_cons (pe_op op_fdivC (pv 0) (pv 2)) (pa1 (pe_op op_fdivC (pv 1) (pv 2)))))))), ?_⟩
  have g0 : 0 < gI a b := gI_pos hb
  have g1 : gI a b < 2 ^ 200 * 2 ^ 200 := Int.lt_of_le_of_lt (gI_le hb) hz
  refine ⟨_, rfl, _, rfl, a, b, rfl, ha, by omega, ?_⟩
  refine ⟨_, rfl, _, rfl, _, _, rfl, rfl, ⟨g0, g1⟩, _, rfl, _, rfl, _, _, rfl, rfl, ⟨g0, g1⟩, by show 2 ≤ sizeLine; decide, fun p hp => k p hp⟩
theorem ok_Times (C_Low : Cl P w K mg base 2 spLow "lowest") : Okk P w K mg base "times" "times" sTimes 3 ["one", "other"] spTimes := by
  refine okk ["one", "other"] fun H Q nd hr h => ?_
  obtain ⟨p, q, a, b, c, d, rfl, hp, hq, ha, hb, hc, hd, b1, d1, k⟩ := h
  refine ⟨_, (pss_one (ps_ret (pcl C_Low hr (pa_cons (pe_op op_mulB (pix ix_tup (pv 0) pe_int) (pix ix_tup (pv 1) pe_int)) (pa1 (pe_op op_mulB (pix ix_tup (pv 0) pe_int) (pix ix_tup (pv 1) pe_int))))))), ?_⟩
  have m1 := mul_bd ha.1 ha.2 hc.1 hc.2
  have m2 := mul_bd hb.1 hb.2 hd.1 hd.2
  have m3 : 1 ≤ b * d := by have := Int.mul_pos (show 0 < b by omega) (show 0 < d by omega); omega
  refine ⟨_, rfl, p, _, _, _, rfl, rfl, SqT.of hp, ix0 a b, _, rfl, q, _, _, _, rfl, rfl, SqT.of hq, ix0 c d, _, _, rfl, rfl, ⟨ha.below, hc.below⟩, ?_⟩
  refine ⟨_, rfl, p, _, _, _, rfl, rfl, SqT.of hp, ix1 a b, _, rfl, q, _, _, _, rfl, rfl, SqT.of hq, ix1 c d, _, _, rfl, rfl, ⟨hb.below, hd.below⟩, ?_⟩
  exact ⟨_, _, rfl, m1.1, m3, Int.lt_trans m2.2 (by decide), k⟩
theorem ok_Minus (C_Low : Cl P w K mg base 2 spLow "lowest") : Okk P w K mg base "minus" "minus" sMinus 3 ["one", "other"] spMinus := by
  refine okk ["one", "other"] fun H Q nd hr h => ?_
  obtain ⟨p, q, a, b, c, d, rfl, hp, hq, ha, hb, hc, hd, b1, d1, hle, k⟩ := h
  refine ⟨_, (pss_one (ps_ret (pcl C_Low hr (pa_cons (pe_op op_sub (pe_op op_mulB (pix ix_tup (pv 0) pe_int) (pix ix_tup (pv 1) pe_int)) (pe_op op_mulB (pix ix_tup (pv 1) pe_int) (pix ix_tup (pv 0) pe_int))) (pa1 (pe_op op_mulB (pix ix_tup (pv 0) pe_int) (pix ix_tup (pv 1) pe_int))))))), ?_⟩
  have m2 := mul_bd hb.1 hb.2 hd.1 hd.2
  have m3 : 1 ≤ b * d := by have := Int.mul_pos (show 0 < b by omega) (show 0 < d by omega); omega
  refine ⟨_, rfl, p, _, _, _, rfl, rfl, SqT.of hp, ix0 a b, _, rfl, q, _, _, _, rfl, rfl, SqT.of hq, ix1 c d, _, _, rfl, rfl, ⟨ha.below, hd.below⟩, ?_⟩
  refine ⟨_, rfl, q, _, _, _, rfl, rfl, SqT.of hq, ix0 c d, _, rfl, p, _, _, _, rfl, rfl, SqT.of hp, ix1 a b, _, _, rfl, rfl, ⟨hc.below, hb.below⟩, _, _, rfl, rfl, ?_⟩
  refine ⟨_, rfl, p, _, _, _, rfl, rfl, SqT.of hp, ix1 a b, _, rfl, q, _, _, _, rfl, rfl, SqT.of hq, ix1 c d, _, _, rfl, rfl, ⟨hb.below, hd.below⟩, ?_⟩
  exact ⟨_, _, rfl, by omega, m3, Int.lt_trans m2.2 (by decide), k⟩
theorem ok_Pow (m_range : mg "range" = none) : Okk P w K mg base "power" "power" sPow 1 ["one", "k"] spPow40 := by
  refine okk ["one", "k", "top", "bottom", "step"] fun H Q nd hr h => ?_
  obtain ⟨p, a, b, n, rfl, hp, a0, a9, b0, b9, n0, n1, k⟩ := h
  refine ⟨_, (psq 2 nd pe_int
    (psq 3 nd pe_int
    (pss_cons (pfr (pi_range1 (by rfl) m_range (pa1 (pv 1))) (pgn 4 nd)
    (psq 2 nd (pe_op op_mulX (pv 2) (pix ix_tup (pv 0) pe_int))
    (pss_one (psz 3 nd (pe_op op_mulX (pv 3) (pix ix_tup (pv 0) pe_int))))))
    (pss_one (ps_ret (pe_tup (pa_cons (pv 2) (pa1 (pv 3))))))))), ?_⟩
  refine ⟨_, rfl, _, rfl, by omega, by omega, for_range (n := n.toNat) (fun i σ H1 => H1 = H ∧ ∃ v, σ = [some (.ref p), some (.int n), some (.int (a ^ i)), some (.int (b ^ i)), v])
    ⟨rfl, none, by rw [Int.pow_zero, Int.pow_zero]; rfl⟩ ?_ ?_⟩
  · rintro i σ H1 hi ⟨rfl, v, rfl⟩
    have ha : Bits 4 a := Bits.of a0 (by omega)
    have hb : Bits 4 b := Bits.of b0 (by omega)
    refine ⟨_, rfl, _, rfl, p, _, _, _, rfl, rfl, SqT.of hp, ix0 a b, _, _, rfl, rfl, ⟨4 * i + 1, 4, Bits.pow ha i, ha, by omega, by decide⟩, ?_⟩
    refine ⟨_, rfl, _, rfl, p, _, _, _, rfl, rfl, SqT.of hp, ix1 a b, _, _, rfl, rfl, ⟨4 * i + 1, 4, Bits.pow hb i, hb, by omega, by decide⟩, ?_⟩
    refine ⟨rfl, some (.int (0 + (i : Int))), ?_⟩
    rw [Int.pow_succ, Int.pow_succ]
    rfl
  · rintro σ H1 ⟨rfl, v, rfl⟩
    exact ⟨_, rfl, _, rfl, by show 2 ≤ sizeLine; decide, fun r hr' => k r hr'⟩
theorem ok_Share (C_Times : Cl P w K mg base 3 spTimes "times") (C_Pow : Cl P w K mg base 1 spPow40 "power") (m_abs : mg "abs" = none) : Okk P w K mg base "share_of" "share_of" sShare 4 ["steepness", "k"] (spFr (-21) 21 (fun p q k => shN p q k.natAbs) (fun p q k => shD p q k.natAbs)) := by
  refine okk ["steepness", "k", "top", "bottom"] fun H Q nd hr h => ?_
  obtain ⟨st, p, q, n, rfl, hst, hs, n0, n1, k⟩ := h
  refine ⟨_, (psq 2 nd (pix ix_tup (pv 0) pe_int)
    (psq 3 nd (pix ix_tup (pv 0) pe_int)
    (pss_one (ps_ret (pcl C_Times hr (pa_cons (pe_tup (pa_cons (pe_op op_sub (pv 3) (pv 2)) (pa1 (pe_op op_add (pv 3) (pv 2))))) (pa1 (pcl C_Pow hr (pa_cons (pv 0) (pa1 (pcb call_abs m_abs PyProof.Rows.boot_abs (pa1 (pv 1))))))))))))), ?_⟩
  obtain ⟨p1, pq, q9⟩ := id hs
  refine ⟨_, rfl, st, _, _, _, rfl, rfl, SqT.of hst, ix0 p q, _, rfl, st, _, _, _, rfl, rfl, SqT.of hst, ix1 p q, ?_⟩
  refine ⟨_, rfl, _, rfl, _, _, rfl, rfl, _, rfl, _, rfl, _, _, rfl, rfl, by show 2 ≤ sizeLine; decide, fun t ht => ?_⟩
  have g1 : Same H (upd H t (.tup [.int (q - p), .int (q + p)])) := same_new ht _
  have ht1 : TupAt (upd H t (.tup [.int (q - p), .int (q + p)])) t (q - p) (q + p) := upd_same
  generalize upd H t (.tup [.int (q - p), .int (q + p)]) = H1 at g1 ht1 ⊢
  have ea : (if n < 0 then -n else n) = (n.natAbs : Int) := by split <;> omega
  refine ⟨_, rfl, _, rfl, _, rfl, st, p, q, _, rfl, g1 _ _ hst, by omega, by omega, by omega, by omega, by rw [ea]; omega, by rw [ea]; omega, fun r hr' => ?_⟩
  rw [ea, Int.toNat_natCast]
  have g2 : Same H1 (upd H1 r (.tup [.int (p ^ n.natAbs), .int (q ^ n.natAbs)])) := same_new hr' _
  have hr2 : TupAt (upd H1 r (.tup [.int (p ^ n.natAbs), .int (q ^ n.natAbs)])) r (p ^ n.natAbs) (q ^ n.natAbs) := upd_same
  generalize upd H1 r (.tup [.int (p ^ n.natAbs), .int (q ^ n.natAbs)]) = H2 at g2 hr2 ⊢
  have e1 := pow9 (a := p) (n := n.natAbs) (by omega) (by omega) (by omega)
  have e2 := pow9 (a := q) (n := n.natAbs) (by omega) (by omega) (by omega)
  have e3 : 1 ≤ q ^ n.natAbs := by have : (0 : Int) < q ^ n.natAbs := Int.pow_pos (by omega); omega
  refine ⟨t, r, _, _, _, _, rfl, g2 _ _ ht1, hr2, ⟨by omega, by omega⟩, ⟨by omega, by omega⟩, ⟨e1.1, by omega⟩, ⟨e2.1, by omega⟩, by omega, e3, fun u hu' => ?_⟩
  exact k _ u (g1.trans (g2.trans (same_new hu' _))) upd_same
theorem ok_Far (C_Times : Cl P w K mg base 3 spTimes "times") (C_Pow : Cl P w K mg base 1 spPow40 "power") : Okk P w K mg base "far_tail" "far_tail" sFar 4 ["steepness", "k"] (spFr 0 21 (fun p q k => tlN p q k.toNat) (fun p q k => shD p q k.toNat)) := by
  refine okk ["steepness", "k"] fun H Q nd hr h => ?_
  obtain ⟨st, p, q, n, rfl, hst, hs, n0, n1, k⟩ := h
  refine ⟨_, (pss_one (ps_ret (pcl C_Times hr (pa_cons (pe_tup (pa_cons (pix ix_tup (pv 0) pe_int) (pa1 (pe_op op_add (pix ix_tup (pv 0) pe_int) (pix ix_tup (pv 0) pe_int))))) (pa1 (pcl C_Pow hr (pa_cons (pv 0) (pa1 (pv 1))))))))), ?_⟩
  obtain ⟨p1, pq, q9⟩ := id hs
  refine ⟨_, rfl, st, _, _, _, rfl, rfl, SqT.of hst, ix1 p q, _, rfl, st, _, _, _, rfl, rfl, SqT.of hst, ix1 p q, _, rfl, st, _, _, _, rfl, rfl, SqT.of hst, ix0 p q, _, _, rfl, rfl, by show 2 ≤ sizeLine; decide, fun t ht => ?_⟩
  have g1 : Same H (upd H t (.tup [.int q, .int (q + p)])) := same_new ht _
  have ht1 : TupAt (upd H t (.tup [.int q, .int (q + p)])) t q (q + p) := upd_same
  generalize upd H t (.tup [.int q, .int (q + p)]) = H1 at g1 ht1 ⊢
  refine ⟨_, rfl, _, rfl, st, p, q, n, rfl, g1 _ _ hst, by omega, by omega, by omega, by omega, n0, by omega, fun r hr' => ?_⟩
  have g2 : Same H1 (upd H1 r (.tup [.int (p ^ n.toNat), .int (q ^ n.toNat)])) := same_new hr' _
  have hr2 : TupAt (upd H1 r (.tup [.int (p ^ n.toNat), .int (q ^ n.toNat)])) r (p ^ n.toNat) (q ^ n.toNat) := upd_same
  generalize upd H1 r (.tup [.int (p ^ n.toNat), .int (q ^ n.toNat)]) = H2 at g2 hr2 ⊢
  have e1 := pow9 (a := p) (n := n.toNat) (by omega) (by omega) (by omega)
  have e2 := pow9 (a := q) (n := n.toNat) (by omega) (by omega) (by omega)
  have e3 : 1 ≤ q ^ n.toNat := by have : (0 : Int) < q ^ n.toNat := Int.pow_pos (by omega); omega
  refine ⟨t, r, _, _, _, _, rfl, g2 _ _ ht1, hr2, ⟨by omega, by omega⟩, ⟨by omega, by omega⟩, ⟨e1.1, by omega⟩, ⟨e2.1, by omega⟩, by omega, e3, fun u hu' => ?_⟩
  exact k _ u (g1.trans (g2.trans (same_new hu' _))) upd_same
theorem ok_Tail (C_Minus : Cl P w K mg base 3 spMinus "minus") (C_Far : Cl P w K mg base 4 (spFr 0 21 (fun p q k => tlN p q k.toNat) (fun p q k => shD p q k.toNat)) "far_tail") : Okk P w K mg base "tail_of" "tail_of" sTail 5 ["steepness", "k"] (spFr (-20) 21 tN tD) := by
  refine okk ["steepness", "k"] fun H Q nd hr h => ?_
  obtain ⟨st, p, q, n, rfl, hst, hs, n0, n1, k⟩ := h
  refine ⟨_, (pss_cons (ps_if (ptc op_ge (pv 1) pe_int) (pss_one (ps_ret (pcl C_Far hr (pa_cons (pv 0) (pa1 (pv 1)))))) pss_nil)
    (pss_one (ps_ret (pcl C_Minus hr (pa_cons (pe_tup (pa_cons pe_int (pa1 pe_int))) (pa1 (pcl C_Far hr (pa_cons (pv 0) (pa1 (pe_op op_sub pe_int (pv 1))))))))))), ?_⟩
  obtain ⟨p1, pq, q9⟩ := id hs
  refine ⟨_, rfl, _, _, rfl, rfl, _, rfl, ?_⟩
  refine ite2 (fun c => ?_) (fun c => ?_)
  · have c0 : 0 ≤ n := of_decide_eq_true c
    refine ⟨_, rfl, _, rfl, st, p, q, n, rfl, hst, hs, c0, n1, fun H' r s t => k H' r s ?_⟩
    unfold tN tD
    simp only [if_pos c0]
    exact t
  · have c0 : ¬ 0 ≤ n := fun z => c (decide_eq_true z)
    refine ⟨by show 2 ≤ sizeLine; decide, fun t ht => ?_⟩
    have g1 : Same H (upd H t (.tup [.int 1, .int 1])) := same_new ht _
    have ht1 : TupAt (upd H t (.tup [.int 1, .int 1])) t 1 1 := upd_same
    generalize upd H t (.tup [.int 1, .int 1]) = H1 at g1 ht1 ⊢
    refine ⟨_, rfl, _, rfl, _, _, rfl, rfl, st, p, q, 1 - n, rfl, g1 _ _ hst, hs, by omega, by omega, fun H2 r g2 hr2' => ?_⟩
    have hr2 : TupAt H2 r (low1 (tlN p q (1 - n).toNat) (shD p q (1 - n).toNat)) (low2 (tlN p q (1 - n).toNat) (shD p q (1 - n).toNat)) := hr2'
    have bd := sh_bd hs (n := (1 - n).toNat) (by omega)
    have sp := shD_pos p1 pq (1 - n).toNat
    have lb := low_bd bd.2.2 bd.2.1 sp
    have l1 := low2_pos (a := tlN p q (1 - n).toNat) sp
    have l2 := low_le (tl_le p1 pq (1 - n).toNat) sp
    refine ⟨t, r, 1, 1, _, _, rfl, g2 _ _ ht1, hr2, ⟨by decide, by decide⟩, ⟨by decide, by decide⟩, lb.1, lb.2, by decide, l1, by omega, fun u hu' => ?_⟩
    refine k _ u (g1.trans (g2.trans (same_new hu' _))) ?_
    have rt := low_ratio (a := tlN p q (1 - n).toNat) (b := shD p q (1 - n).toNat) bd.2.2.1 sp
    have e := low_eq (a := 1 * low2 (tlN p q (1 - n).toNat) (shD p q (1 - n).toNat) - low1 (tlN p q (1 - n).toNat) (shD p q (1 - n).toNat) * 1) (b := 1 * low2 (tlN p q (1 - n).toNat) (shD p q (1 - n).toNat))
      (c := shD p q (1 - n).toNat - tlN p q (1 - n).toNat) (d := shD p q (1 - n).toNat) (by omega) (by omega) (by have := tl_le p1 pq (1 - n).toNat; omega) sp (by
        generalize low2 (tlN p q (1 - n).toNat) (shD p q (1 - n).toNat) = y at rt ⊢
        generalize low1 (tlN p q (1 - n).toNat) (shD p q (1 - n).toNat) = x at rt ⊢
        grind)
    unfold tN tD
    simp only [if_neg c0]
    rw [← e.1, ← e.2]
    exact upd_same
end
end Mine
namespace Mine
open PySem L2
section
variable {P : Program} {w : World} {K : PySem.W.Frag} {mg : Str → Option Value} {base : Heap}
theorem ok_Pai {cL : Addr} (T : LyT K cL) (MK : MkL P w K mg base 3 (spIniL K cL) cL "Laying") (C_Com : Cl P w K mg base 2 (spCom K) "common_bottom") (C_Lal : Cl P w K mg base 3 (spLayAll cL) "lay_all") (C_Ams : Cl P w K mg base 2 (spAms K) "amounts_of") (C_Amt : Cl P w K mg base 1 spAmt "amount_of") (C_Times : Cl P w K mg base 3 spTimes "times") (C_Low : Cl P w K mg base 2 spLow "lowest") (m_sum : mg "sum" = none) (m_tuple : mg "tuple" = none) (m_dict : mg "dict" = none) (m_list : mg "list" = none) : Okk P w K mg base "paired" "paired" sPai 5 ["one", "other", "pairs", "factor", "rest"] (spPair K) := by
  refine okk ["one", "other", "pairs", "factor", "rest", "limits", "bottom", "laying", "reached", "laid"] fun H Q nd hr h => ?_
  obtain ⟨p1, p2, p3, p4, p5, ws1, ws2, ws3, es1, es2, prs, fac, M, rfl, h1, t1, h2, t2, h3, t3, h4, h5, O, full, k⟩ := h
  have hu := hu_of hr
  have hr1 : Room 1 _ := hr.mono (by decide)
  have hr2 : Room 2 _ := hr.mono (by decide)
  refine ⟨_, (pss_cons (ps_setC ["y", "share", "factor"] [none, none, some 3] (i := 5) nd rfl (Or.inl rfl) (pi_tup (pv 1)) (fun _ _ _ _ => (pgtK K (n := 2) rfl (pgs_cons (pgn 0) (pgs_cons (pgn 1) pgs_nil)))) (fun _ _ _ _ => pf_nil) (fun _ _ _ _ => (pe_tup (pa_cons (pv 0) (pa1 (pcl C_Times hr (pa_cons (pv 2) (pa1 (pv 1)))))))))
    (psq 6 nd (pcl C_Com hr (pa1 (pe_op op_cat (pe_comp ["answer", "share"] [none, none] (pi_list (pe_op op_cat (pct call_list_of m_list PyProof.Rows.boot_list (pa1 (pv 0))) (pv 5))) (fun _ _ _ _ => (pgtK K (n := 2) rfl (pgs_cons (pgn 0) (pgs_cons (pgn 1) pgs_nil)))) (fun _ _ _ _ => pf_nil) (fun _ _ _ _ => (pv 1))) (pe_lst (pa1 (pv 4))))))
    (psq 7 nd (pml MK hr (pa_cons (pcl C_Ams hr (pa_cons (pv 0) (pa1 (pv 6)))) (pa_cons (pcl C_Ams hr (pa_cons (pv 5) (pa1 (pv 6)))) (pa1 (pv 2)))))
    (psq 8 nd (pcl C_Lal hr (pa1 (pv 7)))
    (pss_cons (ps_if (ptc op_le (pcb call_sumV m_sum PyProof.Rows.boot_sum (pa1 (pe_vals (pe_fld (pv 7) rfl)))) (pcl C_Amt hr (pa_cons (pv 4) (pa1 (pv 6))))) (psq 9 nd (pe_fld (pv 7) rfl)
    (pss_one (ps_ret (pe_tup (pa_cons pe_str (pa1 (pct (call_dictL hr1) m_dict PyProof.Rows.boot_dict (pa1 (pe_comp ["pair", "bottom", "laid"] [none, some 6, some 9] (pi_tup (pv 2)) (fun _ _ _ _ => (pgn 0)) (fun _ _ _ _ => (pf_one (ptc op_gt (pdg hu (pv 2) (pv 0)) pe_int))) (fun _ _ _ _ => (pe_tup (pa_cons (pv 0) (pa1 (pcl C_Low hr (pa_cons (pdg hu (pv 2) (pv 0)) (pa1 (pv 1))))))))))))))))) pss_nil)
    pss_never))))), ?_⟩
  have la := fun a b g v d => ly_at a b g v d
  obtain ⟨b1, bM, b3, bd1, bd2⟩ := O.bot
  have l1 := t1.length
  have l2 := t2.length
  have z1 := O.ly.zk
  have z2 := O.ly.zq
  have z3 := O.ly.zp
  rw [List.length_map] at z1 z2
  refine ⟨_, rfl, p2, rfl, ⟨_, SqT.of h2⟩, comp_tup (xs := ws2) (fun i ys σ G => Same H G ∧ (∃ v1 v2, σ = [v1, v2, some (.ref p4)]) ∧ Two (Ent G) ys ((es2.take i).map (limE fac))) (small1000 (by omega)) ⟨Same.refl _, ⟨_, _, rfl⟩, trivial⟩ (by rintro i ys σ G ⟨_, _, t⟩; rw [t.length, List.length_map, List.length_take]; omega) (by rintro i ys σ G _ ⟨s, _⟩; exact SqT.of (s _ _ h2)) ?_ ?_⟩
  · rintro i u ys σ G hu ⟨s, ⟨v1, v2, rfl⟩, t⟩
    obtain ⟨e, he, c, q, rfl, w1, w2⟩ := t2.at hu
    have fe := O.oth e (List.mem_of_getElem? he)
    refine ⟨c, _, rfl, SqT.of (s _ _ w1), rfl, _, _, rfl, _, _, rfl, rfl, ?_⟩
    refine ⟨_, rfl, _, rfl, _, rfl, p4, q, _, _, _, _, rfl, s _ _ h4, s _ _ w2, O.fc.1, O.fc.2.1, fe.1, fe.2.1, O.fc.2.2, fe.2.2, fun r hr => ?_⟩
    refine ⟨by show 2 ≤ sizeLine; decide, fun r2 hr2 => ⟨s.trans ((same_new hr _).trans (same_new hr2 _)), ⟨_, _, rfl⟩, ?_⟩⟩
    rw [take_snoc he, List.map_append]
    exact Two.append (t.mono fun _ _ z => z.ts (TS.of ((same_new hr _).trans (same_new hr2 _)))) ⟨⟨r2, r, rfl, upd_same, same_new hr2 _ _ _ upd_same⟩, trivial⟩
  rintro lws σ G ⟨s, _, t⟩ lm hlm
  rw [l2, List.take_length] at t
  change Two (Ent G) lws (lims fac es2) at t
  have s1 := s.trans (same_new hlm (.lst lws))
  have tl := t.mono fun _ _ z => z.ts (TS.of (same_new hlm (.lst lws)))
  have hl : upd G lm (.lst lws) lm = some (.lst lws) := upd_same
  generalize upd G lm (.lst lws) = H1 at s1 tl hl ⊢
  clear t s hlm
  have ll := tl.length
  have lz : (lims fac es2).length = es2.length := List.length_map ..
  refine ⟨_, rfl, p1, ws1, rfl, .inr (SqT.of (s1 _ _ h1)), fun c1 hc1 => ?_⟩
  refine ⟨_, rfl, c1, lm, _, _, rfl, rfl, upd_same, same_new hc1 _ _ _ hl, Nat.le_of_lt (small1000 (by omega)), fun c2 hc2 => ?_⟩
  have s2 : Same H1 (upd (upd H1 c1 (.lst ws1)) c2 (.lst (ws1 ++ lws))) := (same_new hc1 _).trans (same_new hc2 _)
  have g2 : upd (upd H1 c1 (.lst ws1)) c2 (.lst (ws1 ++ lws)) c2 = some (.lst (ws1 ++ lws)) := upd_same
  generalize upd (upd H1 c1 (.lst ws1)) c2 (.lst (ws1 ++ lws)) = H2 at s2 g2 ⊢
  clear hc1 hc2
  have ta : Two (Ent H2) (ws1 ++ lws) (es1 ++ lims fac es2) := Two.append (t1.mono fun _ _ z => z.ts (TS.of (s1.trans s2))) (tl.mono fun _ _ z => z.ts (TS.of s2))
  have lta := ta.length
  rw [List.length_append, List.length_append] at lta
  refine ⟨c2, rfl, ⟨_, SqL.of g2⟩, comp_list (xs := ws1 ++ lws) (fun i ys σ G => Same H2 G ∧ (∃ v1 v2, σ = [v1, v2]) ∧ Two (FrE G) ys (((es1 ++ lims fac es2).take i).map (·.2))) (small1000 (by rw [List.length_append]; omega)) ⟨Same.refl _, ⟨_, _, rfl⟩, trivial⟩ (by rintro i ys σ G ⟨_, _, t⟩; rw [t.length, List.length_map, List.length_take]; omega) (by rintro i ys σ G _ ⟨s, _⟩; exact SqL.of (s _ _ g2)) ?_ ?_⟩
  · rintro i u ys σ G hu ⟨s, ⟨v1, v2, rfl⟩, t⟩
    obtain ⟨e, he, c, q, rfl, w1, w2⟩ := ta.at hu
    refine ⟨c, _, rfl, SqT.of (s _ _ w1), rfl, _, _, rfl, _, _, rfl, rfl, ?_⟩
    refine ⟨_, rfl, s, ⟨_, _, rfl⟩, ?_⟩
    rw [take_snoc he, List.map_append]
    exact Two.append t ⟨⟨q, rfl, s _ _ w2⟩, trivial⟩
  rintro ys σ G ⟨s, _, t⟩ c3 hc3
  have ly := t.length
  rw [List.length_append, lta, ← List.length_append, List.take_length] at t
  refine ⟨_, rfl, by show 1 ≤ sizeLine; decide, fun c4 hc4 => ⟨c3, c4, _, _, rfl, rfl, same_new hc4 _ _ _ upd_same, upd_same, ?_, fun c5 hc5 => ?_⟩⟩
  · rw [t.length, List.length_map, List.length_append]
    exact Nat.le_of_lt (small1000 (by show _ + 1 ≤ 1000; omega))
  have s3 : Same G (upd (upd (upd G c3 (.lst ys)) c4 (.lst [.ref p5])) c5 (.lst (ys ++ [.ref p5]))) := ((same_new hc3 _).trans (same_new hc4 _)).trans (same_new hc5 _)
  have g3 : upd (upd (upd G c3 (.lst ys)) c4 (.lst [.ref p5])) c5 (.lst (ys ++ [.ref p5])) c5 = some (.lst (ys ++ [.ref p5])) := upd_same
  generalize upd (upd (upd G c3 (.lst ys)) c4 (.lst [.ref p5])) c5 (.lst (ys ++ [.ref p5])) = H3 at s3 g3 ⊢
  clear hc3 hc4 hc5
  have s13 : Same H1 H3 := (s2.trans s).trans s3
  have s03 : Same H H3 := s1.trans s13
  have t3' : Two (FrE H3) (ys ++ [.ref p5]) ((es1 ++ lims fac es2).map (·.2) ++ [(0, 1)]) := Two.append (t.mono fun _ _ ⟨q, e1, e2⟩ => ⟨q, e1, s3 _ _ e2⟩) ⟨⟨p5, rfl, s03 _ _ h5⟩, trivial⟩
  refine ⟨c5, _, _, M, rfl, SqL.of g3, t3', fun u hu => (O.fr u hu).1, fun u hu => (O.fr u hu).2, O.m1, bits400 (by have := O.m1; omega) O.mb, ?_⟩
  change (tSeq _ _) _ _ _
  generalize eb : lcmL ((es1 ++ lims fac es2).map (·.2) ++ [((0 : Int), (1 : Int))]) = bt
  have eb : botP es1 es2 fac = bt := eb
  rw [eb] at b1 b3
  have A1 := O.am1
  have A2 := O.am2
  rw [eb] at A1 A2
  refine ⟨_, rfl, _, rfl, p1, ws1, es1, bt, rfl, .inr (SqT.of (s03 _ _ h1)), t1.mono (fun _ _ z => z.ts (TS.of s03)), A1, fun H4 a s4 ha0 ha => ?_⟩
  refine ⟨_, rfl, _, rfl, lm, lws, lims fac es2, bt, rfl, .inl (SqL.of (s4 _ _ (s13 _ _ hl))), tl.mono (fun _ _ z => z.ts (TS.of (s13.trans s4))), A2, fun H5 bb s5 hb0 hb => ?_⟩
  rw [lims_keys] at hb
  refine ⟨_, rfl, fun x dx hx hdx ndx => ?_⟩
  have s05 := (s03.trans s4).trans s5
  have hx' : upd H5 dx (.own x) x = none := by rw [upd_ne ndx.symm]; exact hx
  have s6 : Same H5 (upd (upd H5 dx (.own x)) x (.ins cL dx [])) := (same_new hdx _).trans (same_new hx' _)
  refine ⟨x, a, bb, p3, dx, ws3, prs, _, _, _, _, rfl, upd_same, s6 _ _ (s5 _ _ ha), s6 _ _ hb, ne_of_none ha hb0, s6 _ _ (s05 _ _ h3), t3.same (s05.trans s6), O.ly.nd, O.ly.zp, fun H6 g v d ox hd Y => ⟨rfl, ?_⟩⟩
  have s56 : Same H5 H6 := fun c o e => ox c o (ne_of_none e hx) (s6 c o e)
  have hd5 := s6.free hd
  clear s6 hx' hd
  have fl := O.fl
  have Y : LyH cL H6 x a bb g v d prs (es1.map (·.1)) (es2.map (·.1)) (lay0 es1 es2 fac) := by unfold lay0; rw [eb]; exact Y
  refine ⟨_, rfl, x, a, bb, g, v, d, prs, _, _, lay0 es1 es2 fac, _, _, (sumO (es1.map (·.1)) (lay0 es1 es2 fac)).toNat, rfl, Y, O.ly, fl, by have := sumO_nn fl.o; omega, fun H7 dA o7 Y7 hA => ?_⟩
  change LyH cL H7 x a bb g v d prs (es1.map (·.1)) (es2.map (·.1)) (finP prs es1 es2 fac).1 at Y7
  have s07 : Same H H7 := fun c o e => o7 c o (ne_of_none (s03 _ _ e) ha0) (ne_of_none (s4 _ _ (s03 _ _ e)) hb0) (ne_of_none (s05 _ _ e) hd5) (s56 _ _ (s05 _ _ e))
  clear hA o7 Y s56 ox
  obtain ⟨dx7, hx7⟩ := Y7.ob
  have la := ly_at a bb g v d
  have F := O.end_.1
  have efr : ∀ e, fracP prs es1 es2 fac e = lowP ((finP prs es1 es2 fac).1.l e) bt := fun e => by unfold fracP; rw [eb]
  have eli : liveP prs es1 es2 fac = prs.filter fun e => decide (0 < (finP prs es1 es2 fac).1.l e) := rfl
  generalize liveP prs es1 es2 fac = lv at eli k
  generalize fracP prs es1 es2 fac = fr at efr k
  generalize (finP prs es1 es2 fac).1 = S at Y7 F full efr eli
  refine ⟨_, rfl, x, cL, dx7, _, _, rfl, hx7, T.cl, T.n1, la.1, a, _, rfl, .inl Y7.o, fun vv hvv => ⟨vv, a, _, (es1.map (·.1)).map S.o, rfl, upd_same, .inl (same_new hvv _ _ _ Y7.o), by unfold intD; simp [List.map_map, Function.comp_def], ?_⟩⟩
  have s78 := same_new hvv (valsO vv a)
  have s08 := s07.trans s78
  have Y8 := Y7.same s78
  have hx8 := s78 _ _ hx7
  generalize upd H7 vv (valsO vv a) = H8 at s78 s08 Y8 hx8 ⊢
  clear hvv s78
  refine ⟨_, rfl, _, rfl, p5, (0, 1), bt, rfl, s08 _ _ h5, by decide, bits_of (m := 1) (by decide) (by decide) (by decide), bits_of (m := 1) (by decide) (by decide) (by decide), by omega, bits400 (by omega) b3, _, _, rfl, rfl, _, rfl, iteP (decide_eq_true (by show _ ≤ 0 * (bt / 1); rw [Int.zero_mul]; exact full)) ?_⟩
  refine ⟨_, rfl, x, cL, dx7, _, _, rfl, hx8, T.cl, T.n5, la.2.2.2.2, ?_⟩
  have lw := t3.length
  refine ⟨_, rfl, p3, rfl, ⟨_, SqT.of (s08 _ _ h3)⟩, comp_tup (xs := ws3) (fun i ys σ G => Same H8 G ∧ (∃ v1, σ = [v1, some (.int bt), some (.ref d)]) ∧ ∃ zs, Two (PgE G) ys zs ∧ zs.map (·.1) = (prs.take i).filter (fun e => decide (0 < S.l e)) ∧ ∀ z ∈ zs, TupAt G z.2 (fr z.1).1 (fr z.1).2) (small1000 (by omega)) ⟨Same.refl _, ⟨_, rfl⟩, [], trivial, rfl, fun _ z => absurd z List.not_mem_nil⟩ (by rintro i ys σ G ⟨_, _, zs, t, e, _⟩; have := congrArg List.length e; rw [List.length_map] at this; rw [t.length, this]; exact Nat.le_trans (List.length_filter_le _ _) (by rw [List.length_take]; omega)) (by rintro i ys σ G _ ⟨s, _⟩; exact SqT.of (s _ _ (s08 _ _ h3))) ?_ ?_⟩
  · rintro i u ys σ G hu ⟨s, ⟨v1, rfl⟩, zs, t, ez, fz⟩
    obtain ⟨c, y, z, rfl, hc, hi⟩ := prs_at t3 hu
    have me := List.mem_of_getElem? hi
    have dl {G' : Hp} (s' : Same H8 G') : DGet G' d (.ref c) (some (.int (S.l (y, z)))) := by
      have dl := DGet.t (k := [Sum.inl y, Sum.inl z]) (s' _ _ Y8.l) (s' _ _ (s08 _ _ hc))
      rw [show valV (prD prs S.l) [Sum.inl y, Sum.inl z] = some (.int (S.l (y, z))) from prD_val me] at dl
      exact dl
    refine ⟨_, rfl, _, rfl, d, _, rfl, dl s, _, _, rfl, rfl, _, rfl, ?_⟩
    rw [take_snoc hi, List.filter_append]
    by_cases c0 : 0 < S.l (y, z)
    · refine iteP (by simpa using c0) ⟨_, rfl, _, rfl, _, rfl, d, _, rfl, dl s, _, rfl, _, _, rfl, by omega, b1, b3, fun r hr => ⟨by show 2 ≤ sizeLine; decide, fun r2 hr2 => ?_⟩⟩
      have sn : Same G (upd (upd G r (.tup (lowI (S.l (y, z)) bt))) r2 (.tup [.ref c, .ref r])) := (same_new hr _).trans (same_new hr2 _)
      have gr : upd (upd G r (.tup (lowI (S.l (y, z)) bt))) r2 (.tup [.ref c, .ref r]) r = some (.tup (lowI (S.l (y, z)) bt)) := same_new hr2 _ _ _ upd_same
      have gr2 : upd (upd G r (.tup (lowI (S.l (y, z)) bt))) r2 (.tup [.ref c, .ref r]) r2 = some (.tup [.ref c, .ref r]) := upd_same
      generalize upd (upd G r (.tup (lowI (S.l (y, z)) bt))) r2 (.tup [.ref c, .ref r]) = G2 at sn gr gr2 ⊢
      rw [List.filter_cons_of_pos (by simpa using c0)]
      refine ⟨s.trans sn, ⟨_, rfl⟩, zs ++ [((y, z), r)], Two.append (t.mono fun _ _ ⟨c, w0, w1, w2, w3⟩ => ⟨c, w0, w1, sn _ _ w2, sn _ _ w3⟩) ⟨⟨r2, c, rfl, gr2, sn _ _ (s _ _ (s08 _ _ hc))⟩, trivial⟩, by rw [List.map_append, ez]; rfl, fun z' hz' => ?_⟩
      rcases List.mem_append.mp hz' with q | q
      · exact sn _ _ (fz z' q)
      · rw [List.mem_singleton.mp q]
        unfold TupAt
        rw [efr]
        exact gr
    · refine iteN (by simpa using c0) ⟨s, ⟨_, rfl⟩, zs, t, ?_, fz⟩
      rw [List.filter_cons_of_neg (by simpa using c0), List.filter_nil, List.append_nil]
      exact ez
  rintro ys' σ' G' ⟨s8, _, zs, tz, ez, fz⟩ l hl'
  rw [lw, List.take_length, ← eli] at ez
  have ndz : (zs.map (·.1)).Nodup := by rw [ez, eli]; exact O.ly.nd.sublist List.filter_sublist
  have lzs : zs.length ≤ 200 := by
    have := congrArg List.length ez
    rw [List.length_map, eli] at this
    rw [this]
    exact Nat.le_trans (List.length_filter_le _ _) z3
  refine ⟨l, ys', fun i => .dT (pgK (zs.take i)), rfl, upd_same, .inr rfl, fun D hD => ⟨pg_chain (tz.mono fun _ _ ⟨c, w0, w1, w2, w3⟩ => ⟨c, w0, w1, same_new hl' _ _ _ w2, same_new hl' _ _ _ w3⟩) ndz (small1000 (by omega)) hD, ?_⟩⟩
  rw [tz.length]
  dsimp only
  rw [List.take_length]
  refine ⟨by show 2 ≤ sizeLine; decide, fun r hr => ?_⟩
  have sD := ((same_new hl' (.lst ys')).trans (same_new hD (.dT (pgK zs)))).trans (same_new hr (.tup [.str "paired", .ref D]))
  exact k _ r D ((s08.trans s8).trans sD) (s08.free (s8.free ((same_new hl' _).free hD))) upd_same ⟨zs, same_new hr _ _ _ upd_same, ez, fun z hz => sD _ _ (fz z hz)⟩
end
end Mine
namespace Mine
open PySem L2
section
variable {P : Program} {w : World} {K : PySem.W.Frag} {mg : Str → Option Value} {base : Heap}
theorem ok_Cut (m_min : mg "min" = none) (m_max : mg "max" = none) : Okk P w K mg base "cut" "cut" sCut 1 ["number", "low", "high"] spCut := by
  refine okk ["number", "low", "high"] fun H Q nd hr h => ?_
  obtain ⟨n, lo, hi, rfl, k⟩ := h
  refine ⟨_, (pss_one (ps_ret (pcb (call_min2 rfl) m_min PyProof.Rows.boot_min (pa_cons (pcb (call_max2 rfl) m_max PyProof.Rows.boot_max (pa_cons (pv 0) (pa1 (pv 1)))) (pa1 (pv 2)))))), ?_⟩
  exact ⟨_, rfl, _, rfl, _, _, rfl, _, rfl, _, _, rfl, k⟩
theorem ok_Part (C_Cut : Cl P w K mg base 1 spCut "cut") (m_list : mg "list" = none) (m_range : mg "range" = none) : Okk P w K mg base "partners_of" "partners_of" sPart 2 ["rung", "low", "high", "s"] spPart := by
  refine okk ["rung", "low", "high", "s", "shifted"] fun H Q nd hr h => ?_
  obtain ⟨r, lo, hi, s, rfl, o, r0, r1, k⟩ := h
  refine ⟨_, (psq 4 nd (pcl C_Cut hr (pa_cons (pe_op op_add (pv 0) (pv 3)) (pa_cons (pv 1) (pa1 (pv 2)))))
    (pss_cons (ps_if (PW.pt (pw_and (ptc op_gt (pv 3) pe_int) (pw_and1 (ptc op_eq (pv 0) (pv 1))))) (pss_one (ps_ret (pe_listrng (by rfl) m_list (by rfl) m_range (pa_cons (pv 1) (pa1 (pe_op op_add (pv 4) pe_int)))))) pss_nil)
    (pss_cons (ps_if (PW.pt (pw_and (ptc op_lt (pv 3) pe_int) (pw_and1 (ptc op_eq (pv 0) (pv 2))))) (pss_one (ps_ret (pe_listrng (by rfl) m_list (by rfl) m_range (pa_cons (pv 4) (pa1 (pe_op op_add (pv 2) pe_int)))))) pss_nil)
    (pss_one (ps_ret (pe_lst (pa1 (pv 4)))))))), ?_⟩
  obtain ⟨o1, o2, o3, o4, o5⟩ := o
  have hc := cut_in (n := r + s) o2
  refine ⟨_, rfl, _, rfl, _, _, rfl, rfl, _, rfl, _, rfl, _, _, _, rfl, ?_⟩
  rcases Int.lt_trichotomy s 0 with c1 | c1 | c1
  · have n1 : ¬ (0 < s ∧ r = lo) := by omega
    refine ⟨_, rfl, _, _, rfl, rfl, _, rfl, ?_⟩
    refine iteN (by simp; omega) ?_
    refine iteF ?_
    refine ⟨_, rfl, _, _, rfl, rfl, _, rfl, ?_⟩
    refine iteP (by simp; omega) ?_
    refine ⟨_, rfl, _, rfl, rfl, _, rfl, ?_⟩
    by_cases c2 : r = hi
    · refine iteP (by simp [c2]) ?_
      refine ⟨_, rfl, _, rfl, _, _, rfl, rfl, _, _, rfl, ⟨by omega, by omega, by omega, by omega⟩, Nat.le_of_lt (small1000 (by omega)), fun l hl => ?_⟩
      have h := k l hl
      unfold partners at h
      rw [if_neg n1, if_pos ⟨c1, c2⟩] at h
      exact h
    · have n2 : ¬ (s < 0 ∧ r = hi) := by omega
      refine iteN (by simp [c2]) ?_
      refine ⟨_, rfl, by show 1 ≤ sizeLine; decide, fun l hl => ?_⟩
      have h := k l hl
      unfold partners at h
      rw [if_neg n1, if_neg n2] at h
      exact h
  · have n1 : ¬ (0 < s ∧ r = lo) := by omega
    have n2 : ¬ (s < 0 ∧ r = hi) := by omega
    refine ⟨_, rfl, _, _, rfl, rfl, _, rfl, ?_⟩
    refine iteN (by simp; omega) ?_
    refine iteF ?_
    refine ⟨_, rfl, _, _, rfl, rfl, _, rfl, ?_⟩
    refine iteN (by simp; omega) ?_
    refine iteF ?_
    refine ⟨_, rfl, by show 1 ≤ sizeLine; decide, fun l hl => ?_⟩
    have h := k l hl
    unfold partners at h
    rw [if_neg n1, if_neg n2] at h
    exact h
  · refine ⟨_, rfl, _, _, rfl, rfl, _, rfl, ?_⟩
    refine iteP (by simp; omega) ?_
    refine ⟨_, rfl, _, rfl, rfl, _, rfl, ?_⟩
    by_cases c2 : r = lo
    · refine iteP (by simp [c2]) ?_
      refine ⟨_, rfl, _, rfl, _, _, rfl, rfl, _, _, rfl, ⟨by omega, by omega, by omega, by omega⟩, Nat.le_of_lt (small1000 (by omega)), fun l hl => ?_⟩
      have h := k l hl
      unfold partners at h
      rw [if_pos ⟨c1, c2⟩] at h
      exact h
    · have n1 : ¬ (0 < s ∧ r = lo) := by omega
      have n2 : ¬ (s < 0 ∧ r = hi) := by omega
      refine iteN (by simp [c2]) ?_
      refine ⟨_, rfl, _, _, rfl, rfl, _, rfl, ?_⟩
      refine iteN (by simp; omega) ?_
      refine iteF ?_
      refine ⟨_, rfl, by show 1 ≤ sizeLine; decide, fun l hl => ?_⟩
      have h := k l hl
      unfold partners at h
      rw [if_neg n1, if_neg n2] at h
      exact h
theorem ok_May (C_Part : Cl P w K mg base 2 spPart "partners_of") (m_range : mg "range" = none) (m_tuple : mg "tuple" = none) : Okk P w K mg base "may_pair" "may_pair" sMay 3 ["low", "high", "s"] spMay := by
  refine okk ["low", "high", "s", "pairs", "rung"] fun H Q nd hr h => ?_
  obtain ⟨lo, hi, s, rfl, o, k⟩ := h
  refine ⟨_, (psq 3 nd (pe_lst pa_nil)
    (pss_cons (pfr (pi_range2 (by rfl) m_range (pa_cons (pv 0) (pa1 (pe_op op_add (pv 1) pe_int)))) (pgn 4 nd)
    (pss_one (ps_expr (pe_bm PySem.F.plainAttrs_list PySem.F.slot_list_extend PySem.F.type_list_extend mt_extend (pv 3) (pa1 (pe_comp ["partner", "rung"] [none, some 4] (pi_list (pcl C_Part hr (pa_cons (pv 4) (pa_cons (pv 0) (pa_cons (pv 1) (pa1 (pv 2))))))) (fun _ _ _ _ => (pgn 0)) (fun _ _ _ _ => pf_nil) (fun _ _ _ _ => (pe_tup (pa_cons (pv 1) (pa1 (pv 0)))))))))))
    (pss_one (ps_ret (pct call_tuple_of m_tuple PyProof.Rows.boot_tuple (pa1 (pv 3))))))), ?_⟩
  obtain ⟨o1, o2, o3, o4, o5⟩ := id o
  refine ⟨Nat.zero_le _, fun l hl => ?_⟩
  refine ⟨_, rfl, _, rfl, _, _, rfl, rfl, _, _, rfl, ⟨by omega, by omega, by omega, by omega⟩, for_range (n := (hi + 1 - lo).toNat) (fun i σ H1 => ∃ (ws : List V) (v : Option V), σ = [some (.int lo), some (.int hi), some (.int s), some (.ref l), v] ∧ Same H H1 ∧ H1 l = some (.lst ws) ∧ Prs H1 ws (mayN lo hi s i))
    ⟨[], none, rfl, same_new hl _, upd_same, trivial⟩ ?_ ?_⟩
  · rintro i σ H1 hi' ⟨ws, v, rfl, s1, hl1, hp1⟩
    have hpl := part_len (s := s) (r := lo + i) o1 o2 o3
    refine ⟨_, rfl, .inl ⟨rfl, _, SqL.of hl1⟩, ?_⟩
    refine ⟨_, rfl, _, rfl, _, rfl, _, rfl, lo + i, lo, hi, s, rfl, o, by omega, by omega, fun l2 hl2 => ?_⟩
    have g2 : Same H1 (upd H1 l2 (.lst ((partners lo hi s (lo + i)).map V.int))) := same_new hl2 _
    have h2 : upd H1 l2 (.lst ((partners lo hi s (lo + i)).map V.int)) l2 = some (.lst ((partners lo hi s (lo + i)).map V.int)) := upd_same
    generalize upd H1 l2 (.lst ((partners lo hi s (lo + i)).map V.int)) = H2 at g2 h2 ⊢
    refine ⟨l2, rfl, ⟨_, SqL.of h2⟩, comp_list (xs := (partners lo hi s (lo + i)).map V.int) (fun k ys σ2 H3 => Same H2 H3 ∧ (∃ v, σ2 = [v, some (.int (lo + i))]) ∧ Prs H3 ys (((partners lo hi s (lo + i)).take k).map fun z => (lo + (i : Int), z)))
      (by rw [List.length_map]; exact small1000 (by omega)) ⟨Same.refl _, ⟨_, rfl⟩, trivial⟩ (by rintro k ys σ2 H3 ⟨_, _, e⟩; rw [e.length, List.length_map, List.length_take]; omega) (by rintro k ys σ2 H3 _ ⟨e, _⟩; exact SqL.of (e _ _ h2)) ?_ ?_⟩
    · rintro k x ys σ2 H3 hx ⟨g3, ⟨v, rfl⟩, hp3⟩
      obtain ⟨z, rfl, hz⟩ := ints_at hx
      refine ⟨_, rfl, _, rfl, by show 2 ≤ sizeLine; decide, fun t ht => ?_⟩
      refine ⟨g3.trans (same_new ht _), ⟨_, rfl⟩, ?_⟩
      rw [take_snoc hz, List.map_append]
      exact Prs.append (hp3.same (same_new ht _)) ⟨⟨t, rfl, upd_same⟩, trivial⟩
    · rintro ys σ2 H3 ⟨g3, _, hp3⟩ l3 hl3
      rw [List.length_map, List.take_length] at hp3
      have hl4 : H3 l = some (.lst ws) := g3 _ _ (g2 _ _ hl1)
      have n3 : l ≠ l3 := ne_of_none hl4 hl3
      have hlen : ws.length + ys.length ≤ sizeLine := by
        rw [hp1.length, hp3.length, List.length_map]
        have := may_len (s := s) o1 o2 o3 i
        exact Nat.le_of_lt (small1000 (by omega))
      refine ⟨l, l3, ws, ys, rfl, rfl, same_new hl3 _ _ _ hl4, upd_same, hlen, ?_⟩
      have hl5 : upd H3 l3 (.lst ys) l = some (.lst ws) := same_new hl3 _ _ _ hl4
      refine ⟨ws ++ ys, _, rfl, same_lst (s1.trans (g2.trans (g3.trans (same_new hl3 _)))) hl, upd_same, ?_⟩
      unfold mayN
      refine Prs.append (hp1.mono ?_) (hp3.mono ?_)
      · exact (TS.of (g2.trans (g3.trans (same_new hl3 _)))).trans (TS.lst hl5)
      · exact (TS.of (same_new hl3 _)).trans (TS.lst hl5)
  · rintro σ H1 ⟨ws, v, rfl, s1, hl1, hp1⟩
    exact ⟨_, rfl, l, _, rfl, .inl ⟨SqL.of hl1, fun p hp => k _ p ws (s1.trans (same_new hp _)) upd_same (hp1.same (same_new hp _))⟩⟩
end
end Mine
namespace Mine
open PySem L2
section
variable {P : Program} {w : World} {K : PySem.W.Frag} {mg : Str → Option Value} {base : Heap}
theorem ok_Lad (C_Tail : Cl P w K mg base 5 (spFr (-20) 21 tN tD) "tail_of") (C_Share : Cl P w K mg base 4 (spFr (-21) 21 (fun p q k => shN p q k.natAbs) (fun p q k => shD p q k.natAbs)) "share_of") (m_tuple : mg "tuple" = none) (m_range : mg "range" = none) : Okk P w K mg base "ladder_table" "ladder_table" sLad 6 ["number", "steepness", "low", "high"] spLad := by
  refine okk ["number", "steepness", "low", "high", "between", "lowest_rung", "highest_rung"] fun H Q nd hr h => ?_
  obtain ⟨st, p, q, n, lo, hi, rfl, hst, hs, en, n0, n1, k⟩ := h
  refine ⟨_, (pss_cons (ps_if (ptc op_eq (pv 2) (pv 3)) (pss_one (ps_ret (pe_tup (pa1 (pe_tup (pa_cons (pv 2) (pa1 (pe_tup (pa_cons pe_int (pa1 pe_int)))))))))) pss_nil)
    (pss_cons (ps_setC ["rung", "steepness", "number"] [none, some 1, some 0] (i := 4) nd rfl (Or.inl rfl) (pi_range2 (by rfl) m_range (pa_cons (pe_op op_add (pv 2) pe_int) (pa1 (pv 3)))) (fun _ _ _ _ => (pgn 0)) (fun _ _ _ _ => pf_nil) (fun _ _ _ _ => (pe_tup (pa_cons (pv 0) (pa1 (pcl C_Share hr (pa_cons (pv 1) (pa1 (pe_op op_sub (pv 0) (pv 2))))))))))
    (psq 5 nd (pe_tup (pa_cons (pv 2) (pa1 (pcl C_Tail hr (pa_cons (pv 1) (pa1 (pe_op op_sub (pv 0) (pv 2))))))))
    (psq 6 nd (pe_tup (pa_cons (pv 3) (pa1 (pcl C_Tail hr (pa_cons (pv 1) (pa1 (pe_op op_sub (pv 3) (pv 0))))))))
    (pss_one (ps_ret (pct call_tuple_of m_tuple PyProof.Rows.boot_tuple (pa1 (pe_op op_cat (pe_op op_cat (pe_lst (pa1 (pv 5))) (pv 4)) (pe_lst (pa1 (pv 6)))))))))))), ?_⟩
  obtain ⟨a1, a2, a3⟩ := id en
  refine ⟨_, rfl, _, rfl, rfl, _, rfl, ?_⟩
  by_cases c : lo = hi
  · refine iteP (by simp [c]) ?_
    refine ⟨_, rfl, by show 2 ≤ sizeLine; decide, fun t1 ht1 => ⟨by show 2 ≤ sizeLine; decide, fun t2 ht2 => ⟨by show 1 ≤ sizeLine; decide, fun t3 ht3 => ?_⟩⟩⟩
    refine k _ t3 _ ((same_new ht1 _).trans ((same_new ht2 _).trans (same_new ht3 _))) upd_same ?_
    unfold tableI
    rw [if_pos c]
    exact ⟨⟨t2, t1, rfl, same_new ht3 _ _ _ upd_same, same_new ht3 _ _ _ (same_new ht2 _ _ _ upd_same)⟩, trivial⟩
  refine iteN (by simp [c]) ?_
  have lt : lo < hi := by omega
  refine ⟨_, rfl, _, _, rfl, rfl, _, rfl, _, _, rfl, ⟨by omega, by omega, by omega, by omega⟩, comp_range (n := (hi - (lo + 1)).toNat) (fun i zs σ H2 => Same H H2 ∧ (∃ v, σ = [v, some (.ref st), some (.int n)]) ∧ Two (Ent H2) zs ((rangeI (lo + 1) i).map (ent p q lo hi n)))
    (small1000 (by omega)) ⟨Same.refl _, ⟨_, rfl⟩, trivial⟩ (by rintro i zs σ H2 ⟨_, _, e⟩; rw [e.length, List.length_map, rangeI_len]; exact Nat.le_refl _) ?_ ?_⟩
  · rintro i zs σ H2 hi' ⟨s2, ⟨v, rfl⟩, tw⟩
    refine ⟨_, rfl, _, rfl, _, rfl, _, rfl, _, _, rfl, rfl, st, p, q, lo + 1 + i - n, rfl, s2 _ _ hst, hs, by omega, by omega, fun H3 r s3 hr' => ⟨by show 2 ≤ sizeLine; decide, fun t ht => ?_⟩⟩
    refine ⟨s2.trans (s3.trans (same_new ht _)), ⟨_, rfl⟩, ?_⟩
    rw [rangeI_succ, List.map_append]
    refine Two.append (tab_ts (.of (s3.trans (same_new ht _))) tw) ⟨⟨t, r, rfl, upd_same, ?_⟩, trivial⟩
    have hne : ¬ (lo + 1 + (i : Int) = lo ∨ lo + 1 + (i : Int) = hi) := by omega
    have hr2 := same_new ht (.tup [.int (lo + 1 + i), .ref r]) _ _ hr'
    unfold ent eN eD
    rw [if_neg hne]
    exact hr2
  rintro bs σ H2 ⟨s2, _, tw⟩ lb hlb
  have g2 : Same H (upd H2 lb (.lst bs)) := s2.trans (same_new hlb _)
  have hb2 : upd H2 lb (.lst bs) lb = some (.lst bs) := upd_same
  have tw2 := tab_ts (.of (same_new hlb (.lst bs))) tw
  have hbl : bs.length ≤ 1000 := by rw [tw.length, List.length_map, rangeI_len]; omega
  generalize upd H2 lb (.lst bs) = H3 at g2 hb2 tw2 ⊢
  -- the lowest rung
  refine ⟨_, rfl, _, rfl, _, rfl, _, rfl, _, _, rfl, rfl, st, p, q, n - lo, rfl, g2 _ _ hst, hs, by omega, by omega, fun H4 r4 s4 h4 => ⟨by show 2 ≤ sizeLine; decide, fun t4 ht4 => ?_⟩⟩
  have g4 := s4.trans (same_new ht4 (.tup [.int lo, .ref r4]))
  have e4 : Ent (upd H4 t4 (.tup [.int lo, .ref r4])) (.ref t4) (ent p q lo hi n lo) := by
    refine ⟨t4, r4, rfl, upd_same, same_new ht4 _ _ _ ?_⟩
    have ek : (lo - n).natAbs = (n - lo).toNat := by omega
    have c0 : 0 ≤ n - lo := by omega
    unfold tN tD at h4
    simp only [if_pos c0] at h4
    unfold ent eN eD
    rw [if_pos (Or.inl rfl), ek]
    exact h4
  generalize upd H4 t4 (.tup [.int lo, .ref r4]) = H5 at g4 e4 ⊢
  -- the highest
  refine ⟨_, rfl, _, rfl, _, rfl, _, rfl, _, _, rfl, rfl, st, p, q, hi - n, rfl, g4 _ _ (g2 _ _ hst), hs, by omega, by omega, fun H6 r6 s6 h6 => ⟨by show 2 ≤ sizeLine; decide, fun t6 ht6 => ?_⟩⟩
  have g6 := s6.trans (same_new ht6 (.tup [.int hi, .ref r6]))
  have e6 : Ent (upd H6 t6 (.tup [.int hi, .ref r6])) (.ref t6) (ent p q lo hi n hi) := by
    refine ⟨t6, r6, rfl, upd_same, same_new ht6 _ _ _ ?_⟩
    have ek : (hi - n).natAbs = (hi - n).toNat := by omega
    have c0 : 0 ≤ hi - n := by omega
    unfold tN tD at h6
    simp only [if_pos c0] at h6
    unfold ent eN eD
    rw [if_pos (Or.inr rfl), ek]
    exact h6
  generalize upd H6 t6 (.tup [.int hi, .ref r6]) = H7 at g6 e6 ⊢
  -- all of them
  refine ⟨_, rfl, by show 1 ≤ sizeLine; decide, fun l1 hl1 => ?_⟩
  have hb7 : H7 lb = some (.lst bs) := g6 _ _ (g4 _ _ hb2)
  refine ⟨_, rfl, l1, lb, _, _, rfl, rfl, upd_same, same_new hl1 _ _ _ hb7, Nat.le_of_lt (small1000 (by show 1 + bs.length ≤ 1000; rw [tw.length, List.length_map, rangeI_len]; omega)), fun l2 hl2 => ?_⟩
  refine ⟨_, rfl, by show 1 ≤ sizeLine; decide, fun l3 hl3 => ?_⟩
  refine ⟨l2, l3, _, _, rfl, rfl, same_new hl3 _ _ _ upd_same, upd_same, Nat.le_of_lt (small1000 (by rw [List.length_append]; show 1 + bs.length + 1 ≤ 1000; rw [tw.length, List.length_map, rangeI_len]; omega)), fun l4 hl4 => ?_⟩
  refine ⟨l4, _, rfl, .inl ⟨SqL.of upd_same, fun u hu' => ?_⟩⟩
  have gg := (same_new hl1 (.lst [.ref t4])).trans ((same_new hl2 _).trans ((same_new hl3 _).trans ((same_new hl4 _).trans (same_new hu' (.tup ([V.ref t4] ++ bs ++ [V.ref t6]))))))
  refine k _ u _ (g2.trans (g4.trans (g6.trans gg))) upd_same ?_
  unfold tableI
  rw [if_neg c, range_parts lt, List.map_append, List.map_append]
  refine Two.append (Two.append ⟨e4.ts ((TS.of g6).trans (TS.of gg)), trivial⟩ (tab_ts ((TS.of (g4.trans g6)).trans (TS.of gg)) tw2)) ⟨e6.ts (TS.of gg), trivial⟩
end
end Mine
namespace Mine
open PySem L2
section
variable {P : Program} {w : World} {K : PySem.W.Frag} {mg : Str → Option Value} {base : Heap}
theorem ok_Run (C_Pow : Cl P w K mg base 1 spPow40 "power") (C_Lad : Cl P w K mg base 6 spLad "ladder_table") (C_Pai : Cl P w K mg base 5 (spPair K) "paired") (C_May : Cl P w K mg base 3 spMay "may_pair") (m_abs : mg "abs" = none) : Okk P w K mg base "rungs_paired" "rungs_paired" sRun 7 ["steepness", "low", "high", "n", "m", "s"] spRun := by
  refine okk ["steepness", "low", "high", "n", "m", "s", "factor", "one", "other", "told"] fun H Q nd hr h => ?_
  obtain ⟨st, p, q, lo, hi, n, m, s, rfl, hst, R, k⟩ := h
  refine ⟨_, (psq 6 nd (pcl C_Pow hr (pa_cons (pe_tup (pa_cons (pix ix_tup (pv 0) pe_int) (pa1 (pix ix_tup (pv 0) pe_int)))) (pa1 (pcb call_abs m_abs PyProof.Rows.boot_abs (pa1 (pe_op op_sub (pv 4) (pv 5)))))))
    (psq 7 nd (pcl C_Lad hr (pa_cons (pv 3) (pa_cons (pv 0) (pa_cons (pv 1) (pa1 (pv 2))))))
    (psq 8 nd (pcl C_Lad hr (pa_cons (pe_op op_add (pv 3) (pv 4)) (pa_cons (pv 0) (pa_cons (pv 1) (pa1 (pv 2))))))
    (psq 9 nd (pcl C_Pai hr (pa_cons (pv 7) (pa_cons (pv 8) (pa_cons (pcl C_May hr (pa_cons (pv 1) (pa_cons (pv 2) (pa1 (pv 5))))) (pa_cons (pv 6) (pa1 (pe_tup (pa_cons pe_int (pa1 pe_int)))))))))
    (pss_one (ps_ret (pe_tup (pa_cons (pv 6) (pa1 (pix ix_tup (pv 9) pe_int)))))))))), ?_⟩
  have p1 := R.st.p1
  have pq := R.st.pq
  have q9 := R.st.q9
  have dl := R.dl
  refine ⟨_, rfl, st, _, _, _, rfl, rfl, SqT.of hst, ix1 p q, _, rfl, st, _, _, _, rfl, rfl, SqT.of hst, ix0 p q, by show 2 ≤ sizeLine; decide, fun t ht => ?_⟩
  have ea : (if m - s < 0 then -(m - s) else m - s) = ((m - s).natAbs : Int) := by split <;> omega
  refine ⟨_, rfl, _, rfl, _, _, rfl, rfl, _, rfl, t, q, p, _, rfl, upd_same, by omega, by omega, by omega, by omega, by rw [ea]; omega, by rw [ea]; omega, fun f hf => ?_⟩
  rw [ea, Int.toNat_natCast]
  have s1 : Same H (upd (upd H t (.tup [.int q, .int p])) f (.tup [.int (q ^ (m - s).natAbs), .int (p ^ (m - s).natAbs)])) := (same_new ht _).trans (same_new hf _)
  have f1 : TupAt (upd (upd H t (.tup [.int q, .int p])) f (.tup [.int (q ^ (m - s).natAbs), .int (p ^ (m - s).natAbs)])) f (q ^ (m - s).natAbs) (p ^ (m - s).natAbs) := upd_same
  generalize upd (upd H t (.tup [.int q, .int p])) f (.tup [.int (q ^ (m - s).natAbs), .int (p ^ (m - s).natAbs)]) = H1 at s1 f1 ⊢
  refine ⟨_, rfl, _, rfl, _, rfl, _, rfl, st, p, q, n, lo, hi, rfl, s1 _ _ hst, R.st, R.en, R.n0, R.n1, fun H2 t1 us1 s2 h1 tw1 => ?_⟩
  refine ⟨_, rfl, _, rfl, _, _, rfl, rfl, _, rfl, _, rfl, _, rfl, st, p, q, n + m, lo, hi, rfl, s2 _ _ (s1 _ _ hst), R.st, R.en, R.m0, R.m1, fun H3 t2 us2 s3 h2 tw2 => ?_⟩
  refine ⟨_, rfl, _, rfl, _, rfl, _, rfl, _, rfl, lo, hi, s, rfl, R.ok, fun H4 p3 ws3 s4 h3 tw3 => ?_⟩
  refine ⟨_, rfl, by show 2 ≤ sizeLine; decide, fun t0 ht0 => ?_⟩
  have s5 := same_new ht0 (.tup [.int 0, .int 1])
  have h0 : TupAt (upd H4 t0 (.tup [.int 0, .int 1])) t0 0 1 := upd_same
  generalize upd H4 t0 (.tup [.int 0, .int 1]) = H5 at s5 h0 ⊢
  have s45 := s4.trans s5
  have s35 := s3.trans s45
  have s25 := s2.trans s35
  refine ⟨t1, t2, p3, f, t0, us1, us2, ws3, _, _, _, fcR p q m s, mmR p q m s, rfl, s35 _ _ h1, tw1.mono (fun _ _ z => z.ts (TS.of s35)), s45 _ _ h2, tw2.mono (fun _ _ z => z.ts (TS.of s45)), s5 _ _ h3, tw3.same s5, s25 _ _ f1, h0, R.pa, R.full, fun H6 r d s6 hd hr hp => ?_⟩
  refine ⟨_, rfl, _, rfl, r, _, _, _, rfl, rfl, SqT.of hr, rfl, by show 2 ≤ sizeLine; decide, fun rr hrr => ?_⟩
  have s05 := s1.trans s25
  have s7 := s6.trans (same_new hrr (.tup [.ref f, .ref d]))
  exact k _ rr f d (s05.trans s7) (s05.free hd) upd_same (s7 _ _ (s25 _ _ f1)) (hp.same (same_new hrr _))
end
end Mine
namespace Mine
open PySem L2
section
variable {P : Program} {w : World} {K : PySem.W.Frag} {mg : Str → Option Value} {base : Heap}
theorem ok_LLow  : Okk P w K mg base "_law_lowest" "_law_lowest" sLLow 1 ["_law_top", "_law_bottom"] spLow := by
  refine okk ["_law_top", "_law_bottom", "_law_one", "_law_other_here"] fun H Q nd hr h => ?_
  obtain ⟨a, b, rfl, ha, hb, hz, k⟩ := h
  refine ⟨_, (pss_cons (ps_par (i := 2) (j := 3) rfl nd rfl rfl (by decide) rfl rfl (pa_cons (pv 0) (pa1 (pv 1))) rfl)
    (pss_cons (ps_while PassesOwn.never (ptc op_gt (pv 3) pe_int)
    (pss_one (ps_par (i := 2) (j := 3) rfl nd rfl rfl (by decide) rfl rfl (pa_cons (pv 3) (pa1 (pe_op op_mod (pv 2) (pv 3)))) rfl)))
    (pss_one (ps_ret (pe_tup (pa_cons (pe_op op_fdivC (pv 0) (pv 2)) (pa1 (pe_op op_fdivC (pv 1) (pv 2))))))))), ?_⟩
  have g0 : 0 < gI a b := gI_pos hb
  have g1 : gI a b < 2 ^ 200 * 2 ^ 200 := Int.lt_of_le_of_lt (gI_le hb) hz
  refine ⟨_, rfl, _, rfl, _, _, rfl, ?_⟩
  refine ⟨fun j σ H1 => H1 = H ∧ ∃ (x y : Int), σ = [some (.int a), some (.int b), some (.int x), some (.int y)] ∧ 0 ≤ x ∧ 0 ≤ y ∧ gI x y = gI a b ∧ j = y.toNat, ⟨_, rfl, a, b, rfl, ha, by omega, rfl, rfl⟩, ?_⟩
  rintro j σ H1 ⟨rfl, x, y, rfl, hx, hy, hg, rfl⟩
  refine ⟨_, rfl, _, _, rfl, rfl, _, rfl, ?_⟩
  refine ite2 (fun c => ?_) (fun c => ?_)
  · have yp : 0 < y := of_decide_eq_true c
    refine ⟨fun σ' H' => H' = H1 ∧ σ' = [some (.int a), some (.int b), some (.int y), some (.int (x % y))], fun σ' H' ⟨e1, e2⟩ => ⟨(x % y).toNat, ?_, e1, y, x % y, e2, hy, Int.emod_nonneg _ (by omega), (step_gcd hx yp).trans hg, rfl⟩, ?_⟩
    · have := Int.emod_lt_of_pos x yp
      have := Int.emod_nonneg x (show y ≠ 0 by omega)
      omega
    · exact ⟨_, rfl, _, rfl, _, rfl, _, _, rfl, rfl, yp, _, _, rfl, rfl, rfl⟩
  · have y0 : y = 0 := by
      have : ¬ 0 < y := fun z => c (decide_eq_true z)
      omega
    subst y0
    rw [gcd_end hx] at hg
    subst hg
    exact ⟨_, rfl, _, rfl, _, _, rfl, rfl, ⟨g0, g1⟩, _, rfl, _, rfl, _, _, rfl, rfl, ⟨g0, g1⟩, by show 2 ≤ sizeLine; decide, fun p hp => k p hp⟩
theorem ok_Stp (C_LLow : Cl P w K mg base 1 spLow "_law_lowest") (C_Draw : Cl P w K mg base 1 spDraw "_law_draw") : Okk P w K mg base "_law_steepness" "_law_steepness" sStp 2 ["_law_deal_here", "_law_most"] spStp33 := by
  refine okk ["_law_deal_here", "_law_most", "_law_q"] fun H Q nd hr h => ?_
  obtain ⟨d, l, rfl, D, k⟩ := h
  refine ⟨_, (psq 2 nd (pe_op op_add pe_int (pcl C_Draw hr (pa_cons (pv 0) (pa1 pe_int))))
    (pss_one (ps_ret (pcl C_LLow hr (pa_cons (pe_op op_add pe_int (pcl C_Draw hr (pa_cons (pv 0) (pa1 (pix ix_list (pe_lst (pa_cons (pe_op op_sub (pv 2) pe_int) (pa1 (pe_op op_fdivB (pv 2) pe_int)))) (pe_op op_sub (pv 1) pe_int)))))) (pa1 (pv 2))))))), ?_⟩
  refine ⟨_, rfl, d, l, 8, rfl, D, by decide, by decide, fun x H1 x0 x1 D1 o1 => ⟨_, _, rfl, rfl, ?_⟩⟩
  refine ⟨_, rfl, _, rfl, _, _, rfl, rfl, _, rfl, _, _, rfl, rfl, ⟨by decide, by decide⟩, by show 2 ≤ sizeLine; decide, fun p hp => ?_⟩
  refine ⟨_, rfl, _, _, rfl, rfl, ?_⟩
  refine ⟨p, _, _, _, rfl, rfl, SqL.of upd_same, ix0 _ _, ?_⟩
  refine ⟨d, l, 2 + x - 1, rfl, D1.same (same_new hp _), by omega, by omega, fun y H2 y0 y1 D2 o2 => ⟨_, _, rfl, rfl, ?_⟩⟩
  refine ⟨_, rfl, 1 + y, 2 + x, rfl, by omega, by omega, Int.lt_trans (show 2 + x < 16 by omega) (by decide), fun r hr' => ?_⟩
  obtain ⟨a, b⟩ := steep_lowR (a := 1 + y) (b := 2 + x) (by omega) (by omega) (by omega)
  exact k r _ _ _ upd_same a b (D2.same (same_new hr' _)) (o1.trans ((Out.of (same_new hp _)).trans (o2.trans (Out.of (same_new hr' _)))))
theorem ok_LPow (m_range : mg "range" = none) : Okk P w K mg base "_law_power" "_law_power" sLPow 1 ["_law_number", "_law_many"] spLPow40 := by
  refine okk ["_law_number", "_law_many", "_law_found", "_law_turn"] fun H Q nd hr h => ?_
  obtain ⟨a, n, rfl, a0, a9, n0, n1, k⟩ := h
  refine ⟨_, (psq 2 nd pe_int
    (pss_cons (pfr (pi_range1 (by rfl) m_range (pa1 (pv 1))) (pgn 3 nd)
    (pss_one (psz 2 nd (pe_op op_mulX (pv 2) (pv 0)))))
    (pss_one (ps_ret (pv 2))))), ?_⟩
  refine ⟨_, rfl, _, rfl, by omega, by omega, for_range (n := n.toNat) (fun i σ H1 => H1 = H ∧ ∃ v, σ = [some (.int a), some (.int n), some (.int (a ^ i)), v])
    ⟨rfl, none, by rw [Int.pow_zero]; rfl⟩ ?_ ?_⟩
  · rintro i σ H1 hi ⟨rfl, v, rfl⟩
    have ha : Bits 4 a := Bits.of a0 (by omega)
    refine ⟨_, rfl, _, rfl, _, _, rfl, rfl, ⟨4 * i + 1, 4, Bits.pow ha i, ha, by omega, by decide⟩, ?_⟩
    refine ⟨rfl, some (.int (0 + (i : Int))), ?_⟩
    rw [Int.pow_succ]
    rfl
  · rintro σ H1 ⟨rfl, v, rfl⟩
    exact ⟨_, rfl, k⟩
end
end Mine
namespace Mine
open PySem L2
section
variable {P : Program} {w : World} {K : PySem.W.Frag} {mg : Str → Option Value} {base : Heap}
theorem ok_LMay (m_max : mg "max" = none) (m_min : mg "min" = none) : Okk P w K mg base "_law_may" "_law_may" sLMay 1 ["_law_low", "_law_high", "_law_s", "_law_y", "_law_z"] spLMayR := by
  refine okk ["_law_low", "_law_high", "_law_s", "_law_y", "_law_z", "_law_end"] fun H Q nd hr h => ?_
  obtain ⟨lo, hi, s, y, z, rfl, z0, z1, k⟩ := h
  refine ⟨_, (psq 5 nd (pcb (call_max2 rfl) m_max PyProof.Rows.boot_max (pa_cons (pv 0) (pa1 (pcb (call_min2 rfl) m_min PyProof.Rows.boot_min (pa_cons (pv 1) (pa1 (pe_op op_add (pv 3) (pv 2))))))))
    (pss_cons (ps_if (PW.pt (pw_and (ptc op_gt (pv 2) pe_int) (pw_and1 (ptc op_eq (pv 3) (pv 0))))) (pss_one (ps_ret (pe_chain op_le op_le (pv 0) (pv 4) (pv 5)))) pss_nil)
    (pss_cons (ps_if (PW.pt (pw_and (ptc op_lt (pv 2) pe_int) (pw_and1 (ptc op_eq (pv 3) (pv 1))))) (pss_one (ps_ret (pe_chain op_le op_le (pv 5) (pv 4) (pv 1)))) pss_nil)
    (pss_one (ps_ret (pec op_eq (pv 4) (pv 5))))))), ?_⟩
  have k1 : ∀ b, mayB lo hi s y z = b → Q (.bl b) H := fun b e => e ▸ k
  refine ⟨_, rfl, _, rfl, _, rfl, _, rfl, _, _, rfl, rfl, _, _, rfl, _, _, rfl, ?_⟩
  rcases Int.lt_trichotomy s 0 with c1 | c1 | c1
  · have n1 : ¬ (0 < s ∧ y = lo) := by omega
    refine ⟨_, rfl, _, _, rfl, rfl, _, rfl, ?_⟩
    refine iteN (by simp; omega) ?_
    refine iteF ?_
    refine ⟨_, rfl, _, _, rfl, rfl, _, rfl, ?_⟩
    refine iteP (by simp; omega) ?_
    refine ⟨_, rfl, _, rfl, rfl, _, rfl, ?_⟩
    by_cases c2 : y = hi
    · refine iteP (by simp [c2]) ?_
      have em : mayB lo hi s y z = decide (endI lo hi (y + s) ≤ z) := by
        unfold mayB
        rw [if_neg n1, if_pos ⟨c1, c2⟩]
      refine ⟨_, rfl, _, rfl, _, _, rfl, rfl, _, rfl, ?_⟩
      refine ite2 (fun c3 => ⟨_, rfl, _, _, rfl, rfl, k1 _ ?_⟩) (fun c3 => k1 _ ?_)
      · rw [em, show decide (z ≤ hi) = true from decide_eq_true z1]
        exact c3
      · rw [em]
        exact Bool.eq_false_iff.mpr c3
    · have n2 : ¬ (s < 0 ∧ y = hi) := by omega
      refine iteN (by simp [c2]) ?_
      refine ⟨_, rfl, _, rfl, rfl, k1 _ ?_⟩
      unfold mayB
      rw [if_neg n1, if_neg n2]
      show _ = decide (V.int z = V.int (endI lo hi (y + s)))
      simp
  · have n1 : ¬ (0 < s ∧ y = lo) := by omega
    have n2 : ¬ (s < 0 ∧ y = hi) := by omega
    refine ⟨_, rfl, _, _, rfl, rfl, _, rfl, ?_⟩
    refine iteN (by simp; omega) ?_
    refine iteF ?_
    refine ⟨_, rfl, _, _, rfl, rfl, _, rfl, ?_⟩
    refine iteN (by simp; omega) ?_
    refine iteF ?_
    refine ⟨_, rfl, _, rfl, rfl, k1 _ ?_⟩
    unfold mayB
    rw [if_neg n1, if_neg n2]
    show _ = decide (V.int z = V.int (endI lo hi (y + s)))
    simp
  · refine ⟨_, rfl, _, _, rfl, rfl, _, rfl, ?_⟩
    refine iteP (by simp; omega) ?_
    refine ⟨_, rfl, _, rfl, rfl, _, rfl, ?_⟩
    by_cases c2 : y = lo
    · refine iteP (by simp [c2]) ?_
      refine ⟨_, rfl, _, rfl, _, _, rfl, rfl, _, rfl, iteP (decide_eq_true z0) ⟨_, rfl, _, _, rfl, rfl, k1 _ ?_⟩⟩
      unfold mayB
      rw [if_pos ⟨c1, c2⟩]
      rfl
    · have n1 : ¬ (0 < s ∧ y = lo) := by omega
      have n2 : ¬ (s < 0 ∧ y = hi) := by omega
      refine iteN (by simp [c2]) ?_
      refine ⟨_, rfl, _, _, rfl, rfl, _, rfl, ?_⟩
      refine iteN (by simp; omega) ?_
      refine iteF ?_
      refine ⟨_, rfl, _, rfl, rfl, k1 _ ?_⟩
      unfold mayB
      rw [if_neg n1, if_neg n2]
      show _ = decide (V.int z = V.int (endI lo hi (y + s)))
      simp
end
end Mine
namespace Mine
open PySem L2
section
variable {P : Program} {w : World} {K : PySem.W.Frag} {mg : Str → Option Value} {base : Heap}
theorem ok_LLad (C_LPow : Cl P w K mg base 1 spLPow40 "_law_power") (m_range : mg "range" = none) (m_abs : mg "abs" = none) (m_int : mg "int" = none) : Okk P w K mg base "_law_ladder" "_law_ladder" sLLad 2 ["_law_steepness_here", "_law_low", "_law_high", "_law_n"] spLLad := by
  refine okk ["_law_steepness_here", "_law_low", "_law_high", "_law_n", "_law_p", "_law_q", "_law_found", "_law_y", "_law_k"] fun H Q nd hr h => ?_
  obtain ⟨st, p, q, lo, hi, n, rfl, hst, hs, en, n0, n1, k⟩ := h
  refine ⟨_, (pss_cons (ps_asg (pv 0) (pg_tup rfl (pgs_cons (pgn 4 nd) (pgs_cons (pgn 5 nd) pgs_nil))))
    (pss_cons (ps_if (ptc op_eq (pv 1) (pv 2)) (pss_one (ps_ret (pe_lst (pa1 (pe_tup (pa_cons pe_int (pa1 pe_int))))))) pss_nil)
    (psq 6 nd (pe_lst pa_nil)
    (pss_cons (pfr (pi_range2 (by rfl) m_range (pa_cons (pv 1) (pa1 (pe_op op_add (pv 2) pe_int)))) (pgn 7 nd)
    (psq 8 nd (pcb call_abs m_abs PyProof.Rows.boot_abs (pa1 (pe_op op_sub (pv 7) (pv 3))))
    (pss_one (ps_expr (pe_bm PySem.F.plainAttrs_list PySem.F.slot_list_append PySem.F.type_list_append mt_append (pv 6) (pa1 (pe_tup (pa_cons (pe_op op_mulX (pix ix_list (pe_lst (pa_cons (pe_op op_sub (pv 5) (pv 4)) (pa1 (pv 5)))) (pct call_int1 m_int PyProof.Rows.boot_int (pa1 (pec op_in_seq (pv 7) (pe_tup (pa_cons (pv 1) (pa1 (pv 2)))))))) (pcl C_LPow hr (pa_cons (pv 4) (pa1 (pv 8))))) (pa1 (pe_op op_mulX (pe_op op_add (pv 5) (pv 4)) (pcl C_LPow hr (pa_cons (pv 5) (pa1 (pv 8))))))))))))))
    (pss_one (ps_ret (pv 6))))))), ?_⟩
  obtain ⟨a1, a2, a3⟩ := id en
  obtain ⟨p1, pq, q9⟩ := id hs
  have nn := nR_eq a2
  refine ⟨_, rfl, st, _, rfl, SqT.of hst, rfl, _, _, rfl, _, _, rfl, rfl, ?_⟩
  refine ⟨_, rfl, _, rfl, rfl, _, rfl, ?_⟩
  by_cases c : lo = hi
  · refine iteP (by simp [c]) ?_
    refine ⟨by show 2 ≤ sizeLine; decide, fun t ht => ⟨by show 1 ≤ sizeLine; decide, fun l1 hl1 => ?_⟩⟩
    refine k _ l1 _ ((same_new ht _).trans (same_new hl1 _)) upd_same ?_
    have e : nR lo hi = 1 := by omega
    rw [e, show rangeI lo 1 = [lo] by simp [rangeI]]
    refine ⟨⟨t, rfl, ?_⟩, trivial⟩
    unfold shr
    rw [if_pos c]
    exact same_new hl1 _ _ _ upd_same
  refine iteN (by simp [c]) ?_
  refine ⟨Nat.zero_le _, fun ls hls => ?_⟩
  refine ⟨_, rfl, _, rfl, _, _, rfl, rfl, _, _, rfl, ⟨by omega, by omega, by omega, by omega⟩, for_range (n := (hi + 1 - lo).toNat) (fun i σ H1 => ∃ us v7 v8, σ = [some (.ref st), some (.int lo), some (.int hi), some (.int n), some (.int p), some (.int q), some (.ref ls), v7, v8] ∧ Same H H1 ∧ H1 ls = some (.lst us) ∧ Two (FrE H1) us ((rangeI lo i).map (shr p q lo hi n)))
    ⟨[], _, _, rfl, same_new hls _, upd_same, trivial⟩ ?_ ?_⟩
  · rintro i σ H1 hi' ⟨us, v7, v8, rfl, s1, hl1, tw⟩
    obtain ⟨f, hf⟩ : ∃ f : Nat, (lo + (i : Int) - n).natAbs = f := ⟨_, rfl⟩
    have ef : (if lo + (i : Int) - n < 0 then -(lo + (i : Int) - n) else lo + (i : Int) - n) = (f : Int) := by split <;> omega
    refine ⟨_, rfl, _, rfl, _, _, rfl, rfl, _, rfl, ?_⟩
    rw [ef]
    have bp : Bits 4 p := Bits.of (by omega) (by omega)
    have bq : Bits 4 q := Bits.of (by omega) (by omega)
    have lu : us.length ≤ 1000 := by rw [tw.length, List.length_map, rangeI_len]; omega
    refine ⟨_, rfl, .inl ⟨rfl, _, SqL.of hl1⟩, ?_⟩
    refine ⟨_, rfl, _, rfl, _, _, rfl, rfl, _, rfl, by show 2 ≤ sizeLine; decide, fun p2 hp2 => ?_⟩
    refine ⟨_, rfl, _, rfl, _, rfl, by show 2 ≤ sizeLine; decide, fun t2 ht2 => ?_⟩
    refine ⟨t2, _, rfl, .inr (SqT.of upd_same), rfl, rfl, .inr ⟨_, rfl, ?_⟩⟩
    have s2 : Same H1 (upd (upd H1 p2 (.lst [.int (q - p), .int q])) t2 (.tup [.int lo, .int hi])) := (same_new hp2 _).trans (same_new ht2 _)
    have g2 : upd (upd H1 p2 (.lst [.int (q - p), .int q])) t2 (.tup [.int lo, .int hi]) p2 = some (.lst [.int (q - p), .int q]) := same_new ht2 _ _ _ upd_same
    generalize upd (upd H1 p2 (.lst [.int (q - p), .int q])) t2 (.tup [.int lo, .int hi]) = H2 at s2 g2 ⊢
    have ci : ∃ ci : Int, ci = (if lo + (i : Int) = lo ∨ lo + (i : Int) = hi then q else q - p) ∧ atI [V.int (q - p), .int q] (if inV (V.int (lo + (i : Int))) [V.int lo, V.int hi] = true then 1 else 0) = some (.int ci) := by
      rw [in_two]
      by_cases e : lo + (i : Int) = lo ∨ lo + (i : Int) = hi
      · rw [if_pos e, if_pos (decide_eq_true e)]; exact ⟨_, rfl, rfl⟩
      · rw [if_neg e, if_neg (by simpa using e)]; exact ⟨_, rfl, rfl⟩
    obtain ⟨ci, eci, hci⟩ := ci
    have bc : Bits 4 ci := by rw [eci]; split; · exact bq
                              exact Bits.of (by omega) (by omega)
    refine ⟨p2, _, _, _, rfl, rfl, SqL.of g2, hci, ?_⟩
    refine ⟨_, rfl, _, rfl, p, f, rfl, by omega, by omega, by omega, by omega, _, _, rfl, rfl, ⟨4, 4 * f + 1, bc, by rw [Int.toNat_natCast]; exact Bits.pow bp f, by decide, by omega⟩, ?_⟩
    refine ⟨_, rfl, _, rfl, _, _, rfl, rfl, _, rfl, _, rfl, q, f, rfl, by omega, by omega, by omega, by omega, _, _, rfl, rfl, ⟨5, 4 * f + 1, Bits.of (by omega) (by omega), by rw [Int.toNat_natCast]; exact Bits.pow bq f, by decide, by omega⟩, ?_⟩
    rw [Int.toNat_natCast]
    refine ⟨by show 2 ≤ sizeLine; decide, fun t3 ht3 => ?_⟩
    refine ⟨ls, _, _, rfl, rfl, same_new ht3 _ _ _ (s2 _ _ hl1), small1000 lu, ?_⟩
    have s3 : Same H1 (upd H2 t3 (.tup [.int (ci * p ^ f), .int ((q + p) * q ^ f)])) := s2.trans (same_new ht3 _)
    have g3 : upd H2 t3 (.tup [.int (ci * p ^ f), .int ((q + p) * q ^ f)]) t3 = some (.tup [.int (ci * p ^ f), .int ((q + p) * q ^ f)]) := upd_same
    have l3 := s3 _ _ hl1
    generalize upd H2 t3 (.tup [.int (ci * p ^ f), .int ((q + p) * q ^ f)]) = H3 at s3 g3 l3 ⊢
    have ts : TS H3 (upd H3 ls (.lst (us ++ [.ref t3]))) := TS.lst l3
    refine ⟨us ++ [.ref t3], _, _, rfl, same_lst (s1.trans s3) hls, upd_same, ?_⟩
    rw [rangeI_succ, List.map_append]
    refine Two.append (tw.mono fun _ _ ⟨q', e1, e2⟩ => ⟨q', e1, ts _ _ (s3 _ _ e2)⟩) ⟨⟨t3, rfl, ?_⟩, trivial⟩
    rw [shr_if c hf, ← eci]
    exact ts _ _ g3
  · rintro σ H1 ⟨us, v7, v8, rfl, s1, hl1, tw⟩
    exact ⟨_, rfl, k _ ls us s1 hl1 tw⟩
end
end Mine
namespace Mine
open PySem L2
section
variable {P : Program} {w : World} {K : PySem.W.Frag} {mg : Str → Option Value} {base : Heap}
theorem ok_IsF (C_LLow : Cl P w K mg base 1 spLow "_law_lowest") (m_all : mg "all" = none) (m_isinstance : mg "isinstance" = none) (m_tuple : mg "tuple" = none) (m_len : mg "len" = none) (m_int : mg "int" = none) (m_bool : mg "bool" = none) : Okk P w K mg base "_law_is_fraction" "_law_is_fraction" sIsF 2 ["_law_found"] spIsF := by
  refine okk ["_law_found"] fun H Q nd hr h => ?_
  obtain ⟨a, x, y, rfl, ha, x1, y1, yb, hl, k⟩ := h
  have hu := hu_of hr
  have hr1 : Room 1 _ := hr.mono (by decide)
  refine ⟨_, (pss_cons (ps_if (PW.pt (pw_or (pt_not (pt_val (pcb call_isinst m_isinstance PyProof.Rows.boot_isinstance (pa_cons (pv 0) (pa1 (pe_bltn (v := .ty "tuple") (by rfl) m_tuple PyProof.Rows.boot_tuple rfl)))))) (pw_or1 (ptc op_ne (pcb call_len_seq m_len PySem.boot_len (pa1 (pv 0))) pe_int)))) (pss_one (ps_ret pe_bl)) pss_nil)
    (pss_cons (ps_if (pt_not (pt_val (pcb call_all m_all PyProof.Rows.boot_all (pa1 (pe_comp ["_law_one"] [none] (pi_tup (pv 0)) (fun _ _ _ _ => (pgn 0)) (fun _ _ _ _ => pf_nil) (fun _ _ _ _ => (pe_and (pcb (isinstK K) m_isinstance PyProof.Rows.boot_isinstance (pa_cons (pv 0) (pa1 (pe_bltn (v := .ty "int") (by rfl) m_int PyProof.Rows.boot_int rfl)))) (pe_and (pe_not (pcb (isinstK K) m_isinstance PyProof.Rows.boot_isinstance (pa_cons (pv 0) (pa1 (pe_bltn (v := .ty "bool") (by rfl) m_bool PyProof.Rows.boot_bool rfl))))) (pe_one (pec op_gt (pv 0) pe_int)))))))))) (pss_one (ps_ret pe_bl)) pss_nil)
    (pss_one (ps_ret (pec (op_eqD hr1) (pcl C_LLow hr (pa_cons (pix ix_tup (pv 0) pe_int) (pa1 (pix ix_tup (pv 0) pe_int)))) (pv 0)))))), ?_⟩
  have el1 : low1 x y = x := congrArg Prod.fst hl
  have el2 : low2 x y = y := congrArg Prod.snd hl
  have ha' : H a = some (.tup [.int x, .int y]) := ha
  refine ⟨_, rfl, _, _, _, true, rfl, .tup ha, rfl, _, rfl, iteN (by decide) ?_⟩
  refine ⟨_, rfl, a, _, rfl, .inr (SqT.of ha), rfl, _, rfl, iteN (by simp) ?_⟩
  refine ⟨_, rfl, a, rfl, ⟨_, SqT.of ha⟩, comp_tup (xs := [.int x, .int y]) (fun i ys σ G => H = G ∧ (∃ v, σ = [v]) ∧ ys = (List.replicate i true).map V.bl) (by show 2 < sizeLine; decide) ⟨rfl, ⟨_, rfl⟩, rfl⟩ (by rintro i ys σ G ⟨_, _, e⟩; rw [e, List.length_map, List.length_replicate]; exact Nat.le_refl _) (by rintro i ys σ G _ ⟨e, _⟩; rw [← e]; exact SqT.of ha) ?_ ?_⟩
  · rintro i u ys σ G hu ⟨rfl, ⟨v, rfl⟩, rfl⟩
    obtain ⟨n, rfl, n1⟩ : ∃ n : Int, u = .int n ∧ 1 ≤ n := by
      rcases List.mem_cons.mp (List.mem_of_getElem? hu) with e | e
      · exact ⟨x, e, x1⟩
      · exact ⟨y, List.mem_singleton.mp e, y1⟩
    refine ⟨_, rfl, _, _, _, true, rfl, .int n, rfl, _, rfl, iteP (by rfl) ⟨_, rfl, _, _, _, false, rfl, .int n, rfl, _, rfl, _, rfl, iteP (by rfl) ⟨_, rfl, _, _, rfl, rfl, rfl, ⟨_, rfl⟩, ?_⟩⟩⟩
    rw [List.replicate_succ', List.map_append]
    show _ ++ [V.bl (decide (0 < n))] = _ ++ [V.bl true]
    rw [decide_eq_true (by omega)]
  rintro ys σ G ⟨rfl, _, rfl⟩ l hl'
  refine ⟨l, List.replicate 2 true, rfl, SqL.of upd_same, _, rfl, iteN (by decide) ?_⟩
  have s1 := same_new hl' (.lst ((List.replicate [V.int x, V.int y].length true).map V.bl))
  generalize upd H l (.lst ((List.replicate [V.int x, V.int y].length true).map V.bl)) = H1 at s1 ⊢
  refine ⟨_, rfl, a, _, _, _, rfl, rfl, SqT.of (s1 _ _ ha), ix0 x y, _, rfl, a, _, _, _, rfl, rfl, SqT.of (s1 _ _ ha), ix1 x y, x, y, rfl, by omega, y1, yb, fun r hr' => ?_⟩
  have s2 := same_new hr' (.tup (lowI x y))
  have hr2 : upd H1 r (.tup (lowI x y)) r = some (.tup [.int x, .int y]) := by rw [upd_same]; unfold lowI; rw [el1, el2]
  generalize upd H1 r (.tup (lowI x y)) = H2 at s2 hr2 ⊢
  refine ⟨_, rfl, .tuple [.int x, .int y], .tuple [.int x, .int y], ⟨r, _, rfl, SqT.of hr2, _, _, rfl, rfl, _, _, rfl, rfl, rfl⟩, ⟨a, _, rfl, SqT.of (s2 _ _ (s1 _ _ ha')), _, _, rfl, rfl, _, _, rfl, rfl, rfl⟩, rfl, rfl, rfl, ?_⟩
  have es : Spec.same (.tuple [.int x, .int y]) (.tuple [.int x, .int y]) = true := by simp [Spec.same, Spec.sameAll]
  rw [es]
  exact k _ (s1.trans s2)
theorem ok_LSum  : Okk P w K mg base "_law_sum" "_law_sum" sLSum 1 ["_law_shares"] spLSum := by
  refine okk ["_law_shares", "_law_top", "_law_bottom", "_law_one", "_law_other_here"] fun H Q nd hr h => ?_
  obtain ⟨l, us, fs, rfl, hl, tw, hz, hb, k⟩ := h
  have hu := hu_of hr
  refine ⟨_, (pss_cons (ps_asg (pe_tup (pa_cons pe_int (pa1 pe_int))) (pg_tup rfl (pgs_cons (pgn 1 nd) (pgs_cons (pgn 2 nd) pgs_nil))))
    (pss_cons (pfr (pi_list (pv 0)) (pg_tup rfl (pgs_cons (pgn 3 nd) (pgs_cons (pgn 4 nd) pgs_nil)))
    (pss_one (ps_par (i := 1) (j := 2) rfl nd rfl rfl (by decide) rfl rfl (pa_cons (pe_op op_add (pe_op op_mulX (pv 1) (pv 4)) (pe_op op_mulX (pv 3) (pv 2))) (pa1 (pe_op op_mulX (pv 2) (pv 4)))) rfl)))
    (pss_one (ps_ret (pe_tup (pa_cons (pv 1) (pa1 (pv 2)))))))), ?_⟩
  refine ⟨by show 2 ≤ sizeLine; decide, fun t0 ht0 => ⟨t0, _, rfl, SqT.of upd_same, rfl, _, _, rfl, _, _, rfl, rfl, ?_⟩⟩
  have s0 := same_new ht0 (.tup [.int 0, .int 1])
  generalize upd H t0 (.tup [.int 0, .int 1]) = H0 at s0 ⊢
  have lu := tw.length
  refine ⟨_, rfl, l, rfl, ⟨_, SqL.of (s0 _ _ hl)⟩, for_list (xs := us) (fun i σ G => ∃ v3 v4, σ = [some (.ref l), some (.int (sumF (fs.take i)).1), some (.int (sumF (fs.take i)).2), v3, v4] ∧ G = H0) ⟨none, none, rfl, rfl⟩ (by rintro i σ G _ ⟨_, _, _, e⟩; rw [e]; exact SqL.of (s0 _ _ hl)) ?_ ?_⟩
  · rintro i u σ G hu ⟨v3, v4, rfl, rfl⟩
    obtain ⟨e, he, c, rfl, hc⟩ := tw.at hu
    obtain ⟨b1, b2⟩ := sumF_bits hb i
    obtain ⟨b3, b4⟩ := hb e (List.mem_of_getElem? he)
    have li := (List.getElem?_eq_some_iff.mp he).1
    refine ⟨c, _, rfl, SqT.of (s0 _ _ hc), rfl, _, _, rfl, _, _, rfl, rfl, ?_⟩
    refine ⟨_, rfl, _, rfl, _, _, rfl, rfl, ⟨_, _, b1, b4, by omega, by omega⟩, _, rfl, _, rfl, _, _, rfl, rfl, ⟨_, _, b3, b2, by omega, by omega⟩, _, _, rfl, rfl, _, rfl, _, rfl, _, _, rfl, rfl, ⟨_, _, b2, b4, by omega, by omega⟩, _, _, rfl, ?_⟩
    refine ⟨some (.int e.1), some (.int e.2), ?_, rfl⟩
    rw [take_snoc he, sumF_snoc]
    rfl
  rintro σ G ⟨v3, v4, rfl, rfl⟩
  rw [lu, List.take_length]
  exact ⟨_, rfl, _, rfl, by show 2 ≤ sizeLine; decide, fun r hr => k _ r (s0.trans (same_new hr _)) upd_same⟩
end
end Mine
namespace Mine
open PySem L2
section
variable {P : Program} {w : World} {K : PySem.W.Frag} {mg : Str → Option Value} {base : Heap}
theorem ok_Right (C_Run : Cl P w K mg base 7 spRun "rungs_paired") (C_LLad : Cl P w K mg base 2 spLLad "_law_ladder") (C_LSum : Cl P w K mg base 1 spLSum "_law_sum") (C_IsF : Cl P w K mg base 2 spIsF "_law_is_fraction") (C_LPow : Cl P w K mg base 1 spLPow40 "_law_power") (C_LMay : Cl P w K mg base 1 spLMayR "_law_may") (m_abs : mg "abs" = none) (m_range : mg "range" = none) (m_dict : mg "dict" = none) (m_isinstance : mg "isinstance" = none) (m_tuple : mg "tuple" = none) (m_len : mg "len" = none) : Okk P w K mg base "_law_right" "_law_right" sRight 8 ["_law_steepness_here", "_law_low", "_law_high", "_law_n", "_law_m", "_law_s"] spRight33 := by
  refine okk ["_law_steepness_here", "_law_low", "_law_high", "_law_n", "_law_m", "_law_s", "_law_told", "_law_factor", "_law_pairing", "_law_steps", "_law_p", "_law_q", "_law_pair", "_law_y", "_law_z", "_law_one", "_law_other_here", "_law_top", "_law_bottom", "_law_share", "_law_kept"] fun H Q nd hr h => ?_
  obtain ⟨st, p, q, lo, hi, n, m, s, rfl, hst, R, k⟩ := h
  have hu := hu_of hr
  have hr1 : Room 1 _ := hr.mono (by decide)
  have hr2 : Room 2 _ := hr.mono (by decide)
  refine ⟨_, (psq 6 nd (pcl C_Run hr (pa_cons (pv 0) (pa_cons (pv 1) (pa_cons (pv 2) (pa_cons (pv 3) (pa_cons (pv 4) (pa1 (pv 5))))))))
    (pss_cons (ps_if (PW.pt (pw_or (pt_not (pt_val (pcb call_isinst m_isinstance PyProof.Rows.boot_isinstance (pa_cons (pv 6) (pa1 (pe_bltn (v := .ty "tuple") (by rfl) m_tuple PyProof.Rows.boot_tuple rfl)))))) (pw_or (ptc op_ne (pcb call_len_seq m_len PySem.boot_len (pa1 (pv 6))) pe_int) (pw_or1 (pt_not (pt_val (pcb call_isinst m_isinstance PyProof.Rows.boot_isinstance (pa_cons (pix ix_tup (pv 6) pe_int) (pa1 (pe_bltn (v := .ty "dict") (by rfl) m_dict PyProof.Rows.boot_dict rfl)))))))))) (pss_one (ps_ret pe_bl)) pss_nil)
    (pss_cons (ps_asg (pv 6) (pg_tup rfl (pgs_cons (pgn 7 nd) (pgs_cons (pgn 8 nd) pgs_nil))))
    (psq 9 nd (pcb call_abs m_abs PyProof.Rows.boot_abs (pa1 (pe_op op_sub (pv 4) (pv 5))))
    (pss_cons (ps_asg (pv 0) (pg_tup rfl (pgs_cons (pgn 10 nd) (pgs_cons (pgn 11 nd) pgs_nil))))
    (pss_cons (ps_if (PW.pt (pw_or (pt_not (pt_val (pcl C_IsF hr (pa1 (pv 7))))) (pw_or1 (ptc (op_neD hr1) (pv 7) (pe_tup (pa_cons (pcl C_LPow hr (pa_cons (pv 11) (pa1 (pv 9)))) (pa1 (pcl C_LPow hr (pa_cons (pv 10) (pa1 (pv 9))))))))))) (pss_one (ps_ret pe_bl)) pss_nil)
    (pss_cons (ps_thaw (pfr (pi_dictT (pv 8)) (pgn 12 nd)
    (pss_cons (ps_if (PW.pt (pw_or (pt_not (pt_val (pcb call_isinst m_isinstance PyProof.Rows.boot_isinstance (pa_cons (pv 12) (pa1 (pe_bltn (v := .ty "tuple") (by rfl) m_tuple PyProof.Rows.boot_tuple rfl)))))) (pw_or (ptc op_ne (pcb call_len_seq m_len PySem.boot_len (pa1 (pv 12))) pe_int) (pw_or1 (pt_not (pt_chain op_le op_le (pv 1) (pix ix_tup (pv 12) pe_int) (pv 2))))))) (pss_one (ps_ret pe_bl)) pss_nil)
    (pss_cons (ps_asg (pv 12) (pg_tup rfl (pgs_cons (pgn 13 nd) (pgs_cons (pgn 14 nd) pgs_nil))))
    (pss_one (ps_if (PW.pt (pw_or (pt_not (pt_val (pcl C_LMay hr (pa_cons (pv 1) (pa_cons (pv 2) (pa_cons (pv 5) (pa_cons (pv 13) (pa1 (pv 14))))))))) (pw_or1 (pt_not (pt_val (pcl C_IsF hr (pa1 (pdg hu (pv 8) (pv 12))))))))) (pss_one (ps_ret pe_bl)) pss_nil))))))
    (psq 15 nd (pcl C_LLad hr (pa_cons (pv 0) (pa_cons (pv 1) (pa_cons (pv 2) (pa1 (pv 3))))))
    (psq 16 nd (pcl C_LLad hr (pa_cons (pv 0) (pa_cons (pv 1) (pa_cons (pv 2) (pa1 (pe_op op_add (pv 3) (pv 4)))))))
    (pss_cons (pfr (pi_range2 (by rfl) m_range (pa_cons (pv 1) (pa1 (pe_op op_add (pv 2) pe_int)))) (pgn 13 nd)
    (pss_cons (ps_thaw (ps_asg (pcl C_LSum hr (pa1 (pe_comp ["_law_pair", "_law_pairing", "_law_y"] [none, some 8, some 13] (pi_dictT (pv 8)) (fun _ _ _ _ => (pgn 0)) (fun _ _ _ _ => (pf_one (ptc op_eq (pix (ixtK K) (pv 0) pe_int) (pv 2)))) (fun _ _ _ _ => (pdg hu (pv 1) (pv 0)))))) (pg_tup rfl (pgs_cons (pgn 17 nd) (pgs_cons (pgn 18 nd) pgs_nil)))))
    (pss_cons (ps_if (ptc op_ne (pe_op op_mulX (pv 17) (pix ix_tup (pix ix_list (pv 15) (pe_op op_sub (pv 13) (pv 1))) pe_int)) (pe_op op_mulX (pix ix_tup (pix ix_list (pv 15) (pe_op op_sub (pv 13) (pv 1))) pe_int) (pv 18))) (pss_one (ps_ret pe_bl)) pss_nil)
    (pss_cons (ps_thaw (ps_asg (pcl C_LSum hr (pa1 (pe_comp ["_law_pair", "_law_pairing", "_law_y"] [none, some 8, some 13] (pi_dictT (pv 8)) (fun _ _ _ _ => (pgn 0)) (fun _ _ _ _ => (pf_one (ptc op_eq (pix (ixtK K) (pv 0) pe_int) (pv 2)))) (fun _ _ _ _ => (pdg hu (pv 1) (pv 0)))))) (pg_tup rfl (pgs_cons (pgn 17 nd) (pgs_cons (pgn 18 nd) pgs_nil)))))
    (psq 19 nd (pix ix_list (pv 16) (pe_op op_sub (pv 13) (pv 1)))
    (pss_one (ps_if (ptc op_gt (pe_op op_mulX (pe_op op_mulX (pv 17) (pix ix_tup (pv 19) pe_int)) (pix ix_tup (pv 7) pe_int)) (pe_op op_mulX (pe_op op_mulX (pix ix_tup (pv 19) pe_int) (pix ix_tup (pv 7) pe_int)) (pv 18))) (pss_one (ps_ret pe_bl)) pss_nil)))))))
    (psq 20 nd (pct call_dictT m_dict PyProof.Rows.boot_dict (pa1 (pv 8)))
    (pss_cons (ps_expr (pe_clr (pv 8)))
    (pss_one (ps_ret (pec (op_eqFD hr) (pcl C_Run hr (pa_cons (pv 0) (pa_cons (pv 1) (pa_cons (pv 2) (pa_cons (pv 3) (pa_cons (pv 4) (pa1 (pv 5)))))))) (pe_tup (pa_cons (pv 7) (pa1 (pv 20))))))))))))))))))), ?_⟩
  have p1 := R.st.p1
  have pq := R.st.pq
  have q9 := R.st.q9
  have dl := R.dl
  have hle := R.ok.b
  have h0 := R.ok.a
  have h9 := R.ok.c
  have nn := nR_eq hle
  have P1 := R.pb (a := p) (by omega) (by omega)
  have Q1 := R.pb (a := q) (by omega) (by omega)
  refine ⟨_, rfl, _, rfl, _, rfl, _, rfl, _, rfl, _, rfl, st, p, q, lo, hi, n, m, s, rfl, hst, R, fun H1 r f d s1 hd0 hr hf hp => ?_⟩
  obtain ⟨zs, hd1, ez, fz⟩ := hp
  have ndz : (zs.map (·.1)).Nodup := by rw [ez]; exact R.pa.ly.nd.sublist List.filter_sublist
  have lzs : zs.length ≤ 200 := by
    have := congrArg List.length ez
    rw [List.length_map] at this
    rw [this]
    exact Nat.le_trans (List.length_filter_le _ _) R.pa.ly.zp
  have mlv : ∀ z ∈ zs, z.1 ∈ lvR p q lo hi n m s := fun z hz => by rw [← ez]; exact List.mem_map.mpr ⟨z, hz, rfl⟩
  have bts : ∀ e ∈ lvR p q lo hi n m s, Bits 310 (frR p q lo hi n m s e).1 ∧ Bits 310 (frR p q lo hi n m s e).2 := fun e he => by
    obtain ⟨_, _, w1, w2, w3, w4, _⟩ := R.frs he
    exact ⟨bits310 (by omega) w3, bits_of (m := 127) (by omega) w4 (by decide)⟩
  have ck1 := fun i (h0 : lo ≤ i) (h1 : i ≤ hi) fs e => R.chk1 h0 h1 (fs := fs) e
  have ck2 := fun i (h0 : lo ≤ i) (h1 : i ≤ hi) fs e => R.chk2 h0 h1 (fs := fs) e
  have fok := fun z hz => R.frs (mlv z hz)
  have snd := fun z hz => R.snd (mlv z hz)
  generalize elv : lvR p q lo hi n m s = lv at *
  generalize efr : frR p q lo hi n m s = fr at *
  refine ⟨_, rfl, _, _, _, true, rfl, .tup hr, rfl, _, rfl, iteN (by decide) ?_⟩
  refine ⟨_, rfl, r, _, rfl, .inr (SqT.of hr), rfl, _, rfl, iteN (by simp) ?_⟩
  refine ⟨_, rfl, r, _, _, _, rfl, rfl, SqT.of hr, rfl, _, _, _, true, rfl, .dT hd1, rfl, _, rfl, iteN (by decide) ?_⟩
  refine ⟨_, rfl, r, _, rfl, SqT.of hr, rfl, _, _, rfl, _, _, rfl, rfl, ?_⟩
  have ea : (if m - s < 0 then -(m - s) else m - s) = ((m - s).natAbs : Int) := by split <;> omega
  refine ⟨_, rfl, _, rfl, _, _, rfl, rfl, _, rfl, ?_⟩
  rw [ea]
  refine ⟨_, rfl, st, _, rfl, SqT.of (s1 _ _ hst), rfl, _, _, rfl, _, _, rfl, rfl, ?_⟩
  refine ⟨_, rfl, f, _, _, rfl, hf, Q1.1, P1.1, Int.lt_trans P1.2 (by decide), R.fac, fun H2 s2 => ⟨_, rfl, iteN (by decide) ?_⟩⟩
  refine ⟨_, rfl, _, rfl, _, rfl, q, _, rfl, by omega, by omega, by omega, by omega, _, rfl, _, rfl, p, _, rfl, by omega, by omega, by omega, by omega, by show 2 ≤ sizeLine; decide, fun t ht => ?_⟩
  rw [Int.toNat_natCast]
  have s3 : Same H1 (upd H2 t (.tup [.int (q ^ (m - s).natAbs), .int (p ^ (m - s).natAbs)])) := s2.trans (same_new ht _)
  have ht3 : upd H2 t (.tup [.int (q ^ (m - s).natAbs), .int (p ^ (m - s).natAbs)]) t = some (.tup [.int (q ^ (m - s).natAbs), .int (p ^ (m - s).natAbs)]) := upd_same
  generalize upd H2 t (.tup [.int (q ^ (m - s).natAbs), .int (p ^ (m - s).natAbs)]) = H3 at s3 ht3 ⊢
  clear s2 ht
  have hf3 : H3 f = some (.tup [.int (q ^ (m - s).natAbs), .int (p ^ (m - s).natAbs)]) := s3 _ _ hf
  refine ⟨.tuple [.int (q ^ (m - s).natAbs), .int (p ^ (m - s).natAbs)], .tuple [.int (q ^ (m - s).natAbs), .int (p ^ (m - s).natAbs)], ⟨f, _, rfl, SqT.of hf3, _, _, rfl, rfl, _, _, rfl, rfl, rfl⟩, ⟨t, _, rfl, SqT.of ht3, _, _, rfl, rfl, _, _, rfl, rfl, rfl⟩, rfl, rfl, rfl, _, rfl, ?_⟩
  have es : Spec.same (.tuple [.int (q ^ (m - s).natAbs), .int (p ^ (m - s).natAbs)]) (.tuple [.int (q ^ (m - s).natAbs), .int (p ^ (m - s).natAbs)]) = true := by simp [Spec.same, Spec.sameAll]
  rw [es]
  refine iteN (by decide) ?_
  have hd3 := s3 _ _ hd1
  have fz3 : ∀ z ∈ zs, TupAt H3 z.2 (fr z.1).1 (fr z.1).2 := fun z hz => s3 _ _ (fz z hz)
  refine ⟨_, rfl, d, pgK zs, rfl, hd3, fun o => for_dictT (d := d) (o := o) (kvs := pgK zs) (fun i σ G => ∃ v12 v13 v14, σ = [some (.ref st), some (.int lo), some (.int hi), some (.int n), some (.int m), some (.int s), some (.ref r), some (.ref f), some (.ref d), some (.int ((m - s).natAbs : Int)), some (.int p), some (.int q), v12, v13, v14, none, none, none, none, none, none] ∧ Same (upd H3 d (.frz o (.dT (pgK zs)))) G) ⟨none, none, none, rfl, Same.refl _⟩ (by rintro i σ G _ ⟨_, _, _, _, sg⟩; exact sg _ _ upd_same) ?_ ?_⟩
  · rintro i ky vv b σ G hk hb ⟨v12, v13, v14, rfl, sg⟩
    obtain ⟨z, hz, rfl, rfl⟩ := pgK_at hk
    have mz := List.mem_of_getElem? hz
    obtain ⟨⟨y0, y1⟩, mb, w1, w2, w3, w4, w5⟩ := fok z mz
    obtain ⟨z0, z1⟩ := snd z mz
    have dg := DGet.ft (sg _ _ upd_same) hb
    rw [pgK_val ndz mz] at dg
    have ng : z.2 ≠ d := ne_of (fz3 z mz) hd3 (by intro q; cases q)
    refine ⟨_, rfl, _, _, _, true, rfl, .tup hb, rfl, _, rfl, iteN (by decide) ?_⟩
    refine ⟨_, rfl, b, _, rfl, .inr (SqT.of hb), rfl, _, rfl, iteN (by simp) ?_⟩
    refine ⟨_, rfl, _, rfl, b, _, _, _, rfl, rfl, SqT.of hb, ix0 _ _, _, _, rfl, rfl, _, rfl, iteP (decide_eq_true y0) ⟨_, rfl, _, _, rfl, rfl, _, rfl, iteN (by simpa using y1) ?_⟩⟩
    refine ⟨_, rfl, b, _, rfl, SqT.of hb, rfl, _, _, rfl, _, _, rfl, rfl, ?_⟩
    refine ⟨_, rfl, _, rfl, _, rfl, _, rfl, _, rfl, lo, hi, s, z.1.1, z.1.2, rfl, z0, z1, _, rfl, iteN (by rw [mb]; decide) ?_⟩
    refine ⟨_, rfl, _, rfl, d, _, rfl, dg, z.2, _, _, rfl, sg _ _ (by rw [upd_ne ng]; exact fz3 z mz), w1, w2, Int.lt_trans w4 (by decide), w5, fun G2 sg2 => ⟨_, rfl, iteN (by decide) ?_⟩⟩
    exact ⟨_, _, _, rfl, sg.trans sg2⟩
  rintro σ G ⟨v12, v13, v14, rfl, sg⟩
  refine .inr ⟨d, o, .dT (pgK zs), sg _ _ upd_same, (fun o' u' e => by cases hd0.symm.trans e), (fun _ z => by cases z), (fun _ z => by cases z), ?_⟩
  have s4 : Same H3 (upd G d (.dT (pgK zs))) := thaw2 hd3 sg
  generalize upd G d (.dT (pgK zs)) = H4 at s4 ⊢
  clear sg
  have st4 := s4 _ _ (s3 _ _ (s1 _ _ hst))
  refine ⟨_, rfl, _, rfl, _, rfl, _, rfl, st, p, q, lo, hi, n, rfl, st4, R.st, R.en, R.n0, R.n1, fun H5 l1 us1 s5 hl1 tw1 => ?_⟩
  refine ⟨_, rfl, _, rfl, _, rfl, _, rfl, _, rfl, _, _, rfl, rfl, st, p, q, lo, hi, n + m, rfl, s5 _ _ st4, R.st, R.en, R.m0, R.m1, fun H6 l2 us2 s6 hl2 tw2 => ?_⟩
  have s36 := (s4.trans s5).trans s6
  have s16 := s3.trans s36
  have hd6 := s36 _ _ hd3
  have fz6 : ∀ z ∈ zs, TupAt H6 z.2 (fr z.1).1 (fr z.1).2 := fun z hz => s36 _ _ (fz3 z hz)
  have hf6 := s36 _ _ hf3
  have hl16 := s6 _ _ hl1
  have tw1 := tw1.mono fun _ _ (⟨q', e1, e2⟩ : FrE _ _ _) => (⟨q', e1, s6 _ _ e2⟩ : FrE H6 _ _)
  have lu1 := tw1.length
  have lu2 := tw2.length
  rw [List.length_map, rangeI_len] at lu1 lu2
  refine ⟨_, rfl, _, rfl, _, _, rfl, rfl, _, _, rfl, ⟨by omega, by omega, by omega, by omega⟩, for_range (n := (hi + 1 - lo).toNat) (fun i σ G => ∃ v12 v13 v14 v17 v18 v19, σ = [some (.ref st), some (.int lo), some (.int hi), some (.int n), some (.int m), some (.int s), some (.ref r), some (.ref f), some (.ref d), some (.int ((m - s).natAbs : Int)), some (.int p), some (.int q), v12, v13, v14, some (.ref l1), some (.ref l2), v17, v18, v19, none] ∧ Same H6 G) ⟨_, _, _, none, none, none, rfl, Same.refl _⟩ ?_ ?_⟩
  · rintro i σ G hi' ⟨v12, v13, v14, v17, v18, v19, rfl, sg⟩
    have il1 : i < us1.length := by rw [lu1]; exact hi'
    have il2 : i < us2.length := by rw [lu2]; exact hi'
    have y0 : lo ≤ lo + (i : Int) := by omega
    have y1 : lo + (i : Int) ≤ hi := by omega
    obtain ⟨e1, he1, c1, ec1, hc1⟩ := tw1.at (List.getElem?_eq_getElem il1)
    obtain ⟨e2, he2, c2, ec2, hc2⟩ := tw2.at (List.getElem?_eq_getElem il2)
    rw [List.getElem?_map, rangeI_get hi'] at he1 he2
    cases Option.some.inj he1
    cases Option.some.inj he2
    have sh1 := shr_ok (R.lo1 y0 y1)
    have sh2 := shr_ok (R.lo2 y0 y1)
    refine ⟨_, rfl, d, pgK zs, rfl, (sg _ _ hd6), fun o => comp_dictT (d := d) (o := o) (kvs := pgK zs) (fun j ys σ2 G2 => Same (upd G d (.frz o (.dT (pgK zs)))) G2 ∧ (∃ v, σ2 = [v, some (.ref d), some (.int (lo + (i : Int)))]) ∧ Two (FrE G2) ys (((zs.take j).filter fun z => decide (z.1.1 = lo + (i : Int))).map fun z => fr z.1)) (by unfold pgK; rw [List.length_map]; exact small1000 (by omega)) ⟨Same.refl _, ⟨_, rfl⟩, trivial⟩ (by rintro j ys σ2 G2 ⟨_, _, t⟩; rw [t.length, List.length_map]; exact Nat.le_trans (List.length_filter_le _ _) (by rw [List.length_take]; omega)) (by rintro j ys σ2 G2 _ ⟨s2, _⟩; exact s2 _ _ upd_same) ?_ ?_⟩
    · rintro j ky vv b ys σ2 G2 hk hb ⟨s2, ⟨v, rfl⟩, t⟩
      obtain ⟨z, hz, rfl, rfl⟩ := pgK_at hk
      have mz := List.mem_of_getElem? hz
      have dg := DGet.ft (s2 _ _ upd_same) hb
      rw [pgK_val ndz mz] at dg
      refine ⟨_, rfl, b, _, _, _, rfl, rfl, SqT.of hb, ix0 _ _, _, rfl, rfl, _, rfl, ?_⟩
      rw [take_filt hz]
      have ng : z.2 ≠ d := ne_of ((fun c o e => sg c o e) _ _ (fz6 z mz)) ((sg _ _ hd6)) (by intro q; cases q)
      by_cases c0 : z.1.1 = lo + (i : Int)
      · rw [if_pos (decide_eq_true c0), List.map_append]
        exact iteP (by simpa using c0) ⟨_, rfl, _, rfl, d, _, rfl, dg, s2, ⟨_, rfl⟩, Two.append t ⟨⟨z.2, rfl, s2 _ _ (by rw [upd_ne ng]; exact (fun c o e => sg c o e) _ _ (fz6 z mz))⟩, trivial⟩⟩
      · rw [if_neg (by simpa using c0), List.append_nil]
        exact iteN (by simpa using c0) ⟨s2, ⟨_, rfl⟩, t⟩
    rintro ys σ2 G2 ⟨s2, _, t⟩ l hl
    rw [show (pgK zs).length = zs.length from List.length_map .., List.take_length] at t
    have ef : ((zs.filter fun z => decide (z.1.1 = lo + (i : Int))).map fun z => fr z.1) = (lv.filter fun e => decide (e.1 = lo + (i : Int))).map fr := by rw [← ez]; exact filt_two (r := fun e => decide (e.1 = lo + (i : Int)))
    generalize ((zs.filter fun z => decide (z.1.1 = lo + (i : Int))).map fun z => fr z.1) = fs at t ef
    have lf : fs.length ≤ 200 := by
      rw [ef, List.length_map]
      exact Nat.le_trans (List.length_filter_le _ _) (by rw [← ez, List.length_map]; exact lzs)
    have bf : ∀ u ∈ fs, Bits 310 u.1 ∧ Bits 310 u.2 := fun u hu => by
      rw [ef] at hu
      obtain ⟨e, he, rfl⟩ := List.mem_map.mp hu
      exact bts e (List.mem_filter.mp he).1
    obtain ⟨bt1, bt2⟩ := sumF_bits bf fs.length
    rw [List.take_length] at bt1 bt2
    refine ⟨l, ys, fs, rfl, upd_same, t.mono (by rintro _ _ ⟨q', e1, e2⟩; exact ⟨q', e1, same_new hl _ _ _ e2⟩), lf, bf, fun G3 r3 s3 hr3 => ?_⟩
    refine ⟨r3, _, rfl, SqT.of hr3, rfl, _, _, rfl, _, _, rfl, rfl, .inr ⟨d, o, .dT (pgK zs), s3 _ _ (same_new hl _ _ _ (s2 _ _ upd_same)), (fun o' u' e => by cases hd0.symm.trans e), (fun _ z => by cases z), (fun _ z => by cases z), ?_⟩⟩
    have sn : Same G (upd G3 d (.dT (pgK zs))) := thaw2 (sg _ _ hd6) ((s2.trans (same_new hl _)).trans s3)
    clear s3 hr3 s2 t hl
    generalize upd G3 d (.dT (pgK zs)) = G4 at sn ⊢
    have k1 := ck1 (lo + (i : Int)) y0 y1 fs ef
    have sg2 := sg.trans sn
    refine ⟨_, rfl, _, rfl, _, rfl, _, rfl, _, _, rfl, rfl, l1, _, _, _, rfl, rfl, SqL.of (sg2 _ _ hl16), (by
      rw [show lo + (i : Int) - lo = ((i : Nat) : Int) by omega]
      exact atI_nat (by rw [List.getElem?_eq_getElem il1, ec1])), c1, _, _, _, rfl, rfl, SqT.of (sg2 _ _ hc1), ix1 _ _, _, _, rfl, rfl, ⟨_, 2000, bt1, sh1.2.2.2.1.bits, by omega, by decide⟩, _, rfl, _, rfl, _, rfl, _, _, rfl, rfl, l1, _, _, _, rfl, rfl, SqL.of (sg2 _ _ hl16), (by
      rw [show lo + (i : Int) - lo = ((i : Nat) : Int) by omega]
      exact atI_nat (by rw [List.getElem?_eq_getElem il1, ec1])), c1, _, _, _, rfl, rfl, SqT.of (sg2 _ _ hc1), ix0 _ _, _, rfl, _, _, rfl, rfl, ⟨2000, _, sh1.2.2.1.bits, bt2, by decide, by omega⟩, rfl, _, rfl, iteN (by simpa using k1) ?_⟩
    refine ⟨_, rfl, d, pgK zs, rfl, (sg2 _ _ hd6), fun o => comp_dictT (d := d) (o := o) (kvs := pgK zs) (fun j ys σ2 G2 => Same (upd G4 d (.frz o (.dT (pgK zs)))) G2 ∧ (∃ v, σ2 = [v, some (.ref d), some (.int (lo + (i : Int)))]) ∧ Two (FrE G2) ys (((zs.take j).filter fun z => decide (z.1.2 = lo + (i : Int))).map fun z => fr z.1)) (by unfold pgK; rw [List.length_map]; exact small1000 (by omega)) ⟨Same.refl _, ⟨_, rfl⟩, trivial⟩ (by rintro j ys σ2 G2 ⟨_, _, t⟩; rw [t.length, List.length_map]; exact Nat.le_trans (List.length_filter_le _ _) (by rw [List.length_take]; omega)) (by rintro j ys σ2 G2 _ ⟨s2, _⟩; exact s2 _ _ upd_same) ?_ ?_⟩
    · rintro j ky vv b ys σ2 G2 hk hb ⟨s2, ⟨v, rfl⟩, t⟩
      obtain ⟨z, hz, rfl, rfl⟩ := pgK_at hk
      have mz := List.mem_of_getElem? hz
      have dg := DGet.ft (s2 _ _ upd_same) hb
      rw [pgK_val ndz mz] at dg
      refine ⟨_, rfl, b, _, _, _, rfl, rfl, SqT.of hb, ix1 _ _, _, rfl, rfl, _, rfl, ?_⟩
      rw [take_filt hz]
      have ng : z.2 ≠ d := ne_of ((fun c o e => sg2 c o e) _ _ (fz6 z mz)) ((sg2 _ _ hd6)) (by intro q; cases q)
      by_cases c0 : z.1.2 = lo + (i : Int)
      · rw [if_pos (decide_eq_true c0), List.map_append]
        exact iteP (by simpa using c0) ⟨_, rfl, _, rfl, d, _, rfl, dg, s2, ⟨_, rfl⟩, Two.append t ⟨⟨z.2, rfl, s2 _ _ (by rw [upd_ne ng]; exact (fun c o e => sg2 c o e) _ _ (fz6 z mz))⟩, trivial⟩⟩
      · rw [if_neg (by simpa using c0), List.append_nil]
        exact iteN (by simpa using c0) ⟨s2, ⟨_, rfl⟩, t⟩
    rintro ys σ2 G2 ⟨s2, _, t⟩ l hl
    rw [show (pgK zs).length = zs.length from List.length_map .., List.take_length] at t
    have ef : ((zs.filter fun z => decide (z.1.2 = lo + (i : Int))).map fun z => fr z.1) = (lv.filter fun e => decide (e.2 = lo + (i : Int))).map fr := by rw [← ez]; exact filt_two (r := fun e => decide (e.2 = lo + (i : Int)))
    generalize ((zs.filter fun z => decide (z.1.2 = lo + (i : Int))).map fun z => fr z.1) = fs at t ef
    have lf : fs.length ≤ 200 := by
      rw [ef, List.length_map]
      exact Nat.le_trans (List.length_filter_le _ _) (by rw [← ez, List.length_map]; exact lzs)
    have bf : ∀ u ∈ fs, Bits 310 u.1 ∧ Bits 310 u.2 := fun u hu => by
      rw [ef] at hu
      obtain ⟨e, he, rfl⟩ := List.mem_map.mp hu
      exact bts e (List.mem_filter.mp he).1
    obtain ⟨bt1, bt2⟩ := sumF_bits bf fs.length
    rw [List.take_length] at bt1 bt2
    refine ⟨l, ys, fs, rfl, upd_same, t.mono (by rintro _ _ ⟨q', e1, e2⟩; exact ⟨q', e1, same_new hl _ _ _ e2⟩), lf, bf, fun G3 r3 s3 hr3 => ?_⟩
    refine ⟨r3, _, rfl, SqT.of hr3, rfl, _, _, rfl, _, _, rfl, rfl, .inr ⟨d, o, .dT (pgK zs), s3 _ _ (same_new hl _ _ _ (s2 _ _ upd_same)), (fun o' u' e => by cases hd0.symm.trans e), (fun _ z => by cases z), (fun _ z => by cases z), ?_⟩⟩
    have sn2 : Same G4 (upd G3 d (.dT (pgK zs))) := thaw2 (sg2 _ _ hd6) ((s2.trans (same_new hl _)).trans s3)
    clear s3 hr3 s2 t hl
    generalize upd G3 d (.dT (pgK zs)) = G5 at sn2 ⊢
    have k2 := ck2 (lo + (i : Int)) y0 y1 fs ef
    have sg3 := sg2.trans sn2
    refine ⟨_, rfl, _, rfl, _, rfl, _, _, rfl, rfl, l2, _, _, _, rfl, rfl, SqL.of (sg3 _ _ hl2), (by
      rw [show lo + (i : Int) - lo = ((i : Nat) : Int) by omega]
      exact atI_nat (by rw [List.getElem?_eq_getElem il2, ec2])), ?_⟩
    refine ⟨_, rfl, _, rfl, c2, _, _, _, rfl, rfl, SqT.of (sg3 _ _ hc2), ix1 _ _, _, _, rfl, rfl, ⟨_, 2000, bt1, sh2.2.2.2.1.bits, by omega, by decide⟩, _, rfl, f, _, _, _, rfl, rfl, SqT.of (sg3 _ _ hf6), ix1 _ _, _, _, rfl, rfl, ⟨_, 92, bt1.mul sh2.2.2.2.1.bits, bits_of (by omega) P1.2 (Nat.le_refl _), by omega, by decide⟩, ?_⟩
    refine ⟨_, rfl, c2, _, _, _, rfl, rfl, SqT.of (sg3 _ _ hc2), ix0 _ _, _, rfl, f, _, _, _, rfl, rfl, SqT.of (sg3 _ _ hf6), ix0 _ _, _, _, rfl, rfl, ⟨2000, 92, sh2.2.2.1.bits, bits_of (by omega) Q1.2 (Nat.le_refl _), by decide, by decide⟩, _, rfl, _, _, rfl, rfl, ⟨_, _, sh2.2.2.1.bits.mul (bits_of (by omega) Q1.2 (Nat.le_refl _)), bt2, by decide, by omega⟩, _, _, rfl, rfl, _, rfl, iteN (by simpa using k2) ?_⟩
    exact ⟨_, _, _, _, _, _, rfl, sg3⟩
  rintro σ G ⟨v12, v13, v14, v17, v18, v19, rfl, sg⟩
  have hdG := sg _ _ hd6
  have hsh : ((pgK zs).map fun e => hashT P w e.1).Nodup := by
    have e : ((pgK zs).map fun e => hashT P w e.1) = (zs.map (·.1)).map fun e => hashT P w [.inl e.1, .inl e.2] := by unfold pgK; rw [List.map_map, List.map_map]; rfl
    rw [e]
    refine hash_nd P w ndz fun e he => ?_
    obtain ⟨z, hz, rfl⟩ := List.mem_map.mp he
    obtain ⟨⟨y0, y1⟩, _⟩ := fok z hz
    obtain ⟨z0, z1⟩ := snd z hz
    omega
  refine ⟨_, rfl, d, pgK zs, rfl, .inl hdG, hsh, fun kp hkp => ?_⟩
  have ndk : kp ≠ d := (ne_of_none hdG hkp).symm
  have s7 := same_new hkp (.dT (pgK zs))
  have hk7 : upd G kp (.dT (pgK zs)) kp = some (.dT (pgK zs)) := upd_same
  generalize upd G kp (.dT (pgK zs)) = H7 at s7 hk7 ⊢
  have s17 := (s16.trans sg).trans s7
  refine ⟨_, rfl, d, _, rfl, s7 _ _ hdG, ?_⟩
  have s8 : Same H (upd H7 d (.dT [])) := same_upd (s1.trans s17) hd0
  have kd : ∀ {c : Addr} {o : HO}, H7 c = some o → c ≠ d → upd H7 d (.dT []) c = some o := fun e ne => by rw [upd_ne ne]; exact e
  have hk8 := kd hk7 ndk
  have hf8 := kd (s17 _ _ hf) (ne_of hf hd1 (by intro q; cases q))
  have fz8 : ∀ z ∈ zs, TupAt (upd H7 d (.dT [])) z.2 (fr z.1).1 (fr z.1).2 := fun z hz => kd (s17 _ _ (fz z hz)) (ne_of (fz z hz) hd1 (by intro q; cases q))
  generalize upd H7 d (.dT []) = H8 at s8 hk8 hf8 fz8 ⊢
  clear kd
  refine ⟨_, rfl, _, rfl, _, rfl, _, rfl, _, rfl, _, rfl, st, p, q, lo, hi, n, m, s, rfl, s8 _ _ hst, R, fun H9 r2 f2 d2 s9 hd2 hr2 hf2 hp2 => ?_⟩
  obtain ⟨zs2, hd29, ez2, fz2⟩ := hp2
  rw [elv] at ez2
  refine ⟨_, rfl, _, rfl, by show 2 ≤ sizeLine; decide, fun t2 ht2 => ?_⟩
  have sN := same_new ht2 (.tup [.ref f, .ref kp])
  refine ⟨r2, t2, f2, f, d2, kp, _, _, pgK zs2, pgK zs, rfl, rfl, sN _ _ hr2, upd_same, sN _ _ hf2, sN _ _ (s9 _ _ hf8), sN _ _ hd29, sN _ _ (s9 _ _ hk8), (ne_of_none hk8 hd2).symm, ?_, fun j a b ha hb => ?_, k _ ((s8.trans s9).trans sN)⟩
  · unfold pgK
    rw [List.map_map, List.map_map]
    have e := congrArg (List.map fun e : Int × Int => ([Sum.inl e.1, Sum.inl e.2] : List Key)) (ez2.trans ez.symm)
    rw [List.map_map, List.map_map] at e
    exact e
  · obtain ⟨ak, av⟩ := a
    obtain ⟨bk, bv⟩ := b
    obtain ⟨za, ha', rfl, rfl⟩ := pgK_at ha
    obtain ⟨zb, hb', rfl, rfl⟩ := pgK_at hb
    have e : za.1 = zb.1 := by
      have := congrArg (fun l => l[j]?) (ez2.trans ez.symm)
      simp only [List.getElem?_map, ha', hb', Option.map_some, Option.some.injEq] at this
      exact this
    refine ⟨za.2, zb.2, (fr zb.1).1, (fr zb.1).2, rfl, rfl, sN _ _ ?_, sN _ _ (s9 _ _ (fz8 zb (List.mem_of_getElem? hb')))⟩
    have := fz2 za (List.mem_of_getElem? ha')
    rw [efr, e] at this
    exact this
end
end Mine
namespace Mine
open PySem L2
section
variable {P : Program} {w : World} {K : PySem.W.Frag} {mg : Str → Option Value} {base : Heap}
theorem ok_Oth (C_Right : Cl P w K mg base 8 spRight33 "_law_right") (C_Stp : Cl P w K mg base 2 spStp33 "_law_steepness") (C_Draw : Cl P w K mg base 1 spDraw "_law_draw") : Okk P w K mg base "_law_other" "_law_other" sOth 9 ["_law_deal_here", "_law_way", "_law_asked"] spOth33 := by
  refine okk ["_law_deal_here", "_law_way", "_law_asked", "_law_steepness_here", "_law_low", "_law_high", "_law_n", "_law_end", "_law_s"] fun H Q nd hr h => ?_
  obtain ⟨d, l, a, st, w, p, q, lo, hi, n, e, s, rfl, D, w0, w5, ha, hst, A, k⟩ := h
  refine ⟨_, (pss_cons (ps_asg (pv 2) (pg_lst rfl (pgs_cons (pgn 3 nd) (pgs_cons (pgn 4 nd) (pgs_cons (pgn 5 nd) (pgs_cons (pgn 6 nd) (pgs_cons (pgn 7 nd) (pgs_cons (pgn 8 nd) pgs_nil))))))))
    (pss_cons (ps_post (ps_if (ptc op_eq (pv 1) pe_int) (pss_one (psz 3 nd (pcl C_Stp hr (pa_cons (pv 0) (pa1 pe_int))))) pss_nil))
    (pss_cons (ps_post (ps_if (ptc op_eq (pv 1) pe_int) (pss_one (psz 5 nd (pe_op op_add (pv 5) (pcl C_Draw hr (pa_cons (pv 0) (pa1 (pe_op op_sub pe_int (pv 5)))))))) pss_nil))
    (pss_cons (ps_post (ps_if (ptc op_eq (pv 1) pe_int) (pss_one (psz 4 nd (pcl C_Draw hr (pa_cons (pv 0) (pa1 (pe_op op_add (pv 4) pe_int)))))) pss_nil))
    (pss_cons (ps_post (ps_if (ptc op_eq (pv 1) pe_int) (pss_one (ps_par (i := 6) (j := 7) rfl nd rfl rfl (by decide) rfl rfl (pa_cons (pv 7) (pa1 (pv 6))) rfl)) pss_nil))
    (pss_cons (ps_post (ps_if (ptc op_eq (pv 1) pe_int) (pss_one (psz 8 nd (pe_op op_sub (pcl C_Draw hr (pa_cons (pv 0) (pa1 pe_int))) pe_int))) pss_nil))
    (pss_one (ps_ret (pcl C_Right hr (pa_cons (pv 3) (pa_cons (pv 4) (pa_cons (pv 5) (pa_cons (pv 6) (pa_cons (pe_op op_sub (pv 7) (pv 6)) (pa1 (pv 8)))))))))))))))), ?_⟩
  refine ⟨_, rfl, a, _, rfl, SqL.of ha, rfl, _, _, rfl, _, _, rfl, _, _, rfl, _, _, rfl, _, _, rfl, _, _, rfl, rfl, ?_⟩
  have o : Out d l H H := Out.of (Same.refl _)
  refine ⟨fun σ' G => ∃ (st : Addr) (p q lo hi n e s : Int), σ' = [some (.ref d), some (.int w), some (.ref a), some (.ref st), some (.int lo), some (.int hi), some (.int n), some (.int e), some (.int s)] ∧ Deal G d l ∧ Out d l H G ∧ TupAt G st p q ∧ AskO p q lo hi n e s, ?_, ?_⟩
  · refine ⟨_, rfl, rfl, _, rfl, ite2 (fun _ => ?_) (fun _ => ⟨_, _, _, _, _, _, _, _, rfl, D, o, hst, A⟩)⟩
    obtain ⟨a1, a2, ⟨a3, a4, a5, a6, a7⟩, a8, a9, a10, a11⟩ := id A
    exact ⟨_, rfl, d, l, rfl, D, fun r p' q' H2 hr hs hc D2 o2 => ⟨r, p', q', lo, hi, n, e, s, rfl, D2, o.trans o2, hr, ⟨hs, hc, A.ok, a8, a9, a10, a11⟩⟩⟩
  rintro σ' G' ⟨st, p, q, lo, hi, n, e, s, rfl, D, o, hst, A⟩
  refine ⟨fun σ' G => ∃ (st : Addr) (p q lo hi n e s : Int), σ' = [some (.ref d), some (.int w), some (.ref a), some (.ref st), some (.int lo), some (.int hi), some (.int n), some (.int e), some (.int s)] ∧ Deal G d l ∧ Out d l H G ∧ TupAt G st p q ∧ AskO p q lo hi n e s, ?_, ?_⟩
  · refine ⟨_, rfl, rfl, _, rfl, ite2 (fun _ => ?_) (fun _ => ⟨_, _, _, _, _, _, _, _, rfl, D, o, hst, A⟩)⟩
    obtain ⟨a1, a2, ⟨a3, a4, a5, a6, a7⟩, a8, a9, a10, a11⟩ := id A
    exact ⟨_, rfl, _, rfl, _, rfl, _, _, rfl, rfl, d, l, 10 - hi, rfl, D, by omega, by omega, fun x H2 x0 x1 D2 o2 => ⟨_, _, rfl, rfl, st, p, q, lo, hi + x, n, e, s, rfl, D2, o.trans o2, TS.out D o2 _ _ hst, ⟨a1, a2, ⟨by omega, by omega, by omega, by omega, by omega⟩, by omega, by omega, by omega, by omega⟩⟩⟩
  rintro σ' G' ⟨st, p, q, lo, hi, n, e, s, rfl, D, o, hst, A⟩
  refine ⟨fun σ' G => ∃ (st : Addr) (p q lo hi n e s : Int), σ' = [some (.ref d), some (.int w), some (.ref a), some (.ref st), some (.int lo), some (.int hi), some (.int n), some (.int e), some (.int s)] ∧ Deal G d l ∧ Out d l H G ∧ TupAt G st p q ∧ AskO p q lo hi n e s, ?_, ?_⟩
  · refine ⟨_, rfl, rfl, _, rfl, ite2 (fun _ => ?_) (fun _ => ⟨_, _, _, _, _, _, _, _, rfl, D, o, hst, A⟩)⟩
    obtain ⟨a1, a2, ⟨a3, a4, a5, a6, a7⟩, a8, a9, a10, a11⟩ := id A
    exact ⟨_, rfl, _, rfl, _, _, rfl, rfl, d, l, lo + 1, rfl, D, by omega, by omega, fun x H2 x0 x1 D2 o2 => ⟨st, p, q, x, hi, n, e, s, rfl, D2, o.trans o2, TS.out D o2 _ _ hst, ⟨a1, a2, ⟨by omega, by omega, by omega, by omega, by omega⟩, by omega, by omega, by omega, by omega⟩⟩⟩
  rintro σ' G' ⟨st, p, q, lo, hi, n, e, s, rfl, D, o, hst, A⟩
  refine ⟨fun σ' G => ∃ (st : Addr) (p q lo hi n e s : Int), σ' = [some (.ref d), some (.int w), some (.ref a), some (.ref st), some (.int lo), some (.int hi), some (.int n), some (.int e), some (.int s)] ∧ Deal G d l ∧ Out d l H G ∧ TupAt G st p q ∧ AskO p q lo hi n e s, ?_, ?_⟩
  · refine ⟨_, rfl, rfl, _, rfl, ite2 (fun _ => ?_) (fun _ => ⟨_, _, _, _, _, _, _, _, rfl, D, o, hst, A⟩)⟩
    obtain ⟨a1, a2, ⟨a3, a4, a5, a6, a7⟩, a8, a9, a10, a11⟩ := id A
    exact ⟨_, rfl, _, rfl, _, _, rfl, st, p, q, lo, hi, e, n, s, rfl, D, o, hst, ⟨a1, a2, A.ok, a10, a11, a8, a9⟩⟩
  rintro σ' G' ⟨st, p, q, lo, hi, n, e, s, rfl, D, o, hst, A⟩
  refine ⟨fun σ' G => ∃ (st : Addr) (p q lo hi n e s : Int), σ' = [some (.ref d), some (.int w), some (.ref a), some (.ref st), some (.int lo), some (.int hi), some (.int n), some (.int e), some (.int s)] ∧ Deal G d l ∧ Out d l H G ∧ TupAt G st p q ∧ AskO p q lo hi n e s, ?_, ?_⟩
  · refine ⟨_, rfl, rfl, _, rfl, ite2 (fun _ => ?_) (fun _ => ⟨_, _, _, _, _, _, _, _, rfl, D, o, hst, A⟩)⟩
    obtain ⟨a1, a2, ⟨a3, a4, a5, a6, a7⟩, a8, a9, a10, a11⟩ := id A
    exact ⟨_, rfl, d, l, 41, rfl, D, by decide, by decide, fun x H2 x0 x1 D2 o2 => ⟨_, _, rfl, rfl, st, p, q, lo, hi, n, e, x - 20, rfl, D2, o.trans o2, TS.out D o2 _ _ hst, ⟨a1, a2, ⟨by omega, by omega, by omega, by omega, by omega⟩, by omega, by omega, by omega, by omega⟩⟩⟩
  rintro σ' G' ⟨st, p, q, lo, hi, n, e, s, rfl, D, o, hst, A⟩
  exact ⟨_, rfl, _, rfl, _, rfl, _, rfl, _, rfl, _, rfl, _, _, rfl, rfl, _, rfl, st, p, q, lo, hi, n, e - n, s, rfl, hst, A.rg, fun H' s' => k H' (D.same s') (o.trans (Out.of s'))⟩
end
end Mine
namespace Mine
open PySem L2
section
variable {P : Program} {w : World} {K : PySem.W.Frag} {mg : Str → Option Value} {base : Heap}
theorem ok_Law (C_Deal : Cl P w K mg base 1 (spDeal K) "_law_deal") (C_Stp : Cl P w K mg base 2 spStp33 "_law_steepness") (C_Draw : Cl P w K mg base 1 spDraw "_law_draw") (C_Right : Cl P w K mg base 8 spRight33 "_law_right") (C_Oth : Cl P w K mg base 9 spOth33 "_law_other") : Okk P w K mg base "law" "law" sLaw 10 ["_law_script"] (spLaw K) := by
  refine okk ["_law_script", "_law_deal_here", "_law_steepness_here", "_law_low", "_law_high", "_law_n", "_law_end", "_law_s", "_law_way"] fun H Q nd hr h => ?_
  obtain ⟨sa, ns, rfl, hS, hlen, k⟩ := h
  refine ⟨_, (psq 1 nd (pcl C_Deal hr (pa_cons (pv 0) (pa1 pe_int)))
    (psq 2 nd (pcl C_Stp hr (pa_cons (pv 1) (pa1 pe_int)))
    (psq 3 nd (pcl C_Draw hr (pa_cons (pv 1) (pa1 pe_int)))
    (psq 4 nd (pe_op op_add (pv 3) (pcl C_Draw hr (pa_cons (pv 1) (pa1 (pe_op op_sub pe_int (pv 3))))))
    (psq 5 nd (pe_op op_add (pv 3) (pcl C_Draw hr (pa_cons (pv 1) (pa1 (pe_op op_add (pe_op op_sub (pv 4) (pv 3)) pe_int)))))
    (psq 6 nd (pe_op op_add (pv 3) (pcl C_Draw hr (pa_cons (pv 1) (pa1 (pe_op op_add (pe_op op_sub (pv 4) (pv 3)) pe_int)))))
    (psq 7 nd (pe_op op_sub (pcl C_Draw hr (pa_cons (pv 1) (pa1 pe_int))) pe_int)
    (pss_cons (ps_post (ps_if (ptc op_eq (pcl C_Draw hr (pa_cons (pv 1) (pa1 pe_int))) pe_int) (pss_one (psz 7 nd (pe_op op_sub (pe_op op_add (pe_op op_sub (pv 6) (pv 5)) (pcl C_Draw hr (pa_cons (pv 1) (pa1 pe_int)))) pe_int))) pss_nil))
    (psq 8 nd (pcl C_Draw hr (pa_cons (pv 1) (pa1 pe_int)))
    (pss_cons (ps_if (pt_not (pt_val (pcl C_Right hr (pa_cons (pv 2) (pa_cons (pv 3) (pa_cons (pv 4) (pa_cons (pv 5) (pa_cons (pe_op op_sub (pv 6) (pv 5)) (pa1 (pv 7)))))))))) (pss_one (ps_ret pe_bl)) pss_nil)
    (pss_cons (ps_if (pt_not (pt_val (pcl C_Oth hr (pa_cons (pv 1) (pa_cons (pv 8) (pa1 (pe_lst (pa_cons (pv 2) (pa_cons (pv 3) (pa_cons (pv 4) (pa_cons (pv 5) (pa_cons (pv 6) (pa1 (pv 7)))))))))))))) (pss_one (ps_ret pe_bl)) pss_nil)
    (pss_one (ps_ret (pcl C_Right hr (pa_cons (pv 2) (pa_cons (pv 3) (pa_cons (pv 4) (pa_cons (pv 5) (pa_cons (pe_op op_sub (pv 6) (pv 5)) (pa1 (pv 7))))))))))))))))))))), ?_⟩
  refine ⟨_, rfl, sa, ns, 0, rfl, hS, hlen, by decide, by decide, fun d l H1 nd' nl D1 s1 => ?_⟩
  refine ⟨_, rfl, d, l, rfl, D1, fun st p q H2 hst hs hc D2 o2 => ?_⟩
  refine ⟨_, rfl, d, l, 10, rfl, D2, by decide, by decide, fun lo H3 a0 a1 D3 o3 => ?_⟩
  refine ⟨_, rfl, _, rfl, _, rfl, _, _, rfl, rfl, d, l, 10 - lo, rfl, D3, by omega, by omega, fun x H4 b0 b1 D4 o4 => ⟨_, _, rfl, rfl, ?_⟩⟩
  refine ⟨_, rfl, _, rfl, _, rfl, _, rfl, _, _, rfl, rfl, _, _, rfl, rfl, d, l, lo + x - lo + 1, rfl, D4, by omega, by omega, fun y H5 c0 c1 D5 o5 => ⟨_, _, rfl, rfl, ?_⟩⟩
  refine ⟨_, rfl, _, rfl, _, rfl, _, rfl, _, _, rfl, rfl, _, _, rfl, rfl, d, l, lo + x - lo + 1, rfl, D5, by omega, by omega, fun z H6 e0 e1 D6 o6 => ⟨_, _, rfl, rfl, ?_⟩⟩
  refine ⟨_, rfl, d, l, 41, rfl, D6, by decide, by decide, fun s H7 f0 f1 D7 o7 => ⟨_, _, rfl, rfl, ?_⟩⟩
  have hst7 := TS.out D6 o7 _ _ (TS.out D5 o6 _ _ (TS.out D4 o5 _ _ (TS.out D3 o4 _ _ (TS.out D2 o3 _ _ hst))))
  refine ⟨fun σ' G => ∃ s : Int, σ' = [some (.ref sa), some (.ref d), some (.ref st), some (.int lo), some (.int (lo + x)), some (.int (lo + y)), some (.int (lo + z)), some (.int s), none] ∧ Deal G d l ∧ TupAt G st p q ∧ -20 ≤ s ∧ s ≤ 20, ?_, ?_⟩
  · refine ⟨_, rfl, d, l, 2, rfl, D7, by decide, by decide, fun g H8 g0 g1 D8 o8 => ⟨rfl, _, rfl, ite2 (fun _ => ?_) (fun _ => ⟨s - 20, rfl, D8, TS.out D7 o8 _ _ hst7, by omega, by omega⟩)⟩⟩
    exact ⟨_, rfl, _, rfl, _, _, rfl, rfl, _, rfl, d, l, 5, rfl, D8, by decide, by decide, fun j H9 j0 j1 D9 o9 => ⟨_, _, rfl, rfl, _, _, rfl, rfl, _, rfl, D9, TS.out D8 o9 _ _ (TS.out D7 o8 _ _ hst7), by omega, by omega⟩⟩
  rintro σ' G ⟨s', rfl, DG, hstG, s0, s9⟩
  refine ⟨_, rfl, d, l, 5, rfl, DG, by decide, by decide, fun w H8 w0 w5 D8 o8 => ?_⟩
  have hst8 := TS.out DG o8 _ _ hstG
  have A : AskO p q lo (lo + x) (lo + y) (lo + z) s' := ⟨hs, hc, ⟨by omega, by omega, by omega, s0, s9⟩, by omega, by omega, by omega, by omega⟩
  refine ⟨_, rfl, _, rfl, _, rfl, _, rfl, _, rfl, _, rfl, _, _, rfl, rfl, _, rfl, st, p, q, lo, lo + x, lo + y, lo + z - (lo + y), s', rfl, hst8, A.rg, fun H9 s9' => ⟨_, rfl, iteN (by decide) ?_⟩⟩
  refine ⟨_, rfl, _, rfl, _, rfl, _, rfl, _, rfl, _, rfl, _, rfl, _, rfl, by show 6 ≤ sizeLine; decide, fun a ha => ?_⟩
  have D9 := (D8.same s9').same (same_new ha (.lst [.ref st, .int lo, .int (lo + x), .int (lo + y), .int (lo + z), .int s']))
  have st9 := same_new ha (.lst [.ref st, .int lo, .int (lo + x), .int (lo + y), .int (lo + z), .int s']) _ _ (s9' _ _ hst8)
  refine ⟨d, l, a, st, w, p, q, lo, lo + x, lo + y, lo + z, s', rfl, D9, w0, w5, upd_same, st9, A, fun H10 D10 o10 => ⟨_, rfl, iteN (by decide) ?_⟩⟩
  exact ⟨_, rfl, _, rfl, _, rfl, _, rfl, _, rfl, _, rfl, _, _, rfl, rfl, _, rfl, st, p, q, lo, lo + x, lo + y, lo + z - (lo + y), s', rfl, TS.out D9 o10 _ _ st9, A.rg, fun H' _ => k H'⟩
end
end Mine
namespace Mine
open PySem L2
theorem all_mk {l : PySem.W.OpenLaw} {w : World} {K : PySem.W.Frag} {h : Heap} {mg : Str → Option Value} {fa : Addr} (X : K.In h) (G : h.Ns mainGlobals mg) (hfa : mg "law" = some (.ref fa))
    {cL iI : Addr}
    (t1 : TopAt K "common_divisor" sGcd)
    (t2 : TopAt K "lowest" sLow)
    (t3 : TopAt K "times" sTimes)
    (t4 : TopAt K "minus" sMinus)
    (t5 : TopAt K "power" sPow)
    (t6 : TopAt K "grouped" sGpd)
    (t8 : TopAt K "common_bottom" sCom)
    (t9 : TopAt K "amount_of" sAmt)
    (t10 : TopAt K "amounts_of" sAms)
    (t11 : TopAt K "next_places" sNxt)
    (t12 : TopAt K "has_room" sHas)
    (t13 : TopAt K "searched" sSrc)
    (t14 : TopAt K "answers_back" sBck)
    (t15 : TopAt K "lay_along" sAln)
    (t16 : TopAt K "lay_all" sLal)
    (t17 : TopAt K "paired" sPai)
    (t18 : TopAt K "cut" sCut)
    (t19 : TopAt K "share_of" sShare)
    (t20 : TopAt K "far_tail" sFar)
    (t21 : TopAt K "tail_of" sTail)
    (t22 : TopAt K "ladder_table" sLad)
    (t23 : TopAt K "partners_of" sPart)
    (t24 : TopAt K "may_pair" sMay)
    (t25 : TopAt K "rungs_paired" sRun)
    (t26 : TopAt K "_law_deal" sDeal)
    (t27 : TopAt K "_law_draw" sDraw)
    (t28 : TopAt K "_law_lowest" sLLow)
    (t29 : TopAt K "_law_steepness" sStp)
    (t30 : TopAt K "_law_may" sLMay)
    (t31 : TopAt K "_law_power" sLPow)
    (t32 : TopAt K "_law_ladder" sLLad)
    (t33 : TopAt K "_law_is_fraction" sIsF)
    (t34 : TopAt K "_law_sum" sLSum)
    (t35 : TopAt K "_law_right" sRight)
    (t36 : TopAt K "_law_other" sOth)
    (t37 : TopAt K "law" sLaw)
    (z_range : PySem.W.nsIn K mainGlobals "range" = some none)
    (z_dict : PySem.W.nsIn K mainGlobals "dict" = some none)
    (z_len : PySem.W.nsIn K mainGlobals "len" = some none)
    (z_min : PySem.W.nsIn K mainGlobals "min" = some none)
    (z_sum : PySem.W.nsIn K mainGlobals "sum" = some none)
    (z_tuple : PySem.W.nsIn K mainGlobals "tuple" = some none)
    (z_list : PySem.W.nsIn K mainGlobals "list" = some none)
    (z_max : PySem.W.nsIn K mainGlobals "max" = some none)
    (z_abs : PySem.W.nsIn K mainGlobals "abs" = some none)
    (z_reversed : PySem.W.nsIn K mainGlobals "reversed" = some none)
    (z_int : PySem.W.nsIn K mainGlobals "int" = some none)
    (z_all : PySem.W.nsIn K mainGlobals "all" = some none)
    (z_isinstance : PySem.W.nsIn K mainGlobals "isinstance" = some none)
    (z_bool : PySem.W.nsIn K mainGlobals "bool" = some none)
    (qS : PySem.W.nsIn K mainGlobals "Laying" = some (some (.ref cL)))
    (S1 : PySem.W.plainGet K cL Str.empty = true)
    (S2 : PySem.W.hasDictIn K cL = true)
    (S3 : PySem.W.plainOver K cL = true)
    (S4 : PySem.W.findIn K (.ref cL) "__setattr__" = some (some (.builtin "object.__setattr__")))
    (S5 : PySem.W.findIn K (.ref cL) "one_left" = some none)
    (S6 : PySem.W.findIn K (.ref cL) "other_left" = some none)
    (S7 : PySem.W.findIn K (.ref cL) "partners" = some none)
    (S8 : PySem.W.findIn K (.ref cL) "givers" = some none)
    (S9 : PySem.W.findIn K (.ref cL) "laid" = some none)
    (M1 : PySem.W.makesIn K cL = true)
    (M2 : PySem.W.findIn K (.ref cL) "__init__" = some (some (.ref iI)))
    (M3 : PySem.W.isFn K (.ref iI) = true)
    (M4 : PySem.W.keepIn K (.ref cL) = true)
    (dI : DefAt K "__init__" "Laying.__init__" sIni iI) :
    ∃ fd : FuncData, (∀ (s : Shared) (v : Value), BindsTo s fd ⟨[v], []⟩ [("_law_script", v)]) ∧ ∀ base : Heap, K.In base → base.Ns mainGlobals mg → FnOk l.prog w K mg base CX0 10 fa fd ["_law_script"] (spLaw K) := by
  obtain ⟨_, la, oc, od, kV, dc, pm, an, cd, ct, sl, lk, lc, lp⟩ := t37
  cases hfa.symm.trans (PySem.W.mg_of X G la)
  refine ⟨PySem.W.fnOf "law" "law" (defArgs sLaw) (defBody sLaw) (defScope sLaw) .none kV dc pm an cd ct, fun s v => .of_eq rfl, fun base _ _ => ?_⟩
  have Z : Zx l.prog w K mg base := .of X G
  have y_range := Z.no _ z_range
  have y_dict := Z.no _ z_dict
  have y_len := Z.no _ z_len
  have y_min := Z.no _ z_min
  have y_sum := Z.no _ z_sum
  have y_tuple := Z.no _ z_tuple
  have y_list := Z.no _ z_list
  have y_max := Z.no _ z_max
  have y_abs := Z.no _ z_abs
  have y_reversed := Z.no _ z_reversed
  have y_int := Z.no _ z_int
  have y_all := Z.no _ z_all
  have y_isinstance := Z.no _ z_isinstance
  have y_bool := Z.no _ z_bool
  have mL := Z.ns _ _ qS
  have T : LyT K cL := ⟨⟨S1, S2, S3, S4⟩, S5, S6, S7, S8, S9⟩
  have M : Mk K cL iI := ⟨M1, M2, M3, M4⟩
  have C1 := Z.c2 t1 (ok_Gcd)
  have C2 := Z.c2 t2 (ok_Low C1)
  have C3 := Z.c2 t3 (ok_Times C2)
  have C4 := Z.c2 t4 (ok_Minus C2)
  have C5 := Z.c2 t5 (ok_Pow y_range)
  have C6 := Z.c1 t6 (ok_Gpd)
  obtain ⟨_, FI⟩ := dI.fn
  have GI := ok_Ini (P := l.prog) (w := w) (mg := mg) (base := base) T C6 y_dict FI
  have bI := FI.b4 (p1 := "self") (p2 := "one_left") (p3 := "other_left") (p4 := "pairs") fun _ _ _ _ _ _ _ _ _ _ => rfl
  have MK : MkL l.prog w K mg base 3 (spIniL K cL) cL "Laying" := ⟨_, _, _, M, GI, bI, mL⟩
  have C8 := Z.c1 t8 (ok_Com C1)
  have C9 := Z.c2 t9 (ok_Amt)
  have C10 := Z.c2 t10 (ok_Ams C9 y_dict)
  have C11 := Z.c2 t11 (ok_Nxt T)
  have C12 := Z.c2 t12 (ok_Has T)
  have C13 := Z.c1 t13 (ok_Src T C11 C12 y_dict y_len)
  have C14 := Z.c2 t14 (ok_Bck)
  have C15 := Z.c2 t15 (ok_Aln T y_min y_range y_len)
  have C16 := Z.c1 t16 (ok_Lal T C13 C15 C14)
  have C17 := Z.c5 t17 (ok_Pai T MK C8 C16 C10 C9 C3 C2 y_sum y_tuple y_dict y_list)
  have C18 := Z.c3 t18 (ok_Cut y_min y_max)
  have C19 := Z.c2 t19 (ok_Share C3 C5 y_abs)
  have C20 := Z.c2 t20 (ok_Far C3 C5)
  have C21 := Z.c2 t21 (ok_Tail C4 C20)
  have C22 := Z.c4 t22 (ok_Lad C21 C19 y_tuple y_range)
  have C23 := Z.c4 t23 (ok_Part C18 y_list y_range)
  have C24 := Z.c3 t24 (ok_May C23 y_range y_tuple)
  have C25 := Z.c6 t25 (ok_Run C5 C22 C17 C24 y_abs)
  have C26 := Z.c2 t26 fun F => ok_deal F y_max y_reversed y_list
  have C27 := Z.c2 t27 fun F => ok_draw F y_len
  have C28 := Z.c2 t28 (ok_LLow)
  have C29 := Z.c2 t29 (ok_Stp C28 C27)
  have C30 := Z.c5 t30 (ok_LMay y_max y_min)
  have C31 := Z.c2 t31 (ok_LPow y_range)
  have C32 := Z.c4 t32 (ok_LLad C31 y_range y_abs y_int)
  have C33 := Z.c1 t33 (ok_IsF C28 y_all y_isinstance y_tuple y_len y_int y_bool)
  have C34 := Z.c1 t34 (ok_LSum)
  have C35 := Z.c6 t35 (ok_Right C25 C32 C34 C33 C31 C30 y_abs y_range y_dict y_isinstance y_tuple y_len)
  have C36 := Z.c3 t36 (ok_Oth C35 C29 C27)
  exact ok_Law C26 C29 C27 C35 C36 (fun_mk lk lc lp)
end Mine
namespace Mine
open PySem L2
theorem walk {l : PySem.W.OpenLaw} {q : Program} {loose : List Str} {XP : (Str → Option Value) → Heap → Prop} {YP : World → Heap → Prop} {d : DefRec} {K : Params → PySem.W.Frag} (hn : l.most = some 63) (hdf : d.params.defaults = [])
    (hY : ∀ (w : World) (h : Heap), YP w h → (K w.params).In h)
    (F : ∀ (w : World) (mg : Str → Option Value) (fa : Addr) (h : Heap), (K w.params).In h → h.Ns mainGlobals mg → mg d.name = some (.ref fa) →
      ∃ fd : FuncData, (∀ (s : Shared) (u : Value), BindsTo s fd ⟨[u], []⟩ [("_law_script", u)]) ∧ ∀ base : Heap, (K w.params).In base → base.Ns mainGlobals mg → FnOk l.prog w (K w.params) mg base CX0 10 fa fd ["_law_script"] (spLaw (K w.params))) :
    PySem.W.WalkO q loose XP YP l.row.toRowW d [] (fun f vs => PySem.call f vs) :=
  L2.walk_of (n := 63) (k := 10) (x := "_law_script") (CX := fun _ => CX0) (sp := fun w => spLaw (K w.params)) hn (by decide) hdf ⟨rfl, by decide, by decide, rfl⟩ hY F (fun _ _ a ns hl _ hS => ⟨a, ns, rfl, hS, hl, fun _ => rfl⟩) fun _ _ _ _ _ z => z
end Mine
open PySem PySem.W PyProof.Rows
theorem PySem.W.Fast.tw10013051548868026688 : True := trivial
theorem PySem.W.Fast.tw10165573468808810504 : True := trivial
theorem PySem.W.Fast.tw10188841780947059396 : True := trivial
theorem PySem.W.Fast.tw10213603388654671930 : True := trivial
theorem PySem.W.Fast.tw10219297448699038062 : True := trivial
theorem PySem.W.Fast.tw10247459639379434173 : True := trivial
theorem PySem.W.Fast.tw10280392709642015872 : True := trivial
theorem PySem.W.Fast.tw10405997199169770249 : True := trivial
theorem PySem.W.Fast.tw10526086654474373917 : True := trivial
theorem PySem.W.Fast.tw1067393878987660791 : True := trivial
theorem PySem.W.Fast.tw10784871607331119407 : True := trivial
theorem PySem.W.Fast.tw10810599524903393400 : True := trivial
theorem PySem.W.Fast.tw10843095667941610834 : True := trivial
theorem PySem.W.Fast.tw10908788039990086021 : True := trivial
theorem PySem.W.Fast.tw10938942606991750262 : True := trivial
theorem PySem.W.Fast.tw10987937340692580230 : True := trivial
theorem PySem.W.Fast.tw11057325474739377565 : True := trivial
theorem PySem.W.Fast.tw11061136672162177558 : True := trivial
theorem PySem.W.Fast.tw11118481467889779853 : True := trivial
theorem PySem.W.Fast.tw11121826125774167127 : True := trivial
theorem PySem.W.Fast.tw11127642699055046277 : True := trivial
theorem PySem.W.Fast.tw11161919170374353625 : True := trivial
theorem PySem.W.Fast.tw11184463174286333971 : True := trivial
theorem PySem.W.Fast.tw11206955174402702078 : True := trivial
theorem PySem.W.Fast.tw11242554455933827773 : True := trivial
theorem PySem.W.Fast.tw11290388889200217204 : True := trivial
theorem PySem.W.Fast.tw11293022649690464247 : True := trivial
theorem PySem.W.Fast.tw11307897609613395488 : True := trivial
theorem PySem.W.Fast.tw11346713307423724674 : True := trivial
theorem PySem.W.Fast.tw11464507783427084640 : True := trivial
theorem PySem.W.Fast.tw11471689455262275390 : True := trivial
theorem PySem.W.Fast.tw11556204613075590286 : True := trivial
theorem PySem.W.Fast.tw11702321990965014851 : True := trivial
theorem PySem.W.Fast.tw11768683954410652329 : True := trivial
theorem PySem.W.Fast.tw11812171185102020342 : True := trivial
theorem PySem.W.Fast.tw11854966492512928847 : True := trivial
theorem PySem.W.Fast.tw12040395594036894004 : True := trivial
theorem PySem.W.Fast.tw12150749720970286322 : True := trivial
theorem PySem.W.Fast.tw12178806921666066747 : True := trivial
theorem PySem.W.Fast.tw12302264689639477434 : True := trivial
theorem PySem.W.Fast.tw12402354229848897168 : True := trivial
theorem PySem.W.Fast.tw12415450559221111074 : True := trivial
theorem PySem.W.Fast.tw1249253030908565473 : True := trivial
theorem PySem.W.Fast.tw12493234738748775854 : True := trivial
theorem PySem.W.Fast.tw12659128285673975844 : True := trivial
theorem PySem.W.Fast.tw12708789514764247112 : True := trivial
theorem PySem.W.Fast.tw12724554603978324826 : True := trivial
theorem PySem.W.Fast.tw12731715747159335165 : True := trivial
theorem PySem.W.Fast.tw1279595101217074633 : True := trivial
theorem PySem.W.Fast.tw12797228840529035642 : True := trivial
theorem PySem.W.Fast.tw12801638672217648159 : True := trivial
theorem PySem.W.Fast.tw12811731159531683761 : True := trivial
theorem PySem.W.Fast.tw12986901697516334011 : True := trivial
theorem PySem.W.Fast.tw13077187475698680408 : True := trivial
theorem PySem.W.Fast.tw13083421501448301677 : True := trivial
theorem PySem.W.Fast.tw13166267148174681195 : True := trivial
theorem PySem.W.Fast.tw1326372776341035629 : True := trivial
theorem PySem.W.Fast.tw13434373871039151552 : True := trivial
theorem PySem.W.Fast.tw13445042023240176173 : True := trivial
theorem PySem.W.Fast.tw13483680364934340548 : True := trivial
theorem PySem.W.Fast.tw13509675681874812385 : True := trivial
theorem PySem.W.Fast.tw13598072777187464359 : True := trivial
theorem PySem.W.Fast.tw13631646199277853698 : True := trivial
theorem PySem.W.Fast.tw13642786464556587637 : True := trivial
theorem PySem.W.Fast.tw1370530064772317745 : True := trivial
theorem PySem.W.Fast.tw13800917924911895224 : True := trivial
theorem PySem.W.Fast.tw13881941380787339187 : True := trivial
theorem PySem.W.Fast.tw13932437042153403957 : True := trivial
theorem PySem.W.Fast.tw13942387713556257335 : True := trivial
theorem PySem.W.Fast.tw13978810451545330269 : True := trivial
theorem PySem.W.Fast.tw14052263945409210818 : True := trivial
theorem PySem.W.Fast.tw14163319828820985571 : True := trivial
theorem PySem.W.Fast.tw14230192368702754097 : True := trivial
theorem PySem.W.Fast.tw14268919448850724560 : True := trivial
theorem PySem.W.Fast.tw14299852048737789553 : True := trivial
theorem PySem.W.Fast.tw14322122613044823386 : True := trivial
theorem PySem.W.Fast.tw14462312820175341055 : True := trivial
theorem PySem.W.Fast.tw14638560754822870233 : True := trivial
theorem PySem.W.Fast.tw14762409649431976771 : True := trivial
theorem PySem.W.Fast.tw1477635808602983108 : True := trivial
theorem PySem.W.Fast.tw14779076310189869236 : True := trivial
theorem PySem.W.Fast.tw14814350161967756634 : True := trivial
theorem PySem.W.Fast.tw14909914332268841220 : True := trivial
theorem PySem.W.Fast.tw15098744972800780224 : True := trivial
theorem PySem.W.Fast.tw15107581031992135945 : True := trivial
theorem PySem.W.Fast.tw15133402649508042501 : True := trivial
theorem PySem.W.Fast.tw15221920980765796701 : True := trivial
theorem PySem.W.Fast.tw15456907672161627290 : True := trivial
theorem PySem.W.Fast.tw15589958627862454963 : True := trivial
theorem PySem.W.Fast.tw15622729939781401301 : True := trivial
theorem PySem.W.Fast.tw15655150379240585658 : True := trivial
theorem PySem.W.Fast.tw15708021116650978802 : True := trivial
theorem PySem.W.Fast.tw15750941300261149026 : True := trivial
theorem PySem.W.Fast.tw1579006763702191379 : True := trivial
theorem PySem.W.Fast.tw1586075219390812946 : True := trivial
theorem PySem.W.Fast.tw159077645963975327 : True := trivial
theorem PySem.W.Fast.tw15966019978422730734 : True := trivial
theorem PySem.W.Fast.tw16002903725153882580 : True := trivial
theorem PySem.W.Fast.tw16029607983117243682 : True := trivial
theorem PySem.W.Fast.tw1610973942427733595 : True := trivial
theorem PySem.W.Fast.tw16524240914783552886 : True := trivial
theorem PySem.W.Fast.tw16688129962752553573 : True := trivial
theorem PySem.W.Fast.tw16833688324198308343 : True := trivial
theorem PySem.W.Fast.tw16946090128071139630 : True := trivial
theorem PySem.W.Fast.tw16963792287364036032 : True := trivial
theorem PySem.W.Fast.tw16972437844943969263 : True := trivial
theorem PySem.W.Fast.tw16974656543390974673 : True := trivial
theorem PySem.W.Fast.tw17049717219084300097 : True := trivial
theorem PySem.W.Fast.tw1706447733052330227 : True := trivial
theorem PySem.W.Fast.tw1709036128983681054 : True := trivial
theorem PySem.W.Fast.tw17118994859726726957 : True := trivial
theorem PySem.W.Fast.tw17151372736009250727 : True := trivial
theorem PySem.W.Fast.tw17166967377421437250 : True := trivial
theorem PySem.W.Fast.tw17290541187933134887 : True := trivial
theorem PySem.W.Fast.tw17426253364429541345 : True := trivial
theorem PySem.W.Fast.tw17538172081064534428 : True := trivial
theorem PySem.W.Fast.tw17611364770079542453 : True := trivial
theorem PySem.W.Fast.tw17655823524367271313 : True := trivial
theorem PySem.W.Fast.tw17854935303974760224 : True := trivial
theorem PySem.W.Fast.tw17923733255549856482 : True := trivial
theorem PySem.W.Fast.tw1803843335282091749 : True := trivial
theorem PySem.W.Fast.tw18160530651275630887 : True := trivial
theorem PySem.W.Fast.tw18217492251426341569 : True := trivial
theorem PySem.W.Fast.tw18320023586407322425 : True := trivial
theorem PySem.W.Fast.tw18394651494999738442 : True := trivial
theorem PySem.W.Fast.tw18410369007608404521 : True := trivial
theorem PySem.W.Fast.tw1843089223170686337 : True := trivial
theorem PySem.W.Fast.tw1847444576902649090 : True := trivial
theorem PySem.W.Fast.tw1864920309848068705 : True := trivial
theorem PySem.W.Fast.tw2003140620345205287 : True := trivial
theorem PySem.W.Fast.tw2139909657567368501 : True := trivial
theorem PySem.W.Fast.tw2278242192148483864 : True := trivial
theorem PySem.W.Fast.tw2328588400508776668 : True := trivial
theorem PySem.W.Fast.tw2355119007753709794 : True := trivial
theorem PySem.W.Fast.tw2358876779962591276 : True := trivial
theorem PySem.W.Fast.tw2377504141472023921 : True := trivial
theorem PySem.W.Fast.tw2536471988446785307 : True := trivial
theorem PySem.W.Fast.tw2578735543327952940 : True := trivial
theorem PySem.W.Fast.tw25804794556801513 : True := trivial
theorem PySem.W.Fast.tw2630141390197545399 : True := trivial
theorem PySem.W.Fast.tw2901887137569907688 : True := trivial
theorem PySem.W.Fast.tw2956899304443391693 : True := trivial
theorem PySem.W.Fast.tw3034145187114493742 : True := trivial
theorem PySem.W.Fast.tw3118190493231423246 : True := trivial
theorem PySem.W.Fast.tw3190102910243332151 : True := trivial
theorem PySem.W.Fast.tw3294229109002146615 : True := trivial
theorem PySem.W.Fast.tw3372577438860046761 : True := trivial
theorem PySem.W.Fast.tw3374286293864430357 : True := trivial
theorem PySem.W.Fast.tw3447307790257536883 : True := trivial
theorem PySem.W.Fast.tw3481629171368562375 : True := trivial
theorem PySem.W.Fast.tw3593005259829683846 : True := trivial
theorem PySem.W.Fast.tw3598622979716887035 : True := trivial
theorem PySem.W.Fast.tw3605176455421067729 : True := trivial
theorem PySem.W.Fast.tw3645860999317734324 : True := trivial
theorem PySem.W.Fast.tw3745431908174757536 : True := trivial
theorem PySem.W.Fast.tw3887864060907231378 : True := trivial
theorem PySem.W.Fast.tw4022233721539262974 : True := trivial
theorem PySem.W.Fast.tw4177575232203286528 : True := trivial
theorem PySem.W.Fast.tw4231976794664995059 : True := trivial
theorem PySem.W.Fast.tw4299055128266296473 : True := trivial
theorem PySem.W.Fast.tw4444823100000946790 : True := trivial
theorem PySem.W.Fast.tw4451768612752444931 : True := trivial
theorem PySem.W.Fast.tw4543018341178740446 : True := trivial
theorem PySem.W.Fast.tw4595330508384817076 : True := trivial
theorem PySem.W.Fast.tw4783129040038652984 : True := trivial
theorem PySem.W.Fast.tw4860023973133389336 : True := trivial
theorem PySem.W.Fast.tw4996765585353793424 : True := trivial
theorem PySem.W.Fast.tw5098131649598692750 : True := trivial
theorem PySem.W.Fast.tw5293114820038685824 : True := trivial
theorem PySem.W.Fast.tw5321274807527098809 : True := trivial
theorem PySem.W.Fast.tw5363478353175248870 : True := trivial
theorem PySem.W.Fast.tw545815734990510228 : True := trivial
theorem PySem.W.Fast.tw5530761677375165502 : True := trivial
theorem PySem.W.Fast.tw5587113306273036269 : True := trivial
theorem PySem.W.Fast.tw5727271181559786523 : True := trivial
theorem PySem.W.Fast.tw5799481203453962141 : True := trivial
theorem PySem.W.Fast.tw5848311223534392684 : True := trivial
theorem PySem.W.Fast.tw5854478763522710583 : True := trivial
theorem PySem.W.Fast.tw594366204577707817 : True := trivial
theorem PySem.W.Fast.tw5977811401795780110 : True := trivial
theorem PySem.W.Fast.tw5989521846195485603 : True := trivial
theorem PySem.W.Fast.tw5993441863351360769 : True := trivial
theorem PySem.W.Fast.tw6177363334854739602 : True := trivial
theorem PySem.W.Fast.tw6311321354309319825 : True := trivial
theorem PySem.W.Fast.tw6514726311885892256 : True := trivial
theorem PySem.W.Fast.tw6618352485591018319 : True := trivial
theorem PySem.W.Fast.tw6668421523722124843 : True := trivial
theorem PySem.W.Fast.tw668837898783459725 : True := trivial
theorem PySem.W.Fast.tw6861263817077739683 : True := trivial
theorem PySem.W.Fast.tw6888934930377180864 : True := trivial
theorem PySem.W.Fast.tw7050247497082794619 : True := trivial
theorem PySem.W.Fast.tw7055049093267642772 : True := trivial
theorem PySem.W.Fast.tw709006771040439956 : True := trivial
theorem PySem.W.Fast.tw7196512307512529267 : True := trivial
theorem PySem.W.Fast.tw7248047216144933345 : True := trivial
theorem PySem.W.Fast.tw7251382541333134145 : True := trivial
theorem PySem.W.Fast.tw7267781464834527919 : True := trivial
theorem PySem.W.Fast.tw7316160318893172776 : True := trivial
theorem PySem.W.Fast.tw7377477622276759294 : True := trivial
theorem PySem.W.Fast.tw7382384417604550427 : True := trivial
theorem PySem.W.Fast.tw7608082310530092590 : True := trivial
theorem PySem.W.Fast.tw7610730360163199391 : True := trivial
theorem PySem.W.Fast.tw7705850097783362847 : True := trivial
theorem PySem.W.Fast.tw7750794629709268350 : True := trivial
theorem PySem.W.Fast.tw777083860301730176 : True := trivial
theorem PySem.W.Fast.tw7795932868402863648 : True := trivial
theorem PySem.W.Fast.tw7828175708257506776 : True := trivial
theorem PySem.W.Fast.tw7847868409860971244 : True := trivial
theorem PySem.W.Fast.tw7981276993978123242 : True := trivial
theorem PySem.W.Fast.tw7983649586678814911 : True := trivial
theorem PySem.W.Fast.tw8026355234311136203 : True := trivial
theorem PySem.W.Fast.tw806360869146713372 : True := trivial
theorem PySem.W.Fast.tw8093646602596104933 : True := trivial
theorem PySem.W.Fast.tw8186308970329741230 : True := trivial
theorem PySem.W.Fast.tw8305582679173239924 : True := trivial
theorem PySem.W.Fast.tw8312448576772943982 : True := trivial
theorem PySem.W.Fast.tw852789090042219793 : True := trivial
theorem PySem.W.Fast.tw8585237557826459611 : True := trivial
theorem PySem.W.Fast.tw866807842852081033 : True := trivial
theorem PySem.W.Fast.tw8681155098878789459 : True := trivial
theorem PySem.W.Fast.tw8710286321564941120 : True := trivial
theorem PySem.W.Fast.tw8908580060770667948 : True := trivial
theorem PySem.W.Fast.tw9080147045949126633 : True := trivial
theorem PySem.W.Fast.tw9091343109531388017 : True := trivial
theorem PySem.W.Fast.tw9095063827063317634 : True := trivial
theorem PySem.W.Fast.tw9264247161210559131 : True := trivial
theorem PySem.W.Fast.tw9344745880136008966 : True := trivial
theorem PySem.W.Fast.tw9498939774856436159 : True := trivial
theorem PySem.W.Fast.tw9535894494158206997 : True := trivial
theorem PySem.W.Fast.tw958558595311695321 : True := trivial
theorem PySem.W.Fast.tw9589245614145426206 : True := trivial
theorem PySem.W.Fast.tw9604801397024622863 : True := trivial
theorem PySem.W.Fast.tw974693515510866711 : True := trivial
theorem PySem.W.Fast.tw986119605973678230 : True := trivial
theorem PySem.W.Fast.tw9903804183973496501 : True := trivial
theorem PySem.W.Fast.tw9965737369294400000 : True := trivial
set_option maxRecDepth 100000 in
set_option maxHeartbeats 0 in
theorem PySem.Challenge.cw_pairedthrows_k33_whole_rungs_paired_holds : PySem.Challenge.rw_pairedthrows_k33_whole_rungs_paired.Holds := by
  w_on; o_law; k_head; (case hw => w_witness2)
  k_fill
  refine Mine.walk (l := PySem.Challenge.rw_pairedthrows_k33_whole_rungs_paired) rfl rfl (fun w h Y => PySem.W.kIn_of Y) ?F
  case F =>
    intro w mg fa h KX G hmg
    refine' Mine.all_mk KX G hmg ?a0 ?a1 ?a2 ?a3 ?a4 ?a5 ?a6 ?a7 ?a8 ?a9 ?a10 ?a11 ?a12 ?a13 ?a14 ?a15 ?a16 ?a17 ?a18 ?a19 ?a20 ?a21 ?a22 ?a23 ?a24 ?a25 ?a26 ?a27 ?a28 ?a29 ?a30 ?a31 ?a32 ?a33 ?a34 ?a35 ?a36 ?a37 ?a38 ?a39 ?a40 ?a41 ?a42 ?a43 ?a44 ?a45 ?a46 ?a47 ?a48 ?a49 ?a50 ?a51 ?a52 ?a53 ?a54 ?a55 ?a56 ?a57 ?a58 ?a59 ?a60 ?a61 ?a62 ?a63 ?a64
    case a36 => k_is
    case a37 => k_is
    case a38 => k_is
    case a39 => k_is
    case a40 => k_is
    case a41 => k_is
    case a42 => k_is
    case a43 => k_is
    case a44 => k_is
    case a45 => k_is
    case a46 => k_is
    case a47 => k_is
    case a48 => k_is
    case a49 => k_is
    case a50 => k_is
    case a51 => k_is
    case a52 => k_is
    case a53 => k_is
    case a54 => k_is
    case a55 => k_is
    case a56 => k_is
    case a57 => k_is
    case a58 => k_is
    case a59 => k_is
    case a60 => k_is
    case a61 => k_is
    case a62 => k_is
    case a63 => k_is
    case a64 => apply L2.DefAt.of <;> k_is
    case a0 => apply L2.TopAt.of <;> k_is
    case a1 => apply L2.TopAt.of <;> k_is
    case a2 => apply L2.TopAt.of <;> k_is
    case a3 => apply L2.TopAt.of <;> k_is
    case a4 => apply L2.TopAt.of <;> k_is
    case a5 => apply L2.TopAt.of <;> k_is
    case a6 => apply L2.TopAt.of <;> k_is
    case a7 => apply L2.TopAt.of <;> k_is
    case a8 => apply L2.TopAt.of <;> k_is
    case a9 => apply L2.TopAt.of <;> k_is
    case a10 => apply L2.TopAt.of <;> k_is
    case a11 => apply L2.TopAt.of <;> k_is
    case a12 => apply L2.TopAt.of <;> k_is
    case a13 => apply L2.TopAt.of <;> k_is
    case a14 => apply L2.TopAt.of <;> k_is
    case a15 => apply L2.TopAt.of <;> k_is
    case a16 => apply L2.TopAt.of <;> k_is
    case a17 => apply L2.TopAt.of <;> k_is
    case a18 => apply L2.TopAt.of <;> k_is
    case a19 => apply L2.TopAt.of <;> k_is
    case a20 => apply L2.TopAt.of <;> k_is
    case a21 => apply L2.TopAt.of <;> k_is
    case a22 => apply L2.TopAt.of <;> k_is
    case a23 => apply L2.TopAt.of <;> k_is
    case a24 => apply L2.TopAt.of <;> k_is
    case a25 => apply L2.TopAt.of <;> k_is
    case a26 => apply L2.TopAt.of <;> k_is
    case a27 => apply L2.TopAt.of <;> k_is
    case a28 => apply L2.TopAt.of <;> k_is
    case a29 => apply L2.TopAt.of <;> k_is
    case a30 => apply L2.TopAt.of <;> k_is
    case a31 => apply L2.TopAt.of <;> k_is
    case a32 => apply L2.TopAt.of <;> k_is
    case a33 => apply L2.TopAt.of <;> k_is
    case a34 => apply L2.TopAt.of <;> k_is
    case a35 => apply L2.TopAt.of <;> k_is
